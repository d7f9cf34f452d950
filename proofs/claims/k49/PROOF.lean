import PyProof.Rows.All
import Wide.All
import OpenK.AllK
import Wide.FinOn
import HandS.Base
import HandS.Call
import HandS.List
import HandS.Comp
import HandS.Ends
import HandS.Text
import HandS.Words
import HandS.StrMore
import HandS.ForMost
import HandS.Codes
import HandS.Replace
import HandS.FStrTup
import PyProof.StrBlock2
import HandS.Exc
import HandS.ExcInit
import HandS.ExcIs
import HandS.ExcField
import KE.KExcIs
import HandS.IsInst
import HandS.Zip
import HandS.Nested
import HandS.OwnEq
import HandS.More
import HandS.Star
import HandS.ClsMeth
import HandS.Property
import HandS.Iter
import HandS.Zip0
import KE.GoesMore
import KE.GoesEnum
import HandS.NoneIn
import PyProof.StrLawsRepr
import HandS.EndTab
import HandS.ListEq
import KE.LtData
import PySem.Challenge.RW_anchoredits_k49_windows_that_stand_once
import KE.KTryMore
import KE.KRevSl
import HandS.Style
import HandS.TupAny
import HandS.DictComp
import HandS.RevRange
import HandS.Conv
import PyProof.EnumMake
import KE.DataMinKey
import HandS.SortKw
import KE.DataMinMax
import HandS.Flt
import HandS.FltList
import KE.OsRunLaw
set_option Elab.async false
set_option maxRecDepth 100000
set_option linter.all false
namespace Vk
open PySem PySem.Spec PyProof.Rows L2
/-! ## defs that may show values: no guard is under way -/
structure FnG (P : Program) (w : World) (K : PySem.W.Frag) (mg : Str → Option Value) (base : Heap) (CX : CXT) (k : Nat) (f : Addr) (fd : FuncData) (ps : List Str) (sp : Sp) : Prop where
  len : ∀ vs H Q E, sp vs H Q E → vs.length = ps.length
  run : ∀ (A : Around) (outer : List Env) (s : Shared) (H : Hp) (args : Args) (us : List Value) (vs : List V) (Q : VK) (E : XK), A.guards = some [] → Room k A → Env0 P w K mg base A outer s H → BindsTo s fd args (ps.zip us) → Vals vs us → sp vs H Q E →
    codeAny (model P w) A (.call (.ref f) args) (CR CX outer P w H s Q E) s
theorem FnG.of {P : Program} {w : World} {K : PySem.W.Frag} {mg : Str → Option Value} {base : Heap} {CX : CXT} {k : Nat} {f : Addr} {fd : FuncData} {ps : List Str} {sp : Sp} (F : FnOk P w K mg base CX k f fd ps sp) : FnG P w K mg base CX k f fd ps sp :=
  ⟨F.len, fun A outer s H args us vs Q E _ => F.run A outer s H args us vs Q E⟩
section
variable {P : Program} {w : World} {K : PySem.W.Frag} {mg : Str → Option Value} {base : Heap}
theorem okG {CX : CXT} {x qual : Str} {st : Stmt} {f : Addr} {fd : FuncData} {N ps : List Str} {k : Nat} {sp : Sp} (F : Fun K x qual st f fd) (S : FnScope N ps (defScope st)) (hlen : ∀ vs H Q E, sp vs H Q E → vs.length = ps.length)
    (hbody : ∀ (cdv : Value) (A : Around) (outer : List Env) (s : Shared) (H : Hp) (vs : List V) (Q : VK) (E : XK), A.guards = some [] → Room k (A.deeper (envOfC qual (defScope st) s.heap.objs.size f cdv)) → sp vs H Q E →
      ∃ t, PSs (cxOf CX P w K mg base N qual (defScope st) f cdv A outer s H E) (defBody st) t ∧ t { nx := fun _ H' => Q .non H', rt := Q } (start N vs) H) : FnG P w K mg base CX (k + 1) f fd ps sp := by
  obtain ⟨oc, od, kV, doc, pm, an, cdv, ct, osl, rfl, lk, hcd⟩ := F.ex
  refine ⟨hlen, fun A outer s H args us vs Q E hg hr e0 hb r hsp => ?_⟩
  have hvl := hlen _ _ _ _ hsp
  have KX := e0.mod.kin.keeps (fun b o e => (e0.bs b o e).1 : ∀ b o, base.get? b = some o → s.heap.get? b = some o)
  have noLim := e0.mod.nolimit.keeps (fun b o e => (e0.bs b o e).1 : ∀ b o, base.get? b = some o → s.heap.get? b = some o)
  have kinds : ∀ y ∈ ps.zip us, (defScope st).names.lookup y.1 = some .local ∨ ((defScope st).names.lookup y.1 = some .cell ∧ ((cellsFrom (s.heap.objs.size + 1) (defScope st).names []).lookup y.1).isSome = true) := by
    rintro ⟨n, v⟩ hy
    have hy1 := (List.of_mem_zip hy).1
    cases S.par n hy1 with
    | inl q => exact Or.inl q
    | inr q => exact Or.inr (And.intro q (PySem.W.cellsFrom_some _ _ _ (Or.inl q)))
  refine codeAny_call_function hr.depth (KX f _ lk) rfl S.co S.gen rfl (PySem.W.codeRec_of KX hcd) (hb _ _ _ _ (wpAny_newFunctionEnv_cells S.kind kinds fun env he s1 x => ?_))
  cases he
  refine And.intro (noLim.keeps x.toInCall.keep) (codeAny_func ?_)
  obtain ⟨t, ht, hq⟩ := hbody cdv A outer s H vs Q E hg (hr.deeper _) hsp
  have I0 := inv_start (CX := CX) (E := E) S hr.hd e0 hvl r x
  refine wpAny_mono (ht.run [] s1 (start N vs) H _ I0 hq) (fun fl s2 hs => ?_) (fun e s2 hs => hs)
  have close : ∀ {σ2 : L2.St} {H2 : Hp} {v : V} {u : Value}, Inv (cxOf CX P w K mg base N qual (defScope st) f cdv A outer s H E) [] σ2 H2 s2 → RelV v u → Q v H2 → CE outer P w H s Q u s2 := by
    intro σ2 H2 v u J rv q
    exact ⟨v, H2, And.intro J.os (And.intro J.bare (And.intro J.base (And.intro J.hok (And.intro rv q))))⟩
  match fl, hs with
  | .ret u, ⟨v, σ2, H2, J, rv, q⟩ => exact close J rv q
  | .next, ⟨σ2, H2, J, q⟩ => exact close (v := V.non) (u := Value.none) J rfl q
  | .brk, ⟨_, _, _, q⟩ => exact q.elim
  | .cont, ⟨_, _, _, q⟩ => exact q.elim
end
section
variable {P : Program} {w : World} {K : PySem.W.Frag} {mg : Str → Option Value} {base : Heap}
theorem okG0 {x qual : Str} {st : Stmt} {f : Addr} {fd : FuncData} {N ps : List Str} {k : Nat} {sp : Sp} (F : Fun K x qual st f fd) (S : FnScope N ps (defScope st)) (hlen : ∀ vs H Q E, sp vs H Q E → vs.length = ps.length)
    (hbody : ∀ (cdv : Value) (A : Around) (outer : List Env) (s : Shared) (H : Hp) (vs : List V) (Q : VK) (E : XK), A.guards = some [] → Room k (A.deeper (envOfC qual (defScope st) s.heap.objs.size f cdv)) → sp vs H Q E →
      ∃ t, PSs (cxOf CX0 P w K mg base N qual (defScope st) f cdv A outer s H E).nox (defBody st) t ∧ t { nx := fun _ H' => Q .non H', rt := Q } (start N vs) H) : FnG P w K mg base CX0 (k + 1) f fd ps sp :=
  okG F S hlen fun cdv A outer s H vs Q E hg hr hsp => match hbody cdv A outer s H vs Q E hg hr hsp with | ⟨t, h, q⟩ => ⟨t, h.nox, q⟩
end
/-- a def of the module by its name -/
structure CalG (P : Program) (w : World) (K : PySem.W.Frag) (mg : Str → Option Value) (base : Heap) (CX : CXT) (k : Nat) (x : Str) (sp : Sp) : Prop where
  ex : ∃ (f : Addr) (fd : FuncData) (ps : List Str), FnG P w K mg base CX k f fd ps sp ∧ mg x = some (.ref f) ∧ PySem.W.keepIn K (.ref f) = true ∧ Binds K fd ps []
section
variable {X : Cx} {CX : CXT} {j k : Nat} {f : Addr} {fd : FuncData} {ps : List Str} {sp : Sp} {E : XK} {x : Str} {p pos : Pos} {e : Expr} {es : List Expr} {t : TA}
theorem run_fnG {pins : List (Addr × Obj)} {σ : L2.St} {H : Hp} {s : Shared} {Q : VK} {us : List Value} {vs : List V} (F : FnG X.prog X.w X.K X.mg X.base CX k f fd ps sp) (hg : X.A.guards = some []) (hr : Room k X.A) (hb : Binds X.K fd ps []) (hx : Passes CX X E)
    (I : Inv X pins σ H s) (r : Vals vs us) (h : sp vs H Q E) : wpAny (model X.prog X.w) X.A (call (.ref f) us) (EP X pins σ Q) X.xe s := by
  have hl : us.length = ps.length := r.length.symm.trans (F.len _ _ _ _ h)
  have b := hb s us I.kIn ((congrArg List.length (List.append_nil us)).trans hl)
  rw [List.append_nil] at b
  refine wpAny_call (codeAny_mono (F.run X.A X.stack s H ⟨us, []⟩ us vs Q E hg hr I.env0 b r h) (fun res s2 hq => ?_))
  match res, hq with
  | .error e, hq => exact hx pins σ H s e s2 I hq
  | .ok (.ret u), hq => exact I.after hq
  | .ok .next, hq => exact hq.elim
  | .ok .brk, hq => exact hq.elim
  | .ok .cont, hq => exact hq.elim
theorem pe_cG (c : CalG X.prog X.w X.K X.mg X.base CX k x sp) (hg : X.A.guards = some []) (hr : Room j X.A) (hk : k ≤ j) (hx : Passes CX X E) (ha : PA X (e :: es) t) (gl : Gl X x := by rfl)
    (hdb : (x == ("__debug__" : Str)) = false := by decide) (he : starEach (e :: es) X.env = (false, eval e X.env) :: starEach es X.env := by rfl) (hpl : (backTo pos (starEach es X.env)).any (·.1) = false := by rfl) :
    PE X (.Call (.Name x p) (e :: es) [] pos) (tCall sp [] E t) := by
  obtain ⟨f, fd, ps, F, hm, kp, hb⟩ := c.ex
  refine ⟨fun pins s σ H Q I h => wpAny_Call_Name_kw (ld_glob I gl hm (PySem.W.callWith_K (h₀ := X.base) I.ok.mod.kin kp (thn (ha.run pos pins s σ H _ I h) fun us s1 hh => ?_) he hpl) hdb)⟩
  obtain ⟨vs, H1, I1, r, q⟩ := hh
  rw [List.append_nil] at q
  exact ⟨I1.kIn, run_fnG F hg (hr.mono hk) hb hx I1 r q⟩
theorem pe_cG0 (c : CalG X.prog X.w X.K X.mg X.base CX k x sp) (hg : X.A.guards = some []) (hr : Room j X.A) (hk : k ≤ j) (hx : Passes CX X E) (gl : Gl X x := by rfl)
    (hdb : (x == ("__debug__" : Str)) = false := by decide) : PE X (.Call (.Name x p) [] [] pos) (tCall sp [] E tNil) := by
  obtain ⟨f, fd, ps, F, hm, kp, hb⟩ := c.ex
  exact ⟨fun pins s σ H Q I h => wpAny_Call_Name_kw (ld_glob I gl hm (PySem.W.callWith_K0 I.kIn kp (run_fnG (us := []) F hg (hr.mono hk) hb hx I .nil h)) hdb)⟩
end
/-! ## repr -/
section
variable {X : Cx}
theorem call_reprD (hg : X.A.guards = some []) (hu : X.A.units + 64 < cLine) : CallR X (.builtin "repr") (fun xs H Q => ∃ x d, xs = [x] ∧ Dp X.K H x d ∧ d.showable = true ∧ d.hasDict = false ∧ d.depth ≤ 60 ∧ d.shown.length ≤ sizeLine ∧ Q (.str d.shown) H) := by
  intro pins s σ H xs us Q I r h
  obtain ⟨x, d, rfl, hd, hs, hn, hdp, hz, q⟩ := h
  cases r with
  | cons r1 r2 =>
  cases r2
  obtain ⟨as, rd⟩ := Dp.reads I d x _ hd r1
  cases hd with
  | non => cases r1; exact PySem.P.repr_of_none ⟨V.str _, H, I.tok _, ⟨_, rfl⟩, q⟩
  | bl b => cases r1; exact PySem.P.repr_of_bool ⟨V.str _, H, I.tok _, ⟨_, rfl⟩, q⟩
  | int i =>
    obtain ⟨t, rfl⟩ := r1
    exact PySem.P.repr_of_int (of_decide_eq_true hs) ⟨V.str _, H, I.tok _, ⟨_, rfl⟩, q⟩
  | str z =>
    obtain ⟨t, rfl⟩ := r1
    exact PySem.P.repr_of_str ⟨V.str _, H, I.tok _, ⟨_, rfl⟩, q⟩ hz
  | lst h1 h2 =>
    cases r1
    exact repr_of_reads' rd hs (PyData.noDict_hsm hn) hg (by omega) (fun _ _ e => e) (fun h' u tk hk => ⟨V.str _, H, I.kept hk, ⟨u, rfl⟩, q⟩) hz
  | tup h1 h2 =>
    cases r1
    exact repr_of_reads' rd hs (PyData.noDict_hsm hn) hg (by omega) (fun _ _ e => e) (fun h' u tk hk => ⟨V.str _, H, I.kept hk, ⟨u, rfl⟩, q⟩) hz
end
/-! ## the law's own call -/
theorem lawG {P : Program} {w : World} {K : PySem.W.Frag} {mg mb : Str → Option Value} {CX : CXT} {k : Nat} {fa a : Addr} {fd : FuncData} {x : Str} {sp : Sp} {s1 : Shared} {vs : List Value} {ns : List Int}
    (KX : K.In s1.heap) (gns : s1.heap.Ns mainGlobals mg) (bns : s1.heap.Ns builtinsNs mb) (bbt : ∀ x : Str, x ≠ "__name__" → mb x = bootBuiltins x) (nolim : s1.heap.NoLimit) (gens0 : s1.gens = #[])
    (scr : s1.heap.get? a = some { cls := .type "list", data := .seq vs.toArray }) (hints : IntsAre vs ns) (short : ns.length ≤ sizeLine) (room : Room k callerA)
    (F : ∀ base : Heap, K.In base → base.Ns mainGlobals mg → FnG P w K mg base CX k fa fd [x] sp) (bind1 : ∀ (s : Shared) (u : Value), BindsTo s fd ⟨[u], []⟩ [(x, u)])
    (prom : ∀ H : Hp, Only H → SqL K H a (ns.map V.int) → sp [.ref a] H (fun v _ => v = .bl true) fun _ _ _ => False)
    (noX : ∀ H e s2, CX [] H s1 (fun _ _ _ => False) e s2 → False) :
    codeAny (model P w) callerA (.call (.ref fa) ⟨[.ref a], []⟩) (fun r s2 => r = .ok (.ret (.bool true)) ∧ OldK s1.heap s2.heap ∧ s2.os = s1.os ∧ AllBare s2.gens) s1 := by
  have rel := vals_ints hints
  have main : ∀ H : Hp, Only H → SqL K H a (ns.map V.int) → HOk P w H s1.heap → (∀ b u, H b = some u → b = a) → (∀ u, H a = some u → K.lookup a = none) →
      codeAny (model P w) callerA (.call (.ref fa) ⟨[.ref a], []⟩) (fun r s2 => r = .ok (.ret (.bool true)) ∧ OldK s1.heap s2.heap ∧ s2.os = s1.os ∧ AllBare s2.gens) s1 := by
    intro H only seq ok at1 un1
    have dictFree : ∀ {b : Addr} {o : Obj} {es : Array DictEntry} {ep : Nat}, s1.heap.get? b = some o → o.data = .dict es ep → H b = none := by
      intro b o es ep e d
      match q : H b with
      | none => rfl
      | some u =>
        have eb := at1 b u q
        subst eb
        rw [scr] at e
        cases e
        exact nomatch (show Data.seq vs.toArray _ = Data.dict es ep from d)
    have nsAt : ∀ {b : Addr} {m : Str → Option Value}, s1.heap.Ns b m → (hidT s1.heap H).Ns b m := by
      rintro b m ⟨o, es, ep, e, d, r⟩
      exact ⟨o, es, ep, hidT_get e (dictFree e d), d, r⟩
    have inK : K.In (hidT s1.heap H) := by
      intro b o e
      refine hidT_get (KX b o e) ?_
      match q : H b with
      | none => rfl
      | some u =>
        have eb := at1 b u q
        subst eb
        exact nomatch (un1 u q).symm.trans e
    have limAt : (hidT s1.heap H).NoLimit := match nolim with | ⟨mc, h1, h2⟩ => ⟨mc, nsAt h1, h2⟩
    have mod1 : Mod K mg (hidT s1.heap H) := ⟨inK, nsAt gns, ⟨mb, nsAt bns, bbt⟩, limAt⟩
    have start0 : Env0 P w K mg (hidT s1.heap H) callerA [] s1 H := ⟨rfl, mod1, fun b o => of_hidT, Nat.le_of_eq (hidT_size s1.heap H), trivial, (fun b hb => absurd hb (List.not_mem_nil (a := b))), ok, AllBare.of_eq gens0⟩
    refine codeAny_mono ((F _ inK (nsAt gns)).run callerA [] s1 H ⟨[.ref a], []⟩ [.ref a] [.ref a] _ _ rfl room start0 (bind1 s1 (.ref a)) (.cons rfl .nil) (prom H only seq)) ?_
    intro res s2 h
    match res, h with
    | .error e, h => exact (noX H e s2 h).elim
    | .ok .next, h => exact h.elim
    | .ok .brk, h => exact h.elim
    | .ok .cont, h => exact h.elim
    | .ok (.ret u), ⟨v, H2, os, bare, un, ok2, r2, (hv : v = .bl true)⟩ =>
      cases hv
      have hu : u = Value.bool true := r2
      cases hu
      refine ⟨rfl, OldK.of_keep ?_, os, bare⟩
      intro b o e
      match q : H b with
      | none => exact un.keep b o e q (fun z => nomatch z) (fun z => nomatch z)
      | some u =>
        cases only b with
        | inl z => exact nomatch z.symm.trans q
        | inr z =>
          obtain ⟨ob, xs, z⟩ := z
          have c1 := (ok b _ z).1
          have c2 := (ok2 b _ (un.frzs b ob _ z)).1
          exact c2.trans (c1.symm.trans e)
  match hk : K.lookup a with
  | some o =>
    have e := (KX a o hk).symm.trans scr
    cases e
    refine main (fun _ => none) (fun _ => Or.inl rfl) (Or.inr ⟨_, vs.toArray, _, hk, rfl, rfl, rfl, ?_, ?_⟩) (fun b u z => nomatch (show (none : Option HO) = some u from z)) (fun b u z => nomatch (show (none : Option HO) = some u from z)) (fun u z => nomatch (show (none : Option HO) = some u from z))
    · rw [List.size_toArray, hints.length]
      exact short
    · simpa using rel
  | none =>
    refine main (fun b => if b = a then some (.frz { cls := .type "list", data := .seq vs.toArray } (.lst (ns.map V.int))) else none) ?_ (Or.inl (Or.inr ⟨_, if_pos rfl⟩)) ?_ ?_ (fun _ _ => hk)
    · intro b
      by_cases hb : b = a
      · exact Or.inr ⟨_, _, if_pos hb⟩
      · exact Or.inl (if_neg hb)
    · intro b u z
      by_cases hb : b = a
      · subst hb
        have z1 := (if_pos rfl).symm.trans z
        cases z1
        exact ⟨scr, (by rw [List.length_map]; exact short), vs, _, rel, scr⟩
      · exact nomatch (if_neg hb).symm.trans z
    · intro b u z
      by_cases hb : b = a
      · exact hb
      · exact nomatch (if_neg hb).symm.trans z
theorem walkG {l : PySem.W.OpenLaw} {n k : Nat} {q : Program} {loose : List Str} {XP : (Str → Option Value) → Heap → Prop} {YP : World → Heap → Prop} {d : DefRec} {K : Params → PySem.W.Frag} {CX : CXT} {sp : PySem.W.Frag → Sp} {x : Str}
    (hn : l.most = some n) (hn2 : n ≤ sizeLine) (hdf : d.params.defaults = []) (hr : Room k callerA) (hY : ∀ (w : World) (h : Heap), YP w h → (K w.params).In h)
    (F : ∀ (w : World) (mg : Str → Option Value) (fa : Addr) (h : Heap), (K w.params).In h → h.Ns mainGlobals mg → mg d.name = some (.ref fa) →
      ∃ fd : FuncData, (∀ (s : Shared) (u : Value), BindsTo s fd ⟨[u], []⟩ [(x, u)]) ∧ ∀ base : Heap, (K w.params).In base → base.Ns mainGlobals mg → FnG l.prog w (K w.params) mg base CX k fa fd [x] (sp (K w.params)))
    (hsp : ∀ (K : PySem.W.Frag) (H : Hp) (a : Addr) (ns : List Int), ns.length ≤ n → Only H → SqL K H a (ns.map V.int) → sp K [.ref a] H (fun v _ => v = .bl true) fun _ _ _ => False)
    (noX : ∀ (H : Hp) (s : Shared) (e : Value) (s2 : Shared), CX [] H s (fun _ _ _ => False) e s2 → False) : PySem.W.WalkO q loose XP YP l.row.toRowW d [] (fun f vs => PySem.call f vs) := by
  refine Att.attach_call hn hdf ?_
  intro w s0 s1 mg mb fa o pm cd doc a vs ns G Y _ _ _ hmg scr hints hlen gens0
  obtain ⟨fd, hb, hF⟩ := F w mg fa _ (hY w _ Y) G.T.g hmg
  exact lawG (hY w _ Y) G.T.g G.T.b G.T.builtins G.T.nolimit gens0 scr hints (Nat.le_trans hlen hn2) hr hF hb (fun H h1 h2 => hsp _ H a ns hlen h1 h2) (fun H => noX H s1)
end Vk
set_option Elab.async false
set_option maxRecDepth 100000
set_option linter.all false
namespace Vk
open PySem PySem.Spec PyProof.Rows L2
/-! ## what stays -/
/-- all that was tracked stays, but what stands at p -/
def Ext (p : Addr) (H H' : Hp) : Prop := ∀ b o, H b = some o → b ≠ p → H' b = some o
theorem Ext.rfl {p : Addr} {H : Hp} : Ext p H H := fun _ _ h _ => h
theorem Ext.trans {p : Addr} {H H1 H2 : Hp} (a : Ext p H H1) (b : Ext p H1 H2) : Ext p H H2 := fun c o h n => b c o (a c o h n) n
theorem Ext.same {p : Addr} {H H1 : Hp} (a : Same H H1) : Ext p H H1 := fun c o h _ => a c o h
theorem Ext.at {p : Addr} {H : Hp} {o : HO} : Ext p H (upd H p o) := fun c u h n => (upd_ne n).trans h
theorem same_new {H : Hp} {a : Addr} {o : HO} (h : H a = none) : Same H (upd H a o) := fun c u e => (upd_ne (ne_of_none e h)).trans e
theorem Ext.new {p a : Addr} {H : Hp} {o : HO} (h : H a = none) : Ext p H (upd H a o) := .same (same_new h)
theorem Ext.set {p a : Addr} {H H1 : Hp} {o : HO} (x : Ext p H H1) (h : H a = none) : Ext p H (upd H1 a o) := fun c u e n => (upd_ne (ne_of_none e h)).trans (x c u e n)
theorem Ext.none_of {p a : Addr} {H H1 : Hp} (x : Ext p H H1) (hp : a ≠ p) (h : H1 a = none) : H a = none := by
  match q : H a with
  | none => rfl
  | some o => exact nomatch (x a o q hp).symm.trans h
theorem Ext.seqL {K : PySem.W.Frag} {p a : Addr} {H H1 : Hp} {xs : List V} (x : Ext p H H1) (hp : a ≠ p) (h : SqL K H a xs) : SqL K H1 a xs := by
  match h with
  | .inl (.inl e) => exact .inl (.inl (x _ _ e hp))
  | .inl (.inr ⟨o, e⟩) => exact .inl (.inr ⟨o, x _ _ e hp⟩)
  | .inr e => exact .inr e
theorem Ext.seqT {K : PySem.W.Frag} {p a : Addr} {H H1 : Hp} {xs : List V} (x : Ext p H H1) (hp : a ≠ p) (h : SqT K H a xs) : SqT K H1 a xs := by
  match h with
  | .inl (.inl e) => exact .inl (.inl (x _ _ e hp))
  | .inl (.inr ⟨o, e⟩) => exact .inl (.inr ⟨o, x _ _ e hp⟩)
  | .inr e => exact .inr e
theorem up_new {H : Hp} {a b : Addr} {o u : HO} (h : H a = some o) (hb : H b = none) : upd H b u a = some o := same_new hb a o h
/-! ## the pen -/
def penL (c : Addr) (t l : Int) : List (Key × V) := [(.inr "cells", .ref c), (.inr "turn", .int t), (.inr "left", .int l)]
theorem k_ct : ¬ ((Str.ofString "cells") = Str.ofString "turn") := by decide +kernel
theorem k_cl : ¬ ((Str.ofString "cells") = Str.ofString "left") := by decide +kernel
theorem k_tl : ¬ ((Str.ofString "turn") = Str.ofString "left") := by decide +kernel
theorem k_lt : ¬ ((Str.ofString "left") = Str.ofString "turn") := by decide +kernel
theorem pen_cells (c : Addr) (t l : Int) : valV (penL c t l) (Sum.inr "cells" : Key) = some (.ref c) := valV_pos rfl
theorem pen_turn (c : Addr) (t l : Int) : valV (penL c t l) (Sum.inr "turn" : Key) = some (.int t) := (valV_neg (fun e => k_ct (Sum.inr.inj e))).trans (valV_pos rfl)
theorem pen_left (c : Addr) (t l : Int) : valV (penL c t l) (Sum.inr "left" : Key) = some (.int l) := (valV_neg (fun e => k_cl (Sum.inr.inj e))).trans ((valV_neg (fun e => k_tl (Sum.inr.inj e))).trans (valV_pos rfl))
theorem pen_put_turn (c : Addr) (t l u : Int) : putK (penL c t l) (Sum.inr "turn" : Key) (.int u) = penL c u l := by
  unfold putK
  rw [valV_any, pen_turn]
  simp [penL, k_ct, k_lt]
theorem pen_put_left (c : Addr) (t l u : Int) : putK (penL c t l) (Sum.inr "left" : Key) (.int u) = penL c t u := by
  unfold putK
  rw [valV_any, pen_left]
  simp [penL, k_cl, k_tl]
theorem pen_made (c : Addr) (t l : Int) : mergeK [] (penL c t l) = penL c t l := by
  simp [mergeK, penL, putK, k_ct, k_cl, k_tl]
structure Pen (H : Hp) (p c : Addr) (T : Nat) : Prop where
  ex : ∃ (ns : List Int) (t l : Int), H p = some (.dK (penL c t l)) ∧ H c = some (.lst (ns.map V.int)) ∧ ns.length ≤ 63 ∧ 0 ≤ t ∧ t ≤ T ∧ 0 ≤ l
section
variable {H H1 : Hp} {p c a : Addr} {T U : Nat} {o : HO} {xs : List V}
theorem Pen.mono (x : Pen H p c T) (h : T ≤ U) : Pen H p c U := by
  obtain ⟨ns, t, l, h1, h2, h3, h4, h5, h6⟩ := x.ex
  exact ⟨ns, t, l, h1, h2, h3, h4, by omega, h6⟩
theorem Pen.stay (x : Pen H p c T) (s : Same H H1) : Pen H1 p c T := by
  obtain ⟨ns, t, l, h1, h2, r⟩ := x.ex
  exact ⟨ns, t, l, s _ _ h1, s _ _ h2, r⟩
theorem Pen.new (x : Pen H p c T) (h : H a = none) : Pen (upd H a o) p c T := x.stay (same_new h)
theorem Pen.is (x : Pen H p c T) : ∃ t l, H p = some (.dK (penL c t l)) := by
  obtain ⟨ns, t, l, h1, _⟩ := x.ex
  exact ⟨t, l, h1⟩
theorem Pen.ne (x : Pen H p c T) (h : H a = some (.lst xs)) : a ≠ p := by
  obtain ⟨t, l, h1⟩ := x.is
  exact ne_of h h1 (by intro z; cases z)
/-- another thing is changed -/
theorem Pen.set (x : Pen H p c T) (h1 : a ≠ p) (h2 : a ≠ c) : Pen (upd H a o) p c T := by
  obtain ⟨ns, t, l, g1, g2, r⟩ := x.ex
  exact ⟨ns, t, l, (upd_ne h1.symm).trans g1, (upd_ne h2.symm).trans g2, r⟩
/-- a thing that was not there when the pen stood is neither the pen nor its cells -/
theorem Pen.apart (x : Pen H p c T) (h : H a = none) : a ≠ p ∧ a ≠ c := by
  obtain ⟨ns, t, l, g1, g2, r⟩ := x.ex
  exact ⟨(ne_of_none g1 h).symm, (ne_of_none g2 h).symm⟩
end
/-- draw's promise -/
def spDraw : Sp := fun vs H Q _ => ∃ (p c : Addr) (m : Int) (T : Nat), vs = [.ref p, .int m] ∧ 0 < m ∧ m < 1073741824 ∧ Pen H p c T ∧ T < 1000000000 ∧
  ∀ (d : Int) (H' : Hp), 0 ≤ d → d < m → Pen H' p c (T + 1) → Ext p H H' → Q (.int d) H'
def spPen (K : PySem.W.Frag) : Sp := fun vs H Q _ => ∃ (a : Addr) (ns : List Int), vs = [.ref a] ∧ SqL K H a (ns.map V.int) ∧
  ∀ (p c : Addr) (H' : Hp), H p = none → Pen H' p c 0 → Same H H' → Q (.ref p) H'
/-! ## draws' small facts -/
theorem ints_dp {K : PySem.W.Frag} {H : Hp} : ∀ ns : List Int, DpAll K H (ns.map V.int) (ns.map PyData.int)
  | [] => .nil
  | n :: ns => .cons (.int n) (ints_dp ns)
theorem ints_canLay : ∀ ns : List Int, PyData.canLayAll0 (ns.map PyData.int) = true
  | [] => rfl
  | n :: ns => by
    show (PyData.canLay0 (.int n) && PyData.canLayAll0 (ns.map PyData.int)) = true
    rw [ints_canLay ns]
    rfl
theorem ints_depth : ∀ ns : List Int, PyData.depthAll (ns.map PyData.int) = 0
  | [] => rfl
  | n :: ns => by
    show max (PyData.depth (.int n)) (PyData.depthAll (ns.map PyData.int)) = 0
    rw [ints_depth ns]
    rfl
theorem ints_shaped (ns : List Int) : SeqAt.shaped (.list (ns.map PyData.int)) = true := by
  have h1 : PyData.canLay0 (.list (ns.map PyData.int)) = true := ints_canLay ns
  have h2 : PyData.depth (.list (ns.map PyData.int)) = 1 := by
    show PyData.depthAll (ns.map PyData.int) + 1 = 1
    rw [ints_depth]
  unfold SeqAt.shaped
  rw [h1, h2]
  rfl
theorem ints_ne_nil (ns : List Int) : PyData.eqv (.list (ns.map PyData.int)) (.list []) = ns.isEmpty := by
  match ns with
  | [] => rfl
  | n :: r => rfl
theorem get_left {H : Hp} {p c : Addr} {t l : Int} (h : H p = some (.dK (penL c t l))) : DGet H p (.str "left") (some (.int l)) := pen_left c t l ▸ DGet.k (k := Sum.inr "left") h
theorem get_turn {H : Hp} {p c : Addr} {t l : Int} (h : H p = some (.dK (penL c t l))) : DGet H p (.str "turn") (some (.int t)) := pen_turn c t l ▸ DGet.k (k := Sum.inr "turn") h
theorem get_cells {H : Hp} {p c : Addr} {t l : Int} (h : H p = some (.dK (penL c t l))) : DGet H p (.str "cells") (some (.ref c)) := pen_cells c t l ▸ DGet.k (k := Sum.inr "cells") h
theorem put_left {H : Hp} {p c : Addr} {t l u : Int} (h : H p = some (.dK (penL c t l))) : DPut H p (.str "left") (.int u) (upd H p (.dK (penL c t u))) := pen_put_left c t l u ▸ DPut.k (k := Sum.inr "left") h (by show 3 < sizeLine; decide)
theorem put_turn {H : Hp} {p c : Addr} {t l u : Int} (h : H p = some (.dK (penL c t l))) : DPut H p (.str "turn") (.int u) (upd H p (.dK (penL c u l))) := pen_put_turn c t l u ▸ DPut.k (k := Sum.inr "turn") h (by show 3 < sizeLine; decide)
theorem at_mod {α : Type} {xs : List α} {i : Int} (h0 : 0 ≤ i) (h : i < (xs.length : Int)) : ∃ v, atI xs i = some v ∧ v ∈ xs := by
  have hj : i.toNat < xs.length := by omega
  refine ⟨xs[i.toNat], ?_, List.getElem_mem hj⟩
  have e : i = (i.toNat : Int) := by omega
  have q := atI_nat (List.getElem?_eq_getElem hj)
  rw [← e] at q
  exact q
def primes : List Int := [2147483629, 2147483647, 2147483587, 2147483563, 2147483579]
theorem primes_in {v : V} (h : v ∈ primes.map V.int) : ∃ i : Int, v = .int i ∧ 0 < i ∧ i < 2147483648 := by
  obtain ⟨i, hi, e⟩ := List.mem_map.mp h
  refine ⟨i, e.symm, ?_⟩
  have q : ∀ j ∈ primes, 0 < j ∧ j < 2147483648 := by decide
  exact q i hi
end Vk
set_option Elab.async false
set_option maxRecDepth 100000
set_option linter.all false
namespace Vk
open PySem PySem.Spec PyProof.Rows L2
/-! ## a def that returns one written text, and a replace of what it returns (a token is out behind it) -/
structure FnT (P : Program) (w : World) (K : PySem.W.Frag) (mg : Str → Option Value) (base : Heap) (k : Nat) (x : Str) (z : Str) : Prop where
  ex : ∃ f : Addr, mg x = some (.ref f) ∧ PySem.W.keepIn K (.ref f) = true ∧ ∀ (A : Around) (outer : List Env) (s : Shared) (H : Hp) (Q : VK), Room k A → Env0 P w K mg base A outer s H → Q (.str z) H →
    codeAny (model P w) A (.call (.ref f) ⟨[], []⟩) (fun r s2 => 1 ≤ s2.toks ∧ CR CX0 outer P w H s Q E0 r s2) s
section
variable {P : Program} {w : World} {K : PySem.W.Frag} {mg : Str → Option Value} {base : Heap}
theorem okT {x : Str} {st : Stmt} {f : Addr} {fd : FuncData} {z : Str} {j : Nat} {p1 p2 : Pos} (F : Fun K x x st f fd) (S : FnScope [] [] (defScope st)) (hm : mg x = some (.ref f)) (hb : Binds K fd [] [])
    (body : defBody st = [.Return (some (.Constant (.str z) j p1)) p2]) : FnT P w K mg base 1 x z := by
  refine ⟨f, hm, F.kp, ?_⟩
  obtain ⟨oc, od, kV, doc, pm, an, cdv, ct, osl, rfl, lk, hcd⟩ := F.ex
  intro A outer s H Q hr e0 hsp
  have KX := e0.mod.kin.keeps (fun b o e => (e0.bs b o e).1 : ∀ b o, base.get? b = some o → s.heap.get? b = some o)
  have noLim := e0.mod.nolimit.keeps (fun b o e => (e0.bs b o e).1 : ∀ b o, base.get? b = some o → s.heap.get? b = some o)
  refine codeAny_call_function hr.depth (KX f _ lk) rfl S.co S.gen rfl (PySem.W.codeRec_of KX hcd) (hb s [] KX rfl _ _ _ _ (wpAny_newFunctionEnv_cells S.kind (fun y hy => absurd hy (List.not_mem_nil (a := y))) fun env he s1 x0 => ?_))
  cases he
  refine And.intro (noLim.keeps x0.toInCall.keep) (codeAny_func ?_)
  have I0 := inv_start (P := P) (CX := CX0) (E := E0) (us := []) (vs := []) S hr.hd e0 rfl .nil x0
  show wpAny _ _ (execs (defBody st) _) _ _ s1
  rw [body]
  refine wpAny_execs_cons (wpAny_Return_some (Calls.Constant_str ?_))
  exact ⟨Nat.succ_pos _, .str z, H, I0.os, I0.bare, (I0.tok (s1.toks + 1)).base, (I0.tok (s1.toks + 1)).hok, ⟨_, rfl⟩, hsp⟩
end
section
variable {X : Cx} {j k : Nat} {x z y v : Str} {q q2 apos pos c0 c1 : Pos} {j0 j1 : Nat}
theorem pe_replT (c : FnT X.prog X.w X.K X.mg X.base k x z) (hr : Room j X.A) (hk : k ≤ j) (hz : z.length + (z.length + 1) * v.length ≤ 16777216) (hyz : (y == v) = false) (gl : Gl X x := by rfl) (hdb : (x == ("__debug__" : Str)) = false := by decide)
    (hst : starEach [.Constant (.str y) j0 c0, .Constant (.str v) j1 c1] X.env = [(false, eval (.Constant (.str y) j0 c0) X.env), (false, eval (.Constant (.str v) j1 c1) X.env)] := by rfl)
    (hbase : attributeBase (.Call (.Name x q) [] [] q2) "replace" X.env (eval (.Call (.Name x q) [] [] q2) X.env) = eval (.Call (.Name x q) [] [] q2) X.env := by rfl) (hline : (apos.endLine == pos.line) = true := by rfl) :
    PE X (.Call (.Attribute (.Call (.Name x q) [] [] q2) "replace" apos) [.Constant (.str y) j0 c0, .Constant (.str v) j1 c1] [] pos) (fun σ H Q => Q (.str (Txt.replace z y v)) H) := by
  obtain ⟨f, hm, kp, run⟩ := c.ex
  refine ⟨fun pins s σ H Q I h => PySem.Call_method2 (Q := EP X pins σ Q) hbase hst hline (wpAny_mono (Q := fun u s1 => 1 ≤ s1.toks ∧ EP X pins σ (fun w H1 => w = .str z ∧ H1 = H) u s1) ?_ ?_ (fun _ _ e => e))⟩
  · refine wpAny_Call_Name_kw (ld_glob I gl hm (PySem.W.callWith_K0 I.kIn kp (wpAny_call (codeAny_mono (run X.A X.stack s H (fun w H1 => w = .str z ∧ H1 = H) (hr.mono hk) I.env0 ⟨rfl, rfl⟩) fun res s2 hq => ?_))) hdb)
    match res, hq with
    | .error e, hq => exact hq.2.elim
    | .ok (.ret u), hq => exact ⟨hq.1, I.after hq.2⟩
    | .ok .next, hq => exact hq.2.elim
    | .ok .brk, hq => exact hq.2.elim
    | .ok .cont, hq => exact hq.2.elim
  · rintro u s1 ⟨ht, w, H1, I1, r1, rfl, rfl⟩
    obtain ⟨tx, rfl⟩ := r1
    refine ⟨"str", _, PySem.F.plainAttrs_str, PySem.F.slot_str_replace, PySem.F.type_str_replace, typeIs_str _ _ _, (fun _ e => nomatch e), Calls.callWith_builtin rfl (Calls.evalArgs_plain (Calls.spliced_cons (Calls.Constant_str (Calls.spliced_cons (Calls.Constant_str (Calls.spliced_nil ?_))))))⟩
    exact PySem.SC.replace (Nat.ne_of_gt ht) (Nat.succ_ne_zero _) (by show s1.toks ≠ s1.toks + 1; omega) hyz hz fun t' kk => ⟨V.str _, _, I1.tok kk, ⟨t', rfl⟩, h⟩
end
/-! ## options to pick from -/
def OneS (c : Nat) : V := .str ⟨#[c]⟩
inductive Opts (K : PySem.W.Frag) (H : Hp) : V → List V → Prop
  | str (z : Str) (h : z.length ≤ 1000) : Opts K H (.str z) (z.cps.toList.map OneS)
  | lst {a : Addr} {xs : List V} (h : SqL K H a xs) : Opts K H (.ref a) xs
  | tup {a : Addr} {xs : List V} (h : SqT K H a xs) : Opts K H (.ref a) xs
theorem Ext.sqL {K : PySem.W.Frag} {p a : Addr} {H H1 : Hp} {xs : List V} {kvs : List (Key × V)} (x : Ext p H H1) (hp : H p = some (.dK kvs)) (h : SqL K H a xs) : SqL K H1 a xs := by
  match h with
  | .inl (.inl e) => exact .inl (.inl (x _ _ e (ne_of e hp (by intro z; cases z))))
  | .inl (.inr ⟨o, e⟩) => exact .inl (.inr ⟨o, x _ _ e (ne_of e hp (by intro z; cases z))⟩)
  | .inr e => exact .inr e
theorem Ext.sqT {K : PySem.W.Frag} {p a : Addr} {H H1 : Hp} {xs : List V} {kvs : List (Key × V)} (x : Ext p H H1) (hp : H p = some (.dK kvs)) (h : SqT K H a xs) : SqT K H1 a xs := by
  match h with
  | .inl (.inl e) => exact .inl (.inl (x _ _ e (ne_of e hp (by intro z; cases z))))
  | .inl (.inr ⟨o, e⟩) => exact .inl (.inr ⟨o, x _ _ e (ne_of e hp (by intro z; cases z))⟩)
  | .inr e => exact .inr e
theorem Ext.is {p a : Addr} {H H1 : Hp} {xs : List V} {kvs : List (Key × V)} (x : Ext p H H1) (hp : H p = some (.dK kvs)) (h : H a = some (.lst xs)) : H1 a = some (.lst xs) := x _ _ h (ne_of h hp (by intro z; cases z))
theorem Ext.isT {p a : Addr} {H H1 : Hp} {xs : List V} {kvs : List (Key × V)} (x : Ext p H H1) (hp : H p = some (.dK kvs)) (h : H a = some (.tup xs)) : H1 a = some (.tup xs) := x _ _ h (ne_of h hp (by intro z; cases z))
theorem Pen.keepL {K : PySem.W.Frag} {p c a : Addr} {T : Nat} {H H1 : Hp} {xs : List V} (q : Pen H p c T) (x : Ext p H H1) (h : SqL K H a xs) : SqL K H1 a xs := by
  obtain ⟨t, l, hp⟩ := q.is
  exact x.sqL hp h
theorem Pen.keepT {K : PySem.W.Frag} {p c a : Addr} {T : Nat} {H H1 : Hp} {xs : List V} (q : Pen H p c T) (x : Ext p H H1) (h : SqT K H a xs) : SqT K H1 a xs := by
  obtain ⟨t, l, hp⟩ := q.is
  exact x.sqT hp h
theorem Pen.keepI {p c a : Addr} {T : Nat} {H H1 : Hp} {xs : List V} (q : Pen H p c T) (x : Ext p H H1) (h : H a = some (.lst xs)) : H1 a = some (.lst xs) := by
  obtain ⟨t, l, hp⟩ := q.is
  exact x.is hp h
def spPick (K : PySem.W.Frag) : Sp := fun vs H Q _ => ∃ (p c : Addr) (o : V) (xs : List V) (T : Nat), vs = [.ref p, o] ∧ Opts K H o xs ∧ xs ≠ [] ∧ xs.length ≤ 1000 ∧ Pen H p c T ∧ T < 1000000000 ∧
  ∀ (v : V) (H' : Hp), v ∈ xs → Pen H' p c (T + 1) → Ext p H H' → Q v H'
def letS : Str := "\n !\"#$&'()*+,-./0123456789:;<=>?@ABCDEFGHIJKLMNOPQRSTUVWXYZ[\\]^_`abcdefghijklmnopqrstuvwxyz{|}~"
def spSigns : Sp := fun vs H Q _ => vs = [] ∧ Q (.str letS) H
/-- what few gives: one to three letters -/
def Few (z : Str) : Prop := 1 ≤ z.length ∧ z.length ≤ 3 ∧ ∀ c ∈ z.cps.toList, c ∈ letS.cps.toList
def spFew : Sp := fun vs H Q _ => ∃ (p c : Addr) (T : Nat), vs = [.ref p] ∧ Pen H p c T ∧ T + 4 < 1000000000 ∧ ∀ (z : Str) (H' : Hp), Few z → Pen H' p c (T + 4) → Ext p H H' → Q (.str z) H'
/-- a word of the letters of z, a to b of them -/
def Word (z : Str) (a b : Nat) (x : Str) : Prop := a ≤ x.length ∧ x.length ≤ b ∧ ∀ c ∈ x.cps.toList, c ∈ z.cps.toList
def spWord : Sp := fun vs H Q _ => ∃ (p c : Addr) (z : Str) (a b T : Nat), vs = [.ref p, .str z, .int a, .int b] ∧ a ≤ b ∧ b ≤ 100 ∧ 1 ≤ z.length ∧ z.length ≤ 1000 ∧ Pen H p c T ∧ T + 200 < 1000000000 ∧
  ∀ (x : Str) (H' : Hp), Word z a b x → Pen H' p c (T + b + 1) → Ext p H H' → Q (.str x) H'
theorem cut63 (ns : List Int) : ∃ ms : List Int, cutV (ns.map V.int) none (some 63) = ms.map V.int ∧ ms.length ≤ 63 := by
  refine ⟨ns.take 63, ?_, List.length_take_le _ _⟩
  unfold cutV
  rw [HT.sIx_none, show (63 : Int) = ((63 : Nat) : Int) from rfl, HT.sIx_nat, List.drop_zero, Nat.sub_zero, List.map_take, Nat.min_comm, ← List.take_take]
  exact List.take_of_length_le (by rw [List.length_take]; omega)
theorem one_len (z : Str) : (z.cps.toList.map OneS).length = z.length := by
  rw [List.length_map]
  exact Array.length_toList
theorem join_nil : ∀ ls : List (List Nat), TL.joinL [] ls = ls.flatten
  | [] => rfl
  | [p] => by simp [TL.joinL]
  | p :: q :: r => by
    show p ++ ([] ++ TL.joinL [] (q :: r)) = _
    rw [List.nil_append, join_nil (q :: r)]
    rfl
theorem join_ones (cs : List Nat) : Txt.join "" (cs.map fun c => (⟨#[c]⟩ : Str)) = ⟨cs.toArray⟩ := by
  rw [TL.join_eq]
  refine TL.ext_tl ?_
  rw [TL.tl_join]
  refine (join_nil _).trans ?_
  show (List.map TL.tl (cs.map fun c => (⟨#[c]⟩ : Str))).flatten = cs
  rw [List.map_map]
  induction cs with
  | nil => rfl
  | cons c r ih => exact congrArg (c :: ·) ih
theorem ones_len (cs : List Nat) : ((cs.map fun c => (⟨#[c]⟩ : Str)).map (·.length)).sum = cs.length := by
  induction cs with
  | nil => rfl
  | cons c r ih =>
    rw [List.map_cons, List.map_cons, List.sum_cons, ih, List.length_cons]
    show 1 + r.length = r.length + 1
    omega
theorem ones_map (cs : List Nat) : (cs.map fun c => (⟨#[c]⟩ : Str)).map V.str = cs.map OneS := List.map_map
theorem noq_list : (Txt.replace letS "q" "").cps.toList = letS.cps.toList.filter (· != 113) := replace_strikes letS 113
theorem noq_len : (Txt.replace letS "q" "").length = 94 := by
  rw [show (Txt.replace letS "q" "").length = (Txt.replace letS "q" "").cps.toList.length from Array.length_toList.symm, noq_list]
  decide +kernel
theorem noq_in {c : Nat} (h : c ∈ (Txt.replace letS "q" "").cps.toList) : c ∈ letS.cps.toList := by
  rw [noq_list] at h
  exact (List.mem_filter.mp h).1
theorem ones_of {z : Str} {v : V} (h : v ∈ z.cps.toList.map OneS) : ∃ c, v = OneS c ∧ c ∈ z.cps.toList := by
  obtain ⟨c, hc, e⟩ := List.mem_map.mp h
  exact ⟨c, e.symm, hc⟩
theorem opts_ne {z : Str} (h : 1 ≤ z.length) : z.cps.toList.map OneS ≠ [] := fun e => by
  have q := one_len z
  rw [e] at q
  simp at q
  omega
theorem opts_le {z : Str} {n : Nat} (h : z.length ≤ n) : (z.cps.toList.map OneS).length ≤ n := by
  rw [one_len]
  exact h
/-- the fixed choices of few are few -/
theorem few_of {z : Str} (h : (decide (1 ≤ z.length) && decide (z.length ≤ 3) && z.cps.toList.all fun c => decide (c ∈ letS.cps.toList)) = true) : Few z := by
  simp only [Bool.and_eq_true, decide_eq_true_eq, List.all_eq_true] at h
  exact ⟨h.1.1, h.1.2, h.2⟩
theorem few_ones {cs : List Nat} (h1 : 1 ≤ cs.length) (h3 : cs.length ≤ 3) (h : ∀ c ∈ cs, c ∈ letS.cps.toList) : Few ⟨cs.toArray⟩ := ⟨by simpa [Str.length] using h1, by simpa [Str.length] using h3, by simpa using h⟩
/-! ## rules whose written part is named (within a comprehension's block) -/
section
variable {X : Cx} {K : PySem.W.Frag}
theorem ix_seqK (h : X.K = K) : IxR X (rIx K) := h ▸ ix_seq
theorem ix_listK (h : X.K = K) : IxR X (rIxL K) := h ▸ ix_list
theorem ix_tupK (h : X.K = K) : IxR X (rIxT K) := h ▸ ix_tup
theorem op_in_seqK (h : X.K = K) : OpR X (compareOp .In) (rIn K false) := h ▸ op_in_seq
theorem op_notIn_seqK (h : X.K = K) : OpR X (compareOp .NotIn) (rIn K true) := h ▸ op_notIn_seq
theorem sl_listK (h : X.K = K) : SlR X (rSlL K) := h ▸ sl_list
theorem sl_tupK (h : X.K = K) : SlR X (rSlT K) := h ▸ sl_tup
theorem call_lenK (h : X.K = K) : CallR X (.builtin "len") (fun xs H Q => ∃ x n, xs = [x] ∧ LenV K x H n ∧ Q (.int n) H) := h ▸ call_len
theorem op_eqDK (h : X.K = K) (hu : X.A.units + 64 < cLine) : OpR X (compareOp .Eq) (rEqD K) := h ▸ op_eqD hu
theorem op_neDK (h : X.K = K) (hu : X.A.units + 64 < cLine) : OpR X (compareOp .NotEq) (rNeD K) := h ▸ op_neD hu
end
theorem cutV_mem {xs : List V} {lo hi : Option Int} {v : V} (h : v ∈ cutV xs lo hi) : v ∈ xs := List.mem_of_mem_drop (List.mem_of_mem_take h)
theorem cutV_all {xs : List V} {lo hi : Option Int} {f : V → Bool} (h : xs.all f = true) : (cutV xs lo hi).all f = true := List.all_eq_true.mpr fun v hv => List.all_eq_true.mp h v (cutV_mem hv)
theorem ones_flat (cs : List Nat) : (cs.map OneS).all flatV = true := List.all_eq_true.mpr fun v hv => by
  obtain ⟨c, _, rfl⟩ := List.mem_map.mp hv
  rfl
theorem cutV_zero (xs : List V) : cutV xs none (some 0) = [] := by
  unfold cutV
  rw [HT.sIx_none, show (0 : Int) = ((0 : Nat) : Int) from rfl, HT.sIx_nat]
  simp
theorem one_mem {cs : List Nat} {v : V} (h : v ∈ cs.map OneS) : ∃ c, v = OneS c ∧ c ∈ cs := by
  obtain ⟨c, hc, e⟩ := List.mem_map.mp h
  exact ⟨c, e.symm, hc⟩
end Vk
set_option Elab.async false
set_option maxRecDepth 100000
set_option linter.all false
namespace Vk
open PySem PySem.Spec PyProof.Rows L2
/-! ## how long what is shown may be -/
theorem listText_le : ∀ ts : List Str, (listText ts).length ≤ piled ts + 2
  | [] => by decide +kernel
  | t :: r => by
    have h := textFrom_length_pos r 1 (("[" : Str) ++ (if (0 : Nat) > 0 then ", " else "" : String) ++ t) (Nat.succ_pos 0)
    have e : (listText (t :: r)).length = (textFrom 1 (("[" : Str) ++ (if (0 : Nat) > 0 then ", " else "" : String) ++ t) r).length + 1 := strLen_append _ _
    rw [e, h, strLen_append, strLen_append, piled_cons]
    show 1 + 0 + t.length + piled r + 1 ≤ _
    omega
theorem piled_le {ts : List Str} {n : Nat} (h : ∀ t ∈ ts, t.length ≤ n) : piled ts ≤ ts.length * (n + 2) := by
  induction ts with
  | nil => exact Nat.zero_le _
  | cons t r ih =>
    have h1 := h t List.mem_cons_self
    have h2 := ih fun u hu => h u (List.mem_cons_of_mem _ hu)
    rw [piled_cons, List.length_cons, Nat.succ_mul]
    omega
theorem shownAll_map : ∀ ds : List PyData, PyData.shownAll ds = ds.map PyData.shown
  | [] => rfl
  | d :: r => congrArg (d.shown :: ·) (shownAll_map r)
theorem showableAll_iff : ∀ {ds : List PyData}, (∀ d ∈ ds, d.showable = true) → PyData.showableAll ds = true
  | [], _ => rfl
  | d :: r, h => by
    show (d.showable && PyData.showableAll r) = true
    rw [h d List.mem_cons_self, showableAll_iff fun e he => h e (List.mem_cons_of_mem _ he)]
    rfl
theorem hasDictAll_of : ∀ {ds : List PyData}, (∀ d ∈ ds, d.hasDict = false) → PyData.hasDictAll ds = false
  | [], _ => rfl
  | d :: r, h => by
    show (d.hasDict || PyData.hasDictAll r) = false
    rw [h d List.mem_cons_self, hasDictAll_of fun e he => h e (List.mem_cons_of_mem _ he)]
    rfl
theorem depthAll_le : ∀ {ds : List PyData} {n : Nat}, (∀ d ∈ ds, d.depth ≤ n) → PyData.depthAll ds ≤ n
  | [], _, _ => Nat.zero_le _
  | d :: r, n, h => Nat.max_le.mpr ⟨h d List.mem_cons_self, depthAll_le fun e he => h e (List.mem_cons_of_mem _ he)⟩
/-- d may be shown, in at most n signs, at most k deep -/
structure Showy (d : PyData) (k n : Nat) : Prop where
  sh : d.showable = true
  nd : d.hasDict = false
  dp : d.depth ≤ k
  ln : d.shown.length ≤ n
theorem Showy.list {ds : List PyData} {k n : Nat} (h : ∀ d ∈ ds, Showy d k n) : Showy (.list ds) (k + 1) (ds.length * (n + 2) + 2) := by
  refine ⟨showableAll_iff fun d hd => (h d hd).sh, hasDictAll_of fun d hd => (h d hd).nd, Nat.succ_le_succ (depthAll_le fun d hd => (h d hd).dp), ?_⟩
  show (listText (PyData.shownAll ds)).length ≤ _
  rw [shownAll_map]
  have h1 := listText_le (ds.map PyData.shown)
  have h2 := piled_le (ts := ds.map PyData.shown) (n := n) fun t ht => by
    obtain ⟨d, hd, rfl⟩ := List.mem_map.mp ht
    exact (h d hd).ln
  rw [List.length_map] at h2
  omega
theorem Showy.tuple {ds : List PyData} {k n : Nat} (h : ∀ d ∈ ds, Showy d k n) : Showy (.tuple ds) (k + 1) (ds.length * (n + 2) + 2) := by
  refine ⟨showableAll_iff fun d hd => (h d hd).sh, hasDictAll_of fun d hd => (h d hd).nd, Nat.succ_le_succ (depthAll_le fun d hd => (h d hd).dp), ?_⟩
  show (tupleText (PyData.shownAll ds)).length ≤ _
  rw [shownAll_map]
  have h1 := fmt_text (ds.map PyData.shown)
  have h2 := piled_le (ts := ds.map PyData.shown) (n := n) fun t ht => by
    obtain ⟨d, hd, rfl⟩ := List.mem_map.mp ht
    exact (h d hd).ln
  rw [List.length_map] at h2
  omega
theorem Showy.int {i : Int} (h : i.natAbs < 10 ^ 100) : Showy (.int i) 0 101 := by
  have hl : i.natAbs.log2 < 1920 := by
    by_cases h0 : i.natAbs = 0
    · rw [h0]; decide
    · exact (Nat.log2_lt h0).mpr (Nat.lt_of_lt_of_le h (by decide +kernel))
  refine ⟨decide_eq_true hl, rfl, Nat.le_refl _, ?_⟩
  show (Str.ofString (toString i)).length ≤ 101
  rw [PySem.ofString_length]
  exact int_text_length_le10 (k := 100) (by decide) h
theorem Showy.mono {d : PyData} {k k' n n' : Nat} (h : Showy d k n) (h1 : k ≤ k') (h2 : n ≤ n') : Showy d k' n' := ⟨h.sh, h.nd, Nat.le_trans h.dp h1, Nat.le_trans h.ln h2⟩
/-! ## places of words -/
open StrLaws in
theorem find_from (x y : Str) (lo : Nat) (hlo : lo ≤ x.length + 1) :
    ((match Builtin.Str.occurrences x y lo x.length 1 with | i :: _ => (i : Int) | [] => -1) = -1 ∧ ∀ i, lo ≤ i → ¬ At x y x.length i) ∨
    ∃ i : Nat, (match Builtin.Str.occurrences x y lo x.length 1 with | i :: _ => (i : Int) | [] => -1) = (i : Int) ∧ lo ≤ i ∧ At x y x.length i ∧ ∀ k, lo ≤ k → k < i → ¬ At x y x.length k := by
  rw [occ_eq]
  have inr : ∀ i, lo ≤ i → i ≤ x.length → i ∈ List.range' lo (x.length + 1 - lo) := fun i h1 h2 => by
    simp only [List.mem_range'_1]
    omega
  rcases occ_first x y x.length 1 (Nat.le_refl _) (List.range' lo (x.length + 1 - lo)) lo (fun i hi => (List.mem_range'_1.mp hi).1) with ⟨h0, hn⟩ | ⟨pre, a, post, e, h0, ha, hn⟩
  · refine .inl ⟨by rw [h0], fun i hi hA => hn i (inr i hi (Nat.le_trans (Nat.le_add_right _ _) hA.1)) hA⟩
  · refine .inr ⟨a, ?_, ?_, ha, fun k h1 h2 => ?_⟩
    · generalize (forIn (List.range' lo (x.length + 1 - lo)) ((#[] : Array Nat), lo) (occBody x y x.length 1)).run.fst = arr at h0
      have h1 : arr.toList[0]? = some a := by simpa using h0
      match hL : arr.toList with
      | [] => rw [hL] at h1; cases h1
      | b :: t => rw [hL] at h1; simp at h1; rw [h1]
    · exact (List.mem_range'_1.mp (by rw [e]; exact List.mem_append_right _ List.mem_cons_self : a ∈ List.range' lo (x.length + 1 - lo))).1
    · refine hn k ?_
      have hk : k ∈ pre ++ a :: post := by
        rw [← e]
        refine inr k h1 ?_
        have q := ha.1
        omega
      have pw : (pre ++ a :: post).Pairwise (· < ·) := by rw [← e]; exact List.pairwise_lt_range'
      rcases List.mem_append.mp hk with hk | hk
      · exact hk
      · rcases List.mem_cons.mp hk with rfl | hk
        · exact absurd h2 (Nat.lt_irrefl _)
        · have q := (List.pairwise_cons.mp (List.pairwise_append.mp pw).2.1).1 k hk
          omega
def atB (x w : Str) (i : Nat) : Bool := decide (i + w.length ≤ x.length) && Builtin.Str.subAt x w i
theorem atB_iff (x w : Str) (i : Nat) : atB x w i = true ↔ StrLaws.At x w x.length i := by
  unfold atB StrLaws.At
  simp
/-- all places of a word in a text -/
def plc (x w : Str) : List Nat := (List.range (x.length + 1)).filter (atB x w)
theorem filter_more {P : Nat → Bool} {lo m : Nat} (h : lo ≤ m) (hn : ∀ i, lo ≤ i → i < m → P i = false) : (List.range m).filter P = (List.range lo).filter P := by
  induction m with
  | zero => rw [Nat.le_zero.mp h]
  | succ m ih =>
    by_cases e : lo = m + 1
    · rw [e]
    · rw [List.range_succ, List.filter_append, ih (by omega) fun i h1 h2 => hn i h1 (by omega)]
      have q := hn m (by omega) (Nat.lt_succ_self _)
      simp [q]
theorem filter_snoc {P : Nat → Bool} {m : Nat} (h : P m = true) : (List.range (m + 1)).filter P = (List.range m).filter P ++ [m] := by
  rw [List.range_succ, List.filter_append]
  simp [h]
def plcI (x w : Str) : List Int := (plc x w).map Int.ofNat
theorem plc_lt {x w : Str} {i : Nat} (h : i ∈ plc x w) : i ≤ x.length := Nat.le_of_lt_succ (List.mem_range.mp (List.mem_filter.mp h).1)
theorem plc_len (x w : Str) : (plc x w).length ≤ x.length + 1 := Nat.le_trans (List.length_filter_le _ _) (Nat.le_of_eq List.length_range)
theorem plc_showy {x w : Str} (h : x.length ≤ 10000) : Showy (.list ((plcI x w).map PyData.int)) 1 1100000 := by
  refine (Showy.list (k := 0) (n := 101) fun d hd => ?_).mono (Nat.le_refl _) ?_
  · obtain ⟨i, hi, rfl⟩ := List.mem_map.mp hd
    obtain ⟨n, hn, rfl⟩ := List.mem_map.mp hi
    have q := plc_lt hn
    refine Showy.int ?_
    show n < 10 ^ 100
    exact Nat.lt_of_le_of_lt (Nat.le_trans q h) (by decide +kernel)
  · rw [List.length_map]
    unfold plcI
    rw [List.length_map]
    have := plc_len x w
    omega
def spPlaces (K : PySem.W.Frag) : Sp := fun vs H Q _ => ∃ (x w : Str), vs = [.str x, .str w] ∧ x.length ≤ 10000 ∧ w.length ≤ 10000 ∧
  ∀ (a : Addr) (H' : Hp), H a = none → H' a = some (.lst ((plcI x w).map V.int)) → Same H H' → Q (.ref a) H'
/-- the slice of a text at a place -/
theorem cut_at (x w : Str) (k : Nat) (h : k + w.length ≤ x.length) : decide (V.str (cutS x (some (k : Int)) (some ((k : Int) + (w.length : Int)))) = V.str w) = atB x w k := by
  have e : cutS x (some (k : Int)) (some ((k : Int) + (w.length : Int))) = ⟨((x.cps.toList.drop k).take w.length).toArray⟩ := by
    unfold cutS
    rw [show (k : Int) + (w.length : Int) = ((k + w.length : Nat) : Int) by omega, HT.sIx_nat, HT.sIx_nat, Nat.min_eq_left h, Nat.min_eq_left (show k ≤ x.length by omega), show k + w.length - k = w.length by omega]
  rw [e]
  unfold atB
  rw [StrLaws.subAt_eq, decide_eq_true h, Bool.true_and, Bool.eq_iff_iff, decide_eq_true_eq, beq_iff_eq]
  constructor
  · intro q
    have q2 := V.str.inj q
    exact congrArg (fun z : Str => z.cps.toList) q2
  · intro q
    rw [q]
end Vk
set_option Elab.async false
set_option maxRecDepth 100000
set_option linter.all false
namespace Vk
open PySem PySem.Spec PyProof.Rows L2
/-! ## a text some times -/
theorem mulOk {x : Str} {n : Int} (h0 : 0 ≤ n) (h1 : n ≤ 1000000) (h : x.length * n.toNat ≤ 10000000) (hx : x.length ≤ 10000000) : MulOk x n := by
  refine ⟨?_, fun a _ c => ?_, fun _ _ => ?_⟩
  · rw [decide_eq_false (by omega), decide_eq_false (by omega)]
    rfl
  · have hn : 0 < n := by omega
    have q : (10000000 : Int) ≤ (2 ^ 63 - 1) / n := (Int.le_ediv_iff_mul_le hn).mpr (by omega)
    omega
  · unfold Builtin.Str.tooLong sizeLine
    exact decide_eq_false (by omega)
def CMulS (x : Str) (n : Int) : Prop := 0 ≤ n ∧ n ≤ 1000000 ∧ x.length * n.toNat ≤ 10000000 ∧ x.length ≤ 10000000
def rMulS : R2 := fun x y H Q => ∃ (z : Str) (n : Int), x = .str z ∧ y = .int n ∧ CMulS z n ∧ Q (.str (Txt.mul z n)) H
section
variable {X : Cx}
theorem op_mulS : OpR X (binaryOp .Mult) rMulS := by
  intro pins s σ H x y v u Q I rx ry h
  obtain ⟨z, n, rfl, rfl, ⟨h0, h1, h2, h3⟩, q⟩ := h
  obtain ⟨t, rfl⟩ := rx
  obtain ⟨t2, rfl⟩ := ry
  exact SB.mul (mulOk h0 h1 h2 h3) fun t' k => ⟨V.str _, H, I.tok k, ⟨t', rfl⟩, q⟩
end
theorem foldl_cat : ∀ (l : List (Array Nat)) (acc : Array Nat), (l.foldl (· ++ ·) acc).toList = acc.toList ++ (l.map Array.toList).flatten
  | [], acc => by simp
  | a :: r, acc => by
    rw [List.foldl_cons, foldl_cat r]
    simp
theorem mul_list (x : Str) (n : Int) (h : 0 ≤ n) : (Txt.mul x n).cps.toList = (List.replicate n.toNat x.cps.toList).flatten := by
  unfold Txt.mul
  split
  · rw [show n.toNat = 0 by omega]
    rfl
  · split
    · rename_i h1 h2
      rw [Bool.or_eq_true] at h2
      rcases h2 with h2 | h2
      · rw [show n = 1 from eq_of_beq h2]
        simp
      · have e : x.cps.toList = [] := List.eq_nil_of_length_eq_zero (Array.length_toList.trans (eq_of_beq h2))
        rw [e]
        simp
    · show ((List.replicate n.toNat x.cps).foldl (· ++ ·) #[]).toList = _
      rw [foldl_cat, List.map_replicate]
      rfl
theorem len_list (x : Str) : x.length = x.cps.toList.length := Array.length_toList.symm
theorem mul_len (x : Str) (n : Int) (h : 0 ≤ n) : (Txt.mul x n).length = n.toNat * x.length := by
  rw [len_list, mul_list x n h, len_list x]
  simp [List.length_flatten]
/-! ## a def called by keywords alone -/
structure CalK (P : Program) (w : World) (K : PySem.W.Frag) (mg : Str → Option Value) (base : Heap) (CX : CXT) (k : Nat) (x : Str) (sp : Sp) (ks : List Str) (g : {α : Type} → List α → List α) : Prop where
  ex : ∃ (f : Addr) (fd : FuncData) (ps : List Str), FnG P w K mg base CX k f fd ps sp ∧ mg x = some (.ref f) ∧ PySem.W.keepIn K (.ref f) = true ∧
    (∀ (s : Shared) (ws : List Value), K.In s.heap → ws.length = ks.length → BindsTo s fd ⟨[], ks.zip ws⟩ (ps.zip (g ws))) ∧ ∀ (vs : List V) (ws : List Value), Vals vs ws → vs.length = ks.length → Vals (g vs) (g ws)
def tCallW (n : Nat) (sp : Sp) (g : {α : Type} → List α → List α) (E : XK) (t : TA) : TE := fun σ H Q => t σ H fun vs H1 => vs.length = n ∧ sp (g vs) H1 Q E
section
variable {X : Cx} {CX : CXT} {j k : Nat} {sp : Sp} {E : XK} {x : Str} {p pos : Pos} {kws : List Keyword} {tk : TA} {ks : List Str} {g : {α : Type} → List α → List α}
theorem pe_kw (c : CalK X.prog X.w X.K X.mg X.base CX k x sp ks g) (hg : X.A.guards = some []) (hr : Room j X.A) (hk : k ≤ j) (hx : Passes CX X E) (hkw : PK X kws tk) (gl : Gl X x := by rfl)
    (hall : (backToKw pos (keywordEach kws X.env)).all (·.1.isSome) = true := by rfl) (hks : (backToKw pos (keywordEach kws X.env)).filterMap (·.1) = ks := by rfl) (hdb : (x == ("__debug__" : Str)) = false := by decide)
    (hpl : ((backTo pos (starEach [] X.env)).any (·.1) || (backToKw pos (keywordEach kws X.env)).any (·.1.isNone)) = false := by rfl) :
    PE X (.Call (.Name x p) [] kws pos) (tCallW ks.length sp g E tk) := by
  obtain ⟨f, fd, ps, F, hm, kp, hb, hv⟩ := c.ex
  refine ⟨fun pins s σ H Q I h => wpAny_Call_Name_kw (ld_glob I gl hm (PySem.W.callWith_KW0 (h₀ := X.base) I.ok.mod.kin kp hall (thn (hkw.run pos pins s σ H _ I h) fun ws s2 hh => ?_) hpl) hdb)⟩
  obtain ⟨vs, H2, I2, rz, l2, q2⟩ := hh
  refine ⟨I2.kIn, ?_⟩
  rw [hks]
  refine wpAny_call (codeAny_mono (F.run X.A X.stack s2 H2 ⟨[], ks.zip ws⟩ (g ws) (g vs) Q E hg (hr.mono hk) I2.env0 (hb s2 ws I2.kIn (rz.length.symm.trans l2)) (hv vs ws rz l2) q2) (fun res s3 hq => ?_))
  match res, hq with
  | .error e, hq => exact hx pins σ H2 s2 e s3 I2 hq
  | .ok (.ret u), hq => exact I2.after hq
  | .ok .next, hq => exact hq.elim
  | .ok .brk, hq => exact hq.elim
  | .ok .cont, hq => exact hq.elim
end
theorem vals_rev : ∀ {vs : List V} {ws : List Value}, Vals vs ws → Vals vs.reverse ws.reverse
  | _, _, .nil => .nil
  | _, _, .cons r t => by
    rw [List.reverse_cons, List.reverse_cons]
    exact (vals_rev t).append (.cons r .nil)
theorem ints_can (ns : List Int) : PyData.canLay0 (.list (ns.map PyData.int)) = true := ints_canLay ns
/-! ## a def of the text as the head leaves it -/
structure At (K : PySem.W.Frag) (x : Str) (st : Stmt) (f : Addr) (fd : FuncData) : Prop where
  ns : PySem.W.nsIn K mainGlobals x = some (some (.ref f))
  fn : Fun K x x st f fd
theorem at_mk {K : PySem.W.Frag} {x : Str} {st : Stmt} {f : Addr} {oc : Value} {od an : Option Addr} {sl : Array (Option Value)} {kV doc pm cd ct : Value} (a : PySem.W.nsIn K mainGlobals x = some (some (.ref f)))
    (l : K.lookup f = some ⟨oc, od, .func (PySem.W.fnOf x x (defArgs st) (defBody st) (defScope st) .none kV doc pm an cd ct), sl⟩) (c : PySem.W.codeIn K cd x = true) (k : PySem.W.keepIn K (.ref f) = true) :
    At K x st f (PySem.W.fnOf x x (defArgs st) (defBody st) (defScope st) .none kV doc pm an cd ct) := ⟨a, fun_mk l c k⟩
section
variable {K : PySem.W.Frag} {x y qual : Str} {st : Stmt} {f : Addr} {fd : FuncData} {ps ks : List Str} {g : List Value → List Value}
theorem _root_.L2.Fun.kwb (F : Fun K x qual st f fd)
    (h : ∀ (kV doc pm : Value) (an : Option Addr) (cdv ct : Value) (ws : List Value), ws.length = ks.length → bindArgs (PySem.W.fnOf x qual (defArgs st) (defBody st) (defScope st) .none kV doc pm an cdv ct) ⟨[], ks.zip ws⟩ = pure (ps.zip (g ws))) :
    ∀ (s : Shared) (ws : List Value), K.In s.heap → ws.length = ks.length → BindsTo s fd ⟨[], ks.zip ws⟩ (ps.zip (g ws)) := by
  obtain ⟨oc, od, kV, doc, pm, an, cdv, ct, osl, rfl, lk, hcd⟩ := F.ex
  exact fun s ws _ hl => .of_eq (h kV doc pm an cdv ct ws hl)
theorem _root_.L2.Fun.binds1 (F : Fun K x qual st f fd)
    (h : ∀ {kV doc pm : Value} {an : Option Addr} {cdv ct : Value} {v : Value}, bindArgs (PySem.W.fnOf x qual (defArgs st) (defBody st) (defScope st) .none kV doc pm an cdv ct) ⟨[v], []⟩ = pure [(y, v)]) :
    ∀ (s : Shared) (v : Value), BindsTo s fd ⟨[v], []⟩ [(y, v)] := by
  obtain ⟨oc, od, kV, doc, pm, an, cdv, ct, osl, rfl, lk, hcd⟩ := F.ex
  exact fun s v => .of_eq h
end
end Vk
set_option Elab.async false
set_option maxRecDepth 100000
set_option maxHeartbeats 4000000
set_option linter.all false
namespace PySem
namespace VkX
open PySem.W PySem.Calls PyProof.Rows Builtin Builtin.ObjectAttr PySem.HandSPX
/-! ## own exception classes straight below one of the four -/
structure ExB (B newId initId : String) (tl : List Value) : Prop where
  F : ExcBaseFacts B newId initId tl
  pass : ∀ self : Value, refuseLoop self "__setattr__" tl = pure ()
  obj : tl.contains (.type "object") = true
  refs : tl.all (fun v => match v with | .type _ => true | _ => false) = true
theorem exB_value : ExB "ValueError" "ValueError.__new__" "ValueError.__init__" [.type "ValueError", .type "Exception", .type "BaseException", .type "object"] := ⟨F.excBase_ValueError, fun _ => by kernel_rfl, by decide +kernel, rfl⟩
theorem exB_lookup : ExB "LookupError" "LookupError.__new__" "LookupError.__init__" [.type "LookupError", .type "Exception", .type "BaseException", .type "object"] := ⟨F.excBase_LookupError, fun _ => by kernel_rfl, by decide +kernel, rfl⟩
theorem exB_overflow : ExB "OverflowError" "OverflowError.__new__" "OverflowError.__init__" [.type "OverflowError", .type "ArithmeticError", .type "Exception", .type "BaseException", .type "object"] := ⟨F.excBase_OverflowError, fun _ => by kernel_rfl, by decide +kernel, rfl⟩
theorem exB_runtime : ExB "RuntimeError" "RuntimeError.__new__" "RuntimeError.__init__" [.type "RuntimeError", .type "Exception", .type "BaseException", .type "object"] := ⟨F.excBase_RuntimeError, fun _ => by kernel_rfl, by decide +kernel, rfl⟩
section
variable {M : Model} {A : Around} {E : Value → Shared → Prop} {h : Heap} {g : Array GenState} {d : Drawn} {t : Nat} {os : OsState}
variable {nm q : Str} {C N : Addr} {bs bm : List Value} {hdct : Bool} {sn : List Str} {sub : List Value} {ab : Bool} {col : Option Bool} {dd : Option Addr} {k0 k1 k2 k3 k5 : Option Value} {B newId initId : String}
theorem check_newK (F : ExcBaseFacts B newId initId bm) {rest : List Value} {kw : List (Str × Value)} {Q : Unit → Shared → Prop} (hC : h.get? C = some (excClassObj nm q C N bs bm hdct sn sub ab col dd k0 k1 k2 k3 k5 newId))
    (hq : Q () ⟨h, g, d, t, os⟩) : wpAny M A (checkBuiltinCall newId ⟨.ref C :: rest, kw⟩) Q E ⟨h, g, d, t, os⟩ := by
  have inB : (Value.ref C :: bm).contains (.type B) = true := by rw [List.contains_cons, F.hasB, Bool.or_true]
  have star := F.noStar
  simp only [checkBuiltinCall, F.newKind, F.newSplit, F.newRow]
  repeat (first | refine wpAny_loadPart_at hC ?_ | (refine wpAny_isSubtype_exc hC ?_; rw [inB]) | refine wpAny_staticBase_exc hC ?_ | refine wpAny_madeBy_exc hC ?_ | simp only [bne_self_eq_false, Bool.false_eq_true, if_false] | wp_step)
  exact hq
end
section
variable {prog : Program} {w : World} {A : Around} {E : Value → Shared → Prop} {R : Result → Shared → Prop} {h : Heap} {g : Array GenState} {d : Drawn} {t : Nat} {os : OsState}
variable {nm q : Str} {C N : Addr} {bs bm : List Value} {hdct : Bool} {sn : List Str} {sub : List Value} {ab : Bool} {col : Option Bool} {dd : Option Addr} {k0 k1 k2 k3 k5 : Option Value} {B newId initId : String}
theorem new_ownK (F : ExcBaseFacts B newId initId bm) {rest : List Value} {kw : List (Str × Value)} (hC : h.get? C = some (excClassObj nm q C N bs bm hdct sn sub ab col dd k0 k1 k2 k3 k5 newId))
    (hq : R (.ok (.ret (.ref (h.objs.size + 1)))) ⟨(h.push (W.kdv_tup rest)).push (excO C h.objs.size), g, d, t, os⟩) (hrest : rest.length ≤ sizeLine) :
    codeAny (model prog w) A (.builtin newId ⟨.ref C :: rest, kw⟩) R ⟨h, g, d, t, os⟩ := by
  have fends := F.ends
  have cB : (Value.ref C :: bm).contains (.type B) = true := by rw [List.contains_cons, F.hasB, Bool.or_true]
  have cA : (Value.ref C :: bm).contains (.type "AttributeError") = false := by rw [List.contains_cons, F.noAttr]; rfl
  have cN : (Value.ref C :: bm).contains (.type "NameError") = false := by rw [List.contains_cons, F.noName]; rfl
  refine codeAny_builtinAt F.entry ?_
  unfold Builtin.«BaseException.__new__»
  refine wpAt_bind (show wpAt _ _ _ (stack >>= _) _ _ _ from wpAt_bind (wpAt_stack fun p below => wpAt_of_wpAny ?_))
  wp_walk
  refine wpAt_of_wpAny ?_
  rw [F.owner]
  repeat (first | with_reducible refine wpAny_madeHere_exc F.canon hC ?_ | with_reducible refine wpAny_loadPart_at hC ?_ | (with_reducible refine wpAny_isSubtype_exc hC ?_; first | rw [cB] | rw [cA] | rw [cN]) | wp_step)
  exact (show R _ _ by rw [Heap.size_push]; exact hq)
theorem check_callK {M : Model} {rest : List Value} {kw : List (Str × Value)} {Q : Unit → Shared → Prop} (hC : h.get? C = some (excClassObj nm q C N bs bm hdct sn sub ab col dd k0 k1 k2 k3 k5 newId)) (hq : Q () ⟨h, g, d, t, os⟩) : wpAny M A (checkBuiltinCall "type.__call__" ⟨.ref C :: rest, kw⟩) Q E ⟨h, g, d, t, os⟩ := by
  have own := tc_sub
  have typed : (⟨h, g, d, t, os⟩ : Shared).TypeIs (.ref C) "type" := ⟨_, hC, rfl⟩
  simp only [checkBuiltinCall, tc_kind, tc_split]
  repeat (any_goals (first | assumption | with_reducible refine wpAny_loadPart_at hC ?_ | with_reducible refine wpAny_onRaise ?_ | with_reducible refine wpAny_map ?_ | wp_step))
theorem type_callK (F : ExcBaseFacts B newId initId bm) {rest : List Value} {kw : List (Str × Value)} {fI : Addr} {Q : Fin → Shared → Prop} (hC : h.get? C = some (excClassObj nm q C N bs bm hdct sn sub ab col dd k0 k1 k2 k3 k5 newId))
    (hi : W.Looks (model prog w) h (typeLookup (.ref C) "__init__") (some (.ref fI))) (hb : ∀ self, W.Looks (model prog w) h (bindSpecial (.ref fI) self) (.ref fI, [self])) (hrest : rest.length ≤ sizeLine)
    (hq : codeAny (model prog w) A (.call (.ref fI) ⟨.ref (h.objs.size + 1) :: rest, kw⟩)
      (fun r s' => match r with | .ok (.ret v) => v = .none ∧ Q (.done (.ret (.ref (h.objs.size + 1)))) s' | .ok _ => False | .error e => E e s')
      ⟨(h.push (W.kdv_tup rest)).push (excO C h.objs.size), g, d, t, os⟩) :
    wpAny (model prog w) A (Builtin.«type.__call__» ⟨.ref C :: rest, kw⟩) Q E ⟨h, g, d, t, os⟩ := by
  repeat (first | with_reducible refine wpAny_loadPart_at hC ?_ | with_reducible refine wpAny_madeBy_exc hC ?_ | wp_step)
  refine codeAny_call_builtin_code (Code.quiet_builtin _ F.quiet) (check_newK F hC (new_ownK F hC (show wpAny _ _ _ _ _ _ from ?_) hrest))
  have kp : ∀ b o, h.get? b = some o → ((h.push (W.kdv_tup rest)).push (excO C h.objs.size)).get? b = some o := fun b o e => Heap.get?_push_of_some _ (Heap.get?_push_of_some _ e)
  have hC1 := kp _ _ hC
  have made : ((h.push (W.kdv_tup rest)).push (excO C h.objs.size)).get? (h.objs.size + 1) = some (excO C h.objs.size) := by heap_get
  have self1 : (Value.ref C :: bm).contains (.ref C) = true := by simp
  have looked := hi.keeps kp
  have bound := (hb (.ref (h.objs.size + 1))).keeps kp
  unfold isInstance
  repeat (first | with_reducible refine wpAny_loadPart_at made ?_ | (with_reducible refine wpAny_isSubtype_exc hC1 ?_; rw [self1]) | wp_step)
  refine (show wpAny _ _ (typeLookup (.ref C) _) _ _ _ from looked.at (wpAny_holding (wpAny_bind (bound.at (wpAny_bind (wpAny_call (codeAny_mono hq fun res s2 z => ?_)))))))
  match res, z with
  | .error e, z => exact z
  | .ok (.ret v), z =>
    obtain ⟨rfl, z⟩ := z
    first
      | exact wpAny_pure (wpAny_pure z)
      | (wp_walk; exact z)
  | .ok .next, z => exact z.elim
  | .ok .brk, z => exact z.elim
  | .ok .cont, z => exact z.elim
theorem call_ownK (F : ExcBaseFacts B newId initId bm) {rest : List Value} {kw : List (Str × Value)} {fI : Addr} (hC : h.get? C = some (excClassObj nm q C N bs bm hdct sn sub ab col dd k0 k1 k2 k3 k5 newId))
    (hi : W.Looks (model prog w) h (typeLookup (.ref C) "__init__") (some (.ref fI))) (hb : ∀ self, W.Looks (model prog w) h (bindSpecial (.ref fI) self) (.ref fI, [self])) (hrest : rest.length ≤ sizeLine)
    (hq : codeAny (model prog w) (A.under (.builtin "type.__call__" ⟨.ref C :: rest, kw⟩)) (.call (.ref fI) ⟨.ref (h.objs.size + 1) :: rest, kw⟩) (W.InitBack (h.objs.size + 1) R)
      ⟨(h.push (W.kdv_tup rest)).push (excO C h.objs.size), g, d, t, os⟩) :
    codeAny (model prog w) A (.call (.ref C) ⟨rest, kw⟩) R ⟨h, g, d, t, os⟩ := by
  have l1 := tc_lookup
  have l2 := tc_bind (.ref C)
  have hTy : (⟨h, g, d, t, os⟩ : Shared).TypeIs (.ref C) "type" := ⟨_, hC, rfl⟩
  refine codeAny_of_tree (show wpAny _ _ (callAny (.ref C) _) _ _ _ from ?_)
  repeat (any_goals (first | assumption | with_reducible refine wpAny_loadPart_at hC ?_ | wp_step))
  refine ⟨rfl, codeAny_call_builtin_at (Code.quiet_builtin _ (by decide +kernel)) entry_typeCall (check_callK hC (type_callK F hC hi hb hrest (codeAny_mono hq fun res s2 z => ?_)))⟩
  match res, z with
  | .error e, z => exact z
  | .ok (.ret v), z => exact z
  | .ok .next, z => exact z.elim
  | .ok .brk, z => exact z.elim
  | .ok .cont, z => exact z.elim
end
end VkX
end PySem
set_option Elab.async false
set_option maxRecDepth 100000
set_option maxHeartbeats 4000000
set_option linter.all false
namespace PySem
namespace VkX
open PySem.W PySem.Calls PyProof.Rows Builtin Builtin.ObjectAttr PySem.HandSPX
section
variable {prog : Program} {w : World} {A : Around} {E : Value → Shared → Prop} {R : Result → Shared → Prop} {hp : Heap} {g : Array GenState} {d : Drawn} {t : Nat} {os : OsState}
/-- object.__setattr__ on an exception of an own class, up to the store into its own dict -/
theorem osa_way {K : Frag} {name : Str} {tk : Tok} {v : Value} {x C : Addr} {ox : Obj} {od : Option Obj} {cd : ClassData} {B newId initId : String} {tl : List Value} (hB : ExB B newId initId tl)
    (X : K.In hp) (I : InstAt hp x ox C od) (hcd : clsIn K C = some cd) (hm : cd.mro = .ref C :: tl) (ha : findIn K (.ref C) name = some none)
    (hq : wpAny (model prog w) (A.under (.builtin "object.__setattr__" ⟨[.ref x, .str name tk, v], []⟩)) (storeInOwnDict (.ref x) (.ref C) (.str name tk) name v false)
      (fun fin s2 => match fin with | .done f => R (.ok f) s2 | .again c2 => c2.quiet = true ∧ codeAny (model prog w) A c2 R s2) (fun e s2 => R (.error e) s2) ⟨hp, g, d, t, os⟩) :
    codeAny (model prog w) A (.call (.builtin "object.__setattr__") ⟨[.ref x, .str name tk, v], []⟩) R ⟨hp, g, d, t, os⟩ := by
  have slot := F.store_object
  have some1 : cd.mro.isEmpty = false := by rw [hm]; rfl
  have obj1 : cd.mro.contains (.type "object") = true := by rw [hm, List.contains_cons, hB.obj, Bool.or_true]
  have within : Looks (model prog w) hp (isInstance (.ref x) (.type "object")) true := I.type.andThen (looks_mroIn X (by unfold mroIn; rw [hcd, Option.bind_some, if_neg (by rw [some1]; decide), obj1]))
  refine codeAny_call_builtin slot.slot.plain slot.entry (@check_slot (model prog w) _ _ ⟨hp, g, d, t, os⟩ "object.__setattr__" "object" "__setattr__" (.ref x) [.str name tk, v] [] _ slot.kind slot.split within (slot.args (.ref x) (.str name tk) v) ?_)
  have line : Looks (model prog w) hp (mroOf (.ref C)) cd.mro := (looks_clsIn X hcd).andThen .now
  rw [osa_eq, refuse_eq]
  refine wpAny_bind (wpAny_bind (I.type.at (wpAny_bind (line.at ?_))))
  rw [hm, refuseLoop_ref, hB.pass]
  exact wpAny_pure (wpAny_bind (I.type.at (wpAny_bind ((looks_findIn X ha).at (wpAny_bind ((show Looks (model prog w) hp (storeTaker? none) none from .now).at hq))))))
theorem osa_first {K : Frag} {name : Str} {tk : Tok} {v : Value} {x C : Addr} {fv : Array Value} {cd : ClassData} {B newId initId : String} {tl : List Value} (hB : ExB B newId initId tl)
    (X : K.In hp) (hx : hp.get? x = some { cls := .ref C, data := .fields fv }) (hcd : clsIn K C = some cd) (hm : cd.mro = .ref C :: tl) (hd : cd.hasDict = true) (ha : findIn K (.ref C) name = some none)
    (hq : ∀ h2 tk2 dx, (∀ b o, b ≠ x → hp.get? b = some o → h2.get? b = some o) → hp.objs.size ≤ dx → dx ≠ x → h2.get? x = some { cls := .ref C, dict := some dx, data := .fields fv } →
      h2.Ns1 dx (fun y => if y = name then some v else none) → R (.ok (.ret .none)) ⟨h2, g, d, tk2, os⟩) :
    codeAny (model prog w) A (.call (.builtin "object.__setattr__") ⟨[.ref x, .str name tk, v], []⟩) R ⟨hp, g, d, t, os⟩ := by
  refine osa_way hB X (ox := { cls := .ref C, data := .fields fv }) (od := none) ⟨hx, rfl, rfl, trivial⟩ hcd hm ha ?_
  have far : x ≠ hp.objs.size := Nat.ne_of_lt (Heap.lt_size hx)
  have whole : Looks (model prog w) hp (classData C) cd := looks_clsIn X hcd
  obtain ⟨c1, c2, c3, c4, c5, c6, c7, c8, c9, c10, c11⟩ := cd
  cases (show c6 = true from hd)
  unfold storeInOwnDict ownDictForStores
  repeat (first | with_reducible refine store_in_new ?_ ?_ | with_reducible refine wpAny_loadPart_at hx ?_ | with_reducible refine whole.at ?_ | wp_step)
  · exact ⟨_, #[], _, (Heap.get?_update_ne _ _ _ _ far.symm).trans (Heap.get?_push_at rfl rfl), rfl, fun e he => absurd he (by simp), fun _ => rfl⟩
  · intro h2 tk2 ns same
    have there : (hp.push { cls := .type "dict", data := .dict #[] }).get? x = some { cls := .ref C, data := .fields fv } := Heap.get?_push_of_some _ hx
    exact hq h2 tk2 hp.objs.size (fun b o hb ho => (same.2 b (Nat.ne_of_lt (Heap.lt_size ho))).trans ((Heap.get?_update_ne _ _ _ _ hb).trans (Heap.get?_push_of_some _ ho))) (Nat.le_refl _) far.symm
      ((same.2 x far).trans (Heap.get?_update_self _ there rfl)) ns
theorem osa_next {K : Frag} {name : Str} {tk : Tok} {v : Value} {x C dx : Addr} {fv : Array Value} {cd : ClassData} {m0 : Str → Option Value} {nl : List Str} {B newId initId : String} {tl : List Value} (hB : ExB B newId initId tl)
    (X : K.In hp) (hx : hp.get? x = some { cls := .ref C, dict := some dx, data := .fields fv }) (hns : hp.Ns1 dx m0) (hw : Within m0 nl) (hz : nl.length ≤ 1000) (hcd : clsIn K C = some cd) (hm : cd.mro = .ref C :: tl) (hd : cd.hasDict = true) (ha : findIn K (.ref C) name = some none)
    (hq : ∀ h2 tk2, (∀ b o, b ≠ dx → hp.get? b = some o → h2.get? b = some o) → h2.Ns1 dx (fun y => if y = name then some v else m0 y) → R (.ok (.ret .none)) ⟨h2, g, d, tk2, os⟩) :
    codeAny (model prog w) A (.call (.builtin "object.__setattr__") ⟨[.ref x, .str name tk, v], []⟩) R ⟨hp, g, d, t, os⟩ := by
  obtain ⟨oD, esD, epD, hoD, hdD, _⟩ := hns.count hw
  refine osa_way hB X (ox := { cls := .ref C, dict := some dx, data := .fields fv }) (od := some oD) ⟨hx, rfl, rfl, hoD⟩ hcd hm ha ?_
  have whole : Looks (model prog w) hp (classData C) cd := looks_clsIn X hcd
  obtain ⟨c1, c2, c3, c4, c5, c6, c7, c8, c9, c10, c11⟩ := cd
  cases (show c6 = true from hd)
  unfold storeInOwnDict ownDictForStores
  repeat (first | with_reducible refine PySem.OEX.store_in_old hns hw hz ?_ | with_reducible refine wpAny_loadPart_at hx ?_ | with_reducible refine whole.at ?_ | wp_step)
  intro h2 tk2 ns same
  exact hq h2 tk2 (fun b o hb ho => (same.2 b hb).trans ho) ns
end
end VkX
end PySem
namespace Vk
open L2 PySem PySem.Spec PyProof.Rows PySem.VkX
/-- what the written part says of an own exception class over one of the four -/
structure OexK (K : PySem.W.Frag) (C : Addr) : Prop where
  cls : ∃ B newId initId tl nm q N bs sn sub ab col dd k0 k1 k2 k3 k5, ExB B newId initId tl ∧ K.lookup C = some (excClassObj nm q C N bs tl true sn sub ab col dd k0 k1 k2 k3 k5 newId)
  sa : PySem.W.findIn K (.ref C) "__setattr__" = some (some (.builtin "object.__setattr__"))
  kC : PySem.W.keepIn K (.ref C) = true
  xf : XfC K C
  ic : ExcC K C
section
variable {X : Cx} {pins : List (Addr × Obj)} {σ : L2.St} {H : Hp} {s : Shared} {a C dx : Addr} {f : Str} {y : V} {u : Value} {fs : List (Str × V)} {Q : Unit → Shared → Prop} {E : Value → Shared → Prop} {A : Around}
theorem kst_first (T : OexK X.K C) (I : Inv X pins σ H s) (e : H a = some (exo a C none)) (hno : PySem.W.findIn X.K (.ref C) f = some none) (ry : RelV y u)
    (h : ∀ dx s2, H dx = none → dx ≠ a → Inv X pins σ (upd (upd H dx (exd dx [(f, y)])) a (exo a C (some dx))) s2 → Q () s2) : wpAny (model X.prog X.w) A (setAttr (.ref a) f u) Q E s := by
  obtain ⟨B, newId, initId, tl, nm, q, N, bs, sn, sub, ab, col, dd, k0, k1, k2, k3, k5, hB, hC⟩ := T.cls
  have hcl : PySem.W.clsIn X.K C = some { name := nm, bases := bs, mro := .ref C :: tl, ns := N, qualname := q, hasDict := true, slotNames := sn, subclasses := sub, abstract := ab, collection := col, hasDel := false } := by unfold PySem.W.clsIn; rw [hC] <;> rfl
  obtain ⟨t1, ho⟩ := exo_at I.hok e
  obtain ⟨hp, g, d, t, os⟩ := s
  refine PySem.W.set_plain I.kIn (ox := { cls := .ref C, dict := none, data := .fields #[.ref t1, .none, .none, .none, .bool false, .none] }) (od := none) ⟨ho, rfl, rfl, trivial⟩ T.sa ?_
  refine osa_first hB I.kIn ho hcl rfl rfl hno fun h2 tk2 dx kept low apart put ns => ?_
  have free1 : H dx = none := I.hok.fresh low
  have old1 : ∀ {b : Addr} {o : Obj}, hp.get? b = some o → b ≠ dx := fun z => Nat.ne_of_lt (Nat.lt_of_lt_of_le (Heap.lt_size z) low)
  have not1 : ∀ {b : Addr}, H b = none → b ≠ a := fun n z => nomatch (z ▸ n).symm.trans e
  have un1 : Un X.fs [] H (upd (upd H dx (exd dx [(f, y)])) a (exo a C (some dx))) hp h2 := {
    keep := fun b o z n _ _ => kept b o (not1 n) z
    slot := fun b o z n _ _ => ⟨o.slots, kept b o (not1 n) z⟩
    free := fun b o z n _ => (upd_ne (not1 n)).trans ((upd_ne (old1 z)).trans n)
    there := fun b o z _ => by
      by_cases hb : b = a
      · exact ⟨_, hb ▸ put⟩
      · exact ⟨o, kept b o hb z⟩
    tups := fun b xs z => (upd_ne (at_ne e z exo_tup)).trans ((upd_ne (ne_of_none z free1)).trans z)
    frzs := fun b o v z => (upd_ne (at_ne e z exo_frz)).trans ((upd_ne (ne_of_none z free1)).trans z)
    tbls := fun b ps z => ⟨#[], by rw [upd_ne (at_ne e z exo_tbl), upd_ne (ne_of_none z free1), z]; simp⟩ }
  refine h dx _ free1 apart (I.un (t' := tk2) un1 fun b o z => ?_)
  by_cases hb : b = a
  · subst hb
    rw [upd_same] at z
    cases z
    exact exo_ok put
  · rw [upd_ne hb] at z
    by_cases hd : b = dx
    · subst hd
      rw [upd_same] at z
      cases z
      exact exd_ok ns (relO_put (fs := []) ry fun g => True.intro)
    · rw [upd_ne hd] at z
      refine (I.hok b o z).stay (fun c v hc r => kept c v ?_ r) (fun c hc => (upd_ne (at_ne e hc exo_own)).trans ((upd_ne (ne_of_none hc free1)).trans hc)) (fun c xs hc => (upd_ne (at_ne e hc exo_tup)).trans ((upd_ne (ne_of_none hc free1)).trans hc))
      exact hc.elim (fun z => z ▸ hb) (fun z => at_ne e z exo_own)
theorem kst_next (T : OexK X.K C) (I : Inv X pins σ H s) (e : H a = some (exo a C (some dx))) (ed : H dx = some (exd dx fs)) (hl : fs.length ≤ 900) (hno : PySem.W.findIn X.K (.ref C) f = some none) (ry : RelV y u)
    (h : ∀ s2, Inv X pins σ (upd H dx (exd dx ((f, y) :: fs))) s2 → Q () s2) : wpAny (model X.prog X.w) A (setAttr (.ref a) f u) Q E s := by
  obtain ⟨B, newId, initId, tl, nm, q, N, bs, sn, sub, ab, col, dd, k0, k1, k2, k3, k5, hB, hC⟩ := T.cls
  have hcl : PySem.W.clsIn X.K C = some { name := nm, bases := bs, mro := .ref C :: tl, ns := N, qualname := q, hasDict := true, slotNames := sn, subclasses := sub, abstract := ab, collection := col, hasDel := false } := by unfold PySem.W.clsIn; rw [hC] <;> rfl
  obtain ⟨t1, ho⟩ := exo_at I.hok e
  obtain ⟨mA, hns, rel⟩ := exd_at I.hok ed
  have hw := within_of rel
  obtain ⟨hp, g, d, t, os⟩ := s
  obtain ⟨oD, _, _, hoD, _, _⟩ := hns.count hw
  refine PySem.W.set_plain I.kIn (ox := { cls := .ref C, dict := some dx, data := .fields #[.ref t1, .none, .none, .none, .bool false, .none] }) (od := some oD) ⟨ho, rfl, rfl, hoD⟩ T.sa ?_
  refine osa_next hB I.kIn ho hns hw (by rw [List.length_map]; omega) hcl rfl rfl hno fun h2 tk2 kept ns => ?_
  exact h _ (I.write (t' := tk2) (x := dx) (e := dx) (o := exd dx ((f, y) :: fs)) (by rw [ed]; exact True.intro) (.inl rfl) kept (match ns with | ⟨o, _, _, z, _⟩ => ⟨o, z⟩) (exd_ok ns (relO_put ry rel)))
end
/-- self.f = e on such an exception -/
def tOsk (K : PySem.W.Frag) (f : Str) (to te : TE) : TS := fun D σ H => te σ H fun y H1 => to σ H1 fun x H2 => ∃ a C : Addr, x = .ref a ∧ OexK K C ∧ PySem.W.findIn K (.ref C) f = some none ∧
  ((H2 a = some (exo a C none) ∧ ∀ dx, H2 dx = none → dx ≠ a → D.nx σ (upd (upd H2 dx (exd dx [(f, y)])) a (exo a C (some dx)))) ∨
    ∃ (dx : Addr) (fs : List (Str × V)), H2 a = some (exo a C (some dx)) ∧ H2 dx = some (exd dx fs) ∧ fs.length ≤ 900 ∧ D.nx σ (upd H2 dx (exd dx ((f, y) :: fs))))
/-- x.f, x such an exception -/
def tXk (K : PySem.W.Frag) (f : Str) (te : TE) : TE := fun σ H Q => te σ H fun x H1 => ∃ (a C d : Addr) (fs : List (Str × V)) (v : V), x = .ref a ∧ OexK K C ∧ PySem.W.findIn K (.ref C) f = some none ∧ H1 a = some (exo a C (some d)) ∧ H1 d = some (exd d fs) ∧ fs.lookup f = some v ∧ Q v H1
section
variable {X : Cx} {o e : Expr} {es : List Expr} {to te : TE} {ta : TA} {f : Str} {p p' p1 p2 pos : Pos}
theorem ps_osk (ho : PE X o to) (he : PE X e te) (hs : swapsWith e (some (.Attribute o f p')) pos.line X.env = pure false := by rfl) : PS X (.Assign [.Attribute o f p'] e pos) (tOsk X.K f to te) := by
  refine ⟨fun pins s σ H D I h => plainObj_wpAny_Assign_Attribute (thn (he.run pins s σ H _ I h) fun v s1 ⟨y, H1, I1, r1, q1⟩ => thn (ho.run pins s1 σ H1 _ I1 q1) fun u s2 ⟨x, H2, I2, r2, a, C, ex, T, hno, q⟩ => ?_) hs⟩
  subst ex
  obtain rfl : u = Value.ref a := r2
  exact q.elim (fun z => kst_first T I2 z.1 hno r1 fun dx s3 n ne J => ⟨σ, _, J, z.2 dx n ne⟩) (fun ⟨dx, fs, ea, ed, hl, z⟩ => kst_next T I2 ea ed hl hno r1 fun s3 J => ⟨σ, _, J, z⟩)
theorem pe_xk (he : PE X e te) (hb : attributeBase e f X.env (eval e X.env) = eval e X.env := by rfl) : PE X (.Attribute e f pos) (tXk X.K f te) := by
  refine ⟨fun pins s σ H Q I h => attr_of hb (thn (he.run pins s σ H _ I h) fun u s1 hh => ?_)⟩
  obtain ⟨x, H1, I1, rx, a, C, d, fs, v, ex, T, hno, ea, ed, l, q⟩ := hh
  subst ex
  obtain rfl : u = Value.ref a := rx
  obtain ⟨t1, ho⟩ := exo_at I1.hok ea
  obtain ⟨mA, hns, hr⟩ := exd_at I1.hok ed
  obtain ⟨od, hd, hl⟩ := lookIn_ns hns
  obtain ⟨u, hu, ru⟩ := RelO.some_of (v := v) (o := mA f) (l ▸ hr f)
  have J : PySem.W.InstAt s1.heap a { cls := .ref C, dict := some d, data := .fields #[.ref t1, .none, .none, .none, .bool false, .none] } C (some od) := ⟨ho, rfl, rfl, hd⟩
  exact HandSPX.exc_get I1.kIn J T.xf.ga T.xf.gg T.xf.exC (PySem.W.findObj_own T.xf.hdC hno rfl (by rw [hl, hu])) (handed_of ru) ⟨v, H1, I1.tok _, ru, q⟩
end
end Vk
set_option Elab.async false
set_option maxRecDepth 100000
set_option maxHeartbeats 4000000
set_option linter.all false
namespace Vk
open L2 PySem PySem.Spec PyProof.Rows PySem.VkX
/-- an exception of the class at C, with these fields, the last one stored first -/
def ExV (H : Hp) (a C : Addr) (fs : List (Str × V)) : Prop := (fs = [] ∧ H a = some (exo a C none)) ∨ ∃ d, H a = some (exo a C (some d)) ∧ H d = some (exd d fs)
theorem ExV.inst {X : Cx} {pins : List (Addr × Obj)} {σ : L2.St} {H : Hp} {s : Shared} {a C : Addr} {fs : List (Str × V)} (I : Inv X pins σ H s) (e : ExV H a C fs) : ∃ ox od, PySem.W.InstAt s.heap a ox C od := by
  rcases e with ⟨_, e⟩ | ⟨d, e, ed⟩
  · obtain ⟨t1, ho⟩ := exo_at I.hok e
    exact ⟨{ cls := .ref C, dict := none, data := .fields #[.ref t1, .none, .none, .none, .bool false, .none] }, none, ho, rfl, rfl, trivial⟩
  · obtain ⟨t1, ho⟩ := exo_at I.hok e
    obtain ⟨mA, hns, _⟩ := exd_at I.hok ed
    obtain ⟨od, hd, _⟩ := lookIn_ns hns
    exact ⟨{ cls := .ref C, dict := some d, data := .fields #[.ref t1, .none, .none, .none, .bool false, .none] }, some od, ho, rfl, rfl, hd⟩
/-- isinstance(e, c), e such an exception -/
def rIsX (K : PySem.W.Frag) : List V → Hp → VK → Prop := fun xs H Q => ∃ (a C : Addr) (fs : List (Str × V)) (c : V) (cv : Value) (b : Bool), xs = [.ref a, c] ∧ OexK K C ∧ ExV H a C fs ∧ ClsV c cv ∧ PySem.W.kitOne K (.ref C) cv = some b ∧ Q (.bl b) H
theorem call_isX {X : Cx} : CallR X (.builtin "isinstance") (rIsX X.K) := by
  intro pins s σ H xs us Q I r h
  obtain ⟨a, C, fs, c, cv, b, rfl, T, ev, k, e, q⟩ := h
  obtain ⟨u1, u2, rfl, r1, r2⟩ := vals2 r
  cases (show u1 = Value.ref a from r1)
  have same := k.eq r2
  subst same
  obtain ⟨ox, od, J⟩ := ev.inst I
  obtain ⟨B, newId, initId, tl, nm, q1, N, bs, sn, sub, ab, col, dd, k0, k1, k2, k3, k5, hB, hC⟩ := T.cls
  have hcl : (PySem.W.clsIn X.K C).isSome = true := by unfold PySem.W.clsIn; rw [hC] <;> rfl
  exact PySem.W.kia_one (PySem.W.kitx_exc hcl T.ic.hg T.ic.hk T.ic.hs T.ic.ha T.ic.hn T.ic.ht T.ic.hm) I.kIn J e (fun z => nomatch z) fun tk => ⟨.bl b, H, I.tok tk, rfl, q⟩
/-! ## making one -/
/-- __init__(self, f1, ..): the fields stored in their order -/
def spIni (C : Addr) (fsn : List Str) : Sp := fun vs H Q E => ∃ a ws, vs = .ref a :: ws ∧ ws.length = fsn.length ∧ H a = some (exo a C none) ∧
  (fsn = [] → Q .non H) ∧ (fsn ≠ [] → ∀ d, H d = none → d ≠ a → Q .non (upd (upd H d (exd d (fsn.zip ws).reverse)) a (exo a C (some d))))
structure ClsI (P : Program) (w : World) (K : PySem.W.Frag) (mg : Str → Option Value) (base : Heap) (k : Nat) (x : Str) (C : Addr) (fsn : List Str) : Prop where
  T : OexK K C
  hm : mg x = some (.ref C)
  no : ∀ f ∈ fsn, PySem.W.findIn K (.ref C) f = some none
  ex : ∃ (fI : Addr) (fd : FuncData), PySem.W.findIn K (.ref C) "__init__" = some (some (.ref fI)) ∧ PySem.W.typeIn K (.ref fI) = some (.type "function") ∧ FnG P w K mg base CX0 k fI fd (("self" : Str) :: fsn) (spIni C fsn) ∧ Binds K fd (("self" : Str) :: fsn) [] ∧
    (∀ (s : Shared) (v : Value) (ws : List Value), K.In s.heap → ws.length = fsn.length → BindsTo s fd ⟨[v], fsn.reverse.zip ws⟩ ((("self" : Str) :: fsn).zip (v :: ws.reverse)))
/-- the exception that was made of H: at a, and its dict -/
def Made (C : Addr) (fsn : List Str) (vs : List V) (H : Hp) (Q : VK) : Prop := ∀ a, H a = none → (fsn = [] → Q (.ref a) (upd H a (exo a C none))) ∧
  (fsn ≠ [] → ∀ d, H d = none → d ≠ a → Q (.ref a) (upd (upd H d (exd d (fsn.zip vs).reverse)) a (exo a C (some d))))
theorem upd_over {H : Hp} {a d : Addr} {o1 o2 o3 : HO} (h : d ≠ a) : upd (upd (upd H a o1) d o2) a o3 = upd (upd H d o2) a o3 := by
  funext b
  by_cases hb : b = a
  · subst hb; rw [upd_same, upd_same]
  · rw [upd_ne hb, upd_ne hb]
    by_cases hd : b = d
    · subst hd; rw [upd_same, upd_same]
    · rw [upd_ne hd, upd_ne hd, upd_ne hb]
section
variable {X : Cx} {j k : Nat} {x : Str} {C : Addr} {fsn : List Str} {p pos : Pos} {e : Expr} {es : List Expr} {t : TA}
theorem make_run {pins : List (Addr × Obj)} {σ : L2.St} {H : Hp} {s : Shared} {Q : VK} {us : List Value} {kw : List (Str × Value)} {vs : List V} {zs : List Value} (c : ClsI X.prog X.w X.K X.mg X.base k x C fsn) (hg : X.A.guards = some []) (hr : Room (k + 1) X.A) (hx : Passes CX0 X (fun _ _ _ => False))
    (I : Inv X pins σ H s) (hus : us.length ≤ sizeLine) (hl : vs.length = fsn.length) (r : Vals vs zs) (q : Made C fsn vs H Q)
    (hb : ∀ fI fd, PySem.W.findIn X.K (.ref C) "__init__" = some (some (.ref fI)) → Binds X.K fd (("self" : Str) :: fsn) [] → (∀ (s : Shared) (v : Value) (ws : List Value), X.K.In s.heap → ws.length = fsn.length → BindsTo s fd ⟨[v], fsn.reverse.zip ws⟩ ((("self" : Str) :: fsn).zip (v :: ws.reverse))) →
      ∀ s2 : Shared, X.K.In s2.heap → ∀ a : Addr, BindsTo s2 fd ⟨.ref a :: us, kw⟩ ((("self" : Str) :: fsn).zip (.ref a :: zs))) :
    codeAny (model X.prog X.w) X.A (.call (.ref C) ⟨us, kw⟩) (fun r s2 => match r with | .ok (.ret v) => EP X pins σ Q v s2 | .ok _ => False | .error e => X.xe e s2) s := by
  obtain ⟨fI, fd, iC, tI, F, hbn, hbk⟩ := c.ex
  obtain ⟨B, newId, initId, tl, nm, q1, N, bs, sn, sub, ab, col, dd, k0, k1, k2, k3, k5, hB, hC⟩ := c.T.cls
  obtain ⟨hp, g, dr, tk, os⟩ := s
  have big : hp.objs.size ≤ hp.objs.size + 1 := Nat.le_succ _
  have new1 : H (hp.objs.size + 1) = none := I.hok.fresh big
  have hq := q (hp.objs.size + 1) new1
  have kept : ∀ b o, hp.get? b = some o → ((hp.push (PySem.W.kdv_tup us)).push (PySem.HandSPX.excO C hp.objs.size)).get? b = some o := fun b o z => Heap.get?_push_of_some _ (Heap.get?_push_of_some _ z)
  have put : ((hp.push (PySem.W.kdv_tup us)).push (PySem.HandSPX.excO C hp.objs.size)).get? (hp.objs.size + 1) = some (PySem.HandSPX.excO C hp.objs.size) := by heap_get
  have I2 : Inv X pins σ (upd H (hp.objs.size + 1) (exo (hp.objs.size + 1) C none)) ⟨(hp.push (PySem.W.kdv_tup us)).push (PySem.HandSPX.excO C hp.objs.size), g, dr, tk, os⟩ :=
    I.laid (t' := tk) (a := hp.objs.size + 1) (o := exo (hp.objs.size + 1) C none) kept big (exo_ok put)
  have sp1 : spIni C fsn (V.ref (hp.objs.size + 1) :: vs) (upd H (hp.objs.size + 1) (exo (hp.objs.size + 1) C none)) (fun v H2 => v = .non ∧ Q (.ref (hp.objs.size + 1)) H2) (fun _ _ _ => False) := by
    refine ⟨_, vs, rfl, hl, upd_same, fun z => ⟨rfl, hq.1 z⟩, fun z d hd ne => ⟨rfl, ?_⟩⟩
    rw [upd_ne ne] at hd
    rw [upd_over ne]
    exact hq.2 z d hd ne
  refine call_ownK hB.F (I.kIn _ _ hC) (PySem.W.looks_findIn I.kIn iC) (fun self => PySem.W.bind_fn I.kIn self tI) hus
    (codeAny_mono (F.run _ X.stack _ _ _ (Value.ref (hp.objs.size + 1) :: zs) (V.ref (hp.objs.size + 1) :: vs) _ (fun _ _ _ => False) ?_ (hr.make C us kw) (I2.env0.make C us kw) (hb fI fd iC hbn hbk _ I2.kIn _) (.cons rfl r) sp1) fun res s3 hz => ?_)
  · first
      | exact hg
      | (simpa [Around.under, Code.isGuard, guardIds] using hg)
  · match res, hz with
    | .error er, hz => exact hx pins σ _ _ er s3 I2 hz
    | .ok (.ret u), hz =>
      obtain ⟨v, H2, I3, rv, ev, q3⟩ := I2.after hz
      subst ev
      exact ⟨rv, V.ref (hp.objs.size + 1), H2, I3, rfl, q3⟩
    | .ok .next, hz => exact hz.elim
    | .ok .brk, hz => exact hz.elim
    | .ok .cont, hz => exact hz.elim
def tMk (C : Addr) (fsn : List Str) (t : TA) : TE := fun σ H Q => t σ H fun vs H1 => vs.length = fsn.length ∧ Made C fsn vs H1 Q
def tMkW (C : Addr) (fsn : List Str) (t : TA) : TE := fun σ H Q => t σ H fun vs H1 => vs.length = fsn.length ∧ Made C fsn vs.reverse H1 Q
theorem few_len {n : Nat} (h : n ≤ 1000) : n ≤ sizeLine := Nat.le_trans h (by rw [sizeLine_eq]; decide)
theorem pe_mk (c : ClsI X.prog X.w X.K X.mg X.base k x C fsn) (hg : X.A.guards = some []) (hr : Room j X.A) (hk : k + 1 ≤ j) (hx : Passes CX0 X (fun _ _ _ => False)) (ha : PA X (e :: es) t) (hn : fsn.length ≤ 1000 := by decide) (gl : Gl X x := by rfl)
    (hdb : (x == ("__debug__" : Str)) = false := by decide) (he : starEach (e :: es) X.env = (false, eval e X.env) :: starEach es X.env := by rfl) (hpl : (backTo pos (starEach es X.env)).any (·.1) = false := by rfl) :
    PE X (.Call (.Name x p) (e :: es) [] pos) (tMk C fsn t) := by
  refine ⟨fun pins s σ H Q I h => wpAny_Call_Name_kw (ld_glob I gl c.hm (PySem.W.callWith_K (h₀ := X.base) I.ok.mod.kin c.T.kC (thn (ha.run pos pins s σ H _ I h) fun us s1 hh => ?_) he hpl) hdb)⟩
  obtain ⟨vs, H1, I1, r, hl, q⟩ := hh
  refine ⟨I1.kIn, wpAny_call (codeAny_mono (make_run c hg (hr.mono hk) hx I1 (few_len (show us.length ≤ 1000 by rw [← r.length, hl]; exact hn)) hl r q fun fI fd _ hbn _ s2 K2 a => ?_) fun res s2 z => ?_)⟩
  · have b := hbn s2 (.ref a :: us) K2 (by simpa using (r.length.symm.trans hl))
    rw [List.append_nil] at b
    exact b
  · match res, z with
    | .error er, z => exact z
    | .ok (.ret u), z => exact z
    | .ok .next, z => exact z.elim
    | .ok .brk, z => exact z.elim
    | .ok .cont, z => exact z.elim
theorem pe_mk0 (c : ClsI X.prog X.w X.K X.mg X.base k x C []) (hg : X.A.guards = some []) (hr : Room j X.A) (hk : k + 1 ≤ j) (hx : Passes CX0 X (fun _ _ _ => False)) (gl : Gl X x := by rfl)
    (hdb : (x == ("__debug__" : Str)) = false := by decide) : PE X (.Call (.Name x p) [] [] pos) (tMk C [] tNil) := by
  refine ⟨fun pins s σ H Q I h => wpAny_Call_Name_kw (ld_glob I gl c.hm (PySem.W.callWith_K0 I.kIn c.T.kC (wpAny_call (codeAny_mono (make_run (vs := []) c hg (hr.mono hk) hx I (few_len (by decide)) rfl .nil h.2 fun fI fd _ hbn _ s2 K2 a => ?_) fun res s2 z => ?_))) hdb)⟩
  · have b := hbn s2 [.ref a] K2 rfl
    rw [List.append_nil] at b
    exact b
  · match res, z with
    | .error er, z => exact z
    | .ok (.ret u), z => exact z
    | .ok .next, z => exact z.elim
    | .ok .brk, z => exact z.elim
    | .ok .cont, z => exact z.elim
theorem vals_back : ∀ {vs : List V} {ws : List Value}, Vals vs ws → Vals vs.reverse ws.reverse := fun r => vals_rev r
theorem pe_mkW {kws : List Keyword} {tk : TA} (c : ClsI X.prog X.w X.K X.mg X.base k x C fsn) (hg : X.A.guards = some []) (hr : Room j X.A) (hk : k + 1 ≤ j) (hx : Passes CX0 X (fun _ _ _ => False)) (hkw : PK X kws tk) (gl : Gl X x := by rfl)
    (hall : (backToKw pos (keywordEach kws X.env)).all (·.1.isSome) = true := by rfl) (hks : (backToKw pos (keywordEach kws X.env)).filterMap (·.1) = fsn.reverse := by rfl) (hdb : (x == ("__debug__" : Str)) = false := by decide)
    (hpl : ((backTo pos (starEach [] X.env)).any (·.1) || (backToKw pos (keywordEach kws X.env)).any (·.1.isNone)) = false := by rfl) :
    PE X (.Call (.Name x p) [] kws pos) (tMkW C fsn tk) := by
  refine ⟨fun pins s σ H Q I h => wpAny_Call_Name_kw (ld_glob I gl c.hm (PySem.W.callWith_KW0 (h₀ := X.base) I.ok.mod.kin c.T.kC hall (thn (hkw.run pos pins s σ H _ I h) fun ws s2 hh => ?_) hpl) hdb)⟩
  obtain ⟨vs, H2, I2, rz, l2, q2⟩ := hh
  refine ⟨I2.kIn, ?_⟩
  rw [hks]
  refine wpAny_call (codeAny_mono (make_run (us := []) (vs := vs.reverse) (zs := ws.reverse) c hg (hr.mono hk) hx I2 (few_len (by decide)) (by rw [List.length_reverse]; exact l2) (vals_back rz) q2 fun fI fd _ _ hbk s3 K3 a => hbk s3 _ ws K3 (rz.length.symm.trans l2)) fun res s3 z => ?_)
  match res, z with
  | .error er, z => exact z
  | .ok (.ret u), z => exact z
  | .ok .next, z => exact z.elim
  | .ok .brk, z => exact z.elim
  | .ok .cont, z => exact z.elim
end
end Vk
set_option Elab.async false
set_option maxRecDepth 100000
set_option maxHeartbeats 4000000
set_option linter.all false
namespace Vk
open L2 PySem PySem.Spec PyProof.Rows PySem.VkX
/-- the j-th statement of a class -/
def mtd (st : Stmt) (j : Nat) : Stmt := match st with
  | .ClassDef _ _ _ b _ _ _ _ _ _ _ => b.getD j (.Pass ⟨0, 0, 0, 0⟩)
  | _ => .Pass ⟨0, 0, 0, 0⟩
theorem no0 {P : Str → Prop} : ∀ f ∈ ([] : List Str), P f := fun _ h => nomatch h
theorem no1 {P : Str → Prop} {a : Str} (h : P a) : ∀ f ∈ ([a] : List Str), P f := fun f z => by
  rw [List.mem_singleton] at z
  exact z ▸ h
theorem no2 {P : Str → Prop} {a b : Str} (h : P a) (h2 : P b) : ∀ f ∈ ([a, b] : List Str), P f := fun f z => by
  rcases List.mem_cons.mp z with z | z
  · exact z ▸ h
  · rw [List.mem_singleton] at z
    exact z ▸ h2
/-- the class at C has the name x and these classes behind it -/
def ClsN (K : PySem.W.Frag) (C : Addr) (x : Str) (tl : List Value) : Prop := ∃ newId q N bs sn sub ab col dd k0 k1 k2 k3 k5, K.lookup C = some (excClassObj x q C N bs tl true sn sub ab col dd k0 k1 k2 k3 k5 newId)
structure ExcTxt (K : PySem.W.Frag) (x qual : Str) (st : Stmt) (C fI : Addr) (fd : FuncData) (fsn : List Str) (tl : List Value) : Prop where
  cn : ClsN K C x tl
  ns : PySem.W.nsIn K mainGlobals x = some (some (.ref C))
  T : OexK K C
  iC : PySem.W.findIn K (.ref C) "__init__" = some (some (.ref fI))
  tI : PySem.W.typeIn K (.ref fI) = some (.type "function")
  no : ∀ f ∈ fsn, PySem.W.findIn K (.ref C) f = some none
  fn : Fun K "__init__" qual st fI fd
theorem exc_mk {K : PySem.W.Frag} {x qual : Str} {st : Stmt} {C fI : Addr} {fsn : List Str} {B newId initId : String} {tl : List Value} {q : Str} {N : Addr} {bs : List Value} {sn : List Str} {sub : List Value} {ab : Bool} {col : Option Bool} {dd : Option Addr} {k0 k1 k2 k3 k5 : Option Value}
    {oc : Value} {od an : Option Addr} {sl : Array (Option Value)} {kV doc pm cd ct : Value} (hB : ExB B newId initId tl) (ns : PySem.W.nsIn K mainGlobals x = some (some (.ref C))) (iC : PySem.W.findIn K (.ref C) "__init__" = some (some (.ref fI)))
    (cls : K.lookup C = some (excClassObj x q C N bs tl true sn sub ab col dd k0 k1 k2 k3 k5 newId)) (sa : PySem.W.findIn K (.ref C) "__setattr__" = some (some (.builtin "object.__setattr__"))) (kC : PySem.W.keepIn K (.ref C) = true)
    (ga : PySem.W.findIn K (.ref C) "__getattribute__" = some (some (.builtin "BaseException.__getattribute__"))) (gg : PySem.W.findIn K (.ref C) "__getattr__" = some none) (ex : PySem.W.subIn K (.ref C) (.type "BaseException") = some true) (hd : PySem.W.hasDictIn K C = true)
    (ha : PySem.W.findIn K (.ref C) "__class__" = some (some (.builtin "object.__class__"))) (hn : PySem.W.specialIn K (.builtin "object.__class__") "__get__" = some (some (.builtin "getset_descriptor.__get__"))) (ht : PySem.W.takesIn K (.builtin "object.__class__") = some true)
    (hm : PySem.W.mroIn K C (.type "object") = some true) (tI : PySem.W.typeIn K (.ref fI) = some (.type "function")) (kI : PySem.W.keepIn K (.ref fI) = true) (no : ∀ f ∈ fsn, PySem.W.findIn K (.ref C) f = some none)
    (l : K.lookup fI = some ⟨oc, od, .func (PySem.W.fnOf "__init__" qual (defArgs st) (defBody st) (defScope st) .none kV doc pm an cd ct), sl⟩) (c : PySem.W.codeIn K cd qual = true) :
    ExcTxt K x qual st C fI (PySem.W.fnOf "__init__" qual (defArgs st) (defBody st) (defScope st) .none kV doc pm an cd ct) fsn tl := by
  exact ⟨⟨newId, q, N, bs, sn, sub, ab, col, dd, k0, k1, k2, k3, k5, cls⟩, ns, ⟨⟨B, newId, initId, tl, x, q, N, bs, sn, sub, ab, col, dd, k0, k1, k2, k3, k5, hB, cls⟩, sa, kC, ⟨ga, gg, ex, hd⟩, ⟨ga, gg, ex, hd, ha, hn, ht, hm⟩⟩, iC, tI, no, fun_mk l c kI⟩
section
variable {P : Program} {w : World} {K : PySem.W.Frag} {mg : Str → Option Value} {base h : Heap} {x qual f f2 : Str} {st : Stmt} {C fI : Addr} {fd : FuncData} {p1 p2 p3 p4 q1 q2 q3 q4 : Pos}
theorem ClsI.of0 {tl : List Value} (G : ExcTxt K x qual st C fI fd [] tl) (KX : K.In h) (Gn : h.Ns mainGlobals mg) (F : FnG P w K mg base CX0 1 fI fd [("self" : Str)] (spIni C []))
    (hb : ∀ (kV doc pm : Value) (an : Option Addr) (cdv ct v : Value), bindArgs (PySem.W.fnOf "__init__" qual (defArgs st) (defBody st) (defScope st) .none kV doc pm an cdv ct) ⟨[v], []⟩ = pure [(("self" : Str), v)]) : ClsI P w K mg base 1 x C [] where
  T := G.T
  hm := PySem.W.mg_of KX Gn G.ns
  no := G.no
  ex := ⟨fI, fd, G.iC, G.tI, F, G.fn.binds fun kV doc pm an cdv ct us hl => match us, hl with | [v], _ => hb kV doc pm an cdv ct v, fun s v ws KI hl => by
    cases ws with
    | cons _ _ => cases hl
    | nil =>
      obtain ⟨oc, od, kV, doc, pm, an, cdv, ct, osl, rfl, lk, hcd⟩ := G.fn.ex
      exact .of_eq (hb kV doc pm an cdv ct v)⟩
theorem ClsI.of1 {tl : List Value} (G : ExcTxt K x qual st C fI fd [f] tl) (KX : K.In h) (Gn : h.Ns mainGlobals mg) (F : FnG P w K mg base CX0 1 fI fd [("self" : Str), f] (spIni C [f]))
    (hb : ∀ (kV doc pm : Value) (an : Option Addr) (cdv ct v y : Value), bindArgs (PySem.W.fnOf "__init__" qual (defArgs st) (defBody st) (defScope st) .none kV doc pm an cdv ct) ⟨[v, y], []⟩ = pure [(("self" : Str), v), (f, y)])
    (hk : ∀ (kV doc pm : Value) (an : Option Addr) (cdv ct v y : Value), bindArgs (PySem.W.fnOf "__init__" qual (defArgs st) (defBody st) (defScope st) .none kV doc pm an cdv ct) ⟨[v], [((f : Str), y)]⟩ = pure [(("self" : Str), v), (f, y)]) : ClsI P w K mg base 1 x C [f] where
  T := G.T
  hm := PySem.W.mg_of KX Gn G.ns
  no := G.no
  ex := ⟨fI, fd, G.iC, G.tI, F, G.fn.binds fun kV doc pm an cdv ct us hl => match us, hl with | [v, y], _ => hb kV doc pm an cdv ct v y, fun s v ws KI hl => by
    match ws, hl with
    | [y], _ =>
      obtain ⟨oc, od, kV, doc, pm, an, cdv, ct, osl, rfl, lk, hcd⟩ := G.fn.ex
      exact .of_eq (hk kV doc pm an cdv ct v y)⟩
theorem ClsI.of2 {tl : List Value} (G : ExcTxt K x qual st C fI fd [f, f2] tl) (KX : K.In h) (Gn : h.Ns mainGlobals mg) (F : FnG P w K mg base CX0 1 fI fd [("self" : Str), f, f2] (spIni C [f, f2]))
    (hb : ∀ (kV doc pm : Value) (an : Option Addr) (cdv ct v y z : Value), bindArgs (PySem.W.fnOf "__init__" qual (defArgs st) (defBody st) (defScope st) .none kV doc pm an cdv ct) ⟨[v, y, z], []⟩ = pure [(("self" : Str), v), (f, y), (f2, z)])
    (hk : ∀ (kV doc pm : Value) (an : Option Addr) (cdv ct v y z : Value), bindArgs (PySem.W.fnOf "__init__" qual (defArgs st) (defBody st) (defScope st) .none kV doc pm an cdv ct) ⟨[v], [(f2, z), (f, y)]⟩ = pure [(("self" : Str), v), (f, y), (f2, z)]) : ClsI P w K mg base 1 x C [f, f2] where
  T := G.T
  hm := PySem.W.mg_of KX Gn G.ns
  no := G.no
  ex := ⟨fI, fd, G.iC, G.tI, F, G.fn.binds fun kV doc pm an cdv ct us hl => match us, hl with | [v, y, z], _ => hb kV doc pm an cdv ct v y z, fun s v ws KI hl => by
    match ws, hl with
    | [z, y], _ =>
      obtain ⟨oc, od, kV, doc, pm, an, cdv, ct, osl, rfl, lk, hcd⟩ := G.fn.ex
      exact .of_eq (hk kV doc pm an cdv ct v y z)⟩
end
end Vk
namespace Vk
open L2 PySem PySem.Spec PyProof.Rows PySem.VkX
theorem two_upd {H : Hp} {a d : Addr} {o1 o2 o3 : HO} (h : d ≠ a) : upd (upd (upd H d o1) a o2) d o3 = upd (upd H d o3) a o2 := by
  funext b
  by_cases hb : b = d
  · subst hb; rw [upd_same, upd_ne h, upd_same]
  · rw [upd_ne hb]
    by_cases ha : b = a
    · subst ha; rw [upd_same, upd_same]
    · rw [upd_ne ha, upd_ne ha, upd_ne hb, upd_ne hb]
end Vk
set_option Elab.async false
set_option maxRecDepth 100000
set_option maxHeartbeats 4000000
set_option linter.all false
namespace Vk
open L2 PySem PySem.Spec PyProof.Rows PySem.VkX
/-! ## values that are shown, dicts among them -/
inductive Atm : V → PyData → Prop
  | non : Atm .non .none
  | bl (b : Bool) : Atm (.bl b) (.bool b)
  | int (i : Int) : Atm (.int i) (.int i)
  | str (x : Str) : Atm (.str x) (.str x)
def kvS (ps : List (Str × Str)) : List (Key × V) := ps.map fun p => (Sum.inr p.1, V.str p.2)
def kvD (ps : List (Str × Str)) : List (PyData × PyData) := ps.map fun p => (.str p.1, .str p.2)
/-- one level deep -/
inductive Th (H : Hp) : V → PyData → Prop
  | atm {v : V} {d : PyData} : Atm v d → Th H v d
  | lst {a : Addr} {xs : List V} {ds : List PyData} : H a = some (.lst xs) → a ≠ sysModules → Paired Atm xs ds → Th H (.ref a) (.list ds)
  | tup {a : Addr} {xs : List V} {ds : List PyData} : H a = some (.tup xs) → Paired Atm xs ds → Th H (.ref a) (.tuple ds)
  | dct {a : Addr} {ps : List (Str × Str)} : H a = some (.dK (kvS ps)) → Th H (.ref a) (.dict (kvD ps))
theorem Th.keep {H H' : Hp} {v : V} {d : PyData} (h : Th H v d) (k : ∀ a o, H a = some o → H' a = some o) : Th H' v d := by
  cases h with
  | atm h => exact .atm h
  | lst e n h => exact .lst (k _ _ e) n h
  | tup e h => exact .tup (k _ _ e) h
  | dct e => exact .dct (k _ _ e)
section
variable {X : Cx} {pins : List (Addr × Obj)} {σ : L2.St} {H : Hp} {s : Shared}
theorem Atm.reads {h : Heap} {v : V} {u : Value} {d : PyData} (a : Atm v d) (r : RelV v u) : Reads h u d [] ∧ d.hasDict = false := by
  cases a with
  | non => cases r; exact ⟨Reads.none, by simp only [PyData.hasDict]⟩
  | bl b => cases r; exact ⟨Reads.bool b, by simp only [PyData.hasDict]⟩
  | int i => obtain ⟨t, rfl⟩ := r; exact ⟨Reads.int i t, by simp only [PyData.hasDict]⟩
  | str x => obtain ⟨t, rfl⟩ := r; exact ⟨Reads.str x t, by simp only [PyData.hasDict]⟩
theorem atms_reads {h : Heap} : ∀ {vs : List V} {ds : List PyData} {us : List Value}, Paired Atm vs ds → Vals vs us → ReadsAll h us ds [] ∧ PyData.hasDictAll ds = false
  | _, _, _, .nil, .nil => ⟨ReadsAll.nil, by simp only [PyData.hasDictAll]⟩
  | _, _, _, .cons a t, .cons r rs => by
    obtain ⟨h1, n1⟩ := a.reads (h := h) r
    obtain ⟨h2, n2⟩ := atms_reads (h := h) t rs
    exact ⟨ReadsAll.cons h1 h2, by simp only [PyData.hasDictAll, n1, n2, Bool.or_false]⟩
theorem strs_read {P : Program} {w : World} {h : Heap} : ∀ {ps : List (Str × Str)} {vs : List (Key × Value)} {es : List DictEntry}, KV (kvS ps) vs → Pairs (mixKind P w) es vs →
    ReadsAll h (es.map (·.key)) ((kvD ps).map (·.1)) [] ∧ ReadsAll h (es.map (·.val)) ((kvD ps).map (·.2)) []
  | [], _, _, .nil, .nil => ⟨ReadsAll.nil, ReadsAll.nil⟩
  | p :: ps, _, _, .cons a t, .cons k v r => by
    obtain ⟨h1, h2⟩ := strs_read (P := P) (w := w) (h := h) (ps := ps) t r
    obtain ⟨e1, e2⟩ := a
    rw [mixKind_is, ← e1] at k
    obtain ⟨y, ey⟩ := (show ∃ y, _ = Value.str p.2 y from e2)
    rcases keyIs_shape k with ⟨i, t, z, _⟩ | ⟨x, t, z, z2⟩
    · cases z
    · cases z
      refine ⟨?_, ?_⟩
      · have q := ReadsAll.cons (Reads.str (h := h) p.1 t) h1
        rw [← z2] at q
        exact q
      · have q := ReadsAll.cons (Reads.str (h := h) p.2 y) h2
        rw [← ey, ← v] at q
        exact q
theorem Th.reads (I : Inv X pins σ H s) {v : V} {u : Value} {d : PyData} (h : Th H v d) (r : RelV v u) : ∃ as, Reads s.heap u d as ∧ sysModules ∉ as := by
  cases h with
  | atm a =>
    obtain ⟨h1, n⟩ := a.reads (h := s.heap) r
    exact ⟨_, h1, List.not_mem_nil⟩
  | lst e ne a =>
    cases r
    obtain ⟨its, rv, ⟨o, n, ho, hc, _, hd⟩, _⟩ := I.list (SqL.of e)
    obtain ⟨h1, n1⟩ := atms_reads (h := s.heap) a rv
    exact ⟨_, Reads.list ho hc hd h1, fun z => by simp at z; exact ne z.symm⟩
  | tup e a =>
    cases r
    obtain ⟨its, rv, ⟨o, ho, hc, n, hd⟩, _⟩ := I.tuple (SqT.of e)
    obtain ⟨h1, n1⟩ := atms_reads (h := s.heap) a rv
    exact ⟨_, Reads.tuple ho hc hd h1, List.not_mem_nil⟩
  | @dct a ps e =>
    cases r
    obtain ⟨_, ne, vs, kv, o, es, ep, ho, ex, hd, _, pr, _⟩ := (show ObjOk X.prog X.w H s.heap a (.dK (kvS ps)) from I.hok a _ e)
    obtain ⟨h1, h2⟩ := strs_read (h := s.heap) kv pr
    refine ⟨_, Reads.dict ho ex.1 hd h1 h2, fun hm => ?_⟩
    have z : sysModules = a := by simpa using hm
    rw [← z] at ne
    exact absurd ne (by decide)
/-- what is handed to repr -/
def Shw (H : Hp) (x : V) (d : PyData) : Prop := Th H x d ∨ ∃ q y e, x = .ref q ∧ H q = some (.lst [y, y]) ∧ q ≠ sysModules ∧ Th H y e ∧ d = .list [e, e]
theorem Shw.reads (I : Inv X pins σ H s) {v : V} {u : Value} {d : PyData} (h : Shw H v d) (r : RelV v u) : ∃ as, Reads s.heap u d as ∧ (d.hasDict = true → sysModules ∉ as) := by
  rcases h with h | ⟨q, y, d, rfl, e, ne, t, rfl⟩
  · obtain ⟨as, h1, n1⟩ := h.reads I r
    exact ⟨as, h1, fun _ => n1⟩
  · cases r
    obtain ⟨its, rv, ⟨o, n, ho, hc, _, hd⟩, _⟩ := I.list (SqL.of e)
    cases rv with
    | cons r1 rv =>
      cases rv with
      | cons r2 rv =>
        cases rv
        obtain ⟨as, h1, n1⟩ := t.reads I r1
        obtain ⟨bs, h2, n2⟩ := t.reads I r2
        refine ⟨_, Reads.list ho hc hd (ReadsAll.cons h1 (ReadsAll.cons h2 ReadsAll.nil)), fun z => ?_⟩
        simp only [PyData.hasDict, PyData.hasDictAll, Bool.or_false, Bool.or_self] at z
        have m1 := n1
        have m2 := n2
        simp only [List.append_nil, List.mem_cons, List.mem_append, not_or]
        exact ⟨fun w => ne w.symm, m1, m2⟩
end
section
variable {X : Cx} {es : List Expr} {pos : Pos} {t : TA}
theorem call_reprT (hg : X.A.guards = some []) (hu : X.A.units + 64 < cLine) : CallR X (.builtin "repr") (fun xs H Q => ∃ x d, xs = [x] ∧ Shw H x d ∧ d.showable = true ∧ d.depth ≤ 60 ∧ d.shown.length ≤ sizeLine ∧ Q (.str d.shown) H) := by
  intro pins s σ H xs us Q I r h
  obtain ⟨x, d, rfl, hd, hs, hdp, hz, q⟩ := h
  cases r with
  | cons r1 r2 =>
  cases r2
  obtain ⟨as, rd, nm⟩ := hd.reads I r1
  have far : ∀ {a : Addr}, Reads s.heap (.ref a) d as → wpAny (model X.prog X.w) X.A (call (.builtin "repr") [.ref a]) (EP X pins σ Q) X.xe s := fun rd => repr_of_reads' rd hs nm hg (by omega) (fun _ _ e => e) (fun h2 u tk hk => ⟨V.str _, H, I.kept hk, ⟨u, rfl⟩, q⟩) hz
  rcases hd with h | ⟨p, y, e, rfl, _⟩
  · cases h with
    | atm a =>
      cases a with
      | non => cases r1; exact PySem.P.repr_of_none ⟨V.str _, H, I.tok _, ⟨_, rfl⟩, q⟩
      | bl b => cases r1; exact PySem.P.repr_of_bool ⟨V.str _, H, I.tok _, ⟨_, rfl⟩, q⟩
      | int i =>
        obtain ⟨t, rfl⟩ := r1
        exact PySem.P.repr_of_int (of_decide_eq_true hs) ⟨V.str _, H, I.tok _, ⟨_, rfl⟩, q⟩
      | str z =>
        obtain ⟨t, rfl⟩ := r1
        exact PySem.P.repr_of_str ⟨V.str _, H, I.tok _, ⟨_, rfl⟩, q⟩ hz
    | lst e n h => cases r1; exact far rd
    | tup e h => cases r1; exact far rd
    | dct e => cases r1; exact far rd
  · cases r1; exact far rd
/-- [e, ..]: the new list does not stand where the modules do -/
def tLs1 (t : TA) : TE := fun σ H Q => t σ H fun xs H1 => xs.length ≤ sizeLine ∧ ∀ p, H1 p = none → p ≠ sysModules → Q (.ref p) (upd H1 p (.lst xs))
theorem pe_ls1 (h : PA X es t) : PE X (.List es pos) (tLs1 t) := by
  refine ⟨fun pins s σ H Q I hq => wpAny_List_spliced (thn (h.run pos pins s σ H _ I hq) fun us s1 ⟨xs, H1, I1, r, z, q⟩ => ⟨r.length ▸ z, ?_⟩)⟩
  have free1 : H1 s1.heap.objs.size = none := I1.hok.fresh (Nat.le_refl _)
  obtain ⟨o, _, _, ho, _⟩ := I1.mod.glob
  have big : mainGlobals < s1.heap.objs.size := Heap.lt_size (I1.bk _ _ ho)
  have ne : s1.heap.objs.size ≠ sysModules := fun z => by
    rw [z] at big
    exact absurd big (by decide)
  exact ⟨.ref s1.heap.objs.size, _, I1.laid (t' := s1.toks) (o := .lst xs) (fun b u e => Heap.get?_push_of_some _ e) (Nat.le_refl _) ⟨z, us, 0, r, Heap.get?_push_size _ rfl⟩, rfl, q _ free1 ne⟩
end
end Vk
set_option Elab.async false
set_option maxRecDepth 100000
set_option maxHeartbeats 4000000
set_option linter.all false
namespace Vk
open L2 PySem PySem.Spec PyProof.Rows PySem.VkX
/-! ## isinstance among own exception classes -/
section
variable {K : PySem.W.Frag} {C D : Addr} {x y : Str} {tl tl2 : List Value}
theorem ClsN.cls (c : ClsN K C x tl) : ∃ cd, PySem.W.clsIn K C = some cd ∧ cd.name = x ∧ cd.mro = .ref C :: tl ∧ PySem.W.typeIn K (.ref C) = some (.type "type") := by
  obtain ⟨newId, q, N, bs, sn, sub, ab, col, dd, k0, k1, k2, k3, k5, e⟩ := c
  refine ⟨{ name := x, bases := bs, mro := .ref C :: tl, ns := N, qualname := q, hasDict := true, slotNames := sn, subclasses := sub, abstract := ab, collection := col, hasDel := false }, ?_, rfl, rfl, ?_⟩
  · unfold PySem.W.clsIn; rw [e] <;> rfl
  · show (K.lookup C).map (·.cls) = _
    rw [e] <;> rfl
theorem ClsN.inj (c : ClsN K C x tl) (d : ClsN K D y tl2) : (C == D) = true → x = y := by
  intro h
  have e : C = D := by simpa using h
  subst e
  obtain ⟨cd, h1, h2, _⟩ := c.cls
  obtain ⟨ce, g1, g2, _⟩ := d.cls
  cases h1.symm.trans g1
  exact h2.symm.trans g2
/-- what stands at a name is one class -/
structure One (K : PySem.W.Frag) (C : Addr) (x : Str) (tl : List Value) : Prop where
  cn : ClsN K C x tl
  ns : PySem.W.nsIn K mainGlobals x = some (some (.ref C))
  rf : tl.all (fun v => match v with | .type _ => true | _ => false) = true
theorem notIn_types {l : List Value} (h : l.all (fun v => match v with | .type _ => true | _ => false) = true) : l.contains (.ref D) = false := by
  induction l with
  | nil => rfl
  | cons a r ih =>
    rw [List.all_cons, Bool.and_eq_true] at h
    rw [List.contains_cons, ih h.2, Bool.or_false]
    cases a <;> first | rfl | (exact absurd h.1 (by simp)) | simp
theorem kit_one (c : One K C x tl) (d : One K D y tl2) : PySem.W.kitOne K (.ref C) (.ref D) = some (x == y) := by
  obtain ⟨cd, h1, h2, h3, h4⟩ := c.cn.cls
  obtain ⟨ce, g1, g2, g3, g4⟩ := d.cn.cls
  unfold PySem.W.kitOne
  by_cases e : C = D
  · subst e
    have exy : x = y := c.cn.inj d.cn (by simp)
    rw [if_pos (by simp), exy]
    simp
  · have ne : ¬ ((Value.ref C == Value.ref D) = true) := by simpa using e
    have nxy : (x == y) = false := by
      rw [beq_eq_false_iff_ne]
      rintro rfl
      have z := c.ns.symm.trans d.ns
      cases z
      exact e rfl
    rw [if_neg ne, nxy]
    show (if ((PySem.W.clsIn K D).isSome && PySem.W.typeIn K (.ref D) == some (.type "type")) = true then PySem.W.subIn K (.ref C) (.ref D) else none) = some false
    rw [if_pos (by rw [g1, g4]; simp)]
    show PySem.W.mroIn K C (.ref D) = some false
    unfold PySem.W.mroIn
    rw [h1, Option.bind_some, h3, if_neg (by simp), List.contains_cons, notIn_types c.rf]
    have ne2 : (Value.ref D == Value.ref C) = false := by
      rw [beq_eq_false_iff_ne]
      rintro z
      exact e (Value.ref.inj z).symm
    rw [ne2]
    rfl
theorem kit_type {T : String} (c : One K C x tl) (hT : PySem.W.kitMeta T = true) : PySem.W.kitOne K (.ref C) (.type T) = some (tl.contains (.type T)) := by
  obtain ⟨cd, h1, h2, h3, h4⟩ := c.cn.cls
  unfold PySem.W.kitOne
  have far : ¬ ((Value.ref C == Value.type T) = true) := fun z => nomatch (beq_iff_eq.mp z)
  rw [if_neg far]
  show (if PySem.W.kitMeta T = true then PySem.W.subIn K (.ref C) (.type T) else none) = _
  rw [if_pos hT]
  show PySem.W.mroIn K C (.type T) = _
  unfold PySem.W.mroIn
  rw [h1, Option.bind_some, h3, if_neg (by simp), List.contains_cons]
  have ne : (Value.type T == Value.ref C) = false := beq_eq_false_iff_ne.mpr (fun z => nomatch z)
  rw [ne, Bool.false_or]
end
/-! ## list.count -/
theorem count_eqU {x : V} : ∀ {xs : List V} {us : List Value}, Vals xs us → xs.all flatV = true → us.countP (eqU x) = xs.countP fun y => eqV y x
  | _, _, .nil, _ => rfl
  | _, _, .cons r t, f => by
    rw [List.all_cons, Bool.and_eq_true] at f
    rw [List.countP_cons, List.countP_cons, count_eqU t f.2, eqU_of r f.1]
theorem mt_countL {X : Cx} : MtR X "list.count" (fun x vs H Q => ∃ a ys y, x = .ref a ∧ vs = [y] ∧ SqL X.K H a ys ∧ flatV y = true ∧ ys.all flatV = true ∧ Q (.int (ys.countP fun z => eqV z y : Nat)) H) := by
  intro pins s σ H x xs v us Q I rx rxs h
  obtain ⟨a, ys, y, rfl, rfl, hs, fy, fys, q⟩ := h
  cases rx
  cases rxs with
  | cons ry rt =>
    rename_i uy ut
    cases rt
    obtain ⟨its, rv, ⟨⟨cls, dd, data, sl⟩, n, ho, hc, hdn, hd⟩, hlen⟩ := I.list hs
    simp only at hc hd
    subst hc hd
    refine call_meets PySem.F.slot_list_count ⟨_, ho, rfl⟩ PySem.F.entry_list_count (PySem.F.args_list_count_2 _ _) (SeqAt.list_countAt a its.toArray n dd sl uy (eqU y)) ⟨ho, fun w hw => mem_eqAt ry fy rv fys w (by simpa using hw), ?_⟩
    have e : its.toArray.toList.countP (eqU y) = ys.countP fun z => eqV z y := by rw [← count_eqU rv fys]
    rw [e]
    exact ⟨.int _, H, I.tok _, ⟨_, rfl⟩, q⟩
/-! ## a comprehension over zip of two lists of one length -/
theorem lc_zip {K : PySem.W.Frag} {a b : Addr} {xs ys : List V} {g : TG} {tt : TT} {te : TE} {vs : List Nat} {σ : L2.St} {H1 : Hp} {D : Addr} {Qd : Hp → Prop} (len : xs.length = ys.length) (Pv : Nat → Hp → Prop) (h0 : Pv 0 (upd H1 D (.lst []))) (hl : ∀ i H, Pv i H → SqL K H a xs ∧ SqL K H b ys)
    (hs : ∀ i x y T H, xs[i]? = some x → ys[i]? = some y → Pv i H → H T = none → g (.ref T) (wipe σ vs) (upd H T (.tup [x, y])) fun σ2 H2 => wipe σ2 vs = wipe σ vs ∧ tt σ2 H2 fun c H3 =>
      if c = true then te σ2 H3 fun z H4 => ∃ acc, H4 D = some (.lst acc) ∧ acc.length < sizeLine ∧ Pv (i + 1) (upd H4 D (.lst (acc ++ [z]))) else Pv (i + 1) H3) (hd : ∀ H, Pv xs.length H → Qd H) :
    ∃ W : Nat → Nat → Hp → Prop, (∃ m, W 0 m (upd H1 D (.lst []))) ∧ ∀ i m H, W i m H →
      ((Itz K a b).stop i H ∧ Qd H) ∨ ((Itz K a b).go i H ∧ ∃ Nx : Hp → Prop, (∀ H', Nx H' → ∃ m', m' < m ∧ W (i + 1) m' H') ∧ ∀ x H', (Itz K a b).yld i H x H' → g x (wipe σ vs) H' fun σ2 H2 => wipe σ2 vs = wipe σ vs ∧ tt σ2 H2 fun c H3 =>
        if c = true then te σ2 H3 fun z H4 => ∃ acc, H4 D = some (.lst acc) ∧ acc.length < sizeLine ∧ Nx (upd H4 D (.lst (acc ++ [z]))) else Nx H3) := by
  refine ⟨fun i m H => m = xs.length - i ∧ i ≤ xs.length ∧ Pv i H, ⟨xs.length, rfl, Nat.zero_le _, h0⟩, ?_⟩
  rintro i m H ⟨rfl, hi, p⟩
  obtain ⟨qx, qy⟩ := hl i H p
  by_cases lt : i < xs.length
  · have fx : xs[i]? = some xs[i] := List.getElem?_eq_getElem lt
    have fy : ys[i]? = some (ys[i]'(len ▸ lt)) := List.getElem?_eq_getElem (len ▸ lt)
    refine .inr ⟨⟨xs, ys, _, _, qx, qy, fx, fy⟩, Pv (i + 1), fun H2 p2 => ⟨xs.length - (i + 1), by omega, rfl, lt, p2⟩, fun v H2 w => ?_⟩
    obtain ⟨T, x2, y2, rfl, hT, rfl, f1, f2⟩ := w
    exact hs i x2 y2 T H (f1 xs qx) (f2 ys qy) p hT
  · have e : i = xs.length := by omega
    subst e
    exact .inl ⟨⟨xs, ys, qx, qy, Or.inl (Nat.le_refl _)⟩, hd H p⟩
end Vk
set_option Elab.async false
set_option maxRecDepth 100000
set_option maxHeartbeats 4000000
set_option linter.all false
namespace Vk
open L2 PySem PySem.Spec PyProof.Rows PySem.VkX
/-! ## what is laid, told by what it shows -/
theorem Same.rfl {H : Hp} : Same H H := fun _ _ h => h
theorem Same.trans {H H1 H2 : Hp} (a : Same H H1) (b : Same H1 H2) : Same H H2 := fun c o h => b c o (a c o h)
def MkA (t : TE) (d : PyData) : Prop := ∃ v, Atm v d ∧ ∀ σ H Q, Q v H → t σ H Q
def MkAs (t : TA) (ds : List PyData) : Prop := ∃ vs, Paired Atm vs ds ∧ ∀ σ H Q, Q vs H → t σ H Q
def Mk (t : TE) (d : PyData) : Prop := ∀ σ H Q, (∀ v H', Same H H' → Th H' v d → Q v H') → t σ H Q
def Mks (t : TA) (ds : List PyData) : Prop := ∀ σ H Q, (∀ vs H', Same H H' → Paired (Th H') vs ds → Q vs H') → t σ H Q
section
variable {t te : TE} {ta : TA} {d : PyData} {ds : List PyData}
theorem ma_non : MkA (tC .non) .none := ⟨_, .non, fun _ _ _ q => q⟩
theorem ma_bl {b : Bool} : MkA (tC (.bl b)) (.bool b) := ⟨_, .bl b, fun _ _ _ q => q⟩
theorem ma_int {i : Int} : MkA (tC (.int i)) (.int i) := ⟨_, .int i, fun _ _ _ q => q⟩
theorem ma_str {x : Str} : MkA (tC (.str x)) (.str x) := ⟨_, .str x, fun _ _ _ q => q⟩
theorem ma_neg {i : Int} : MkA (tUn (rU fun i => V.int (-i)) (tC (.int i))) (.int (-i)) := ⟨_, .int (-i), fun _ _ _ q => ⟨i, rfl, q⟩⟩
theorem ma_pow {i j : Int} (h : CPow i j) : MkA (tOp (rI CPow fun i j => V.int (i ^ j.toNat)) (tC (.int i)) (tC (.int j))) (.int (i ^ j.toNat)) := ⟨_, .int _, fun _ _ _ q => ⟨i, j, rfl, rfl, h, q⟩⟩
theorem ma_mul {z : Str} {n : Int} (h : CMulS z n) : MkA (tOp rMulS (tC (.str z)) (tC (.int n))) (.str (Txt.mul z n)) := ⟨_, .str _, fun _ _ _ q => ⟨z, n, rfl, rfl, h, q⟩⟩
theorem mas_nil : MkAs tNil [] := ⟨[], .nil, fun _ _ _ q => q⟩
theorem mas_cons (a : MkA te d) (b : MkAs ta ds) : MkAs (tCons te ta) (d :: ds) := by
  obtain ⟨v, h1, h2⟩ := a
  obtain ⟨vs, g1, g2⟩ := b
  exact ⟨v :: vs, .cons h1 g1, fun σ H Q q => h2 σ H _ (g2 σ H _ q)⟩
theorem mk_atm (a : MkA te d) : Mk te d := by
  obtain ⟨v, h1, h2⟩ := a
  exact fun σ H Q q => h2 σ H Q (q v H Same.rfl (.atm h1))
theorem paired_len {α β : Type} {R : α → β → Prop} : ∀ {xs : List α} {ys : List β}, Paired R xs ys → xs.length = ys.length
  | _, _, .nil => rfl
  | _, _, .cons _ t => congrArg (· + 1) (paired_len t)
theorem mk_tup (a : MkAs ta ds) (hl : ds.length ≤ 1000) : Mk (tTup ta) (.tuple ds) := by
  obtain ⟨vs, g1, g2⟩ := a
  exact fun σ H Q q => g2 σ H _ ⟨few_len ((paired_len g1).symm ▸ hl), fun p hp => q _ _ (same_new hp) (.tup upd_same g1)⟩
theorem mk_lst (a : MkAs ta ds) (hl : ds.length ≤ 1000) : Mk (tLs1 ta) (.list ds) := by
  obtain ⟨vs, g1, g2⟩ := a
  exact fun σ H Q q => g2 σ H _ ⟨few_len ((paired_len g1).symm ▸ hl), fun p hp np => q _ _ (same_new hp) (.lst upd_same np g1)⟩
theorem mk_dnew : Mk tDNewK (.dict (kvD [])) := fun σ H Q q p hp => q _ _ (same_new hp) (.dct upd_same)
theorem mk_disp {a b : Str} : Mk (tDisp [(tC (.str a), tC (.str b))]) (.dict (kvD [(a, b)])) := by
  intro σ H Q q p hp
  refine ⟨upd_same, [(Sum.inr a, V.str b)], rfl, by show 1 ≤ 15; decide, ?_⟩
  refine q _ _ (fun c o h => ?_) (.dct (ps := [(a, b)]) upd_same)
  rw [upd_ne (ne_of_none h hp), upd_ne (ne_of_none h hp)]
  exact h
theorem mks_nil : Mks tNil [] := fun σ H Q q => q [] H Same.rfl .nil
theorem ths_keep {H H' : Hp} (k : Same H H') : ∀ {vs : List V} {ds : List PyData}, Paired (Th H) vs ds → Paired (Th H') vs ds
  | _, _, .nil => .nil
  | _, _, .cons a t => .cons (a.keep k) (ths_keep k t)
theorem mks_cons (a : Mk te d) (b : Mks ta ds) : Mks (tCons te ta) (d :: ds) := fun σ H Q q => a σ H _ fun v H1 s1 t1 => b σ H1 _ fun vs H2 s2 t2 => q _ _ (s1.trans s2) (.cons (t1.keep s2) t2)
/-- a list of such values -/
theorem mk_many (a : Mks ta ds) (hl : ds.length ≤ 1000) {σ : L2.St} {H : Hp} {Q : VK} (q : ∀ p xs H', Same H H' → H' p = some (.lst xs) → Paired (Th H') xs ds → Q (.ref p) H') : tLst ta σ H Q :=
  a σ H _ fun vs H1 s1 t1 => ⟨few_len ((paired_len t1).symm ▸ hl), fun p hp => q p vs _ (s1.trans (same_new hp)) upd_same (ths_keep (same_new hp) t1)⟩
theorem paired_app {α β : Type} {R : α → β → Prop} : ∀ {xs : List α} {ys : List β} {us : List α} {vs : List β}, Paired R xs ys → Paired R us vs → Paired R (xs ++ us) (ys ++ vs)
  | _, _, _, _, .nil, b => b
  | _, _, _, _, .cons a t, b => .cons a (paired_app t b)
theorem paired_mem {α β : Type} {R : α → β → Prop} : ∀ {xs : List α} {ys : List β} {x : α}, Paired R xs ys → x ∈ xs → ∃ y, y ∈ ys ∧ R x y
  | _, _, _, .cons a t, h => by
    rcases List.mem_cons.mp h with rfl | h
    · exact ⟨_, List.mem_cons_self, a⟩
    · obtain ⟨y, h1, h2⟩ := paired_mem t h
      exact ⟨y, List.mem_cons_of_mem _ h1, h2⟩
theorem sqL_same {H : Hp} {p : Addr} {xs : List V} {K : PySem.W.Frag} (h : H p = some (.lst xs)) : SqL K H p xs := SqL.of h
end
/-- nothing of such a value is the pen -/
theorem Th.ext {H H' : Hp} {p c : Addr} {T : Nat} {v : V} {d : PyData} (h : Th H v d) (hp : Pen H p c T) (x : Ext p H H') : Th H' v d := by
  obtain ⟨ns, t, l, hpp, _⟩ := hp.ex
  cases h with
  | atm a => exact .atm a
  | lst e n a => exact .lst (x _ _ e (fun z => by rw [z, hpp] at e; cases e)) n a
  | tup e a => exact .tup (x _ _ e (fun z => by rw [z, hpp] at e; cases e)) a
  | @dct a ps e =>
    refine .dct (x _ _ e (fun z => ?_))
    rw [z, hpp] at e
    have e2 : penL c t l = kvS ps := HO.dK.inj (Option.some.inj e)
    match ps, e2 with
    | [], e2 => cases e2
    | q :: r, e2 =>
      have z := congrArg (fun l => (l.head?).map (·.2)) e2
      cases z
end Vk
namespace Vk
open L2 PySem PySem.Spec PyProof.Rows PySem.VkX
theorem seq_asg {te : TE} {g : TG} {u : TS} {D : Ends} {σ : L2.St} {H : Hp} (h : te σ H fun v H1 => g v σ H1 (u D)) : tSeq (tAsg te g) u D σ H := h
end Vk
namespace Vk
open L2 PySem PySem.Spec PyProof.Rows PySem.VkX
def okB (d : PyData) : Bool := d.showable && decide (d.depth ≤ 60) && decide (d.shown.length ≤ 1000) && (PyData.list [d, d]).showable && decide ((PyData.list [d, d]).depth ≤ 60) && decide ((PyData.list [d, d]).shown.length ≤ 10000)
end Vk
set_option Elab.async false
set_option maxRecDepth 100000
set_option maxHeartbeats 4000000
set_option linter.all false
namespace Vk
open L2 PySem PySem.Spec PyProof.Rows PySem.VkX
/-! ## several except clauses, with a name or without -/
abbrev Sui := Addr → Value → Option Addr → TS
inductive Clz
  | only (c : Value) (ts : Sui)
  | named (c : Value) (i : Nat) (ts : Sui)
/-- the ends of a suite whose name lies in slot i: the name is gone behind it -/
def gone (D : Ends) (i : Nat) : Ends := { nx := fun σ H => D.nx (σ.set i none) H, rt := D.rt, bk := fun σ H => D.bk (σ.set i none) H, ct := fun σ H => D.ct (σ.set i none) H }
def wEach (K : PySem.W.Frag) (W0 : WX) (D : Ends) : List Clz → WX
  | [] => W0
  | .only c ts :: r => fun cls d σ H => ∃ b, PySem.W.exmOne K cls c = some b ∧ (b = true → ∀ a, H a = none → ts a cls d D σ H) ∧ (b = false → wEach K W0 D r cls d σ H)
  | .named c i ts :: r => fun cls d σ H => ∃ b, PySem.W.exmOne K cls c = some b ∧ (b = true → ∀ a, H a = none → ts a cls d (gone D i) (σ.set i (some (.ref a))) H) ∧ (b = false → wEach K W0 D r cls d σ H)
def SuiOk (X : Cx) (ss : List Stmt) (ts : Sui) : Prop := ∀ (a : Addr) (oe : Obj) (cls : Value) (d : Option Addr) (pn : List (Addr × Obj)), Zc cls d oe → (∃ vs, oe.data = .fields vs) → PSs (X.suite a ((a, oe) :: pn)) ss (ts a cls d)
inductive ClzOk (X : Cx) : List ExceptHandler → List Clz → Prop
  | nil : ClzOk X [] []
  | only {x : Str} {c : Value} {ts : Sui} {s0 : Stmt} {ss : List Stmt} {p1 p2 : Pos} {hs : List ExceptHandler} {l : List Clz} (hc : Names X x c) (su : SuiOk X (s0 :: ss) ts) (r : ClzOk X hs l) : ClzOk X (.ExceptHandler (some (.Name x p1)) none (s0 :: ss) p2 :: hs) (.only c ts :: l)
  | named {x n : Str} {c : Value} {i : Nat} {ts : Sui} {s0 : Stmt} {ss : List Stmt} {p1 p2 : Pos} {hs : List ExceptHandler} {l : List Clz} (hi : X.N[i]? = some n) (hl : X.env.kindOf n = some .local) (hc : Names X x c) (su : SuiOk X (s0 :: ss) ts) (r : ClzOk X hs l) :
      ClzOk X (.ExceptHandler (some (.Name x p1)) (some n) (s0 :: ss) p2 :: hs) (.named c i ts :: l)
section
variable {X : Cx} {body : List Stmt} {e0 : ExceptHandler} {es : List ExceptHandler} {l : List Clz} {pos : Pos} {tb : WX → TS} {W0 : WX}
theorem ps_try_each (hs : X.stack = X.env :: X.outer) (hf : X.env.frame = some X.env.locals) (hN : X.N.Nodup) (tk : Takes X W0)
    (hb : ∀ (W : WX) (pn : List (Addr × Obj)) (xe : Value → Shared → Prop), Takes (X.tr pn xe) W → PassesOwn (model X.prog X.w) X.A X.env xe → PSs (X.tr pn xe) body (tb W))
    (hh : ClzOk X (e0 :: es) l) : PS X (.Try body (e0 :: es) [] [] pos) (fun D σ H => tb (wEach X.K W0 D l) D σ H) := by
  constructor
  intro pins s σ H D I h
  have fine := I.ok
  have frames : X.A.frames = some (X.env :: X.outer) := fine.frames.trans (by rw [hs])
  let caught : Value → Shared → Prop := fun e t1 => wpAny (model X.prog X.w) X.A (noteFrame e X.env) (fun _ t2 => wpAny (model X.prog X.w) X.A (setFlight e none) (fun _ t3 => wpAny (model X.prog X.w) X.A (handleBy e X.env (e0 :: es)) (SP X pins D) X.xe t3) X.xe t2) X.xe t1
  have taken : Takes (X.tr (X.pn ++ pins) caught) (wEach X.K W0 D l) := by
    rintro u t1 ⟨a, B, sI, pins1, σ1, H1, cls, d, rfl, J0, ground, up, sky, na, os, ag, wish⟩
    have J : Inv X pins σ1 H1 sI := J0.ofTry fine
    have sky1 : Sky B (X.env :: X.outer) a (Zc cls d) X.env.locals t1.heap := hs ▸ sky
    show wpAny (model X.prog X.w) X.A (noteFrame (.ref a) X.env) _ _ _
    refine Sky.land Zc.steady frames hf sky1 fun h3 fl3 up3 => ?_
    have J3 : Inv X pins σ1 H1 { t1 with heap := h3 } := J.landed ground fl3.1 (up.trans up3) os ag
    obtain ⟨o3, v3, at3, z3, dat3⟩ := fl3.there
    have apart : a ∉ frs (X.env :: X.outer) := by
      intro hm
      obtain ⟨_, o, eo, plain⟩ := fl3.2.2.1.mem hm
      rw [at3] at eo
      cases eo
      exact plain _ dat3
    have notLoc : a ≠ X.env.locals := fun z => apart (List.mem_filterMap.mpr ⟨X.env, List.mem_cons_self, hf.trans (congrArg some z.symm)⟩)
    have notFs : a ∉ X.fs := fun hm => match List.mem_filterMap.mp hm with | ⟨e, he, q⟩ => apart (List.mem_filterMap.mpr ⟨e, List.mem_cons_of_mem _ he, q⟩)
    have S3 := J3.suite at3 dat3 na notLoc notFs
    have typed : PySem.W.Looks (model X.prog X.w) h3 (typeOf (.ref a)) cls := fun A Q E s k q => wpAny_typeOf_ref (k _ _ at3) (z3.1.symm ▸ q)
    have asked : ∀ {x : Str} {c : Value} {p1 : Pos} {Q : Value → Shared → Prop} {E : Value → Shared → Prop}, Names X x c → Q c { t1 with heap := h3 } → wpAny (model X.prog X.w) (X.A.mark (some (.ref a))) (eval (.Name x p1) X.env) Q E { t1 with heap := h3 } := by
      rintro x c p1 Q E ⟨g1, g2, g3⟩ q
      rcases g3 with g3 | ⟨g3, g4, g5⟩
      · exact ld_glob (X := X.suite a ((a, o3) :: (X.pn ++ pins))) S3 g1 g3 q g2
      · exact ld_blt (X := X.suite a ((a, o3) :: (X.pn ++ pins))) S3 g1 g3 g4 q g5 g2
    have walk : ∀ {hs1 : List ExceptHandler} {l1 : List Clz}, ClzOk X hs1 l1 → wEach X.K W0 D l1 cls d σ1 H1 → wpAny (model X.prog X.w) X.A (handleBy (.ref a) X.env hs1) (SP X pins D) X.xe { t1 with heap := h3 } := by
      intro hs1 l1 ok1
      induction ok1 with
      | nil =>
        intro w
        refine wpAny_handleBy_nil ?_
        obtain ⟨_, _, _, oe, vs, tr, _, _, he, _, hd, first1, _⟩ := id fl3
        unfold PySem.passOn
        refine wpAny_bind (wpAny_field he hd first1 ?_)
        rw [if_neg (show ¬ ((Value.ref tr == Value.none) = true) from by simp)]
        have out : wpAny (model X.prog X.w) X.A (setFlight (.ref a) X.env.frame) (fun _ t4 => wpAny (model X.prog X.w) X.A (throw (.ref a) : Sem Flow) (SP X pins D) X.xe t4) X.xe { t1 with heap := h3 } := by
          rw [hf]
          exact HandSPX.setFlight_upZ fl3 fun h4 held up4 => wpAny_throw (tk _ _ ⟨a, B, sI, pins, σ1, H1, cls, d, rfl, J, ground, (up.trans up3).trans up4, .inr (.inr (hs.symm ▸ held)), na, os, ag, w⟩)
        first
          | exact wpAny_bind (wpAny_pure (wpAny_bind out))
          | exact wpAny_bind out
      | only hc su r ih =>
        rintro ⟨b, m, yes, no⟩
        refine wpAny_handleBy_cons (codeAny_handlers_test (asked hc ((PySem.W.exm_one (M := model X.prog X.w) J3.kIn typed m).here ?_))) (by intro q; cases q)
        cases b with
        | false => exact ih (no rfl)
        | true =>
          refine codeAny_handlers_suite (HandSPX.lands_againZ fl3 fun h4 fl4 up4 => ?_)
          have J4 : Inv X pins σ1 H1 { t1 with heap := h4 } := J.landed ground fl4.1 ((up.trans up3).trans up4) os ag
          obtain ⟨o4, v4, at4, z4, dat4⟩ := fl4.there
          have S4 := J4.suite at4 dat4 na notLoc notFs
          refine wpAny_mono ((su a o4 cls d (X.pn ++ pins) z4 ⟨_, dat4⟩).run [] _ _ H1 _ S4 (yes rfl a na)) (fun f t6 sp => ?_) (fun _ _ z => z.elim)
          match f, sp with
          | .next, ⟨σ6, H6, S6, q6⟩ => exact ⟨_, _, S6.unsuite fine, q6⟩
          | .brk, ⟨σ6, H6, S6, q6⟩ => exact ⟨_, _, S6.unsuite fine, q6⟩
          | .cont, ⟨σ6, H6, S6, q6⟩ => exact ⟨_, _, S6.unsuite fine, q6⟩
          | .ret u, ⟨v6, σ6, H6, S6, r6, q6⟩ => exact ⟨_, _, _, S6.unsuite fine, r6, q6⟩
      | @named x n c i ts s0 ss p1 p2 hs2 l2 hi hl hc su r ih =>
        rintro ⟨b, m, yes, no⟩
        refine wpAny_handleBy_cons (codeAny_handlers_test (asked hc ((PySem.W.exm_one (M := model X.prog X.w) J3.kIn typed m).here ?_))) (by intro q; cases q)
        cases b with
        | false => exact ih (no rfl)
        | true =>
          refine codeAny_handlers_suite_as (HandSPX.lands_againZ fl3 fun h4 fl4 up4 => ?_)
          have J4 : Inv X pins σ1 H1 { t1 with heap := h4 } := J.landed ground fl4.1 ((up.trans up3).trans up4) os ag
          obtain ⟨o4, v4, at4, z4, dat4⟩ := fl4.there
          have S4 := J4.suite at4 dat4 na notLoc notFs
          refine store_ok (X := X.suite a ((a, o4) :: (X.pn ++ pins))) (v := .ref a) S4 hN hi (.inl hl) rfl (fun t5 S5 => ?_) (.inr hl)
          refine wpAny_mono ((su a o4 cls d (X.pn ++ pins) z4 ⟨_, dat4⟩).run [] t5 _ H1 _ S5 (yes rfl a na)) (fun f t6 sp => ?_) (fun _ _ z => z.elim)
          have drop1 : ∀ {σ6 : L2.St} {H6 : Hp} {Q : Shared → Prop}, Inv (X.suite a ((a, o4) :: (X.pn ++ pins))) [] σ6 H6 t6 → (∀ t7, Inv X pins (σ6.set i none) H6 t7 → Q t7) → wpAny (model X.prog X.w) X.A (do bindName X.env n .none; unbindBehindTheSuite X.env n p2) (fun _ t7 => Q t7) X.xe t6 := fun S6 hq => gone_ok (S6.unsuite fine) hN hi hl hq
          match f, sp with
          | .next, ⟨σ6, H6, S6, q6⟩ => exact drop1 S6 fun t7 J7 => ⟨_, _, J7, q6⟩
          | .brk, ⟨σ6, H6, S6, q6⟩ => exact drop1 S6 fun t7 J7 => ⟨_, _, J7, q6⟩
          | .cont, ⟨σ6, H6, S6, q6⟩ => exact drop1 S6 fun t7 J7 => ⟨_, _, J7, q6⟩
          | .ret u, ⟨v6, σ6, H6, S6, r6, q6⟩ => exact drop1 S6 fun t7 J7 => ⟨_, _, _, J7, r6, q6⟩
    exact walk hh wish
  refine wpAny_Try_except (wpAny_mono ((hb (wEach X.K W0 D l) (X.pn ++ pins) caught taken PassesOwn.looking).run [] s σ H D (I.toTry _) h) (fun f t1 sp => ?_) (fun e t1 he => he))
  match f, sp with
  | .next, ⟨σ1, H1, J, q⟩ => exact wpAny_execs_nil ⟨σ1, H1, J.ofTry fine, q⟩
  | .brk, ⟨σ1, H1, J, q⟩ => exact ⟨σ1, H1, J.ofTry fine, q⟩
  | .cont, ⟨σ1, H1, J, q⟩ => exact ⟨σ1, H1, J.ofTry fine, q⟩
  | .ret u, ⟨v, σ1, H1, J, r, q⟩ => exact ⟨v, σ1, H1, J.ofTry fine, r, q⟩
end
end Vk
set_option Elab.async false
set_option maxRecDepth 100000
set_option maxHeartbeats 4000000
set_option linter.all false
namespace Vk
open L2 PySem PySem.Spec PyProof.Rows PySem.VkX
/-! ## C(e, ..) to be raised -/
theorem oex_type {K : PySem.W.Frag} {C : Addr} (T : OexK K C) : PySem.W.typeIn K (.ref C) = some (.type "type") := by
  obtain ⟨B, newId, initId, tl, nm, q1, N, bs, sn, sub, ab, col, dd, k0, k1, k2, k3, k5, hB, hC⟩ := T.cls
  show (K.lookup C).map (·.cls) = _
  rw [hC] <;> rfl
def tMkE (C : Addr) (fsn : List Str) (ta : TA) : L2.St → Hp → XK → Prop := fun σ H Q => ta σ H fun vs H1 => vs.length = fsn.length ∧ ∀ d, H1 d = none → Q (.ref C) (some d) (upd H1 d (.xd (fsn.zip vs).reverse))
theorem let_go {H : Hp} {a d : Addr} {o1 o2 o3 : HO} (n : H a = none) (ne : d ≠ a) : upd (del (upd (upd H d o1) a o2) a) d o3 = upd H d o3 := by
  funext b
  by_cases hd : b = d
  · subst hd; rw [upd_same, upd_same]
  · rw [upd_ne hd, upd_ne hd]
    by_cases ha : b = a
    · subst ha; rw [del_same, n]
    · rw [del_ne ha, upd_ne ha, upd_ne hd]
section
variable {X : Cx} {j k : Nat} {x : Str} {C : Addr} {fsn : List Str} {p pos : Pos} {e : Expr} {es : List Expr} {t : TA}
theorem pmk_k (c : ClsI X.prog X.w X.K X.mg X.base k x C fsn) (hg : X.A.guards = some []) (hr : Room j X.A) (hk : k + 1 ≤ j) (hx : Passes CX0 X (fun _ _ _ => False)) (ha : PA X (e :: es) t) (hn : fsn.length ≤ 1000 := by decide) (h0 : fsn ≠ [] := by decide) (gl : Gl X x := by rfl)
    (hdb : (x == ("__debug__" : Str)) = false := by decide) (he : starEach (e :: es) X.env = (false, eval e X.env) :: starEach es X.env := by rfl) (hpl : (backTo pos (starEach es X.env)).any (·.1) = false := by rfl) :
    PMk X (.Call (.Name x p) (e :: es) [] pos) (tMkE C fsn t) := by
  intro pins s σ H Q I h
  refine wpAny_Call_Name_kw (ld_glob I gl c.hm (PySem.W.callWith_K (h₀ := X.base) I.ok.mod.kin c.T.kC (thn (ha.run pos pins s σ H _ I h) fun us s1 hh => ?_) he hpl) hdb)
  obtain ⟨vs, H1, I1, r, hl, q⟩ := hh
  refine ⟨I1.kIn, ?_⟩
  show wpAny _ _ (call (.ref C) us) _ _ _
  have hus : us.length ≤ sizeLine := few_len (by rw [← r.length, hl]; exact hn)
  obtain ⟨fI, fd, iC, tI, F, hbn, hbk⟩ := c.ex
  obtain ⟨B, newId, initId, tl, nm, q1, N, bs, sn, sub, ab, col, dd, k0, k1, k2, k3, k5, hB, hC⟩ := c.T.cls
  obtain ⟨hp, g, dr, tk, os⟩ := s1
  have big : hp.objs.size ≤ hp.objs.size + 1 := Nat.le_succ _
  have new1 : H1 (hp.objs.size + 1) = none := I1.hok.fresh big
  have kept : ∀ b o, hp.get? b = some o → ((hp.push (PySem.W.kdv_tup us)).push (PySem.HandSPX.excO C hp.objs.size)).get? b = some o := fun b o z => Heap.get?_push_of_some _ (Heap.get?_push_of_some _ z)
  have put : ((hp.push (PySem.W.kdv_tup us)).push (PySem.HandSPX.excO C hp.objs.size)).get? (hp.objs.size + 1) = some (PySem.HandSPX.excO C hp.objs.size) := by heap_get
  have I2 : Inv X pins σ (upd H1 (hp.objs.size + 1) (exo (hp.objs.size + 1) C none)) ⟨(hp.push (PySem.W.kdv_tup us)).push (PySem.HandSPX.excO C hp.objs.size), g, dr, tk, os⟩ :=
    I1.laid (t' := tk) (a := hp.objs.size + 1) (o := exo (hp.objs.size + 1) C none) kept big (exo_ok put)
  have sp1 : spIni C fsn (V.ref (hp.objs.size + 1) :: vs) (upd H1 (hp.objs.size + 1) (exo (hp.objs.size + 1) C none))
      (fun v H2 => v = .non ∧ ∃ d, H1 d = none ∧ d ≠ hp.objs.size + 1 ∧ H2 = upd (upd H1 d (exd d (fsn.zip vs).reverse)) (hp.objs.size + 1) (exo (hp.objs.size + 1) C (some d))) (fun _ _ _ => False) := by
    refine ⟨_, vs, rfl, hl, upd_same, fun z => absurd z h0, fun z d hd ne => ⟨rfl, d, ?_, ne, upd_over ne⟩⟩
    rw [upd_ne ne] at hd
    exact hd
  have bound := hbn ⟨(hp.push (PySem.W.kdv_tup us)).push (PySem.HandSPX.excO C hp.objs.size), g, dr, tk, os⟩ (.ref (hp.objs.size + 1) :: us) I2.kIn (by simpa using (r.length.symm.trans hl))
  rw [List.append_nil] at bound
  refine wpAny_call (call_ownK hB.F (I1.kIn _ _ hC) (PySem.W.looks_findIn I1.kIn iC) (fun self => PySem.W.bind_fn I1.kIn self tI) hus
    (codeAny_mono (F.run _ X.stack _ _ _ (Value.ref (hp.objs.size + 1) :: us) (V.ref (hp.objs.size + 1) :: vs) _ (fun _ _ _ => False) ?_ ((hr.mono hk).make C us []) (I2.env0.make C us []) bound (.cons rfl r) sp1) fun res s3 hz => ?_))
  · first
      | exact hg
      | (simpa [Around.under, Code.isGuard, guardIds] using hg)
  · match res, hz with
    | .error er, hz => exact hx pins σ _ _ er s3 I2 hz
    | .ok (.ret u), hz =>
      obtain ⟨v, H2, os2, bare2, un2, hok2, rv, ev, d, hd1, ne, eH⟩ := hz
      subst ev
      subst eH
      obtain ⟨h2, g2, d2, t2, osx⟩ := s3
      refine ⟨rv, mk_end (raises_own c.T.xf.exC (oex_type c.T)) I1 big kept un2 hok2 os2 bare2 upd_same ((upd_ne ne).trans upd_same) hd1 ?_⟩
      rw [let_go new1 ne]
      exact q d hd1
    | .ok .next, hz => exact hz.elim
    | .ok .brk, hz => exact hz.elim
    | .ok .cont, hz => exact hz.elim
end
/-- what such a class answers to a clause -/
theorem exm_own {K : PySem.W.Frag} {C D : Addr} {b : Bool} (T : OexK K D) (h : PySem.W.subIn K (.ref C) (.ref D) = some b) : PySem.W.exmOne K (.ref C) (.ref D) = some b := PySem.W.exm_ref T.xf.exC T.xf.hdC (oex_type T) h
end Vk
set_option Elab.async false
set_option maxRecDepth 100000
set_option maxHeartbeats 4000000
set_option linter.all false
namespace Vk
open L2 PySem PySem.Spec PyProof.Rows PySem.VkX
/-! ## instances of own classes whose __init__ may raise, made by position and by all keywords in the other order -/
structure MakI (P : Program) (w : World) (K : PySem.W.Frag) (mg : Str → Option Value) (base : Heap) (CX : CXT) (k : Nat) (x : Str) (C : Addr) (fsn : List Str) (sp : Sp) : Prop where
  hm : mg x = some (.ref C)
  ex : ∃ (fI : Addr) (fd : FuncData), L2.Mk K C fI ∧ FnG P w K mg base CX k fI fd (("self" : Str) :: fsn) sp ∧ Binds K fd (("self" : Str) :: fsn) [] ∧
    (∀ (s : Shared) (v : Value) (ws : List Value), K.In s.heap → ws.length = fsn.length → BindsTo s fd ⟨[v], fsn.reverse.zip ws⟩ ((("self" : Str) :: fsn).zip (v :: ws.reverse)))
def Born (C : Addr) (sp : Sp) (vs : List V) (H : Hp) (Q : VK) (E : XK) : Prop := ∀ a dx, H a = none → H dx = none → dx ≠ a → sp (.ref a :: vs) (upd (upd H dx (.own a)) a (.ins C dx [])) (fun v H2 => v = .non ∧ Q (.ref a) H2) E
section
variable {X : Cx} {CX : CXT} {E : XK} {j k : Nat} {x : Str} {C : Addr} {fsn : List Str} {sp : Sp} {p pos : Pos} {e : Expr} {es : List Expr} {t : TA}
theorem born_run {pins : List (Addr × Obj)} {σ : L2.St} {H : Hp} {s : Shared} {Q : VK} {us : List Value} {kw : List (Str × Value)} {vs : List V} {zs : List Value} {fI : Addr} {fd : FuncData} (M : L2.Mk X.K C fI) (F : FnG X.prog X.w X.K X.mg X.base CX k fI fd (("self" : Str) :: fsn) sp)
    (hg : X.A.guards = some []) (hr : Room (k + 1) X.A) (hx : Passes CX X E) (I : Inv X pins σ H s) (r : Vals vs zs) (q : Born C sp vs H Q E)
    (hb : ∀ s2 : Shared, X.K.In s2.heap → ∀ a : Addr, BindsTo s2 fd ⟨.ref a :: us, kw⟩ ((("self" : Str) :: fsn).zip (.ref a :: zs))) : wpAny (model X.prog X.w) X.A (call (.ref C) us kw) (EP X pins σ Q) X.xe s := by
  have I2 := Inv.made (C := C) I
  have asked := q (s.heap.objs.size + 1) s.heap.objs.size (I.hok.fresh (Nat.le_succ _)) (I.hok.fresh (Nat.le_refl _)) (Nat.ne_of_lt (Nat.lt_succ_self _))
  refine wpAny_call (make_map (f := fI) I.kIn M.makes M.init (beq_iff_eq.mp M.fn) (codeAny_mono (F.run _ X.stack _ _ _ (Value.ref (s.heap.objs.size + 1) :: zs) (V.ref (s.heap.objs.size + 1) :: vs) _ E ?_ (hr.make C us kw) (I2.env0.make C us kw) (hb _ I2.kIn _) (.cons rfl r) asked) fun res s3 hz => ?_))
  · first
      | exact hg
      | (simpa [Around.under, Code.isGuard, guardIds] using hg)
  · match res, hz with
    | .error er, hz => exact hx pins σ _ _ er s3 I2 hz
    | .ok (.ret u), hz =>
      obtain ⟨v, H2, I3, rv, ev, q3⟩ := I2.after hz
      subst ev
      exact ⟨rv, V.ref (s.heap.objs.size + 1), H2, I3, rfl, q3⟩
    | .ok .next, hz => exact hz.elim
    | .ok .brk, hz => exact hz.elim
    | .ok .cont, hz => exact hz.elim
def tIns (C : Addr) (n : Nat) (sp : Sp) (E : XK) (t : TA) : TE := fun σ H Q => t σ H fun vs H1 => vs.length = n ∧ Born C sp vs H1 Q E
def tInsW (C : Addr) (n : Nat) (sp : Sp) (E : XK) (t : TA) : TE := fun σ H Q => t σ H fun vs H1 => vs.length = n ∧ Born C sp vs.reverse H1 Q E
theorem pe_ins (c : MakI X.prog X.w X.K X.mg X.base CX k x C fsn sp) (hg : X.A.guards = some []) (hr : Room j X.A) (hk : k + 1 ≤ j) (hx : Passes CX X E) (ha : PA X (e :: es) t) (gl : Gl X x := by rfl)
    (hdb : (x == ("__debug__" : Str)) = false := by decide) (he : starEach (e :: es) X.env = (false, eval e X.env) :: starEach es X.env := by rfl) (hpl : (backTo pos (starEach es X.env)).any (·.1) = false := by rfl) :
    PE X (.Call (.Name x p) (e :: es) [] pos) (tIns C fsn.length sp E t) := by
  obtain ⟨fI, fd, M, F, hb, hbk⟩ := c.ex
  refine ⟨fun pins s σ H Q I h => wpAny_Call_Name_kw (ld_glob I gl c.hm (PySem.W.callWith_K (h₀ := X.base) I.ok.mod.kin M.kp (thn (ha.run pos pins s σ H _ I h) fun us s1 hh => ?_) he hpl) hdb)⟩
  obtain ⟨vs, H1, I1, r, hl, q⟩ := hh
  refine ⟨I1.kIn, born_run (us := us) (kw := []) M F hg (hr.mono hk) hx I1 r q fun s2 K2 a => ?_⟩
  have b := hb s2 (.ref a :: us) K2 (by simpa using (r.length.symm.trans hl))
  rw [List.append_nil] at b
  exact b
theorem pe_insW {kws : List Keyword} {tk : TA} (c : MakI X.prog X.w X.K X.mg X.base CX k x C fsn sp) (hg : X.A.guards = some []) (hr : Room j X.A) (hk : k + 1 ≤ j) (hx : Passes CX X E) (hkw : PK X kws tk) (gl : Gl X x := by rfl)
    (hall : (backToKw pos (keywordEach kws X.env)).all (·.1.isSome) = true := by rfl) (hks : (backToKw pos (keywordEach kws X.env)).filterMap (·.1) = fsn.reverse := by rfl) (hdb : (x == ("__debug__" : Str)) = false := by decide)
    (hpl : ((backTo pos (starEach [] X.env)).any (·.1) || (backToKw pos (keywordEach kws X.env)).any (·.1.isNone)) = false := by rfl) :
    PE X (.Call (.Name x p) [] kws pos) (tInsW C fsn.length sp E tk) := by
  obtain ⟨fI, fd, M, F, hb, hbk⟩ := c.ex
  refine ⟨fun pins s σ H Q I h => wpAny_Call_Name_kw (ld_glob I gl c.hm (PySem.W.callWith_KW0 (h₀ := X.base) I.ok.mod.kin M.kp hall (thn (hkw.run pos pins s σ H _ I h) fun ws s2 hh => ?_) hpl) hdb)⟩
  obtain ⟨vs, H2, I2, rz, l2, q2⟩ := hh
  refine ⟨I2.kIn, ?_⟩
  rw [hks]
  exact born_run (us := []) (zs := ws.reverse) M F hg (hr.mono hk) hx I2 (vals_back rz) q2 fun s3 K3 a => hbk s3 _ ws K3 (rz.length.symm.trans l2)
end
end Vk
set_option Elab.async false
set_option maxRecDepth 100000
set_option maxHeartbeats 4000000
set_option linter.all false
namespace Vk
open L2 PySem PySem.Spec PyProof.Rows PySem.VkX LamX NdefX
/-! ## a lambda as a value: made in a def, kept in lists, handed to a def that calls it -/
structure LF where
  qual : Str
  params : Arguments
  body : Expr
  scope : Scope
  cl : List (Str × Addr)
  c : Addr
def LF.nf (F : LF) : NF := ⟨"<lambda>", F.qual, F.params, [], F.scope, F.cl, F.c⟩
def LamO (f : Addr) (F : LF) : HO := .ext fun h => ∃ pm ctv : Value, h.get? f = some (PySem.W.kla_obj "<lambda>" F.qual F.params F.body F.scope F.cl pm F.c ctv)
theorem lamO_ne {f : Addr} {F : LF} (ps : Array Value) : LamO f F ≠ .tbl ps := fun z => by
  unfold LamO at z
  cases z
theorem lamO_at {P : Program} {w : World} {H : Hp} {h : Heap} {f : Addr} {F : LF} (ok : HOk P w H h) (e : H f = some (LamO f F)) : ∃ pm ctv : Value, h.get? f = some (PySem.W.kla_obj "<lambda>" F.qual F.params F.body F.scope F.cl pm F.c ctv) := (ok f _ e).1
section
variable {X : Cx} {pins : List (Addr × Obj)} {σ : L2.St} {H : Hp} {s : Shared}
theorem inv_lam {F : LF} {t' : Nat} {pm ctv : Value} (I : Inv X pins σ H s) :
    Inv X pins σ (upd H s.heap.objs.size (LamO s.heap.objs.size F)) { s with heap := s.heap.push (PySem.W.kla_obj "<lambda>" F.qual F.params F.body F.scope F.cl pm F.c ctv), toks := t' } := by
  have at1 : (s.heap.push (PySem.W.kla_obj "<lambda>" F.qual F.params F.body F.scope F.cl pm F.c ctv)).get? s.heap.objs.size = some (PySem.W.kla_obj "<lambda>" F.qual F.params F.body F.scope F.cl pm F.c ctv) := Heap.get?_push_size _ rfl
  exact I.laid (a := s.heap.objs.size) (fun b u q => Heap.get?_push_of_some _ q) (Nat.le_refl _) ⟨⟨pm, ctv, at1⟩, ⟨_, at1⟩, fun h1 h2 ⟨p, t, z⟩ stays => ⟨p, t, stays _ z⟩⟩
/-- the maker's table and code object, T the tables -/
theorem lam_new {T : List (Addr × Str)} {c P : Addr} {params : Arguments} {body : Expr} {scope : Scope} {pos : Pos} {E : Value → Shared → Prop} {Q : Value → Shared → Prop} (I : Inv X pins σ H s) (tb : TabB X.base X.mg c P) (code : X.env.code = .ref c)
    (mem : (P, X.env.qual ++ "<lambda>") ∈ T) (one : ∀ p ∈ T, p.1 = P → p.2 = X.env.qual ++ "<lambda>") (tabs : Tabs T H) (dflt : defaultsOf params X.env = ([], [])) (free : ∀ y ∈ scope.names, y.2 = .free → ∃ c, X.env.cells.lookup y.1 = some c)
    (k : ∀ (f c' : Addr) (H1 : Hp) (s' : Shared), Inv X pins σ H1 s' → ExtN H H1 → (∀ b, H1 b = none → H b = none) → Tabs T H1 → H f = none → H1 f = some (LamO f ⟨X.env.qual ++ "<lambda>", params, body, scope, cloFrom X.env.cells scope.names [], c'⟩) → H1 c' = some (CodeO c' (X.env.qual ++ "<lambda>")) → Q (.ref f) s') :
    wpAny (model X.prog X.w) X.A (eval (.Lambda params body scope pos) X.env) Q E s := by
  obtain ⟨ps, tP, trip, told⟩ := tabs _ mem
  have lies : s.heap.get? P = some { cls := .none, data := .fields ps } := I.hok P _ tP
  have blt : s.heap.BuiltinsAt X.mg P := tb.bm.keeps I.bk
  refine PySem.W.kla_eval dflt ?_
  match among : codeAmong pos ps.toList with
  | some cv =>
    obtain ⟨c', rfl, is⟩ := told pos cv among
    refine PySem.W.kla_makeFunctionHit (mg := X.mg) (c := c) (P := P) (ps := ps) (closure_ok free) I.ok.glob (I.mod.glob.keeps I.bk) code (tb.code.keeps I.bk) lies trip among blt fun ctv h' tk grown big => ?_
    have I1 : Inv X pins σ H { s with heap := h', toks := tk } := I.kept grown
    have new1 : H h'.objs.size = none := I1.hok.fresh (Nat.le_refl _)
    refine k h'.objs.size c' _ _ (inv_lam (F := ⟨X.env.qual ++ "<lambda>", params, body, scope, cloFrom X.env.cells scope.names [], c'⟩) (t' := tk) (pm := (X.mg "__name__").getD .none) (ctv := ctv) I1) (fun b o e n => ?_) (fun b e => upd_none e) (tabs.ext fun b o e => ?_) new1 upd_same ?_
    · rw [upd_ne (ne_of_none e new1)]; exact e
    · rw [upd_ne (ne_of_none e new1)]; exact e
    · rw [upd_ne (ne_of_none is new1)]; exact is
  | none =>
    refine PySem.W.kla_makeFunction (mg := X.mg) (c := c) (P := P) (ps := ps) (closure_ok free) I.ok.glob (I.mod.glob.keeps I.bk) code (tb.code.keeps I.bk) lies trip among tb.gP blt fun c' ctv h' tk grown low high rec2 put => ?_
    obtain ⟨c2, oc, vs, t, ec, hoc, hd, hv⟩ := rec2
    cases ec
    have newC : H c' = none := I.hok.fresh low
    have I1 := inv_table (t' := tk) (more := #[rawInt pos.line, rawInt pos.col, .ref c']) (h' := h') I tP (fun b o hb e => grown b o hb e) put low ⟨oc, vs, t, hoc, hd, hv⟩
    have out1 : ExtN H (upd (upd H P (.tbl (ps ++ #[rawInt pos.line, rawInt pos.col, .ref c']))) c' (CodeO c' (X.env.qual ++ "<lambda>"))) := fun b o e n => by
      have hb : b ≠ P := fun z => n ps (Option.some.inj (e.symm.trans (z ▸ tP)))
      rw [upd_ne (ne_of_none e newC), upd_ne hb]
      exact e
    have tabs1 : Tabs T (upd (upd H P (.tbl (ps ++ #[rawInt pos.line, rawInt pos.col, .ref c']))) c' (CodeO c' (X.env.qual ++ "<lambda>"))) := fun p hp => by
      by_cases hb : p.1 = P
      · rw [one p hp hb, hb]
        have whole : (ps ++ #[rawInt pos.line, rawInt pos.col, .ref c']).toList = ps.toList ++ [rawInt pos.line, rawInt pos.col, .ref c'] := by simp
        refine ⟨_, by rw [upd_ne (ne_of_none tP newC), upd_same], by rw [whole]; exact PySem.TriplesOk_snoc _ _ _ _ trip, fun p' cv hcv => ?_⟩
        rw [whole] at hcv
        rcases among_app _ trip hcv with z | z
        · obtain ⟨c0, e1, e2⟩ := told p' cv z
          exact ⟨c0, e1, out1 _ _ e2 codeO_ne⟩
        · exact ⟨c', z, upd_same⟩
      · obtain ⟨ps', a1, a2, a3⟩ := tabs p hp
        refine ⟨ps', by rw [upd_ne (ne_of_none a1 newC), upd_ne hb]; exact a1, a2, fun p' cv hcv => ?_⟩
        obtain ⟨c0, e1, e2⟩ := a3 p' cv hcv
        exact ⟨c0, e1, out1 _ _ e2 codeO_ne⟩
    have newF := I1.hok.fresh (Nat.le_refl _)
    have newF0 : H h'.objs.size = none := upd_none (upd_none newF)
    refine k h'.objs.size c' _ _ (inv_lam (F := ⟨X.env.qual ++ "<lambda>", params, body, scope, cloFrom X.env.cells scope.names [], c'⟩) (t' := tk) (pm := (X.mg "__name__").getD .none) (ctv := ctv) I1) (fun b o e n => ?_) (fun b e => upd_none (upd_none (upd_none e))) (tabs1.ext fun b o e => ?_) newF0 upd_same ?_
    · have e1 := out1 b o e n
      rw [upd_ne (ne_of_none e1 newF)]; exact e1
    · rw [upd_ne (ne_of_none e newF)]; exact e
    · rw [upd_ne (Nat.ne_of_lt high)]; exact upd_same
end
def tLamV (T : List (Addr × Str)) (mk : Addr → LF) : TE := fun σ H Q => Tabs T H ∧ ∀ (f c' : Addr) (H1 : Hp), ExtN H H1 → (∀ b, H1 b = none → H b = none) → Tabs T H1 → H f = none → H1 f = some (LamO f (mk c')) → H1 c' = some (CodeO c' (mk c').qual) → Q (.ref f) H1
section
variable {X : Cx}
theorem pe_lamv {T : List (Addr × Str)} {c P : Addr} {params : Arguments} {body : Expr} {scope : Scope} {pos : Pos} (tb : TabB X.base X.mg c P) (code : X.env.code = .ref c) (mem : (P, X.env.qual ++ "<lambda>") ∈ T) (one : ∀ p ∈ T, p.1 = P → p.2 = X.env.qual ++ "<lambda>")
    (dflt : defaultsOf params X.env = ([], [])) (free : ∀ y ∈ scope.names, y.2 = .free → X.env.scope.names.lookup y.1 = some .cell ∨ X.env.scope.names.lookup y.1 = some .free) :
    PE X (.Lambda params body scope pos) (tLamV T fun c' => ⟨X.env.qual ++ "<lambda>", params, body, scope, cloFrom X.env.cells scope.names [], c'⟩) := by
  refine ⟨fun pins s σ H Q I h => lam_new I tb code mem one h.1 dflt (fun y hy e => I.ok.has y.1 (free y hy e)) fun f c' H1 s' I1 x1 b1 t1 n1 f1 c1 => ?_⟩
  exact ⟨.ref f, H1, I1, rfl, h.2 f c' H1 x1 b1 t1 n1 f1 c1⟩
end
/-! ### what it does -/
abbrev SpL := List (Option V) → Hp → VK → XK → Prop
structure LamK (P : Program) (w : World) (K : PySem.W.Frag) (mg : Str → Option Value) (base : Heap) (k : Nat) (F : LF) (fr : List Str) (sp : SpL) : Prop where
  run : ∀ (A : Around) (outer : List Env) (s : Shared) (H : Hp) (f : Addr) (ws : List (Option V)) (Q : VK) (E : XK), A.guards = some [] → Room k A → Env0 P w K mg base A outer s H → H f = some (LamO f F) → H F.c = some (CodeO F.c F.qual) → CellsAt F.cl fr ws s.heap H → sp ws H Q E →
    codeAny (model P w) A (.call (.ref f) ⟨[], []⟩) (CR (L2.CX P w) outer P w H s Q E) s
section
variable {P : Program} {w : World} {K : PySem.W.Frag} {mg : Str → Option Value} {base : Heap} {N fr : List Str} {F : LF} {k j : Nat} {sp : SpL}
theorem LamK.mono (l : LamK P w K mg base j F fr sp) (h : j ≤ k) : LamK P w K mg base k F fr sp := ⟨fun A outer s H f ws Q E hg hr => l.run A outer s H f ws Q E hg (hr.mono h)⟩
theorem lamk_of (S : NScope N [] fr F.scope) (hb : ∀ pm ctv : Value, bindArgs (PySem.W.kla_fn "<lambda>" F.qual F.params F.body F.scope F.cl pm (.ref F.c) ctv) ⟨[], []⟩ = pure [])
    (body : ∀ (A : Around) (outer : List Env) (s : Shared) (H : Hp) (f : Addr) (ws : List (Option V)) (Q : VK) (E : XK), A.guards = some [] → Room k (A.deeper (envF F.nf f s.heap.objs.size)) → ws.length = fr.length → sp ws H Q E →
      ∃ t, PE (ncx (L2.CX P w) P w K mg base N F.nf f A outer s H E) F.body t ∧ t (startF N [] ws) H Q) : LamK P w K mg base (k + 1) F fr sp := by
  refine ⟨fun A outer s H f ws Q E hg hr e0 hf hc C hsp => ?_⟩
  have lim : s.heap.NoLimit := e0.mod.nolimit.keeps fun b o e => (e0.bs b o e).1
  obtain ⟨pm, ctv, ho⟩ := lamO_at e0.hok hf
  refine PySem.W.kla_callFunE hr.depth ho rfl S.co S.gen rfl (codeO_at e0.hok hc) ?_
  rw [hb pm ctv]
  refine wpAny_pure (wpAny_newFunctionEnv S.nocell (fun y hy => absurd hy (List.not_mem_nil (a := y))) (fun h1 hns hsb => ⟨lim.fresh _ hsb, ?_⟩) S.kind)
  have kp : ∀ b o, s.heap.get? b = some o → h1.get? b = some o := fun b o e => hsb.extBut b o (Nat.ne_of_lt (Heap.lt_size e)) (Heap.get?_push_of_some _ e)
  obtain ⟨t, ht, hq⟩ := body A outer s H f ws Q E hg (hr.deeper _) C.len hsp
  have I : Inv (ncx (L2.CX P w) P w K mg base N F.nf f A outer s H E) [] (startF N [] ws) H { s with heap := h1, toks := s.toks + ([] : List (Str × Value)).length } := inv_startN (ps := []) (us := []) (vs := []) S hr.hd e0 rfl .nil C hns kp
  refine PySem.W.kla_codeExpr (wpAny_mono (ht.run [] _ _ H Q I hq) (fun v s' hv => ?_) fun e s' hv => hv)
  obtain ⟨v1, H1, J, rv, q⟩ := hv
  exact ⟨v1, H1, J.os, J.bare, J.base, J.hok, rv, q⟩
end
/-! ### called by the def that got it -/
theorem cells_later {X : Cx} {pins : List (Addr × Obj)} {σ : L2.St} {H : Hp} {s : Shared} {cl : List (Str × Addr)} {fr : List Str} {ws : List (Option V)} (C : CellsAt cl fr ws X.s_0.heap X.H_0) (hx : X.ex = []) (I : Inv X pins σ H s) : CellsAt cl fr ws s.heap H := by
  have out : ∀ c : Addr, c ∉ X.ex := fun c z => by
    rw [hx] at z
    exact absurd z (List.not_mem_nil (a := c))
  have same : ∀ y c, cl.lookup y = some c → ∀ v, X.s_0.heap.IsCell c v → s.heap.IsCell c v := fun y c e v ⟨o, ho, hd⟩ => by
    obtain ⟨sl, z⟩ := I.base.any ho (C.all y c e).1 (out c)
    exact ⟨_, z, hd⟩
  refine ⟨C.len, fun y c e => ?_, C.inj, fun i y e => ?_⟩
  · obtain ⟨n, v, z⟩ := C.all y c e
    have z2 := same y c e v z
    obtain ⟨o, ho, _⟩ := z
    exact ⟨I.base.free c o ho n (out c), v, z2⟩
  · obtain ⟨c, hc, hv⟩ := C.has i y e
    refine ⟨c, hc, fun v ev => ?_⟩
    obtain ⟨u, r, z⟩ := hv v ev
    exact ⟨u, r, same y c hc _ z⟩
section
variable {X : Cx} {F : LF} {fr : List Str} {ws : List (Option V)} {i j k : Nat} {x : Str} {sp : SpL} {E : XK} {p pos : Pos} {f0 : Addr}
/-- x(), x a name that holds the lambda -/
theorem pe_lamact (C : CellsAt F.cl fr ws X.s_0.heap X.H_0) (hx0 : X.ex = []) (L : LamK X.prog X.w X.K X.mg X.base k F fr sp) (hg : X.A.guards = some []) (hr : Room j X.A) (hk : k ≤ j) (hx : Passes (L2.CX X.prog X.w) X E) (hN : X.N[i]? = some x) (hv : Vis X.env.scope x)
    (hd : (x == ("__debug__" : Str)) = false := by decide) (hcd : (x == ("__classdict__" : Str)) = false := by decide) :
    PE X (.Call (.Name x p) [] [] pos) (fun σ H Q => σ[i]? = some (some (.ref f0)) ∧ H f0 = some (LamO f0 F) ∧ H F.c = some (CodeO F.c F.qual) ∧ sp ws H Q E) := by
  refine ⟨fun pins s σ H Q I h => ?_⟩
  obtain ⟨hs, hf, hc, hsp⟩ := h
  refine wpAny_Call_Name_kw (thn ((pe_var (pos := p) hN hv hd hcd).run pins s σ H (fun v H1 => v = .ref f0 ∧ H1 = H) I ⟨.ref f0, hs, rfl, rfl⟩) fun u s1 ⟨v, H1, I1, r1, q1⟩ => ?_)
  obtain ⟨ev, eH⟩ := q1
  subst ev
  subst eH
  obtain rfl : u = Value.ref f0 := r1
  obtain ⟨pm, ctv, ho⟩ := lamO_at I1.hok hf
  refine PySem.W.callWith_F0 ⟨_, _, _, _, ho⟩ (wpAny_call (codeAny_mono (L.run X.A X.stack s1 H1 f0 ws Q E hg (hr.mono hk) I1.env0 hf hc (cells_later C hx0 I1) hsp) fun r s2 hq => ?_))
  match r, hq with
  | .error e, hq => exact hx pins σ H1 s1 e s2 I1 hq
  | .ok (.ret u), hq => exact I1.after hq
  | .ok .next, hq => exact hq.elim
  | .ok .brk, hq => exact hq.elim
  | .ok .cont, hq => exact hq.elim
end
/-! ### defs whose promise speaks of the cells that the heap holds -/
structure FnH (P : Program) (w : World) (K : PySem.W.Frag) (mg : Str → Option Value) (base : Heap) (CX : CXT) (k : Nat) (f : Addr) (fd : FuncData) (ps : List Str) (sp : Heap → Sp) : Prop where
  len : ∀ h vs H Q E, sp h vs H Q E → vs.length = ps.length
  run : ∀ (A : Around) (outer : List Env) (s : Shared) (H : Hp) (args : Args) (us : List Value) (vs : List V) (Q : VK) (E : XK), A.guards = some [] → Room k A → Env0 P w K mg base A outer s H → BindsTo s fd args (ps.zip us) → Vals vs us → sp s.heap vs H Q E →
    codeAny (model P w) A (.call (.ref f) args) (CR CX outer P w H s Q E) s
theorem okH {P : Program} {w : World} {K : PySem.W.Frag} {mg : Str → Option Value} {base : Heap} {CX : CXT} {x qual : Str} {st : Stmt} {f : Addr} {fd : FuncData} {N ps : List Str} {k : Nat} {sp : Heap → Sp} (F : Fun K x qual st f fd) (S : FnScope N ps (defScope st)) (hlen : ∀ h vs H Q E, sp h vs H Q E → vs.length = ps.length)
    (hbody : ∀ (cdv : Value) (A : Around) (outer : List Env) (s : Shared) (H : Hp) (vs : List V) (Q : VK) (E : XK), A.guards = some [] → Room k (A.deeper (envOfC qual (defScope st) s.heap.objs.size f cdv)) → sp s.heap vs H Q E →
      ∃ t, PSs (cxOf CX P w K mg base N qual (defScope st) f cdv A outer s H E) (defBody st) t ∧ t { nx := fun _ H' => Q .non H', rt := Q } (start N vs) H) : FnH P w K mg base CX (k + 1) f fd ps sp := by
  refine ⟨hlen, fun A outer s H args us vs Q E hg hr e0 hb r hsp => ?_⟩
  obtain ⟨oc, od, kV, doc, pm, an, cdv, ct, osl, rfl, lk, hcd⟩ := F.ex
  exact run_ofS lk hcd S hr e0 hb r (hlen _ _ _ _ _ hsp) fun hr2 => hbody cdv A outer s H vs Q E hg hr2 hsp
structure CalH (P : Program) (w : World) (K : PySem.W.Frag) (mg : Str → Option Value) (base : Heap) (CX : CXT) (k : Nat) (x : Str) (sp : Heap → Sp) : Prop where
  ex : ∃ (f : Addr) (fd : FuncData) (ps : List Str), FnH P w K mg base CX k f fd ps sp ∧ mg x = some (.ref f) ∧ PySem.W.keepIn K (.ref f) = true ∧ Binds K fd ps []
/-- x(e, ..): rd says of the values and the names what the call asks -/
def tCallH (rd : L2.St → List V → Hp → VK → Prop) (t : TA) : TE := fun σ H Q => t σ H fun vs H1 => rd σ vs H1 Q
section
variable {X : Cx} {CX : CXT} {j k : Nat} {x : Str} {sp : Heap → Sp} {E : XK} {p pos : Pos} {e : Expr} {es : List Expr} {t : TA} {rd : L2.St → List V → Hp → VK → Prop}
theorem pe_cH (c : CalH X.prog X.w X.K X.mg X.base CX k x sp) (hg : X.A.guards = some []) (hr : Room j X.A) (hk : k ≤ j) (hx : Passes CX X E) (ha : PA X (e :: es) t)
    (asks : ∀ (pins : List (Addr × Obj)) (s : Shared) (σ : L2.St) (H : Hp) (vs : List V) (Q : VK), Inv X pins σ H s → rd σ vs H Q → sp s.heap vs H Q E) (gl : Gl X x := by rfl)
    (hdb : (x == ("__debug__" : Str)) = false := by decide) (he : starEach (e :: es) X.env = (false, eval e X.env) :: starEach es X.env := by rfl) (hpl : (backTo pos (starEach es X.env)).any (·.1) = false := by rfl) :
    PE X (.Call (.Name x p) (e :: es) [] pos) (tCallH rd t) := by
  obtain ⟨f, fd, ps, F, hm, kp, hb⟩ := c.ex
  refine ⟨fun pins s σ H Q I h => wpAny_Call_Name_kw (ld_glob I gl hm (PySem.W.callWith_K (h₀ := X.base) I.ok.mod.kin kp (thn (ha.run pos pins s σ H _ I h) fun us s1 hh => ?_) he hpl) hdb)⟩
  obtain ⟨vs, H1, I1, r, q⟩ := hh
  have q := asks pins s1 σ H1 vs Q I1 q
  have hl : us.length = ps.length := r.length.symm.trans (F.len _ _ _ _ _ q)
  have b := hb s1 us I1.kIn ((congrArg List.length (List.append_nil us)).trans hl)
  rw [List.append_nil] at b
  refine ⟨I1.kIn, wpAny_call (codeAny_mono (F.run X.A X.stack s1 H1 ⟨us, []⟩ us vs Q E hg (hr.mono hk) I1.env0 b r q) (fun res s2 hq => ?_))⟩
  match res, hq with
  | .error e, hq => exact hx pins σ H1 s1 e s2 I1 hq
  | .ok (.ret u), hq => exact I1.after hq
  | .ok .next, hq => exact hq.elim
  | .ok .brk, hq => exact hq.elim
  | .ok .cont, hq => exact hq.elim
end
/-! ### isinstance(e, T) of a caught exception that has fields -/
theorem call_isEd {X : Cx} {a C : Addr} {cls : Value} {d : Option Addr} {oe : Obj} {pn : List (Addr × Obj)} (T : OexK X.K C) (hz : Zc cls d oe) (hf : ∃ vs, oe.data = .fields vs) :
    CallR (X.suite a ((a, oe) :: pn)) (.builtin "isinstance") (fun xs H Q => ∃ (c : V) (cv : Value) (b : Bool) (dd : Addr) (fs : List (Str × V)), xs = [.ref a, c] ∧ cls = .ref C ∧ d = some dd ∧ H dd = some (.xd fs) ∧ (∀ u, RelV c u → u = cv) ∧ PySem.W.kitOne X.K (.ref C) cv = some b ∧ Q (.bl b) H) := by
  intro pins s σ H xs us Q I r h
  obtain ⟨c, cv, b, dd, fs, rfl, rfl, rfl, ed, hc, e, q⟩ := h
  obtain ⟨u1, u2, rfl, r1, r2⟩ := vals2 r
  cases (show u1 = Value.ref a from r1)
  cases hc u2 r2
  obtain ⟨ha, _⟩ := I.pin (a, oe) (List.mem_append_left _ List.mem_cons_self)
  obtain ⟨vs, hd⟩ := hf
  obtain ⟨mA, hns, hr⟩ := (show ObjOk X.prog X.w H s.heap dd (.xd fs) from I.hok dd _ ed)
  obtain ⟨od, ho, hl⟩ := lookIn_ns hns
  have J : PySem.W.InstAt s.heap a oe C (some od) := ⟨ha, hz.1, by unfold PySem.W.notCls; rw [hd] <;> rfl, by rw [hz.2]; exact ho⟩
  obtain ⟨B, newId, initId, tl, nm, q1, N, bs, sn, sub, ab, col, dd2, k0, k1, k2, k3, k5, hB, hC⟩ := T.cls
  have hcl : (PySem.W.clsIn X.K C).isSome = true := by unfold PySem.W.clsIn; rw [hC] <;> rfl
  exact PySem.W.kia_one (PySem.W.kitx_exc hcl T.ic.hg T.ic.hk T.ic.hs T.ic.ha T.ic.hn T.ic.ht T.ic.hm) I.kIn J e (fun z => nomatch z) fun tk => ⟨.bl b, H, I.tok tk, rfl, q⟩
theorem passes_len {X : Cx} {W : WX} {E : XK} (tk : Takes X W) (hW : ∀ cls d σ H, σ.length = X.N.length → E cls d H → W cls d σ H) : Passes (L2.CX X.prog X.w) X E := fun _ σ _ _ e s' I c => tk e s' (XE.of_call I (fun cls d H' h => hW cls d σ H' I.len h) c)
/-- try: return x() of a lambda that x holds -/
def tTryLam (f : Addr) (F : LF) (ws : List (Option V)) (sp : SpL) (n : Nat) : WX → TS := fun W D σ H => ∃ E : XK, (∀ cls d (σ' : L2.St) H', σ'.length = n → E cls d H' → W cls d σ' H') ∧ σ[0]? = some (some (.ref f)) ∧ H f = some (LamO f F) ∧ H F.c = some (CodeO F.c F.qual) ∧ sp ws H D.rt E
theorem pss_tryLam {X : Cx} {W : WX} {pn : List (Addr × Obj)} {xe : Value → Shared → Prop} {f : Addr} {F : LF} {fr : List Str} {ws : List (Option V)} {sp : SpL} {j k n : Nat} {x : Str} {p1 p2 p3 : Pos} (tk : Takes (X.tr pn xe) W) (C : CellsAt F.cl fr ws X.s_0.heap X.H_0) (hx0 : X.ex = [])
    (L : LamK X.prog X.w X.K X.mg X.base k F fr sp) (hg : X.A.guards = some []) (hr : Room j X.A) (hk : k ≤ j) (hl : X.N.length = n) (hN : X.N[0]? = some x) (hv : Vis X.env.scope x) (hd : (x == ("__debug__" : Str)) = false := by decide) (hcd : (x == ("__classdict__" : Str)) = false := by decide) :
    PSs (X.tr pn xe) [.Return (some (.Call (.Name x p1) [] [] p2)) p3] (tTryLam f F ws sp n W) := by
  refine ⟨fun pins s σ H D I h => ?_⟩
  obtain ⟨E, hW, h1, h2, h3, h4⟩ := h
  exact (pss_one (ps_ret (pe_lamact (X := X.tr pn xe) (f0 := f) C hx0 L hg hr hk (passes_len tk fun cls d σ' H' le => hW cls d σ' H' (le.trans hl)) hN hv hd hcd))).run pins s σ H D I ⟨h1, h2, h3, h4⟩
/-! ### a def whose code object is known -/
structure FunC (K : PySem.W.Frag) (x qual : Str) (st : Stmt) (f : Addr) (fd : FuncData) (c : Addr) : Prop where
  ex : ∃ (oc : Value) (od : Option Addr) (kV doc pm : Value) (an : Option Addr) (ct : Value) (sl : Array (Option Value)), fd = PySem.W.fnOf x qual (defArgs st) (defBody st) (defScope st) .none kV doc pm an (.ref c) ct ∧ K.lookup f = some ⟨oc, od, .func fd, sl⟩ ∧ PySem.W.codeIn K (.ref c) qual = true
  kp : PySem.W.keepIn K (.ref f) = true
theorem FunC.fn {K : PySem.W.Frag} {x qual : Str} {st : Stmt} {f c : Addr} {fd : FuncData} (F : FunC K x qual st f fd c) : Fun K x qual st f fd := by
  obtain ⟨oc, od, kV, doc, pm, an, ct, sl, e, l, hc⟩ := F.ex
  exact ⟨⟨oc, od, kV, doc, pm, an, .ref c, ct, sl, e, l, hc⟩, F.kp⟩
theorem okC0 {P : Program} {w : World} {K : PySem.W.Frag} {mg : Str → Option Value} {base : Heap} {x qual : Str} {st : Stmt} {f c : Addr} {fd : FuncData} {N ps : List Str} {k : Nat} {sp : Sp} (F : FunC K x qual st f fd c) (S : FnScope N ps (defScope st)) (hlen : ∀ vs H Q E, sp vs H Q E → vs.length = ps.length)
    (hbody : ∀ (A : Around) (outer : List Env) (s : Shared) (H : Hp) (vs : List V) (Q : VK) (E : XK), A.guards = some [] → Room k (A.deeper (envOfC qual (defScope st) s.heap.objs.size f (.ref c))) → sp vs H Q E →
      ∃ t, PSs (cxOf CX0 P w K mg base N qual (defScope st) f (.ref c) A outer s H E).nox (defBody st) t ∧ t { nx := fun _ H' => Q .non H', rt := Q } (start N vs) H) : FnG P w K mg base CX0 (k + 1) f fd ps sp := by
  refine ⟨hlen, fun A outer s H args us vs Q E hg hr e0 hb r hsp => ?_⟩
  obtain ⟨oc, od, kV, doc, pm, an, ct, sl, rfl, lk, hcd⟩ := F.ex
  refine run_ofS lk hcd S hr e0 hb r (hlen _ _ _ _ hsp) fun hr2 => ?_
  obtain ⟨t, ht, hq⟩ := hbody A outer s H vs Q E hg hr2 hsp
  exact ⟨t, ht.nox, hq⟩
end Vk
set_option Elab.async false
set_option maxRecDepth 100000
set_option maxHeartbeats 4000000
set_option linter.all false
namespace Vk
open PySem PySem.Spec PyProof.Rows PySem.SeqAt L2
open Builtin
section
variable {prog : Program} {w : World} {A : Around} {E : Value → Shared → Prop} {s : Shared} {K : PySem.W.Frag} {x C : Addr} {ox : Obj} {od : Option Obj}
theorem within_no {T : String} (X : K.In s.heap) (I : PySem.W.InstAt s.heap x ox C od) (hm : PySem.W.mroIn K C (.type T) = some false) : PySem.W.Looks (model prog w) s.heap (isInstance (.ref x) (.type T)) false := I.type.andThen (PySem.W.looks_mroIn X hm)
theorem tup_dec {l : Addr} {items : Array Value} {n : Nat} {dd : Option Addr} {sl : Array (Option Value)} {Q : Value → Shared → Prop} (hl : s.heap.get? l = some { cls := .type "tuple", dict := dd, data := .seq items n, slots := sl }) (X : K.In s.heap) (I : PySem.W.InstAt s.heap x ox C od)
    (hm : PySem.W.mroIn K C (.type "tuple") = some false) (hq : Q .notImplemented s) : wpAny (model prog w) A (call (.builtin "tuple.__eq__") [.ref l, .ref x]) Q E s := by
  refine GQ.call_here F.slot_tuple_eq ⟨_, hl, rfl⟩ F.entry_tuple_eq (F.args_tuple_eq_2 _ _) ?_
  have no := within_no (prog := prog) (w := w) X I hm
  obtain ⟨hp, g, d, tk, os⟩ := s
  repeat (first | with_reducible refine no.here ?_ | with_reducible refine no.at ?_ | with_reducible refine AutoSeq1.wpAny_loadPart' hl ?_ | wp_step)
  exact hq
theorem lst_dec {l : Addr} {items : Array Value} {n : Nat} {dd : Option Addr} {sl : Array (Option Value)} {Q : Value → Shared → Prop} (hl : s.heap.get? l = some { cls := .type "list", dict := dd, data := .seq items n, slots := sl }) (X : K.In s.heap) (I : PySem.W.InstAt s.heap x ox C od)
    (hm : PySem.W.mroIn K C (.type "list") = some false) (hq : Q .notImplemented s) : wpAny (model prog w) A (call (.builtin "list.__eq__") [.ref l, .ref x]) Q E s := by
  refine GQ.call_here F.slot_list_eq ⟨_, hl, rfl⟩ F.entry_list_eq (F.args_list_eq_2 _ _) ?_
  have no := within_no (prog := prog) (w := w) X I hm
  obtain ⟨hp, g, d, tk, os⟩ := s
  repeat (first | with_reducible refine no.here ?_ | with_reducible refine no.at ?_ | with_reducible refine AutoSeq1.wpAny_loadPart' hl ?_ | wp_step)
  exact hq
theorem str_dec {z : Str} {t : Tok} {Q : Value → Shared → Prop} (I : PySem.W.InstAt s.heap x ox C od) (hp : ox.data = .plain) (hq : Q .notImplemented s) : wpAny (model prog w) A (call (.builtin "str.__eq__") [.str z t, .ref x]) Q E s := by
  refine GQ.call_here F.slot_str_eq (typeIs_str _ _ _) F.entry_str_eq (F.args_str_eq_2 _ _) ?_
  obtain ⟨h1, h2, h3, h4⟩ := I
  obtain ⟨hp2, g, d, tk, os⟩ := s
  repeat (first | with_reducible refine AutoSeq1.wpAny_loadPart' h1 ?_ | with_reducible refine wpAny_load h1 ?_ | wp_step)
  rw [hp]
  repeat (first | wp_step)
  exact hq
theorem rc_refl {u : Value} {T id : String} {f : Addr} {Q : Value → Shared → Prop} (hT : s.TypeIs u T) (slot : Slot T "__eq__" id) (X : K.In s.heap) (I : PySem.W.InstAt s.heap x ox C od) (hm : PySem.W.mroIn K C (.type T) = some false) (hu : A.units < cLine)
    (dec : ∀ Q' : Value → Shared → Prop, Q' .notImplemented s → wpAny (model prog w) A (call (.builtin id) [u, .ref x]) Q' E s) (hs : PySem.W.findIn K (.ref C) "__eq__" = some (some (.ref f))) (hf : PySem.W.isFn K (.ref f) = true)
    (h : wpAny (model prog w) A (call (.ref f) [.ref x, u]) (PySem.W.CmpBack Q) E s) : wpAny (model prog w) A (richCompare .Eq u (.ref x)) Q E s := by
  simp only [richCompare, cmpInfo_Eq, hT.oneThing_none]
  refine wpAny_holding (wpAny_bind (wpAny_cRoomFor hu ?_))
  refine wpAny_bind (wpAny_typeOf hT (wpAny_bind (I.type.here ?_)))
  have ne : (Value.type T != Value.ref C) = true := rfl
  simp only [ne, if_true]
  refine wpAny_bind ((PySem.W.looks_subIn X (show PySem.W.subIn K (.ref C) (.type T) = some false from hm)).here ?_)
  simp only [Bool.false_eq_true, if_false, Bool.not_false, if_true]
  refine wpAny_bind (m := tryCompare u _ (.ref x)) (wpAny_tryCompare_declines hT slot (dec _ ⟨rfl, ?_⟩))
  refine wpAny_bind (m := tryCompare (.ref x) _ u) ?_
  unfold tryCompare
  refine wpAny_bind (PySem.W.ifBound_K X I hs hf (wpAny_mono h (fun v s' hv => ?_) fun _ _ e => e))
  cases v <;> first | exact hv.elim | exact wpAny_pure (wpAny_pure hv)
theorem eqB_refl {u : Value} {Q : Bool → Shared → Prop} (ne : u ≠ .ref x) (h : wpAny (model prog w) A (richCompare .Eq u (.ref x)) (fun v s' => ∃ r, v = .bool r ∧ Q r s') E s) : wpAny (model prog w) A (eqBool u (.ref x)) Q E s := by
  unfold eqBool
  refine wpAny_holding (wpAny_ite_split (fun hab => absurd (eq_of_beq hab) ne) (fun _ => ?_))
  have fin : wpAny (model prog w) A (richCompare CmpOp.Eq u (Value.ref x) >>= fun v => truthOfDropped v) Q E s := by
    refine wpAny_bind (wpAny_mono h (fun v s' hv => ?_) fun _ _ z => z)
    obtain ⟨r, rfl, q⟩ := hv
    exact wpAny_truthy_bool q
  cases u <;> exact fin
theorem ifBound_objNe {M : Model} {args : List Value} {Q : Option Value → Shared → Prop} (X : K.In s.heap) (I : PySem.W.InstAt s.heap x ox C od) (hs : PySem.W.findIn K (.ref C) "__ne__" = some (some (.builtin "object.__ne__")))
    (h : wpAny M A (call (.builtin "object.__ne__") (.ref x :: args)) (fun v => Q (some v)) E s) : wpAny M A (callSpecialIfBound? (.ref x) "__ne__" args) Q E s := by
  simp only [callSpecialIfBound?, bindSpecialIfBound?]
  refine wpAny_holding (wpAny_bind (wpAny_bind (wpAny_bind (I.type.here ((PySem.W.looks_findIn X hs).here ?_)))))
  refine wpAny_bind (wpAny_askSetting (wpAny_ite ?_))
  have whole : wpAny M A (call (.builtin "object.__ne__") ([.ref x] ++ args) >>= fun v => pure (some v)) Q E s := wpAny_bind (wpAny_mono h (fun v s' q => wpAny_pure q) fun _ _ q => q)
  split
  · exact wpAny_bind (wpAny_of_eq (F.cmp_object.ne.bind _) (wpAny_pure (by exact whole)))
  · exact wpAny_tryCatch (wpAny_bind (wpAny_of_eq (F.cmp_object.ne.bind _) (wpAny_pure (by exact whole))))
/-- x != b by the own == -/
theorem ne_K {b tb : Value} {f : Addr} {Q : Value → Shared → Prop} (hu : A.units + 1 < cLine) (X : K.In s.heap) (I : PySem.W.InstAt s.heap x ox C od) (hb : PySem.W.Looks (model prog w) s.heap (typeOf b) tb) (hn : PySem.W.notFirst K C tb = true)
    (hne : PySem.W.findIn K (.ref C) "__ne__" = some (some (.builtin "object.__ne__"))) (hobj : PySem.W.mroIn K C (.type "object") = some true) (hs : PySem.W.findIn K (.ref C) "__eq__" = some (some (.ref f))) (hf : PySem.W.isFn K (.ref f) = true)
    (h : wpAny (model prog w) A.in1 (call (.ref f) [.ref x, b]) (fun v s' => ∃ r, v = .bool r ∧ Q (.bool (!r)) s') E s) : wpAny (model prog w) A (richCompare .NotEq (.ref x) b) Q E s := by
  have one : wpAny (model prog w) A (tryCompare (.ref x) "__ne__" b) (fun r s' => ∃ v, r = some v ∧ Q v s') E s := by
    unfold tryCompare
    refine wpAny_bind (ifBound_objNe X I hne (wpAny_call (codeAny_call_builtin F.cmp_object.ne.plain F.cmpEntry_ne (PySem.W.check_slot F.cmpKind_ne F.cmpSplit_ne (I.type.andThen (PySem.W.looks_mroIn X hobj)) (F.cmpArgs_ne _ _) ?_))))
    unfold Builtin.«object.__ne__»
    repeat (first
      | with_reducible refine wpAny_cRoomFor (A := A.in1) hu ?_
      | (refine wpAny_bind (m := callSpecialIfBound? (.ref x) (Str.ofString "__eq__") [b]) (PySem.W.ifBound_K X I hs hf (wpAny_mono h (fun r s' hr => ?_) fun _ _ e => e)))
      | wp_step)
    obtain ⟨r, rfl, q⟩ := hr
    repeat (first | (refine wpAny_bind (m := truthy (.bool _)) (wpAny_truthy_bool ?_)) | wp_step)
    exact ⟨_, rfl, q⟩
  simp only [richCompare, cmpInfo_NotEq, oneThing_ref]
  refine wpAny_holding (wpAny_bind (wpAny_cRoomFor (Nat.lt_of_succ_lt hu) ?_))
  refine wpAny_bind (I.type.here (wpAny_bind (hb.here ?_)))
  have done : ∀ r s', (∃ v, r = some v ∧ Q v s') → wpAny (model prog w) A (match r with | some v => pure v | none => pure .none) Q E s' := fun r s' ⟨v, e, q⟩ => by subst e; exact wpAny_pure q
  split
  · rename_i q
    have e : PySem.W.subIn K tb (.ref C) = some false := by
      rcases Bool.or_eq_true_iff.mp hn with e | e
      · rw [beq_iff_eq.mp e] at q; simp at q
      · exact beq_iff_eq.mp e
    refine wpAny_bind ((PySem.W.looks_subIn X e).here ?_)
    simp only [Bool.false_eq_true, if_false]
    refine wpAny_bind (wpAny_mono one (fun r s' z => ?_) fun _ _ e => e)
    obtain ⟨v, rfl, hq⟩ := z
    exact wpAny_pure hq
  · refine wpAny_bind (wpAny_pure ?_)
    simp only [Bool.false_eq_true, if_false]
    refine wpAny_bind (wpAny_mono one (fun r s' z => ?_) fun _ _ e => e)
    obtain ⟨v, rfl, hq⟩ := z
    exact wpAny_pure hq
end
end Vk
set_option Elab.async false
set_option maxRecDepth 100000
set_option maxHeartbeats 4000000
set_option linter.all false
namespace Vk
open PySem PySem.Spec PyProof.Rows PySem.SeqAt L2
open Builtin
/-! ## == and != and in, on the left an instance of an own class with its own == -/
inductive TyE (H : Hp) : V → Value → Prop
  | non : TyE H .non (.type "NoneType")
  | bl (b : Bool) : TyE H (.bl b) (.type "bool")
  | int (i : Int) : TyE H (.int i) (.type "int")
  | str (z : Str) : TyE H (.str z) (.type "str")
  | tup {a : Addr} {xs : List V} (e : H a = some (.tup xs)) : TyE H (.ref a) (.type "tuple")
  | lst {a : Addr} {xs : List V} (e : H a = some (.lst xs)) : TyE H (.ref a) (.type "list")
  | ins {a C dx : Addr} {fs : List (Str × V)} (e : H a = some (.ins C dx fs)) : TyE H (.ref a) (.ref C)
section
variable {X : Cx} {pins : List (Addr × Obj)} {σ : L2.St} {H : Hp} {s : Shared}
theorem looks_of {T : String} {u : Value} (h : ∀ s2 : Shared, (∀ b o, s.heap.get? b = some o → s2.heap.get? b = some o) → s2.TypeIs u T) : PySem.W.Looks (model X.prog X.w) s.heap (typeOf u) (.type T) := fun A Q E s2 k q => wpAny_typeOf (h s2 k) q
theorem TyE.looks {y : V} {u t : Value} (I : Inv X pins σ H s) (h : TyE H y t) (r : RelV y u) : PySem.W.Looks (model X.prog X.w) s.heap (typeOf u) t := by
  cases h with
  | non => cases (show u = Value.none from r); exact looks_of fun _ _ => rfl
  | bl b => cases (show u = Value.bool b from r); exact looks_of fun _ _ => rfl
  | int i => obtain ⟨t, rfl⟩ := (show ∃ t, u = Value.int i t from r); exact looks_of fun _ _ => rfl
  | str z => obtain ⟨t, rfl⟩ := (show ∃ t, u = Value.str z t from r); exact looks_of fun _ _ => rfl
  | tup e =>
    cases (show u = Value.ref _ from r)
    obtain ⟨its, rv, ⟨o, ho, hc, n, hd⟩, _⟩ := I.tuple (SqT.of e)
    exact looks_of fun s2 k => ⟨o, k _ _ ho, hc⟩
  | lst e =>
    cases (show u = Value.ref _ from r)
    obtain ⟨its, rv, ⟨o, n, ho, hc, _, hd⟩, _⟩ := I.list (SqL.of e)
    exact looks_of fun s2 k => ⟨o, k _ _ ho, hc⟩
  | ins e =>
    cases (show u = Value.ref _ from r)
    obtain ⟨mA, O, _⟩ := ins_get I.hok e
    obtain ⟨od, J, _⟩ := O.look
    exact J.type
end
/-- the own == of the class at C -/
structure EqI (P : Program) (w : World) (K : PySem.W.Frag) (mg : Str → Option Value) (base : Heap) (k : Nat) (C : Addr) (sp : Sp) : Prop where
  ex : ∃ (f : Addr) (fd : FuncData), PySem.W.findIn K (.ref C) "__eq__" = some (some (.ref f)) ∧ PySem.W.isFn K (.ref f) = true ∧ FnOk P w K mg base CX0 k f fd ["self", "other"] sp ∧ Binds K fd ["self", "other"] []
  ne : PySem.W.findIn K (.ref C) "__ne__" = some (some (.builtin "object.__ne__"))
  obj : PySem.W.mroIn K C (.type "object") = some true
  no1 : PySem.W.mroIn K C (.type "tuple") = some false
  no2 : PySem.W.mroIn K C (.type "list") = some false
  no3 : PySem.W.mroIn K C (.type "str") = some false
  no4 : PySem.W.mroIn K C (.type "NoneType") = some false
def rEqI (K : PySem.W.Frag) (C : Addr) (sp : Sp) (g : Bool → Bool) : R2 := fun x y H Q => ∃ a dx fs tb, x = .ref a ∧ H a = some (.ins C dx fs) ∧ TyE H y tb ∧ PySem.W.notFirst K C tb = true ∧ sp [x, y] H (fun v H' => ∃ b, v = .bl b ∧ Q (.bl (g b)) H') E0
section
variable {X : Cx} {k j : Nat} {C : Addr} {sp : Sp}
theorem eq_run {A : Around} {pins : List (Addr × Obj)} {σ : L2.St} {H : Hp} {s : Shared} {Q : VK} {a f : Addr} {fd : FuncData} {y : V} {u : Value} {E' : Value → Shared → Prop} (F : FnOk X.prog X.w X.K X.mg X.base CX0 k f fd ["self", "other"] sp) (hb : Binds X.K fd ["self", "other"] []) (hr : Room k A) (hfr : A.frames = X.A.frames)
    (I : Inv X pins σ H s) (r : RelV y u) (h : sp [.ref a, y] H Q E0) : wpAny (model X.prog X.w) A (call (.ref f) [.ref a, u]) (EP X pins σ Q) E' s := by
  have e0 : Env0 X.prog X.w X.K X.mg X.base A X.stack s H := by
    have e := I.env0
    exact ⟨hfr.trans e.frames, e.mod, e.bs, e.bsz, e.funs, e.frf, e.hok, e.bare⟩
  have bound := hb s [.ref a, u] I.kIn rfl
  rw [List.append_nil] at bound
  refine wpAny_call (codeAny_mono (F.run A X.stack s H ⟨[.ref a, u], []⟩ [.ref a, u] [.ref a, y] Q E0 hr e0 bound (.cons rfl (.cons r .nil)) h) fun res s' hq => ?_)
  match res, hq with
  | .error e, hq => exact hq.elim
  | .ok (.ret u), hq => exact I.after hq
  | .ok .next, hq => exact hq.elim
  | .ok .brk, hq => exact hq.elim
  | .ok .cont, hq => exact hq.elim
theorem op_eqI (e : EqI X.prog X.w X.K X.mg X.base k C sp) (hr : Room j X.A) (hk : k ≤ j) : OpR X (compareOp .Eq) (rEqI X.K C sp id) := by
  intro pins s σ H x y v u Q I rx ry h
  obtain ⟨a, dx, fs, tb, rfl, ha, ty, hn, q⟩ := h
  cases (show v = Value.ref a from rx)
  obtain ⟨f, fd, hs, hf, F, hb⟩ := e.ex
  obtain ⟨mA, O, _⟩ := ins_get I.hok ha
  obtain ⟨od, J, _⟩ := O.look
  obtain ⟨m, hF⟩ := I.fr
  show wpAny (model X.prog X.w) X.A (richCompare .Eq (.ref a) u) (EP X pins σ Q) X.xe s
  refine PySem.W.cmp_K (op := .Eq) hr.units0 hF I.ok.mod.kin J (ty.looks I ry) hn hs hf (wpAny_mono (eq_run F hb (hr.mono hk) rfl I ry q) (fun v1 s1 z => ?_) fun _ _ z => z)
  obtain ⟨z1, H1, I1, rz, b, rfl, q1⟩ := z
  cases (show v1 = Value.bool b from rz)
  exact ⟨.bl b, H1, I1, rfl, q1⟩
theorem op_neI (e : EqI X.prog X.w X.K X.mg X.base k C sp) (hr : Room j X.A) (hk : k + 1 ≤ j) : OpR X (compareOp .NotEq) (rEqI X.K C sp not) := by
  intro pins s σ H x y v u Q I rx ry h
  obtain ⟨a, dx, fs, tb, rfl, ha, ty, hn, q⟩ := h
  cases (show v = Value.ref a from rx)
  obtain ⟨f, fd, hs, hf, F, hb⟩ := e.ex
  obtain ⟨mA, O, _⟩ := ins_get I.hok ha
  obtain ⟨od, J, _⟩ := O.look
  have hr1 := hr.mono hk
  show wpAny (model X.prog X.w) X.A (richCompare .NotEq (.ref a) u) (EP X pins σ Q) X.xe s
  refine ne_K (by have := hr.units; omega) I.kIn J (ty.looks I ry) hn e.ne e.obj hs hf (wpAny_mono (eq_run F hb hr1.in1 rfl I ry q) (fun v1 s1 z => ?_) fun _ _ z => z)
  obtain ⟨z1, H1, I1, rz, b, rfl, q1⟩ := z
  cases (show v1 = Value.bool b from rz)
  exact ⟨b, rfl, .bl (!b), H1, I1, rfl, q1⟩
/-- the items that give way to the instance's own == -/
inductive Dec (H : Hp) : V → Prop
  | non : Dec H .non
  | str (z : Str) : Dec H (.str z)
  | tup {a : Addr} {xs : List V} (e : H a = some (.tup xs)) : Dec H (.ref a)
  | lst {a : Addr} {xs : List V} (e : H a = some (.lst xs)) : Dec H (.ref a)
theorem dec_run {A : Around} {pins : List (Addr × Obj)} {σ : L2.St} {H : Hp} {s : Shared} {a dx : Addr} {fs : List (Str × V)} {y : V} {u : Value} {E' : Value → Shared → Prop} (e : EqI X.prog X.w X.K X.mg X.base k C sp) (hr : Room k A) (hfr : A.frames = X.A.frames)
    (I : Inv X pins σ H s) (ha : H a = some (.ins C dx fs)) (d : Dec H y) (r : RelV y u) (h : ∀ Q : VK, Q (.bl false) H → sp [.ref a, y] H Q E0) : wpAny (model X.prog X.w) A (eqBool u (.ref a)) (fun b s' => b = false ∧ Inv X pins σ H s') E' s := by
  obtain ⟨f, fd, hs, hf, Fn, hb⟩ := e.ex
  obtain ⟨mA, O, _⟩ := ins_get I.hok ha
  obtain ⟨od, J, _⟩ := O.look
  have back : wpAny (model X.prog X.w) A (call (.ref f) [.ref a, u]) (PySem.W.CmpBack fun v s' => ∃ b, v = .bool b ∧ b = false ∧ Inv X pins σ H s') E' s := by
    refine wpAny_mono (eq_run (Q := fun v H' => v = .bl false ∧ H' = H) Fn hb hr hfr I r (h _ ⟨rfl, rfl⟩)) (fun v1 s1 z => ?_) fun _ _ z => z
    obtain ⟨z1, H1, I1, rz, rfl, rfl⟩ := z
    cases (show v1 = Value.bool false from rz)
    exact ⟨false, rfl, rfl, I1⟩
  have hu := hr.units0
  cases d with
  | non =>
    cases (show u = Value.none from r)
    exact eqB_refl (fun z => nomatch z) (rc_refl (T := "NoneType") rfl F.slot_NoneType_eq_refl I.kIn J e.no4 hu (fun Q' q => call_gives F.slot_NoneType_eq_refl rfl F.entry_NoneType_eq (F.args_NoneType_eq_2 _ _) (NoneType___eq___none_ref_0 a) q) hs hf back)
  | str z =>
    obtain ⟨t, rfl⟩ := (show ∃ t, u = Value.str z t from r)
    exact eqB_refl (fun z => nomatch z) (rc_refl (T := "str") (typeIs_str _ _ _) F.slot_str_eq I.kIn J e.no3 hu (fun Q' q => str_dec J rfl q) hs hf back)
  | @tup b xs eb =>
    cases (show u = Value.ref b from r)
    have ne : b ≠ a := fun z => by rw [z, ha] at eb; cases eb
    obtain ⟨its, rv, ⟨⟨cls, dd, data, sl⟩, ho, hc, n, hd⟩, _⟩ := I.tuple (SqT.of eb)
    simp only at hc hd
    subst hc hd
    exact eqB_refl (fun z => ne (Value.ref.inj z)) (rc_refl (T := "tuple") ⟨_, ho, rfl⟩ F.slot_tuple_eq I.kIn J e.no1 hu (fun Q' q => tup_dec ho I.kIn J e.no1 q) hs hf back)
  | @lst b xs eb =>
    cases (show u = Value.ref b from r)
    have ne : b ≠ a := fun z => by rw [z, ha] at eb; cases eb
    obtain ⟨its, rv, ⟨⟨cls, dd, data, sl⟩, n, ho, hc, hdn, hd⟩, _⟩ := I.list (SqL.of eb)
    simp only at hc hd
    subst hc hd
    exact eqB_refl (fun z => ne (Value.ref.inj z)) (rc_refl (T := "list") ⟨_, ho, rfl⟩ F.slot_list_eq I.kIn J e.no2 hu (fun Q' q => lst_dec ho I.kIn J e.no2 q) hs hf back)
/-- a in ys, no item of which the own == takes for a -/
def rInI (K : PySem.W.Frag) (C : Addr) (sp : Sp) : R2 := fun x y H Q => ∃ a dx fs q ys, x = .ref a ∧ y = .ref q ∧ H a = some (.ins C dx fs) ∧ H q = some (.tup ys) ∧ (∀ i ∈ ys, Dec H i ∧ ∀ Q : VK, Q (.bl false) H → sp [.ref a, i] H Q E0) ∧ Q (.bl false) H
theorem vals_mem : ∀ {xs : List V} {us : List Value} {u : Value}, Vals xs us → u ∈ us → ∃ x, x ∈ xs ∧ RelV x u
  | _, _, _, .cons r t, h => by
    rcases List.mem_cons.mp h with rfl | h
    · exact ⟨_, List.mem_cons_self, r⟩
    · obtain ⟨x, h1, h2⟩ := vals_mem t h
      exact ⟨x, List.mem_cons_of_mem _ h1, h2⟩
theorem op_inI (e : EqI X.prog X.w X.K X.mg X.base k C sp) (hr : Room j X.A) (hk : k + 1 ≤ j) : OpR X (compareOp .In) (rInI X.K C sp) := by
  intro pins s σ H x y v u Q I rx ry h
  obtain ⟨a, dx, fs, q, ys, rfl, rfl, ha, hq, items, k1⟩ := h
  cases (show v = Value.ref a from rx)
  cases (show u = Value.ref q from ry)
  obtain ⟨its, rv, ⟨⟨cls, dd, data, sl⟩, ho, hc, n, hd⟩, _⟩ := I.tuple (SqT.of hq)
  simp only at hc hd
  subst hc hd
  have hr1 := (hr.mono hk).in1
  show wpAny _ _ (contains (.ref q) (.ref a) >>= fun b => pure (Value.bool b)) _ _ s
  refine wpAny_bind (wpAny_contains_slot ⟨_, ho, rfl⟩ F.slot_tuple_contains (GQ.call_here F.slot_tuple_contains ⟨_, ho, rfl⟩ F.entry_tuple_contains (F.args_tuple_contains_2 _ _) ?_))
  have I0 := I
  obtain ⟨hp, g, d, tk, os⟩ := s
  wp_walk using AutoSeq1.wpAny_loadPart' ho, MeetsSeq2.wpAny_forIn_array _ (fun rest b s' => b.1 = none ∧ L2.Inv X pins σ H s' ∧ (∀ y, y ∈ rest → y ∈ its)) _
  case turn =>
    rintro y rest b s' ⟨hb, I1, hm⟩
    obtain ⟨z, hz, rz⟩ := vals_mem rv (hm y List.mem_cons_self)
    obtain ⟨dz, nz⟩ := items z hz
    refine wpAny_bind (wpAny_mono (dec_run (A := X.A.in1) e hr1 rfl I1 ha dz rz nz) (fun r s2 q2 => ?_) fun _ _ z => z)
    obtain ⟨rfl, I2⟩ := q2
    wp_walk
    exact ⟨rfl, I2, fun y hy => hm y (List.mem_cons_of_mem _ hy)⟩
  case fin =>
    rintro ⟨b1, b2⟩ s' ⟨hb, I1, _⟩
    simp only at hb
    subst hb
    obtain ⟨hp2, g2, d2, tk2, os2⟩ := s'
    wp_walk
    exact wpAny_truthy_bool (wpAny_pure ⟨.bl false, H, I1, rfl, k1⟩)
  case h => exact ⟨rfl, I0, fun y hy => by simpa using hy⟩
end
end Vk
set_option Elab.async false
set_option maxRecDepth 100000
set_option maxHeartbeats 4000000
set_option linter.all false
namespace Vk
open PySem PySem.Spec PyProof.Rows L2 StX
/-! ## def f(self, *parts), with nothing under way -/
def FnRG (P : Program) (w : World) (K : PySem.W.Frag) (mg : Str → Option Value) (base : Heap) (CX : CXT) (k : Nat) (f : Addr) (sp : Sp) : Prop :=
  ∀ (A : Around) (outer : List Env) (s : Shared) (H : Hp) (us : List Value) (vs : List V) (Q : VK) (E : XK), A.guards = some [] → Room k A → Env0 P w K mg base A outer s H → Vals vs us → sp vs H Q E →
    codeAny (model P w) A (.call (.ref f) ⟨us, []⟩) (CR CX outer P w H s Q E) s
theorem passesF {X : Cx} : Passes (L2.CX X.prog X.w) X (fun _ _ _ => False) := by
  rintro pins σ H s e s' I ⟨a, B, H', cls, d, _, _, _, _, _, _, _, h⟩
  exact h.elim
section
variable {CX : CXT} {P : Program} {w : World} {K : PySem.W.Frag} {mg : Str → Option Value} {base : Heap} {k : Nat} {x qual : Str} {st : Stmt} {f : Addr} {fd : FuncData} {N ps : List Str} {sp : Sp}
theorem okStar {pv : Str} (F : Fun K x qual st f fd) (S : FnScope N (ps ++ [pv]) (defScope st)) (hCX : CXUp CX)
    (hb : ∀ (kV doc pm : Value) (an : Option Addr) (cdv ct : Value) (us rest : List Value), us.length = ps.length → bindArgs (PySem.W.fnOf x qual (defArgs st) (defBody st) (defScope st) .none kV doc pm an cdv ct) ⟨us ++ rest, []⟩ = (newTuple rest >>= fun t => pure (ps.zip us ++ [(pv, t)])))
    (body : ∀ (cdv : Value) (A : Around) (outer : List Env) (s : Shared) (H : Hp) (vs : List V) (Q : VK) (E : XK), A.guards = some [] → Room k (A.deeper (envOfC qual (defScope st) s.heap.objs.size f cdv)) → sp vs H Q E →
      ∃ t, PSs (cxOf CX P w K mg base N qual (defScope st) f cdv A outer s H E) (defBody st) t ∧ t { nx := fun _ H' => Q .non H', rt := Q } (start N vs) H) :
    FnRG P w K mg base CX (k + 1) f (fun vs H Q E => ∃ ws rest, vs = ws ++ rest ∧ ws.length = ps.length ∧ rest.length ≤ sizeLine ∧ ∀ p, H p = none → sp (ws ++ [.ref p]) (upd H p (.tup rest)) Q E) := by
  intro A outer s H us vs Q E hg hr e0 r hsp
  obtain ⟨ws, rest, rfl, hl, hz, q⟩ := hsp
  obtain ⟨oc, od, kV, doc, pm, an, cdv, ct, osl, rfl, lk, hcd⟩ := F.ex
  obtain ⟨u1, u2, rfl, r1, r2⟩ := vals_split r
  have free : H s.heap.objs.size = none := e0.hok.fresh (Nat.le_refl _)
  have l1 : u1.length = ps.length := r1.length.symm.trans hl
  have l2 : u2.length ≤ sizeLine := by rw [← r2.length]; exact hz
  refine run_bnd lk hcd S hr e0 (G := fun xs H2 => ∃ p, H p = none ∧ xs = ws ++ [V.ref p] ∧ H2 = upd H p (.tup rest)) (fun A1 E1 Q1 h => ?_) (fun s2 H2 xs g hr2 => ?_)
  · rw [hb kV doc pm an cdv ct u1 u2 l1]
    refine wpAny_bind (wpAny_newTuple (wpAny_pure ?_) l2)
    have laid : ObjOk P w (upd H s.heap.objs.size (.tup rest)) (s.heap.push ({ cls := .type "tuple", data := .seq u2.toArray } : Obj)) s.heap.objs.size (.tup rest) := ⟨hz, u2, r2, ⟨_, Heap.get?_push_size _ rfl, rfl, _, rfl⟩⟩
    have un1 := un_laid (fs := frs outer) (s := s) (o := ({ cls := .type "tuple", data := .seq u2.toArray } : Obj)) (u := .tup rest) free
    have all := h _ _ (ws ++ [V.ref s.heap.objs.size]) (u1 ++ [Value.ref s.heap.objs.size]) (env0_laid e0 laid) un1 rfl (fun e s3 => hCX outer s H _ _ E e s3 un1 (fun b o z => Heap.get?_push_of_some _ z) rfl) (r1.append (.cons rfl .nil))
      (by rw [List.length_append, List.length_append, hl] <;> rfl) ⟨_, free, rfl, rfl⟩
    rw [List.zip_append l1.symm] at all
    exact all
  · obtain ⟨p, hp, rfl, rfl⟩ := g
    exact body cdv A outer s2 _ _ Q E hg hr2 (q p hp)
end
section
variable {X : Cx} {CX : CXT} {k j : Nat} {C f : Addr} {sp : Sp} {E : XK} {x : Str} {p pos : Pos} {e : Expr} {es : List Expr} {t : TA}
theorem star_run {pins : List (Addr × Obj)} {σ : L2.St} {H : Hp} {s : Shared} {Q : VK} {us : List Value} {vs : List V} (M : L2.Mk X.K C f) (F : FnRG X.prog X.w X.K X.mg X.base CX k f sp) (hg : X.A.guards = some []) (hr : Room (k + 1) X.A) (hx : Passes CX X E) (I : Inv X pins σ H s) (r : Vals vs us) (q : Born C sp vs H Q E) :
    wpAny (model X.prog X.w) X.A (call (.ref C) us) (EP X pins σ Q) X.xe s := by
  have I2 := Inv.made (C := C) I
  have asked := q (s.heap.objs.size + 1) s.heap.objs.size (I.hok.fresh (Nat.le_succ _)) (I.hok.fresh (Nat.le_refl _)) (Nat.ne_of_lt (Nat.lt_succ_self _))
  refine wpAny_call (make_map (f := f) I.kIn M.makes M.init (beq_iff_eq.mp M.fn) (codeAny_mono (F _ X.stack _ _ (Value.ref (s.heap.objs.size + 1) :: us) (V.ref (s.heap.objs.size + 1) :: vs) _ E ?_ (hr.make C us []) (I2.env0.make C us []) (.cons rfl r) asked) fun res s3 hz => ?_))
  · first
      | exact hg
      | (simpa [Around.under, Code.isGuard, guardIds] using hg)
  · match res, hz with
    | .error er, hz => exact hx pins σ _ _ er s3 I2 hz
    | .ok (.ret u), hz =>
      obtain ⟨v, H2, I3, rv, ev, q3⟩ := I2.after hz
      subst ev
      exact ⟨rv, V.ref (s.heap.objs.size + 1), H2, I3, rfl, q3⟩
    | .ok .next, hz => exact hz.elim
    | .ok .brk, hz => exact hz.elim
    | .ok .cont, hz => exact hz.elim
def tStarI (C : Addr) (sp : Sp) (E : XK) (t : TA) : TE := fun σ H Q => t σ H fun vs H1 => Born C sp vs H1 Q E
theorem pe_starI (M : L2.Mk X.K C f) (F : FnRG X.prog X.w X.K X.mg X.base CX k f sp) (hg : X.A.guards = some []) (hr : Room j X.A) (hk : k + 1 ≤ j) (hm : X.mg x = some (.ref C)) (hx : Passes CX X E) (ha : PA X (e :: es) t) (gl : Gl X x := by rfl) (hdb : (x == ("__debug__" : Str)) = false := by decide)
    (he : starEach (e :: es) X.env = (false, eval e X.env) :: starEach es X.env := by rfl) (hpl : (backTo pos (starEach es X.env)).any (·.1) = false := by rfl) : PE X (.Call (.Name x p) (e :: es) [] pos) (tStarI C sp E t) := by
  refine ⟨fun pins s σ H Q I h => wpAny_Call_Name_kw (ld_glob I gl hm (PySem.W.callWith_K (h₀ := X.base) I.ok.mod.kin M.kp (thn (ha.run pos pins s σ H _ I h) fun us s1 hh => ?_) he hpl) hdb)⟩
  obtain ⟨vs, H1, I1, r, q⟩ := hh
  exact ⟨I1.kIn, star_run M F hg (hr.mono hk) hx I1 r q⟩
theorem pe_starI0 (M : L2.Mk X.K C f) (F : FnRG X.prog X.w X.K X.mg X.base CX k f sp) (hg : X.A.guards = some []) (hr : Room j X.A) (hk : k + 1 ≤ j) (hm : X.mg x = some (.ref C)) (hx : Passes CX X E) (gl : Gl X x := by rfl) (hdb : (x == ("__debug__" : Str)) = false := by decide) :
    PE X (.Call (.Name x p) [] [] pos) (tStarI C sp E tNil) :=
  ⟨fun pins s σ H Q I h => wpAny_Call_Name_kw (ld_glob I gl hm (PySem.W.callWith_K0 I.kIn M.kp (star_run M F hg (hr.mono hk) hx I .nil h)) hdb)⟩
end
theorem pg_tupK {X : Cx} {K : PySem.W.Frag} {es : List Expr} {k : Nat} {t : TGs} {n : Nat} {pos : Pos} (hK : X.K = K) (hc : X.calm = true) (h : PGs X es t)
    (hn : (assignEach es X.env).length = n := by rfl) (hst : (assignEach es X.env).findIdx? (·.1) = none := by rfl) : PG X (.Tuple es k pos) (gTup K n t) := hK ▸ pg_tup hc h hn hst
end Vk
set_option Elab.async false
set_option maxRecDepth 100000
set_option maxHeartbeats 4000000
set_option linter.all false
namespace Vk
open PySem PySem.Spec PyProof.Rows L2
/-! ## for i, x in enumerate(t), t a tuple -/
theorem enum_new1 (t : Addr) (items : Array Value) : Meets (Builtin.«enumerate.__new__» ⟨[.type "enumerate", .ref t], []⟩) (fun _ R s => s.heap.IsTuple t items ∧
    R (.ok (.ret (.ref (s.heap.push { cls := .type "tuple_iterator", data := .fields #[.ref t, .int 0 0] }).objs.size)))
      { s with heap := (s.heap.push { cls := .type "tuple_iterator", data := .fields #[.ref t, .int 0 0] }).push { cls := .type "enumerate", data := .fields #[.none, .bool false, .ref s.heap.objs.size, rawInt 0, .none, .none] } }) :=
  .of_wp fun prog w A R s h => by
    obtain ⟨hp, g, d, tk, os⟩ := s
    obtain ⟨isT, k⟩ := h
    have sub := sub_enumerate
    have it1 : ∀ {A1 : Around} {E1 : Value → Shared → Prop} {Q1 : Value → Shared → Prop}, Q1 (.ref hp.objs.size) ⟨hp.push { cls := .type "tuple_iterator", data := .fields #[.ref t, .int 0 0] }, g, d, tk, os⟩ → wpAny (model prog w) A1 (pyIter (.ref t)) Q1 E1 ⟨hp, g, d, tk, os⟩ := fun q => wpAny_pyIter_tuple isT q
    wp_walk
    refine wpAny_stack_any fun st => wpAny_pure ?_
    split
    · rename_i c _ _ _ _ _
      cases (c == Value.type "enumerate")
      · wp_walk using it1
        exact ⟨_, rfl, k⟩
      · wp_walk using it1
        exact ⟨_, rfl, k⟩
    · wp_walk using it1
      exact ⟨_, rfl, k⟩
section
variable {prog : Program} {w : World} {A : Around} {E : Value → Shared → Prop} {s : Shared}
theorem call_enumT {t : Addr} {items : Array Value} {Q : Value → Shared → Prop} (isT : s.heap.IsTuple t items)
    (h : ∀ h2, IsEnum h2 (s.heap.objs.size + 1) s.heap.objs.size 0 .none → h2.IsTupleIter s.heap.objs.size t 0 → (∀ b o, s.heap.get? b = some o → h2.get? b = some o) → Q (.ref (s.heap.objs.size + 1)) { s with heap := h2 }) :
    wpAny (model prog w) A (call (.type "enumerate") [.ref t]) Q E s := by
  refine callType_new F.called_enumerate (by decide) (F.typeCall_enumerate_1 _) (F.newCall_enumerate_1 _) (fun obj => F.args_object_init_2 obj _) F.entry_enumerate_new (enum_new1 t items) ⟨isT, ?_⟩
  have one : (s.heap.push { cls := .type "tuple_iterator", data := .fields #[.ref t, .int 0 0] }).objs.size = s.heap.objs.size + 1 := Heap.size_push ..
  show _ ∧ _
  rw [one]
  have at1 : IsEnum ((s.heap.push { cls := .type "tuple_iterator", data := .fields #[.ref t, .int 0 0] }).push
      { cls := .type "enumerate", data := .fields #[.none, .bool false, .ref s.heap.objs.size, rawInt 0, .none, .none] }) (s.heap.objs.size + 1) s.heap.objs.size 0 .none := by
    have z := Heap.get?_push_size (s.heap.push { cls := .type "tuple_iterator", data := .fields #[.ref t, .int 0 0] })
      (o := { cls := .type "enumerate", data := .fields #[.none, .bool false, .ref s.heap.objs.size, rawInt 0, .none, .none] }) rfl
    rw [one] at z
    exact z
  exact ⟨⟨_, at1, rfl⟩, h _ at1 ⟨_, Heap.get?_push_of_some _ (Heap.get?_push_size _ rfl), rfl, rfl⟩ fun b o z => Heap.get?_push_of_some _ (Heap.get?_push_of_some _ z)⟩
end
/-- the tuple at a, each item in a new pair -/
def Itet (a : Addr) : It :=
  ⟨fun i H => ∃ (xs : List V) (x : V), H a = some (.tup xs) ∧ xs[i]? = some x, fun i H v H' => ∃ T x xs, v = .ref T ∧ H T = none ∧ H' = upd H T (.tup [.int (i : Nat), x]) ∧ H a = some (.tup xs) ∧ xs[i]? = some x, fun i H => ∃ xs : List V, H a = some (.tup xs) ∧ xs.length = i⟩
theorem turn_enumT {P : Program} {w : World} {K : PySem.W.Frag} {elts : List Expr} {kk : Nat} {tpos : Pos} (a e it : Addr) :
    Turn P w K (.Tuple elts kk tpos) (Itet a) [e, it] e (fun i h => (∃ old, IsEnum h e it ((i : Nat) : Int) old) ∧ h.IsTupleIter it a i ∧ e ≠ it ∧ a ≠ it ∧ e ≠ a) where
  mem := by simp
  obj := fun i h st b hb => by
    obtain ⟨⟨old, he⟩, ⟨o, ho, hc, hd⟩, _⟩ := st
    rcases List.mem_cons.mp hb with z | z
    · exact z ▸ ⟨_, he, fun v q => nomatch q⟩
    · rw [List.mem_singleton] at z
      exact z ▸ ⟨o, ho, fun v q => by rw [hd] at q; cases q⟩
  keep := fun i h h' st k => by
    obtain ⟨⟨old, he⟩, hi, rest⟩ := st
    exact ⟨⟨old, k e List.mem_cons_self _ he⟩, hi.at fun o q => k it (List.mem_cons_of_mem _ List.mem_cons_self) o q, rest⟩
  item := by
    intro X hP hw hK hc i pins s σ H E I hf st hg
    subst hP hw hK
    obtain ⟨⟨old, he⟩, hit, hne, hat, hea⟩ := st
    obtain ⟨xs, x, hq, hx⟩ := hg
    obtain ⟨its, rv, isT, hz⟩ := I.tuple (SqT.of hq)
    obtain ⟨u, hu, ru⟩ := rv.get hx
    have lt : i < its.toArray.size := by
      have := (List.getElem?_eq_some_iff.mp hu).1
      simpa using this
    have big1 : e < s.heap.objs.size := Heap.lt_size he
    have big2 : it < s.heap.objs.size := by obtain ⟨_, q, _⟩ := hit; exact Heap.lt_size q
    refine wpAny_pyNext_enum_itemD (Draws.tuple (A := X.A.in1) (I.ok.hd hc) it a hat its.toArray) he ⟨hit, isT⟩ lt hne (by simp [hne, hea]) fun u2 h2 tk hu2 ho st2 hT hsz hk => ?_
    obtain ⟨hit2, _⟩ := st2
    have eu : u2 = u := by
      have q := hu2
      simp only [List.getElem?_toArray] at q
      rw [hu] at q
      exact (Option.some.inj q).symm
    subst eu
    refine ⟨_, rfl, wpAny_letOwnedTupleGo_enum (s := { s with heap := h2, toks := tk + 1 }) ho fun h3 he3 sb => ?_⟩
    have hT3 : h3.get? s.heap.objs.size = some { cls := .type "tuple", data := .seq #[.int i tk, u2] } := (sb.2 _ (Nat.ne_of_gt big1)).trans hT
    have laid : ObjOk X.prog X.w (upd H s.heap.objs.size (.tup [.int (i : Nat), x])) h3 s.heap.objs.size (.tup [.int (i : Nat), x]) := ⟨few_len (Nat.le_of_ble_eq_true rfl), [.int i tk, u2], .cons ⟨_, rfl⟩ (.cons ru .nil), ⟨_, hT3, rfl, _, rfl⟩⟩
    have I1 : Inv X pins σ (upd H s.heap.objs.size (.tup [.int (i : Nat), x])) { s with heap := h3, toks := tk + 1 } :=
      I.turnedNew (ch := [e, it]) (fun b ob hb q => (sb.2 b (fun z => hb (by simp [z]))).trans (hk b ob (fun z => hb (by simp [z])) (fun z => hb (by simp [z])) q)) hf (Nat.le_refl _) laid
    refine ⟨.ref s.heap.objs.size, _, I1, rfl, ⟨_, x, xs, rfl, I.hok.fresh (Nat.le_refl _), rfl, hq, hx⟩, ⟨⟨u2, ?_⟩, hit2.at fun o q => (sb.2 it (Ne.symm hne)).trans q, hne, hat, hea⟩, fun b hb => ?_⟩
    · rw [show ((i + 1 : Nat) : Int) = (i : Int) + 1 by omega]
      exact he3
    · have old1 : b < s.heap.objs.size := by
        rcases List.mem_cons.mp hb with z | z
        · exact z ▸ big1
        · rw [List.mem_singleton] at z
          exact z ▸ big2
      exact (upd_ne (Nat.ne_of_lt old1)).trans (hf b hb).1
  done := by
    intro X hP hw hK hc i pins s σ H E I hf st hg
    subst hP hw hK
    obtain ⟨⟨old, he⟩, hit, hne, hat, hea⟩ := st
    obtain ⟨xs, hq, hx⟩ := hg
    obtain ⟨its, rv, isT, hz⟩ := I.tuple (SqT.of hq)
    obtain ⟨f0, f1, f2, f3, f4, f5⟩ := hf it (List.mem_cons_of_mem _ List.mem_cons_self)
    have le : i = its.toArray.size := by rw [← hx, rv.length, List.size_toArray]
    exact wpAny_pyNext_enum_endD (Draws.tuple (A := X.A.in1) (I.ok.hd hc) it a hat its.toArray) he ⟨le ▸ hit, isT⟩ fun h' eb => ⟨rfl, I.turned (t' := s.toks) (fun b o hb q => eb b o hb q) f0 f1 f3 f4 f5⟩
  self := fun A i s Q E st h => let ⟨⟨_, he⟩, _⟩ := st; wpAny_pyIter_enum he h
def iEnumT (ta : TA) : TI := fun σ H R => ta σ H fun vs H1 => ∃ a xs, vs = [.ref a] ∧ H1 a = some (.tup xs) ∧ R (Itet a) H1
theorem pi_enumT {X : Cx} {e : Expr} {ta : TA} {p pos tpos : Pos} {elts : List Expr} {kk : Nat} (gl : Gl X "enumerate") (hm : X.mg "enumerate" = none) (ha : PA X [e] ta) (hs : starEach [e] X.env = [(false, eval e X.env)] := by rfl) :
    PI X (.Tuple elts kk tpos) (.Call (.Name "enumerate" p) [e] [] pos) (iEnumT ta) := by
  refine ⟨fun pins s σ H R I h => Call_ (ld_blt I gl hm boot_enumerate (PyProof.Rows.callWith_type1 (thn (ha.run pos pins s σ H _ I h) fun us s1 hh => ?_) hs rfl))⟩
  obtain ⟨vs, H1, I1, r1, a, xs, rfl, hq, q⟩ := hh
  obtain ⟨u, rfl, ru⟩ := r1.one
  cases (show u = Value.ref a from ru)
  obtain ⟨its, rv, isT, hz⟩ := I1.tuple (SqT.of hq)
  have lta : a < s1.heap.objs.size := by obtain ⟨o, ho, _⟩ := isT; exact Heap.lt_size ho
  refine call_enumT isT fun h2 he hit hk => wpAny_pyIter_enum he ?_
  have I2 : Inv X pins σ H1 { s1 with heap := h2 } := I1.kept (t' := s1.toks) hk
  refine ⟨s1.heap.objs.size + 1, [s1.heap.objs.size + 1, s1.heap.objs.size], _, _, H1, rfl, I2, turn_enumT a (s1.heap.objs.size + 1) s1.heap.objs.size, ⟨⟨.none, he⟩, hit, Nat.succ_ne_self _, Nat.ne_of_lt lta, Nat.ne_of_gt (Nat.lt_succ_of_lt lta)⟩, fun b hb => ?_, q⟩
  have le : s1.heap.objs.size ≤ b := by
    rcases List.mem_cons.mp hb with z | z
    · rw [z]; exact Nat.le_succ _
    · rw [List.mem_singleton.mp z]; exact Nat.le_refl _
  exact I1.fpOk le (I1.hok.fresh le)
end Vk
set_option Elab.async false
set_option maxRecDepth 100000
set_option maxHeartbeats 4000000
set_option linter.all false
namespace Vk
open PySem PySem.Spec PyProof.Rows L2
/-- what repr asks -/
def Shn (d : PyData) : Prop := d.showable = true ∧ d.depth ≤ 60 ∧ d.shown.length ≤ sizeLine
/-- .. with room for a list around -/
def Shs (d : PyData) : Prop := d.showable = true ∧ d.depth ≤ 59 ∧ d.shown.length ≤ 100000 ∧ PyData.strOk d.shown = true
theorem Shs.shn {d : PyData} (h : Shs d) : Shn d := ⟨h.1, Nat.le_succ_of_le h.2.1, Nat.le_trans h.2.2.1 (by rw [sizeLine_eq]; decide)⟩
theorem shn2 {d1 d2 : PyData} (h1 : Shs d1) (h2 : Shs d2) : Shn (.list [d1, d2]) := by
  refine ⟨?_, ?_, ?_⟩
  · show (d1.showable && (d2.showable && true)) = true
    rw [h1.1, h2.1]
    rfl
  · show PyData.depthAll [d1, d2] + 1 ≤ 60
    have e : PyData.depthAll [d1, d2] = max d1.depth (max d2.depth 0) := rfl
    rw [e]
    have := h1.2.1
    have := h2.2.1
    omega
  · show (listText (PyData.shownAll [d1, d2])).length ≤ sizeLine
    rw [shownAll_map]
    have a := listText_le ([d1, d2].map PyData.shown)
    have b := piled_le (ts := [d1, d2].map PyData.shown) (n := 100000) (fun t ht => by
      rcases List.mem_cons.mp ht with e | ht
      · exact e ▸ h1.2.2.1
      · rw [List.mem_singleton.mp ht]
        exact h2.2.2.1)
    have c : ([d1, d2].map PyData.shown).length = 2 := rfl
    rw [c] at b
    rw [sizeLine_eq]
    omega
theorem char_ok : ∀ c ∈ letS.cps.toList, (∀ x ∈ Builtin.Str.reprChar 34 c, x < 0x110000) ∧ ∀ x ∈ Builtin.Str.reprChar 39 c, x < 0x110000 := by decide +kernel
theorem fold_ok (q : Nat) (hq : q = 34 ∨ q = 39) : ∀ (l : List Nat) (acc : Array Nat), (∀ c ∈ l, c ∈ letS.cps.toList) → (∀ x ∈ acc, x < 0x110000) → ∀ x ∈ (l.foldl (fun out c => out ++ (Builtin.Str.reprChar q c).toArray) acc), x < 0x110000
  | [], acc, _, h => h
  | c :: r, acc, hl, h => by
    rw [List.foldl_cons]
    refine fold_ok q hq r _ (fun d hd => hl d (List.mem_cons_of_mem _ hd)) (fun x hx => ?_)
    rcases Array.mem_append.mp hx with hx | hx
    · exact h x hx
    · have z := char_ok c (hl c List.mem_cons_self)
      have hx2 : x ∈ Builtin.Str.reprChar q c := by simpa using hx
      rcases hq with rfl | rfl
      · exact z.1 x hx2
      · exact z.2 x hx2
theorem quote_is (z : Str) : reprQuote z = 34 ∨ reprQuote z = 39 := by
  unfold reprQuote
  split
  · exact .inl rfl
  · exact .inr rfl
theorem repr_ok {z : Str} (h : ∀ c ∈ z.cps.toList, c ∈ letS.cps.toList) : PyData.strOk (reprText z) = true := by
  show (reprText z).cps.all (· < 0x110000) = true
  rw [Array.all_eq_true_iff_forall_mem]
  intro x hx
  have q : reprQuote z < 0x110000 := by
    rcases quote_is z with e | e <;> rw [e] <;> decide
  have hx2 : x ∈ (z.cps.foldl (fun out c => out ++ (Builtin.Str.reprChar (reprQuote z) c).toArray) #[reprQuote z]).push (reprQuote z) := hx
  rw [← Array.foldl_toList] at hx2
  simp only [decide_eq_true_eq]
  rcases Array.mem_push.mp hx2 with hx3 | rfl
  · exact fold_ok _ (quote_is z) _ _ h (fun y hy => by rw [show y = reprQuote z by simpa using hy]; exact q) x hx3
  · exact q
theorem shs_str {z : Str} (h : z.length ≤ 1000) (ltr : ∀ c ∈ z.cps.toList, c ∈ letS.cps.toList) : Shs (.str z) := by
  refine ⟨by simp [PyData.showable], by simp [PyData.depth], ?_, repr_ok ltr⟩
  show (reprText z).length ≤ 100000
  have all : ∀ c ∈ letS.cps.toList, c < 16 ^ 8 := by decide +kernel
  have q := StrLaws.reprText_len z (fun c hc => all c (ltr c hc))
  omega
section
variable {X : Cx}
theorem call_reprP (hg : X.A.guards = some []) (hu : X.A.units + 64 < cLine) : CallR X (.builtin "repr") (fun xs H Q => ∃ q x1 x2 d1 d2, xs = [.ref q] ∧ H q = some (.lst [x1, x2]) ∧ q ≠ sysModules ∧ Th H x1 d1 ∧ Th H x2 d2 ∧ Shn (.list [d1, d2]) ∧ Q (.str (PyData.list [d1, d2]).shown) H) := by
  intro pins s σ H xs us Q I r h
  obtain ⟨q, x1, x2, d1, d2, rfl, e, ne, t1, t2, sh, k⟩ := h
  obtain ⟨u, rfl, ru⟩ := r.one
  cases (show u = Value.ref q from ru)
  obtain ⟨its, rv, ⟨o, n, ho, hc, _, hd⟩, _⟩ := I.list (SqL.of e)
  cases rv with
  | cons r1 rv =>
    cases rv with
    | cons r2 rv =>
      cases rv
      obtain ⟨as, h1, n1⟩ := t1.reads I r1
      obtain ⟨bs, h2, n2⟩ := t2.reads I r2
      have rd := Reads.list ho hc hd (ReadsAll.cons h1 (ReadsAll.cons h2 ReadsAll.nil))
      refine repr_of_reads' rd sh.1 (fun z => ?_) hg (by have := sh.2.1; omega) (fun _ _ e => e) (fun h2 u tk hk => ⟨V.str _, H, I.kept hk, ⟨u, rfl⟩, k⟩) sh.2.2
      simp only [List.append_nil, List.mem_cons, List.mem_append, not_or]
      exact ⟨fun w => ne w.symm, n1, n2⟩
/-- one of some rules -/
theorem op_any {op : Value → Value → Sem Value} {N : Nat} {r : Nat → R2} (h : ∀ n, n < N → OpR X op (r n)) : OpR X op (fun x y H Q => ∃ n, n < N ∧ r n x y H Q) := by
  intro pins s σ H x y v u Q I rx ry hh
  obtain ⟨n, hn, q⟩ := hh
  exact h n hn pins s σ H x y v u Q I rx ry q
/-- e.f, a property, e an instance of one of some classes -/
structure PrI (P : Program) (w : World) (K : PySem.W.Frag) (mg : Str → Option Value) (base : Heap) (k : Nat) (C : Addr) (f fa : Str) : Prop where
  ex : ∃ (p g : Addr) (fd : FuncData), Cls K C ∧ PropOf K C f p g ∧ FnOk P w K mg base CX0 k g fd ["self"] (getSp C fa) ∧ Binds K fd ["self"] []
def tPropN (N : Nat) (Cs : Nat → Addr) (fa : Str) (ta : TE) : TE := fun σ H Q => ta σ H fun x H1 => ∃ n a dx fs v, n < N ∧ x = .ref a ∧ H1 a = some (.ins (Cs n) dx fs) ∧ fs.lookup fa = some v ∧ Q v H1
theorem pe_propN {N : Nat} {Cs : Nat → Addr} {f fa : Str} {k j : Nat} {e : Expr} {ta : TE} {pos : Pos} (he : PE X e ta) (h : ∀ n, n < N → PrI X.prog X.w X.K X.mg X.base k (Cs n) f fa) (hr : Room j X.A) (hk : k + 1 ≤ j) (hab : attributeBase e f X.env (eval e X.env) = eval e X.env := by rfl) :
    PE X (.Attribute e f pos) (tPropN N Cs fa ta) := by
  refine ⟨fun pins s σ H Q I hh => attr_of hab (thn (he.run pins s σ H _ I hh) fun u s1 q1 => ?_)⟩
  obtain ⟨x, H1, I1, rx, n, a, dx, fs, v, hn, rfl, ea, l, q⟩ := q1
  obtain ⟨p, g, fd, c, hp, F, hb⟩ := (h n hn).ex
  cases (show u = Value.ref a from rx)
  exact getprop_ok (ds := []) (dvs := []) (E := E0) I1 ea c hp F (hr.mono hk) hb .nil (fun _ _ _ _ _ _ _ z => z.elim) ⟨a, dx, fs, v, rfl, ea, l, q⟩
end
end Vk
set_option Elab.async false
set_option maxRecDepth 100000
set_option maxHeartbeats 4000000
set_option linter.all false
namespace Vk
open L2 PySem PySem.Spec PyProof.Rows
/-! ## lstrip leaves nothing of a string exactly if all its signs are to be stripped -/
theorem take_all {α : Type} (g : α → Bool) : ∀ l : List α, (l.takeWhile g).length = l.length ↔ l.all g = true
  | [] => by simp
  | a :: r => by
    rw [List.takeWhile_cons, List.all_cons]
    cases h : g a with
    | true =>
      rw [if_pos rfl, List.length_cons, List.length_cons, Bool.true_and]
      exact ⟨fun z => (take_all g r).mp (Nat.succ.inj z), fun z => congrArg Nat.succ ((take_all g r).mpr z)⟩
    | false =>
      rw [if_neg (by decide)]
      simp
theorem take_le {α : Type} (g : α → Bool) : ∀ l : List α, (l.takeWhile g).length ≤ l.length
  | [] => Nat.le_refl _
  | a :: r => by
    rw [List.takeWhile_cons]
    split
    · exact Nat.succ_le_succ (take_le g r)
    · exact Nat.zero_le _
theorem str_empty {z : Str} : z = "" ↔ z.cps.toList = [] := by
  constructor
  · rintro rfl
    rfl
  · intro h
    cases z with
    | mk c =>
      have e : c = #[] := by simpa using h
      subst e
      rfl
theorem lstrip_all {z y : Str} : Txt.lstripChars z y = "" ↔ z.cps.toList.all y.cps.contains = true := by
  unfold Txt.lstripChars Txt.stripBy
  have len : z.length = z.cps.toList.length := by simp [Str.length]
  have lo : stripLo y.cps.contains true z = (z.cps.toList.takeWhile y.cps.contains).length := rfl
  have hi : ∀ n, stripHi y.cps.contains false z n = z.length := fun n => rfl
  rw [← take_all]
  by_cases h0 : (z.cps.toList.takeWhile y.cps.contains).length = 0
  · have same : stripSame y.cps.contains true false z = true := by
      unfold stripSame
      rw [hi, lo, h0]
      simp
    rw [if_pos same, str_empty, h0]
    exact ⟨fun e => by rw [e]; rfl, fun e => List.length_eq_zero_iff.mp e.symm⟩
  · have same : ¬ (stripSame y.cps.contains true false z = true) := by
      unfold stripSame
      rw [hi, lo]
      simpa using fun e => absurd (by simpa using e) h0
    rw [if_neg same, str_empty]
    have sub : (stripped y.cps.contains true false z).cps.toList = z.cps.toList.drop (z.cps.toList.takeWhile y.cps.contains).length := by
      unfold stripped
      rw [hi, lo]
      show ((z.cps.extract _ z.length).toList) = _
      rw [Array.toList_extract, List.extract_eq_drop_take, len]
      rw [List.take_of_length_le (by rw [List.length_drop]; exact Nat.le_refl _)]
    rw [sub, List.drop_eq_nil_iff]
    have le := take_le y.cps.contains z.cps.toList
    exact ⟨fun e => Nat.le_antisymm le e, fun e => Nat.le_of_eq e.symm⟩
end Vk
namespace Vk
open L2 PySem PySem.Spec PyProof.Rows
/-- a comprehension over the signs of a string -/
theorem lc_str {z : Str} {g : TG} {tt : TT} {te : TE} {vs : List Nat} {σ : L2.St} {H1 : Hp} {D : Addr} {Qd : Hp → Prop} (Pv : Nat → Hp → Prop) (h0 : Pv 0 (upd H1 D (.lst [])))
    (hs : ∀ i c H, z.cps[i]? = some c → Pv i H → g (.str ⟨#[c]⟩) (wipe σ vs) H fun σ2 H2 => wipe σ2 vs = wipe σ vs ∧ tt σ2 H2 fun b H3 =>
      if b = true then te σ2 H3 fun y H4 => ∃ acc, H4 D = some (.lst acc) ∧ acc.length < sizeLine ∧ Pv (i + 1) (upd H4 D (.lst (acc ++ [y]))) else Pv (i + 1) H3) (hd : ∀ H, Pv z.cps.size H → Qd H) :
    ∃ W : Nat → Nat → Hp → Prop, (∃ m, W 0 m (upd H1 D (.lst []))) ∧ ∀ i m H, W i m H →
      ((Its z).stop i H ∧ Qd H) ∨ ((Its z).go i H ∧ ∃ Nx : Hp → Prop, (∀ H', Nx H' → ∃ m', m' < m ∧ W (i + 1) m' H') ∧ ∀ x H', (Its z).yld i H x H' → g x (wipe σ vs) H' fun σ2 H2 => wipe σ2 vs = wipe σ vs ∧ tt σ2 H2 fun b H3 =>
        if b = true then te σ2 H3 fun y H4 => ∃ acc, H4 D = some (.lst acc) ∧ acc.length < sizeLine ∧ Nx (upd H4 D (.lst (acc ++ [y]))) else Nx H3) := by
  refine ⟨fun i m H => m = z.cps.size - i ∧ i ≤ z.cps.size ∧ Pv i H, ⟨z.cps.size, rfl, Nat.zero_le _, h0⟩, ?_⟩
  rintro i m H ⟨rfl, hi, p⟩
  by_cases lt : i < z.cps.size
  · refine .inr ⟨lt, Pv (i + 1), fun H2 p2 => ⟨z.cps.size - (i + 1), by omega, rfl, lt, p2⟩, fun v H2 w => ?_⟩
    obtain ⟨rfl, c, hc, rfl⟩ := w
    exact hs i c _ hc p
  · have e : i = z.cps.size := by omega
    subst e
    exact .inl ⟨Nat.le_refl _, hd H p⟩
end Vk
set_option Elab.async false
set_option maxRecDepth 100000
set_option maxHeartbeats 4000000
set_option linter.all false
namespace Vk
open PySem PySem.Spec PyProof.Rows L2 LamX
/-! ## the law's own call, one def of the text makes lambdas (its code object c, its table P) -/
theorem lawGT {P : Program} {w : World} {K : PySem.W.Frag} {mg mb : Str → Option Value} {CX : CXT} {k : Nat} {fa a c tP : Addr} {fd : FuncData} {x : Str} {sp : Sp} {s1 : Shared} {vs : List Value} {ns : List Int}
    (KX : K.In s1.heap) (gns : s1.heap.Ns mainGlobals mg) (bns : s1.heap.Ns builtinsNs mb) (bbt : ∀ x : Str, x ≠ "__name__" → mb x = bootBuiltins x) (nolim : s1.heap.NoLimit) (gens0 : s1.gens = #[])
    (tabAt : s1.heap.get? tP = some { cls := .none, data := .fields #[] }) (tabK : K.lookup tP = none) (code : PySem.W.CodeHd s1.heap c tP)
    (bmain : ∃ (bm : Addr) (ob : Obj), mg "__builtins__" = some (.ref bm) ∧ bm ≠ builtinsNs ∧ s1.heap.get? bm = some ob ∧ ob.cls = .type "module" ∧ ob.dict = some builtinsNs ∧ ob.data = .plain)
    (scr : s1.heap.get? a = some { cls := .type "list", data := .seq vs.toArray }) (hints : IntsAre vs ns) (short : ns.length ≤ sizeLine) (room : Room k callerA)
    (F : ∀ base : Heap, K.In base → base.Ns mainGlobals mg → TabB base mg c tP → FnG P w K mg base CX k fa fd [x] sp) (bind1 : ∀ (s : Shared) (u : Value), BindsTo s fd ⟨[u], []⟩ [(x, u)])
    (prom : ∀ H : Hp, H tP = some (.tbl #[]) → SqL K H a (ns.map V.int) → sp [.ref a] H (fun v _ => v = .bl true) fun _ _ _ => False)
    (noX : ∀ H e s2, CX [] H s1 (fun _ _ _ => False) e s2 → False) :
    codeAny (model P w) callerA (.call (.ref fa) ⟨[.ref a], []⟩) (fun r s2 => r = .ok (.ret (.bool true)) ∧ OldK s1.heap s2.heap ∧ s2.os = s1.os ∧ AllBare s2.gens) s1 := by
  have rel := vals_ints hints
  have aP : a ≠ tP := fun z => by
    rw [z, tabAt] at scr
    cases scr
  have main : ∀ H : Hp, H tP = some (.tbl #[]) → (∀ b u, H b = some u → b = tP ∨ (b = a ∧ ∃ ob xs, u = .frz ob (.lst xs))) → SqL K H a (ns.map V.int) → HOk P w H s1.heap → (∀ u, H a = some u → K.lookup a = none) →
      codeAny (model P w) callerA (.call (.ref fa) ⟨[.ref a], []⟩) (fun r s2 => r = .ok (.ret (.bool true)) ∧ OldK s1.heap s2.heap ∧ s2.os = s1.os ∧ AllBare s2.gens) s1 := by
    intro H hP only seq ok un1
    have apart : ∀ {b : Addr} {o : Obj}, s1.heap.get? b = some o → (∀ ws n, o.data ≠ .seq ws n) → o.data ≠ .fields #[] → H b = none := by
      intro b o e n1 n2
      match q : H b with
      | none => rfl
      | some u =>
        rcases only b u q with rfl | ⟨rfl, _⟩
        · rw [tabAt] at e
          cases e
          exact absurd rfl n2
        · rw [scr] at e
          cases e
          exact absurd rfl (n1 _ _)
    have nsAt : ∀ {b : Addr} {m : Str → Option Value}, s1.heap.Ns b m → (hidT s1.heap H).Ns b m := by
      rintro b m ⟨o, es, ep, e, d, r⟩
      exact ⟨o, es, ep, hidT_get e (apart e (fun ws n z => nomatch d.symm.trans z) (fun z => nomatch d.symm.trans z)), d, r⟩
    have inK : K.In (hidT s1.heap H) := by
      intro b o e
      refine hidT_get (KX b o e) ?_
      match q : H b with
      | none => rfl
      | some u =>
        rcases only b u q with rfl | ⟨rfl, _⟩
        · exact nomatch tabK.symm.trans e
        · exact nomatch (un1 u q).symm.trans e
    have limAt : (hidT s1.heap H).NoLimit := match nolim with | ⟨mc, h1, h2⟩ => ⟨mc, nsAt h1, h2⟩
    have mod1 : Mod K mg (hidT s1.heap H) := ⟨inK, nsAt gns, ⟨mb, nsAt bns, bbt⟩, limAt⟩
    have tb : TabB (hidT s1.heap H) mg c tP := by
      refine ⟨?_, ?_, fun z => ?_⟩
      · obtain ⟨o, us, file, tf, flags, tg, inF, text, tt, e1, r1, r2, r3, r⟩ := code
        refine ⟨o, us, file, tf, flags, tg, inF, text, tt, hidT_get e1 (apart e1 (fun ws n z => nomatch r2.symm.trans z) (fun z => ?_)), r1, r2, r3, r⟩
        have z2 := r2.symm.trans z
        cases z2
        simp at r3
      · obtain ⟨bm, ob, b1, b2, b3, b4, b5, b6⟩ := bmain
        refine ⟨bm, ob, b1, b2, fun q => ?_, fun q => ?_, hidT_get b3 (apart b3 (fun ws n z => nomatch b6.symm.trans z) (fun z => nomatch b6.symm.trans z)), b4, b5, b6⟩
        · obtain ⟨o, es, ep, e, hd, _⟩ := gns
          rw [q, e] at b3
          cases b3
          exact nomatch hd.symm.trans b6
        · rw [q, tabAt] at b3
          cases b3
          cases b6
      · obtain ⟨o, es, ep, e, hd, _⟩ := gns
        rw [z, tabAt] at e
        cases e
        cases hd
    have start0 : Env0 P w K mg (hidT s1.heap H) callerA [] s1 H := ⟨rfl, mod1, fun b o => of_hidT, Nat.le_of_eq (hidT_size s1.heap H), trivial, (fun b hb => absurd hb (List.not_mem_nil (a := b))), ok, AllBare.of_eq gens0⟩
    refine codeAny_mono ((F _ inK (nsAt gns) tb).run callerA [] s1 H ⟨[.ref a], []⟩ [.ref a] [.ref a] _ _ rfl room start0 (bind1 s1 (.ref a)) (.cons rfl .nil) (prom H hP seq)) ?_
    intro res s2 h
    match res, h with
    | .error e, h => exact (noX H e s2 h).elim
    | .ok .next, h => exact h.elim
    | .ok .brk, h => exact h.elim
    | .ok .cont, h => exact h.elim
    | .ok (.ret u), ⟨v, H2, os, bare, un, ok2, r2, (hv : v = .bl true)⟩ =>
      cases hv
      have hu : u = Value.bool true := r2
      cases hu
      obtain ⟨more, grown⟩ := un.tbls tP #[] hP
      have tab2 : s2.heap.get? tP = some { cls := .none, data := .fields (#[] ++ more) } := ok2 tP _ grown
      have rest : ∀ b o, b ≠ tP → s1.heap.get? b = some o → s2.heap.get? b = some o := by
        intro b o nb e
        match q : H b with
        | none => exact un.keep b o e q (fun z => nomatch z) (fun z => nomatch z)
        | some u =>
          rcases only b u q with rfl | ⟨rfl, ob, xs, rfl⟩
          · exact absurd rfl nb
          · have c1 := (ok b _ q).1
            have c2 := (ok2 b _ (un.frzs b ob _ q)).1
            exact c2.trans (c1.symm.trans e)
      refine ⟨rfl, ⟨fun b o e => ?_, fun b o e => ?_⟩, os, bare⟩
      · by_cases hb : b = tP
        · subst hb
          have e2 := tabAt.symm.trans e
          cases e2
          exact .inr (.inl ⟨(code.tab tabAt).isCodeTable, rfl, #[], more, rfl, tab2⟩)
        · exact .inl (rest b o hb e)
      · by_cases hb : b = tP
        · exact ⟨_, hb ▸ tab2⟩
        · exact ⟨o, rest b o hb e⟩
  match hk : K.lookup a with
  | some o =>
    have e := (KX a o hk).symm.trans scr
    cases e
    refine main (fun b => if b = tP then some (.tbl #[]) else none) (if_pos rfl) (fun b u z => ?_) (Or.inr ⟨_, vs.toArray, _, hk, rfl, rfl, rfl, ?_, ?_⟩) (fun b u z => ?_) (fun u z => nomatch (if_neg aP).symm.trans z)
    · by_cases hb : b = tP
      · exact .inl hb
      · exact nomatch (if_neg hb).symm.trans z
    · rw [List.size_toArray, hints.length]
      exact short
    · simpa using rel
    · by_cases hb : b = tP
      · subst hb
        have z2 := (if_pos rfl).symm.trans z
        cases z2
        exact tabAt
      · exact nomatch (if_neg hb).symm.trans z
  | none =>
    refine main (fun b => if b = a then some (.frz { cls := .type "list", data := .seq vs.toArray } (.lst (ns.map V.int))) else if b = tP then some (.tbl #[]) else none) ((if_neg aP.symm).trans (if_pos rfl)) (fun b u z => ?_) (Or.inl (Or.inr ⟨_, if_pos rfl⟩)) (fun b u z => ?_) (fun _ _ => hk)
    · by_cases ha : b = a
      · exact .inr ⟨ha, _, _, (Option.some.inj ((if_pos ha).symm.trans z)).symm⟩
      · by_cases hb : b = tP
        · exact .inl hb
        · exact nomatch ((if_neg ha).trans (if_neg hb)).symm.trans z
    · by_cases ha : b = a
      · subst ha
        have z1 := (if_pos rfl).symm.trans z
        cases z1
        exact ⟨scr, (by rw [List.length_map]; exact short), vs, _, rel, scr⟩
      · have z := (if_neg ha).symm.trans z
        by_cases hb : b = tP
        · subst hb
          have z2 := (if_pos rfl).symm.trans z
          cases z2
          exact tabAt
        · exact nomatch (if_neg hb).symm.trans z
theorem walkXT {l : PySem.W.OpenLaw} {n k : Nat} {q : Program} {loose : List Str} {XP : (Str → Option Value) → Heap → Prop} {YP : World → Heap → Prop} {d : DefRec} {K : Params → PySem.W.Frag} {CX : CXT} {sp : Addr → PySem.W.Frag → Sp} {x : Str}
    (hn : l.most = some n) (hn2 : n ≤ sizeLine) (hdf : d.params.defaults = []) (hr : Room k callerA) (hY : ∀ (w : World) (h : Heap), YP w h → (K w.params).In h)
    (F : ∀ (w : World) (mg : Str → Option Value) (fa : Addr) (h : Heap), (K w.params).In h → (∃ s0 mb, PySem.W.Ground q loose [] XP w s0 mg mb h) → mg d.name = some (.ref fa) →
      ∃ (fd : FuncData) (c tP : Addr), h.get? tP = some { cls := .none, data := .fields #[] } ∧ (K w.params).lookup tP = none ∧ PySem.W.CodeHd h c tP ∧ (∀ (s : Shared) (u : Value), BindsTo s fd ⟨[u], []⟩ [(x, u)]) ∧
        ∀ base : Heap, (K w.params).In base → base.Ns mainGlobals mg → TabB base mg c tP → FnG l.prog w (K w.params) mg base CX k fa fd [x] (sp tP (K w.params)))
    (hsp : ∀ (tP : Addr) (K : PySem.W.Frag) (H : Hp) (a : Addr) (ns : List Int), ns.length ≤ n → H tP = some (.tbl #[]) → SqL K H a (ns.map V.int) → sp tP K [.ref a] H (fun v _ => v = .bl true) fun _ _ _ => False)
    (noX : ∀ (H : Hp) (s : Shared) (e : Value) (s2 : Shared), CX [] H s (fun _ _ _ => False) e s2 → False) : PySem.W.WalkO q loose XP YP l.row.toRowW d [] (fun f vs => PySem.call f vs) := by
  refine Att.attach_call hn hdf ?_
  intro w s0 s1 mg mb fa o pm cd doc a vs ns G Y _ _ _ hmg scr hints hlen gens0
  obtain ⟨fd, c, tP, t1, t2, t3, hb, hF⟩ := F w mg fa _ (hY w _ Y) ⟨s0, mb, G⟩ hmg
  exact lawGT (hY w _ Y) G.T.g G.T.b G.T.builtins G.T.nolimit gens0 t1 t2 t3 G.T.bmain scr hints (Nat.le_trans hlen hn2) hr hF hb (fun H h1 h2 => hsp tP _ H a ns hlen h1 h2) (fun H => noX H s1)
theorem const_i {p : Program} {loose : List Str} {mean : ExcName → Option Value} {mg mb : Str → Option Value} {h : Heap} (T : PyProof.Rows.Top p loose mean mg mb h) {x : Str} {i : Int} (e : PyProof.Rows.valOf p x = some (.int i)) : ∃ u, mg x = some u ∧ RelV (.int i) u := by
  obtain ⟨v, hv, r⟩ := T.const x _ e
  cases r h with
  | int i t => exact ⟨_, hv, ⟨t, rfl⟩⟩
theorem const_s {p : Program} {loose : List Str} {mean : ExcName → Option Value} {mg mb : Str → Option Value} {h : Heap} (T : PyProof.Rows.Top p loose mean mg mb h) {x z : Str} (e : PyProof.Rows.valOf p x = some (.str z)) : ∃ u, mg x = some u ∧ RelV (.str z) u := by
  obtain ⟨v, hv, r⟩ := T.const x _ e
  cases r h with
  | str i t => exact ⟨_, hv, ⟨t, rfl⟩⟩
/-- the table of a def's code object -/
theorem tab_at {p : Program} {loose : List Str} {mean : ExcName → Option Value} {mg mb : Str → Option Value} {h : Heap} {K : PySem.W.Frag} {x : Str} {c tP : Addr} (T : PyProof.Rows.Top p loose mean mg mb h) (X : K.In h) (hr : ((PyProof.Rows.recsOf p).find? (fun e => e.name == x)).isSome = true) (ht : PySem.W.tabIn K x = some (c, tP)) (no : PySem.W.noTabs K = true) :
    h.get? tP = some { cls := .none, data := .fields #[] } ∧ K.lookup tP = none ∧ PySem.W.CodeHd h c tP := by
  obtain ⟨d, hd⟩ := Option.isSome_iff_exists.mp hr
  obtain ⟨h1, h2⟩ := PySem.W.tab_of T X hd ht
  refine ⟨h2, ?_, h1⟩
  match q : K.lookup tP with
  | none => rfl
  | some o =>
    have e := (X _ _ q).symm.trans h2
    cases e
    have z := List.all_eq_true.mp no _ (PySem.W.mem_of_lookupK q)
    exact nomatch (show false = true from z)
end Vk
set_option Elab.async false
set_option maxRecDepth 100000
set_option maxHeartbeats 4000000
set_option linter.all false
namespace Vk
open PySem PySem.Spec PyProof.Rows L2 LamX
/-! ## where the modules are told lies a dict -/
def SM (base : Heap) : Prop := ∃ (o : Obj) (es : Array DictEntry) (ep : _), base.get? sysModules = some o ∧ o.data = .dict es ep
theorem sm_of {h : Heap} (x : h.NoSeer) : SM h := by
  obtain ⟨mm, ⟨o, es, ep, ho, hd, _⟩, _⟩ := x.mods
  exact ⟨o, es, ep, ho, hd⟩
section
variable {X : Cx} {pins : List (Addr × Obj)} {σ : L2.St} {H : Hp} {s : Shared}
theorem ne_sys (I : Inv X pins σ H s) (sm : SM X.base) {a : Addr} {xs : List V} (h : H a = some (.lst xs)) : a ≠ sysModules := by
  rintro rfl
  obtain ⟨o, es, ep, ho, hd⟩ := sm
  obtain ⟨its, rv, ⟨o2, n, ho2, hc, _, hd2⟩, _⟩ := I.list (SqL.of h)
  have e := (I.bk _ _ ho).symm.trans ho2
  cases e
  exact nomatch hd.symm.trans hd2
/-- a list or a tuple of such values -/
def Shm (H : Hp) (x : V) (d : PyData) : Prop := ∃ q vs ds, x = .ref q ∧ Paired (Th H) vs ds ∧ ((H q = some (.lst vs) ∧ d = .list ds) ∨ (H q = some (.tup vs) ∧ d = .tuple ds))
theorem ths_read (I : Inv X pins σ H s) : ∀ {vs : List V} {ds : List PyData} {us : List Value}, Paired (Th H) vs ds → Vals vs us → ∃ as, ReadsAll s.heap us ds as ∧ sysModules ∉ as
  | _, _, _, .nil, .nil => ⟨_, ReadsAll.nil, List.not_mem_nil⟩
  | _, _, _, .cons a t, .cons r rs => by
    obtain ⟨as, h1, n1⟩ := a.reads I r
    obtain ⟨bs, h2, n2⟩ := ths_read I t rs
    refine ⟨_, ReadsAll.cons h1 h2, ?_⟩
    simp only [List.mem_append, not_or]
    exact ⟨n1, n2⟩
theorem call_reprM (sm : SM X.base) (hg : X.A.guards = some []) (hu : X.A.units + 64 < cLine) : CallR X (.builtin "repr") (fun xs H Q => ∃ x d, xs = [x] ∧ Shm H x d ∧ Shn d ∧ Q (.str d.shown) H) := by
  intro pins s σ H xs us Q I r h
  obtain ⟨x, d, rfl, ⟨q, vs, ds, rfl, pr, hd⟩, sh, k⟩ := h
  obtain ⟨u, rfl, ru⟩ := r.one
  cases (show u = Value.ref q from ru)
  rcases hd with ⟨e, rfl⟩ | ⟨e, rfl⟩
  · have ne := ne_sys I sm e
    obtain ⟨its, rv, ⟨o, n, ho, hc, _, hd⟩, _⟩ := I.list (SqL.of e)
    obtain ⟨as, h1, n1⟩ := ths_read I pr rv
    have rd := Reads.list ho hc hd h1
    refine repr_of_reads' rd sh.1 (fun z => ?_) hg (by have := sh.2.1; omega) (fun _ _ e => e) (fun h2 u tk hk => ⟨V.str _, H, I.kept hk, ⟨u, rfl⟩, k⟩) sh.2.2
    simp only [List.mem_cons, not_or]
    exact ⟨fun w => ne w.symm, n1⟩
  · obtain ⟨its, rv, ⟨o, ho, hc, n, hd⟩, _⟩ := I.tuple (SqT.of e)
    obtain ⟨as, h1, n1⟩ := ths_read I pr rv
    have rd := Reads.tuple ho hc hd h1
    refine repr_of_reads' rd sh.1 (fun z => ?_) hg (by have := sh.2.1; omega) (fun _ _ e => e) (fun h2 u tk hk => ⟨V.str _, H, I.kept hk, ⟨u, rfl⟩, k⟩) sh.2.2
    first | exact n1 | exact List.not_mem_nil
end
/-! ## == of a list and the empty list -/
section
open Builtin
theorem list_far {prog : Program} {w : World} {A : Around} {s : Shared} {l b : Addr} {items items2 : Array Value} (hl : s.heap.IsList l items) (hb : s.heap.IsList b items2) (hsz : items.size ≠ items2.size) (hu : A.units < cLine) (E Q : Value → Shared → Prop)
    (h : Q (.bool false) s) : wpAny (model prog w) A (richCompare .Eq (.ref l) (.ref b)) Q E s := by
  obtain ⟨⟨cls, dd, data, sl⟩, ho, hc, n, hd⟩ := id hl
  obtain ⟨⟨cls2, dd2, data2, sl2⟩, ho2, hc2, n2, hd2⟩ := id hb
  simp only at hc hd hc2 hd2
  subst hc hd hc2 hd2
  have ta : s.TypeIs (.ref l) "list" := ⟨_, ho, rfl⟩
  have tb : s.TypeIs (.ref b) "list" := ⟨_, ho2, rfl⟩
  refine wpAny_richCompare_same_room (op := .Eq) ta tb F.slot_list_eq (GQ.call_here F.slot_list_eq ta F.entry_list_eq (F.args_list_eq_2 _ _) ?_) hu
  have f3 := AutoSeq1.sub_list_list
  have hne : (items.size != items2.size) = true := by simpa using hsz
  obtain ⟨hp, g, d, tk, os⟩ := s
  wp_walk using AutoSeq1.wpAny_loadPart' ho, AutoSeq1.wpAny_loadPart' ho2
  exact ⟨(fun x => nomatch x), h⟩
end
def rEqNil (K : PySem.W.Frag) : R2 := fun x y H Q => ∃ a xs b, x = .ref a ∧ y = .ref b ∧ SqL K H a xs ∧ SqL K H b [] ∧ Q (.bl (decide (xs.length = 0))) H
theorem op_eqNil {X : Cx} (hu : X.A.units + 64 < cLine) : OpR X (compareOp .Eq) (rEqNil X.K) := by
  intro pins s σ H x y v u Q I rx ry h
  obtain ⟨a, xs, b, rfl, rfl, ha, hb, q⟩ := h
  cases (show v = Value.ref a from rx)
  cases (show u = Value.ref b from ry)
  obtain ⟨us, r1, p1, _⟩ := I.list ha
  obtain ⟨ws, r2, p2, _⟩ := I.list hb
  cases r2
  show wpAny (model X.prog X.w) X.A (richCompare .Eq (.ref a) (.ref b)) (EP X pins σ Q) X.xe s
  cases xs with
  | nil =>
    cases r1
    exact SeqAt.rcP_lists (e := fun _ => true) p1.isList p2.isList rfl (by omega) (fun j h1 h2 => absurd h1 (by simp)) _ _ ⟨.bl true, H, I, rfl, q⟩
  | cons y ys =>
    cases r1 with
    | cons r rs => exact list_far p1.isList p2.isList (by simp) (by omega) _ _ ⟨.bl false, H, I, rfl, q⟩
/-! ## the law's own call, one def of the text makes lambdas (its code object c, its table P) -/
theorem lawGS {P : Program} {w : World} {K : PySem.W.Frag} {mg mb : Str → Option Value} {CX : CXT} {k : Nat} {fa a c tP : Addr} {fd : FuncData} {x : Str} {sp : Sp} {s1 : Shared} {vs : List Value} {ns : List Int}
    (KX : K.In s1.heap) (gns : s1.heap.Ns mainGlobals mg) (bns : s1.heap.Ns builtinsNs mb) (bbt : ∀ x : Str, x ≠ "__name__" → mb x = bootBuiltins x) (nolim : s1.heap.NoLimit) (smod : SM s1.heap) (gens0 : s1.gens = #[])
    (tabAt : s1.heap.get? tP = some { cls := .none, data := .fields #[] }) (tabK : K.lookup tP = none) (code : PySem.W.CodeHd s1.heap c tP)
    (bmain : ∃ (bm : Addr) (ob : Obj), mg "__builtins__" = some (.ref bm) ∧ bm ≠ builtinsNs ∧ s1.heap.get? bm = some ob ∧ ob.cls = .type "module" ∧ ob.dict = some builtinsNs ∧ ob.data = .plain)
    (scr : s1.heap.get? a = some { cls := .type "list", data := .seq vs.toArray }) (hints : IntsAre vs ns) (short : ns.length ≤ sizeLine) (room : Room k callerA)
    (F : ∀ base : Heap, K.In base → base.Ns mainGlobals mg → TabB base mg c tP → SM base → FnG P w K mg base CX k fa fd [x] sp) (bind1 : ∀ (s : Shared) (u : Value), BindsTo s fd ⟨[u], []⟩ [(x, u)])
    (prom : ∀ H : Hp, H tP = some (.tbl #[]) → SqL K H a (ns.map V.int) → sp [.ref a] H (fun v _ => v = .bl true) fun _ _ _ => False)
    (noX : ∀ H e s2, CX [] H s1 (fun _ _ _ => False) e s2 → False) :
    codeAny (model P w) callerA (.call (.ref fa) ⟨[.ref a], []⟩) (fun r s2 => r = .ok (.ret (.bool true)) ∧ OldK s1.heap s2.heap ∧ s2.os = s1.os ∧ AllBare s2.gens) s1 := by
  have rel := vals_ints hints
  have aP : a ≠ tP := fun z => by
    rw [z, tabAt] at scr
    cases scr
  have main : ∀ H : Hp, H tP = some (.tbl #[]) → (∀ b u, H b = some u → b = tP ∨ (b = a ∧ ∃ ob xs, u = .frz ob (.lst xs))) → SqL K H a (ns.map V.int) → HOk P w H s1.heap → (∀ u, H a = some u → K.lookup a = none) →
      codeAny (model P w) callerA (.call (.ref fa) ⟨[.ref a], []⟩) (fun r s2 => r = .ok (.ret (.bool true)) ∧ OldK s1.heap s2.heap ∧ s2.os = s1.os ∧ AllBare s2.gens) s1 := by
    intro H hP only seq ok un1
    have apart : ∀ {b : Addr} {o : Obj}, s1.heap.get? b = some o → (∀ ws n, o.data ≠ .seq ws n) → o.data ≠ .fields #[] → H b = none := by
      intro b o e n1 n2
      match q : H b with
      | none => rfl
      | some u =>
        rcases only b u q with rfl | ⟨rfl, _⟩
        · rw [tabAt] at e
          cases e
          exact absurd rfl n2
        · rw [scr] at e
          cases e
          exact absurd rfl (n1 _ _)
    have nsAt : ∀ {b : Addr} {m : Str → Option Value}, s1.heap.Ns b m → (hidT s1.heap H).Ns b m := by
      rintro b m ⟨o, es, ep, e, d, r⟩
      exact ⟨o, es, ep, hidT_get e (apart e (fun ws n z => nomatch d.symm.trans z) (fun z => nomatch d.symm.trans z)), d, r⟩
    have inK : K.In (hidT s1.heap H) := by
      intro b o e
      refine hidT_get (KX b o e) ?_
      match q : H b with
      | none => rfl
      | some u =>
        rcases only b u q with rfl | ⟨rfl, _⟩
        · exact nomatch tabK.symm.trans e
        · exact nomatch (un1 u q).symm.trans e
    have limAt : (hidT s1.heap H).NoLimit := match nolim with | ⟨mc, h1, h2⟩ => ⟨mc, nsAt h1, h2⟩
    have mod1 : Mod K mg (hidT s1.heap H) := ⟨inK, nsAt gns, ⟨mb, nsAt bns, bbt⟩, limAt⟩
    have tb : TabB (hidT s1.heap H) mg c tP := by
      refine ⟨?_, ?_, fun z => ?_⟩
      · obtain ⟨o, us, file, tf, flags, tg, inF, text, tt, e1, r1, r2, r3, r⟩ := code
        refine ⟨o, us, file, tf, flags, tg, inF, text, tt, hidT_get e1 (apart e1 (fun ws n z => nomatch r2.symm.trans z) (fun z => ?_)), r1, r2, r3, r⟩
        have z2 := r2.symm.trans z
        cases z2
        simp at r3
      · obtain ⟨bm, ob, b1, b2, b3, b4, b5, b6⟩ := bmain
        refine ⟨bm, ob, b1, b2, fun q => ?_, fun q => ?_, hidT_get b3 (apart b3 (fun ws n z => nomatch b6.symm.trans z) (fun z => nomatch b6.symm.trans z)), b4, b5, b6⟩
        · obtain ⟨o, es, ep, e, hd, _⟩ := gns
          rw [q, e] at b3
          cases b3
          exact nomatch hd.symm.trans b6
        · rw [q, tabAt] at b3
          cases b3
          cases b6
      · obtain ⟨o, es, ep, e, hd, _⟩ := gns
        rw [z, tabAt] at e
        cases e
        cases hd
    have sm : SM (hidT s1.heap H) := by
      obtain ⟨o, es, ep, e, d⟩ := smod
      exact ⟨o, es, ep, hidT_get e (apart e (fun ws n z => nomatch d.symm.trans z) (fun z => nomatch d.symm.trans z)), d⟩
    have start0 : Env0 P w K mg (hidT s1.heap H) callerA [] s1 H := ⟨rfl, mod1, fun b o => of_hidT, Nat.le_of_eq (hidT_size s1.heap H), trivial, (fun b hb => absurd hb (List.not_mem_nil (a := b))), ok, AllBare.of_eq gens0⟩
    refine codeAny_mono ((F _ inK (nsAt gns) tb sm).run callerA [] s1 H ⟨[.ref a], []⟩ [.ref a] [.ref a] _ _ rfl room start0 (bind1 s1 (.ref a)) (.cons rfl .nil) (prom H hP seq)) ?_
    intro res s2 h
    match res, h with
    | .error e, h => exact (noX H e s2 h).elim
    | .ok .next, h => exact h.elim
    | .ok .brk, h => exact h.elim
    | .ok .cont, h => exact h.elim
    | .ok (.ret u), ⟨v, H2, os, bare, un, ok2, r2, (hv : v = .bl true)⟩ =>
      cases hv
      have hu : u = Value.bool true := r2
      cases hu
      obtain ⟨more, grown⟩ := un.tbls tP #[] hP
      have tab2 : s2.heap.get? tP = some { cls := .none, data := .fields (#[] ++ more) } := ok2 tP _ grown
      have rest : ∀ b o, b ≠ tP → s1.heap.get? b = some o → s2.heap.get? b = some o := by
        intro b o nb e
        match q : H b with
        | none => exact un.keep b o e q (fun z => nomatch z) (fun z => nomatch z)
        | some u =>
          rcases only b u q with rfl | ⟨rfl, ob, xs, rfl⟩
          · exact absurd rfl nb
          · have c1 := (ok b _ q).1
            have c2 := (ok2 b _ (un.frzs b ob _ q)).1
            exact c2.trans (c1.symm.trans e)
      refine ⟨rfl, ⟨fun b o e => ?_, fun b o e => ?_⟩, os, bare⟩
      · by_cases hb : b = tP
        · subst hb
          have e2 := tabAt.symm.trans e
          cases e2
          exact .inr (.inl ⟨(code.tab tabAt).isCodeTable, rfl, #[], more, rfl, tab2⟩)
        · exact .inl (rest b o hb e)
      · by_cases hb : b = tP
        · exact ⟨_, hb ▸ tab2⟩
        · exact ⟨o, rest b o hb e⟩
  match hk : K.lookup a with
  | some o =>
    have e := (KX a o hk).symm.trans scr
    cases e
    refine main (fun b => if b = tP then some (.tbl #[]) else none) (if_pos rfl) (fun b u z => ?_) (Or.inr ⟨_, vs.toArray, _, hk, rfl, rfl, rfl, ?_, ?_⟩) (fun b u z => ?_) (fun u z => nomatch (if_neg aP).symm.trans z)
    · by_cases hb : b = tP
      · exact .inl hb
      · exact nomatch (if_neg hb).symm.trans z
    · rw [List.size_toArray, hints.length]
      exact short
    · simpa using rel
    · by_cases hb : b = tP
      · subst hb
        have z2 := (if_pos rfl).symm.trans z
        cases z2
        exact tabAt
      · exact nomatch (if_neg hb).symm.trans z
  | none =>
    refine main (fun b => if b = a then some (.frz { cls := .type "list", data := .seq vs.toArray } (.lst (ns.map V.int))) else if b = tP then some (.tbl #[]) else none) ((if_neg aP.symm).trans (if_pos rfl)) (fun b u z => ?_) (Or.inl (Or.inr ⟨_, if_pos rfl⟩)) (fun b u z => ?_) (fun _ _ => hk)
    · by_cases ha : b = a
      · exact .inr ⟨ha, _, _, (Option.some.inj ((if_pos ha).symm.trans z)).symm⟩
      · by_cases hb : b = tP
        · exact .inl hb
        · exact nomatch ((if_neg ha).trans (if_neg hb)).symm.trans z
    · by_cases ha : b = a
      · subst ha
        have z1 := (if_pos rfl).symm.trans z
        cases z1
        exact ⟨scr, (by rw [List.length_map]; exact short), vs, _, rel, scr⟩
      · have z := (if_neg ha).symm.trans z
        by_cases hb : b = tP
        · subst hb
          have z2 := (if_pos rfl).symm.trans z
          cases z2
          exact tabAt
        · exact nomatch (if_neg hb).symm.trans z
theorem walkXS {l : PySem.W.OpenLaw} {n k : Nat} {q : Program} {loose : List Str} {XP : (Str → Option Value) → Heap → Prop} {YP : World → Heap → Prop} {d : DefRec} {K : Params → PySem.W.Frag} {CX : CXT} {sp : Addr → PySem.W.Frag → Sp} {x : Str}
    (hi : PyProof.Rows.importsNone q = true) (hn : l.most = some n) (hn2 : n ≤ sizeLine) (hdf : d.params.defaults = []) (hr : Room k callerA) (hY : ∀ (w : World) (h : Heap), YP w h → (K w.params).In h)
    (F : ∀ (w : World) (mg : Str → Option Value) (fa : Addr) (h : Heap), (K w.params).In h → (∃ s0 mb, PySem.W.Ground q loose [] XP w s0 mg mb h) → mg d.name = some (.ref fa) →
      ∃ (fd : FuncData) (c tP : Addr), h.get? tP = some { cls := .none, data := .fields #[] } ∧ (K w.params).lookup tP = none ∧ PySem.W.CodeHd h c tP ∧ (∀ (s : Shared) (u : Value), BindsTo s fd ⟨[u], []⟩ [(x, u)]) ∧
        ∀ base : Heap, (K w.params).In base → base.Ns mainGlobals mg → TabB base mg c tP → SM base → FnG l.prog w (K w.params) mg base CX k fa fd [x] (sp tP (K w.params)))
    (hsp : ∀ (tP : Addr) (K : PySem.W.Frag) (H : Hp) (a : Addr) (ns : List Int), ns.length ≤ n → H tP = some (.tbl #[]) → SqL K H a (ns.map V.int) → sp tP K [.ref a] H (fun v _ => v = .bl true) fun _ _ _ => False)
    (noX : ∀ (H : Hp) (s : Shared) (e : Value) (s2 : Shared), CX [] H s (fun _ _ _ => False) e s2 → False) : PySem.W.WalkO q loose XP YP l.row.toRowW d [] (fun f vs => PySem.call f vs) := by
  refine Att.attach_call hn hdf ?_
  intro w s0 s1 mg mb fa o pm cd doc a vs ns G Y _ _ _ hmg scr hints hlen gens0
  obtain ⟨fd, c, tP, t1, t2, t3, hb, hF⟩ := F w mg fa _ (hY w _ Y) ⟨s0, mb, G⟩ hmg
  exact lawGS (hY w _ Y) G.T.g G.T.b G.T.builtins G.T.nolimit (sm_of (G.T.seer hi)) gens0 t1 t2 t3 G.T.bmain scr hints (Nat.le_trans hlen hn2) hr hF hb (fun H h1 h2 => hsp tP _ H a ns hlen h1 h2) (fun H => noX H s1)
end Vk
set_option Elab.async false
set_option maxRecDepth 100000
set_option maxHeartbeats 4000000
set_option linter.all false
namespace Vk
open L2 PySem PySem.Spec PyProof.Rows PySem.VkX
/-! ## what is made is new -/
def New (H : Hp) (v : V) : Prop := ∀ b, v = .ref b → H b = none
theorem New.same {H H1 : Hp} {v : V} (n : New H1 v) (s : Same H H1) : New H v := fun b e => by
  match q : H b with
  | none => rfl
  | some o => exact nomatch (s b o q).symm.trans (n b e)
theorem New.ext {H H1 : Hp} {v : V} {p c : Addr} {T : Nat} (n : New H1 v) (x : Ext p H H1) (P : Pen H1 p c T) : New H v := fun b e => by
  match q : H b with
  | none => rfl
  | some o =>
    obtain ⟨t, l, hp⟩ := P.is
    by_cases hb : b = p
    · rw [hb] at e
      exact nomatch hp.symm.trans (n p e)
    · exact nomatch (x b o q hb).symm.trans (n b e)
theorem Atm.new {H : Hp} {v : V} {d : PyData} (a : Atm v d) : New H v := fun b e => by
  subst e
  cases a
theorem New.ne {H : Hp} {v : V} {D : Addr} {o : HO} (n : New H v) (h : H D = some o) : v ≠ .ref D := fun e => nomatch h.symm.trans (n D e)
theorem Th.at {H : Hp} {v : V} {d : PyData} {D : Addr} {o : HO} (h : Th H v d) (n : v ≠ .ref D) : Th (upd H D o) v d := by
  cases h with
  | atm a => exact .atm a
  | @lst a xs ds e ne p => exact .lst ((upd_ne fun z => n (congrArg V.ref z)).trans e) ne p
  | @tup a xs ds e p => exact .tup ((upd_ne fun z => n (congrArg V.ref z)).trans e) p
  | @dct a ps e => exact .dct ((upd_ne fun z => n (congrArg V.ref z)).trans e)
def Mk2 (t : TE) (d : PyData) : Prop := ∀ σ H Q, (∀ v H', Same H H' → Th H' v d → New H v → Q v H') → t σ H Q
def Mks2 (t : TA) (ds : List PyData) : Prop := ∀ σ H Q, (∀ vs H', Same H H' → Paired (Th H') vs ds → (∀ v ∈ vs, New H v) → Q vs H') → t σ H Q
section
variable {t te : TE} {ta : TA} {d : PyData} {ds : List PyData}
theorem mk2_atm (a : MkA te d) : Mk2 te d := by
  obtain ⟨v, h1, h2⟩ := a
  exact fun σ H Q q => h2 σ H Q (q v H Same.rfl (.atm h1) h1.new)
theorem mk2_tup (a : MkAs ta ds) (hl : ds.length ≤ 1000) : Mk2 (tTup ta) (.tuple ds) := by
  obtain ⟨vs, g1, g2⟩ := a
  exact fun σ H Q q => g2 σ H _ ⟨few_len ((paired_len g1).symm ▸ hl), fun p hp => q _ _ (same_new hp) (.tup upd_same g1) fun b e => by cases e; exact hp⟩
theorem mk2_lst (a : MkAs ta ds) (hl : ds.length ≤ 1000) : Mk2 (tLs1 ta) (.list ds) := by
  obtain ⟨vs, g1, g2⟩ := a
  exact fun σ H Q q => g2 σ H _ ⟨few_len ((paired_len g1).symm ▸ hl), fun p hp np => q _ _ (same_new hp) (.lst upd_same np g1) fun b e => by cases e; exact hp⟩
theorem mk2_dnew : Mk2 tDNewK (.dict (kvD [])) := fun σ H Q q p hp => q _ _ (same_new hp) (.dct upd_same) fun b e => by cases e; exact hp
theorem mk2_disp {a b : Str} : Mk2 (tDisp [(tC (.str a), tC (.str b))]) (.dict (kvD [(a, b)])) := by
  intro σ H Q q p hp
  refine ⟨upd_same, [(Sum.inr a, V.str b)], rfl, by show 1 ≤ 15; decide, ?_⟩
  refine q _ _ (fun c o h => ?_) (.dct (ps := [(a, b)]) upd_same) fun b e => by cases e; exact hp
  rw [upd_ne (ne_of_none h hp), upd_ne (ne_of_none h hp)]
  exact h
theorem mks2_nil : Mks2 tNil [] := fun σ H Q q => q [] H Same.rfl .nil fun v hv => absurd hv List.not_mem_nil
theorem mks2_cons (a : Mk2 te d) (b : Mks2 ta ds) : Mks2 (tCons te ta) (d :: ds) := fun σ H Q q => a σ H _ fun v H1 s1 t1 n1 => b σ H1 _ fun vs H2 s2 t2 n2 => q _ _ (s1.trans s2) (.cons (t1.keep s2) t2) fun x hx => by
  rcases List.mem_cons.mp hx with rfl | hx
  · exact n1
  · exact (n2 x hx).same s1
theorem mk2_many (a : Mks2 ta ds) (hl : ds.length ≤ 1000) {σ : L2.St} {H : Hp} {Q : VK} (q : ∀ p xs H', Same H H' → H' p = some (.lst xs) → Paired (Th H') xs ds → (∀ v ∈ xs, New H v) → Q (.ref p) H') : tLst ta σ H Q :=
  a σ H _ fun vs H1 s1 t1 n1 => ⟨few_len ((paired_len t1).symm ▸ hl), fun p hp => q p vs _ (s1.trans (same_new hp)) upd_same (ths_keep (same_new hp) t1) n1⟩
end
end Vk
set_option Elab.async false
set_option maxRecDepth 100000
set_option linter.all false
namespace Vk
open PySem PySem.Spec PyProof.Rows L2
/-! ## lists whose items stand for items of another list -/
theorem paired_at {α β : Type} {R : α → β → Prop} : ∀ {xs : List α} {ys : List β} {i : Nat} {x : α}, Paired R xs ys → xs[i]? = some x → ∃ y, ys[i]? = some y ∧ R x y
  | _, _, 0, _, .cons a t, h => by cases h; exact ⟨_, rfl, a⟩
  | _, _, i + 1, _, .cons a t, h => paired_at (i := i) t h
theorem drop_at {α : Type} : ∀ {l : List α} {i : Nat} {x : α}, l[i]? = some x → l.drop i = x :: l.drop (i + 1)
  | a :: l, 0, x, h => by cases h; rfl
  | a :: l, i + 1, x, h => by simpa using drop_at (l := l) (i := i) (x := x) (by simpa using h)
theorem paired_perm {α β : Type} {R : α → β → Prop} {xs ys : List α} (p : ys.Perm xs) : ∀ {rs : List β}, Paired R xs rs → ∃ ls, ls.Perm rs ∧ Paired R ys ls := by
  induction p with
  | nil => exact fun h => ⟨_, .refl _, h⟩
  | cons x p ih =>
    intro rs h
    cases h with
    | cons a t =>
      obtain ⟨ls, q, r⟩ := ih t
      exact ⟨_, q.cons _, .cons a r⟩
  | swap x y l =>
    intro rs h
    cases h with
    | cons a t =>
      cases t with
      | cons b t => exact ⟨_, .swap _ _ _, .cons b (.cons a t)⟩
  | trans p1 p2 ih1 ih2 =>
    intro rs h
    obtain ⟨ls, q, r⟩ := ih2 h
    obtain ⟨ms, q2, r2⟩ := ih1 r
    exact ⟨ms, q2.trans q, r2⟩
def tTruK (K : PySem.W.Frag) (ta : TE) : TT := fun σ H Q => ta σ H fun x H' => ∃ k, TruV K x H' k ∧ Q k H'
theorem pt_truthK {X : Cx} {K : PySem.W.Frag} {a : Expr} {ta : TE} (hK : X.K = K) (ha : PE X a ta) (he : ∀ whole, isTrue a X.env whole = (do let v ← whole; standAt a.pos; holding [v] (truthy v)) := by intro _; rfl) :
    PT X a (tTruK K ta) := hK ▸ pt_truth ha he
end Vk
set_option Elab.async false
set_option maxRecDepth 100000
set_option maxHeartbeats 4000000
set_option linter.all false
namespace Vk
open PySem PySem.Spec PyProof.Rows L2
theorem fewL {n : Nat} (h : n ≤ 100000) : n < sizeLine := Nat.lt_of_le_of_lt h (by rw [sizeLine_eq]; decide)
theorem pair_mono {α β : Type} {R S : α → β → Prop} (h : ∀ a b, R a b → S a b) : ∀ {xs : List α} {ys : List β}, Paired R xs ys → Paired S xs ys
  | _, _, .nil => .nil
  | _, _, .cons a t => .cons (h _ _ a) (pair_mono h t)
theorem none_up {H H1 : Hp} {a : Addr} (s : Same H H1) (h : H1 a = none) : H a = none := by
  match e : H a with
  | none => rfl
  | some o => exact nomatch (s _ _ e).symm.trans h
theorem upd_list {H : Hp} {l : Addr} {xs : List V} {o : HO} (h : H l = some (.lst xs)) (u : Addr) (ws : List V) (hu : H u = some (.tup ws)) : (upd H l o) u = some (.tup ws) := by
  rw [upd_ne (fun e => by rw [e, h] at hu; cases hu)]
  exact hu
theorem upd_out {H H1 : Hp} {l : Addr} {o : HO} (hl : H l = none) (s : Same H H1) : Same H (upd H1 l o) := fun b o2 h => by
  rw [upd_ne (ne_of_none h hl)]
  exact s _ _ h
/-- letter i of x -/
def ltr (x : Str) (i : Nat) : Nat := x.cps.toList.getD i 0
theorem ltr_at {x : Str} {i c : Nat} (h : x.cps[i]? = some c) : ltr x i = c := by
  unfold ltr
  rw [List.getD_eq_getElem?_getD, Array.getElem?_toList, h]
  rfl
theorem ones_eq (a b : Nat) : decide (OneS a = OneS b) = decide (a = b) := by
  by_cases h : a = b
  · subst h; rw [decide_eq_true rfl, decide_eq_true rfl]
  · rw [decide_eq_false h, decide_eq_false fun e => h ?_]
    have q := V.str.inj e
    have q2 := congrArg (fun z : Str => z.cps.toList) q
    simpa using q2
theorem paired_back {α β : Type} {R : α → β → Prop} : ∀ {xs : List α} {ys : List β} {y : β}, Paired R xs ys → y ∈ ys → ∃ x, x ∈ xs ∧ R x y
  | _, _, _, .cons (a := x) a t, h => by
    rcases List.mem_cons.mp h with rfl | h
    · exact ⟨_, List.mem_cons_self, a⟩
    · obtain ⟨z, m, e⟩ := paired_back t h
      exact ⟨z, List.mem_cons_of_mem _ m, e⟩
theorem cut_ab {x : Str} {a b : Nat} (h1 : a ≤ b) (h2 : b ≤ x.length) : cutS x (some (a : Int)) (some (b : Int)) = ⟨((x.cps.toList.drop a).take (b - a)).toArray⟩ := by
  unfold cutS
  rw [HT.sIx_nat, HT.sIx_nat, Nat.min_eq_left h2, Nat.min_eq_left (Nat.le_trans h1 h2)]
theorem cut_len {x : Str} {a b : Nat} (h1 : a ≤ b) (h2 : b ≤ x.length) : (cutS x (some (a : Int)) (some (b : Int))).length = b - a := by
  rw [cut_ab h1 h2]
  show (List.toArray _).size = _
  have : x.cps.toList.length = x.length := Array.length_toList
  rw [List.size_toArray, List.length_take, List.length_drop]
  omega
theorem cut_ltr {x : Str} {a b t : Nat} (h1 : a ≤ b) (h2 : b ≤ x.length) (ht : t < b - a) : ltr (cutS x (some (a : Int)) (some (b : Int))) t = ltr x (a + t) := by
  rw [cut_ab h1 h2]
  unfold ltr
  show (List.getD (List.take _ _) t 0) = _
  rw [List.getD_eq_getElem?_getD, List.getD_eq_getElem?_getD, List.getElem?_take, if_pos ht, List.getElem?_drop]
theorem depthAll_const : ∀ (ds : List PyData) (n : Nat), (∀ d ∈ ds, d.depth ≤ n) → PyData.depthAll ds ≤ n
  | [], _, _ => Nat.zero_le _
  | d :: r, n, h => Nat.max_le.mpr ⟨h d List.mem_cons_self, depthAll_const r n fun e he => h e (List.mem_cons_of_mem _ he)⟩
theorem canAll_of : ∀ (ds : List PyData), (∀ d ∈ ds, PyData.canLay0 d = true) → PyData.canLayAll0 ds = true
  | [], _ => rfl
  | d :: r, h => by
    show (PyData.canLay0 d && PyData.canLayAll0 r) = true
    rw [h d List.mem_cons_self, canAll_of r fun e he => h e (List.mem_cons_of_mem _ he)]
    rfl
theorem shaped_list {ds : List PyData} {n : Nat} (h1 : ∀ d ∈ ds, PyData.canLay0 d = true) (h2 : ∀ d ∈ ds, d.depth ≤ n) (hn : n ≤ 20) : SeqAt.shaped (.list ds) = true := by
  unfold SeqAt.shaped
  have e1 : PyData.canLay0 (.list ds) = true := canAll_of ds h1
  have e2 : PyData.depth (.list ds) ≤ 21 := Nat.succ_le_succ (Nat.le_trans (depthAll_const ds n h2) hn)
  rw [e1]
  simp
  omega
theorem or_both {c : Bool} {T B R : Prop} (h1 : c = true → R → T) (h2 : c = false → R → B) (h : R) : if c = true then T else B := by
  cases c with
  | true => exact h1 rfl h
  | false => exact h2 rfl h
theorem and_cut {c : Bool} {A R : Prop} (h : R) (h2 : c = true → R → A) : if c = true then A else R := by
  cases c with
  | true => exact h2 rfl h
  | false => exact h
theorem ite_meet {c : Bool} {T1 T2 : (V → Hp → Prop) → Prop} {C : V → Hp → Prop} (G : V → Hp → Prop) (h : ∀ v H, G v H → C v H) (h1 : c = true → ∀ C' : V → Hp → Prop, (∀ v H, G v H → C' v H) → T1 C') (h2 : c = false → ∀ C' : V → Hp → Prop, (∀ v H, G v H → C' v H) → T2 C') : if c = true then T1 C else T2 C := by
  cases c with
  | true => exact h1 rfl C h
  | false => exact h2 rfl C h
theorem plc_asc (x w : Str) : (plc x w).Pairwise (· < ·) := List.pairwise_lt_range.filter _
theorem plc_ltr {x w : Str} {k : Nat} : k ∈ plc x w ↔ k + w.length ≤ x.length ∧ ∀ t, t < w.length → ltr x (k + t) = ltr w t := by
  unfold plc atB
  rw [List.mem_filter, List.mem_range, Bool.and_eq_true, decide_eq_true_eq, StrLaws.subAt_eq, beq_iff_eq]
  constructor
  · rintro ⟨_, h1, h2⟩
    refine ⟨h1, fun t ht => ?_⟩
    unfold ltr
    rw [← h2, List.getD_eq_getElem?_getD, List.getD_eq_getElem?_getD, List.getElem?_take, if_pos ht, List.getElem?_drop]
  · rintro ⟨h1, h2⟩
    refine ⟨by omega, h1, List.ext_getElem? fun t => ?_⟩
    have lw : w.cps.toList.length = w.length := Array.length_toList
    have lx : x.cps.toList.length = x.length := Array.length_toList
    by_cases ht : t < w.length
    · have q := h2 t ht
      unfold ltr at q
      rw [List.getD_eq_getElem?_getD, List.getD_eq_getElem?_getD, List.getElem?_eq_getElem (by omega : k + t < x.cps.toList.length), List.getElem?_eq_getElem (by omega : t < w.cps.toList.length)] at q
      rw [List.getElem?_take, if_pos ht, List.getElem?_drop, List.getElem?_eq_getElem (by omega : k + t < x.cps.toList.length), List.getElem?_eq_getElem (by omega : t < w.cps.toList.length)]
      exact congrArg some q
    · rw [List.getElem?_take, if_neg ht, List.getElem?_eq_none (by omega)]
theorem atI_end {xs : List V} {n : Nat} {v : V} (h : xs[n]? = some v) (hl : xs.length = n + 1) : atI xs (-1) = some v := by
  have e : xs = xs.take n ++ [v] := by
    have := List.take_append_drop n xs
    rw [drop_at h, List.drop_of_length_le (by omega)] at this
    exact this.symm
  rw [e]
  exact atI_last _ _
/-- pairs of numbers -/
def PrN (H : Hp) : List V → List (Nat × Nat) → Prop := Paired (fun v (p : Nat × Nat) => ∃ t, v = V.ref t ∧ H t = some (.tup [.int (p.1 : Nat), .int (p.2 : Nat)]))
theorem PrN.keep {H H1 : Hp} {xs : List V} {ps : List (Nat × Nat)} (h : PrN H xs ps) (s : Same H H1) : PrN H1 xs ps := pair_mono (fun v p ⟨t, e, ht⟩ => ⟨t, e, s _ _ ht⟩) h
theorem PrN.keepT {H H1 : Hp} {xs : List V} {ps : List (Nat × Nat)} (h : PrN H xs ps) (s : ∀ u ws, H u = some (.tup ws) → H1 u = some (.tup ws)) : PrN H1 xs ps := pair_mono (fun v p ⟨t, e, ht⟩ => ⟨t, e, s _ _ ht⟩) h
theorem at_ltr {x : Str} {i : Nat} (h : i < x.length) : atI x.cps.toList ((i : Nat) : Int) = some (ltr x i) := by
  refine atI_nat ?_
  unfold ltr
  have h2 : i < x.cps.toList.length := by rw [Array.length_toList]; exact h
  rw [List.getD_eq_getElem?_getD, List.getElem?_eq_getElem h2]
  rfl
def pD (p : Nat × Nat) : PyData := .tuple [.int (p.1 : Nat), .int (p.2 : Nat)]
theorem prs_dp {K : PySem.W.Frag} {H : Hp} : ∀ {xs : List V} {rs : List (Nat × Nat)}, PrN H xs rs → DpAll K H xs (rs.map pD)
  | _, _, .nil => .nil
  | _, _, .cons a t => .cons (by
      obtain ⟨u, rfl, h⟩ := a
      exact .tup (SqT.of h) (.cons (.int _) (.cons (.int _) .nil))) (prs_dp t)
theorem pDs_shaped (rs : List (Nat × Nat)) : SeqAt.shaped (.list (rs.map pD)) = true := by
  refine shaped_list (n := 1) (fun d hd => ?_) (fun d hd => ?_) (by decide)
  · obtain ⟨r, _, rfl⟩ := List.mem_map.mp hd
    rfl
  · obtain ⟨r, _, rfl⟩ := List.mem_map.mp hd
    exact Nat.le_of_eq rfl
theorem pDs_nil (rs : List (Nat × Nat)) : PyData.eqv (.list (rs.map pD)) (.list []) = rs.isEmpty := by
  match rs with
  | [] => rfl
  | r :: t => rfl
theorem pDs_can (rs : List (Nat × Nat)) : PyData.canLay0 (.list (rs.map pD)) = true := canAll_of _ fun d hd => by
  obtain ⟨r, _, rfl⟩ := List.mem_map.mp hd
  rfl
/-! ## windows -/
/-- the letters from a to b stand at another place, too -/
def Tw (X : Nat → Nat) (n a b : Nat) : Prop := ∃ k, k ≠ a ∧ k + (b - a) ≤ n ∧ ∀ t, t < b - a → X (k + t) = X (a + t)
theorem Tw.less {X : Nat → Nat} {n a b a' b' : Nat} (h : Tw X n a b) (h1 : a ≤ a') (h2 : a' ≤ b') (h3 : b' ≤ b) : Tw X n a' b' := by
  obtain ⟨k, k1, k2, k3⟩ := h
  refine ⟨k + (a' - a), by omega, by omega, fun t ht => ?_⟩
  have := k3 (a' - a + t) (by omega)
  rw [show k + (a' - a) + t = k + (a' - a + t) by omega, this, show a + (a' - a + t) = a' + t by omega]
def twB (x : Str) (a b : Nat) : Bool := decide (2 ≤ (plc x (cutS x (some (a : Int)) (some (b : Int)))).length)
theorem plc_own {x : Str} {a b : Nat} (h1 : a ≤ b) (h2 : b ≤ x.length) : a ∈ plc x (cutS x (some (a : Int)) (some (b : Int))) :=
  plc_ltr.mpr ⟨by rw [cut_len h1 h2]; omega, fun t ht => by
    rw [cut_len h1 h2] at ht
    exact (cut_ltr h1 h2 ht).symm⟩
theorem two_of {l : List Nat} {a : Nat} (nd : l.Pairwise (· < ·)) (ha : a ∈ l) : 2 ≤ l.length ↔ ∃ k ∈ l, k ≠ a := by
  constructor
  · intro h
    match l, nd, h with
    | x :: y :: r, nd, _ =>
      have lt := (List.pairwise_cons.mp nd).1 y List.mem_cons_self
      by_cases e : x = a
      · exact ⟨y, List.mem_cons_of_mem _ List.mem_cons_self, by omega⟩
      · exact ⟨x, List.mem_cons_self, e⟩
  · rintro ⟨k, hk, hne⟩
    match l, ha, hk with
    | [x], ha, hk => exact absurd ((List.mem_singleton.mp hk).trans (List.mem_singleton.mp ha).symm) hne
    | x :: y :: r, _, _ => show 2 ≤ r.length + 1 + 1; omega
theorem twB_iff {x : Str} {a b : Nat} (h1 : a ≤ b) (h2 : b ≤ x.length) : twB x a b = true ↔ Tw (ltr x) x.length a b := by
  unfold twB
  rw [decide_eq_true_eq, two_of (plc_asc _ _) (plc_own h1 h2)]
  constructor
  · rintro ⟨k, hk, hne⟩
    obtain ⟨k1, k2⟩ := plc_ltr.mp hk
    rw [cut_len h1 h2] at k1 k2
    exact ⟨k, hne, k1, fun t ht => (k2 t ht).trans (cut_ltr h1 h2 ht)⟩
  · rintro ⟨k, hne, k1, k2⟩
    refine ⟨k, plc_ltr.mpr ⟨by rw [cut_len h1 h2]; exact k1, fun t ht => ?_⟩, hne⟩
    rw [cut_len h1 h2] at ht
    rw [k2 t ht, cut_ltr h1 h2 ht]
theorem plc_one {x : Str} {a b : Nat} (h1 : a ≤ b) (h2 : b ≤ x.length) : (plc x (cutS x (some (a : Int)) (some (b : Int)))).length = 1 ↔ twB x a b = false := by
  have h := plc_own h1 h2
  have : 0 < (plc x (cutS x (some (a : Int)) (some (b : Int)))).length := List.length_pos_of_mem h
  unfold twB
  rw [decide_eq_false_iff_not]
  omega
/-- the least end of a window from a that stands once; behind the text if there is none -/
def lendF (x : Str) (a : Nat) : Nat → Nat → Nat
  | 0, e => e
  | f + 1, e => if e ≤ x.length ∧ twB x a e = true then lendF x a f (e + 1) else e
theorem lendF_spec {x : Str} {a : Nat} : ∀ (f e : Nat), a < e → x.length + 1 ≤ e + f → (∀ b, a < b → b < e → b ≤ x.length → twB x a b = true) →
    e ≤ lendF x a f e ∧ (∀ b, a < b → b < lendF x a f e → b ≤ x.length → twB x a b = true) ∧ (lendF x a f e ≤ x.length → twB x a (lendF x a f e) = false) ∧ (e ≤ x.length + 1 → lendF x a f e ≤ x.length + 1)
  | 0, e, h0, h1, h2 => ⟨Nat.le_refl _, h2, fun h => by rw [lendF] at h; omega, fun h => h⟩
  | f + 1, e, h0, h1, h2 => by
    rw [lendF]
    split
    · rename_i c
      obtain ⟨s1, s2, s3, s4⟩ := lendF_spec (x := x) (a := a) f (e + 1) (by omega) (by omega) fun b b1 b2 b3 => by
        by_cases be : b = e
        · rw [be]; exact c.2
        · exact h2 b b1 (by omega) b3
      exact ⟨by omega, s2, s3, fun _ => s4 (by omega)⟩
    · rename_i c
      refine ⟨Nat.le_refl _, h2, fun h => ?_, fun h => h⟩
      cases e2 : twB x a e with
      | false => rfl
      | true => exact absurd ⟨h, e2⟩ c
theorem lendF_step {x : Str} {a f e : Nat} (h : e ≤ x.length ∧ twB x a e = true) : lendF x a (f + 1) e = lendF x a f (e + 1) := by rw [lendF, if_pos h]
theorem lendF_stop {x : Str} {a f e : Nat} (h : ¬ (e ≤ x.length ∧ twB x a e = true)) : lendF x a f e = e := by
  cases f with
  | zero => rfl
  | succ f => rw [lendF, if_neg h]
/-- e is the least end from a -/
structure Lend (x : Str) (a e : Nat) : Prop where
  gt : a < e
  le : e ≤ x.length + 1
  twice : ∀ b, a < b → b < e → b ≤ x.length → twB x a b = true
  once : e ≤ x.length → twB x a e = false
theorem Lend.more {x : Str} {a e : Nat} (h : Lend x a e) {b : Nat} (h1 : e ≤ b) (h2 : b ≤ x.length) : twB x a b = false := by
  have g := h.gt
  cases e2 : twB x a b with
  | false => rfl
  | true =>
    have t := (twB_iff (by omega) h2).mp e2
    have := (twB_iff (by omega) (by omega)).mpr (t.less (Nat.le_refl _) (by omega) h1)
    rw [h.once (by omega)] at this
    cases this
theorem Lend.iff {x : Str} {a e : Nat} (h : Lend x a e) {b : Nat} (h1 : a < b) (h2 : b ≤ x.length) : twB x a b = false ↔ e ≤ b := by
  constructor
  · intro z
    refine Nat.le_of_not_lt fun q => ?_
    rw [h.twice b h1 q h2] at z
    cases z
  · intro z
    exact h.more z h2
theorem Lend.next {x : Str} {a e : Nat} (h : Lend x a e) : ∀ b, a + 1 < b → b < max e (a + 2) → b ≤ x.length → twB x (a + 1) b = true := by
  intro b b1 b2 b3
  have t := (twB_iff (by omega) b3).mp (h.twice b (by omega) (by omega) b3)
  exact (twB_iff (by omega) b3).mpr (t.less (by omega) (by omega) (Nat.le_refl _))
/-! ## one part -/
/-- how many letters are alike at the beginnings -/
theorem cutV_take {xs : List V} {k : Nat} : cutV xs none (some (k : Int)) = xs.take k := by
  unfold cutV
  rw [HT.sIx_none, HT.sIx_nat]
  simp
/-- parts, one behind the other -/
def OkR (n : Nat) : Nat → List (Nat × Nat × Str) → Prop
  | _, [] => True
  | p, r :: rs => p ≤ r.1 ∧ r.1 < r.2.1 ∧ r.2.1 ≤ n ∧ OkR n r.2.1 rs
def endR : Nat → List (Nat × Nat × Str) → Nat
  | p, [] => p
  | _, r :: rs => endR r.2.1 rs
theorem okR_snoc {n : Nat} {r : Nat × Nat × Str} : ∀ {p : Nat} {rs : List (Nat × Nat × Str)}, OkR n p rs → endR p rs ≤ r.1 → r.1 < r.2.1 → r.2.1 ≤ n → OkR n p (rs ++ [r])
  | p, [], _, h1, h2, h3 => ⟨h1, h2, h3, trivial⟩
  | p, s :: rs, h, h1, h2, h3 => ⟨h.1, h.2.1, h.2.2.1, okR_snoc h.2.2.2 h1 h2 h3⟩
theorem endR_snoc {r : Nat × Nat × Str} : ∀ {p : Nat} {rs : List (Nat × Nat × Str)}, endR p (rs ++ [r]) = r.2.1
  | p, [] => rfl
  | p, s :: rs => endR_snoc (rs := rs)
theorem okR_all {n : Nat} : ∀ {p : Nat} {rs : List (Nat × Nat × Str)}, OkR n p rs → ∀ r ∈ rs, p ≤ r.1 ∧ r.1 < r.2.1 ∧ r.2.1 ≤ n
  | p, s :: rs, h, r, hr => by
    rcases List.mem_cons.mp hr with rfl | hr
    · exact ⟨h.1, h.2.1, h.2.2.1⟩
    · have := okR_all h.2.2.2 r hr
      have := h.1
      have := h.2.1
      omega
theorem cut_to {x : Str} {a : Nat} : (cutS x none (some (a : Int))).cps.toList = x.cps.toList.take a := by
  show ((x.cps.toList.drop (HT.sIx x.length 0 none)).take (HT.sIx x.length x.length (some (a : Int)) - HT.sIx x.length 0 none)).toArray.toList = _
  have lx : x.cps.toList.length = x.length := Array.length_toList
  rw [HT.sIx_none, HT.sIx_nat, Nat.sub_zero, List.drop_zero, List.toList_toArray]
  by_cases h : a ≤ x.length
  · rw [Nat.min_eq_left h]
  · rw [Nat.min_eq_right (by omega), List.take_of_length_le (by omega), List.take_of_length_le (by omega)]
theorem cut_from {x : Str} {a : Nat} : (cutS x (some (a : Int)) none).cps.toList = x.cps.toList.drop a := by
  show ((x.cps.toList.drop (HT.sIx x.length 0 (some (a : Int)))).take (HT.sIx x.length x.length none - HT.sIx x.length 0 (some (a : Int)))).toArray.toList = _
  have lx : x.cps.toList.length = x.length := Array.length_toList
  rw [HT.sIx_none, HT.sIx_nat, List.toList_toArray]
  by_cases h : a ≤ x.length
  · rw [Nat.min_eq_left h, List.take_of_length_le (by rw [List.length_drop]; omega)]
  · rw [Nat.min_eq_right (by omega), Nat.sub_self, List.take_zero, List.drop_of_length_le (by omega)]
theorem cut_mid {x : Str} {a b : Nat} (h1 : a ≤ b) (h2 : b ≤ x.length) : (cutS x (some (a : Int)) (some (b : Int))).cps.toList = (x.cps.toList.drop a).take (b - a) := by
  rw [cut_ab h1 h2]
theorem app_list (x y : Str) : (x ++ y).cps.toList = x.cps.toList ++ y.cps.toList := by
  show (x.cps ++ y.cps).toList = _
  exact Array.toList_append
theorem str_ext {x y : Str} (h : x.cps.toList = y.cps.toList) : x = y := PySem.W.str_of_cps h
theorem ok_letters {x : Str} (h : ∀ c ∈ x.cps.toList, c ∈ letS.cps.toList) : PyData.strOk x = true := by
  have all : ∀ c ∈ letS.cps.toList, c < 0x110000 := by decide +kernel
  show x.cps.all (· < 0x110000) = true
  rw [Array.all_eq_true_iff_forall_mem]
  intro c hc
  simpa using all c (h c (by simpa using hc))
theorem ok_word {z x : Str} {a b : Nat} (fz : Few z) (w : Word z a b x) : PyData.strOk x = true := ok_letters fun c hc => fz.2.2 c (w.2.2 c hc)
theorem ok_one {z : Str} {c : Nat} (fz : Few z) (h : c ∈ z.cps.toList) : PyData.strOk (⟨#[c]⟩ : Str) = true := ok_letters fun d hd => by
  have e : d ∈ [c] := hd
  rw [List.mem_singleton.mp e]
  exact fz.2.2 c h
theorem cutS_ok {x : Str} (h : PyData.strOk x = true) (a b : Option Int) : PyData.strOk (cutS x a b) = true := by
  have e : x.cps.all (· < 0x110000) = true := h
  rw [Array.all_eq_true_iff_forall_mem] at e
  show (cutS x a b).cps.all (· < 0x110000) = true
  rw [Array.all_eq_true_iff_forall_mem]
  intro c hc
  have hc2 : c ∈ ((x.cps.toList.drop (HT.sIx x.length 0 a)).take (HT.sIx x.length x.length b - HT.sIx x.length 0 a)) := by
    have : c ∈ (List.toArray ((x.cps.toList.drop (HT.sIx x.length 0 a)).take (HT.sIx x.length x.length b - HT.sIx x.length 0 a))) := hc
    simpa using this
  exact e c (by simpa using List.mem_of_mem_drop (List.mem_of_mem_take hc2))
theorem more_list {z y : Str} : (z ++ y).cps.toList = z.cps.toList ++ y.cps.toList := by
  show (z.cps ++ y.cps).toList = _
  simp
theorem ok_more {z y : Str} (h1 : PyData.strOk z = true) (h2 : PyData.strOk y = true) : PyData.strOk (z ++ y) = true := by
  have e1 : z.cps.all (· < 0x110000) = true := h1
  have e2 : y.cps.all (· < 0x110000) = true := h2
  show (z ++ y).cps.all (· < 0x110000) = true
  rw [Array.all_eq_true_iff_forall_mem] at e1 e2 ⊢
  intro c hc
  have hc2 : c ∈ z.cps.toList ++ y.cps.toList := by
    rw [← more_list]
    simpa using hc
  rcases List.mem_append.mp hc2 with h | h
  · exact e1 c (by simpa using h)
  · exact e2 c (by simpa using h)
theorem ok_none : PyData.strOk ("" : Str) = true := by decide +kernel
end Vk
set_option Elab.async false
set_option maxRecDepth 100000
set_option linter.all false
namespace Vk
open PySem PySem.Spec PyProof.Rows L2
def top (i : Nat) : Stmt := PySem.Challenge.pw_anchoredits_k49_windows_that_stand_once.main.body.getD i (.Pass ⟨0, 0, 0, 0⟩)
structure Txt (mg : Str → Option Value) : Prop where
  str : mg "str" = none
  tuple : mg "tuple" = none
  enumerate : mg "enumerate" = none
  bool : mg "bool" = none
  sum : mg "sum" = none
  max : mg "max" = none
  ValueError : mg "ValueError" = none
  reversed : mg "reversed" = none
  len : mg "len" = none
  list : mg "list" = none
  int : mg "int" = none
  abs : mg "abs" = none
  range : mg "range" = none
  min : mg "min" = none
  repr : mg "repr" = none
  isinstance : mg "isinstance" = none
abbrev tlV : List Value := [.type "ValueError", .type "Exception", .type "BaseException", .type "object"]
abbrev tlL : List Value := [.type "LookupError", .type "Exception", .type "BaseException", .type "object"]
abbrev tlO : List Value := [.type "OverflowError", .type "ArithmeticError", .type "Exception", .type "BaseException", .type "object"]
abbrev tlR : List Value := [.type "RuntimeError", .type "Exception", .type "BaseException", .type "object"]
section
variable {P : Program} {w : World} {K : PySem.W.Frag} {mg : Str → Option Value} {base : Heap}
abbrev m_InvalidSpot : Stmt := mtd (top 9) 0
theorem sc_InvalidSpot : FnScope ["self", "value"] ["self", "value"] (defScope m_InvalidSpot) := ⟨rfl, rfl, rfl, by decide +kernel, rfl, by decide +kernel, by decide +kernel⟩
theorem b_InvalidSpot {f C : Addr} {fd : FuncData} (F : Fun K "__init__" "InvalidSpot.__init__" m_InvalidSpot f fd) (T : OexK K C) (no : ∀ f ∈ (["value"] : List Str), PySem.W.findIn K (.ref C) f = some none) : FnG P w K mg base CX0 1 f fd ["self", "value"] (spIni C ["value"]) := by
  refine okG0 F sc_InvalidSpot (fun vs H Q E h => ?_) (fun cdv A outer s H vs Q E hg hr h => ?_)
  · obtain ⟨a, ws, rfl, hl, _⟩ := h
    rw [List.length_cons, hl]
    rfl
  · obtain ⟨a, ws, rfl, hl, ha, k0, k⟩ := h
    match ws, hl with
    | [y], _ => exact ⟨_, (pss_one (ps_osk (pv 0) (pv 1))), _, rfl, _, rfl, a, C, rfl, T, no _ (by simp), .inl ⟨ha, fun dx n ne => k (by simp) dx n ne⟩⟩
theorem c_InvalidSpot {h : Heap} {f C : Addr} {fd : FuncData} {tl : List Value} (KX : K.In h) (G : h.Ns mainGlobals mg) (E : ExcTxt K "InvalidSpot" "InvalidSpot.__init__" m_InvalidSpot C f fd ["value"] tl) : ClsI P w K mg base 1 "InvalidSpot" C ["value"] :=
  .of1 E KX G (b_InvalidSpot E.fn E.T E.no) (fun _ _ _ _ _ _ _ _ => rfl) (fun _ _ _ _ _ _ _ _ => rfl)
def isStr : PyData → Bool
  | .str _ => true
  | _ => false
theorem kit_str {H : Hp} {v : V} {d : PyData} (h : Th H v d) : ∃ t b, TyX K H v t ∧ PySem.W.kitOne K t (.type "str") = some b ∧ b = isStr d := by
  cases h with
  | atm a => cases a with
    | non => exact ⟨.type "NoneType", false, .base .non, kit_ty (by decide +kernel), rfl⟩
    | bl b => exact ⟨.type "bool", false, .base (.bl b), kit_ty (by decide +kernel), rfl⟩
    | int i => exact ⟨.type "int", false, .base (.int i), kit_ty (by decide +kernel), rfl⟩
    | str x => exact ⟨.type "str", true, .base (.str x), kit_ty (by decide +kernel), rfl⟩
  | lst e _ _ => exact ⟨.type "list", false, .base (.lst e), kit_ty (by decide +kernel), rfl⟩
  | tup e _ => exact ⟨.type "tuple", false, .base (.tup e), kit_ty (by decide +kernel), rfl⟩
  | dct e => exact ⟨.type "dict", false, .base (.dK e), kit_ty (by decide +kernel), rfl⟩
/-- a text: a string of letters -/
def isT : PyData → Bool
  | .str z => decide (V.str (Txt.lstripChars z letS) = V.str "")
  | _ => false
def isNew (d : PyData) : Bool := isT d && match d with | .str z => decide ((z.length : Int) ≤ 40) | _ => false
def isOld (d : PyData) : Bool := isNew d && match d with | .str z => !decide (V.str z = V.str "") | _ => false
/-- strings of values are short -/
def Srt (d : PyData) : Prop := match d with | .str z => z.length ≤ 1000 ∧ PyData.strOk z = true | _ => True
def spTest (f : PyData → Bool) : Sp := fun vs H Q _ => ∃ v d, vs = [v] ∧ Th H v d ∧ Srt d ∧ Q (.bl (f d)) H
abbrev s_is_text : Stmt := top 2
theorem sc_is_text : FnScope ["value"] ["value"] (defScope s_is_text) := ⟨rfl, rfl, rfl, by decide +kernel, rfl, by decide +kernel, by decide +kernel⟩
theorem b_is_text {f : Addr} {fd : FuncData} (F : Fun K "is_text" "is_text" s_is_text f fd) (T : Txt mg) (g_LETTERS : ∃ u, mg "LETTERS" = some u ∧ RelV (.str letS) u) : FnG P w K mg base CX0 1 f fd ["value"] (spTest isT) := by
  refine okG0 F sc_is_text (fun vs H Q E h => ?_) (fun cdv A outer s H vs Q E hg hr h => ?_)
  · obtain ⟨v, d, rfl, _⟩ := h
    rfl
  · have hu := hu_of hr
    have hu64 := hr.units
    obtain ⟨v, d, rfl, th, sr, k⟩ := h
    obtain ⟨t, b, ty, kt, hb⟩ := kit_str (K := K) th
    refine ⟨_, (pss_one (ps_ret (pe_and (pe_callB call_isi (by rfl) T.isinstance (by decide +kernel) (pa_cons (pv 0) (pa_cons (pe_bltn (v := .ty "str") (by rfl) T.str rfl rfl) pa_nil))) (pe_one (pe_cmpR op_eq (pe_bm PySem.F.plainAttrs_str PySem.F.slot_str_lstrip PySem.F.type_str_lstrip mt_lstripChars (pv 0) (pa_cons (C8.pe_gc (by rfl) g_LETTERS) pa_nil)) pe_str (nomark _)))))), ?_⟩
    refine ⟨_, rfl, v, .ty "str", t, .type "str", b, rfl, .ty "str", ty, kt, _, rfl, ?_⟩
    cases th with
    | atm a =>
      cases a with
      | str x =>
        subst hb
        refine iteT ⟨_, rfl, rfl, x, _, rfl, rfl, few_len sr.1, rfl, ?_⟩
        exact k
      | _ => subst hb; exact iteF k
    | _ => subst hb; exact iteF k

theorem isT_str {d : PyData} (h : isT d = true) : ∃ z, d = .str z := by
  cases d with
  | str z => exact ⟨z, rfl⟩
  | _ => cases h
theorem isNew_str {d : PyData} (h : isNew d = true) : ∃ z, d = .str z := by
  refine isT_str ?_
  unfold isNew at h
  rw [Bool.and_eq_true] at h
  exact h.1
theorem th_str {H : Hp} {v : V} {z : Str} (h : Th H v (.str z)) : v = .str z := by
  cases h with
  | atm a => cases a; rfl
abbrev s_is_new : Stmt := top 18
theorem sc_is_new : FnScope ["value"] ["value"] (defScope s_is_new) := ⟨rfl, rfl, rfl, by decide +kernel, rfl, by decide +kernel, by decide +kernel⟩
theorem b_is_new {f : Addr} {fd : FuncData} (F : Fun K "is_new" "is_new" s_is_new f fd) (T : Txt mg) (c_is_text : CalG P w K mg base CX0 1 "is_text" (spTest isT)) (g_MAX_WORD : ∃ u, mg "MAX_WORD" = some u ∧ RelV (.int 40) u) : FnG P w K mg base CX0 2 f fd ["value"] (spTest isNew) := by
  refine okG0 F sc_is_new (fun vs H Q E h => ?_) (fun cdv A outer s H vs Q E hg hr h => ?_)
  · obtain ⟨v, d, rfl, _⟩ := h
    rfl
  · have hu := hu_of hr
    have hu64 := hr.units
    obtain ⟨v, d, rfl, th, sr, k⟩ := h
    refine ⟨_, (pss_one (ps_ret (pe_and (pe_cG c_is_text hg hr (by decide) pass0 (pa_cons (pv 0) pa_nil)) (pe_one (pe_cmpR op_le (pe_callB call_len (by rfl) T.len (by decide +kernel) (pa_cons (pv 0) pa_nil)) (C8.pe_gc (by rfl) g_MAX_WORD) (nomark _)))))), ?_⟩
    refine ⟨_, rfl, v, d, rfl, th, sr, _, rfl, ?_⟩
    match hT : isT d with
    | false =>
      have e : isNew d = false := by unfold isNew; rw [hT, Bool.false_and]
      rw [e] at k
      exact iteF k
    | true =>
      obtain ⟨z, rfl⟩ := isT_str hT
      cases th_str th
      rw [isNew, hT] at k
      exact iteT ⟨_, rfl, _, _, rfl, ⟨few_len sr.1, rfl⟩, _, _, rfl, rfl, k⟩

abbrev s_is_old : Stmt := top 19
theorem sc_is_old : FnScope ["value"] ["value"] (defScope s_is_old) := ⟨rfl, rfl, rfl, by decide +kernel, rfl, by decide +kernel, by decide +kernel⟩
theorem b_is_old {f : Addr} {fd : FuncData} (F : Fun K "is_old" "is_old" s_is_old f fd) (T : Txt mg) (c_is_new : CalG P w K mg base CX0 2 "is_new" (spTest isNew)) : FnG P w K mg base CX0 3 f fd ["value"] (spTest isOld) := by
  refine okG0 F sc_is_old (fun vs H Q E h => ?_) (fun cdv A outer s H vs Q E hg hr h => ?_)
  · obtain ⟨v, d, rfl, _⟩ := h
    rfl
  · have hu := hu_of hr
    have hu64 := hr.units
    obtain ⟨v, d, rfl, th, sr, k⟩ := h
    refine ⟨_, (pss_one (ps_ret (pe_and (pe_cG c_is_new hg hr (by decide) pass0 (pa_cons (pv 0) pa_nil)) (pe_one (pe_cmpR op_ne (pv 0) pe_str (nomark _)))))), ?_⟩
    refine ⟨_, rfl, v, d, rfl, th, sr, _, rfl, ?_⟩
    match hT : isNew d with
    | false =>
      have e : isOld d = false := by unfold isOld; rw [hT, Bool.false_and]
      rw [e] at k
      exact iteF k
    | true =>
      obtain ⟨z, rfl⟩ := isNew_str hT
      cases th_str th
      rw [isOld, hT] at k
      exact iteT ⟨_, rfl, rfl, k⟩

/-- the first error that is due for the words of an edit -/
def spCheck (Co Cn : Addr) : Sp := fun vs H Q E => ∃ v1 d1 v2 d2, vs = [v1, v2] ∧ Th H v1 d1 ∧ Srt d1 ∧ Th H v2 d2 ∧ Srt d2 ∧ (isOld d1 = false → ∀ d, H d = none → E (.ref Co) (some d) (upd H d (.xd [(("value" : Str), v1)]))) ∧
  (isOld d1 = true → isNew d2 = false → ∀ d, H d = none → E (.ref Cn) (some d) (upd H d (.xd [(("value" : Str), v2)]))) ∧ (isOld d1 = true → isNew d2 = true → Q .non H)
/-- Once(old, new) and its like: the words are looked at first -/
def spEdit (C Co Cn : Addr) : Sp := fun vs H Q E => ∃ a dx v1 d1 v2 d2, vs = [.ref a, v1, v2] ∧ H a = some (.ins C dx []) ∧ Th H v1 d1 ∧ Srt d1 ∧ Th H v2 d2 ∧ Srt d2 ∧ (isOld d1 = false → ∀ d, H d = none → E (.ref Co) (some d) (upd H d (.xd [(("value" : Str), v1)]))) ∧
  (isOld d1 = true → isNew d2 = false → ∀ d, H d = none → E (.ref Cn) (some d) (upd H d (.xd [(("value" : Str), v2)]))) ∧ (isOld d1 = true → isNew d2 = true → Q .non (upd H a (.ins C dx [("_old", v1), ("_new", v2)])))
theorem upd_twice {H : Hp} {a : Addr} {o1 o2 : HO} : upd (upd H a o1) a o2 = upd H a o2 := by
  funext b
  by_cases h : b = a
  · subst h; rw [upd_same, upd_same]
  · rw [upd_ne h, upd_ne h, upd_ne h]
abbrev m_First : Stmt := mtd (top 24) 0
theorem sc_First : FnScope ["self", "old", "new"] ["self", "old", "new"] (defScope m_First) := ⟨rfl, rfl, rfl, by decide +kernel, rfl, by decide +kernel, by decide +kernel⟩
theorem b_First {f C Co Cn : Addr} {fd : FuncData} (F : Fun K "__init__" "First.__init__" m_First f fd) (c_check_words : CalG P w K mg base (L2.CX P w) 4 "check_words" (spCheck Co Cn)) (cl : Cls K C) (n1 : NoAttr K C "_old") (n2 : NoAttr K C "_new") : FnG P w K mg base (L2.CX P w) 5 f fd ["self", "old", "new"] (spEdit C Co Cn) := by
  refine okG F sc_First (fun vs H Q E h => ?_) (fun cdv A outer s H vs Q E hg hr h => ?_)
  · obtain ⟨a, dx, v1, d1, v2, d2, rfl, _⟩ := h
    rfl
  · obtain ⟨a, dx, v1, d1, v2, d2, rfl, ha, t1, r1, t2, r2, k1, k2, k3⟩ := h
    refine ⟨_, (pss_cons (ps_expr (pe_cG c_check_words hg hr (by decide) (passes_call (takes_of rfl rfl rfl rfl) (fun _ _ _ _ h => h)) (pa_cons (pv 1) (pa_cons (pv 2) pa_nil)))) (pss_cons (ps_fld (pv 0) (pv 1) rfl) (pss_one (ps_fld (pv 0) (pv 2) rfl)))), ?_⟩
    refine ⟨_, rfl, _, rfl, v1, d1, v2, d2, rfl, t1, r1, t2, r2, k1, k2, fun g1 g2 => ?_⟩
    refine ⟨_, rfl, _, rfl, a, C, dx, [], rfl, ha, cl, n1, by decide, ?_⟩
    refine ⟨_, rfl, _, rfl, a, C, dx, _, rfl, upd_same, cl, n2, Nat.lt_of_succ_le (Nat.le_of_ble_eq_true rfl), ?_⟩
    rw [upd_twice]
    exact k3 g1 g2
abbrev m_Perhaps : Stmt := mtd (top 25) 0
theorem sc_Perhaps : FnScope ["self", "old", "new"] ["self", "old", "new"] (defScope m_Perhaps) := ⟨rfl, rfl, rfl, by decide +kernel, rfl, by decide +kernel, by decide +kernel⟩
theorem b_Perhaps {f C Co Cn : Addr} {fd : FuncData} (F : Fun K "__init__" "Perhaps.__init__" m_Perhaps f fd) (c_check_words : CalG P w K mg base (L2.CX P w) 4 "check_words" (spCheck Co Cn)) (cl : Cls K C) (n1 : NoAttr K C "_old") (n2 : NoAttr K C "_new") : FnG P w K mg base (L2.CX P w) 5 f fd ["self", "old", "new"] (spEdit C Co Cn) := by
  refine okG F sc_Perhaps (fun vs H Q E h => ?_) (fun cdv A outer s H vs Q E hg hr h => ?_)
  · obtain ⟨a, dx, v1, d1, v2, d2, rfl, _⟩ := h
    rfl
  · obtain ⟨a, dx, v1, d1, v2, d2, rfl, ha, t1, r1, t2, r2, k1, k2, k3⟩ := h
    refine ⟨_, (pss_cons (ps_expr (pe_cG c_check_words hg hr (by decide) (passes_call (takes_of rfl rfl rfl rfl) (fun _ _ _ _ h => h)) (pa_cons (pv 1) (pa_cons (pv 2) pa_nil)))) (pss_cons (ps_fld (pv 0) (pv 1) rfl) (pss_one (ps_fld (pv 0) (pv 2) rfl)))), ?_⟩
    refine ⟨_, rfl, _, rfl, v1, d1, v2, d2, rfl, t1, r1, t2, r2, k1, k2, fun g1 g2 => ?_⟩
    refine ⟨_, rfl, _, rfl, a, C, dx, [], rfl, ha, cl, n1, by decide, ?_⟩
    refine ⟨_, rfl, _, rfl, a, C, dx, _, rfl, upd_same, cl, n2, Nat.lt_of_succ_le (Nat.le_of_ble_eq_true rfl), ?_⟩
    rw [upd_twice]
    exact k3 g1 g2
abbrev m_Every : Stmt := mtd (top 26) 0
theorem sc_Every : FnScope ["self", "old", "new"] ["self", "old", "new"] (defScope m_Every) := ⟨rfl, rfl, rfl, by decide +kernel, rfl, by decide +kernel, by decide +kernel⟩
theorem b_Every {f C Co Cn : Addr} {fd : FuncData} (F : Fun K "__init__" "Every.__init__" m_Every f fd) (c_check_words : CalG P w K mg base (L2.CX P w) 4 "check_words" (spCheck Co Cn)) (cl : Cls K C) (n1 : NoAttr K C "_old") (n2 : NoAttr K C "_new") : FnG P w K mg base (L2.CX P w) 5 f fd ["self", "old", "new"] (spEdit C Co Cn) := by
  refine okG F sc_Every (fun vs H Q E h => ?_) (fun cdv A outer s H vs Q E hg hr h => ?_)
  · obtain ⟨a, dx, v1, d1, v2, d2, rfl, _⟩ := h
    rfl
  · obtain ⟨a, dx, v1, d1, v2, d2, rfl, ha, t1, r1, t2, r2, k1, k2, k3⟩ := h
    refine ⟨_, (pss_cons (ps_expr (pe_cG c_check_words hg hr (by decide) (passes_call (takes_of rfl rfl rfl rfl) (fun _ _ _ _ h => h)) (pa_cons (pv 1) (pa_cons (pv 2) pa_nil)))) (pss_cons (ps_fld (pv 0) (pv 1) rfl) (pss_one (ps_fld (pv 0) (pv 2) rfl)))), ?_⟩
    refine ⟨_, rfl, _, rfl, v1, d1, v2, d2, rfl, t1, r1, t2, r2, k1, k2, fun g1 g2 => ?_⟩
    refine ⟨_, rfl, _, rfl, a, C, dx, [], rfl, ha, cl, n1, by decide, ?_⟩
    refine ⟨_, rfl, _, rfl, a, C, dx, _, rfl, upd_same, cl, n2, Nat.lt_of_succ_le (Nat.le_of_ble_eq_true rfl), ?_⟩
    rw [upd_twice]
    exact k3 g1 g2
theorem isT_all {z : Str} : isT (.str z) = z.cps.toList.all letS.cps.contains := by
  unfold isT
  rw [Bool.eq_iff_iff, ← lstrip_all]
  simp
/-- the signs of z that are no letters, among the first i -/
def odd (z : Str) (i : Nat) : List Nat := (z.cps.toList.take i).filter fun c => !decide (c ∈ letS.cps.toList)
theorem odd_next {z : Str} {i c : Nat} (h : z.cps[i]? = some c) : odd z (i + 1) = if (!decide (c ∈ letS.cps.toList)) = true then odd z i ++ [c] else odd z i := by
  unfold odd
  have e : z.cps.toList[i]? = some c := by rw [Array.getElem?_toList]; exact h
  rw [List.take_add_one, e, List.filter_append]
  cases m : decide (c ∈ letS.cps.toList) with
  | true => simp only [Option.toList_some, List.filter_cons, m, Bool.not_true, Bool.false_eq_true, if_false, List.filter_nil, List.append_nil]
  | false => simp only [Option.toList_some, List.filter_cons, m, Bool.not_false, if_true, List.filter_nil]
theorem odd_len {z : Str} {i : Nat} : (odd z i).length ≤ z.length := by
  unfold odd
  refine Nat.le_trans (List.length_filter_le _ _) ?_
  rw [List.length_take]
  exact Nat.le_trans (Nat.min_le_right _ _) (by simp [Str.length])
theorem odd_all {z : Str} : PyData.eqv (.list ((odd z z.cps.size).map fun c => .str ⟨#[c]⟩)) (.list []) = isT (.str z) := by
  rw [isT_all]
  have e : odd z z.cps.size = z.cps.toList.filter fun c => !decide (c ∈ letS.cps.toList) := by
    unfold odd
    rw [List.take_of_length_le (by simp)]
  rw [e]
  cases h : z.cps.toList.all letS.cps.contains with
  | true =>
    have n : (z.cps.toList.filter fun c => !decide (c ∈ letS.cps.toList)) = [] := by
      rw [List.filter_eq_nil_iff]
      intro c hc
      have q := List.all_eq_true.mp h c hc
      have m : c ∈ letS.cps.toList := by simpa using q
      simp [m]
    rw [n]
    simp [PyData.eqv, PyData.eqvAll]
  | false =>
    have n : (z.cps.toList.filter fun c => !decide (c ∈ letS.cps.toList)) ≠ [] := by
      intro n
      rw [List.filter_eq_nil_iff] at n
      have q : z.cps.toList.all letS.cps.contains = true := by
        rw [List.all_eq_true]
        intro c hc
        have m := n c hc
        simpa using m
      rw [q] at h
      cases h
    revert n
    cases z.cps.toList.filter fun c => !decide (c ∈ letS.cps.toList) with
    | nil => exact fun n => absurd rfl n
    | cons a r => exact fun _ => by simp [PyData.eqv, PyData.eqvAll]
theorem odd_ok {z : Str} (h : PyData.strOk z = true) (i : Nat) : SeqAt.shaped (.list ((odd z i).map fun c => .str ⟨#[c]⟩)) = true := by
  have all : ∀ l : List Nat, (∀ c ∈ l, c < 0x110000) → PyData.canLayAll0 (l.map fun c => PyData.str ⟨#[c]⟩) = true ∧ PyData.depthAll (l.map fun c => PyData.str ⟨#[c]⟩) ≤ 1 := by
    intro l
    induction l with
    | nil => intro _; exact ⟨rfl, by simp [PyData.depthAll]⟩
    | cons a r ih =>
      intro m
      obtain ⟨i1, i2⟩ := ih fun c hc => m c (List.mem_cons_of_mem _ hc)
      have m1 := m a List.mem_cons_self
      refine ⟨?_, ?_⟩
      · rw [List.map_cons]
        simp only [PyData.canLayAll0, PyData.canLay0, i1, Bool.and_true]
        simp [PyData.strOk, m1]
      · rw [List.map_cons]
        simp only [PyData.depthAll, PyData.depth]
        omega
  obtain ⟨a1, a2⟩ := all (odd z i) fun c hc => by
    unfold odd at hc
    have m := List.mem_of_mem_take (List.mem_filter.mp hc).1
    have h2 : z.cps.all (· < 0x110000) = true := h
    rw [Array.all_eq_true_iff_forall_mem] at h2
    have := h2 c (by simpa using m)
    simpa using this
  unfold SeqAt.shaped
  rw [Bool.and_eq_true, decide_eq_true_eq]
  refine ⟨by simpa [PyData.canLay0] using a1, ?_⟩
  simp only [PyData.depth]
  omega
/-- as spTest, new things may be laid -/
def spSays (f : PyData → Bool) : Sp := fun vs H Q _ => ∃ v d, vs = [v] ∧ Th H v d ∧ Srt d ∧ ∀ H', Same H H' → Q (.bl (f d)) H'
theorem dp_signs {H : Hp} : ∀ l : List Nat, DpAll K H (l.map fun c => V.str ⟨#[c]⟩) (l.map fun c => PyData.str ⟨#[c]⟩)
  | [] => .nil
  | c :: r => .cons (.str _) (dp_signs r)
abbrev s_lsigns : Stmt := top 52
theorem sc_lsigns : FnScope [] [] (defScope s_lsigns) := ⟨rfl, rfl, rfl, by decide +kernel, rfl, by decide +kernel, by decide +kernel⟩
theorem b_lsigns {f : Addr} {fd : FuncData} (F : Fun K "_law_signs" "_law_signs" s_lsigns f fd) (T : Txt mg) : FnG P w K mg base CX0 1 f fd [] spSigns := by
  refine okG0 F sc_lsigns (fun vs H Q E h => ?_) (fun cdv A outer s H vs Q E hg hr h => ?_)
  · obtain ⟨rfl, _⟩ := h
    rfl
  · have hu := hu_of hr
    have hu64 := hr.units
    obtain ⟨rfl, k⟩ := h
    exact ⟨_, (pss_one (ps_ret pe_str)), k⟩

def isIntB : PyData → Bool
  | .int _ => true
  | _ => false
theorem kit_int {H : Hp} {v : V} {d : PyData} (h : Th H v d) : ∃ t b c, TyX K H v t ∧ PySem.W.kitOne K t (.type "int") = some b ∧ PySem.W.kitOne K t (.type "bool") = some c ∧ (b && !c) = isIntB d ∧ (isIntB d = false → b = true → c = true) := by
  cases h with
  | atm a => cases a with
    | non => exact ⟨.type "NoneType", false, false, .base .non, kit_ty (by decide +kernel), kit_ty (by decide +kernel), rfl, fun _ z => nomatch z⟩
    | bl b => exact ⟨.type "bool", true, true, .base (.bl b), kit_ty (by decide +kernel), kit_ty (by decide +kernel), rfl, fun _ _ => rfl⟩
    | int i => exact ⟨.type "int", true, false, .base (.int i), kit_ty (by decide +kernel), kit_ty (by decide +kernel), rfl, fun z => nomatch z⟩
    | str x => exact ⟨.type "str", false, false, .base (.str x), kit_ty (by decide +kernel), kit_ty (by decide +kernel), rfl, fun _ z => nomatch z⟩
  | lst e _ _ => exact ⟨.type "list", false, false, .base (.lst e), kit_ty (by decide +kernel), kit_ty (by decide +kernel), rfl, fun _ z => nomatch z⟩
  | tup e _ => exact ⟨.type "tuple", false, false, .base (.tup e), kit_ty (by decide +kernel), kit_ty (by decide +kernel), rfl, fun _ z => nomatch z⟩
  | dct e => exact ⟨.type "dict", false, false, .base (.dK e), kit_ty (by decide +kernel), kit_ty (by decide +kernel), rfl, fun _ z => nomatch z⟩
theorem kit_tup {H : Hp} {v : V} {d : PyData} (h : Th H v d) : ∃ t b, TyX K H v t ∧ PySem.W.kitOne K t (.type "tuple") = some b ∧ b = (match d with | .tuple _ => true | _ => false) := by
  cases h with
  | atm a => cases a with
    | non => exact ⟨.type "NoneType", false, .base .non, kit_ty (by decide +kernel), rfl⟩
    | bl b => exact ⟨.type "bool", false, .base (.bl b), kit_ty (by decide +kernel), rfl⟩
    | int i => exact ⟨.type "int", false, .base (.int i), kit_ty (by decide +kernel), rfl⟩
    | str x => exact ⟨.type "str", false, .base (.str x), kit_ty (by decide +kernel), rfl⟩
  | lst e _ _ => exact ⟨.type "list", false, .base (.lst e), kit_ty (by decide +kernel), rfl⟩
  | tup e _ => exact ⟨.type "tuple", true, .base (.tup e), kit_ty (by decide +kernel), rfl⟩
  | dct e => exact ⟨.type "dict", false, .base (.dK e), kit_ty (by decide +kernel), rfl⟩
def inI (d : PyData) (lo hi : Int) : Bool := match d with | .int i => decide (lo ≤ i) && decide (i ≤ hi) | _ => false
def spIsInt : Sp := fun vs H Q _ => ∃ v d, vs = [v] ∧ Th H v d ∧ Q (.bl (isIntB d)) H
def spInI : Sp := fun vs H Q _ => ∃ v d lo hi, vs = [v, .int lo, .int hi] ∧ Th H v d ∧ Q (.bl (inI d lo hi)) H
theorem int_th {H : Hp} {v : V} {d : PyData} (h : Th H v d) (z : isIntB d = true) : ∃ i, d = .int i ∧ v = .int i := by
  cases h with
  | atm a => cases a with
    | int i => exact ⟨i, rfl, rfl⟩
    | _ => cases z
  | _ => cases z
theorem inI_no {d : PyData} {lo hi : Int} (z : isIntB d = false) : inI d lo hi = false := by
  cases d with
  | int i => cases z
  | _ => rfl
abbrev s_is_integer : Stmt := top 4
theorem sc_is_integer : FnScope ["value"] ["value"] (defScope s_is_integer) := ⟨rfl, rfl, rfl, by decide +kernel, rfl, by decide +kernel, by decide +kernel⟩
theorem b_is_integer {f : Addr} {fd : FuncData} (F : Fun K "is_integer" "is_integer" s_is_integer f fd) (T : Txt mg) : FnG P w K mg base CX0 1 f fd ["value"] spIsInt := by
  refine okG0 F sc_is_integer (fun vs H Q E h => ?_) (fun cdv A outer s H vs Q E hg hr h => ?_)
  · obtain ⟨v, d, rfl, _⟩ := h
    rfl
  · have hu := hu_of hr
    have hu64 := hr.units
    obtain ⟨v, d, rfl, th, k⟩ := h
    obtain ⟨t, b, c, ty, kt, kc, hb, _⟩ := kit_int (K := K) th
    refine ⟨_, (pss_one (ps_ret (pe_and (pe_callB call_isi (by rfl) T.isinstance (by decide +kernel) (pa_cons (pv 0) (pa_cons (pe_bltn (v := .ty "int") (by rfl) T.int rfl rfl) pa_nil))) (pe_one (pe_not (pe_callB call_isi (by rfl) T.isinstance (by decide +kernel) (pa_cons (pv 0) (pa_cons (pe_bltn (v := .ty "bool") (by rfl) T.bool rfl rfl) pa_nil)))))))), ?_⟩
    refine ⟨_, rfl, v, .ty "int", t, .type "int", b, rfl, .ty "int", ty, kt, _, rfl, ?_⟩
    rw [← hb] at k
    cases b with
    | false => exact iteF k
    | true => exact iteT ⟨_, rfl, v, .ty "bool", t, .type "bool", c, rfl, .ty "bool", ty, kc, _, rfl, k⟩

abbrev s_is_integer_in : Stmt := top 5
theorem sc_is_integer_in : FnScope ["value", "low", "high"] ["value", "low", "high"] (defScope s_is_integer_in) := ⟨rfl, rfl, rfl, by decide +kernel, rfl, by decide +kernel, by decide +kernel⟩
theorem b_is_integer_in {f : Addr} {fd : FuncData} (F : Fun K "is_integer_in" "is_integer_in" s_is_integer_in f fd) (T : Txt mg) (c_is_integer : CalG P w K mg base CX0 1 "is_integer" spIsInt) : FnG P w K mg base CX0 2 f fd ["value", "low", "high"] spInI := by
  refine okG0 F sc_is_integer_in (fun vs H Q E h => ?_) (fun cdv A outer s H vs Q E hg hr h => ?_)
  · obtain ⟨v, d, lo, hi, rfl, _⟩ := h
    rfl
  · have hu := hu_of hr
    have hu64 := hr.units
    obtain ⟨v, d, lo, hi, rfl, th, k⟩ := h
    refine ⟨_, (pss_one (ps_ret (pe_and (pe_cG c_is_integer hg hr (by decide) pass0 (pa_cons (pv 0) pa_nil)) (pe_one (pe_chain op_le op_le (pv 1) (pv 0) (pv 2)))))), ?_⟩
    refine ⟨_, rfl, v, d, rfl, th, _, rfl, ?_⟩
    cases hI : isIntB d with
    | false =>
      rw [inI_no hI] at k
      exact iteF k
    | true =>
      obtain ⟨i, rfl, rfl⟩ := int_th th hI
      have k : Q (.bl (decide (lo ≤ i) && decide (i ≤ hi))) H := k
      refine iteT ⟨_, rfl, _, rfl, ?_⟩
      refine ⟨_, _, rfl, rfl, _, rfl, ?_⟩
      cases h1 : decide (lo ≤ i) with
      | false =>
        rw [h1, Bool.false_and] at k
        exact iteF k
      | true =>
        rw [h1, Bool.true_and] at k
        exact iteT ⟨_, rfl, _, _, rfl, rfl, k⟩

end
end Vk
set_option Elab.async false
set_option maxRecDepth 100000
set_option maxHeartbeats 4000000
set_option linter.all false
namespace Vk
open L2 PySem PySem.Spec PyProof.Rows PySem.VkX
/-! ## several except clauses, two classes in one among them -/
inductive Cly
  | only (c : Value) (ts : Sui)
  | named (c : Value) (i : Nat) (ts : Sui)
  | pair (c1 c2 : Value) (ts : Sui)
def wEvy (K : PySem.W.Frag) (W0 : WX) (D : Ends) : List Cly → WX
  | [] => W0
  | .only c ts :: r => fun cls d σ H => ∃ b, PySem.W.exmOne K cls c = some b ∧ (b = true → ∀ a, H a = none → ts a cls d D σ H) ∧ (b = false → wEvy K W0 D r cls d σ H)
  | .pair c1 c2 ts :: r => fun cls d σ H => ∃ b, PySem.W.exmAny K cls [c1, c2] = some b ∧ (b = true → ∀ a, H a = none → ts a cls d D σ H) ∧ (b = false → wEvy K W0 D r cls d σ H)
  | .named c i ts :: r => fun cls d σ H => ∃ b, PySem.W.exmOne K cls c = some b ∧ (b = true → ∀ a, H a = none → ts a cls d (gone D i) (σ.set i (some (.ref a))) H) ∧ (b = false → wEvy K W0 D r cls d σ H)
inductive ClyOk (X : Cx) : List ExceptHandler → List Cly → Prop
  | nil : ClyOk X [] []
  | only {x : Str} {c : Value} {ts : Sui} {s0 : Stmt} {ss : List Stmt} {p1 p2 : Pos} {hs : List ExceptHandler} {l : List Cly} (hc : Names X x c) (su : SuiOk X (s0 :: ss) ts) (r : ClyOk X hs l) : ClyOk X (.ExceptHandler (some (.Name x p1)) none (s0 :: ss) p2 :: hs) (.only c ts :: l)
  | named {x n : Str} {c : Value} {i : Nat} {ts : Sui} {s0 : Stmt} {ss : List Stmt} {p1 p2 : Pos} {hs : List ExceptHandler} {l : List Cly} (hi : X.N[i]? = some n) (hl : X.env.kindOf n = some .local) (hc : Names X x c) (su : SuiOk X (s0 :: ss) ts) (r : ClyOk X hs l) :
      ClyOk X (.ExceptHandler (some (.Name x p1)) (some n) (s0 :: ss) p2 :: hs) (.named c i ts :: l)
  | pair {x y : Str} {c1 c2 : Value} {ts : Sui} {s0 : Stmt} {ss : List Stmt} {p1 p2 p3 pt : Pos} {kk : Nat} {hs : List ExceptHandler} {l : List Cly} (hx : Names X x c1) (hy : Names X y c2) (su : SuiOk X (s0 :: ss) ts) (r : ClyOk X hs l) :
      ClyOk X (.ExceptHandler (some (.Tuple [.Name x p1, .Name y p3] kk pt)) none (s0 :: ss) p2 :: hs) (.pair c1 c2 ts :: l)
/-- more is laid while it flies -/
theorem flyingZ_keeps {B h h' : Heap} {l : List Env} {e : Addr} {Z : Obj → Prop} (R : HandSPX.FlyingZ B l e Z h) (k : ∀ b o, h.get? b = some o → h'.get? b = some o) : HandSPX.FlyingZ B l e Z h' := by
  obtain ⟨f1, f2, f3, oe, ws, T, oT, ts, he, hz, hd, h1, hn, hne, hT, hdT, h3⟩ := R
  exact ⟨fun b o q => k b o (f1 b o q), f2, f3.of_keeps fun b o q _ => ⟨o, k b o q, rfl⟩, oe, ws, T, oT, ts, k _ _ he, hz, hd, h1, hn, hne, k _ _ hT, hdT, h3⟩
section
variable {X : Cx} {body : List Stmt} {e0 : ExceptHandler} {es : List ExceptHandler} {l : List Cly} {pos : Pos} {tb : WX → TS} {W0 : WX}
theorem ps_try_evy (hs : X.stack = X.env :: X.outer) (hf : X.env.frame = some X.env.locals) (hN : X.N.Nodup) (tk : Takes X W0)
    (hb : ∀ (W : WX) (pn : List (Addr × Obj)) (xe : Value → Shared → Prop), Takes (X.tr pn xe) W → PassesOwn (model X.prog X.w) X.A X.env xe → PSs (X.tr pn xe) body (tb W))
    (hh : ClyOk X (e0 :: es) l) : PS X (.Try body (e0 :: es) [] [] pos) (fun D σ H => tb (wEvy X.K W0 D l) D σ H) := by
  constructor
  intro pins s σ H D I h
  have fine := I.ok
  have frames : X.A.frames = some (X.env :: X.outer) := fine.frames.trans (by rw [hs])
  let caught : Value → Shared → Prop := fun e t1 => wpAny (model X.prog X.w) X.A (noteFrame e X.env) (fun _ t2 => wpAny (model X.prog X.w) X.A (setFlight e none) (fun _ t3 => wpAny (model X.prog X.w) X.A (handleBy e X.env (e0 :: es)) (SP X pins D) X.xe t3) X.xe t2) X.xe t1
  have taken : Takes (X.tr (X.pn ++ pins) caught) (wEvy X.K W0 D l) := by
    rintro u t1 ⟨a, B, sI, pins1, σ1, H1, cls, d, rfl, J0, ground, up, sky, na, os, ag, wish⟩
    have J : Inv X pins σ1 H1 sI := J0.ofTry fine
    have sky1 : Sky B (X.env :: X.outer) a (Zc cls d) X.env.locals t1.heap := hs ▸ sky
    show wpAny (model X.prog X.w) X.A (noteFrame (.ref a) X.env) _ _ _
    refine Sky.land Zc.steady frames hf sky1 fun h3 fl3 up3 => ?_
    have walk : ∀ {hs1 : List ExceptHandler} {l1 : List Cly}, ClyOk X hs1 l1 → ∀ h3, HandSPX.FlyingZ B (X.env :: X.outer) a (Zc cls d) h3 → t1.heap.UpToSlots h3 → wEvy X.K W0 D l1 cls d σ1 H1 → wpAny (model X.prog X.w) X.A (handleBy (.ref a) X.env hs1) (SP X pins D) X.xe { t1 with heap := h3 } := by
      intro hs1 l1 ok1
      induction ok1 with
      | nil =>
        intro h3 fl3 up3
        have J3 : Inv X pins σ1 H1 { t1 with heap := h3 } := J.landed ground fl3.1 (up.trans up3) os ag
        obtain ⟨o3, v3, at3, z3, dat3⟩ := fl3.there
        have apart : a ∉ frs (X.env :: X.outer) := by
          intro hm
          obtain ⟨_, o, eo, plain⟩ := fl3.2.2.1.mem hm
          rw [at3] at eo
          cases eo
          exact plain _ dat3
        have notLoc : a ≠ X.env.locals := fun z => apart (List.mem_filterMap.mpr ⟨X.env, List.mem_cons_self, hf.trans (congrArg some z.symm)⟩)
        have notFs : a ∉ X.fs := fun hm => match List.mem_filterMap.mp hm with | ⟨e, he, q⟩ => apart (List.mem_filterMap.mpr ⟨e, List.mem_cons_of_mem _ he, q⟩)
        have S3 := J3.suite at3 dat3 na notLoc notFs
        have typed : PySem.W.Looks (model X.prog X.w) h3 (typeOf (.ref a)) cls := fun A Q E s k q => wpAny_typeOf_ref (k _ _ at3) (z3.1.symm ▸ q)
        have asked : ∀ {x : Str} {c : Value} {p1 : Pos} {Q : Value → Shared → Prop} {E : Value → Shared → Prop}, Names X x c → Q c { t1 with heap := h3 } → wpAny (model X.prog X.w) (X.A.mark (some (.ref a))) (eval (.Name x p1) X.env) Q E { t1 with heap := h3 } := by
          rintro x c p1 Q E ⟨g1, g2, g3⟩ q
          rcases g3 with g3 | ⟨g3, g4, g5⟩
          · exact ld_glob (X := X.suite a ((a, o3) :: (X.pn ++ pins))) S3 g1 g3 q g2
          · exact ld_blt (X := X.suite a ((a, o3) :: (X.pn ++ pins))) S3 g1 g3 g4 q g5 g2
        intro w
        refine wpAny_handleBy_nil ?_
        obtain ⟨_, _, _, oe, vs, tr, _, _, he, _, hd, first1, _⟩ := id fl3
        unfold PySem.passOn
        refine wpAny_bind (wpAny_field he hd first1 ?_)
        rw [if_neg (show ¬ ((Value.ref tr == Value.none) = true) from by simp)]
        have out : wpAny (model X.prog X.w) X.A (setFlight (.ref a) X.env.frame) (fun _ t4 => wpAny (model X.prog X.w) X.A (throw (.ref a) : Sem Flow) (SP X pins D) X.xe t4) X.xe { t1 with heap := h3 } := by
          rw [hf]
          exact HandSPX.setFlight_upZ fl3 fun h4 held up4 => wpAny_throw (tk _ _ ⟨a, B, sI, pins, σ1, H1, cls, d, rfl, J, ground, (up.trans up3).trans up4, .inr (.inr (hs.symm ▸ held)), na, os, ag, w⟩)
        first
          | exact wpAny_bind (wpAny_pure (wpAny_bind out))
          | exact wpAny_bind out
      | only hc su r ih =>
        intro h3 fl3 up3
        have J3 : Inv X pins σ1 H1 { t1 with heap := h3 } := J.landed ground fl3.1 (up.trans up3) os ag
        obtain ⟨o3, v3, at3, z3, dat3⟩ := fl3.there
        have apart : a ∉ frs (X.env :: X.outer) := by
          intro hm
          obtain ⟨_, o, eo, plain⟩ := fl3.2.2.1.mem hm
          rw [at3] at eo
          cases eo
          exact plain _ dat3
        have notLoc : a ≠ X.env.locals := fun z => apart (List.mem_filterMap.mpr ⟨X.env, List.mem_cons_self, hf.trans (congrArg some z.symm)⟩)
        have notFs : a ∉ X.fs := fun hm => match List.mem_filterMap.mp hm with | ⟨e, he, q⟩ => apart (List.mem_filterMap.mpr ⟨e, List.mem_cons_of_mem _ he, q⟩)
        have S3 := J3.suite at3 dat3 na notLoc notFs
        have typed : PySem.W.Looks (model X.prog X.w) h3 (typeOf (.ref a)) cls := fun A Q E s k q => wpAny_typeOf_ref (k _ _ at3) (z3.1.symm ▸ q)
        have asked : ∀ {x : Str} {c : Value} {p1 : Pos} {Q : Value → Shared → Prop} {E : Value → Shared → Prop}, Names X x c → Q c { t1 with heap := h3 } → wpAny (model X.prog X.w) (X.A.mark (some (.ref a))) (eval (.Name x p1) X.env) Q E { t1 with heap := h3 } := by
          rintro x c p1 Q E ⟨g1, g2, g3⟩ q
          rcases g3 with g3 | ⟨g3, g4, g5⟩
          · exact ld_glob (X := X.suite a ((a, o3) :: (X.pn ++ pins))) S3 g1 g3 q g2
          · exact ld_blt (X := X.suite a ((a, o3) :: (X.pn ++ pins))) S3 g1 g3 g4 q g5 g2
        rintro ⟨b, m, yes, no⟩
        refine wpAny_handleBy_cons (codeAny_handlers_test (asked hc ((PySem.W.exm_one (M := model X.prog X.w) J3.kIn typed m).here ?_))) (by intro q; cases q)
        cases b with
        | false => exact ih h3 fl3 up3 (no rfl)
        | true =>
          refine codeAny_handlers_suite (HandSPX.lands_againZ fl3 fun h4 fl4 up4 => ?_)
          have J4 : Inv X pins σ1 H1 { t1 with heap := h4 } := J.landed ground fl4.1 ((up.trans up3).trans up4) os ag
          obtain ⟨o4, v4, at4, z4, dat4⟩ := fl4.there
          have S4 := J4.suite at4 dat4 na notLoc notFs
          refine wpAny_mono ((su a o4 cls d (X.pn ++ pins) z4 ⟨_, dat4⟩).run [] _ _ H1 _ S4 (yes rfl a na)) (fun f t6 sp => ?_) (fun _ _ z => z.elim)
          match f, sp with
          | .next, ⟨σ6, H6, S6, q6⟩ => exact ⟨_, _, S6.unsuite fine, q6⟩
          | .brk, ⟨σ6, H6, S6, q6⟩ => exact ⟨_, _, S6.unsuite fine, q6⟩
          | .cont, ⟨σ6, H6, S6, q6⟩ => exact ⟨_, _, S6.unsuite fine, q6⟩
          | .ret u, ⟨v6, σ6, H6, S6, r6, q6⟩ => exact ⟨_, _, _, S6.unsuite fine, r6, q6⟩
      | @named x n c i ts s0 ss p1 p2 hs2 l2 hi hl hc su r ih =>
        intro h3 fl3 up3
        have J3 : Inv X pins σ1 H1 { t1 with heap := h3 } := J.landed ground fl3.1 (up.trans up3) os ag
        obtain ⟨o3, v3, at3, z3, dat3⟩ := fl3.there
        have apart : a ∉ frs (X.env :: X.outer) := by
          intro hm
          obtain ⟨_, o, eo, plain⟩ := fl3.2.2.1.mem hm
          rw [at3] at eo
          cases eo
          exact plain _ dat3
        have notLoc : a ≠ X.env.locals := fun z => apart (List.mem_filterMap.mpr ⟨X.env, List.mem_cons_self, hf.trans (congrArg some z.symm)⟩)
        have notFs : a ∉ X.fs := fun hm => match List.mem_filterMap.mp hm with | ⟨e, he, q⟩ => apart (List.mem_filterMap.mpr ⟨e, List.mem_cons_of_mem _ he, q⟩)
        have S3 := J3.suite at3 dat3 na notLoc notFs
        have typed : PySem.W.Looks (model X.prog X.w) h3 (typeOf (.ref a)) cls := fun A Q E s k q => wpAny_typeOf_ref (k _ _ at3) (z3.1.symm ▸ q)
        have asked : ∀ {x : Str} {c : Value} {p1 : Pos} {Q : Value → Shared → Prop} {E : Value → Shared → Prop}, Names X x c → Q c { t1 with heap := h3 } → wpAny (model X.prog X.w) (X.A.mark (some (.ref a))) (eval (.Name x p1) X.env) Q E { t1 with heap := h3 } := by
          rintro x c p1 Q E ⟨g1, g2, g3⟩ q
          rcases g3 with g3 | ⟨g3, g4, g5⟩
          · exact ld_glob (X := X.suite a ((a, o3) :: (X.pn ++ pins))) S3 g1 g3 q g2
          · exact ld_blt (X := X.suite a ((a, o3) :: (X.pn ++ pins))) S3 g1 g3 g4 q g5 g2
        rintro ⟨b, m, yes, no⟩
        refine wpAny_handleBy_cons (codeAny_handlers_test (asked hc ((PySem.W.exm_one (M := model X.prog X.w) J3.kIn typed m).here ?_))) (by intro q; cases q)
        cases b with
        | false => exact ih h3 fl3 up3 (no rfl)
        | true =>
          refine codeAny_handlers_suite_as (HandSPX.lands_againZ fl3 fun h4 fl4 up4 => ?_)
          have J4 : Inv X pins σ1 H1 { t1 with heap := h4 } := J.landed ground fl4.1 ((up.trans up3).trans up4) os ag
          obtain ⟨o4, v4, at4, z4, dat4⟩ := fl4.there
          have S4 := J4.suite at4 dat4 na notLoc notFs
          refine store_ok (X := X.suite a ((a, o4) :: (X.pn ++ pins))) (v := .ref a) S4 hN hi (.inl hl) rfl (fun t5 S5 => ?_) (.inr hl)
          refine wpAny_mono ((su a o4 cls d (X.pn ++ pins) z4 ⟨_, dat4⟩).run [] t5 _ H1 _ S5 (yes rfl a na)) (fun f t6 sp => ?_) (fun _ _ z => z.elim)
          have drop1 : ∀ {σ6 : L2.St} {H6 : Hp} {Q : Shared → Prop}, Inv (X.suite a ((a, o4) :: (X.pn ++ pins))) [] σ6 H6 t6 → (∀ t7, Inv X pins (σ6.set i none) H6 t7 → Q t7) → wpAny (model X.prog X.w) X.A (do bindName X.env n .none; unbindBehindTheSuite X.env n p2) (fun _ t7 => Q t7) X.xe t6 := fun S6 hq => gone_ok (S6.unsuite fine) hN hi hl hq
          match f, sp with
          | .next, ⟨σ6, H6, S6, q6⟩ => exact drop1 S6 fun t7 J7 => ⟨_, _, J7, q6⟩
          | .brk, ⟨σ6, H6, S6, q6⟩ => exact drop1 S6 fun t7 J7 => ⟨_, _, J7, q6⟩
          | .cont, ⟨σ6, H6, S6, q6⟩ => exact drop1 S6 fun t7 J7 => ⟨_, _, J7, q6⟩
          | .ret u, ⟨v6, σ6, H6, S6, r6, q6⟩ => exact drop1 S6 fun t7 J7 => ⟨_, _, _, J7, r6, q6⟩
      | @pair x y c1 c2 ts s0 ss p1 p2 p3 pt kk hs2 l2 hx hy su r ih =>
        intro h3 fl3 up3
        have J3 : Inv X pins σ1 H1 { t1 with heap := h3 } := J.landed ground fl3.1 (up.trans up3) os ag
        obtain ⟨o3, v3, at3, z3, dat3⟩ := fl3.there
        have apart : a ∉ frs (X.env :: X.outer) := by
          intro hm
          obtain ⟨_, o, eo, plain⟩ := fl3.2.2.1.mem hm
          rw [at3] at eo
          cases eo
          exact plain _ dat3
        have notLoc : a ≠ X.env.locals := fun z => apart (List.mem_filterMap.mpr ⟨X.env, List.mem_cons_self, hf.trans (congrArg some z.symm)⟩)
        have notFs : a ∉ X.fs := fun hm => match List.mem_filterMap.mp hm with | ⟨e, he, q⟩ => apart (List.mem_filterMap.mpr ⟨e, List.mem_cons_of_mem _ he, q⟩)
        have S3 := J3.suite at3 dat3 na notLoc notFs
        have typed : PySem.W.Looks (model X.prog X.w) h3 (typeOf (.ref a)) cls := fun A Q E s k q => wpAny_typeOf_ref (k _ _ at3) (z3.1.symm ▸ q)
        have asked : ∀ {x : Str} {c : Value} {p1 : Pos} {Q : Value → Shared → Prop} {E : Value → Shared → Prop}, Names X x c → Q c { t1 with heap := h3 } → wpAny (model X.prog X.w) (X.A.mark (some (.ref a))) (eval (.Name x p1) X.env) Q E { t1 with heap := h3 } := by
          rintro x c p1 Q E ⟨g1, g2, g3⟩ q
          rcases g3 with g3 | ⟨g3, g4, g5⟩
          · exact ld_glob (X := X.suite a ((a, o3) :: (X.pn ++ pins))) S3 g1 g3 q g2
          · exact ld_blt (X := X.suite a ((a, o3) :: (X.pn ++ pins))) S3 g1 g3 g4 q g5 g2
        rintro ⟨b, m, yes, no⟩
        have kp : ∀ q o, h3.get? q = some o → (h3.push { cls := .type "tuple", data := .seq [c1, c2].toArray }).get? q = some o := fun _ _ z => Heap.get?_push_of_some _ z
        refine wpAny_handleBy_cons (codeAny_handlers_test (wpAny_Tuple (wpAny_items_cons (asked hx (wpAny_items_cons (asked hy (wpAny_items_nil ⟨by size_fits, ?_⟩))))))) (by intro q; cases q)
        refine (PySem.W.exm_tup2 (M := model X.prog X.w) (J3.kIn.keeps kp) (typed.keeps kp) (Heap.get?_push_size h3 rfl) m).here ?_
        have flP := flyingZ_keeps fl3 kp
        have upP := up3.trans (Heap.UpToSlots.of_keeps kp)
        cases b with
        | false => exact ih _ flP upP (no rfl)
        | true =>
          refine codeAny_handlers_suite (HandSPX.lands_againZ flP fun h4 fl4 up4 => ?_)
          have J4 : Inv X pins σ1 H1 { t1 with heap := h4 } := J.landed ground fl4.1 ((up.trans upP).trans up4) os ag
          obtain ⟨o4, v4, at4, z4, dat4⟩ := fl4.there
          have S4 := J4.suite at4 dat4 na notLoc notFs
          refine wpAny_mono ((su a o4 cls d (X.pn ++ pins) z4 ⟨_, dat4⟩).run [] _ _ H1 _ S4 (yes rfl a na)) (fun f t6 sp => ?_) (fun _ _ z => z.elim)
          match f, sp with
          | .next, ⟨σ6, H6, S6, q6⟩ => exact ⟨_, _, S6.unsuite fine, q6⟩
          | .brk, ⟨σ6, H6, S6, q6⟩ => exact ⟨_, _, S6.unsuite fine, q6⟩
          | .cont, ⟨σ6, H6, S6, q6⟩ => exact ⟨_, _, S6.unsuite fine, q6⟩
          | .ret u, ⟨v6, σ6, H6, S6, r6, q6⟩ => exact ⟨_, _, _, S6.unsuite fine, r6, q6⟩
    exact walk hh h3 fl3 up3 wish
  refine wpAny_Try_except (wpAny_mono ((hb (wEvy X.K W0 D l) (X.pn ++ pins) caught taken PassesOwn.looking).run [] s σ H D (I.toTry _) h) (fun f t1 sp => ?_) (fun e t1 he => he))
  match f, sp with
  | .next, ⟨σ1, H1, J, q⟩ => exact wpAny_execs_nil ⟨σ1, H1, J.ofTry fine, q⟩
  | .brk, ⟨σ1, H1, J, q⟩ => exact ⟨σ1, H1, J.ofTry fine, q⟩
  | .cont, ⟨σ1, H1, J, q⟩ => exact ⟨σ1, H1, J.ofTry fine, q⟩
  | .ret u, ⟨v, σ1, H1, J, r, q⟩ => exact ⟨v, σ1, H1, J.ofTry fine, r, q⟩
end
end Vk
set_option Elab.async false
set_option maxRecDepth 100000
set_option maxHeartbeats 4000000
set_option linter.all false
namespace Vk
open PySem PySem.Spec PyProof.Rows L2
/-! ## x[::-1], x a text -/
theorem back_idx (n : Nat) : Builtin.Str.strSliceIndices none none (-1) n = (List.range n).reverse := by
  rw [← PySem.W.krv_range, ← PySem.W.krv_sliceRange]
  rfl
/-- read from the end -/
def backS (z : Str) : Str := ⟨z.cps.toList.reverse.toArray⟩
def tRevS (te : TE) : TE := fun σ H Q => te σ H fun x H1 => ∃ z, x = .str z ∧ z.length ≤ sizeLine ∧ Q (.str (backS z)) H1
theorem pe_revS {X : Cx} {e : Expr} {te : TE} {k : Nat} {p1 p2 p3 pos : Pos} (he : PE X e te) : PE X (.Subscript e (.Slice none none (some (.UnaryOp .USub (.Constant (.int 1) k p1) p2)) p3) pos) (tRevS te) := by
  refine ⟨fun pins s σ H Q I h => ?_⟩
  refine Subscript_ (thn (he.run pins s σ H _ I h) fun v s1 ⟨x, H1, I1, r1, q1⟩ => ?_)
  obtain ⟨z, rfl, hz, q⟩ := q1
  obtain ⟨t, rfl⟩ := r1
  have step : PO X (some (.UnaryOp .USub (.Constant (.int 1) k p1) p2)) (tPart (tUn (rU fun i => .int (-i)) (tC (.int 1)))) := po_some (pe_un un_neg pe_int)
  refine wpAny_Slice (thn (po_none.run pins s1 σ H1 (fun o H2 => o = none ∧ H2 = H1) I1 ⟨rfl, rfl⟩) fun vl s2 ⟨l, H2, I2, pl, el, e2⟩ => ?_)
  subst el e2
  refine thn (po_none.run pins s2 σ H2 (fun o H3 => o = none ∧ H3 = H2) I2 ⟨rfl, rfl⟩) fun vu s3 ⟨u, H3, I3, pu, eu, e3⟩ => ?_
  subst eu e3
  refine thn (step.run pins s3 σ H3 (fun o H4 => o = some (-1) ∧ H4 = H3) I3 ⟨1, rfl, -1, rfl, rfl, rfl⟩) fun vs s4 ⟨o, H4, I4, ps, eo, e4⟩ => ?_
  subst eo e4
  have I5 : Inv X pins σ H4 { s4 with heap := s4.heap.push { cls := .type "slice", data := .fields #[vl, vu, vs] } } := I4.kept (t' := s4.toks) fun b ob q => Heap.get?_push_of_some _ q
  obtain ⟨pl1, rfl, el⟩ := IsPart.raw pl
  obtain ⟨pu1, rfl, eu⟩ := IsPart.raw pu
  obtain ⟨ps1, rfl, es⟩ := IsPart.raw ps
  match pl1, pu1, ps1, el, eu, es with
  | none, none, some (m, tm), _, _, es =>
    have em : m = -1 := Option.some.inj es
    subst em
    refine tail_any (ops := [.str z t, .ref s4.heap.objs.size]) (typeIs_str _ _ _) F.slot_str_getitem.lookup ?_ (by with_unfolding_all rfl)
    refine wpAny_getItem_str_slice (l := none) (u := none) (st := some (-1, tm)) ⟨_, Heap.get?_push_size _ rfl, rfl, rfl⟩ rfl ?_
    have e : (⟨((Builtin.Str.strSliceIndices none none (-1) z.length).filterMap (z.cps[·]?)).toArray⟩ : Str) = backS z := by
      rw [back_idx, List.filterMap_reverse]
      unfold backS
      exact congrArg (fun l : List Nat => (⟨l.reverse.toArray⟩ : Str)) (PySem.W.krv_all z.cps)
    show Made.post (Made.str ⟨((Builtin.Str.strSliceIndices none none (-1) z.length).filterMap (z.cps[·]?)).toArray⟩) (EP X pins σ Q) _
    rw [e]
    have hl : (backS z).length ≤ sizeLine := by
      show (z.cps.toList.reverse.toArray).size ≤ sizeLine
      rw [List.size_toArray, List.length_reverse, Array.length_toList]
      exact hz
    exact ⟨hl, .str _, H4, I5.tok _, ⟨_, rfl⟩, q⟩
end Vk
set_option Elab.async false
set_option maxRecDepth 100000
set_option maxHeartbeats 4000000
set_option linter.all false
namespace Vk
open PySem PySem.Spec PyProof.Rows L2 HT
/-! ## t[::-1], t a tuple -/
section
variable {prog : Program} {w : World} {A : Around} {E : Value → Shared → Prop} {s : Shared}
theorem places_back (n : Nat) : Builtin.Slice.slicePlaces ((n : Int) - 1) (-1) (-1) = n := by
  unfold Builtin.Slice.slicePlaces
  rw [if_neg (by omega : ¬ ((-1 : Int) > 0))]
  show (if ((n : Int) - 1 > -1) then ((n : Int) - 1 - -1 - 1) / (1 : Int) + 1 else 0).toNat = n
  rw [Int.ediv_one]
  split <;> omega
theorem sliceApplied_back {sl : Addr} {t : Tok} {n : Nat} {Q : Int × Int × Nat → Shared → Prop} (hs : s.heap.IsSliceOf sl .none .none (.int (-1) t)) (h : Q ((n : Int) - 1, -1, n) s) :
    wpAny (model prog w) A (Builtin.Slice.sliceApplied (.ref sl) (pure (n : Int))) Q E s := by
  obtain ⟨os, hos, hcs, hds⟩ := id hs
  unfold Builtin.Slice.sliceApplied Builtin.Slice.sliceFields
  refine wpAny_bind (wpAny_bind (wpAny_field hos hds (x := .none) rfl (wpAny_bind (wpAny_field hos hds (x := .none) rfl (wpAny_bind (wpAny_field hos hds (x := .int (-1) t) rfl (wpAny_pure ?_)))))))
  refine wpAny_bind (slicePart_int ?_)
  show wpAny _ _ (if ((-1 : Int) == 0) = true then _ else _) _ _ s
  rw [if_neg (by decide)]
  refine wpAny_bind (slicePart_none (wpAny_bind (slicePart_none (wpAny_bind (wpAny_pure ?_)))))
  show wpAny _ _ (pure ((n : Int) - 1, (-1 : Int), Builtin.Slice.slicePlaces ((n : Int) - 1) (-1) (-1))) _ _ s
  rw [places_back]
  exact wpAny_pure h
theorem pick_back (xs : Array Value) : ((List.range xs.size).filterMap fun (m : Nat) => xs[((xs.size : Int) - 1 + (m : Int) * -1).toNat]?).toArray = xs.toList.reverse.toArray := by
  have e : ((List.range xs.size).filterMap fun (m : Nat) => xs[((xs.size : Int) - 1 + (m : Int) * -1).toNat]?) = (List.range xs.size).reverse.filterMap (xs[·]?) := by
    rw [← PySem.W.krv_range, List.filterMap_map]
    have q : ∀ l : List Nat, (∀ m ∈ l, m < xs.size) → l.filterMap (fun (m : Nat) => xs[((xs.size : Int) - 1 + (m : Int) * -1).toNat]?) = l.filterMap ((fun x => xs[x]?) ∘ fun k => xs.size - 1 - k) := by
      intro l
      induction l with
      | nil => intro _; rfl
      | cons m l ih =>
        intro hl
        have hm := hl m List.mem_cons_self
        have e1 : ((xs.size : Int) - 1 + (m : Int) * -1).toNat = xs.size - 1 - m := by omega
        rw [List.filterMap_cons, List.filterMap_cons, ih fun k hk => hl k (List.mem_cons_of_mem _ hk)]
        simp only [Function.comp, e1]
    exact q _ fun m hm => List.mem_range.mp hm
  rw [e, List.filterMap_reverse, PySem.W.krv_all]
theorem getItem_tuple_back {t sl : Addr} {tk : Tok} {items : Array Value} {Q : Value → Shared → Prop} (ht : IsTup s.heap t items) (hs : s.heap.IsSliceOf sl .none .none (.int (-1) tk))
    (h : Q (.ref s.heap.objs.size) { s with heap := s.heap.push { cls := .type "tuple", data := .seq items.toList.reverse.toArray } })
    (hsz : items.size ≤ sizeLine) : wpAny (model prog w) A (getItem (.ref t) (.ref sl)) Q E s := by
  have htake : sizeOk (.seq items.toList.reverse.toArray) := by
    show items.toList.reverse.toArray.size ≤ sizeLine
    rw [List.size_toArray, List.length_reverse, Array.length_toList]
    exact hsz
  obtain ⟨os, hos, hcs, hds⟩ := id hs
  have hTs : s.TypeIs (.ref sl) "slice" := ⟨os, hos, hcs⟩
  unfold getItem
  try with_reducible refine wpAny_holding ?_
  first | refine wpAny_bind (wpAny_pure ?_) | skip
  refine wpAny_bind (wpAny_sequenceKey ht.typeIs (by decide) ?_)
  refine wpAny_bind (wpAny_callSpecial?_slot (name := Str.ofString "__getitem__") ht.typeIs PyProof.Rows.slot_tuple_getitem
    (wpAny_call_entry PyProof.Rows.slot_tuple_getitem ht.typeIs entry_tuple_getitem ?_ (args_tuple_getitem _ _)))
  show wpAny _ _ (Builtin.Tuple.tupleItemsOf (.ref t) >>= _) _ _ s
  refine wpAny_bind (tupleItemsOf_ ht ?_)
  refine wpAny_bind (wpAny_typeOf hTs ?_)
  rw [if_pos (by decide)]
  refine wpAny_bind (sliceApplied_back hs ?_)
  have hno : ¬ ((((items.size : Int) - 1) == 0 && (-1 : Int) == 1 && items.size == items.size) = true) := by
    intro q
    rw [Bool.and_eq_true, Bool.and_eq_true] at q
    exact absurd q.1.2 (by decide)
  show wpAny _ _ (if ((((items.size : Int) - 1) == 0 && (-1 : Int) == 1 && items.size == items.size) = true) then _ else _) _ _ s
  rw [if_neg hno, pick_back]
  first
    | exact wpAny_bind (m := Builtin.Tuple.tupleExact _) (wpAny_newObj_type (wpAny_pure ⟨_, rfl, wpAny_pure h⟩) htake)
    | exact wpAny_bind (m := Builtin.Tuple.tupleExact _) (wpAny_newObj_type (wpAny_bind (wpAny_pure (wpAny_pure ⟨_, rfl, wpAny_pure h⟩))) htake)
    | exact wpAny_bind (wpAny_bind (m := Builtin.Tuple.tupleExact _) (wpAny_newObj_type (wpAny_pure (wpAny_pure ⟨_, rfl, wpAny_pure h⟩)) htake))
    | exact wpAny_bind (wpAny_bind (m := Builtin.Tuple.tupleExact _) (wpAny_newObj_type (wpAny_pure ⟨_, rfl, wpAny_pure h⟩) htake))
end
def tRevT (K : PySem.W.Frag) (te : TE) : TE := fun σ H Q => te σ H fun x H1 => ∃ a xs, x = .ref a ∧ SqT K H1 a xs ∧ xs.length ≤ sizeLine ∧ ∀ p, H1 p = none → Q (.ref p) (upd H1 p (.tup xs.reverse))
theorem vals_backT : ∀ {vs : List V} {ws : List Value}, Vals vs ws → Vals vs.reverse ws.reverse
  | _, _, .nil => .nil
  | _, _, .cons r t => by
    rw [List.reverse_cons, List.reverse_cons]
    exact (vals_backT t).append (.cons r .nil)
theorem pe_revT {X : Cx} {e : Expr} {te : TE} {k : Nat} {p1 p2 p3 pos : Pos} (he : PE X e te) : PE X (.Subscript e (.Slice none none (some (.UnaryOp .USub (.Constant (.int 1) k p1) p2)) p3) pos) (tRevT X.K te) := by
  refine ⟨fun pins s σ H Q I h => ?_⟩
  refine Subscript_ (thn (he.run pins s σ H _ I h) fun v s1 ⟨x, H1, I1, r1, q1⟩ => ?_)
  obtain ⟨a, xs, rfl, ha, hz, q⟩ := q1
  cases r1
  have step : PO X (some (.UnaryOp .USub (.Constant (.int 1) k p1) p2)) (tPart (tUn (rU fun i => .int (-i)) (tC (.int 1)))) := po_some (pe_un un_neg pe_int)
  refine wpAny_Slice (thn (po_none.run pins s1 σ H1 (fun o H2 => o = none ∧ H2 = H1) I1 ⟨rfl, rfl⟩) fun vl s2 ⟨l, H2, I2, pl, el, e2⟩ => ?_)
  subst el e2
  refine thn (po_none.run pins s2 σ H2 (fun o H3 => o = none ∧ H3 = H2) I2 ⟨rfl, rfl⟩) fun vu s3 ⟨u, H3, I3, pu, eu, e3⟩ => ?_
  subst eu e3
  refine thn (step.run pins s3 σ H3 (fun o H4 => o = some (-1) ∧ H4 = H3) I3 ⟨1, rfl, -1, rfl, rfl, rfl⟩) fun vs s4 ⟨o, H4, I4, ps, eo, e4⟩ => ?_
  subst eo e4
  have I5 : Inv X pins σ H4 { s4 with heap := s4.heap.push { cls := .type "slice", data := .fields #[vl, vu, vs] } } := I4.kept (t' := s4.toks) fun b ob q => Heap.get?_push_of_some _ q
  cases pl
  cases pu
  cases ps with
  | int i t =>
  obtain ⟨its, r2, p2, hz2⟩ := I5.tuple ha
  refine tail_any (ops := [.ref a, .ref s4.heap.objs.size]) p2.typeIs PyProof.Rows.slot_tuple_getitem.lookup ?_ (by with_unfolding_all rfl)
  refine getItem_tuple_back (tk := t) p2 ⟨_, Heap.get?_push_size _ rfl, rfl, rfl⟩ ?_ (by rw [List.size_toArray, ← r2.length]; exact hz)
  refine ⟨.ref _, _, I5.laid (t' := s4.toks) (o := .tup xs.reverse) (fun b ob q => Heap.get?_push_of_some _ q) (Nat.le_refl _) ?_, rfl, q _ (I5.hok.fresh (Nat.le_refl _))⟩
  refine ⟨by rw [List.length_reverse]; exact hz, its.reverse, vals_backT r2, ?_⟩
  exact IsTup.new _ _
end Vk
set_option Elab.async false
set_option maxRecDepth 100000
set_option maxHeartbeats 4000000
set_option linter.all false
namespace Vk
open PySem PySem.Spec PyProof.Rows L2 LamX
/-! ## things: a value, or a list or a tuple of values -/
inductive Tg (H : Hp) : V → PyData → Prop
  | one {v : V} {d : PyData} : Th H v d → (∀ ds, d ≠ .tuple ds) → Tg H v d
  | lst {a : Addr} {vs : List V} {ds : List PyData} : H a = some (.lst vs) → Paired (Th H) vs ds → Tg H (.ref a) (.list ds)
  | tup {a : Addr} {vs : List V} {ds : List PyData} : H a = some (.tup vs) → Paired (Th H) vs ds → Tg H (.ref a) (.tuple ds)
theorem atms_ths {H : Hp} : ∀ {vs : List V} {ds : List PyData}, Paired Atm vs ds → Paired (Th H) vs ds
  | _, _, .nil => .nil
  | _, _, .cons a t => .cons (.atm a) (atms_ths t)
theorem Th.tg {H : Hp} {v : V} {d : PyData} (h : Th H v d) : Tg H v d := by
  cases h with
  | atm a => exact .one (.atm a) (fun ds z => by cases a <;> cases z)
  | lst e n p => exact .one (.lst e n p) (fun ds z => by cases z)
  | tup e p => exact .tup e (atms_ths p)
  | dct e => exact .one (.dct e) (fun ds z => by cases z)
theorem Tg.keep {H H' : Hp} {v : V} {d : PyData} (h : Tg H v d) (s : Same H H') : Tg H' v d := by
  cases h with
  | one th n => exact .one (th.keep s) n
  | lst e p => exact .lst (s _ _ e) (ths_keep s p)
  | tup e p => exact .tup (s _ _ e) (ths_keep s p)
theorem ths_ext {H H' : Hp} {p c : Addr} {T : Nat} (hp : Pen H p c T) (x : Ext p H H') : ∀ {vs : List V} {ds : List PyData}, Paired (Th H) vs ds → Paired (Th H') vs ds
  | _, _, .nil => .nil
  | _, _, .cons a t => .cons (a.ext hp x) (ths_ext hp x t)
theorem Tg.ext {H H' : Hp} {p c : Addr} {T : Nat} {v : V} {d : PyData} (h : Tg H v d) (hp : Pen H p c T) (x : Ext p H H') : Tg H' v d := by
  have ne : ∀ {a o}, H a = some o → (∀ k, o ≠ .dK k) → H' a = some o := fun {a o} e n => x _ _ e fun z => by
    obtain ⟨t, l, hl⟩ := hp.is
    rw [z, hl] at e
    exact n _ (Option.some.inj e).symm
  cases h with
  | one th n => exact .one (th.ext hp x) n
  | lst e p => exact .lst (ne e fun _ z => nomatch z) (ths_ext hp x p)
  | tup e p => exact .tup (ne e fun _ z => nomatch z) (ths_ext hp x p)
theorem call_reprG {X : Cx} (sm : SM X.base) (hg : X.A.guards = some []) (hu : X.A.units + 64 < cLine) : CallR X (.builtin "repr") (fun xs H Q => ∃ x d, xs = [x] ∧ Tg H x d ∧ Shn d ∧ Q (.str d.shown) H) := by
  intro pins s σ H xs us Q I r h
  obtain ⟨x, d, rfl, tg, sh, k⟩ := h
  cases tg with
  | one th n => exact call_reprT hg hu pins s σ H _ us Q I r ⟨x, d, rfl, .inl th, sh.1, sh.2.1, sh.2.2, k⟩
  | lst e p => exact call_reprM sm hg hu pins s σ H _ us Q I r ⟨_, _, rfl, ⟨_, _, _, rfl, p, .inl ⟨e, rfl⟩⟩, sh, k⟩
  | tup e p => exact call_reprM sm hg hu pins s σ H _ us Q I r ⟨_, _, rfl, ⟨_, _, _, rfl, p, .inr ⟨e, rfl⟩⟩, sh, k⟩
/-- the thing's kind -/
def isTupB : PyData → Bool
  | .tuple _ => true
  | _ => false
end Vk
set_option Elab.async false
set_option maxRecDepth 100000
set_option linter.all false
set_option maxHeartbeats 4000000
namespace Vk
open PySem PySem.Spec PyProof.Rows L2
section
variable {P : Program} {w : World} {K : PySem.W.Frag} {mg : Str → Option Value} {base : Heap}
theorem find_two {x w : Str} : (∃ z : Int, Txt.find x w = z ∧ ∃ y : Int, Txt.find3 x w (z + 1) = y ∧ (decide (0 ≤ y) = decide (2 ≤ (plc x w).length))) := by
  have nd := plc_asc x w
  have mem : ∀ i, StrLaws.At x w x.length i ↔ i ∈ plc x w := fun i => by
    unfold plc
    rw [List.mem_filter, List.mem_range, atB_iff]
    exact ⟨fun h => ⟨by have := h.1; omega, h⟩, fun h => h.2⟩
  have ef : ∀ i : Nat, Txt.find3 x w ((i : Nat) : Int) = (match Builtin.Str.occurrences x w i x.length 1 with | i :: _ => (i : Int) | [] => -1) := fun i => by
    unfold Txt.find3
    rw [show fromIndex x.length ((i : Nat) : Int) = i by unfold fromIndex; rw [if_neg (by omega)]; omega]
    cases Builtin.Str.occurrences x w i x.length 1 <;> rfl
  have key : ∀ i : Nat, i ≤ x.length + 1 → (Txt.find3 x w ((i : Nat) : Int) = -1 ∧ ∀ k, i ≤ k → ¬ StrLaws.At x w x.length k) ∨ ∃ j : Nat, Txt.find3 x w ((i : Nat) : Int) = (j : Int) ∧ i ≤ j ∧ StrLaws.At x w x.length j ∧ ∀ k, i ≤ k → k < j → ¬ StrLaws.At x w x.length k := fun i hi => by
    rw [ef]
    exact find_from x w i hi
  have f0 : (Txt.find x w = -1 ∧ ∀ k, 0 ≤ k → ¬ StrLaws.At x w x.length k) ∨ ∃ j : Nat, Txt.find x w = (j : Int) ∧ 0 ≤ j ∧ StrLaws.At x w x.length j ∧ ∀ k, 0 ≤ k → k < j → ¬ StrLaws.At x w x.length k := find_from x w 0 (Nat.zero_le _)
  refine ⟨_, rfl, _, rfl, ?_⟩
  rcases f0 with ⟨h1, h2⟩ | ⟨i, h1, h2, h3, h4⟩
  · have en : plc x w = [] := List.eq_nil_iff_forall_not_mem.mpr fun k hk => h2 k (Nat.zero_le _) ((mem k).mpr hk)
    have k0 := key 0 (Nat.zero_le _)
    rw [h1, en]
    rcases k0 with ⟨g1, _⟩ | ⟨j, _, _, g3, _⟩
    · rw [show ((-1 : Int) + 1) = ((0 : Nat) : Int) by rfl, g1]
      decide
    · exact absurd g3 (h2 j (Nat.zero_le _))
  · have il : i ≤ x.length := by have := h3.1; omega
    have hi := (mem i).mp h3
    rw [h1, show ((i : Int) + 1) = ((i + 1 : Nat) : Int) by omega, decide_eq_decide, two_of nd hi]
    rcases key (i + 1) (by omega) with ⟨g1, g2⟩ | ⟨j, g1, g2, g3, g4⟩
    · rw [g1]
      constructor
      · intro h; omega
      · rintro ⟨k, hk, hne⟩
        have hk2 := (mem k).mpr hk
        by_cases lt : k < i
        · exact absurd hk2 (h4 k (Nat.zero_le _) lt)
        · exact absurd hk2 (g2 k (by omega))
    · rw [g1]
      exact ⟨fun _ => ⟨j, (mem j).mp g3, by omega⟩, fun _ => by omega⟩
def spTwice : Sp := fun vs H Q _ => ∃ x w, vs = [.str x, .str w] ∧ Q (.bl (decide (2 ≤ (plc x w).length))) H
abbrev s_stands_twice : Stmt := top 40
theorem sc_stands_twice : FnScope ["text", "word"] ["text", "word"] (defScope s_stands_twice) := ⟨rfl, rfl, rfl, by decide +kernel, rfl, by decide +kernel, by decide +kernel⟩
theorem b_stands_twice {f : Addr} {fd : FuncData} (F : Fun K "stands_twice" "stands_twice" s_stands_twice f fd) (T : Txt mg) : FnG P w K mg base CX0 1 f fd ["text", "word"] spTwice := by
  refine okG0 F sc_stands_twice (fun vs H Q E h => ?_) (fun cdv A outer s H vs Q E hg hr h => ?_)
  · obtain ⟨x, w, rfl, _⟩ := h
    rfl
  · have hu := hu_of hr
    have hu64 := hr.units
    obtain ⟨x, w, rfl, k⟩ := h
    refine ⟨_, (pss_one (ps_ret (pe_cmpR op_ge (pe_bm PySem.F.plainAttrs_str PySem.F.slot_str_find PySem.F.type_str_find mt_find3 (pv 0) (pa_cons (pv 1) (pa_cons (pe_op op_add (pe_bm PySem.F.plainAttrs_str PySem.F.slot_str_find PySem.F.type_str_find mt_find (pv 0) (pa_cons (pv 1) pa_nil)) pe_int) pa_nil))) pe_int (nomark _)))), ?_⟩
    obtain ⟨z, e1, y, e2, e3⟩ := @find_two x w
    refine ⟨_, rfl, rfl, _, rfl, _, rfl, rfl, _, rfl, x, w, rfl, rfl, ?_⟩
    rw [e1]
    refine ⟨_, _, rfl, rfl, x, w, _, rfl, rfl, ?_⟩
    rw [e2]
    refine ⟨_, _, rfl, rfl, ?_⟩
    show Q (V.bl (decide (0 ≤ y))) H
    rw [e3]
    exact k

def spOnce : Sp := fun vs H Q _ => ∃ x w, vs = [.str x, .str w] ∧ Q (.bl (decide ((plc x w).length = 1))) H
theorem in_plc {x w : Str} : (!(Builtin.Str.occurrences x w 0 x.length 1).isEmpty) = decide (1 ≤ (plc x w).length) := by
  rw [Bool.eq_iff_iff, PySem.StrLaws.found_iff, decide_eq_true_eq]
  constructor
  · rintro ⟨i, h1, h2⟩
    refine List.length_pos_of_mem (a := i) ?_
    unfold plc atB
    rw [List.mem_filter, List.mem_range, Bool.and_eq_true, decide_eq_true_eq]
    exact ⟨by omega, h1, h2⟩
  · intro h
    obtain ⟨i, hi⟩ := List.exists_mem_of_length_pos h
    unfold plc atB at hi
    rw [List.mem_filter, List.mem_range, Bool.and_eq_true, decide_eq_true_eq] at hi
    exact ⟨i, hi.2.1, hi.2.2⟩
abbrev s_stands_once : Stmt := top 41
theorem sc_stands_once : FnScope ["text", "word"] ["text", "word"] (defScope s_stands_once) := ⟨rfl, rfl, rfl, by decide +kernel, rfl, by decide +kernel, by decide +kernel⟩
theorem b_stands_once {f : Addr} {fd : FuncData} (F : Fun K "stands_once" "stands_once" s_stands_once f fd) (T : Txt mg) (c_stands_twice : CalG P w K mg base CX0 1 "stands_twice" spTwice) : FnG P w K mg base CX0 2 f fd ["text", "word"] spOnce := by
  refine okG0 F sc_stands_once (fun vs H Q E h => ?_) (fun cdv A outer s H vs Q E hg hr h => ?_)
  · obtain ⟨x, w, rfl, _⟩ := h
    rfl
  · have hu := hu_of hr
    have hu64 := hr.units
    obtain ⟨x, w, rfl, k⟩ := h
    have hr1 : Room 1 _ := hr
    refine ⟨_, (pss_one (ps_ret (pe_and (pe_cmpR op_in_str (pv 1) (pv 0) (by rfl)) (pe_one (pe_not (pe_cG c_stands_twice hg hr (by decide) pass0 (pa_cons (pv 0) (pa_cons (pv 1) pa_nil)))))))), ?_⟩
    refine ⟨_, rfl, _, rfl, w, x, rfl, rfl, _, rfl, ?_⟩
    rw [in_plc]
    by_cases c : 1 ≤ (plc x w).length
    · rw [decide_eq_true c]
      refine iteT ?_
      refine ⟨_, rfl, _, rfl, x, w, rfl, _, rfl, ?_⟩
      have e : (!decide (2 ≤ (plc x w).length)) = decide ((plc x w).length = 1) := by
        rw [← decide_not]
        exact decide_eq_decide.mpr (by omega)
      rw [e]
      exact k
    · rw [decide_eq_false c]
      refine iteF ?_
      rw [decide_eq_false (show ¬ (plc x w).length = 1 by omega)] at k
      exact k

theorem inI_int {d : PyData} {lo hi : Int} (h : inI d lo hi = true) : ∃ i, d = .int i ∧ lo ≤ i ∧ i ≤ hi := by
  cases d with
  | int i =>
    have h : (decide (lo ≤ i) && decide (i ≤ hi)) = true := h
    rw [Bool.and_eq_true, decide_eq_true_eq, decide_eq_true_eq] at h
    exact ⟨i, rfl, h.1, h.2⟩
  | _ => cases h
theorem th_int {H : Hp} {v : V} {i : Int} (h : Th H v (.int i)) : v = .int i := by
  cases h with
  | atm a => cases a; rfl
def spCkSpot (CS : Addr) : Sp := fun vs H Q E => ∃ x v1 d1 v2 d2, vs = [.str x, v1, v2] ∧ Th H v1 d1 ∧ Th H v2 d2 ∧ x.length ≤ 100 ∧ (inI d1 0 x.length = false → ∀ d, H d = none → E (.ref CS) (some d) (upd H d (.xd [(("value" : Str), v1)]))) ∧
  (∀ i, d1 = .int i → 0 ≤ i → i ≤ x.length → inI d2 i x.length = false → ∀ d, H d = none → E (.ref CS) (some d) (upd H d (.xd [(("value" : Str), v2)]))) ∧ (∀ i j, d1 = .int i → d2 = .int j → 0 ≤ i → i ≤ j → j ≤ x.length → Q .non H)
abbrev s_check_spot : Stmt := top 39
theorem sc_check_spot : FnScope ["text", "first", "last"] ["text", "first", "last"] (defScope s_check_spot) := ⟨rfl, rfl, rfl, by decide +kernel, rfl, by decide +kernel, by decide +kernel⟩
theorem b_check_spot {f : Addr} {fd : FuncData} (F : Fun K "check_spot" "check_spot" s_check_spot f fd) (T : Txt mg) (c_is_integer_in : CalG P w K mg base CX0 2 "is_integer_in" spInI) {C_InvalidSpot : Addr} (c_InvalidSpot : ClsI P w K mg base 1 "InvalidSpot" C_InvalidSpot ["value"]) : FnG P w K mg base (L2.CX P w) 3 f fd ["text", "first", "last"] (spCkSpot C_InvalidSpot) := by
  refine okG F sc_check_spot (fun vs H Q E h => ?_) (fun cdv A outer s H vs Q E hg hr h => ?_)
  · obtain ⟨x, v1, d1, v2, d2, rfl, _⟩ := h
    rfl
  · have hu := hu_of hr
    have hu64 := hr.units
    obtain ⟨x, v1, d1, v2, d2, rfl, t1, t2, hx, k1, k2, k3⟩ := h
    have xl : x.length ≤ sizeLine := Nat.le_of_lt (fewL (by omega))
    refine ⟨_, (pss_cons (ps_if (pt_not (pt_val (pe_cG c_is_integer_in hg hr (by decide) pass0 (pa_cons (pv 1) (pa_cons pe_int (pa_cons (pe_callB call_len (by rfl) T.len (by decide +kernel) (pa_cons (pv 0) pa_nil)) pa_nil)))))) (pss_one (ps_raise rfl (takes_of rfl rfl rfl rfl) (pmk_k c_InvalidSpot hg hr (by decide) pass0 (pa_cons (pv 1) pa_nil)))) pss_nil)
      (pss_one (ps_if (pt_not (pt_val (pe_cG c_is_integer_in hg hr (by decide) pass0 (pa_cons (pv 2) (pa_cons (pv 1) (pa_cons (pe_callB call_len (by rfl) T.len (by decide +kernel) (pa_cons (pv 0) pa_nil)) pa_nil)))))) (pss_one (ps_raise rfl (takes_of rfl rfl rfl rfl) (pmk_k c_InvalidSpot hg hr (by decide) pass0 (pa_cons (pv 2) pa_nil)))) pss_nil))), ?_⟩
    refine ⟨_, rfl, _, rfl, _, _, rfl, ⟨xl, rfl⟩, v1, d1, _, _, rfl, t1, _, rfl, ?_⟩
    cases h1 : inI d1 0 x.length with
    | false => exact iteT ⟨_, rfl, rfl, fun d hd => k1 h1 d hd⟩
    | true =>
      obtain ⟨i, rfl, i0, i1⟩ := inI_int h1
      cases th_int t1
      refine iteF ⟨_, rfl, _, rfl, _, rfl, _, _, rfl, ⟨xl, rfl⟩, v2, d2, _, _, rfl, t2, _, rfl, ?_⟩
      cases h2 : inI d2 i x.length with
      | false => exact iteT ⟨_, rfl, rfl, fun d hd => k2 i rfl i0 i1 h2 d hd⟩
      | true =>
        obtain ⟨j, rfl, j0, j1⟩ := inI_int h2
        exact iteF (k3 i j rfl rfl i0 j0 j1)

end
end Vk
set_option Elab.async false
set_option maxRecDepth 100000
set_option linter.all false
set_option maxHeartbeats 4000000
namespace Vk
open PySem PySem.Spec PyProof.Rows L2
section
variable {P : Program} {w : World} {K : PySem.W.Frag} {mg : Str → Option Value} {base : Heap}
abbrev Ltr (x : Str) : Prop := ∀ c ∈ x.cps.toList, c ∈ letS.cps.toList
theorem lt_ok {x : Str} (h : Ltr x) : PyData.strOk x = true := ok_letters h
theorem lt_word {z x : Str} {a b : Nat} (fz : Few z) (w : Word z a b x) : Ltr x := fun c hc => fz.2.2 c (w.2.2 c hc)
theorem lt_one {z : Str} {c : Nat} (fz : Few z) (h : c ∈ z.cps.toList) : Ltr (⟨#[c]⟩ : Str) := fun d hd => by
  have e : d ∈ [c] := hd
  rw [List.mem_singleton.mp e]
  exact fz.2.2 c h
theorem cutS_lt {x : Str} (h : Ltr x) (a b : Option Int) : Ltr (cutS x a b) := fun c hc => by
  have hc2 : c ∈ (List.toArray ((x.cps.toList.drop (HT.sIx x.length 0 a)).take (HT.sIx x.length x.length b - HT.sIx x.length 0 a))).toList := hc
  rw [List.toList_toArray] at hc2
  exact h c (List.mem_of_mem_drop (List.mem_of_mem_take hc2))
theorem lt_more {z y : Str} (h1 : Ltr z) (h2 : Ltr y) : Ltr (z ++ y) := fun c hc => by
  rw [more_list] at hc
  rcases List.mem_append.mp hc with h | h
  · exact h1 c h
  · exact h2 c h
theorem lt_none : Ltr "" := by decide +kernel
abbrev s_ldraw : Stmt := top 50
theorem sc_ldraw : FnScope ["_law_pen_here", "_law_many", "_law_digit", "_law_turn", "_law_cell", "_law_primes", "_law_prime", "_law_drawn"] ["_law_pen_here", "_law_many"] (defScope s_ldraw) := ⟨rfl, rfl, rfl, by decide +kernel, rfl, by decide +kernel, by decide +kernel⟩
theorem b_ldraw {f : Addr} {fd : FuncData} (F : Fun K "_law_draw" "_law_draw" s_ldraw f fd) (T : Txt mg) : FnG P w K mg base CX0 1 f fd ["_law_pen_here", "_law_many"] spDraw := by
  refine okG0 F sc_ldraw (fun vs H Q E h => ?_) (fun cdv A outer s H vs Q E hg hr h => ?_)
  · obtain ⟨p, c, m, T0, rfl, _⟩ := h
    rfl
  · have hu := hu_of hr
    have hu64 := hr.units
    obtain ⟨p, c, m, T0, rfl, m0, m1, ⟨ns, t, l, hp, hc, hn, t0, tT, l0⟩, hT, k⟩ := h
    have ncp : c ≠ p := ne_of hc hp (by intro z; cases z)
    have lenns : (ns.map V.int).length = ns.length := List.length_map _
    refine ⟨_, (pss_cons (ps_if (pt_cmpR op_gt (pe_dget hu (pv 0) pe_str (fun _ _ => rfl)) pe_int (nomark _)) (pss_cons (ps_set (i := 2) sc_ldraw.nd rfl (Or.inl rfl) (pe_op op_mod (pe_callTy call_int1 (by rfl) T.int (by decide +kernel) (pa_cons (pe_dget hu (pv 0) pe_str (fun _ _ => rfl)) pa_nil)) (pv 1)))
      (pss_cons (ps_dput hu (pv 0) pe_str (pe_op op_fdiv (pe_dget hu (pv 0) pe_str (fun _ _ => rfl)) (pv 1)) rfl)
      (pss_one (ps_ret (pv 2))))) pss_nil)
      (pss_cons (ps_set (i := 3) sc_ldraw.nd rfl (Or.inl rfl) (pe_dget hu (pv 0) pe_str (fun _ _ => rfl)))
      (pss_cons (ps_dput hu (pv 0) pe_str (pe_op op_add (pv 3) pe_int) rfl)
      (pss_cons (ps_set (i := 4) sc_ldraw.nd rfl (Or.inl rfl) (pe_op op_add (pe_op op_mul pe_int (pv 3)) pe_int))
      (C8.pss_cut (ps_if (pt_cmpR (op_neD hu64) (pe_dget hu (pv 0) pe_str (fun _ _ => rfl)) (pe_lst pa_nil) (nomark _)) (pss_one (ps_set (i := 4) sc_ldraw.nd rfl (Or.inl rfl) (pe_ix ix_seq (pe_dget hu (pv 0) pe_str (fun _ _ => rfl)) (pe_op op_mod (pe_callTy call_int1 (by rfl) T.int (by decide +kernel) (pa_cons (pv 3) pa_nil)) (pe_callB call_len (by rfl) T.len (by decide +kernel) (pa_cons (pe_dget hu (pv 0) pe_str (fun _ _ => rfl)) pa_nil))) (fun _ _ => rfl)))) pss_nil)
      (C8.pss_cut (ps_if (PW.pt (pw_and (pt_cmpR op_lt (pv 3) (pe_callB call_len (by rfl) T.len (by decide +kernel) (pa_cons (pe_dget hu (pv 0) pe_str (fun _ _ => rfl)) pa_nil)) (nomark _)) (pw_and1 (pt_cmpR op_ge (pe_callB call_abs (by rfl) T.abs (by decide +kernel) (pa_cons (pv 4) pa_nil)) (pe_op op_pow pe_int pe_int) (nomark _))))) (pss_cons (ps_dput hu (pv 0) pe_str (pe_op op_fdiv (pe_op op_sub (pe_callB call_abs (by rfl) T.abs (by decide +kernel) (pa_cons (pv 4) pa_nil)) (pe_op op_pow pe_int pe_int)) (pv 1)) rfl)
      (pss_one (ps_ret (pe_op op_mod (pe_op op_sub (pe_callB call_abs (by rfl) T.abs (by decide +kernel) (pa_cons (pv 4) pa_nil)) (pe_op op_pow pe_int pe_int)) (pv 1))))) pss_nil)
      (pss_cons (ps_set (i := 5) sc_ldraw.nd rfl (Or.inl rfl) (pe_lst (pa_cons pe_int (pa_cons pe_int (pa_cons pe_int (pa_cons pe_int (pa_cons pe_int pa_nil)))))))
      (pss_cons (ps_set (i := 6) sc_ldraw.nd rfl (Or.inl rfl) (pe_ix ix_seq (pv 5) (pe_op op_mod (pe_callTy call_int1 (by rfl) T.int (by decide +kernel) (pa_cons (pv 3) pa_nil)) pe_int) (fun _ _ => rfl)))
      (pss_cons (ps_set (i := 7) sc_ldraw.nd rfl (Or.inl rfl) (pe_op op_mod (pe_callTy call_int1 (by rfl) T.int (by decide +kernel) (pa_cons (pe_op op_add (pe_op op_add (pe_op op_mul (pe_op op_mod (pe_callTy call_int1 (by rfl) T.int (by decide +kernel) (pa_cons (pv 4) pa_nil)) (pv 6)) pe_int) (pe_op op_mul (pv 3) (pe_op op_add (pe_op op_mul pe_int (pv 3)) pe_int))) pe_int) pa_nil)) (pv 6)))
      (pss_cons (ps_set (i := 7) sc_ldraw.nd rfl (Or.inl rfl) (pe_op op_mod (pe_callTy call_int1 (by rfl) T.int (by decide +kernel) (pa_cons (pe_op op_mul (pv 7) (pe_op op_add (pv 7) pe_int)) pa_nil)) (pe_ix ix_seq (pv 5) (pe_op op_mod (pe_callTy call_int1 (by rfl) T.int (by decide +kernel) (pa_cons (pe_op op_add (pv 3) pe_int) pa_nil)) pe_int) (fun _ _ => rfl))))
      (pss_one (ps_ret (pe_op op_mod (pe_callTy call_int1 (by rfl) T.int (by decide +kernel) (pa_cons (pe_op op_fdiv (pe_op op_mod (pe_callTy call_int1 (by rfl) T.int (by decide +kernel) (pa_cons (pe_op op_add (pe_op op_add (pe_op op_mul (pv 7) (pv 7)) (pe_op op_mul pe_int (pv 7))) (pv 3)) pa_nil)) pe_int) pe_int) pa_nil)) (pv 1)))))))))))))), ?_⟩
    refine ⟨_, rfl, p, _, rfl, get_left hp, _, _, rfl, rfl, _, rfl, ?_⟩
    refine ite2 (fun hl => ?_) (fun hl => ?_)
    · refine ⟨_, rfl, p, _, rfl, get_left hp, .inl ⟨_, rfl, ?_⟩⟩
      refine ⟨_, rfl, _, _, rfl, rfl, m0, ?_⟩
      refine ⟨_, rfl, p, _, rfl, get_left hp, _, rfl, _, _, rfl, rfl, ⟨by omega, by omega⟩, ?_⟩
      refine ⟨_, rfl, p, _, rfl, put_left hp, _, rfl, ?_⟩
      refine k _ _ (Int.emod_nonneg _ (by omega)) (Int.emod_lt_of_pos _ m0) ⟨ns, t, _, upd_same, (upd_ne ncp).trans hc, hn, t0, by omega, Int.ediv_nonneg l0 (by omega)⟩ Ext.at
    · refine ⟨_, rfl, p, _, rfl, get_turn hp, ?_⟩
      refine ⟨_, rfl, _, _, rfl, rfl, _, rfl, p, _, rfl, put_turn hp, ?_⟩
      generalize hH1 : upd H p (.dK (penL c (t + 1) l)) = H1
      have hp1 : H1 p = some (.dK (penL c (t + 1) l)) := by rw [← hH1]; exact upd_same
      have hc1 : H1 c = some (.lst (ns.map V.int)) := by rw [← hH1]; exact (upd_ne ncp).trans hc
      have e1 : Ext p H H1 := by rw [← hH1]; exact Ext.at
      refine ⟨_, rfl, _, _, rfl, rfl, .inl ⟨by decide, by decide⟩, _, _, rfl, rfl, ?_⟩
      refine ⟨fun σ' H2 => ∃ z : Int, σ' = [some (.ref p), some (.int m), none, some (.int t), some (.int z), none, none, none] ∧ H2 p = some (.dK (penL c (t + 1) l)) ∧ H2 c = some (.lst (ns.map V.int)) ∧ Ext p H H2, ?_, ?_⟩
      · refine ⟨_, rfl, p, _, rfl, get_cells hp1, by decide, fun b hb => ?_⟩
        have hp2 := up_new (u := .lst []) hp1 hb
        have hc2 := up_new (u := .lst []) hc1 hb
        refine ⟨.list (ns.map .int), .list [], .lst (SqL.of hc2) (ints_dp ns), .lst (SqL.of upd_same) .nil, ints_shaped ns, by decide +kernel, _, rfl, ?_⟩
        rw [ints_ne_nil]
        refine ite2 (fun hne => ?_) (fun _ => ?_)
        · have hpos : 0 < ns.length := by
            cases ns with
            | nil => simp at hne
            | cons a r => exact Nat.succ_pos _
          refine ⟨_, rfl, p, _, rfl, get_cells hp2, _, rfl, .inl ⟨_, rfl, _, rfl, p, _, rfl, get_cells hp2, _, _, rfl, .inl ⟨_, SqL.of hc2, rfl⟩, _, _, rfl, rfl, ?_, ?_⟩⟩
          · rw [lenns]; omega
          · obtain ⟨v, hv, hm⟩ := at_mod (xs := ns.map V.int) (i := t % ((ns.map V.int).length : Int)) (Int.emod_nonneg _ (by rw [lenns]; omega)) (Int.emod_lt_of_pos _ (by rw [lenns]; omega))
            obtain ⟨z, _, rfl⟩ := List.mem_map.mp hm
            refine .inl ⟨_, _, _, _, rfl, rfl, SqL.of hc2, hv, z, rfl, hp2, hc2, e1.set (e1.none_of ?_ hb)⟩
            exact (ne_of_none hp1 hb).symm
        · exact ⟨_, rfl, hp2, hc2, e1.set (e1.none_of (ne_of_none hp1 hb).symm hb)⟩
      · rintro σ2 H2 ⟨z, rfl, hp2, hc2, e2⟩
        refine ⟨fun σ' H3 => σ' = [some (.ref p), some (.int m), none, some (.int t), some (.int z), none, none, none] ∧ H3 = H2, ?_, ?_⟩
        · refine ⟨_, rfl, _, rfl, p, _, rfl, get_cells hp2, _, _, rfl, .inl ⟨_, SqL.of hc2, rfl⟩, _, _, rfl, rfl, _, rfl, ?_⟩
          refine ite2 (fun _ => ?_) (fun _ => ?_)
          · refine ⟨_, rfl, _, rfl, _, _, rfl, rfl, ⟨by decide, by decide, by decide⟩, _, _, rfl, rfl, _, rfl, ?_⟩
            refine ite2 (fun hbig => ?_) (fun _ => ?_)
            · have big := of_decide_eq_true hbig
              refine ⟨_, rfl, _, rfl, _, _, rfl, rfl, ⟨by decide, by decide, by decide⟩, _, _, rfl, rfl, _, rfl, _, _, rfl, rfl, ⟨by omega, by omega⟩, ?_⟩
              refine ⟨_, rfl, p, _, rfl, put_left hp2, ?_⟩
              refine ⟨_, rfl, _, rfl, _, _, rfl, rfl, ⟨by decide, by decide, by decide⟩, _, _, rfl, rfl, _, rfl, _, _, rfl, rfl, m0, ?_⟩
              refine k _ _ (Int.emod_nonneg _ (by omega)) (Int.emod_lt_of_pos _ m0) ⟨ns, t + 1, _, upd_same, (upd_ne ncp).trans hc2, hn, by omega, by omega, Int.ediv_nonneg (by omega) (by omega)⟩ (e2.trans Ext.at)
            · exact ⟨rfl, rfl⟩
          · exact ⟨rfl, rfl⟩
        · rintro σ3 H3 ⟨rfl, rfl⟩
          refine ⟨by decide, fun q hq => ?_⟩
          have hp3 := up_new (u := .lst (primes.map V.int)) hp2 hq
          have hc3 := up_new (u := .lst (primes.map V.int)) hc2 hq
          have e3 : Ext p H (upd H3 q (.lst (primes.map V.int))) := e2.set (e2.none_of (ne_of_none hp2 hq).symm hq)
          have hq3 : (upd H3 q (.lst (primes.map V.int))) q = some (.lst (primes.map V.int)) := upd_same
          have pick : ∀ i : Int, 0 ≤ i → i < 5 → ∃ z : Int, atI (primes.map V.int) i = some (.int z) ∧ 0 < z ∧ z < 2147483648 := fun i h0 h5 => by
            obtain ⟨v, hv, hm⟩ := at_mod (xs := primes.map V.int) h0 h5
            obtain ⟨z, rfl, hz⟩ := primes_in hm
            exact ⟨z, hv, hz⟩
          obtain ⟨a1, ha1, a1p, a1b⟩ := pick (t % 5) (Int.emod_nonneg _ (by decide)) (Int.emod_lt_of_pos _ (by decide))
          obtain ⟨a2, ha2, a2p, a2b⟩ := pick ((t + 2) % 5) (Int.emod_nonneg _ (by decide)) (Int.emod_lt_of_pos _ (by decide))
          refine ⟨_, rfl, _, rfl, .inl ⟨_, rfl, _, _, rfl, rfl, (by show (0 : Int) < 5; decide), .inl ⟨_, _, _, _, rfl, rfl, SqL.of hq3, ha1, ?_⟩⟩⟩
          have b1 := Int.emod_nonneg z (show a1 ≠ 0 by omega)
          have b2 := Int.emod_lt_of_pos z a1p
          refine ⟨_, rfl, .inl ⟨_, rfl, _, rfl, _, _, rfl, rfl, a1p, _, _, rfl, rfl, .inr ⟨by decide, by decide⟩, ?_⟩⟩
          refine ⟨_, rfl, _, rfl, _, _, rfl, rfl, .inl ⟨by decide, by decide⟩, _, _, rfl, rfl, _, _, rfl, rfl, .inl ⟨by omega, by omega⟩, _, _, rfl, rfl, _, _, rfl, rfl, .inl ⟨_, rfl, _, rfl, _, _, rfl, rfl, a1p, ?_⟩⟩
          have d1 := Int.emod_nonneg (z % a1 * 39373 + t * (30011 * t + 8117) + 23) (show a1 ≠ 0 by omega)
          have d2 := Int.emod_lt_of_pos (z % a1 * 39373 + t * (30011 * t + 8117) + 23) a1p
          refine ⟨_, rfl, _, rfl, _, _, rfl, rfl, _, _, rfl, rfl, .inl ⟨by omega, by omega⟩, .inl ⟨_, rfl, _, rfl, _, rfl, _, _, rfl, rfl, .inl ⟨_, rfl, _, _, rfl, rfl, (by show (0 : Int) < 5; decide), .inl ⟨_, _, _, _, rfl, rfl, SqL.of hq3, ha2, _, _, rfl, rfl, a2p, ?_⟩⟩⟩⟩
          have f1 := Int.emod_nonneg (((z % a1 * 39373 + t * (30011 * t + 8117) + 23) % a1) * (((z % a1 * 39373 + t * (30011 * t + 8117) + 23) % a1) + 69621)) (show a2 ≠ 0 by omega)
          have f2 := Int.emod_lt_of_pos (((z % a1 * 39373 + t * (30011 * t + 8117) + 23) % a1) * (((z % a1 * 39373 + t * (30011 * t + 8117) + 23) % a1) + 69621)) a2p
          refine ⟨_, rfl, _, rfl, _, _, rfl, rfl, .inl ⟨by omega, by omega⟩, _, rfl, _, _, rfl, rfl, .inl ⟨by decide, by decide⟩, _, _, rfl, rfl, _, rfl, _, _, rfl, rfl, .inl ⟨_, rfl, _, _, rfl, rfl, (by show (0 : Int) < 2147483549; decide), _, _, rfl, rfl, ⟨by decide, by decide⟩, .inl ⟨_, rfl, _, rfl, _, _, rfl, rfl, m0, ?_⟩⟩⟩
          exact k _ _ (Int.emod_nonneg _ (by omega)) (Int.emod_lt_of_pos _ m0) ⟨ns, t + 1, l, hp3, hc3, hn, by omega, by omega, l0⟩ e3

abbrev s_lpen : Stmt := top 49
theorem sc_lpen : FnScope ["_law_script"] ["_law_script"] (defScope s_lpen) := ⟨rfl, rfl, rfl, by decide +kernel, rfl, by decide +kernel, by decide +kernel⟩
theorem b_lpen {f : Addr} {fd : FuncData} (F : Fun K "_law_pen" "_law_pen" s_lpen f fd) (T : Txt mg) : FnG P w K mg base CX0 1 f fd ["_law_script"] (spPen K) := by
  refine okG0 F sc_lpen (fun vs H Q E h => ?_) (fun cdv A outer s H vs Q E hg hr h => ?_)
  · obtain ⟨a, ns, rfl, _⟩ := h
    rfl
  · have hu := hu_of hr
    have hu64 := hr.units
    obtain ⟨a, ns, rfl, hs, k⟩ := h
    refine ⟨_, (pss_one (ps_ret (pe_disp (pps_cons pe_str (pe_callTy call_list_of (by rfl) T.list (by decide +kernel) (pa_cons (pe_slice sl_list (pv 0) po_none (po_some pe_int)) pa_nil)) (pps_cons pe_str pe_int (pps_cons pe_str pe_int pps_nil))) (by rfl) (by rfl) (fun z => by cases z) (by decide)))), ?_⟩
    intro p hp
    obtain ⟨ms, hms, hml⟩ := cut63 ns
    refine ⟨_, rfl, 63, rfl, a, _, rfl, (same_new hp).seq hs, fun q hq => ?_⟩
    refine ⟨q, _, rfl, .inl (SqL.of upd_same), fun c hc => ?_⟩
    rw [hms] at hc ⊢
    have nqp : p ≠ q := fun e => by rw [← e, upd_same] at hq; cases hq
    have ncp : p ≠ c := fun e => by rw [← e, upd_ne nqp, upd_same] at hc; cases hc
    have hp2 : (upd (upd (upd H p (.dK [])) q (.lst (ms.map V.int))) c (.lst (ms.map V.int))) p = some (.dK []) := by rw [upd_ne ncp, upd_ne nqp, upd_same]
    refine ⟨hp2, penL c 0 0, rfl, (by show 3 ≤ 15; decide), ?_⟩
    rw [pen_made]
    refine k p c _ hp ⟨ms, 0, 0, upd_same, by rw [upd_ne ncp.symm, upd_same], hml, Int.le_refl _, Int.le_refl _, Int.le_refl _⟩ fun b o e => ?_
    rw [upd_ne (ne_of_none e hp), upd_ne ?_, upd_ne ?_, upd_ne (ne_of_none e hp)]
    · exact e
    · rintro rfl
      rw [upd_ne (ne_of_none e hp)] at hq
      rw [hq] at e
      cases e
    · rintro rfl
      by_cases ebq : b = q
      · subst ebq
        rw [upd_ne nqp.symm] at hq
        rw [hq] at e
        cases e
      · rw [upd_ne ebq, upd_ne (ne_of_none e hp)] at hc
        rw [hc] at e
        cases e

abbrev s_lpick : Stmt := top 51
theorem sc_lpick : FnScope ["_law_pen_here", "_law_options"] ["_law_pen_here", "_law_options"] (defScope s_lpick) := ⟨rfl, rfl, rfl, by decide +kernel, rfl, by decide +kernel, by decide +kernel⟩
theorem b_lpick {f : Addr} {fd : FuncData} (F : Fun K "_law_pick" "_law_pick" s_lpick f fd) (T : Txt mg) (c_ldraw : CalG P w K mg base CX0 1 "_law_draw" spDraw) : FnG P w K mg base CX0 2 f fd ["_law_pen_here", "_law_options"] (spPick K) := by
  refine okG0 F sc_lpick (fun vs H Q E h => ?_) (fun cdv A outer s H vs Q E hg hr h => ?_)
  · obtain ⟨p, c, o, xs, T0, rfl, _⟩ := h
    rfl
  · have hu := hu_of hr
    have hu64 := hr.units
    obtain ⟨p, c, o, xs, T0, rfl, ho, hne, hlen, hpen, hT, k⟩ := h
    have hpos : 0 < xs.length := List.length_pos_iff.mpr hne
    have hr1 : Room 1 _ := hr
    refine ⟨_, (pss_one (ps_ret (pe_ix ix_seq (pv 1) (pe_cG c_ldraw hg hr (by decide) pass0 (pa_cons (pv 0) (pa_cons (pe_callB call_len (by rfl) T.len (by decide +kernel) (pa_cons (pv 1) pa_nil)) pa_nil))) (fun _ _ => rfl)))), ?_⟩

    cases ho with
    | str z hz =>
      have e := one_len z
      have hz24 : z.length ≤ sizeLine := Nat.le_trans hz (by decide)
      refine ⟨_, rfl, _, rfl, _, rfl, _, _, rfl, ⟨hz24, rfl⟩, p, c, _, T0, rfl, by omega, by omega, hpen, hT, fun d H' d0 d1 hpen' x => ?_⟩
      obtain ⟨e1, hc, hm⟩ := at_mod (xs := z.cps.toList) d0 (by rw [show (z.cps.toList.length : Int) = (z.length : Int) from congrArg Nat.cast Array.length_toList]; exact d1)
      exact .inr (.inr ⟨z, d, e1, rfl, rfl, hz24, hc, k _ _ (List.mem_map_of_mem (f := OneS) hm) hpen' x⟩)
    | lst hs =>
      refine ⟨_, rfl, _, rfl, _, rfl, _, _, rfl, .inl ⟨_, hs, rfl⟩, p, c, _, T0, rfl, by omega, by omega, hpen, hT, fun d H' d0 d1 hpen' x => ?_⟩
      obtain ⟨v, hv, hm⟩ := at_mod d0 d1
      exact .inl ⟨_, xs, d, v, rfl, rfl, hpen.keepL x hs, hv, k _ _ hm hpen' x⟩
    | tup hs =>
      refine ⟨_, rfl, _, rfl, _, rfl, _, _, rfl, .inr ⟨_, hs, rfl⟩, p, c, _, T0, rfl, by omega, by omega, hpen, hT, fun d H' d0 d1 hpen' x => ?_⟩
      obtain ⟨v, hv, hm⟩ := at_mod d0 d1
      exact .inr (.inl ⟨_, xs, d, v, rfl, rfl, hpen.keepT x hs, hv, k _ _ hm hpen' x⟩)

abbrev s_lfew : Stmt := top 54
theorem sc_lfew : FnScope ["_law_pen_here", "_law_some", "_law_rare", "_law_k"] ["_law_pen_here"] (defScope s_lfew) := ⟨rfl, rfl, rfl, by decide +kernel, rfl, by decide +kernel, by decide +kernel⟩
theorem b_lfew {f : Addr} {fd : FuncData} (F : Fun K "_law_few" "_law_few" s_lfew f fd) (T : Txt mg) (c_lpick : CalG P w K mg base CX0 2 "_law_pick" (spPick K)) (t_signs : FnT P w K mg base 1 "_law_signs" letS) : FnG P w K mg base CX0 3 f fd ["_law_pen_here"] spFew := by
  refine okG0 F sc_lfew (fun vs H Q E h => ?_) (fun cdv A outer s H vs Q E hg hr h => ?_)
  · obtain ⟨p, pc, T0, rfl, _⟩ := h
    rfl
  · have hu := hu_of hr
    have hu64 := hr.units
    obtain ⟨p, pc, T0, rfl, hpen, hT, k⟩ := h
    have hr2 : Room 2 _ := hr
    refine ⟨_, (pss_cons (ps_set (i := 1) sc_lfew.nd rfl (Or.inr rfl) (pe_lst (pa_cons (pe_cG c_lpick hg hr (by decide) pass0 (pa_cons (pv 0) (pa_cons (pe_replT t_signs hr (by decide) (by decide +kernel) (by decide +kernel)) pa_nil))) (pa_cons (pe_cG c_lpick hg hr (by decide) pass0 (pa_cons (pv 0) (pa_cons pe_str pa_nil))) (pa_cons (pe_cG c_lpick hg hr (by decide) pass0 (pa_cons (pv 0) (pa_cons pe_str pa_nil))) pa_nil)))))
      (pss_cons (ps_set (i := 2) sc_lfew.nd rfl (Or.inl rfl) (pe_join pe_str (pe_lc (own := [("_law_k", 3)]) (g := gName 3) rfl sc_lfew.nd (pi_range1 rfl T.range (pa_cons pe_int pa_nil)) (blkOk_by (own := [("_law_k", 3)]) (N := ["_law_pen_here", "_law_some", "_law_rare", "_law_k"]) (sc := defScope s_lfew) (by decide +kernel)) (fun _ _ _ _ _ => (pg_name (i := 3) sc_lfew.nd rfl (Or.inl rfl))) (fun _ _ _ _ _ => (pts_one (pt_cmpR (op_notIn_seqK (K := K) rfl) (pe_ix (ix_seqK (K := K) rfl) (pv 1) (pv 3) (fun _ _ => rfl)) (pe_slice (sl_listK (K := K) rfl) (pv 1) po_none (po_some (pv 3))) (by rfl)))) (fun _ _ _ _ _ => (pe_ix (ix_seqK (K := K) rfl) (pv 1) (pv 3) (fun _ _ => rfl))))))
      (pss_one (ps_ret (pe_cG c_lpick hg hr (by decide) pass0 (pa_cons (pv 0) (pa_cons (pe_lst (pa_cons pe_str (pa_cons pe_str (pa_cons pe_str (pa_cons pe_str (pa_cons pe_str (pa_cons pe_str (pa_cons pe_str (pa_cons pe_str (pa_cons pe_str (pa_cons (pv 2) pa_nil))))))))))) pa_nil))))))), ?_⟩
    refine ⟨_, rfl, p, pc, _, _, T0, rfl, .str _ (by rw [noq_len]; decide), opts_ne (by rw [noq_len]; decide), opts_le (by rw [noq_len]; decide), hpen, by omega, fun v1 H1 m1 P1 x1 => ?_⟩
    obtain ⟨c1, rfl, k1⟩ := ones_of m1
    refine ⟨_, rfl, p, pc, _, _, T0 + 1, rfl, .str _ (by decide), opts_ne (by decide), opts_le (by decide), P1, by omega, fun v2 H2 m2 P2 x2 => ?_⟩
    obtain ⟨c2, rfl, k2⟩ := ones_of m2
    refine ⟨_, rfl, p, pc, _, _, T0 + 2, rfl, .str _ (by decide), opts_ne (by decide), opts_le (by decide), P2, by omega, fun v3 H3 m3 P3 x3 => ?_⟩
    obtain ⟨c3, rfl, k3⟩ := ones_of m3
    refine ⟨by show 3 ≤ sizeLine; decide, fun a ha => ?_⟩
    have hin : ∀ c ∈ [c1, c2, c3], c ∈ letS.cps.toList := by
      intro c hc
      simp only [List.mem_cons, List.not_mem_nil, or_false] at hc
      rcases hc with rfl | rfl | rfl
      · exact noq_in k1
      · exact (by decide +kernel : ∀ c ∈ (Str.ofString "yz").cps.toList, c ∈ letS.cps.toList) _ k2
      · exact (by decide +kernel : ∀ c ∈ (Str.ofString "(\n").cps.toList, c ∈ letS.cps.toList) _ k3
    have P4 := P3.new (o := .lst ([c1, c2, c3].map OneS)) ha
    have x4 : Ext p H (upd H3 a (.lst ([c1, c2, c3].map OneS))) := (x1.trans (x2.trans x3)).trans (Ext.new ha)
    have ha4 : (upd H3 a (.lst ([c1, c2, c3].map OneS))) a = some (.lst ([c1, c2, c3].map OneS)) := upd_same
    generalize hxs : ([c1, c2, c3].map OneS : List V) = xs at ha4 P4 x4
    have hxl : xs.length = 3 := by rw [← hxs]; rfl
    have hxf : xs.all flatV = true := by rw [← hxs]; exact ones_flat _
    have hxm : ∀ v ∈ xs, ∃ c, v = OneS c ∧ c ∈ [c1, c2, c3] := by rw [← hxs]; exact fun v hv => one_mem hv
    have ha5 : (upd H3 a (.lst ([c1, c2, c3].map OneS))) = upd H3 a (.lst xs) := by rw [hxs]
    generalize hH4 : upd H3 a (.lst xs) = H4 at ha4 P4 x4 ha5
    refine ⟨⟨_, rfl⟩, ?_⟩
    show (iRng1 (tCons (tC (V.int 3)) tNil)) _ (upd H3 a (.lst ([c1, c2, c3].map OneS))) _
    rw [ha5]
    refine ⟨3, rfl, by decide, by decide, fun D hD => lc_range (lo := 0) (n := 3) (fun i H' => ∃ cs : List Nat, H' D = some (.lst (cs.map OneS)) ∧ cs.length ≤ i ∧ (1 ≤ i → 1 ≤ cs.length) ∧ (∀ c ∈ cs, c ∈ letS.cps.toList) ∧ Same H4 H') ?_ ?_ ?_⟩
    · exact ⟨[], upd_same, Nat.le_refl _, fun h => by omega, fun c hc => absurd hc List.not_mem_nil, same_new hD⟩
    · rintro i H5 hi ⟨cs, hDc, hcl, hc1, hcm, sm⟩
      obtain ⟨v, hv, hvm⟩ := at_mod (xs := xs) (i := 0 + (i : Int)) (by omega) (by rw [hxl]; omega)
      obtain ⟨c, rfl, hcc⟩ := hxm v hvm
      have sa : SqL K H5 a xs := sm.seq (SqL.of ha4)
      refine ⟨rfl, _, rfl, _, rfl, .inl ⟨a, xs, _, _, rfl, rfl, sa, hv, _, rfl, _, rfl, _, rfl, a, xs, rfl, sa, fun q hq => ⟨q, _, rfl, .inl (SqL.of upd_same), rfl, cutV_all hxf, _, rfl, ?_⟩⟩⟩
      have sq : Same H4 (upd H5 q (.lst (cutV xs none (some (0 + (i : Int)))))) := sm.trans (same_new hq)
      have dq := up_new (u := .lst (cutV xs none (some (0 + (i : Int))))) hDc hq
      refine ite2 (fun hb => ?_) (fun hb => ?_)
      · refine ⟨_, rfl, _, rfl, .inl ⟨a, xs, _, _, rfl, rfl, sq.seq (SqL.of ha4), hv, _, dq, by rw [List.length_map]; exact Nat.lt_of_le_of_lt hcl (Nat.lt_trans hi (by decide)), cs ++ [c], ?_, ?_, fun _ => ?_, ?_, ?_⟩⟩
        · rw [upd_same, List.map_append]
          rfl
        · rw [List.length_append]; exact Nat.add_le_add_right hcl 1
        · rw [List.length_append]; exact Nat.le_add_left _ _
        · intro d hd
          rcases List.mem_append.mp hd with hd | hd
          · exact hcm d hd
          · rw [List.mem_singleton.mp hd]
            exact hin c hcc
        · intro b o e
          by_cases hbD : b = D
          · rw [hbD, hD] at e
            cases e
          · exact (upd_ne hbD).trans (sq b o e)
      · refine ⟨cs, dq, Nat.le_succ_of_le hcl, fun _ => ?_, hcm, sq⟩
        by_cases h0 : i = 0
        · subst h0
          refine absurd ?_ hb
          show (if true = true then !inV (OneS c) (cutV xs none (some (0 + ((0 : Nat) : Int)))) else inV (OneS c) (cutV xs none (some (0 + ((0 : Nat) : Int))))) = true
          rw [show (0 : Int) + ((0 : Nat) : Int) = 0 from rfl, cutV_zero]
          rfl
        · exact hc1 (by omega)
    · rintro H5 ⟨cs, hDc, hcl, hc1, hcm, sm⟩
      refine ⟨_, D, cs.map fun c => ⟨#[c]⟩, rfl, rfl, .inl (SqL.of (by rw [ones_map]; exact hDc)), ?_, ?_⟩
      · rw [ones_len]
        show cs.length + _ * 0 ≤ _
        omega
      · rw [join_ones]
        have fz : Few ⟨cs.toArray⟩ := few_ones (hc1 (by decide)) hcl hcm
        have x5 : Ext p H H5 := x4.trans (Ext.same sm)
        have P5 := P4.stay sm
        refine ⟨_, rfl, _, rfl, by show 10 ≤ sizeLine; decide, fun q hq => ?_⟩
        refine ⟨p, pc, _, _, T0 + 3, rfl, .lst (SqL.of upd_same), by simp, by show 10 ≤ 1000; decide, P5.new hq, by omega, fun v H6 hm P6 x6 => ?_⟩
        have fin : ∃ z, v = .str z ∧ Few z := by
          simp only [List.mem_cons, List.not_mem_nil, or_false] at hm
          rcases hm with rfl | rfl | rfl | rfl | rfl | rfl | rfl | rfl | rfl | rfl
          all_goals first
            | exact ⟨_, rfl, fz⟩
            | exact ⟨_, rfl, few_of (by decide +kernel)⟩
        obtain ⟨z, rfl, hz⟩ := fin
        exact k z H6 hz P6 (x5.trans ((Ext.new hq).trans x6))

abbrev s_lword : Stmt := top 55
theorem sc_lword : FnScope ["_law_pen_here", "_law_signs_here", "_law_least", "_law_most_letters", "_law_many", "_law_k"] ["_law_pen_here", "_law_signs_here", "_law_least", "_law_most_letters"] (defScope s_lword) := ⟨rfl, rfl, rfl, by decide +kernel, rfl, by decide +kernel, by decide +kernel⟩
theorem b_lword {f : Addr} {fd : FuncData} (F : Fun K "_law_word" "_law_word" s_lword f fd) (T : Txt mg) (c_ldraw : CalG P w K mg base CX0 1 "_law_draw" spDraw) (c_lpick : CalG P w K mg base CX0 2 "_law_pick" (spPick K)) : FnG P w K mg base CX0 3 f fd ["_law_pen_here", "_law_signs_here", "_law_least", "_law_most_letters"] spWord := by
  refine okG0 F sc_lword (fun vs H Q E h => ?_) (fun cdv A outer s H vs Q E hg hr h => ?_)
  · obtain ⟨p, pc, z, a, b, T0, rfl, _⟩ := h
    rfl
  · have hu := hu_of hr
    have hu64 := hr.units
    obtain ⟨p, pc, z, a, b, T0, rfl, hab, hb, hz1, hz, hpen, hT, k⟩ := h
    have hr2 : Room 2 _ := hr
    refine ⟨_, (pss_cons (ps_set (i := 4) sc_lword.nd rfl (Or.inl rfl) (pe_op op_add (pv 2) (pe_cG c_ldraw hg hr (by decide) pass0 (pa_cons (pv 0) (pa_cons (pe_op op_add (pe_op op_sub (pv 3) (pv 2)) pe_int) pa_nil)))))
      (pss_one (ps_ret (pe_join pe_str (pe_lc (own := [("_law_k", 5)]) (g := gName 5) (tt := tYes) rfl sc_lword.nd (pi_range1 rfl T.range (pa_cons (pv 4) pa_nil)) (blkOk_by (own := [("_law_k", 5)]) (N := ["_law_pen_here", "_law_signs_here", "_law_least", "_law_most_letters", "_law_many", "_law_k"]) (sc := defScope s_lword) (by decide +kernel)) (fun _ _ _ _ _ => (pg_name (i := 5) sc_lword.nd rfl (Or.inl rfl))) (fun _ _ _ _ _ => pts_nil) (fun _ _ _ _ _ => (pe_cG c_lpick hg hr (by decide) pass0 (pa_cons (pv 0) (pa_cons (pv 1) pa_nil))))))))), ?_⟩
    refine ⟨_, rfl, _, rfl, _, rfl, _, rfl, _, _, rfl, rfl, _, _, rfl, rfl, p, pc, _, T0, rfl, by omega, by omega, hpen, by omega, fun d H1 d0 d1 P1 x1 => ?_⟩
    refine ⟨_, _, rfl, rfl, ⟨_, rfl⟩, ?_⟩
    obtain ⟨n, rfl⟩ : ∃ n : Nat, d = (n : Int) := ⟨d.toNat, by omega⟩
    refine ⟨_, rfl, _, rfl, by omega, by omega, fun D hD => ?_⟩
    have en : ((a : Int) + (n : Int)).toNat = a + n := by omega
    have hn : a + n ≤ b := by omega
    obtain ⟨nDp, nDc⟩ := P1.apart hD
    refine lc_range (lo := 0) (n := ((a : Int) + (n : Int)).toNat) (fun i H' => ∃ cs : List Nat, H' D = some (.lst (cs.map OneS)) ∧ cs.length = i ∧ (∀ c ∈ cs, c ∈ z.cps.toList) ∧ Pen H' p pc (T0 + 1 + i) ∧ Ext p H H') ?_ ?_ ?_
    · refine ⟨[], upd_same, rfl, fun c hc => absurd hc List.not_mem_nil, P1.new hD, x1.trans (Ext.new hD)⟩
    · rintro i H2 hi ⟨cs, hDc, hcl, hcm, P2, x2⟩
      rw [en] at hi
      refine ⟨rfl, _, rfl, _, rfl, p, pc, _, _, T0 + 1 + i, rfl, .str z hz, opts_ne hz1, opts_le hz, P2, by omega, fun v H3 hm P3 x3 => ?_⟩
      obtain ⟨c, rfl, hc⟩ := ones_of hm
      have d3 := P2.keepI x3 hDc
      refine ⟨_, d3, by rw [List.length_map, hcl]; exact Nat.lt_of_lt_of_le hi (Nat.le_trans hn (Nat.le_trans hb (by decide))), cs ++ [c], ?_, by rw [List.length_append, hcl]; rfl, ?_, ?_, ?_⟩
      · rw [upd_same, List.map_append]
        rfl
      · intro e he
        rcases List.mem_append.mp he with he | he
        · exact hcm e he
        · rw [List.mem_singleton.mp he]
          exact hc
      · exact P3.set nDp nDc
      · exact fun b o e hb => by
          rw [upd_ne (fun q => by rw [q, x1.none_of nDp hD] at e; cases e)]
          exact x3 b o (x2 b o e hb) hb
    · rintro H2 ⟨cs, hDc, hcl, hcm, P2, x2⟩
      refine ⟨_, D, cs.map fun c => ⟨#[c]⟩, rfl, rfl, .inl (SqL.of (by rw [ones_map]; exact hDc)), ?_, ?_⟩
      · rw [ones_len]
        show cs.length + _ * 0 ≤ _
        omega
      · rw [join_ones]
        rw [en] at hcl P2
        exact k _ H2 ⟨by show a ≤ cs.toArray.size; rw [List.size_toArray]; omega, by show cs.toArray.size ≤ b; rw [List.size_toArray]; omega, by simpa using hcm⟩ (P2.mono (by omega)) x2

abbrev s_lplaces : Stmt := top 56
theorem sc_lplaces : FnScope ["_law_text_here", "_law_was", "_law_size", "_law_k"] ["_law_text_here", "_law_was"] (defScope s_lplaces) := ⟨rfl, rfl, rfl, by decide +kernel, rfl, by decide +kernel, by decide +kernel⟩
theorem b_lplaces {f : Addr} {fd : FuncData} (F : Fun K "_law_places" "_law_places" s_lplaces f fd) (T : Txt mg) : FnG P w K mg base CX0 1 f fd ["_law_text_here", "_law_was"] (spPlaces K) := by
  refine okG0 F sc_lplaces (fun vs H Q E h => ?_) (fun cdv A outer s H vs Q E hg hr h => ?_)
  · obtain ⟨x, wd, rfl, _⟩ := h
    rfl
  · have hu := hu_of hr
    have hu64 := hr.units
    obtain ⟨x, wd, rfl, hx, hw, k⟩ := h
    refine ⟨_, (pss_cons (ps_set (i := 2) sc_lplaces.nd rfl (Or.inr rfl) (pe_callB call_len (by rfl) T.len (by decide +kernel) (pa_cons (pv 1) pa_nil)))
      (pss_one (ps_ret (pe_lc (own := [("_law_k", 3)]) (g := gName 3) rfl sc_lplaces.nd (pi_range1 rfl T.range (pa_cons (pe_op op_add (pe_op op_sub (pe_callB call_len (by rfl) T.len (by decide +kernel) (pa_cons (pv 0) pa_nil)) (pv 2)) pe_int) pa_nil)) (blkOk_by (own := [("_law_k", 3)]) (N := ["_law_text_here", "_law_was", "_law_size", "_law_k"]) (sc := defScope s_lplaces) (by decide +kernel)) (fun _ _ _ _ _ => (pg_name (i := 3) sc_lplaces.nd rfl (Or.inl rfl))) (fun _ _ _ _ _ => (pts_one (pt_cmpR op_eq (pe_slice sl_str (pv 0) (po_some (pv 3)) (po_some (pe_op op_add (pv 3) (pv 2)))) (pv 1) (nomark _)))) (fun _ _ _ _ _ => (pv 3)))))), ?_⟩
    have hx24 : x.length ≤ sizeLine := Nat.le_trans hx (by decide)
    have hw24 : wd.length ≤ sizeLine := Nat.le_trans hw (by decide)
    refine ⟨_, rfl, _, _, rfl, ⟨hw24, rfl⟩, ?_⟩
    refine ⟨_, rfl, _, _, rfl, ⟨hx24, rfl⟩, _, rfl, _, _, rfl, rfl, _, _, rfl, rfl, _, rfl, by omega, by omega, fun D hD => ?_⟩
    refine lc_range (lo := 0) (n := ((x.length : Int) - (wd.length : Int) + 1).toNat) (fun i H' => H' D = some (.lst ((((List.range i).filter (atB x wd)).map Int.ofNat).map V.int)) ∧ Same H H') ?_ ?_ ?_
    · exact ⟨upd_same, same_new hD⟩
    · rintro i H2 hi ⟨hd, sm⟩
      have hi2 : i + wd.length ≤ x.length := by omega
      refine ⟨rfl, _, rfl, _, rfl, _, rfl, _, rfl, _, rfl, _, _, rfl, rfl, _, rfl, x, rfl, hx24, ?_⟩
      refine ⟨_, rfl, rfl, _, rfl, ?_⟩
      have ec := cut_at x wd i hi2
      rw [show (0 : Int) + (i : Int) = (i : Int) by omega, ec]
      cases hb : atB x wd i with
      | true =>
        refine iteT ?_
        have fl : ((((List.range i).filter (atB x wd)).map Int.ofNat).map V.int).length ≤ i := by
          rw [List.length_map, List.length_map]
          exact Nat.le_trans (List.length_filter_le _ _) (Nat.le_of_eq List.length_range)
        refine ⟨_, rfl, _, hd, Nat.lt_of_le_of_lt fl (Nat.lt_of_le_of_lt (show i ≤ 10002 by omega) (by decide)), ?_, ?_⟩
        · rw [upd_same, filter_snoc hb, List.map_append, List.map_append]
          rfl
        · intro b o e
          exact (upd_ne (fun q => by rw [q, hD] at e; cases e)).trans (sm b o e)
      | false =>
        refine iteF ⟨?_, sm⟩
        rw [hd, filter_more (Nat.le_succ i) fun j h1 h2 => by rw [show j = i by omega]; exact hb]
    · rintro H2 ⟨hd, sm⟩
      refine k D H2 hD ?_ sm
      rw [hd]
      unfold plcI plc
      rw [← filter_more (lo := ((x.length : Int) - (wd.length : Int) + 1).toNat) (m := x.length + 1) (by omega) fun j h1 h2 => by
        unfold atB
        rw [decide_eq_false (by omega)]
        rfl]

theorem cut_upto (x : Str) (M : Nat) : (cutS x none (some (M : Int))).length ≤ M := by
  unfold cutS
  show (List.toArray _).size ≤ M
  rw [List.size_toArray, HT.sIx_nat, HT.sIx_none]
  refine Nat.le_trans (List.length_take_le _ _) ?_
  have := Nat.min_le_left M x.length
  omega
def spNtext : Sp := fun vs H Q _ => ∃ p c z M T, vs = [.ref p, .str z, .int (M : Nat)] ∧ Few z ∧ M ≤ 100 ∧ Pen H p c T ∧ T + 1000 < 1000000000 ∧ ∀ (x : Str) (H' : Hp), x.length ≤ M → Ltr x → Pen H' p c (T + 100) → Ext p H H' → Q (.str x) H'
abbrev s_lntext : Stmt := top 58
theorem sc_lntext : FnScope ["_law_pen_here", "_law_signs_here", "_law_most_letters", "_law_some", "_law_found", "_law_k"] ["_law_pen_here", "_law_signs_here", "_law_most_letters"] (defScope s_lntext) := ⟨rfl, rfl, rfl, by decide +kernel, rfl, by decide +kernel, by decide +kernel⟩
theorem b_lntext {f : Addr} {fd : FuncData} (F : Fun K "_law_ntext" "_law_ntext" s_lntext f fd) (T : Txt mg) (c_ldraw : CalG P w K mg base CX0 1 "_law_draw" spDraw) (c_lpick : CalG P w K mg base CX0 2 "_law_pick" (spPick K)) (c_lword : CalG P w K mg base CX0 3 "_law_word" spWord) : FnG P w K mg base CX0 4 f fd ["_law_pen_here", "_law_signs_here", "_law_most_letters"] spNtext := by
  refine okG0 F sc_lntext (fun vs H Q E h => ?_) (fun cdv A outer s H vs Q E hg hr h => ?_)
  · obtain ⟨p, pc, z, M, T0, rfl, _⟩ := h
    rfl
  · have hu := hu_of hr
    have hu64 := hr.units
    obtain ⟨p, pc, z, M, T0, rfl, fz, hM, hpen, hT, k⟩ := h
    have hr3 : Room 3 _ := hr
    have z100 : z.length ≤ 1000 := Nat.le_trans fz.2.1 (by decide)
    refine ⟨_, (pss_cons (ps_par (i := 3) (j := 4) (by rfl) sc_lntext.nd rfl rfl (by decide) rfl rfl (pa_cons (pe_lst (pa_cons (pe_cG c_lword hg hr (by decide) pass0 (pa_cons (pv 0) (pa_cons (pv 1) (pa_cons pe_int (pa_cons pe_int pa_nil))))) (pa_cons (pe_cG c_lword hg hr (by decide) pass0 (pa_cons (pv 0) (pa_cons (pv 1) (pa_cons pe_int (pa_cons pe_int pa_nil))))) pa_nil))) (pa_cons pe_str pa_nil)) (by rfl))
      (pss_cons (ps_for PassesOwn.never rfl (pi_range1 rfl T.range (pa_cons (pe_cG c_ldraw hg hr (by decide) pass0 (pa_cons (pv 0) (pa_cons pe_int pa_nil))) pa_nil)) (pg_name (i := 5) sc_lntext.nd rfl (Or.inl rfl)) (pss_one (ps_set (i := 4) sc_lntext.nd rfl (Or.inl rfl) (pe_op op_add_str (pv 4) (pe_cG c_lpick hg hr (by decide) pass0 (pa_cons (pv 0) (pa_cons (pe_op op_cat (pv 3) (pe_lst (pa_cons (pe_cG c_lpick hg hr (by decide) pass0 (pa_cons (pv 0) (pa_cons (pv 1) pa_nil))) pa_nil))) pa_nil)))))))
      (pss_one (ps_ret (pe_slice sl_str (pv 4) po_none (po_some (pv 2))))))), ?_⟩
    refine ⟨_, rfl, _, rfl, p, pc, z, 1, 4, T0, rfl, by decide, by decide, fz.1, z100, hpen, by omega, fun w1 H1 g1 P1 x1 => ?_⟩
    refine ⟨_, rfl, _, rfl, p, pc, z, 1, 3, _, rfl, by decide, by decide, fz.1, z100, P1, by omega, fun w2 H2 g2 P2 x2 => ?_⟩
    refine ⟨by show 2 ≤ sizeLine; decide, fun b hb => ?_⟩
    have sb := same_new (o := .lst [.str w1, .str w2]) hb
    have P3 := P2.stay sb
    have x3 : Ext p H _ := (x1.trans x2).trans (Ext.same sb)
    refine ⟨_, _, rfl, _, rfl, p, pc, 9, _, rfl, by decide, by decide, P3, by omega, fun n H4 n0 n1 P4 x4 => ?_⟩
    have hb4 := P3.keepI x4 upd_same
    refine ⟨_, rfl, by omega, by omega, ?_⟩
    refine for_range (lo := 0) (n := n.toNat) (fun i σ H' => ∃ (o5 : Option V) (f : Str), σ = [some (.ref p), some (.str z), some (.int (M : Nat)), some (.ref b), some (.str f), o5] ∧ (f.length ≤ 100 * i ∧ Ltr f) ∧ Pen H' p pc (T0 + 20 + 2 * i) ∧ Ext p H H' ∧ H' b = some (.lst [.str w1, .str w2])) ?_ ?_ ?_
    · exact ⟨_, "", rfl, ⟨by show 0 ≤ _; omega, lt_none⟩, P4.mono (by omega), x3.trans x4, hb4⟩
    · rintro i σ H5 hi ⟨o5, f, rfl, hf, P5, x5, hb5⟩
      have hf1 := hf.1
      refine ⟨_, rfl, _, rfl, _, rfl, _, rfl, _, rfl, p, pc, _, _, _, rfl, .str z z100, opts_ne fz.1, opts_le z100, P5, by omega, fun v H6 hv P6 x6 => ?_⟩
      obtain ⟨cv, rfl, hcv⟩ := ones_of hv
      have hb6 := P5.keepI x6 hb5
      refine ⟨by show 1 ≤ sizeLine; decide, fun q hq => ?_⟩
      have sq := same_new (o := .lst [OneS cv]) hq
      refine ⟨b, q, _, _, rfl, rfl, sq _ _ hb6, upd_same, by show 3 ≤ sizeLine; decide, fun q2 hq2 => ?_⟩
      have sq2 := same_new (o := .lst [.str w1, .str w2, OneS cv]) hq2
      have P7 := (P6.stay sq).stay sq2
      refine ⟨p, pc, _, _, _, rfl, .lst (SqL.of upd_same), (fun z => by cases z), by show 3 ≤ 1000; decide, P7, by omega, fun v H8 hv2 P8 x8 => ?_⟩
      have hb8 := P7.keepI x8 (sq2 _ _ (sq _ _ hb6))
      have ev : ∃ y : Str, v = .str y ∧ y.length ≤ 100 ∧ Ltr y := by
        simp only [List.mem_append, List.mem_cons, List.not_mem_nil, or_false] at hv2
        rcases hv2 with (rfl | rfl) | rfl
        · exact ⟨w1, rfl, Nat.le_trans g1.2.1 (by decide), lt_word fz g1⟩
        · exact ⟨w2, rfl, Nat.le_trans g2.2.1 (by decide), lt_word fz g2⟩
        · exact ⟨_, rfl, by show 1 ≤ 100; decide, lt_one fz hcv⟩
      obtain ⟨y, rfl, hy, oy⟩ := ev
      refine ⟨_, _, rfl, rfl, Nat.le_of_lt (fewL (by omega)), _, f ++ y, rfl, ⟨?_, lt_more hf.2 oy⟩, P8.mono (by omega), (x5.trans x6).trans (((Ext.same sq).trans (Ext.same sq2)).trans x8), hb8⟩
      rw [strLen_append]
      omega
    · rintro σ H5 ⟨o5, f, rfl, hf, P5, x5, hb5⟩
      have hf1 := hf.1
      refine ⟨_, rfl, _, rfl, _, rfl, f, rfl, Nat.le_of_lt (fewL (by have : n.toNat ≤ 9 := by omega
                                                                     omega)), k _ _ (cut_upto f M) (cutS_lt hf.2 _ _) (P5.mono (by omega)) x5⟩

/-- a window that stands once -/
def spNonce : Sp := fun vs H Q _ => ∃ (x : Str) (a b : Nat), vs = [.str x, .int (a : Nat), .int (b : Nat)] ∧ x.length ≤ 100 ∧ (a < b → b ≤ x.length) ∧ ∀ H', Same H H' → Q (.bl (decide (a < b ∧ twB x a b = false))) H'
abbrev s_lnonce : Stmt := top 59
theorem sc_lnonce : FnScope ["_law_text_here", "_law_a", "_law_b"] ["_law_text_here", "_law_a", "_law_b"] (defScope s_lnonce) := ⟨rfl, rfl, rfl, by decide +kernel, rfl, by decide +kernel, by decide +kernel⟩
theorem b_lnonce {f : Addr} {fd : FuncData} (F : Fun K "_law_nonce" "_law_nonce" s_lnonce f fd) (T : Txt mg) (c_lplaces : CalG P w K mg base CX0 1 "_law_places" (spPlaces K)) : FnG P w K mg base CX0 2 f fd ["_law_text_here", "_law_a", "_law_b"] spNonce := by
  refine okG0 F sc_lnonce (fun vs H Q E h => ?_) (fun cdv A outer s H vs Q E hg hr h => ?_)
  · obtain ⟨x, a, b, rfl, _⟩ := h
    rfl
  · have hu := hu_of hr
    have hu64 := hr.units
    obtain ⟨x, a, b, rfl, hx, hb, k⟩ := h
    have hr1 : Room 1 _ := hr
    have xl : x.length ≤ sizeLine := Nat.le_of_lt (fewL (by omega))
    refine ⟨_, (pss_one (ps_ret (pe_and (pe_cmpR op_lt (pv 1) (pv 2) (nomark _)) (pe_one (pe_cmpR op_eq (pe_callB call_len (by rfl) T.len (by decide +kernel) (pa_cons (pe_cG c_lplaces hg hr (by decide) pass0 (pa_cons (pv 0) (pa_cons (pe_slice sl_str (pv 0) (po_some (pv 1)) (po_some (pv 2))) pa_nil))) pa_nil)) pe_int (nomark _)))))), ?_⟩
    refine ⟨_, rfl, _, rfl, _, _, rfl, rfl, _, rfl, ?_⟩
    by_cases hab : a < b
    · rw [decide_eq_true (show ((a : Nat) : Int) < ((b : Nat) : Int) by omega)]
      refine iteT ⟨_, rfl, _, rfl, _, rfl, _, rfl, _, rfl, _, rfl, x, rfl, xl, x, _, rfl, by omega, ?_⟩
      refine ⟨Nat.le_trans (cutS_length _ _ _) (by omega), fun lp H1 _ hp s1 => ⟨_, _, rfl, .inl ⟨_, SqL.of hp, rfl⟩, rfl, ?_⟩⟩
      have hl : ((plcI x (cutS x (some ((a : Nat) : Int)) (some ((b : Nat) : Int)))).map V.int).length = (plc x (cutS x (some ((a : Nat) : Int)) (some ((b : Nat) : Int)))).length := by
        unfold plcI
        rw [List.length_map, List.length_map]
      have q := k H1 s1
      have e : decide (V.int ((((plcI x (cutS x (some ((a : Nat) : Int)) (some ((b : Nat) : Int)))).map V.int).length : Nat) : Int) = V.int 1) = decide (a < b ∧ twB x a b = false) := by
        rw [hl]
        refine decide_eq_decide.mpr (Iff.trans ⟨fun z => ?_, fun z => ?_⟩ (Iff.trans (plc_one (Nat.le_of_lt hab) (hb hab)) ⟨fun z => ⟨hab, z⟩, fun z => z.2⟩))
        · have := V.int.inj z
          omega
        · rw [z]
          rfl
      rw [← e] at q
      exact q
    · rw [decide_eq_false (show ¬ ((a : Nat) : Int) < ((b : Nat) : Int) by omega)]
      refine iteF ?_
      have q := k H (fun _ _ e => e)
      rw [decide_eq_false (fun z => hab z.1)] at q
      exact q

end
end Vk
set_option Elab.async false
set_option maxRecDepth 100000
set_option linter.all false
namespace Vk
open PySem PySem.Spec PyProof.Rows L2
section
variable {P : Program} {w : World} {K : PySem.W.Frag} {mg : Str → Option Value} {base : Heap}
def srtB : PyData → Bool
  | .str z => decide (z.length ≤ 1000) && PyData.strOk z
  | _ => true
def elB : PyData → Bool
  | .tuple l => l.all srtB && decide (l.length ≤ 100)
  | _ => true
def okC (d : PyData) : Bool := okB d && srtB d && PyData.strOk d.shown && elB d
/-- the strings within a tuple are short -/
def El (d : PyData) : Prop := ∀ l, d = .tuple l → ∀ x ∈ l, Srt x
theorem srtB_srt {d : PyData} (h : srtB d = true) : Srt d := by
  cases d with
  | str z =>
    unfold srtB at h
    rw [Bool.and_eq_true, decide_eq_true_eq] at h
    exact h
  | _ => trivial
theorem okC_el {d : PyData} (h : okC d = true) : El d := by
  unfold okC at h
  rw [Bool.and_eq_true] at h
  rintro l rfl x hx
  exact srtB_srt (List.all_eq_true.mp (Bool.and_eq_true_iff.mp h.2).1 x hx)
theorem okC_srt {d : PyData} (h : okC d = true) : Srt d := by
  unfold okC at h
  rw [Bool.and_eq_true, Bool.and_eq_true, Bool.and_eq_true] at h
  cases d with
  | str z =>
    have q := h.1.1.2
    unfold srtB at q
    rw [Bool.and_eq_true, decide_eq_true_eq] at q
    exact q
  | _ => trivial
theorem okC_shs {d : PyData} (h : okC d = true) : Shs d := by
  unfold okC okB at h
  simp only [Bool.and_eq_true, decide_eq_true_eq] at h
  obtain ⟨⟨⟨⟨⟨⟨⟨⟨h1, h2⟩, h3⟩, _⟩, h5⟩, _⟩, _⟩, h8⟩, _⟩ := h
  refine ⟨h1, ?_, Nat.le_trans h3 (by decide), h8⟩
  have e : (PyData.list [d, d]).depth = max d.depth (max d.depth 0) + 1 := rfl
  rw [e] at h5
  omega
theorem okC_len {d : PyData} (h : okC d = true) : ∀ l, d = .tuple l → l.length ≤ 100 := by
  unfold okC at h
  rw [Bool.and_eq_true] at h
  rintro l rfl
  exact of_decide_eq_true (Bool.and_eq_true_iff.mp h.2).2
def spAny : Sp := fun vs H Q _ => ∃ (p c : Addr) (T : Nat), vs = [.ref p] ∧ Pen H p c T ∧ T < 1000000000 ∧ ∀ (v : V) (d : PyData) (H' : Hp), Th H' v d → okC d = true → New H v → Pen H' p c (T + 1) → Ext p H H' → Q v H'
abbrev ds1 : List PyData := [.none, .bool true, .bool false, .int 0, .int 1, .int (-1), .int (10 ^ (59 : Int).toNat), .str "", .str "a", .str "\t", .str "a\t", .str "ab", .tuple [], .tuple [.str "a"], .tuple [.str "a", .str "b"], .list [.str "a", .str "b"], .dict (kvD [])]
abbrev ds2 : List PyData := [.list [.int 1], .tuple [.str "a", .int 1], .tuple [.str "", .str "a"], .tuple [.str "a", .str "\t"], .tuple [.str "a", .str "b", .str "c"], .dict (kvD [("a", "b")]), .str "once", .tuple [.str (Txt.mul "a" 41), .str ""]]
abbrev ds3 : List PyData := [.tuple [.str "a", .str (Txt.mul "b" 41)], .str (Txt.mul "a" 41), .str (Txt.mul "b" 50), .tuple [.int 0, .int 1], .list [], .tuple [.str "a", .none]]
abbrev s_lany_value : Stmt := top 57
theorem sc_lany_value : FnScope ["_law_pen_here", "_law_some"] ["_law_pen_here"] (defScope s_lany_value) := ⟨rfl, rfl, rfl, by decide +kernel, rfl, by decide +kernel, by decide +kernel⟩
theorem b_lany_value {f : Addr} {fd : FuncData} (F : Fun K "_law_any_value" "_law_any_value" s_lany_value f fd) (T : Txt mg) (c_lpick : CalG P w K mg base CX0 2 "_law_pick" (spPick K)) : FnG P w K mg base CX0 3 f fd ["_law_pen_here"] spAny := by
  refine okG0 F sc_lany_value (fun vs H Q E h => ?_) (fun cdv A outer s H vs Q E hg hr h => ?_)
  · obtain ⟨p, c, T0, rfl, _⟩ := h
    rfl
  · have hu := hu_of hr
    have hu64 := hr.units
    obtain ⟨p, c, T0, rfl, hpen, hT, k⟩ := h
    have hr2 : Room 2 _ := hr
    refine ⟨_, (pss_cons (ps_set (i := 1) sc_lany_value.nd rfl (Or.inl rfl) (pe_lst (pa_cons pe_non (pa_cons pe_bl (pa_cons pe_bl (pa_cons pe_int (pa_cons pe_int (pa_cons (pe_un un_neg pe_int) (pa_cons (pe_op op_pow pe_int pe_int) (pa_cons pe_str (pa_cons pe_str (pa_cons pe_str (pa_cons pe_str (pa_cons pe_str (pa_cons (pe_tup pa_nil) (pa_cons (pe_tup (pa_cons pe_str pa_nil)) (pa_cons (pe_tup (pa_cons pe_str (pa_cons pe_str pa_nil))) (pa_cons (pe_ls1 (pa_cons pe_str (pa_cons pe_str pa_nil))) (pa_cons pe_dnewK pa_nil)))))))))))))))))))
      (pss_cons (ps_set (i := 1) sc_lany_value.nd rfl (Or.inl rfl) (pe_op op_cat (pv 1) (pe_lst (pa_cons (pe_ls1 (pa_cons pe_int pa_nil)) (pa_cons (pe_tup (pa_cons pe_str (pa_cons pe_int pa_nil))) (pa_cons (pe_tup (pa_cons pe_str (pa_cons pe_str pa_nil))) (pa_cons (pe_tup (pa_cons pe_str (pa_cons pe_str pa_nil))) (pa_cons (pe_tup (pa_cons pe_str (pa_cons pe_str (pa_cons pe_str pa_nil)))) (pa_cons (pe_disp (pps_cons pe_str pe_str pps_nil) (by rfl) (by rfl) (fun z => by cases z) (by decide)) (pa_cons pe_str (pa_cons (pe_tup (pa_cons (pe_op op_mulS pe_str pe_int) (pa_cons pe_str pa_nil))) pa_nil)))))))))))
      (pss_one (ps_ret (pe_cG c_lpick hg hr (by decide) pass0 (pa_cons (pv 0) (pa_cons (pe_op op_cat (pv 1) (pe_lst (pa_cons (pe_tup (pa_cons pe_str (pa_cons (pe_op op_mulS pe_str pe_int) pa_nil))) (pa_cons (pe_op op_mulS pe_str pe_int) (pa_cons (pe_op op_mulS pe_str pe_int) (pa_cons (pe_tup (pa_cons pe_int (pa_cons pe_int pa_nil))) (pa_cons (pe_ls1 pa_nil) (pa_cons (pe_tup (pa_cons pe_str (pa_cons pe_non pa_nil))) pa_nil)))))))) pa_nil))))))), ?_⟩
    refine seq_asg (mk2_many (ds := ds1) ?m1 ?l1 fun q1 xs1 H1 s1 hq1 t1 n1 => ?_)
    case m1 => repeat' (first | exact mks2_nil | refine mks2_cons ?_ ?_ | exact mk2_dnew | exact mk2_disp | refine mk2_tup ?_ (Nat.le_of_ble_eq_true rfl) | refine mk2_lst ?_ (Nat.le_of_ble_eq_true rfl) | exact mas_nil | refine mas_cons ?_ ?_ | exact ma_non | exact ma_bl | exact ma_int | exact ma_str | exact ma_neg | exact ma_pow ⟨by decide, by decide, by decide⟩ | exact ma_mul ⟨by decide, by decide, by decide, by decide +kernel⟩ | refine mk2_atm ?_)
    case l1 => exact Nat.le_of_ble_eq_true rfl
    refine seq_asg ⟨_, rfl, mk2_many (ds := ds2) ?m2 ?l2 fun q2 xs2 H2 s2 hq2 t2 n2 => ?_⟩
    case m2 => repeat' (first | exact mks2_nil | refine mks2_cons ?_ ?_ | exact mk2_dnew | exact mk2_disp | refine mk2_tup ?_ (Nat.le_of_ble_eq_true rfl) | refine mk2_lst ?_ (Nat.le_of_ble_eq_true rfl) | exact mas_nil | refine mas_cons ?_ ?_ | exact ma_non | exact ma_bl | exact ma_int | exact ma_str | exact ma_neg | exact ma_pow ⟨by decide, by decide, by decide⟩ | exact ma_mul ⟨by decide, by decide, by decide, by decide +kernel⟩ | refine mk2_atm ?_)
    case l2 => exact Nat.le_of_ble_eq_true rfl
    refine ⟨q1, q2, xs1, xs2, rfl, rfl, s2 _ _ hq1, hq2, few_len (by rw [paired_len t1, paired_len t2]; exact Nat.le_of_ble_eq_true rfl), fun q3 hq3 => ?_⟩
    refine ⟨_, rfl, _, rfl, mk2_many (ds := ds3) ?m3 ?l3 fun q4 xs4 H4 s4 hq4 t4 n4 => ?_⟩
    case m3 => repeat' (first | exact mks2_nil | refine mks2_cons ?_ ?_ | exact mk2_dnew | exact mk2_disp | refine mk2_tup ?_ (Nat.le_of_ble_eq_true rfl) | refine mk2_lst ?_ (Nat.le_of_ble_eq_true rfl) | exact mas_nil | refine mas_cons ?_ ?_ | exact ma_non | exact ma_bl | exact ma_int | exact ma_str | exact ma_neg | exact ma_pow ⟨by decide, by decide, by decide⟩ | exact ma_mul ⟨by decide, by decide, by decide, by decide +kernel⟩ | refine mk2_atm ?_)
    case l3 => exact Nat.le_of_ble_eq_true rfl
    refine ⟨q3, q4, _, xs4, rfl, rfl, s4 _ _ upd_same, hq4, few_len (by rw [List.length_append, paired_len t1, paired_len t2, paired_len t4]; exact Nat.le_of_ble_eq_true rfl), fun q5 hq5 => ?_⟩
    have g5 : Same H (upd H4 q5 (.lst (xs1 ++ xs2 ++ xs4))) := (((s1.trans s2).trans (same_new hq3)).trans s4).trans (same_new hq5)
    have a5 : Paired (Th (upd H4 q5 (.lst (xs1 ++ xs2 ++ xs4)))) (xs1 ++ xs2 ++ xs4) (ds1 ++ ds2 ++ ds3) := paired_app (paired_app (ths_keep (((s2.trans (same_new hq3)).trans s4).trans (same_new hq5)) t1) (ths_keep (((same_new hq3).trans s4).trans (same_new hq5)) t2)) (ths_keep (same_new hq5) t4)
    refine ⟨p, c, .ref q5, _, T0, rfl, .lst (SqL.of upd_same), ?_, ?_, hpen.stay g5, hT, fun v H6 m6 P6 x6 => ?_⟩
    · exact fun z => nomatch (congrArg List.length z).symm.trans (paired_len a5)
    · rw [paired_len a5]; exact Nat.le_of_ble_eq_true rfl
    · obtain ⟨d, hd, td⟩ := paired_mem a5 m6
      have nv : New H v := by
        rcases List.mem_append.mp m6 with m6 | m6
        · rcases List.mem_append.mp m6 with m6 | m6
          · exact n1 v m6
          · exact (n2 v m6).same s1
        · exact (n4 v m6).same ((s1.trans s2).trans (same_new hq3))
      refine k v d H6 (td.ext (hpen.stay g5) x6) ?_ nv P6 ((Ext.same g5).trans x6)
      exact List.all_eq_true.mp (by decide +kernel) d hd

end
end Vk
set_option Elab.async false
set_option maxRecDepth 100000
set_option linter.all false
set_option maxHeartbeats 4000000
namespace Vk
open PySem PySem.Spec PyProof.Rows L2
section
variable {P : Program} {w : World} {K : PySem.W.Frag} {mg : Str → Option Value} {base : Heap}
def aroundW (n b k : Nat) : List (Nat × Nat) := (List.range k).flatMap fun i => (List.range' (max b (i + 1)) (n + 1 - max b (i + 1))).map fun e => (i, e)
theorem aroundW_succ {n b k : Nat} : aroundW n b (k + 1) = aroundW n b k ++ (List.range' (max b (k + 1)) (n + 1 - max b (k + 1))).map fun e => (k, e) := by
  unfold aroundW
  rw [List.range_succ, List.flatMap_append]
  simp
theorem aroundW_len {n b : Nat} : ∀ {k : Nat}, (aroundW n b k).length ≤ k * n
  | 0 => by simp [aroundW]
  | k + 1 => by
    have := aroundW_len (n := n) (b := b) (k := k)
    rw [aroundW_succ, List.length_append, List.length_map, List.length_range', Nat.succ_mul]
    omega
theorem aroundW_mem {n b k : Nat} {p : Nat × Nat} (h : p ∈ aroundW n b k) : p.1 < p.2 ∧ p.2 ≤ n ∧ p.1 < k := by
  unfold aroundW at h
  rw [List.mem_flatMap] at h
  obtain ⟨i, hi, h⟩ := h
  obtain ⟨e, he, rfl⟩ := List.mem_map.mp h
  have := List.mem_range'_1.mp he
  exact ⟨by show i < e; omega, by show e ≤ n; omega, List.mem_range.mp hi⟩
def spAround : Sp := fun vs H Q _ => ∃ (x : Str) (a b : Nat), vs = [.str x, .int (a : Nat), .int (b : Nat)] ∧ x.length ≤ 20 ∧ a ≤ x.length ∧ b ≤ x.length ∧ ∀ (l : Addr) xs H', H l = none → H' l = some (.lst xs) → PrN H' xs (aroundW x.length b (a + 1)) → Same H H' → Q (.ref l) H'
abbrev s_lnaround : Stmt := top 60
theorem sc_lnaround : FnScope ["_law_text_here", "_law_a", "_law_b", "_law_found", "_law_k", "_law_tip"] ["_law_text_here", "_law_a", "_law_b"] (defScope s_lnaround) := ⟨rfl, rfl, rfl, by decide +kernel, rfl, by decide +kernel, by decide +kernel⟩
theorem b_lnaround {f : Addr} {fd : FuncData} (F : Fun K "_law_naround" "_law_naround" s_lnaround f fd) (T : Txt mg) : FnG P w K mg base CX0 1 f fd ["_law_text_here", "_law_a", "_law_b"] spAround := by
  refine okG0 F sc_lnaround (fun vs H Q E h => ?_) (fun cdv A outer s H vs Q E hg hr h => ?_)
  · obtain ⟨x, a, b, rfl, _⟩ := h
    rfl
  · have hu := hu_of hr
    have hu64 := hr.units
    obtain ⟨x, a, b, rfl, hx, ha, hb, k⟩ := h
    have xl : x.length ≤ sizeLine := Nat.le_of_lt (fewL (by omega))
    refine ⟨_, (pss_cons (ps_set (i := 3) sc_lnaround.nd rfl (Or.inl rfl) (pe_lst pa_nil))
      (pss_cons (ps_for PassesOwn.never rfl (pi_range1 rfl T.range (pa_cons (pe_op op_add (pv 1) pe_int) pa_nil)) (pg_name (i := 4) sc_lnaround.nd rfl (Or.inr rfl)) (pss_one (ps_expr (pe_bm PySem.F.plainAttrs_list PySem.F.slot_list_extend PySem.F.type_list_extend mt_extend (pv 3) (pa_cons (pe_lc (own := [("_law_tip", 5)]) (g := gName 5) (tt := tYes) rfl sc_lnaround.nd (pi_range2 rfl T.range (pa_cons (pe_callB (call_max2 rfl) (by rfl) T.max (by decide +kernel) (pa_cons (pv 2) (pa_cons (pe_op op_add (pv 4) pe_int) pa_nil))) (pa_cons (pe_op op_add (pe_callB call_len (by rfl) T.len (by decide +kernel) (pa_cons (pv 0) pa_nil)) pe_int) pa_nil))) (blkOk_by (own := [("_law_tip", 5)]) (N := ["_law_text_here", "_law_a", "_law_b", "_law_found", "_law_k", "_law_tip"]) (sc := defScope s_lnaround) (by decide +kernel)) (fun _ _ _ _ _ => (pg_name (i := 5) sc_lnaround.nd rfl (Or.inl rfl))) (fun _ _ _ _ _ => pts_nil) (fun _ _ _ _ _ => (pe_tup (pa_cons (pv 4) (pa_cons (pv 5) pa_nil))))) pa_nil)))))
      (pss_one (ps_ret (pv 3))))), ?_⟩
    refine ⟨by show 0 ≤ sizeLine; decide, fun lr hlr => ?_⟩
    have slr := same_new (o := .lst []) hlr
    refine ⟨_, rfl, _, _, rfl, rfl, _, rfl, by omega, by omega, ?_⟩
    refine for_range (lo := 0) (n := (((a : Nat) : Int) + 1).toNat) (fun q σ H' => ∃ (o4 o5 : Option V) (xs : List V), σ = [some (.str x), some (.int (a : Nat)), some (.int (b : Nat)), some (.ref lr), o4, o5] ∧ H' lr = some (.lst xs) ∧ PrN H' xs (aroundW x.length b q) ∧ Same H H') ?_ ?_ ?_
    · exact ⟨_, _, [], rfl, upd_same, .nil, slr⟩
    · rintro q σ H9 hq ⟨o8, o9, xs, rfl, hl9, tr9, s9⟩
      have gl := paired_len tr9
      have gr := aroundW_len (n := x.length) (b := b) (k := q)
      rw [Int.zero_add]
      refine ⟨_, rfl, .inl ⟨rfl, _, SqL.of hl9⟩, ?_⟩
      refine ⟨_, rfl, _, rfl, _, _, rfl, rfl, _, _, rfl, _, rfl, _, _, rfl, ⟨xl, rfl⟩, _, _, rfl, rfl, _, _, rfl, ?_⟩
      have em : (if ((q : Nat) : Int) + 1 > ((b : Nat) : Int) then ((q : Nat) : Int) + 1 else ((b : Nat) : Int)) = ((max b (q + 1) : Nat) : Int) := by split <;> omega
      rw [em]
      have rs := aroundW_succ (n := x.length) (b := b) (k := q)
      generalize hm : max b (q + 1) = m at rs ⊢
      have hmx : m ≤ x.length + 1 := by omega
      refine ⟨⟨by omega, by omega, by omega, by omega⟩, fun D hD => ?_⟩
      have sD := same_new (o := .lst []) hD
      refine lc_range (lo := (m : Int)) (n := (((x.length : Nat) : Int) + 1 - (m : Int)).toNat) (fun j H' => ∃ us, H' D = some (.lst us) ∧ PrN H' us ((List.range' m j).map fun e => (q, e)) ∧ Same H9 H') ?_ ?_ ?_
      · exact ⟨[], upd_same, .nil, sD⟩
      · rintro j H10 hj ⟨us, hD10, tr10, s10⟩
        have gu := paired_len tr10
        rw [List.length_map, List.length_range'] at gu
        have eb : (m : Int) + (j : Nat) = ((m + j : Nat) : Int) := by omega
        rw [eb]
        refine ⟨rfl, _, rfl, _, rfl, by show 2 ≤ sizeLine; decide, fun u hu => ?_⟩
        have su := same_new (o := .tup [.int ((q : Nat) : Int), .int ((m + j : Nat) : Int)]) hu
        have hDu := su _ _ hD10
        refine ⟨_, hDu, fewL (by omega), us ++ [.ref u], upd_same, ?_, upd_out hD (s10.trans su)⟩
        rw [List.range'_concat, List.map_append, Nat.one_mul]
        exact Paired.snoc ((tr10.keep su).keepT (upd_list hDu)) ⟨u, rfl, upd_list hDu _ _ upd_same⟩
      · rintro H10 ⟨us, hD10, tr10, s10⟩
        have hl10 := s10 _ _ hl9
        have gu := paired_len tr10
        rw [List.length_map, List.length_range'] at gu
        have gq : q * x.length ≤ 20 * 20 := Nat.mul_le_mul (by omega) hx
        refine ⟨lr, D, _, _, rfl, rfl, hl10, hD10, Nat.le_of_lt (fewL (by omega)), ?_⟩
        refine ⟨_, _, xs ++ us, rfl, upd_same, ?_, upd_out hlr (s9.trans s10)⟩
        rw [show (((x.length : Nat) : Int) + 1 - (m : Int)).toNat = x.length + 1 - m by omega] at tr10
        rw [rs]
        have pp : PrN H10 (xs ++ us) _ := paired_app (tr9.keep s10) tr10
        exact pp.keepT (upd_list hl10)
    · rintro σ H9 ⟨o8, o9, xs, rfl, hl9, tr9, s9⟩
      rw [show (((a : Nat) : Int) + 1).toNat = a + 1 by omega] at tr9
      exact ⟨_, rfl, k lr xs H9 hlr hl9 tr9 s9⟩

def innerB (s o : Nat × Nat) : Bool := decide (o ≠ s) && (decide (s.1 ≤ o.1) && decide (o.2 ≤ s.2))
def leastW (ws : List (Nat × Nat)) : List (Nat × Nat) := ws.filter fun s => (ws.filter (innerB s)).isEmpty
def spLeast : Sp := fun vs H Q _ => ∃ (l : Addr) (xs : List V) (ws : List (Nat × Nat)), vs = [.ref l] ∧ H l = some (.lst xs) ∧ PrN H xs ws ∧ ws.length ≤ 1000 ∧ ∀ (l2 : Addr) ys H', H l2 = none → H' l2 = some (.lst ys) → PrN H' ys (leastW ws) → Same H H' → Q (.ref l2) H'
theorem pD_eq (p q : Nat × Nat) : PyData.eqv (pD p) (pD q) = decide (p = q) := by
  obtain ⟨a, b⟩ := p
  obtain ⟨c, d⟩ := q
  show (decide ((a : Int) = (c : Int)) && (decide ((b : Int) = (d : Int)) && true)) = decide ((a, b) = (c, d))
  rw [Bool.and_true, Bool.eq_iff_iff, Bool.and_eq_true, decide_eq_true_eq, decide_eq_true_eq, decide_eq_true_eq, Prod.mk.injEq]
  constructor
  · intro h; exact ⟨by omega, by omega⟩
  · intro h; exact ⟨by omega, by omega⟩
theorem pD_shaped (p : Nat × Nat) : SeqAt.shaped (pD p) = true := by
  obtain ⟨a, b⟩ := p
  rfl
abbrev s_lnleast : Stmt := top 61
theorem sc_lnleast : FnScope ["_law_spans", "_law_found", "_law_span", "_law_inner", "_law_own"] ["_law_spans"] (defScope s_lnleast) := ⟨rfl, rfl, rfl, by decide +kernel, rfl, by decide +kernel, by decide +kernel⟩
theorem b_lnleast {f : Addr} {fd : FuncData} (F : Fun K "_law_nleast" "_law_nleast" s_lnleast f fd) (T : Txt mg) : FnG P w K mg base CX0 1 f fd ["_law_spans"] spLeast := by
  refine okG0 F sc_lnleast (fun vs H Q E h => ?_) (fun cdv A outer s H vs Q E hg hr h => ?_)
  · obtain ⟨l, xs, ws, rfl, _⟩ := h
    rfl
  · have hu := hu_of hr
    have hu64 := hr.units
    obtain ⟨l, xs, ws, rfl, hl, pw, lw, k⟩ := h
    have hlen := paired_len pw
    refine ⟨_, (pss_cons (ps_set (i := 1) sc_lnleast.nd rfl (Or.inl rfl) (pe_lst pa_nil))
      (pss_cons (ps_for PassesOwn.never rfl (pi_list (pv 0)) (pg_name (i := 2) sc_lnleast.nd rfl (Or.inr rfl)) (pss_cons (ps_setLc (i := 3) (own := [("_law_own", 4)]) (g := gName 4) rfl sc_lnleast.nd rfl rfl (sw_true rfl rfl rfl (by decide +kernel)) (pi_list (pv 0)) (blkOk_by (own := [("_law_own", 4)]) (N := ["_law_spans", "_law_found", "_law_span", "_law_inner", "_law_own"]) (sc := defScope s_lnleast) (by decide +kernel)) (fun _ _ _ _ _ => (pg_name (i := 4) sc_lnleast.nd rfl (Or.inl rfl))) (fun _ _ _ _ _ => (pts_one (PW.pt (pw_and (pt_cmpR (op_neDK rfl hu64) (pv 4) (pv 2) (nomark _)) (pw_and (pt_cmpR op_le (pe_ix (ix_tupK (K := K) rfl) (pv 2) pe_int (fun _ _ => rfl)) (pe_ix (ix_tupK (K := K) rfl) (pv 4) pe_int (fun _ _ => rfl)) (nomark _)) (pw_and1 (pt_cmpR op_le (pe_ix (ix_tupK (K := K) rfl) (pv 4) pe_int (fun _ _ => rfl)) (pe_ix (ix_tupK (K := K) rfl) (pv 2) pe_int (fun _ _ => rfl)) (nomark _)))))))) (fun _ _ _ _ _ => (pv 4)))
      (pss_one (ps_set (i := 1) sc_lnleast.nd rfl (Or.inl rfl) (pe_op op_cat (pv 1) (pe_op op_rep (pe_lst (pa_cons (pv 2) pa_nil)) (pe_callTy call_int1 (by rfl) T.int (by decide +kernel) (pa_cons (pe_cmpR (op_eqD hu64) (pv 3) (pe_lst pa_nil) (nomark _)) pa_nil))))))))
      (pss_one (ps_ret (pv 1))))), ?_⟩
    refine ⟨by show 0 ≤ sizeLine; decide, fun lr hlr => ?_⟩
    have slr := same_new (o := .lst []) hlr
    refine ⟨_, rfl, l, rfl, ⟨_, SqL.of (slr _ _ hl)⟩, ?_⟩
    refine for_list (xs := xs) (fun i σ H' => ∃ (lf : Addr) (o2 o3 o4 : Option V) (ys : List V), σ = [some (.ref l), some (.ref lf), o2, o3, o4] ∧ H lf = none ∧ H' lf = some (.lst ys) ∧ PrN H' ys ((ws.take i).filter fun s => (ws.filter (innerB s)).isEmpty) ∧ Same H H') ?_ ?_ ?_ ?_
    · exact ⟨lr, _, _, _, [], rfl, hlr, upd_same, .nil, slr⟩
    · rintro i σ H' _ ⟨lf, o2, o3, o4, ys, rfl, _, _, _, sm⟩
      exact SqL.of (sm _ _ hl)
    · rintro i v σ H2 hv ⟨lf, o2, o3, o4, ys, rfl, hlf0, hlf, py, s2⟩
      obtain ⟨r, hr1, t, rfl, ht⟩ := paired_at pw hv
      have pw2 := pw.keep s2
      have hl2 := s2 _ _ hl
      have ht2 := s2 _ _ ht
      have gy := paired_len py
      have gf := List.length_filter_le (fun s => (ws.filter (innerB s)).isEmpty) (ws.take i)
      rw [List.length_take] at gf
      refine ⟨_, rfl, l, rfl, ⟨_, SqL.of hl2⟩, fun D hD => ?_⟩
      have sD := same_new (o := .lst []) hD
      refine lc_list (K := K) (a := l) (xs := xs) (fun n H' => ∃ us, H' D = some (.lst us) ∧ PrN H' us ((ws.take n).filter (innerB r)) ∧ Same H2 H') ?_ ?_ ?_ ?_
      · exact ⟨[], upd_same, .nil, sD⟩
      · rintro n H' _ ⟨_, _, _, sm⟩
        exact SqL.of (sm _ _ hl2)
      · rintro n v H' hv' ⟨us, hDz, pu, sm⟩
        obtain ⟨o, ho1, t', rfl, ht'⟩ := paired_at pw2 hv'
        have gu := paired_len pu
        have gf2 := List.length_filter_le (innerB r) (ws.take n)
        rw [List.length_take] at gf2
        have snoc : (ws.take (n + 1)).filter (innerB r) = (ws.take n).filter (innerB r) ++ (if innerB r o = true then [o] else []) := by
          rw [List.take_add_one, ho1, Option.toList_some, List.filter_append]
          cases hB : innerB r o with
          | true => rw [if_pos rfl]; simp [hB]
          | false => rw [if_neg Bool.false_ne_true]; simp [hB]
        have ht3 := sm _ _ ht2
        have ho3 := sm _ _ ht'
        refine ⟨rfl, _, rfl, _, rfl, pD o, pD r, .tup (SqT.of ho3) (.cons (.int _) (.cons (.int _) .nil)), .tup (SqT.of ht3) (.cons (.int _) (.cons (.int _) .nil)), pD_shaped o, pD_shaped r, _, rfl, ?_⟩
        rw [pD_eq, snoc]
        have eB : innerB r o = (decide (o ≠ r) && (decide (r.1 ≤ o.1) && decide (o.2 ≤ r.2))) := rfl
        have no : innerB r o = false → ∃ us, H' D = some (.lst us) ∧ PrN H' us ((ws.take n).filter (innerB r) ++ (if innerB r o = true then [o] else [])) ∧ Same H2 H' := fun h => by
          rw [h, if_neg Bool.false_ne_true, List.append_nil]
          exact ⟨us, hDz, pu, sm⟩
        by_cases c1 : o = r
        · rw [decide_eq_true c1]
          exact iteF (iteF (no (by rw [eB, decide_eq_false (fun z => z c1), Bool.false_and])))
        rw [decide_eq_false c1]
        refine iteT ⟨_, rfl, t, _, 0, _, rfl, rfl, SqT.of ht3, rfl, _, rfl, t', _, 0, _, rfl, rfl, SqT.of ho3, rfl, _, _, rfl, rfl, _, rfl, ?_⟩
        rw [show decide (((r.1 : Nat) : Int) ≤ ((o.1 : Nat) : Int)) = decide (r.1 ≤ o.1) from decide_eq_decide.mpr (by omega)]
        cases c2 : decide (r.1 ≤ o.1) with
        | false => exact iteF (iteF (no (by rw [eB, c2, Bool.false_and, Bool.and_false])))
        | true =>
          refine iteT ⟨_, rfl, t', _, 1, _, rfl, rfl, SqT.of ho3, rfl, _, rfl, t, _, 1, _, rfl, rfl, SqT.of ht3, rfl, _, _, rfl, rfl, _, rfl, ?_⟩
          rw [show decide (((o.2 : Nat) : Int) ≤ ((r.2 : Nat) : Int)) = decide (o.2 ≤ r.2) from decide_eq_decide.mpr (by omega)]
          cases c3 : decide (o.2 ≤ r.2) with
          | false => exact iteF (no (by rw [eB, c3, Bool.and_false, Bool.and_false]))
          | true =>
            have yes : innerB r o = true := by
              rw [eB, c2, c3, decide_eq_true c1]
              rfl
            have yes2 : (if innerB r o = true then [o] else []) = [o] := by rw [yes, if_pos rfl]
            rw [yes2]
            refine iteT ⟨_, rfl, _, hDz, fewL (by omega), us ++ [.ref t'], upd_same, ?_, upd_out hD sm⟩
            exact Paired.snoc (pu.keepT (upd_list hDz)) ⟨t', rfl, upd_list hDz _ _ ho3⟩
      rintro H3 ⟨us, hD3, pu, s3⟩
      rw [List.take_of_length_le (by omega)] at pu
      have gu := paired_len pu
      refine ⟨_, rfl, _, rfl, by show 1 ≤ sizeLine; decide, fun q1 hq1 => ?_⟩
      have sq1 := same_new (o := .lst [.ref t]) hq1
      refine ⟨_, rfl, by show 0 ≤ sizeLine; decide, fun q2 hq2 => ?_⟩
      have sq2 := same_new (o := .lst []) hq2
      have s12 := sq1.trans sq2
      refine ⟨_, _, .lst (SqL.of (s12 _ _ hD3)) (prs_dp (pu.keep s12)), .lst (SqL.of upd_same) .nil, pDs_shaped _, by decide, .inr ⟨_, rfl, ?_⟩⟩
      rw [pDs_nil]
      have erep : (List.replicate (if (ws.filter (innerB r)).isEmpty = true then (1 : Int) else 0).toNat [V.ref t]).flatten = (if (ws.filter (innerB r)).isEmpty = true then [V.ref t] else []) := by
        cases (ws.filter (innerB r)).isEmpty <;> rfl
      refine ⟨q1, _, _, rfl, rfl, sq2 _ _ upd_same, by split <;> omega, by split <;> omega, (by split; exact (show 1 * 1 ≤ sizeLine by decide); exact (show 1 * 0 ≤ sizeLine by decide)), fun q3 hq3 => ?_⟩
      rw [erep]
      have sq3 := same_new (o := .lst (if (ws.filter (innerB r)).isEmpty = true then [V.ref t] else [])) hq3
      have yl : (if (ws.filter (innerB r)).isEmpty = true then [V.ref t] else []).length ≤ 1 := by split; exact Nat.le_refl 1; exact Nat.zero_le 1
      have s33 := s12.trans sq3
      refine ⟨lf, q3, _, _, rfl, rfl, s33 _ _ (s3 _ _ hlf), upd_same, Nat.le_of_lt (fewL (by omega)), fun q4 hq4 => ?_⟩
      have sq4 := same_new (o := .lst (ys ++ (if (ws.filter (innerB r)).isEmpty = true then [V.ref t] else []))) hq4
      have s24 := (s3.trans s33).trans sq4
      refine ⟨q4, _, _, _, _, rfl, none_up ((s2.trans s3).trans s33) hq4, upd_same, ?_, s2.trans s24⟩
      have py4 := py.keep s24
      rw [List.take_add_one, hr1, Option.toList_some, List.filter_append]
      have one : PrN (upd (upd (upd (upd H3 q1 (.lst [.ref t])) q2 (.lst [])) q3 (.lst (if (ws.filter (innerB r)).isEmpty = true then [V.ref t] else []))) q4 (.lst (ys ++ (if (ws.filter (innerB r)).isEmpty = true then [V.ref t] else [])))) (if (ws.filter (innerB r)).isEmpty = true then [V.ref t] else []) ([r].filter fun s => (ws.filter (innerB s)).isEmpty) := by
        cases e : (ws.filter (innerB r)).isEmpty with
        | true =>
          rw [List.filter_cons, e]
          exact .cons ⟨t, rfl, by rw [e] at s24; exact s24 _ _ ht2⟩ .nil
        | false =>
          rw [List.filter_cons, e]
          exact .nil
      exact paired_app py4 one
    · rintro σ H2 ⟨lf, o2, o3, o4, ys, rfl, hlf0, hlf, py, s2⟩
      rw [List.take_of_length_le (by omega)] at py
      exact ⟨_, rfl, k lf ys H2 hlf0 hlf py s2⟩

end
end Vk
set_option Elab.async false
set_option maxRecDepth 100000
set_option linter.all false
set_option maxHeartbeats 4000000
namespace Vk
open PySem PySem.Spec PyProof.Rows L2
section
variable {P : Program} {w : World} {K : PySem.W.Frag} {mg : Str → Option Value} {base : Heap}
def winW (x : Str) (a b : Nat) : List (Nat × Nat) := leastW ((aroundW x.length b (a + 1)).filter fun p => !twB x p.1 p.2)
def spNwin : Sp := fun vs H Q _ => ∃ (x : Str) (a b : Nat), vs = [.str x, .int (a : Nat), .int (b : Nat)] ∧ x.length ≤ 20 ∧ a ≤ x.length ∧ b ≤ x.length ∧ ∀ (l : Addr) (ys : List V) H', H l = none → H' l = some (.lst ys) → PrN H' ys (winW x a b) → Same H H' → Q (.ref l) H'
abbrev s_lnwindows : Stmt := top 62
theorem sc_lnwindows : FnScope ["_law_text_here", "_law_a", "_law_b", "_law_span"] ["_law_text_here", "_law_a", "_law_b"] (defScope s_lnwindows) := ⟨rfl, rfl, rfl, by decide +kernel, rfl, by decide +kernel, by decide +kernel⟩
theorem b_lnwindows {f : Addr} {fd : FuncData} (F : Fun K "_law_nwindows" "_law_nwindows" s_lnwindows f fd) (T : Txt mg) (c_lnonce : CalG P w K mg base CX0 2 "_law_nonce" spNonce) (c_lnaround : CalG P w K mg base CX0 1 "_law_naround" spAround) (c_lnleast : CalG P w K mg base CX0 1 "_law_nleast" spLeast) : FnG P w K mg base CX0 3 f fd ["_law_text_here", "_law_a", "_law_b"] spNwin := by
  refine okG0 F sc_lnwindows (fun vs H Q E h => ?_) (fun cdv A outer s H vs Q E hg hr h => ?_)
  · obtain ⟨x, a, b, rfl, _⟩ := h
    rfl
  · have hu := hu_of hr
    have hu64 := hr.units
    obtain ⟨x, a, b, rfl, hx, ha, hb, k⟩ := h
    have hr2 : Room 2 _ := hr
    have gw := aroundW_len (n := x.length) (b := b) (k := a + 1)
    have gw2 : (a + 1) * x.length ≤ 21 * 20 := Nat.mul_le_mul (by omega) hx
    refine ⟨_, (pss_one (ps_ret (pe_cG c_lnleast hg hr (by decide) pass0 (pa_cons (pe_lc (own := [("_law_span", 3)]) (g := gName 3) rfl sc_lnwindows.nd (pi_list (pe_cG c_lnaround hg hr (by decide) pass0 (pa_cons (pv 0) (pa_cons (pv 1) (pa_cons (pv 2) pa_nil))))) (blkOk_by (own := [("_law_span", 3)]) (N := ["_law_text_here", "_law_a", "_law_b", "_law_span"]) (sc := defScope s_lnwindows) (by decide +kernel)) (fun _ _ _ _ _ => (pg_name (i := 3) sc_lnwindows.nd rfl (Or.inl rfl))) (fun _ _ _ _ _ => (pts_one (pt_val (pe_cG c_lnonce hg hr (by decide) pass0 (pa_cons (pv 0) (pa_cons (pe_ix (ix_tupK (K := K) rfl) (pv 3) pe_int (fun _ _ => rfl)) (pa_cons (pe_ix (ix_tupK (K := K) rfl) (pv 3) pe_int (fun _ _ => rfl)) pa_nil))))))) (fun _ _ _ _ _ => (pv 3))) pa_nil)))), ?_⟩
    refine ⟨_, rfl, _, rfl, _, rfl, x, a, b, rfl, hx, ha, hb, fun la xa H4 hla hla4 pa s4 => ?_⟩
    refine ⟨la, rfl, ⟨_, SqL.of hla4⟩, fun D hD => ?_⟩
    have sD := same_new (o := .lst []) hD
    have gxa := paired_len pa
    refine lc_list (K := K) (a := la) (xs := xa) (fun n H' => ∃ us, H' D = some (.lst us) ∧ PrN H' us (((aroundW x.length b (a + 1)).take n).filter fun p => !twB x p.1 p.2) ∧ Same H4 H') ?_ ?_ ?_ ?_
    · exact ⟨[], upd_same, .nil, sD⟩
    · rintro n H' _ ⟨_, _, _, sm⟩
      exact SqL.of (sm _ _ hla4)
    · rintro n v H' hv ⟨us, hDz, pu, sm⟩
      obtain ⟨r, hr1, t, rfl, ht⟩ := paired_at pa hv
      have hn := (List.getElem?_eq_some_iff.mp hr1).1
      have hw := aroundW_mem (List.mem_of_getElem? hr1)
      have gu := paired_len pu
      have gf := List.length_filter_le (fun p : Nat × Nat => !twB x p.1 p.2) ((aroundW x.length b (a + 1)).take n)
      rw [List.length_take] at gf
      refine ⟨rfl, _, rfl, _, rfl, t, _, _, _, rfl, rfl, SqT.of (sm _ _ ht), rfl, _, rfl, t, _, _, _, rfl, rfl, SqT.of (sm _ _ ht), rfl, x, r.1, r.2, rfl, by omega, fun _ => hw.2.1, fun H'' s'' => ⟨_, rfl, ?_⟩⟩
      have hDz2 := s'' _ _ hDz
      have pu2 := pu.keep s''
      have sm2 := sm.trans s''
      rw [List.take_add_one, hr1, Option.toList_some, List.filter_append]
      cases c : twB x r.1 r.2 with
      | false =>
        have e : [r].filter (fun p : Nat × Nat => !twB x p.1 p.2) = [r] := by simp [c]
        rw [e, decide_eq_true ⟨hw.1, rfl⟩]
        refine iteT ⟨_, rfl, _, hDz2, fewL (by omega), us ++ [.ref t], upd_same, Paired.snoc (pu2.keepT (upd_list hDz2)) ⟨t, rfl, upd_list hDz2 _ _ (sm2 _ _ ht)⟩, upd_out hD sm2⟩
      | true =>
        have e : [r].filter (fun p : Nat × Nat => !twB x p.1 p.2) = [] := by simp [c]
        rw [e, List.append_nil, decide_eq_false (fun z => nomatch z.2)]
        exact iteF ⟨us, hDz2, pu2, sm2⟩
    rintro H5 ⟨us, hD5, pu, s5⟩
    rw [List.take_of_length_le (by omega)] at pu
    have gf := List.length_filter_le (fun p : Nat × Nat => !twB x p.1 p.2) (aroundW x.length b (a + 1))
    refine ⟨D, us, _, rfl, hD5, pu, by omega, fun l2 ys H6 hl2 hl6 py s6 => ?_⟩
    exact k l2 ys H6 (none_up (s4.trans s5) hl2) hl6 py ((s4.trans s5).trans s6)

def spSpot : Sp := fun vs H Q _ => ∃ (p c : Addr) (x : Str) (T : Nat), vs = [.ref p, .str x] ∧ x.length ≤ 100 ∧ Pen H p c T ∧ T + 1000 < 1000000000 ∧
  ∀ (t : Addr) (a b : Int) (H' : Hp), H' t = some (.tup [.int a, .int b]) → 0 ≤ a → a ≤ b → b ≤ x.length → Pen H' p c (T + 10) → Ext p H H' → Q (.ref t) H'
abbrev s_lnspot : Stmt := top 63
theorem sc_lnspot : FnScope ["_law_pen_here", "_law_text_here", "_law_size", "_law_a"] ["_law_pen_here", "_law_text_here"] (defScope s_lnspot) := ⟨rfl, rfl, rfl, by decide +kernel, rfl, by decide +kernel, by decide +kernel⟩
theorem b_lnspot {f : Addr} {fd : FuncData} (F : Fun K "_law_nspot" "_law_nspot" s_lnspot f fd) (T : Txt mg) (c_ldraw : CalG P w K mg base CX0 1 "_law_draw" spDraw) (c_lpick : CalG P w K mg base CX0 2 "_law_pick" (spPick K)) : FnG P w K mg base CX0 3 f fd ["_law_pen_here", "_law_text_here"] spSpot := by
  refine okG0 F sc_lnspot (fun vs H Q E h => ?_) (fun cdv A outer s H vs Q E hg hr h => ?_)
  · obtain ⟨p, pc, x, T0, rfl, _⟩ := h
    rfl
  · have hu := hu_of hr
    have hu64 := hr.units
    obtain ⟨p, pc, x, T0, rfl, hx, hpen, hT, k⟩ := h
    have hr2 : Room 2 _ := hr
    have xl : x.length ≤ sizeLine := Nat.le_of_lt (fewL (by omega))
    refine ⟨_, (pss_cons (ps_set (i := 2) sc_lnspot.nd rfl (Or.inl rfl) (pe_callB call_len (by rfl) T.len (by decide +kernel) (pa_cons (pv 1) pa_nil)))
      (pss_cons (ps_set (i := 3) sc_lnspot.nd rfl (Or.inl rfl) (pe_cG c_lpick hg hr (by decide) pass0 (pa_cons (pv 0) (pa_cons (pe_lst (pa_cons pe_int (pa_cons (pv 2) (pa_cons (pe_cG c_ldraw hg hr (by decide) pass0 (pa_cons (pv 0) (pa_cons (pe_op op_add (pv 2) pe_int) pa_nil))) (pa_cons (pe_cG c_ldraw hg hr (by decide) pass0 (pa_cons (pv 0) (pa_cons (pe_op op_add (pv 2) pe_int) pa_nil))) pa_nil))))) pa_nil))))
      (pss_one (ps_ret (pe_tup (pa_cons (pv 3) (pa_cons (pe_cG c_lpick hg hr (by decide) pass0 (pa_cons (pv 0) (pa_cons (pe_lst (pa_cons (pv 3) (pa_cons (pv 2) (pa_cons (pe_op op_add (pv 3) (pe_cG c_ldraw hg hr (by decide) pass0 (pa_cons (pv 0) (pa_cons (pe_op op_add (pe_op op_sub (pv 2) (pv 3)) pe_int) pa_nil)))) (pa_cons (pe_callB (call_min2 rfl) (by rfl) T.min (by decide +kernel) (pa_cons (pv 2) (pa_cons (pe_op op_add (pv 3) pe_int) pa_nil))) pa_nil))))) pa_nil))) pa_nil))))))), ?_⟩
    refine ⟨_, rfl, _, _, rfl, ⟨xl, rfl⟩, ?_⟩
    refine ⟨_, rfl, _, rfl, _, rfl, _, rfl, _, _, rfl, rfl, p, pc, _, _, rfl, by omega, by omega, hpen, by omega, fun d1 H1 a1 b1 P1 x1 => ?_⟩
    refine ⟨_, rfl, _, rfl, _, _, rfl, rfl, p, pc, _, _, rfl, by omega, by omega, P1, by omega, fun d2 H2 a2 b2 P2 x2 => ?_⟩
    refine ⟨by show 4 ≤ sizeLine; decide, fun b hb => ?_⟩
    have sb := same_new (o := .lst [.int 0, .int (x.length : Nat), .int d1, .int d2]) hb
    have P3 := P2.stay sb
    refine ⟨p, pc, _, _, _, rfl, .lst (SqL.of upd_same), (fun z => by cases z), by show 4 ≤ 1000; decide, P3, by omega, fun v H4 hv P4 x4 => ?_⟩
    have ev : ∃ a : Int, v = .int a ∧ 0 ≤ a ∧ a ≤ x.length := by
      simp only [List.mem_cons, List.not_mem_nil, or_false] at hv
      rcases hv with rfl | rfl | rfl | rfl
      · exact ⟨_, rfl, by omega, by omega⟩
      · exact ⟨_, rfl, by omega, by omega⟩
      · exact ⟨_, rfl, by omega, by omega⟩
      · exact ⟨_, rfl, by omega, by omega⟩
    obtain ⟨a, rfl, ha0, ha1⟩ := ev
    refine ⟨_, rfl, _, rfl, _, rfl, _, rfl, _, rfl, _, rfl, _, rfl, _, rfl, _, _, rfl, rfl, _, _, rfl, rfl, p, pc, _, _, rfl, by omega, by omega, P4, by omega, fun d3 H5 a3 b3 P5 x5 => ?_⟩
    refine ⟨_, _, rfl, rfl, _, rfl, _, rfl, _, _, rfl, rfl, _, _, rfl, ?_⟩
    have mi : a ≤ (if a + 1 < (x.length : Int) then a + 1 else (x.length : Int)) ∧ (if a + 1 < (x.length : Int) then a + 1 else (x.length : Int)) ≤ x.length := by split <;> omega
    generalize (if a + 1 < (x.length : Int) then a + 1 else (x.length : Int)) = mi0 at mi
    refine ⟨by show 4 ≤ sizeLine; decide, fun b2 hb2 => ?_⟩
    have sb2 := same_new (o := .lst [.int a, .int (x.length : Nat), .int (a + d3), .int mi0]) hb2
    have P6 := P5.stay sb2
    refine ⟨p, pc, _, _, _, rfl, .lst (SqL.of upd_same), (fun z => by cases z), by show 4 ≤ 1000; decide, P6, by omega, fun v H7 hv P7 x7 => ?_⟩
    have ev : ∃ c : Int, v = .int c ∧ a ≤ c ∧ c ≤ x.length := by
      simp only [List.mem_cons, List.not_mem_nil, or_false] at hv
      rcases hv with rfl | rfl | rfl | rfl
      · exact ⟨_, rfl, by omega, by omega⟩
      · exact ⟨_, rfl, by omega, by omega⟩
      · exact ⟨_, rfl, by omega, by omega⟩
      · exact ⟨_, rfl, mi.1, mi.2⟩
    obtain ⟨c, rfl, hc0, hc1⟩ := ev
    refine ⟨by show 2 ≤ sizeLine; decide, fun t ht => ?_⟩
    have st := same_new (o := .tup [.int a, .int c]) ht
    exact k t a c _ upd_same ha0 hc0 hc1 ((P7.stay st).mono (by omega)) ((((((x1.trans x2).trans (Ext.same sb)).trans x4).trans x5).trans (Ext.same sb2)).trans (x7.trans (Ext.same st)))

end
end Vk
set_option Elab.async false
set_option maxRecDepth 100000
set_option maxHeartbeats 4000000
set_option linter.all false
namespace Vk
open PySem PySem.Spec PyProof.Rows L2
/-! ## {k: v for x in l}, l a list that stays -/
theorem dc_list {K : PySem.W.Frag} {a : Addr} {xs : List V} {g : TG} {tt : TT} {tk tv : TE} {vs : List Nat} {σ : L2.St} {H1 : Hp} {D : Addr} {Qd : Hp → Prop} (Pv : Nat → Hp → Prop) (h0 : Pv 0 (upd H1 D (.dK []))) (hl : ∀ i H, i ≤ xs.length → Pv i H → SqL K H a xs)
    (hs : ∀ i x H, xs[i]? = some x → Pv i H → g x (wipe σ vs) H fun σ2 H2 => wipe σ2 vs = wipe σ vs ∧ tt σ2 H2 fun b H3 =>
      if b = true then tk σ2 H3 fun y H4 => tv σ2 H4 fun z H5 => ∃ kvs k, y = kV k ∧ H5 D = some (.dK kvs) ∧ kvs.length < sizeLine ∧ Pv (i + 1) (upd H5 D (.dK (putK kvs k z))) else Pv (i + 1) H3) (hd : ∀ H, Pv xs.length H → Qd H) :
    ∃ W : Nat → Nat → Hp → Prop, (∃ m, W 0 m (upd H1 D (.dK []))) ∧ ∀ i m H, W i m H →
      ((Itl K a).stop i H ∧ Qd H) ∨ ((Itl K a).go i H ∧ ∃ Nx : Hp → Prop, (∀ H', Nx H' → ∃ m', m' < m ∧ W (i + 1) m' H') ∧ ∀ x H', (Itl K a).yld i H x H' → g x (wipe σ vs) H' fun σ2 H2 => wipe σ2 vs = wipe σ vs ∧ tt σ2 H2 fun b H3 =>
        if b = true then tk σ2 H3 fun y H4 => tv σ2 H4 fun z H5 => ∃ kvs k, y = kV k ∧ H5 D = some (.dK kvs) ∧ kvs.length < sizeLine ∧ Nx (upd H5 D (.dK (putK kvs k z))) else Nx H3) := by
  refine ⟨fun i m H => m = xs.length - i ∧ i ≤ xs.length ∧ Pv i H, ⟨xs.length, by simp, Nat.zero_le _, h0⟩, ?_⟩
  rintro i m H ⟨rfl, hi, p⟩
  have q := hl i H hi p
  by_cases hlt : i < xs.length
  · refine .inr ⟨⟨xs, xs[i], q, by simp [hlt]⟩, Pv (i + 1), fun H' p' => ⟨xs.length - (i + 1), by omega, rfl, hlt, p'⟩, fun x H' y => ?_⟩
    obtain ⟨e, y⟩ := y
    subst e
    exact hs i x _ (y xs q) p
  · have e : i = xs.length := by omega
    subst e
    exact .inl ⟨⟨xs, q, Nat.le_refl _⟩, hd H p⟩
theorem for_rangeC {lo c : Int} {n : Nat} {g : TG} {tb : TS} {D : Ends} {σ : L2.St} {H : Hp} (Pv : Nat → L2.St → Hp → Prop) (h0 : Pv 0 σ H)
    (hs : ∀ i σ H, i < n → Pv i σ H → g (.int (lo + (i : Nat) * c)) σ H fun σ2 H2 => tb { D with nx := Pv (i + 1), ct := Pv (i + 1), bk := D.nx } σ2 H2) (hd : ∀ σ H, Pv n σ H → D.nx σ H) :
    ∃ W : Nat → Nat → L2.St → Hp → Prop, (∃ m, W 0 m σ H) ∧ ∀ i m σ H, W i m σ H →
      ((Itc lo c n).stop i H ∧ D.nx σ H) ∨ ((Itc lo c n).go i H ∧ ∃ N : L2.St → Hp → Prop, (∀ σ' H', N σ' H' → ∃ m', m' < m ∧ W (i + 1) m' σ' H') ∧ ∀ x1 H', (Itc lo c n).yld i H x1 H' → g x1 σ H' fun σ2 H2 => tb { D with nx := N, ct := N, bk := D.nx } σ2 H2) := by
  refine ⟨fun i m σ H => m = n - i ∧ i ≤ n ∧ Pv i σ H, ⟨n, by simp, Nat.zero_le _, h0⟩, ?_⟩
  rintro i m σ H ⟨rfl, hi, p⟩
  by_cases hlt : i < n
  · refine .inr ⟨hlt, Pv (i + 1), fun σ' H' p' => ⟨n - (i + 1), by omega, rfl, hlt, p'⟩, ?_⟩
    rintro x1 H' ⟨rfl, rfl⟩
    exact hs i σ _ hlt p
  · have e : i = n := by omega
    subst e
    exact .inl ⟨Nat.le_refl _, hd σ H p⟩
/-- name = {..} on one line, the name a local -/
theorem ps_setDc {X : Cx} {i : Nat} {y : Str} {py : Pos} {kx vx tg iter : Expr} {ifs : List Expr} {scope : Scope} {own : List (Str × Nat)} {pos spos : Pos} {wi : TI} {g : TG} {tt : TT} {tk tv : TE} (hc : X.calm = true) (hN : X.N.Nodup) (hy : X.N[i]? = some y) (hyl : X.env.scope.names.lookup y = some .local)
    (hsw : swapsWith (.DictComp kx vx [⟨tg, iter, ifs, 0⟩] scope pos) (some (.Name y py)) spos.line X.env = pure true) (hi : PI X tg iter wi) (ok : BlkOk X.N X.env.scope scope own)
    (hg : ∀ (s : Shared) (H : Hp) (C : Addr) (cl : List (Str × Addr)) (fp : List Addr), PG (X.blk s H scope (compEnvC scope cl C X.env) fp) tg g) (ht : ∀ (s : Shared) (H : Hp) (C : Addr) (cl : List (Str × Addr)) (fp : List Addr), PTs (X.blk s H scope (compEnvC scope cl C X.env) fp) ifs tt)
    (hk : ∀ (s : Shared) (H : Hp) (C : Addr) (cl : List (Str × Addr)) (fp : List Addr), PE (X.blk s H scope (compEnvC scope cl C X.env) fp) kx tk)
    (he : ∀ (s : Shared) (H : Hp) (C : Addr) (cl : List (Str × Addr)) (fp : List Addr), PE (X.blk s H scope (compEnvC scope cl C X.env) fp) vx tv) (hs : ∀ x, foldedSetIterable iter X.env x = pure x := by intro _; rfl) :
    PS X (.Assign [.Name y py] (.DictComp kx vx [⟨tg, iter, ifs, 0⟩] scope pos) spos) (tAsg (tDc wi g tt tk tv (own.map (·.2))) (gName i)) := by
  refine ⟨fun pins s σ H D I h => ?_⟩
  rw [exec_Assign_Name_used _ _ _ _ hsw]
  refine wpAny_bind (wpAny_standAt (wpAny_bind ?_))
  show wpAny _ X.A (do let _ ← comprehension (.DictComp kx vx [⟨tg, iter, ifs, 0⟩] scope pos) scope X.env (firstIterPos [⟨tg, iter, ifs, 0⟩] pos) newDict false (eval iter X.env) (some (assign (.Name y py) X.env))) _ _ s
  have h : tDc wi g tt tk tv (own.map (·.2)) σ H (fun x H1 => gName i x σ H1 D.nx) := h
  refine wpAny_bind (thn (dc_core (Qf := fun _ s' => SP X pins D .next s') hc hN I hi ok hg ht hk he hs h fun L C s' m H' I' q hn f => ?_) fun _ s' hq => wpAny_pure (wpAny_pure hq))
  show wpAny _ _ (assign (.Name y py) X.env (.ref L)) _ _ _
  refine wpAny_assign_Name (store_ok2 (v := V.ref L) I' hN hy (.inl hyl) rfl (fun s2 I2 ⟨a, sb, ha⟩ => ?_) (.inr hyl))
  obtain ⟨f0, f1, f2, f3, f4, f5⟩ := f
  have haC : C ≠ a := by
    rcases ha with z | z
    · rw [z]; exact f1
    · exact fun e => f4 y a z e.symm
  refine ⟨m, hn.sameBut sb haC, fun h3 sb3 => ?_⟩
  exact ⟨_, H', I2.turned (t' := s2.toks) (fun b o hb e => (sb3.2 b hb).trans e) f0 f1 f3 f4 f5, q⟩
theorem sw_trueD {kx vx : Expr} {gs : List Comprehension} {scope : Scope} {pos py : Pos} {y : Str} {l : Nat} {env : Env} (hk : env.scope.kind = .function) (hy : env.scope.names.lookup y = some .local) (hl : (py.line == pos.line) = true)
    (ha : (scope.names.any fun (n, k) => n == y && (k == .local || k == .cell)) = false) : swapsWith (.DictComp kx vx gs scope pos) (some (.Name y py)) l env = pure true := by
  have ky : env.kindOf y = some .local := hy
  have hb : env.blockKind = .function := by unfold Env.blockKind; rw [hk]; rfl
  unfold swapsWith
  simp only [hb, ky, ha, Expr.pos, hl]
  rfl
theorem call_isiK {X : Cx} {K : PySem.W.Frag} (h : X.K = K) : CallR X (.builtin "isinstance") (rIsi K) := h ▸ call_isi
/-- the dict of the first numbers -/
def kvN (i : Nat) : List (Key × V) := (List.range i).map fun j => (Sum.inl ((j : Nat) : Int), V.bl true)
theorem kvN_val {n i : Nat} (h : i < n) : valV (kvN n) (Sum.inl ((i : Nat) : Int)) = some (V.bl true) := by
  unfold valV
  cases e : (kvN n).find? fun kv => decide (kv.1 = Sum.inl ((i : Nat) : Int)) with
  | none =>
    rw [List.find?_eq_none] at e
    have q := e (Sum.inl ((i : Nat) : Int), V.bl true) (List.mem_map.mpr ⟨i, List.mem_range.mpr h, rfl⟩)
    simp at q
  | some kv =>
    have m := List.mem_of_find?_eq_some e
    obtain ⟨j, _, rfl⟩ := List.mem_map.mp m
    rfl
theorem kvN_put {i : Nat} : putK (kvN i) (Sum.inl ((i : Nat) : Int)) (V.bl true) = kvN (i + 1) := by
  unfold putK
  rw [if_neg]
  · unfold kvN
    rw [List.range_succ, List.map_append]
    rfl
  · intro h
    rw [List.any_eq_true] at h
    obtain ⟨kv, hk, e⟩ := h
    obtain ⟨j, hj, rfl⟩ := List.mem_map.mp hk
    have := List.mem_range.mp hj
    have e2 : (Sum.inl ((j : Nat) : Int) : Key) = Sum.inl ((i : Nat) : Int) := of_decide_eq_true e
    have := Sum.inl.inj e2
    omega
end Vk
set_option Elab.async false
set_option maxRecDepth 100000
set_option maxHeartbeats 4000000
set_option linter.all false
namespace Vk
open PySem PySem.Spec PyProof.Rows L2
/-! ## for i, c in enumerate(x), x a text -/
/-- the letters of x, each in a new pair -/
def Ites (x : Str) : It :=
  ⟨fun i H => i < x.cps.size, fun i H v H' => ∃ T c, v = .ref T ∧ H T = none ∧ H' = upd H T (.tup [.int (i : Nat), .str ⟨#[c]⟩]) ∧ x.cps[i]? = some c, fun i H => x.cps.size = i⟩
theorem turn_enumS {P : Program} {w : World} {K : PySem.W.Frag} {elts : List Expr} {kk : Nat} {tpos : Pos} (x : Str) (t : Tok) (e it : Addr) :
    Turn P w K (.Tuple elts kk tpos) (Ites x) [e, it] e (fun i h => (∃ old, IsEnum h e it ((i : Nat) : Int) old) ∧ h.IsStrIter it (strIterType x) x t i ∧ e ≠ it) where
  mem := by simp
  obj := fun i h st b hb => by
    obtain ⟨⟨old, he⟩, ⟨o, ho, hc, hd⟩, _⟩ := st
    rcases List.mem_cons.mp hb with z | z
    · exact z ▸ ⟨_, he, fun v q => nomatch q⟩
    · rw [List.mem_singleton] at z
      exact z ▸ ⟨o, ho, fun v q => by rw [hd] at q; cases q⟩
  keep := fun i h h' st k => by
    obtain ⟨⟨old, he⟩, ⟨o, ho, r⟩, rest⟩ := st
    exact ⟨⟨old, k e List.mem_cons_self _ he⟩, ⟨o, k it (List.mem_cons_of_mem _ List.mem_cons_self) o ho, r⟩, rest⟩
  item := by
    intro X hP hw hK hc i pins s σ H E I hf st hg
    subst hP hw hK
    obtain ⟨⟨old, he⟩, hit, hne⟩ := st
    have big1 : e < s.heap.objs.size := Heap.lt_size he
    have big2 : it < s.heap.objs.size := by obtain ⟨_, q, _⟩ := hit; exact Heap.lt_size q
    refine wpAny_pyNext_enum_itemD (Draws.text (A := X.A.in1) (I.ok.hd hc) it x t) he hit hg hne (by simp [hne]) fun u2 h2 tk hu2 ho st2 hT hsz hk => ?_
    obtain ⟨c, u, hcx, rfl⟩ := hu2
    refine ⟨_, rfl, wpAny_letOwnedTupleGo_enum (s := { s with heap := h2, toks := tk + 1 }) ho fun h3 he3 sb => ?_⟩
    have hT3 : h3.get? s.heap.objs.size = some { cls := .type "tuple", data := .seq #[.int i tk, .str ⟨#[c]⟩ u] } := (sb.2 _ (Nat.ne_of_gt big1)).trans hT
    have laid : ObjOk X.prog X.w (upd H s.heap.objs.size (.tup [.int (i : Nat), .str ⟨#[c]⟩])) h3 s.heap.objs.size (.tup [.int (i : Nat), .str ⟨#[c]⟩]) := ⟨(by show 2 ≤ sizeLine; decide), [.int i tk, .str ⟨#[c]⟩ u], .cons ⟨_, rfl⟩ (.cons ⟨_, rfl⟩ .nil), ⟨_, hT3, rfl, _, rfl⟩⟩
    have I1 : Inv X pins σ (upd H s.heap.objs.size (.tup [.int (i : Nat), .str ⟨#[c]⟩])) { s with heap := h3, toks := tk + 1 } :=
      I.turnedNew (ch := [e, it]) (fun b ob hb q => (sb.2 b (fun z => hb (by simp [z]))).trans (hk b ob (fun z => hb (by simp [z])) (fun z => hb (by simp [z])) q)) hf (Nat.le_refl _) laid
    refine ⟨.ref s.heap.objs.size, _, I1, rfl, ⟨_, c, rfl, I.hok.fresh (Nat.le_refl _), rfl, hcx⟩, ⟨⟨.str ⟨#[c]⟩ u, ?_⟩, ?_, hne⟩, fun b hb => ?_⟩
    · rw [show ((i + 1 : Nat) : Int) = (i : Int) + 1 by omega]
      exact he3
    · obtain ⟨o2, q2, r2⟩ := st2
      exact ⟨o2, (sb.2 it (Ne.symm hne)).trans q2, r2⟩
    · have old1 : b < s.heap.objs.size := by
        rcases List.mem_cons.mp hb with z | z
        · exact z ▸ big1
        · rw [List.mem_singleton] at z
          exact z ▸ big2
      exact (upd_ne (Nat.ne_of_lt old1)).trans (hf b hb).1
  done := by
    intro X hP hw hK hc i pins s σ H E I hf st hg
    subst hP hw hK
    obtain ⟨⟨old, he⟩, hit, hne⟩ := st
    obtain ⟨f0, f1, f2, f3, f4, f5⟩ := hf it (List.mem_cons_of_mem _ List.mem_cons_self)
    have le : i = x.cps.size := hg.symm
    exact wpAny_pyNext_enum_endD (Draws.text (A := X.A.in1) (I.ok.hd hc) it x t) he (le ▸ hit) fun h' eb => ⟨rfl, I.turned (t' := s.toks) (fun b o hb q => eb b o hb q) f0 f1 f3 f4 f5⟩
  self := fun A i s Q E st h => let ⟨⟨_, he⟩, _⟩ := st; wpAny_pyIter_enum he h
def iEnumS (ta : TA) : TI := fun σ H R => ta σ H fun vs H1 => ∃ x, vs = [.str x] ∧ R (Ites x) H1
theorem pi_enumS {X : Cx} {e : Expr} {ta : TA} {p pos tpos : Pos} {elts : List Expr} {kk : Nat} (gl : Gl X "enumerate") (hm : X.mg "enumerate" = none) (ha : PA X [e] ta) (hs : starEach [e] X.env = [(false, eval e X.env)] := by rfl) :
    PI X (.Tuple elts kk tpos) (.Call (.Name "enumerate" p) [e] [] pos) (iEnumS ta) := by
  refine ⟨fun pins s σ H R I h => Call_ (ld_blt I gl hm boot_enumerate (PyProof.Rows.callWith_type1 (thn (ha.run pos pins s σ H _ I h) fun us s1 hh => ?_) hs rfl))⟩
  obtain ⟨vs, H1, I1, r1, x, rfl, q⟩ := hh
  obtain ⟨u, rfl, ru⟩ := r1.one
  obtain ⟨t, rfl⟩ := ru
  refine call_enumerate_str fun h2 he hit _ hk => wpAny_pyIter_enum he ?_
  have I2 : Inv X pins σ H1 { s1 with heap := h2 } := I1.kept (t' := s1.toks) hk
  refine ⟨s1.heap.objs.size + 1, [s1.heap.objs.size + 1, s1.heap.objs.size], _, _, H1, rfl, I2, turn_enumS x t (s1.heap.objs.size + 1) s1.heap.objs.size, ⟨⟨.none, he⟩, hit, Nat.succ_ne_self _⟩, fun b hb => ?_, q⟩
  have le : s1.heap.objs.size ≤ b := by
    rcases List.mem_cons.mp hb with z | z
    · rw [z]; exact Nat.le_succ _
    · rw [List.mem_singleton.mp z]; exact Nat.le_refl _
  exact I1.fpOk le (I1.hok.fresh le)
/-! ## loops over these -/
theorem for_enumS {x : Str} {g : TG} {tb : TS} {D : Ends} {σ : L2.St} {H : Hp} (Pv : Nat → L2.St → Hp → Prop) (h0 : Pv 0 σ H)
    (hs : ∀ i c σ H T, x.cps[i]? = some c → H T = none → Pv i σ H → g (.ref T) σ (upd H T (.tup [.int (i : Nat), .str ⟨#[c]⟩])) fun σ2 H2 => tb { D with nx := Pv (i + 1), ct := Pv (i + 1), bk := D.nx } σ2 H2) (hd : ∀ σ H, Pv x.cps.size σ H → D.nx σ H) :
    ∃ W : Nat → Nat → L2.St → Hp → Prop, (∃ m, W 0 m σ H) ∧ ∀ i m σ H, W i m σ H →
      ((Ites x).stop i H ∧ D.nx σ H) ∨ ((Ites x).go i H ∧ ∃ N : L2.St → Hp → Prop, (∀ σ' H', N σ' H' → ∃ m', m' < m ∧ W (i + 1) m' σ' H') ∧ ∀ x1 H', (Ites x).yld i H x1 H' → g x1 σ H' fun σ2 H2 => tb { D with nx := N, ct := N, bk := D.nx } σ2 H2) := by
  refine ⟨fun i m σ H => m = x.cps.size - i ∧ i ≤ x.cps.size ∧ Pv i σ H, ⟨x.cps.size, by simp, Nat.zero_le _, h0⟩, ?_⟩
  rintro i m σ H ⟨rfl, hi, p⟩
  by_cases hlt : i < x.cps.size
  · refine .inr ⟨hlt, Pv (i + 1), fun σ' H' p' => ⟨x.cps.size - (i + 1), by omega, rfl, hlt, p'⟩, ?_⟩
    rintro x1 H' ⟨T, c, rfl, hT, rfl, hc⟩
    exact hs i c σ H T hc hT p
  · have e : i = x.cps.size := by omega
    subst e
    exact .inl ⟨rfl, hd σ H p⟩
theorem for_enumL {K : PySem.W.Frag} {a : Addr} {xs : List V} {g : TG} {tb : TS} {D : Ends} {σ : L2.St} {H : Hp} (Pv : Nat → L2.St → Hp → Prop) (h0 : Pv 0 σ H) (hl : ∀ i σ H, i ≤ xs.length → Pv i σ H → SqL K H a xs)
    (hs : ∀ i v σ H T, xs[i]? = some v → H T = none → Pv i σ H → g (.ref T) σ (upd H T (.tup [.int (i : Nat), v])) fun σ2 H2 => tb { D with nx := Pv (i + 1), ct := Pv (i + 1), bk := D.nx } σ2 H2) (hd : ∀ σ H, Pv xs.length σ H → D.nx σ H) :
    ∃ W : Nat → Nat → L2.St → Hp → Prop, (∃ m, W 0 m σ H) ∧ ∀ i m σ H, W i m σ H →
      ((Ite K a).stop i H ∧ D.nx σ H) ∨ ((Ite K a).go i H ∧ ∃ N : L2.St → Hp → Prop, (∀ σ' H', N σ' H' → ∃ m', m' < m ∧ W (i + 1) m' σ' H') ∧ ∀ x1 H', (Ite K a).yld i H x1 H' → g x1 σ H' fun σ2 H2 => tb { D with nx := N, ct := N, bk := D.nx } σ2 H2) := by
  refine ⟨fun i m σ H => m = xs.length - i ∧ i ≤ xs.length ∧ Pv i σ H, ⟨xs.length, by simp, Nat.zero_le _, h0⟩, ?_⟩
  rintro i m σ H ⟨rfl, hi, p⟩
  have q := hl i σ H hi p
  by_cases hlt : i < xs.length
  · refine .inr ⟨⟨xs, xs[i], q, by simp [hlt]⟩, Pv (i + 1), fun σ' H' p' => ⟨xs.length - (i + 1), by omega, rfl, hlt, p'⟩, ?_⟩
    rintro x1 H' ⟨T, v, rfl, hT, rfl, hv⟩
    exact hs i v σ H T (hv xs q) hT p
  · have e : i = xs.length := by omega
    subst e
    exact .inl ⟨⟨xs, q, Nat.le_refl _⟩, hd σ H p⟩
theorem for_str {x : Str} {g : TG} {tb : TS} {D : Ends} {σ : L2.St} {H : Hp} (Pv : Nat → L2.St → Hp → Prop) (h0 : Pv 0 σ H)
    (hs : ∀ i c σ H, x.cps[i]? = some c → Pv i σ H → g (.str ⟨#[c]⟩) σ H fun σ2 H2 => tb { D with nx := Pv (i + 1), ct := Pv (i + 1), bk := D.nx } σ2 H2) (hd : ∀ σ H, Pv x.cps.size σ H → D.nx σ H) :
    ∃ W : Nat → Nat → L2.St → Hp → Prop, (∃ m, W 0 m σ H) ∧ ∀ i m σ H, W i m σ H →
      ((Its x).stop i H ∧ D.nx σ H) ∨ ((Its x).go i H ∧ ∃ N : L2.St → Hp → Prop, (∀ σ' H', N σ' H' → ∃ m', m' < m ∧ W (i + 1) m' σ' H') ∧ ∀ x1 H', (Its x).yld i H x1 H' → g x1 σ H' fun σ2 H2 => tb { D with nx := N, ct := N, bk := D.nx } σ2 H2) := by
  refine ⟨fun i m σ H => m = x.cps.size - i ∧ i ≤ x.cps.size ∧ Pv i σ H, ⟨x.cps.size, by simp, Nat.zero_le _, h0⟩, ?_⟩
  rintro i m σ H ⟨rfl, hi, p⟩
  by_cases hlt : i < x.cps.size
  · refine .inr ⟨hlt, Pv (i + 1), fun σ' H' p' => ⟨x.cps.size - (i + 1), by omega, rfl, hlt, p'⟩, ?_⟩
    rintro x1 H' ⟨rfl, c, hc, rfl⟩
    exact hs i c σ H' hc p
  · have e : i = x.cps.size := by omega
    subst e
    exact .inl ⟨Nat.le_refl _, hd σ H p⟩
end Vk
set_option Elab.async false
set_option maxRecDepth 100000
set_option linter.all false
set_option maxHeartbeats 4000000
namespace Vk
open PySem PySem.Spec PyProof.Rows L2
section
variable {P : Program} {w : World} {K : PySem.W.Frag} {mg : Str → Option Value} {base : Heap}
def spLonger : Sp := fun vs H Q _ => ∃ (r ed : Addr) (xs : List V), vs = [.ref r, .ref ed] ∧ H r = some (.lst xs) ∧ (∀ v ∈ xs, ∃ (t : Addr) (a b c : V), v = .ref t ∧ H t = some (.tup [a, b, c])) ∧ H ed = some (.lst []) ∧ ∀ (l : Addr) H', H l = none → H' l = some (.lst []) → Same H H' → Q (.ref l) H'
abbrev s_longer_results : Stmt := top 42
theorem sc_longer_results : FnScope ["results", "edits", "told", "way", "text", "entries", "index", "edit", "puts"] ["results", "edits"] (defScope s_longer_results) := ⟨rfl, rfl, rfl, by decide +kernel, rfl, by decide +kernel, by decide +kernel⟩
theorem b_longer_results {f : Addr} {fd : FuncData} (F : Fun K "longer_results" "longer_results" s_longer_results f fd) (T : Txt mg) : FnG P w K mg base CX0 1 f fd ["results", "edits"] spLonger := by
  refine okG0 F sc_longer_results (fun vs H Q E h => ?_) (fun cdv A outer s H vs Q E hg hr h => ?_)
  · obtain ⟨r, ed, xs, rfl, _⟩ := h
    rfl
  · have hu := hu_of hr
    have hu64 := hr.units
    obtain ⟨r, ed, xs, rfl, hr1, tx, hed, k⟩ := h
    refine ⟨_, (pss_cons (ps_set (i := 2) sc_longer_results.nd rfl (Or.inl rfl) (pe_lst pa_nil))
      (pss_cons (ps_for PassesOwn.never rfl (pi_list (pv 0)) (pg_tup rfl (pgs_cons (pg_name (i := 3) sc_longer_results.nd rfl (Or.inl rfl)) (pgs_cons (pg_name (i := 4) sc_longer_results.nd rfl (Or.inl rfl)) (pgs_cons (pg_name (i := 5) sc_longer_results.nd rfl (Or.inl rfl)) pgs_nil)))) (pss_one (ps_for PassesOwn.never rfl (pi_enum (by rfl) T.enumerate (pa_cons (pv 1) pa_nil)) (pg_tup rfl (pgs_cons (pg_name (i := 6) sc_longer_results.nd rfl (Or.inl rfl)) (pgs_cons (pg_name (i := 7) sc_longer_results.nd rfl (Or.inl rfl)) pgs_nil))) pss_never)))
      (pss_one (ps_ret (pv 2))))), ?_⟩
    refine ⟨by show 0 ≤ sizeLine; decide, fun lr hlr => ?_⟩
    have slr := same_new (o := .lst []) hlr
    refine ⟨_, rfl, r, rfl, ⟨_, SqL.of (slr _ _ hr1)⟩, ?_⟩
    refine for_list (xs := xs) (fun i σ H' => ∃ (o3 o4 o5 o6 o7 o8 : Option V), σ = [some (.ref r), some (.ref ed), some (.ref lr), o3, o4, o5, o6, o7, o8] ∧ H' lr = some (.lst []) ∧ Same H H') ?_ ?_ ?_ ?_
    · exact ⟨_, _, _, _, _, _, rfl, upd_same, slr⟩
    · rintro i σ H' _ ⟨o3, o4, o5, o6, o7, o8, rfl, _, sm⟩
      exact SqL.of (sm _ _ hr1)
    · rintro i v σ H2 hv ⟨o3, o4, o5, o6, o7, o8, rfl, hl2, s2⟩
      obtain ⟨t, a, b, c, rfl, ht⟩ := tx v (List.mem_of_getElem? hv)
      refine ⟨t, _, rfl, SqT.of (s2 _ _ ht), rfl, _, _, rfl, _, _, rfl, _, _, rfl, rfl, ?_⟩
      have ht2 := s2 _ _ ht
      have hed2 := s2 _ _ hed
      refine ⟨_, rfl, ed, [], rfl, SqL.of hed2, ?_⟩
      refine for_enumL (K := K) (a := ed) (xs := []) (fun j σ H' => ∃ (o3 o4 o5 o6 o7 o8 : Option V), σ = [some (.ref r), some (.ref ed), some (.ref lr), o3, o4, o5, o6, o7, o8] ∧ H' = H2) ⟨_, _, _, _, _, _, rfl, rfl⟩ (fun j σ H' _ p => ?_) (fun j v σ H' T hv _ _ => nomatch hv) (fun σ H' p => ?_)
      · obtain ⟨_, _, _, _, _, _, _, rfl⟩ := p
        exact SqL.of hed2
      · obtain ⟨p3, p4, p5, p6, p7, p8, rfl, rfl⟩ := p
        exact ⟨_, _, _, _, _, _, rfl, hl2, s2⟩
    · rintro σ H2 ⟨o3, o4, o5, o6, o7, o8, rfl, hl2, s2⟩
      exact ⟨_, rfl, k lr H2 hlr hl2 s2⟩

def spResults : Sp := fun vs H Q _ => ∃ (x : Str) (ed : Addr), vs = [.str x, .ref ed] ∧ x.length ≤ 100 ∧ H ed = some (.lst []) ∧ ∀ (l t w e : Addr) H', H l = none → H' l = some (.lst [.ref t]) → H' t = some (.tup [.ref w, .str x, .ref e]) → H' e = some (.lst (rgV 0 (x.length : Nat))) → Same H H' → Q (.ref l) H'
abbrev s_all_results : Stmt := top 43
theorem sc_all_results : FnScope ["text", "edits", "told", "results"] ["text", "edits"] (defScope s_all_results) := ⟨rfl, rfl, rfl, by decide +kernel, rfl, by decide +kernel, by decide +kernel⟩
theorem b_all_results {f : Addr} {fd : FuncData} (F : Fun K "all_results" "all_results" s_all_results f fd) (T : Txt mg) (c_longer_results : CalG P w K mg base CX0 1 "longer_results" spLonger) : FnG P w K mg base CX0 2 f fd ["text", "edits"] spResults := by
  refine okG0 F sc_all_results (fun vs H Q E h => ?_) (fun cdv A outer s H vs Q E hg hr h => ?_)
  · obtain ⟨x, ed, rfl, _⟩ := h
    rfl
  · have hu := hu_of hr
    have hu64 := hr.units
    obtain ⟨x, ed, rfl, hx, hed, k⟩ := h
    have xl : x.length ≤ sizeLine := Nat.le_of_lt (fewL (by omega))
    refine ⟨_, (pss_cons (ps_set (i := 2) sc_all_results.nd rfl (Or.inl rfl) (pe_lst pa_nil))
      (pss_cons (ps_set (i := 3) sc_all_results.nd rfl (Or.inl rfl) (pe_lst (pa_cons (pe_tup (pa_cons (pe_tup pa_nil) (pa_cons (pv 0) (pa_cons (pe_listRg rfl (by rfl) T.list (prg_1 (by rfl) T.range (pe_callB call_len (by rfl) T.len (by decide +kernel) (pa_cons (pv 0) pa_nil)))) pa_nil)))) pa_nil)))
      (pss_cons (ps_while PassesOwn.never (pt_truthK (K := K) rfl (pv 3)) (pss_cons (ps_expr (pe_bm PySem.F.plainAttrs_list PySem.F.slot_list_extend PySem.F.type_list_extend mt_extend (pv 2) (pa_cons (pv 3) pa_nil)))
      (pss_one (ps_set (i := 3) sc_all_results.nd rfl (Or.inl rfl) (pe_cG c_longer_results hg hr (by decide) pass0 (pa_cons (pv 3) (pa_cons (pv 1) pa_nil)))))))
      (pss_one (ps_ret (pv 2)))))), ?_⟩
    refine ⟨by show 0 ≤ sizeLine; decide, fun l hl => ?_⟩
    have sl := same_new (o := .lst []) hl
    refine ⟨by show 0 ≤ sizeLine; decide, fun w hw => ?_⟩
    have sw := same_new (o := .tup []) hw
    refine ⟨_, rfl, _, rfl, _, _, rfl, ⟨xl, rfl⟩, _, rfl, .of_le (by omega) (by omega) (by omega) (by omega), fun e he => ?_⟩
    have se := same_new (o := .lst (rgV 0 (x.length : Nat))) he
    refine ⟨by show 3 ≤ sizeLine; decide, fun t ht => ?_⟩
    have st := same_new (o := .tup [.ref w, .str x, .ref e]) ht
    refine ⟨by show 1 ≤ sizeLine; decide, fun r hr1 => ?_⟩
    have sr := same_new (o := .lst [.ref t]) hr1
    have nle : e ≠ l := (ne_of_none (sw _ _ upd_same) he).symm
    have l1 := (((sw.trans se).trans st).trans sr) _ _ (upd_same (H := H) (a := l) (o := .lst []))
    have e1 := (st.trans sr) _ _ (upd_same (H := upd (upd H l (.lst [])) w (.tup [])) (a := e) (o := .lst (rgV 0 (x.length : Nat))))
    have t1 := sr _ _ (upd_same (H := upd (upd (upd H l (.lst [])) w (.tup [])) e (.lst (rgV 0 (x.length : Nat)))) (a := t) (o := .tup [.ref w, .str x, .ref e]))
    have r1 : (upd (upd (upd (upd (upd H l (.lst [])) w (.tup [])) e (.lst (rgV 0 (x.length : Nat)))) t (.tup [.ref w, .str x, .ref e])) r (.lst [.ref t])) r = some (.lst [.ref t]) := upd_same
    have s1 := (((sl.trans sw).trans se).trans st).trans sr
    generalize upd (upd (upd (upd (upd H l (.lst [])) w (.tup [])) e (.lst (rgV 0 (x.length : Nat)))) t (.tup [.ref w, .str x, .ref e])) r (.lst [.ref t]) = H1 at l1 e1 t1 r1 s1 ⊢
    clear sl se st sr hw ht hr1
    refine ⟨fun m σ H' => ∃ r2 : Addr, σ = [some (.str x), some (.ref ed), some (.ref l), some (.ref r2)] ∧ Same H H' ∧ H' e = some (.lst (rgV 0 (x.length : Nat))) ∧ H' t = some (.tup [.ref w, .str x, .ref e]) ∧ ((m = 1 ∧ H' l = some (.lst []) ∧ H' r2 = some (.lst [.ref t])) ∨ (m = 0 ∧ H' l = some (.lst [.ref t]) ∧ H' r2 = some (.lst []))), ⟨1, r, rfl, s1, e1, t1, .inl ⟨rfl, l1, r1⟩⟩, ?_⟩
    rintro m σ H2 ⟨r2, rfl, s2, e2, t2, ⟨rfl, l2, r2h⟩ | ⟨rfl, l2, r2h⟩⟩
    · refine ⟨_, rfl, _, .inl ⟨_, SqL.of r2h, rfl⟩, ?_⟩
      refine iteT ⟨fun σ' H' => ∃ r3 : Addr, σ' = [some (.str x), some (.ref ed), some (.ref l), some (.ref r3)] ∧ Same H H' ∧ H' e = some (.lst (rgV 0 (x.length : Nat))) ∧ H' t = some (.tup [.ref w, .str x, .ref e]) ∧ H' l = some (.lst [.ref t]) ∧ H' r3 = some (.lst []), ?_, ?_⟩
      · rintro σ' H' ⟨r3, rfl, a1, a2, a3, a4, a5⟩
        exact ⟨0, Nat.zero_lt_one, r3, rfl, a1, a2, a3, .inr ⟨rfl, a4, a5⟩⟩
      · refine ⟨_, rfl, .inl ⟨rfl, _, SqL.of l2⟩, _, rfl, l, r2, _, _, rfl, rfl, l2, r2h, by show 0 + 1 ≤ sizeLine; decide, ?_⟩
        have nl : ∀ {b : Addr} {o : HO}, H2 b = some o → b ≠ l → (upd H2 l (.lst ([] ++ [.ref t]))) b = some o := fun h n => (upd_ne n).trans h
        have ntl : t ≠ l := fun z => by
          rw [z, l2] at t2
          cases t2
        have nrl : r2 ≠ l := fun z => by
          rw [z, l2] at r2h
          cases r2h
        have l3 : (upd H2 l (.lst ([] ++ [.ref t]))) l = some (.lst [.ref t]) := upd_same
        have e3 := nl e2 nle
        have t3 := nl t2 ntl
        have r3 := nl r2h nrl
        have s3 : Same H (upd H2 l (.lst ([] ++ [.ref t]))) := upd_out hl s2
        generalize upd H2 l (.lst ([] ++ [.ref t])) = H3 at l3 e3 t3 r3 s3 ⊢
        refine ⟨_, rfl, _, rfl, r2, ed, [.ref t], rfl, r3, (fun v hv => by
          rw [List.mem_singleton.mp hv]
          exact ⟨t, _, _, _, rfl, t3⟩), s3 _ _ hed, fun r4 H4 hr4 h4 s4 => ?_⟩
        exact ⟨r4, rfl, s3.trans s4, s4 _ _ e3, s4 _ _ t3, s4 _ _ l3, h4⟩
    · refine ⟨_, rfl, _, .inl ⟨_, SqL.of r2h, rfl⟩, ?_⟩
      refine iteF ?_
      exact ⟨_, rfl, k l t w e H2 hl l2 t2 e2 s2⟩

end
end Vk
set_option Elab.async false
set_option maxRecDepth 100000
set_option linter.all false
set_option maxHeartbeats 4000000
namespace Vk
open PySem PySem.Spec PyProof.Rows L2
section
variable {P : Program} {w : World} {K : PySem.W.Frag} {mg : Str → Option Value} {base : Heap}
def endsK (n k : Nat) : List V := (List.range (n + 1)).map fun j => V.int ((if j < k then j else n : Nat) : Int)
def spKept : Sp := fun vs H Q _ => ∃ (e : Addr) (n : Nat), vs = [.ref e, .int (n : Nat)] ∧ n ≤ 100 ∧ H e = some (.lst (rgV 0 (n : Nat))) ∧ ∀ (l : Addr) H', H l = none → H' l = some (.lst (endsK n 0)) → Same H H' → Q (.ref l) H'
theorem ends_start {n : Nat} : rgV 0 ((n : Int) + 1) = endsK n n := by
  unfold rgV endsK
  rw [show ((n : Int) + 1 - 0).toNat = n + 1 by omega]
  refine List.map_congr_left fun j hj => ?_
  have := List.mem_range.mp hj
  by_cases h : j < n
  · rw [if_pos h, Int.zero_add]
  · rw [if_neg h, Int.zero_add, show j = n by omega]
theorem ends_set {n k : Nat} (h : k < n) : (endsK n (k + 1)).set k (V.int (n : Nat)) = endsK n k := by
  unfold endsK
  refine List.ext_getElem? fun j => ?_
  rw [List.getElem?_set, List.getElem?_map, List.getElem?_map]
  by_cases e : k = j
  · subst e
    rw [if_pos rfl, if_pos (by rw [List.length_map, List.length_range]; omega), List.getElem?_range (by omega)]
    simp
  · rw [if_neg e]
    by_cases hj : j < n + 1
    · rw [List.getElem?_range hj]
      show some (V.int ((if j < k + 1 then j else n : Nat) : Int)) = some (V.int ((if j < k then j else n : Nat) : Int))
      by_cases h1 : j < k + 1
      · rw [if_pos h1, if_pos (by omega)]
      · rw [if_neg h1, if_neg (by omega)]
    · rw [List.getElem?_eq_none (by rw [List.length_range]; omega)]
      rfl
theorem ends_at {n k j : Nat} (hj : j ≤ n) (h : k ≤ j) : (endsK n k)[j]? = some (V.int (n : Nat)) := by
  unfold endsK
  rw [List.getElem?_map, List.getElem?_range (by omega), Option.map_some, if_neg (by omega)]
abbrev s_kept_ends : Stmt := top 44
theorem sc_kept_ends : FnScope ["entries", "length", "kept", "entry", "ends", "begin"] ["entries", "length"] (defScope s_kept_ends) := ⟨rfl, rfl, rfl, by decide +kernel, rfl, by decide +kernel, by decide +kernel⟩
theorem b_kept_ends {f : Addr} {fd : FuncData} (F : Fun K "kept_ends" "kept_ends" s_kept_ends f fd) (T : Txt mg) : FnG P w K mg base CX0 1 f fd ["entries", "length"] spKept := by
  refine okG0 F sc_kept_ends (fun vs H Q E h => ?_) (fun cdv A outer s H vs Q E hg hr h => ?_)
  · obtain ⟨e, n, rfl, _⟩ := h
    rfl
  · have hu := hu_of hr
    have hu64 := hr.units
    obtain ⟨e, n, rfl, hn, he, k⟩ := h
    refine ⟨_, (pss_cons (ps_setDc (i := 2) (own := [("entry", 3)]) (g := gName 3) rfl sc_kept_ends.nd rfl rfl (sw_trueD rfl rfl rfl (by decide +kernel)) (pi_list (pv 0)) (blkOk_by (own := [("entry", 3)]) (N := ["entries", "length", "kept", "entry", "ends", "begin"]) (sc := defScope s_kept_ends) (by decide +kernel)) (fun _ _ _ _ _ => (pg_name (i := 3) sc_kept_ends.nd rfl (Or.inl rfl))) (fun _ _ _ _ _ => (pts_one (pt_not (pt_val (pe_callB (call_isiK (K := K) rfl) (by rfl) T.isinstance (by decide +kernel) (pa_cons (pv 3) (pa_cons (pe_bltn (v := .ty "tuple") (by rfl) T.tuple rfl rfl) pa_nil))))))) (fun _ _ _ _ _ => (pv 3)) (fun _ _ _ _ _ => pe_bl))
      (pss_cons (ps_set (i := 4) sc_kept_ends.nd rfl (Or.inl rfl) (pe_listRg rfl (by rfl) T.list (prg_1 (by rfl) T.range (pe_op op_add (pv 1) pe_int))))
      (pss_cons (ps_for PassesOwn.never rfl (pi_revR (by rfl) T.reversed (prg_1 (by rfl) T.range (pv 1))) (pg_name (i := 5) sc_kept_ends.nd rfl (Or.inl rfl)) (pss_one (ps_if (pt_cmp (pc_din hu (pv 5) (pv 2))) (pss_one (ps_asg (pe_ix ix_seq (pv 4) (pe_op op_add (pv 5) pe_int) (fun _ _ => rfl)) (pg_sub (pv 4) (pv 5) set_list))) pss_nil)))
      (pss_one (ps_ret (pv 4)))))), ?_⟩
    refine ⟨_, rfl, e, rfl, ⟨_, SqL.of he⟩, fun D hD => ?_⟩
    have sD := same_new (o := .dK []) hD
    have lrg : (rgV 0 (n : Nat)).length = n := by
      rw [rgV_length]
      omega
    refine dc_list (K := K) (a := e) (xs := rgV 0 (n : Nat)) (fun i H' => H' D = some (.dK (kvN i)) ∧ Same H H') ⟨upd_same, sD⟩ (fun i H' _ p => SqL.of (p.2 _ _ he)) (fun i v H' hv p => ?_) (fun H' p => ?_)
    · obtain ⟨hDz, sm⟩ := p
      have hi : i < n := by
        have := (List.getElem?_eq_some_iff.mp hv).1
        omega
      have ev : v = .int (i : Nat) := by
        unfold rgV at hv
        rw [List.getElem?_map, List.getElem?_range (by omega)] at hv
        have q : V.int (0 + ((i : Nat) : Int)) = v := Option.some.inj hv
        rw [← q, Int.zero_add]
      subst ev
      refine ⟨rfl, _, rfl, .int (i : Nat), .ty "tuple", .type "int", .type "tuple", false, rfl, .ty "tuple", .base (.int _), kit_ty (by decide +kernel), _, rfl, ?_⟩
      have lk : (kvN i).length = i := by
        unfold kvN
        rw [List.length_map, List.length_range]
      refine iteT ⟨_, rfl, kvN i, Sum.inl ((i : Nat) : Int), rfl, hDz, fewL (by omega), ?_, upd_out hD sm⟩
      rw [kvN_put]
      exact upd_same
    · obtain ⟨hD2, s2⟩ := p
      rw [lrg] at hD2
      refine ⟨_, rfl, _, _, rfl, rfl, _, rfl, .of_le (by omega) (by omega) (by omega) (by omega), fun l hl => ?_⟩
      have sl := same_new (o := .lst (rgV 0 ((n : Int) + 1))) hl
      have hl3 : (upd H' l (.lst (rgV 0 ((n : Int) + 1)))) l = some (.lst (endsK n n)) := by
        rw [upd_same, ends_start]
      have hD3 := sl _ _ hD2
      have hl0 := none_up s2 hl
      have s3 := s2.trans sl
      have nDl : l ≠ D := (ne_of_none hD2 hl).symm
      generalize upd H' l (.lst (rgV 0 ((n : Int) + 1))) = H3 at hl3 hD3 s3 ⊢
      refine ⟨_, rfl, _, rfl, by omega, by omega, by omega, by omega, ?_⟩
      have e0 : (0 : Int) + ((((n : Nat) : Int) - 0).toNat : Nat) - 1 = (n : Int) - 1 := by omega
      have e1 : (((n : Nat) : Int) - 0).toNat = n := by omega
      rw [e0, e1]
      refine for_rangeC (fun i σ H' => ∃ (o3 o5 : Option V), σ = [some (.ref e), some (.int (n : Nat)), some (.ref D), o3, some (.ref l), o5] ∧ H' D = some (.dK (kvN n)) ∧ H' l = some (.lst (endsK n (n - i))) ∧ Same H H') ⟨_, _, rfl, hD3, hl3, s3⟩ (fun i σ H4 hi p => ?_) (fun σ H4 p => ?_)
      · obtain ⟨o3, o5, rfl, hD4, hl4, s4⟩ := p
        have eb : (n : Int) - 1 + (i : Nat) * (-1 : Int) = ((n - 1 - i : Nat) : Int) := by omega
        rw [eb]
        have hk : n - 1 - i < n := by omega
        have es : n - i = (n - 1 - i) + 1 := by omega
        have en : n - (i + 1) = n - 1 - i := by omega
        rw [es] at hl4
        rw [en]
        generalize n - 1 - i = q at hk hl4
        have ll : (endsK n (q + 1)).length = n + 1 := by
          unfold endsK
          rw [List.length_map, List.length_range]
        refine ⟨_, rfl, _, rfl, D, _, rfl, DGet.k (k := Sum.inl ((q : Nat) : Int)) hD4, _, rfl, ?_⟩
        rw [kvN_val hk]
        refine iteT ?_
        have ix : atI (endsK n (q + 1)) (((q : Nat) : Int) + 1) = some (V.int (n : Nat)) := by
          rw [show ((q : Nat) : Int) + 1 = ((q + 1 : Nat) : Int) by omega]
          exact atI_nat (ends_at (by omega) (Nat.le_refl _))
        have ixq : ixN (endsK n (q + 1)).length ((q : Nat) : Int) = some q := by
          unfold ixN
          rw [if_pos (by omega), if_pos (by omega)]
          rfl
        refine ⟨_, rfl, _, rfl, _, _, rfl, rfl, .inl ⟨l, _, _, _, rfl, rfl, SqL.of hl4, ix, _, rfl, _, rfl, l, _, _, q, rfl, rfl, hl4, ixq, ?_⟩⟩
        rw [ends_set hk]
        exact ⟨_, _, rfl, (upd_ne nDl.symm).trans hD4, upd_same, upd_out hl0 s4⟩
      · obtain ⟨o3, o5, rfl, hD4, hl4, s4⟩ := p
        rw [Nat.sub_self] at hl4
        exact ⟨_, rfl, k l H4 hl0 hl4 s4⟩

end
end Vk
set_option Elab.async false
set_option maxRecDepth 100000
set_option maxHeartbeats 4000000
set_option linter.all false
namespace Vk
open L2 PySem PySem.Spec PyProof.Rows PySem.VkX LamX NdefX
/-! ## a lambda of one parameter that raises nothing -/
structure LamK1 (P : Program) (w : World) (K : PySem.W.Frag) (mg : Str → Option Value) (base : Heap) (k : Nat) (F : LF) (sp : V → Hp → VK → Prop) : Prop where
  run : ∀ (A : Around) (outer : List Env) (s : Shared) (H : Hp) (f : Addr) (v : V) (u : Value) (Q : VK), A.guards = some [] → Room k A → Env0 P w K mg base A outer s H → H f = some (LamO f F) → H F.c = some (CodeO F.c F.qual) → L2.RelV v u → sp v H Q →
    codeAny (model P w) A (.call (.ref f) ⟨[u], []⟩) (CR CX0 outer P w H s Q E0) s
section
variable {P : Program} {w : World} {K : PySem.W.Frag} {mg : Str → Option Value} {base : Heap} {N : List Str} {F : LF} {k : Nat} {sp : V → Hp → VK → Prop} {p : Str}
theorem lamk1_of (S : NScope N [p] [] F.scope) (hcl : F.cl = []) (hb : ∀ pm ctv u : Value, bindArgs (PySem.W.kla_fn "<lambda>" F.qual F.params F.body F.scope F.cl pm (.ref F.c) ctv) ⟨[u], []⟩ = pure [(p, u)])
    (body : ∀ (A : Around) (outer : List Env) (s : Shared) (H : Hp) (f : Addr) (v : V) (Q : VK), A.guards = some [] → Room k (A.deeper (envF F.nf f s.heap.objs.size)) → sp v H Q →
      ∃ t, PE (ncx CX0 P w K mg base N F.nf f A outer s H E0) F.body t ∧ t (startF N [v] []) H Q) : LamK1 P w K mg base (k + 1) F sp := by
  refine ⟨fun A outer s H f v u Q hg hr e0 hf hc rv hsp => ?_⟩
  have lim : s.heap.NoLimit := e0.mod.nolimit.keeps fun b o e => (e0.bs b o e).1
  obtain ⟨pm, ctv, ho⟩ := lamO_at e0.hok hf
  refine PySem.W.kla_callFunE hr.depth ho rfl S.co S.gen rfl (codeO_at e0.hok hc) ?_
  rw [hb pm ctv u]
  refine wpAny_pure (wpAny_newFunctionEnv S.nocell (fun y hy => ?_) (fun h1 hns hsb => ⟨lim.fresh _ hsb, ?_⟩) S.kind)
  · rw [List.mem_singleton.mp hy]
    exact S.par p List.mem_cons_self
  have kp : ∀ b o, s.heap.get? b = some o → h1.get? b = some o := fun b o e => hsb.extBut b o (Nat.ne_of_lt (Heap.lt_size e)) (Heap.get?_push_of_some _ e)
  obtain ⟨t, ht, hq⟩ := body A outer s H f v Q hg (hr.deeper _) hsp
  have C : CellsAt F.nf.cl [] [] s.heap H := by
    show CellsAt F.cl [] [] s.heap H
    rw [hcl]
    exact ⟨rfl, fun y c e => (nomatch e), fun x y c e _ => (nomatch e), fun i y e => (nomatch e)⟩
  have I : Inv (ncx CX0 P w K mg base N F.nf f A outer s H E0) [] (startF N [v] []) H { s with heap := h1, toks := s.toks + ([(p, u)] : List (Str × Value)).length } := inv_startN (ps := [p]) (us := [u]) (vs := [v]) S hr.hd e0 rfl (.cons rv .nil) C hns kp
  refine PySem.W.kla_codeExpr (wpAny_mono (ht.run [] _ _ H Q I hq) (fun z s' hv => ?_) fun e s' hv => hv)
  obtain ⟨v1, H1, J, rz, q⟩ := hv
  exact ⟨v1, H1, J.os, J.bare, J.base, J.hok, rz, q⟩
end
/-! ## the first of those whose number is least -/
theorem argBest_le (g : Nat → Int) : ∀ m, argBest (fun i j => decide (g i < g j)) m ≤ m ∧ (∀ i, i ≤ m → g (argBest (fun i j => decide (g i < g j)) m) ≤ g i) ∧ ∀ i, i < argBest (fun i j => decide (g i < g j)) m → g (argBest (fun i j => decide (g i < g j)) m) < g i
  | 0 => ⟨Nat.le_refl _, fun i hi => by rw [Nat.le_zero.mp hi]; exact Int.le_refl _, fun i hi => absurd hi (Nat.not_lt_zero _)⟩
  | m + 1 => by
    obtain ⟨h1, h2, h3⟩ := argBest_le g m
    rw [argBest]
    by_cases c : g (m + 1) < g (argBest (fun i j => decide (g i < g j)) m)
    · rw [if_pos (decide_eq_true c)]
      refine ⟨Nat.le_refl _, fun i hi => ?_, fun i hi => Int.lt_of_lt_of_le c (h2 i (by omega))⟩
      by_cases e : i = m + 1
      · rw [e]; exact Int.le_refl _
      · exact Int.le_trans (Int.le_of_lt c) (h2 i (by omega))
    · rw [if_neg (by simpa using c)]
      refine ⟨Nat.le_succ_of_le h1, fun i hi => ?_, h3⟩
      by_cases e : i = m + 1
      · rw [e]; omega
      · exact h2 i (by omega)
/-! ## min(xs, key=f) -/
def rMinLam (K : PySem.W.Frag) (F : LF) (sp : V → Hp → VK → Prop) : List V → List V → Hp → VK → Prop := fun xs zs H Q => ∃ (l f : Addr) (items : List V) (kv : V → Int), xs = [.ref l] ∧ zs = [.ref f] ∧ SqL K H l items ∧ (∀ v ∈ items, ∃ t, v = V.ref t) ∧ items ≠ [] ∧ H f = some (LamO f F) ∧ H F.c = some (CodeO F.c F.qual) ∧
  (∀ v ∈ items, ∀ Q' : VK, Q' (.int (kv v)) H → sp v H Q') ∧ ∀ (i : Nat) v, items[i]? = some v → (∀ (i' : Nat) v', items[i']? = some v' → kv v ≤ kv v') → (∀ (i' : Nat) v', i' < i → items[i']? = some v' → kv v < kv v') → Q v H
theorem refs_one {xs : List V} (h : ∀ v ∈ xs, ∃ t, v = V.ref t) : ∀ {us ws : List Value}, Vals xs us → Vals xs ws → us = ws := by
  induction xs with
  | nil => intro us ws a b; cases a; cases b; rfl
  | cons v xs ih =>
    intro us ws a b
    cases a with
    | cons a1 a2 =>
      cases b with
      | cons b1 b2 =>
        obtain ⟨t, rfl⟩ := h v List.mem_cons_self
        cases a1
        cases b1
        rw [ih (fun v hv => h v (List.mem_cons_of_mem _ hv)) a2 b2]
theorem cr_minLam {X : Cx} {F : LF} {sp : V → Hp → VK → Prop} {j k : Nat} (L : LamK1 X.prog X.w X.K X.mg X.base k F sp) (hg : X.A.guards = some []) (hr : Room j X.A) (hk : k + 1 ≤ j) (hca : X.calm = true) :
    CallRK X (.builtin "min") [Str.ofString "key"] (rMinLam X.K F sp) := by
  intro pins s σ H xs zs us ws Q I rx rz h
  obtain ⟨l, f, items, kv, rfl, rfl, hS, href, hne, hf, hc, hsp, hQ⟩ := h
  obtain ⟨u, rfl, ru⟩ := rx.one
  obtain ⟨u2, rfl, ru2⟩ := rz.one
  cases ru
  cases ru2
  obtain ⟨its, rv, pl, hz⟩ := I.list hS
  have rlen := rv.length
  have hgi : X.A.in1.guards = some [] := hg
  have hri : Room k X.A.in1 := (hr.mono hk).in1
  refine call_min_walkK (wpAny_pyIter_list pl.isList ?_)
  have hit0 : (s.heap.push { cls := .type "list_iterator", data := .fields #[.ref l, .int 0 0] }).IsListIter s.heap.objs.size l 0 := ⟨_, Heap.get?_push_size _ rfl, rfl, rfl⟩
  have llt := pl.lt
  have hli : l ≠ s.heap.objs.size := Nat.ne_of_lt llt
  have I0 : Inv X pins σ H { s with heap := s.heap.push { cls := .type "list_iterator", data := .fields #[.ref l, .int 0 0] } } := I.kept (t' := s.toks) fun b o q => Heap.get?_push_of_some _ q
  have Hi : H s.heap.objs.size = none := I.hok.fresh (Nat.le_refl _)
  have fpI : FpOk X pins H s.heap.objs.size := I.fpOk (Nat.le_refl _) Hi
  have HS : H (s.heap.objs.size + 1) = none := I.hok.fresh (Nat.le_succ _)
  have fpS : FpOk X pins H (s.heap.objs.size + 1) := I.fpOk (Nat.le_succ _) HS
  have W := (Walks.list (prog := X.prog) (w := X.w) (A := X.A.in1) (I.ok.hd hca) s.heap.objs.size l hli its.toArray).toS
  let kn : Nat → Int := fun i => (items[i]?.map kv).getD 0
  refine ⟨_, _, _, _, _, _, _, fun s' => Inv X pins σ H s', fun i k _ => ∃ t, k = Value.int (kn i) t, fun i j => decide (kn i < kn j), rfl, W, ⟨hit0, ?_⟩, ?_, ?_, ?_, I0, ?_⟩
  · exact Heap.IsList.push pl.isList _
  · intro b hb
    have e : (s.heap.push { cls := .type "list_iterator", data := .fields #[.ref l, .int 0 0] }).objs.size = s.heap.objs.size + 1 := Heap.size_push ..
    show b < (s.heap.push { cls := .type "list_iterator", data := .fields #[.ref l, .int 0 0] }).objs.size
    rw [e]
    rcases List.mem_cons.mp hb with z | z
    · exact z ▸ Nat.lt_succ_self _
    · rw [List.mem_singleton.mp z]
      exact Nat.lt_succ_of_lt llt
  · rw [List.size_toArray, ← rlen]
    exact List.length_pos_iff.mpr hne
  · have eS : (s.heap.push { cls := .type "list_iterator", data := .fields #[.ref l, .int 0 0] }).objs.size = s.heap.objs.size + 1 := Heap.size_push ..
    have two : ∀ b ∈ [s.heap.objs.size + 1, s.heap.objs.size], FpOk X pins H b := fun b hb => by
      rcases List.mem_cons.mp hb with z | z
      · exact z ▸ fpS
      · rw [List.mem_singleton.mp z]
        exact fpI
    have offS : ∀ {s1 : Shared} {b : Addr}, Inv X pins σ H s1 → FpOk X pins H b → b ∉ frs X.stack := fun J fp z => by
      rcases List.mem_cons.mp (J.stkSub _ z) with e | e
      · exact fp.2.1 e
      · exact fp.2.2.1 e
    show KeyRun X.prog X.w X.A.in1 (.ref f) .Lt (s.heap.push { cls := .type "list_iterator", data := .fields #[.ref l, .int 0 0] }).objs.size _ _ _ _ _ _ _ _
    rw [eS]
    refine ⟨fun s1 s2 J m => ?_, fun _ _ _ _ z _ => z, fun i v s1 o Q1 E1 hi hv J st hS1 cont => ?_, fun i i' ki kj s1 Q1 E1 J a b q => ?_⟩
    · obtain ⟨hh, g, d, t, os⟩ := s2
      obtain rfl : g = s1.gens := m.gens
      obtain rfl : d = s1.drawn := m.drawn
      obtain rfl : os = s1.os := m.os
      exact J.turnedL (t' := t) (ch := [s.heap.objs.size + 1, s.heap.objs.size]) (fun b o hb e => m.heap b o hb e) two
    · have hil : i < items.length := by
        rw [List.size_toArray] at hi
        omega
      obtain ⟨u, hu, ru⟩ := rv.get (List.getElem?_eq_getElem hil)
      have eu : u = v := by
        rw [List.getElem?_toArray] at hv
        exact Option.some.inj (hu.symm.trans hv)
      subst eu
      have hx : items[i] ∈ items := List.getElem_mem hil
      refine wpAny_call (codeAny_mono (L.run X.A.in1 X.stack s1 H f items[i] u (fun r H1 => r = .int (kv items[i]) ∧ H1 = H) hgi hri J.env0.in1 hf hc ru (hsp _ hx _ ⟨rfl, rfl⟩)) fun res s2 hq => ?_)
      match res, hq with
      | .error e, hq => exact hq.elim
      | .ok .next, hq => exact hq.elim
      | .ok .brk, hq => exact hq.elim
      | .ok .cont, hq => exact hq.elim
      | .ok (.ret z), hq =>
        obtain ⟨_, _, _, _, un, _, _, _⟩ := id hq
        obtain ⟨r, H2, J2, rz2, er, eH⟩ := J.after hq
        subst er eH
        obtain ⟨tz, rfl⟩ := rz2
        have keep : ∀ b, FpOk X pins H2 b → ∀ ob, s1.heap.get? b = some ob → s2.heap.get? b = some ob := fun b fb ob e => un.keep b ob e fb.1 (offS J fb) (by simp)
        obtain ⟨⟨oi, hoi, ri⟩, _⟩ := st
        obtain ⟨its2, rv2, pl2, _⟩ := J2.list hS
        have e2 := refs_one href rv2 rv
        subst e2
        refine cont _ s2 J2 ⟨⟨oi, keep _ fpI _ hoi, ri⟩, pl2.isList⟩ (keep _ fpS _ hS1) ⟨tz, ?_⟩ fun _ _ z => z
        show Value.int (kv items[i]) tz = Value.int ((items[i]?.map kv).getD 0) tz
        rw [List.getElem?_eq_getElem hil]
        rfl
    · obtain ⟨ta, rfl⟩ := a
      obtain ⟨tb, rfl⟩ := b
      exact lt_int q
  · intro v s' hv J
    have hn : 0 < items.length := List.length_pos_iff.mpr hne
    obtain ⟨a1, a2, a3⟩ := argBest_le kn (its.toArray.size - 1)
    generalize hm : argBest (fun i j => decide (kn i < kn j)) (its.toArray.size - 1) = m at a1 a2 a3 hv
    rw [List.size_toArray] at a1 a2
    have hml : m < items.length := by omega
    obtain ⟨u, hu, ru⟩ := rv.get (List.getElem?_eq_getElem hml)
    have eu : u = v := by
      rw [List.getElem?_toArray] at hv
      exact Option.some.inj (hu.symm.trans hv)
    subst eu
    have kn_at : ∀ (i : Nat) (v : V), items[i]? = some v → kn i = kv v := fun i v e => by
      show ((items[i]?.map kv).getD 0) = _
      rw [e]
      rfl
    have km := kn_at m _ (List.getElem?_eq_getElem hml)
    refine ⟨items[m], H, J, ru, hQ m _ (List.getElem?_eq_getElem hml) (fun i' v' e => ?_) fun i' v' hi e => ?_⟩
    · have := a2 i' (by have := (List.getElem?_eq_some_iff.mp e).1; omega)
      rw [km, kn_at _ _ e] at this
      exact this
    · have := a3 i' hi
      rw [km, kn_at _ _ e] at this
      exact this
end Vk
set_option Elab.async false
set_option maxRecDepth 100000
set_option maxHeartbeats 4000000
set_option linter.all false
namespace Vk
open L2 PySem PySem.Spec PyProof.Rows
/-! ## min of a list of tuples -/
theorem argBest_same {b1 b2 : Nat → Nat → Bool} : ∀ m, (∀ i j, i ≤ m → j ≤ m → b1 i j = b2 i j) → argBest b1 m = argBest b2 m ∧ argBest b1 m ≤ m
  | 0, _ => ⟨rfl, Nat.le_refl _⟩
  | m + 1, h => by
    obtain ⟨e, le⟩ := argBest_same m fun i j hi hj => h i j (by omega) (by omega)
    rw [argBest, argBest, ← e, h (m + 1) _ (Nat.le_refl _) (by omega)]
    refine ⟨rfl, ?_⟩
    split <;> omega
def rMinD (K : PySem.W.Frag) : List V → Hp → VK → Prop := fun vs H Q => ∃ (a : Addr) (xs : List V) (ds : List PyData) (g : Nat → Int), vs = [V.ref a] ∧ SqL K H a xs ∧ DpAll K H xs ds ∧ PySem.W.AlikeAll ds ∧ PyData.depthAll ds ≤ 20 ∧ 0 < ds.length ∧
  (∀ i j, i < ds.length → j < ds.length → PySem.W.dataLt (ds.getD i .none) (ds.getD j .none) = decide (g i < g j)) ∧ ∀ (i : Nat) v, xs[i]? = some v → (∀ j, j < ds.length → g i ≤ g j) → Q v H
theorem dpAll_len {K : PySem.W.Frag} {H : Hp} : ∀ {xs : List V} {ds : List PyData}, DpAll K H xs ds → xs.length = ds.length
  | _, _, .nil => rfl
  | _, _, .cons _ t => congrArg (· + 1) (dpAll_len t)
theorem cr_minD {X : Cx} (hca : X.calm = true) (hu : X.A.units + 64 < cLine) : CallR X (.builtin "min") (rMinD X.K) := by
  intro pins s σ H vs us Q I r h
  obtain ⟨a, xs, ds, g, rfl, hS, hd, ha, hdep, hpos, hlt, hQ⟩ := h
  obtain ⟨u, rfl, ru⟩ := r.one
  cases ru
  obtain ⟨its, rv, pl, _⟩ := I.list hS
  have rlen := rv.length
  have dlen := dpAll_len hd
  obtain ⟨as, hr⟩ := Dp.readsAll I ds xs its hd rv
  have hr2 : ReadsAll s.heap its.toArray.toList ds as := by simpa using hr
  refine call_min_walkH (PySem.W.iter_listW (A := X.A.in1) (I.ok.hd hca) pl.isList fun s2 e W st hfp hw hk => ?_)
  have hn : 0 < its.toArray.size := by rw [List.size_toArray]; omega
  refine ⟨_, _, _, _, _, _, _, s.heap, _, rfl, W, st, hfp, hn, hw, hk, PySem.W.cmpIn_lt (A := X.A.in1) hr2 ha (by show X.A.units + 1 + _ < _; omega), fun v s' hP m => ?_⟩
  obtain ⟨h', tk, rfl, hk'⟩ := PySem.W.moved_old e rfl m
  have I2 : Inv X pins σ H { s with heap := h', toks := tk } := I.kept hk'
  have es : its.toArray.size - 1 = ds.length - 1 := by rw [List.size_toArray]; omega
  rw [es] at hP
  obtain ⟨eb, le⟩ := argBest_same (b1 := fun i j => PySem.W.dataLt (ds.getD i .none) (ds.getD j .none)) (b2 := fun i j => decide (g i < g j)) (ds.length - 1) fun i j hi hj => hlt i j (by omega) (by omega)
  obtain ⟨_, a2, _⟩ := argBest_le g (ds.length - 1)
  rw [← eb] at a2
  generalize argBest (fun i j => PySem.W.dataLt (ds.getD i .none) (ds.getD j .none)) (ds.length - 1) = m0 at hP a2 le
  have hml : m0 < xs.length := by omega
  obtain ⟨u, hu, ru⟩ := rv.get (List.getElem?_eq_getElem hml)
  have eu : u = v := by
    rw [List.getElem?_toArray] at hP
    exact Option.some.inj (hu.symm.trans hP)
  subst eu
  exact ⟨xs[m0], H, I2, ru, hQ m0 _ (List.getElem?_eq_getElem hml) fun j hj => a2 j (by omega)⟩
/-- rows of three numbers and a text -/
def qD (q : Int × Int × Int × Str) : PyData := .tuple [.int q.1, .int q.2.1, .int q.2.2.1, .str q.2.2.2]
theorem q_lt {p q : Int × Int × Int × Str} (h : p.1 = q.1 → p.2.1 = q.2.1 → p = q) : PySem.W.dataLt (qD p) (qD q) = decide (p.1 < q.1 ∨ p.1 = q.1 ∧ p.2.1 < q.2.1) := by
  obtain ⟨c, a, b, w⟩ := p
  obtain ⟨c', a', b', w'⟩ := q
  unfold PySem.W.dataLt qD
  simp only [PySem.W.keyToks, PySem.W.keyToksAll, List.cons_append, List.nil_append, List.append_nil]
  simp only at h
  have one : ∀ x y : Int, PyProof.Rows.lexLt itemOrd [Sum.inl x] [Sum.inl y] = decide (x < y) := fun x y => by
    show (decide (x < y) || (!decide (y < x) && false)) = _
    simp
  by_cases e1 : c = c'
  · by_cases e2 : a = a'
    · have e3 := h e1 e2
      simp only [Prod.mk.injEq] at e3
      obtain ⟨_, _, rfl, rfl⟩ := e3
      subst e1 e2
      rw [decide_eq_false (by omega)]
      have z := PySem.W.lex_pre [Sum.inl 1, Sum.inl c, Sum.inl 1, Sum.inl a, Sum.inl 1, Sum.inl b, Sum.inl 1, Sum.inr w.cps.toList, Sum.inl 0] [] []
      exact z
    · subst e1
      refine (PySem.W.lex_pre [Sum.inl 1, Sum.inl c, Sum.inl 1] (Sum.inl a :: _) (Sum.inl a' :: _)).trans ?_
      rw [PySem.W.lex_atom (fun z => e2 (Sum.inl.inj z)), one]
      refine decide_eq_decide.mpr ⟨fun z => .inr ⟨rfl, z⟩, fun z => ?_⟩
      rcases z with z | z
      · omega
      · exact z.2
  · refine (PySem.W.lex_pre [Sum.inl 1] (Sum.inl c :: _) (Sum.inl c' :: _)).trans ?_
    rw [PySem.W.lex_atom (fun z => e1 (Sum.inl.inj z)), one]
    refine decide_eq_decide.mpr ⟨fun z => .inl z, fun z => ?_⟩
    rcases z with z | z
    · exact z
    · exact absurd z.1 e1
end Vk
set_option Elab.async false
set_option maxRecDepth 100000
set_option linter.all false
set_option maxHeartbeats 4000000
namespace Vk
open PySem PySem.Spec PyProof.Rows L2
section
variable {P : Program} {w : World} {K : PySem.W.Frag} {mg : Str → Option Value} {base : Heap}
theorem nuMax2_int (a b : Int) : nuMax2 (.int a) (.int b) = some (.int (max a b)) := by
  show (some (decide (a < b))).map (fun c => if c = true then V.int b else V.int a) = _
  by_cases h : a < b
  · rw [decide_eq_true h, show max a b = b by omega]; rfl
  · rw [decide_eq_false h, show max a b = a by omega]; rfl
theorem nuMax3_int (a b c : Int) : nuMax3 (.int a) (.int b) (.int c) = some (.int (max (max a b) c)) := by
  show (nuMax2 (.int a) (.int b)).bind (fun m => nuMax2 m (.int c)) = _
  rw [nuMax2_int]
  exact nuMax2_int _ _
theorem or_bothH {c : Bool} {T B : Prop} (R : Hp → Prop) (G : Hp → Prop) (h : ∀ H, G H → R H) (h1 : c = true → (∀ H, G H → R H) → T) (h2 : c = false → (∀ H, G H → R H) → B) : if c = true then T else B := by
  cases c with
  | true => exact h1 rfl h
  | false => exact h2 rfl h
def popE (ws : List (Nat × Nat)) (e : Nat) : List (Nat × Nat) := match ws.getLast? with
  | some p => if p.2 = e then ws.dropLast else ws
  | none => ws
def endE (x : Str) (b : Nat) : Nat → Nat
  | 0 => 0
  | k + 1 => lendF x k (x.length + 1) (max (endE x b k) (max (k + 1) b))
def toldE (x : Str) (b : Nat) : Nat → List (Nat × Nat)
  | 0 => []
  | k + 1 => if endE x b (k + 1) ≤ x.length then popE (toldE x b k) (endE x b (k + 1)) ++ [(k, endE x b (k + 1))] else toldE x b k
theorem popE_len {ws : List (Nat × Nat)} {e : Nat} : (popE ws e).length ≤ ws.length := by
  unfold popE
  split
  · split
    · rw [List.length_dropLast]; omega
    · exact Nat.le_refl _
  · exact Nat.le_refl _
theorem toldE_len {x : Str} {b : Nat} : ∀ {k : Nat}, (toldE x b k).length ≤ k
  | 0 => Nat.le_refl _
  | k + 1 => by
    have q := toldE_len (x := x) (b := b) (k := k)
    unfold toldE
    split
    · have := popE_len (ws := toldE x b k) (e := endE x b (k + 1))
      rw [List.length_append, List.length_singleton]
      omega
    · omega
theorem prn_last {H : Hp} : ∀ {ys : List V} {ws : List (Nat × Nat)}, PrN H ys ws → (ys = [] ∧ ws = []) ∨ ∃ ys' ws' t p, ys = ys' ++ [V.ref t] ∧ ws = ws' ++ [p] ∧ PrN H ys' ws' ∧ H t = some (.tup [.int ((p : Nat × Nat).1 : Nat), .int (p.2 : Nat)])
  | _, _, .nil => .inl ⟨rfl, rfl⟩
  | _, _, .cons (a := v) (b := p) ⟨t, e, ht⟩ h => by
    subst e
    rcases prn_last h with ⟨rfl, rfl⟩ | ⟨ys', ws', u, q, rfl, rfl, h', hu⟩
    · exact .inr ⟨[], [], t, p, rfl, rfl, .nil, ht⟩
    · exact .inr ⟨V.ref t :: ys', p :: ws', u, q, rfl, rfl, .cons ⟨t, rfl, ht⟩ h', hu⟩
theorem popE_snoc {ws : List (Nat × Nat)} {p : Nat × Nat} {e : Nat} : popE (ws ++ [p]) e = if p.2 = e then ws else ws ++ [p] := by
  unfold popE
  rw [List.getLast?_append, List.getLast?_singleton]
  show (if p.2 = e then (ws ++ [p]).dropLast else ws ++ [p]) = _
  rw [List.dropLast_concat]
def spIn1 : Sp := fun vs H Q _ => ∃ (l : Addr) (x w : Str), vs = [.ref l, .str w] ∧ H l = some (.lst [.str x]) ∧ Q (.bl (decide (2 ≤ (plc x w).length))) H
abbrev s_stands_twice_in_one : Stmt := top 45
theorem sc_stands_twice_in_one : FnScope ["texts", "word", "text"] ["texts", "word"] (defScope s_stands_twice_in_one) := ⟨rfl, rfl, rfl, by decide +kernel, rfl, by decide +kernel, by decide +kernel⟩
theorem b_stands_twice_in_one {f : Addr} {fd : FuncData} (F : Fun K "stands_twice_in_one" "stands_twice_in_one" s_stands_twice_in_one f fd) (T : Txt mg) (c_stands_twice : CalG P w K mg base CX0 1 "stands_twice" spTwice) : FnG P w K mg base CX0 2 f fd ["texts", "word"] spIn1 := by
  refine okG0 F sc_stands_twice_in_one (fun vs H Q E h => ?_) (fun cdv A outer s H vs Q E hg hr h => ?_)
  · obtain ⟨l, x, w, rfl, _⟩ := h
    rfl
  · have hu := hu_of hr
    have hu64 := hr.units
    obtain ⟨l, x, w, rfl, hl, k⟩ := h
    have hr1 : Room 1 _ := hr
    refine ⟨_, (pss_cons (ps_for PassesOwn.never rfl (pi_list (pv 0)) (pg_name (i := 2) sc_stands_twice_in_one.nd rfl (Or.inl rfl)) (pss_one (ps_if (pt_val (pe_cG c_stands_twice hg hr (by decide) pass0 (pa_cons (pv 2) (pa_cons (pv 1) pa_nil)))) (pss_one (ps_ret pe_bl)) pss_nil)))
      (pss_one (ps_ret pe_bl))), ?_⟩
    refine ⟨_, rfl, l, rfl, ⟨_, SqL.of hl⟩, ?_⟩
    refine for_list (xs := [V.str x]) (fun i σ H' => ∃ (o2 : Option V), σ = [some (.ref l), some (.str w), o2] ∧ H' = H ∧ (i = 0 ∨ ¬ 2 ≤ (plc x w).length)) ?_ ?_ ?_ ?_
    · exact ⟨_, rfl, rfl, .inl rfl⟩
    · rintro i σ H' _ ⟨o2, rfl, rfl, _⟩
      exact SqL.of hl
    · rintro i v σ H2 hv ⟨o2, rfl, rfl, hi⟩
      have ev : v = .str x := by
        have m := List.mem_of_getElem? hv
        exact List.mem_singleton.mp m
      subst ev
      refine ⟨_, rfl, _, rfl, x, w, rfl, _, rfl, ?_⟩
      by_cases c : 2 ≤ (plc x w).length
      · rw [decide_eq_true c] at k ⊢
        exact iteT k
      · rw [decide_eq_false c]
        exact iteF ⟨_, rfl, rfl, .inr c⟩
    · rintro σ H2 ⟨o2, rfl, rfl, hi⟩
      have c : ¬ 2 ≤ (plc x w).length := by
        rcases hi with hi | hi
        · exact absurd hi (by show ¬ 1 = 0; decide)
        · exact hi
      rw [decide_eq_false c] at k
      exact k

def spLeastW : Sp := fun vs H Q _ => ∃ (x : Str) (a b : Nat) (r t w e : Addr), vs = [.str x, .int (a : Nat), .int (b : Nat), .ref r] ∧ x.length ≤ 20 ∧ a ≤ x.length ∧ b ≤ x.length ∧ H r = some (.lst [.ref t]) ∧ H t = some (.tup [.ref w, .str x, .ref e]) ∧ H e = some (.lst (rgV 0 (x.length : Nat))) ∧ ∀ (l : Addr) (ys : List V) H', H l = none → H' l = some (.lst ys) → PrN H' ys (toldE x b (min (a + 1) x.length)) → Same H H' → Q (.ref l) H'
abbrev s_least_windows : Stmt := top 46
theorem sc_least_windows : FnScope ["text", "first", "last", "results", "texts", "_", "result", "all_ends", "entries", "told", "end", "begin", "most", "ends"] ["text", "first", "last", "results"] (defScope s_least_windows) := ⟨rfl, rfl, rfl, by decide +kernel, rfl, by decide +kernel, by decide +kernel⟩
theorem b_least_windows {f : Addr} {fd : FuncData} (F : Fun K "least_windows" "least_windows" s_least_windows f fd) (T : Txt mg) (c_stands_twice_in_one : CalG P w K mg base CX0 2 "stands_twice_in_one" spIn1) (c_kept_ends : CalG P w K mg base CX0 1 "kept_ends" spKept) : FnG P w K mg base CX0 3 f fd ["text", "first", "last", "results"] spLeastW := by
  refine okG0 F sc_least_windows (fun vs H Q E h => ?_) (fun cdv A outer s H vs Q E hg hr h => ?_)
  · obtain ⟨x, a, b, r, t, w, e, rfl, _⟩ := h
    rfl
  · have hu := hu_of hr
    have hu64 := hr.units
    obtain ⟨x, a, b, r, t, w, e, rfl, hx, ha, hb, hr0, ht, he, k⟩ := h
    have hr2 : Room 2 _ := hr
    have xl : x.length ≤ sizeLine := Nat.le_of_lt (fewL (by omega))
    refine ⟨_, (pss_cons (ps_set (i := 4) sc_least_windows.nd rfl (Or.inl rfl) (pe_callTy (call_list_dK rfl) (by rfl) T.list (by decide +kernel) (pa_cons (pe_dc (own := [("_", 5), ("result", 6)]) (g := (gTup K 3 (gCons (gName 5) (gCons (gName 6) (gCons (gName 5) gNil))))) (tt := tYes) rfl sc_least_windows.nd (pi_list (pv 3)) (blkOk_by (own := [("_", 5), ("result", 6)]) (N := ["text", "first", "last", "results", "texts", "_", "result", "all_ends", "entries", "told", "end", "begin", "most", "ends"]) (sc := defScope s_least_windows) (by decide +kernel)) (fun _ _ _ _ _ => (pg_tupK (K := K) rfl rfl (pgs_cons (pg_name (i := 5) sc_least_windows.nd rfl (Or.inl rfl)) (pgs_cons (pg_name (i := 6) sc_least_windows.nd rfl (Or.inl rfl)) (pgs_cons (pg_name (i := 5) sc_least_windows.nd rfl (Or.inl rfl)) pgs_nil))))) (fun _ _ _ _ _ => pts_nil) (fun _ _ _ _ _ => (pv 6)) (fun _ _ _ _ _ => pe_bl)) pa_nil)))
      (pss_cons (ps_setLc (i := 7) (own := [("_", 5), ("entries", 8)]) (g := (gTup K 3 (gCons (gName 5) (gCons (gName 5) (gCons (gName 8) gNil))))) (tt := tYes) rfl sc_least_windows.nd rfl rfl (sw_true rfl rfl rfl (by decide +kernel)) (pi_list (pv 3)) (blkOk_by (own := [("_", 5), ("entries", 8)]) (N := ["text", "first", "last", "results", "texts", "_", "result", "all_ends", "entries", "told", "end", "begin", "most", "ends"]) (sc := defScope s_least_windows) (by decide +kernel)) (fun _ _ _ _ _ => (pg_tupK (K := K) rfl rfl (pgs_cons (pg_name (i := 5) sc_least_windows.nd rfl (Or.inl rfl)) (pgs_cons (pg_name (i := 5) sc_least_windows.nd rfl (Or.inl rfl)) (pgs_cons (pg_name (i := 8) sc_least_windows.nd rfl (Or.inl rfl)) pgs_nil))))) (fun _ _ _ _ _ => pts_nil) (fun _ _ _ _ _ => (pe_cG c_kept_ends hg hr (by decide) pass0 (pa_cons (pv 8) (pa_cons (pe_callB (call_lenK (K := K) rfl) (by rfl) T.len (by decide +kernel) (pa_cons (pv 0) pa_nil)) pa_nil)))))
      (pss_cons (ps_set (i := 9) sc_least_windows.nd rfl (Or.inl rfl) (pe_lst pa_nil))
      (pss_cons (ps_set (i := 10) sc_least_windows.nd rfl (Or.inl rfl) pe_int)
      (pss_cons (ps_for PassesOwn.never rfl (pi_range1 rfl T.range (pa_cons (pe_callB (call_min2 rfl) (by rfl) T.min (by decide +kernel) (pa_cons (pe_op op_add (pv 1) pe_int) (pa_cons (pe_callB call_len (by rfl) T.len (by decide +kernel) (pa_cons (pv 0) pa_nil)) pa_nil))) pa_nil)) (pg_name (i := 11) sc_least_windows.nd rfl (Or.inr rfl)) (pss_cons (ps_set (i := 10) sc_least_windows.nd rfl (Or.inl rfl) (pe_callB (call_max3Nu rfl) (by rfl) T.max (by decide +kernel) (pa_cons (pv 10) (pa_cons (pe_op op_add (pv 11) pe_int) (pa_cons (pv 2) pa_nil)))))
      (pss_cons (ps_set (i := 12) sc_least_windows.nd rfl (Or.inl rfl) (pe_callB (cr_min rfl) (by rfl) T.min (by decide +kernel) (pa_cons (pe_lc (own := [("ends", 13)]) (g := gName 13) (tt := tYes) rfl sc_least_windows.nd (pi_list (pv 7)) (blkOk_by (own := [("ends", 13)]) (N := ["text", "first", "last", "results", "texts", "_", "result", "all_ends", "entries", "told", "end", "begin", "most", "ends"]) (sc := defScope s_least_windows) (by decide +kernel)) (fun _ _ _ _ _ => (pg_name (i := 13) sc_least_windows.nd rfl (Or.inl rfl))) (fun _ _ _ _ _ => pts_nil) (fun _ _ _ _ _ => (pe_ix (ix_seqK (K := K) rfl) (pv 13) (pv 11) (fun _ _ => rfl)))) pa_nil)))
      (pss_cons (ps_while PassesOwn.never (PW.pt (pw_and (pt_cmpR op_le (pv 10) (pv 12) (nomark _)) (pw_and1 (pt_val (pe_cG c_stands_twice_in_one hg hr (by decide) pass0 (pa_cons (pv 4) (pa_cons (pe_slice sl_str (pv 0) (po_some (pv 11)) (po_some (pv 10))) pa_nil))))))) (pss_one (ps_aug (i := 10) sc_least_windows.nd rfl (Or.inl rfl) pe_int ip_add)))
      (pss_one (ps_if (pt_cmpR op_le (pv 10) (pv 12) (nomark _)) (pss_cons (ps_if (PW.pt (pw_and (pt_truthK (K := K) rfl (pv 9)) (pw_and1 (pt_cmpR op_eq (pe_ix ix_seq (pe_ix ix_seq (pv 9) (pe_un un_neg pe_int) (fun _ _ => rfl)) pe_int (fun _ _ => rfl)) (pv 10) (nomark _))))) (pss_one (ps_expr (pe_bm0 PySem.F.plainAttrs_list PySem.F.slot_list_pop PySem.F.type_list_pop mt_pop (pv 9) ))) pss_nil)
      (pss_one (ps_expr (pe_bm PySem.F.plainAttrs_list PySem.F.slot_list_append PySem.F.type_list_append mt_append (pv 9) (pa_cons (pe_tup (pa_cons (pv 11) (pa_cons (pv 10) pa_nil))) pa_nil))))) pss_nil))))))
      (pss_one (ps_ret (pv 9)))))))), ?_⟩
    generalize hn : x.length = n at hx ha hb he k
    -- the texts
    refine ⟨_, rfl, r, rfl, ⟨_, SqL.of hr0⟩, fun D hD => ?_⟩
    have sD := same_new (o := .dK []) hD
    refine dc_list (K := K) (a := r) (xs := [.ref t]) (fun i H' => H' D = some (.dK (if i = 0 then [] else [(Sum.inr x, V.bl true)])) ∧ Same H H') ⟨upd_same, sD⟩ (fun i H' _ p => SqL.of (p.2 _ _ hr0)) (fun i v H' hv p => ?_) (fun H1 p => ?_)
    · obtain ⟨hDz, sm⟩ := p
      have hi := (List.getElem?_eq_some_iff.mp hv).1
      have i0 : i = 0 := by have : i < 1 := hi; omega
      subst i0
      cases hv
      refine ⟨t, _, rfl, SqT.of (sm _ _ ht), rfl, _, _, rfl, _, _, rfl, _, _, rfl, rfl, ?_⟩
      exact ⟨rfl, _, rfl, [], Sum.inr x, rfl, hDz, by show 0 < sizeLine; exact fewL (by decide), upd_same, upd_out hD sm⟩
    obtain ⟨hD1, s1⟩ : H1 D = some (.dK [(Sum.inr x, V.bl true)]) ∧ Same H H1 := p
    refine ⟨D, _, rfl, hD1, fun l1 hl1 => ?_⟩
    have ekv : List.map (fun kv : Sum Int Str × V => kV kv.1) [((Sum.inr x : Sum Int Str), V.bl true)] = [V.str x] := rfl
    rw [ekv]
    clear ekv
    have sl1 := same_new (o := .lst [.str x]) hl1
    have h2l : (upd H1 l1 (.lst [.str x])) l1 = some (.lst [.str x]) := upd_same
    have s2 := s1.trans sl1
    generalize upd H1 l1 (.lst [.str x]) = H2 at h2l s2 sl1
    -- where they end
    refine ⟨_, rfl, r, rfl, ⟨_, SqL.of (s2 _ _ hr0)⟩, fun D2 hD2 => ?_⟩
    have sD2 := same_new (o := .lst []) hD2
    refine lc_list (K := K) (a := r) (xs := [.ref t]) (fun i H' => ∃ us, H' D2 = some (.lst us) ∧ (i = 0 → us = []) ∧ (i = 1 → ∃ u, us = [.ref u] ∧ H' u = some (.lst (endsK n 0))) ∧ Same H2 H') ?_ ?_ ?_ ?_
    · exact ⟨[], upd_same, fun _ => rfl, (fun z => by cases z), sD2⟩
    · rintro i H' _ ⟨_, _, _, _, sm⟩
      exact SqL.of (sm _ _ (s2 _ _ hr0))
    · rintro i v H' hv ⟨us, hDz, u0, _, sm⟩
      have hi := (List.getElem?_eq_some_iff.mp hv).1
      have i0 : i = 0 := by have : i < 1 := hi; omega
      subst i0
      cases hv
      have s2m := s2.trans sm
      refine ⟨t, _, rfl, SqT.of (s2m _ _ ht), rfl, _, _, rfl, _, _, rfl, _, _, rfl, rfl, ?_⟩
      refine ⟨rfl, _, rfl, _, rfl, _, _, rfl, ⟨xl, rfl⟩, ?_⟩
      rw [hn]
      refine ⟨e, n, rfl, by omega, s2m _ _ he, fun u H'' hu0 hu s'' => ⟨us, s'' _ _ hDz, ?_, ?_⟩⟩
      · rw [u0 rfl]
        exact fewL (by decide)
      · have une : u ≠ D2 := (ne_of_none hDz hu0).symm
        refine ⟨_, upd_same, (fun z => by cases z), fun _ => ⟨u, by rw [u0 rfl]; rfl, (upd_ne une).trans hu⟩, upd_out hD2 (sm.trans s'')⟩
    rintro H3 ⟨us, hD3, _, u1, s23⟩
    obtain ⟨u, rfl, hu⟩ := u1 rfl
    have hl1 := s23 _ _ h2l
    have s03 := s2.trans s23
    refine ⟨by show 0 ≤ sizeLine; decide, fun lt hlt => ?_⟩
    have hlt0 := none_up s03 hlt
    have slt := same_new (o := .lst []) hlt
    refine ⟨_, rfl, _, _, rfl, rfl, _, rfl, _, _, rfl, ⟨xl, rfl⟩, _, _, rfl, _, rfl, ?_, ?_, ?_⟩
    · rw [hn]; split <;> omega
    · rw [hn]; split <;> omega
    rw [hn]
    have em : (if ((n : Nat) : Int) < ((a : Nat) : Int) + 1 then ((n : Nat) : Int) else ((a : Nat) : Int) + 1).toNat = min (a + 1) n := by split <;> omega
    rw [em]
    refine for_range (lo := 0) (n := min (a + 1) n) (fun j σ H' => ∃ (o5 o6 o8 o11 o12 o13 : Option V) (ys : List V), σ = [some (.str x), some (.int (a : Nat)), some (.int (b : Nat)), some (.ref r), some (.ref l1), o5, o6, some (.ref D2), o8, some (.ref lt), some (.int (endE x b j : Nat)), o11, o12, o13] ∧ H' lt = some (.lst ys) ∧ PrN H' ys (toldE x b j) ∧ Same H3 H') ?_ ?_ ?_
    · exact ⟨_, _, _, _, _, _, [], rfl, upd_same, .nil, slt⟩
    · rintro j σ H4 hj ⟨o5, o6, o8, o11, o12, o13, ys, rfl, hlt4, py4, s4⟩
      have hjn : j < n := by omega
      have gy := paired_len py4
      have gl := toldE_len (x := x) (b := b) (k := j)
      rw [Int.zero_add]
      have hmax : nuMax3 (.int ((endE x b j : Nat) : Int)) (.int (((j : Nat) : Int) + 1)) (.int ((b : Nat) : Int)) = some (.int ((max (endE x b j) (max (j + 1) b) : Nat) : Int)) := by
        rw [nuMax3_int]
        refine congrArg (fun z : Int => some (V.int z)) ?_
        omega
      refine ⟨_, rfl, _, rfl, _, _, rfl, rfl, _, rfl, _, _, _, _, rfl, hmax, ?_⟩
      -- the most
      refine ⟨_, rfl, D2, rfl, ⟨_, SqL.of (s4 _ _ hD3)⟩, fun D4 hD4 => ?_⟩
      have sD4 := same_new (o := .lst []) hD4
      refine lc_list (K := K) (a := D2) (xs := [.ref u]) (fun i H' => H' D4 = some (.lst (if i = 0 then [] else [V.int (n : Nat)])) ∧ Same H4 H') ?_ ?_ ?_ ?_
      · exact ⟨upd_same, sD4⟩
      · rintro i H' _ ⟨_, sm⟩
        exact SqL.of (sm _ _ (s4 _ _ hD3))
      · rintro i v H' hv ⟨hDz, sm⟩
        have hi := (List.getElem?_eq_some_iff.mp hv).1
        have i0 : i = 0 := by have : i < 1 := hi; omega
        subst i0
        cases hv
        have hu5 := (s4.trans sm) _ _ hu
        have ix : atI (endsK n 0) ((j : Nat) : Int) = some (V.int (n : Nat)) := atI_nat (ends_at (by omega) (Nat.zero_le _))
        refine ⟨rfl, _, rfl, _, rfl, .inl ⟨u, _, _, _, rfl, rfl, SqL.of hu5, ix, _, hDz, (by show 0 < sizeLine; exact fewL (by decide)), upd_same, upd_out hD4 sm⟩⟩
      rintro H5 pH5
      obtain ⟨hD5, s45⟩ : H5 D4 = some (.lst [V.int (n : Nat)]) ∧ Same H4 H5 := pH5
      refine ⟨D4, [(n : Int)], rfl, SqL.of hD5, Nat.zero_lt_one, fun mi hm _ => ?_⟩
      have emi : mi = (n : Int) := List.mem_singleton.mp hm
      subst emi
      have hlt5 := s45 _ _ hlt4
      have py5 := py4.keep s45
      have s35 := s4.trans s45
      have hl5 := s35 _ _ hl1
      clear py4 hlt4
      have hR : endE x b (j + 1) = lendF x j (x.length + 1) (max (endE x b j) (max (j + 1) b)) := rfl
      rw [hn] at hR
      have tE : toldE x b (j + 1) = if endE x b (j + 1) ≤ x.length then popE (toldE x b j) (endE x b (j + 1)) ++ [(j, endE x b (j + 1))] else toldE x b j := rfl
      rw [hn] at tE
      have mgt : j < max (endE x b j) (max (j + 1) b) := by omega
      generalize max (endE x b j) (max (j + 1) b) = m0 at hR mgt
      generalize endE x b (j + 1) = R at hR tE
      refine ⟨fun m σ H' => ∃ ee f, σ = [some (.str x), some (.int (a : Nat)), some (.int (b : Nat)), some (.ref r), some (.ref l1), o5, o6, some (.ref D2), o8, some (.ref lt), some (.int (ee : Nat)), some (.int (j : Nat)), some (.int (n : Nat)), o13] ∧ H' = H5 ∧ lendF x j f ee = R ∧ n + 1 ≤ ee + f ∧ j < ee ∧ m = n + 1 - ee, ⟨n + 1 - m0, m0, n + 1, rfl, rfl, hR.symm, by omega, mgt, rfl⟩, ?_⟩
      rintro m σ H6 ⟨ee, f6, rfl, rfl, eR, ef, ie, rfl⟩
      refine ⟨_, rfl, _, rfl, _, _, rfl, rfl, _, rfl, ?_⟩
      by_cases cond : ee ≤ x.length ∧ twB x j ee = true
      · rw [decide_eq_true (show ((ee : Nat) : Int) ≤ ((n : Nat) : Int) by omega)]
        refine iteT ⟨_, rfl, _, rfl, _, rfl, _, rfl, _, rfl, _, rfl, x, rfl, xl, l1, x, _, rfl, hl5, _, rfl, ?_⟩
        rw [show decide (2 ≤ (plc x (cutS x (some ((j : Nat) : Int)) (some ((ee : Nat) : Int)))).length) = twB x j ee from rfl, cond.2]
        refine iteT ⟨fun σ' H' => σ' = [some (.str x), some (.int (a : Nat)), some (.int (b : Nat)), some (.ref r), some (.ref l1), o5, o6, some (.ref D2), o8, some (.ref lt), some (.int ((ee + 1 : Nat) : Int)), some (.int (j : Nat)), some (.int (n : Nat)), o13] ∧ H' = H6, ?_, ?_⟩
        · rintro σ' H' ⟨rfl, rfl⟩
          cases f6 with
          | zero => omega
          | succ f => exact ⟨_, (by omega : n + 1 - (ee + 1) < n + 1 - ee), ee + 1, f, rfl, rfl, (lendF_step cond).symm.trans eR, by omega, by omega, rfl⟩
        · exact ⟨_, rfl, _, _, rfl, rfl, rfl, rfl⟩
      · have eq : ee = R := by rw [← eR, lendF_stop cond]
        refine' or_both (R := ?oR) ?oa ?ob ?oc
        case oa =>
          intro hc hR
          refine ⟨_, rfl, _, rfl, _, rfl, _, rfl, _, rfl, _, rfl, x, rfl, xl, l1, x, _, rfl, hl5, _, rfl, ?_⟩
          have el2 : ee ≤ x.length := by rw [hn]; exact Int.ofNat_le.mp (of_decide_eq_true hc)
          rw [show decide (2 ≤ (plc x (cutS x (some ((j : Nat) : Int)) (some ((ee : Nat) : Int)))).length) = twB x j ee from rfl]
          cases q : twB x j ee with
          | true => exact absurd ⟨el2, q⟩ cond
          | false =>
            refine iteF ?_
            exact hR
        case ob =>
          intro hc hR
          exact hR
        case oc =>
          subst eq
          refine ⟨_, rfl, _, rfl, _, _, rfl, rfl, _, rfl, ?_⟩
          by_cases c : ee ≤ n
          · rw [decide_eq_true (show ((ee : Nat) : Int) ≤ ((n : Nat) : Int) by omega)]
            rw [if_pos c] at tE
            refine iteT ?_
            refine ⟨_, rfl, _, .inl ⟨_, SqL.of hlt5, rfl⟩, ?_⟩
            clear hD5 s45 hl5
            refine' or_bothH (R := ?oS) (fun H' => ∃ zs, H' lt = some (.lst zs) ∧ PrN H' zs (popE (toldE x b j) ee) ∧ Same H3 H' ∧ zs.length ≤ j) ?k0 ?k1 ?k2
            case k2 =>
              intro hc hR
              rcases prn_last py5 with ⟨ey, ew⟩ | ⟨ys', ws', t', p', ey, ew, py', ht'⟩
              · refine iteF ?_
                refine hR H6 ⟨ys, hlt5, ?_, s35, by rw [gy]; exact gl⟩
                rw [ew, ey]
                exact .nil
              · rw [ey] at hc
                rw [List.isEmpty_eq_false_iff.mpr (fun z => by have := congrArg List.length z; rw [List.length_append] at this; exact absurd this (Nat.succ_ne_zero _))] at hc
                cases hc
            case k1 =>
              intro hc hR
              rcases prn_last py5 with ⟨ey, ew⟩ | ⟨ys', ws', t', p', ey, ew, py', ht'⟩
              · rw [ey] at hc
                cases hc
              · have lz : ys'.length ≤ j := by
                  have := congrArg List.length ey
                  rw [List.length_append, List.length_singleton, gy] at this
                  exact Nat.le_trans (Nat.le_succ _) (Nat.le_trans (Nat.le_of_eq this.symm) gl)
                have lst : ys[ys'.length]? = some (.ref t') := by
                  rw [ey, List.getElem?_append_right (Nat.le_refl _), Nat.sub_self]
                  rfl
                have ln : ys.length = ys'.length + 1 := by rw [ey, List.length_append]; rfl
                refine ⟨_, rfl, _, rfl, .inl ⟨lt, _, _, _, rfl, rfl, SqL.of hlt5, atI_end lst ln, .inr (.inl ⟨t', _, _, _, rfl, rfl, SqT.of ht', rfl, _, rfl, rfl, _, rfl, ?_⟩)⟩⟩
                by_cases hp : p'.2 = ee
                · rw [decide_eq_true (congrArg (fun z : Nat => V.int (z : Int)) hp)]
                  refine iteT ⟨_, rfl, .inl ⟨rfl, _, SqL.of hlt5⟩, lt, ys, .ref t', rfl, rfl, hlt5, (by rw [ln]; exact lst), ?_⟩
                  refine hR _ ⟨ys', ?_, ?_, upd_out hlt s35, lz⟩
                  · rw [upd_same, ey, List.dropLast_concat]
                  · rw [ew, popE_snoc, if_pos hp]
                    exact py'.keepT (upd_list hlt5)
                · rw [decide_eq_false (show ¬ V.int ((p'.2 : Nat) : Int) = V.int ((ee : Nat) : Int) from fun z => hp (Int.ofNat.inj (V.int.inj z)))]
                  refine iteF ?_
                  refine hR H6 ⟨ys, hlt5, ?_, s35, by rw [gy]; exact gl⟩
                  rw [ew, popE_snoc, if_neg hp, ← ew]
                  exact py5
            case k0 =>
              rintro H7 ⟨zs, hz, pz, sz, lz⟩
              refine ⟨_, rfl, .inl ⟨rfl, _, SqL.of hz⟩, _, rfl, _, rfl, by show 2 ≤ sizeLine; decide, fun u hu => ?_⟩
              have su := same_new (o := .tup [.int ((j : Nat) : Int), .int ((ee : Nat) : Int)]) hu
              have hz' := su _ _ hz
              refine ⟨lt, _, _, rfl, rfl, hz', fewL (by omega), ?_⟩
              refine ⟨_, _, _, _, _, _, zs ++ [.ref u], rfl, upd_same, ?_, upd_out hlt (sz.trans su)⟩
              rw [tE]
              exact Paired.snoc ((pz.keep su).keepT (upd_list hz')) ⟨u, rfl, upd_list hz' _ _ upd_same⟩
          · rw [decide_eq_false (show ¬ ((ee : Nat) : Int) ≤ ((n : Nat) : Int) by omega)]
            rw [if_neg c] at tE
            refine iteF ⟨_, _, _, _, _, _, ys, rfl, hlt5, ?_, s35⟩
            rw [tE]
            exact py5
    · rintro σ H4 ⟨o5, o6, o8, o11, o12, o13, ys, rfl, hlt4, py4, s4⟩
      exact ⟨_, rfl, k lt ys H4 hlt0 hlt4 py4 (s03.trans s4)⟩

end
end Vk
set_option Elab.async false
set_option maxRecDepth 100000
set_option linter.all false
set_option maxHeartbeats 4000000
namespace Vk
open PySem PySem.Spec PyProof.Rows L2
section
variable {P : Program} {w : World} {K : PySem.W.Frag} {mg : Str → Option Value} {base : Heap}
theorem lend_gen {x : Str} {a : Nat} : ∀ (f e : Nat), x.length + 1 ≤ e + f →
    e ≤ lendF x a f e ∧ (∀ b, e ≤ b → b < lendF x a f e → b ≤ x.length → twB x a b = true) ∧ (lendF x a f e ≤ x.length → twB x a (lendF x a f e) = false) ∧ (e ≤ x.length + 1 → lendF x a f e ≤ x.length + 1)
  | 0, e, h1 => ⟨Nat.le_refl _, fun b b1 b2 _ => by rw [lendF] at b2; omega, fun h => by rw [lendF] at h; omega, fun h => h⟩
  | f + 1, e, h1 => by
    rw [lendF]
    split
    · rename_i c
      obtain ⟨s1, s2, s3, s4⟩ := lend_gen (x := x) (a := a) f (e + 1) (by omega)
      refine ⟨by omega, fun b b1 b2 b3 => ?_, s3, fun _ => s4 (by omega)⟩
      by_cases be : b = e
      · rw [be]; exact c.2
      · exact s2 b (by omega) b2 b3
    · rename_i c
      refine ⟨Nat.le_refl _, fun b b1 b2 _ => by omega, fun h => ?_, fun h => h⟩
      cases e2 : twB x a e with
      | false => rfl
      | true => exact absurd ⟨h, e2⟩ c
theorem endE_up {x : Str} {b k : Nat} : endE x b k ≤ endE x b (k + 1) := by
  have := (lend_gen (x := x) (a := k) (x.length + 1) (max (endE x b k) (max (k + 1) b)) (by omega)).1
  have e : endE x b (k + 1) = lendF x k (x.length + 1) (max (endE x b k) (max (k + 1) b)) := rfl
  rw [e]
  omega
theorem endE_mono {x : Str} {b i : Nat} : ∀ {j : Nat}, i ≤ j → endE x b i ≤ endE x b j
  | 0, h => by rw [Nat.le_zero.mp h]; exact Nat.le_refl _
  | j + 1, h => by
    by_cases e : i = j + 1
    · rw [e]; exact Nat.le_refl _
    · exact Nat.le_trans (endE_mono (by omega)) endE_up
theorem twB_less {x : Str} {a c e : Nat} (h : twB x a e = true) (h1 : a ≤ c) (h2 : c ≤ e) (h3 : e ≤ x.length) : twB x c e = true :=
  (twB_iff h2 h3).mpr (((twB_iff (by omega) h3).mp h).less h1 h2 (Nat.le_refl _))
theorem twB_more {x : Str} {a c e : Nat} (h : twB x a c = false) (h1 : a ≤ c) (h2 : c ≤ e) (h3 : e ≤ x.length) : twB x a e = false := by
  cases q : twB x a e with
  | false => rfl
  | true =>
    have := (twB_iff h1 (by omega)).mpr (((twB_iff (by omega) h3).mp q).less (Nat.le_refl _) h1 h2)
    rw [h] at this
    cases this
theorem endE_spec {x : Str} {b : Nat} (hb : b ≤ x.length) : ∀ {k : Nat}, k < x.length →
    max b (k + 1) ≤ endE x b (k + 1) ∧ endE x b (k + 1) ≤ x.length + 1 ∧ (∀ c, max b (k + 1) ≤ c → c < endE x b (k + 1) → c ≤ x.length → twB x k c = true) ∧ (endE x b (k + 1) ≤ x.length → twB x k (endE x b (k + 1)) = false) := by
  intro k hk
  have prev : endE x b k ≤ x.length + 1 ∧ ∀ c, max b (k + 1) ≤ c → c < endE x b k → c ≤ x.length → twB x k c = true := by
    cases k with
    | zero => exact ⟨Nat.zero_le _, fun c _ h _ => absurd h (Nat.not_lt_zero _)⟩
    | succ j =>
      obtain ⟨p1, p2, p3, p4⟩ := endE_spec hb (k := j) (by omega)
      exact ⟨p2, fun c c1 c2 c3 => twB_less (p3 c (by omega) c2 c3) (by omega) (by omega) c3⟩
  obtain ⟨q1, q2⟩ := prev
  obtain ⟨s1, s2, s3, s4⟩ := lend_gen (x := x) (a := k) (x.length + 1) (max (endE x b k) (max (k + 1) b)) (by omega)
  have e : endE x b (k + 1) = lendF x k (x.length + 1) (max (endE x b k) (max (k + 1) b)) := rfl
  rw [← e] at s1 s2 s3 s4
  refine ⟨by omega, s4 (by omega), fun c c1 c2 c3 => ?_, s3⟩
  by_cases hc : c < endE x b k
  · exact q2 c c1 hc c3
  · exact s2 c (by omega) c2 c3
theorem mem_around {n b k : Nat} {p : Nat × Nat} : p ∈ aroundW n b k ↔ p.1 < k ∧ max b (p.1 + 1) ≤ p.2 ∧ p.2 ≤ n := by
  unfold aroundW
  rw [List.mem_flatMap]
  constructor
  · rintro ⟨i, hi, h⟩
    obtain ⟨e, he, rfl⟩ := List.mem_map.mp h
    have := List.mem_range'_1.mp he
    exact ⟨List.mem_range.mp hi, this.1, by show e ≤ n; omega⟩
  · rintro ⟨h1, h2, h3⟩
    exact ⟨p.1, List.mem_range.mpr h1, List.mem_map.mpr ⟨p.2, List.mem_range'_1.mpr ⟨h2, by omega⟩, rfl⟩⟩
abbrev onceW (x : Str) (a b : Nat) : List (Nat × Nat) := (aroundW x.length b (a + 1)).filter fun p => !twB x p.1 p.2
theorem mem_onceW {x : Str} {a b : Nat} (hb : b ≤ x.length) {p : Nat × Nat} : p ∈ onceW x a b ↔ p.1 < min (a + 1) x.length ∧ endE x b (p.1 + 1) ≤ p.2 ∧ p.2 ≤ x.length := by
  unfold onceW
  rw [List.mem_filter, mem_around]
  constructor
  · rintro ⟨⟨h1, h2, h3⟩, h4⟩
    have hn : p.1 < x.length := by omega
    refine ⟨by omega, Nat.le_of_not_lt fun q => ?_, h3⟩
    rw [(endE_spec hb hn).2.2.1 p.2 h2 q h3] at h4
    cases h4
  · rintro ⟨h1, h2, h3⟩
    have hn : p.1 < x.length := by omega
    obtain ⟨s1, s2, s3, s4⟩ := endE_spec hb hn
    refine ⟨⟨by omega, by omega, h3⟩, ?_⟩
    rw [twB_more (s4 (by omega)) (by omega) h2 h3]
    rfl
theorem mem_winW {x : Str} {a b : Nat} (hb : b ≤ x.length) {p : Nat × Nat} : p ∈ winW x a b ↔ p.1 < min (a + 1) x.length ∧ p.2 = endE x b (p.1 + 1) ∧ p.2 ≤ x.length ∧ ∀ i, p.1 < i → i < min (a + 1) x.length → endE x b (i + 1) ≠ endE x b (p.1 + 1) := by
  show p ∈ (onceW x a b).filter (fun s => ((onceW x a b).filter (innerB s)).isEmpty) ↔ _
  rw [List.mem_filter, List.isEmpty_iff, List.filter_eq_nil_iff, mem_onceW hb]
  have inn : ∀ q : Nat × Nat, innerB p q = true ↔ q ≠ p ∧ p.1 ≤ q.1 ∧ q.2 ≤ p.2 := fun q => by
    unfold innerB
    rw [Bool.and_eq_true, Bool.and_eq_true, decide_eq_true_eq, decide_eq_true_eq, decide_eq_true_eq]
  constructor
  · rintro ⟨⟨h1, h2, h3⟩, h4⟩
    have e : p.2 = endE x b (p.1 + 1) := by
      refine Classical.byContradiction fun ne => ?_
      refine h4 (p.1, endE x b (p.1 + 1)) ((mem_onceW hb).mpr ⟨h1, Nat.le_refl _, by show endE x b (p.1 + 1) ≤ _; omega⟩) ((inn _).mpr ⟨fun z => ne (congrArg Prod.snd z).symm, Nat.le_refl _, h2⟩)
    refine ⟨h1, e, h3, fun i i1 i2 i3 => ?_⟩
    refine h4 (i, endE x b (i + 1)) ((mem_onceW hb).mpr ⟨i2, Nat.le_refl _, by show endE x b (i + 1) ≤ _; omega⟩) ((inn _).mpr ⟨fun z => ?_, Nat.le_of_lt i1, by show endE x b (i + 1) ≤ _; omega⟩)
    have : i = p.1 := congrArg Prod.fst z
    omega
  · rintro ⟨h1, e, h3, h4⟩
    refine ⟨⟨h1, Nat.le_of_eq e.symm, h3⟩, fun q hq hi => ?_⟩
    obtain ⟨i1, i2, i3⟩ := (inn q).mp hi
    obtain ⟨q1, q2, q3⟩ := (mem_onceW hb).mp hq
    have mo := endE_mono (x := x) (b := b) (show p.1 + 1 ≤ q.1 + 1 by omega)
    by_cases c : p.1 = q.1
    · refine i1 (Prod.ext c.symm ?_)
      rw [c] at e mo
      omega
    · exact h4 q.1 (by omega) q1 (by omega)
theorem asc_eq : ∀ {l1 l2 : List (Nat × Nat)}, l1.Pairwise (fun p q => p.1 < q.1) → l2.Pairwise (fun p q => p.1 < q.1) → (∀ p, p ∈ l1 ↔ p ∈ l2) → l1 = l2
  | [], [], _, _, _ => rfl
  | [], q :: _, _, _, h => absurd ((h q).mpr List.mem_cons_self) (List.not_mem_nil)
  | p :: _, [], _, _, h => absurd ((h p).mp List.mem_cons_self) (List.not_mem_nil)
  | p :: t1, q :: t2, h1, h2, h => by
    have c1 := List.pairwise_cons.mp h1
    have c2 := List.pairwise_cons.mp h2
    have e : p = q := by
      rcases List.mem_cons.mp ((h p).mp List.mem_cons_self) with e | m
      · exact e
      · rcases List.mem_cons.mp ((h q).mpr List.mem_cons_self) with e | m2
        · exact e.symm
        · have := c2.1 p m
          have := c1.1 q m2
          omega
    subst e
    rw [asc_eq c1.2 c2.2 fun r => ?_]
    constructor
    · intro m
      rcases List.mem_cons.mp ((h r).mp (List.mem_cons_of_mem _ m)) with e | m2
      · have := c1.1 r m
        rw [e] at this
        omega
      · exact m2
    · intro m
      rcases List.mem_cons.mp ((h r).mpr (List.mem_cons_of_mem _ m)) with e | m2
      · have := c2.1 r m
        rw [e] at this
        omega
      · exact m2
theorem around_asc {n b : Nat} : ∀ {k : Nat}, (aroundW n b k).Pairwise (fun p q => p.1 < q.1 ∨ (p.1 = q.1 ∧ p.2 < q.2))
  | 0 => by simp [aroundW]
  | k + 1 => by
    rw [aroundW_succ, List.pairwise_append]
    refine ⟨around_asc, ?_, fun p hp q hq => ?_⟩
    · rw [List.pairwise_map]
      exact (List.pairwise_lt_range').imp fun h => .inr ⟨rfl, h⟩
    · obtain ⟨e, he, rfl⟩ := List.mem_map.mp hq
      exact .inl (aroundW_mem hp).2.2
theorem winW_asc {x : Str} {a b : Nat} (hb : b ≤ x.length) : (winW x a b).Pairwise (fun p q => p.1 < q.1) := by
  have h : (winW x a b).Pairwise (fun p q => p.1 < q.1 ∨ (p.1 = q.1 ∧ p.2 < q.2)) := (around_asc.filter _).filter _
  refine h.imp_of_mem fun {p q} hp hq r => ?_
  rcases r with r | ⟨r1, r2⟩
  · exact r
  · have e1 := ((mem_winW hb).mp hp).2.1
    have e2 := ((mem_winW hb).mp hq).2.1
    rw [r1] at e1
    omega
theorem toldE_spec {x : Str} {b : Nat} : ∀ {k : Nat}, (toldE x b k).Pairwise (fun p q => p.1 < q.1) ∧ ∀ p : Nat × Nat, p ∈ toldE x b k ↔ p.1 < k ∧ p.2 = endE x b (p.1 + 1) ∧ p.2 ≤ x.length ∧ ∀ i, p.1 < i → i < k → endE x b (i + 1) ≠ endE x b (p.1 + 1)
  | 0 => ⟨.nil, fun p => ⟨fun h => (by cases h), fun h => absurd h.1 (Nat.not_lt_zero _)⟩⟩
  | k + 1 => by
    obtain ⟨hp, hm⟩ := toldE_spec (x := x) (b := b) (k := k)
    have tE : toldE x b (k + 1) = if endE x b (k + 1) ≤ x.length then popE (toldE x b k) (endE x b (k + 1)) ++ [(k, endE x b (k + 1))] else toldE x b k := rfl
    rw [tE]
    have mo : ∀ i, i < k → endE x b (i + 1) ≤ endE x b (k + 1) := fun i hi => endE_mono (by omega)
    by_cases c : endE x b (k + 1) ≤ x.length
    · rw [if_pos c]
      have pop : (popE (toldE x b k) (endE x b (k + 1))).Pairwise (fun p q => p.1 < q.1) ∧ ∀ p : Nat × Nat, p ∈ popE (toldE x b k) (endE x b (k + 1)) ↔ p ∈ toldE x b k ∧ p.2 ≠ endE x b (k + 1) := by
        rcases List.eq_nil_or_concat (toldE x b k) with h0 | ⟨W, q, h0⟩
        · rw [h0]
          exact ⟨.nil, fun p => ⟨fun h => (by cases h), fun h => h.1⟩⟩
        · rw [List.concat_eq_append] at h0
          rw [h0] at hp hm
          rw [h0, popE_snoc]
          have pa := List.pairwise_append.mp hp
          have hq := (hm q).mp (List.mem_append_right _ List.mem_cons_self)
          have low : ∀ p ∈ W, p.2 ≠ endE x b (k + 1) := fun p m z => by
            have h1 := pa.2.2 p m q List.mem_cons_self
            have h2 := (hm p).mp (List.mem_append_left _ m)
            have h3 := endE_mono (x := x) (b := b) (show p.1 + 1 ≤ q.1 + 1 by omega)
            have h4 := mo q.1 hq.1
            exact h2.2.2.2 q.1 h1 hq.1 (by omega)
          split
          · rename_i hqe
            refine ⟨pa.1, fun p => ⟨fun m => ⟨List.mem_append_left _ m, low p m⟩, fun m => ?_⟩⟩
            rcases List.mem_append.mp m.1 with m1 | m1
            · exact m1
            · rw [List.mem_singleton.mp m1] at m
              exact absurd hqe m.2
          · rename_i hqe
            refine ⟨hp, fun p => ⟨fun m => ⟨m, ?_⟩, fun m => m.1⟩⟩
            rcases List.mem_append.mp m with m1 | m1
            · exact low p m1
            · rw [List.mem_singleton.mp m1]
              exact hqe
      refine ⟨List.pairwise_append.mpr ⟨pop.1, List.pairwise_singleton _ _, fun p m q m2 => ?_⟩, fun p => ?_⟩
      · rw [List.mem_singleton.mp m2]
        exact ((hm p).mp ((pop.2 p).mp m).1).1
      · rw [List.mem_append, pop.2 p, hm p, List.mem_singleton]
        constructor
        · rintro (⟨⟨h1, h2, h3, h4⟩, h5⟩ | rfl)
          · refine ⟨by omega, h2, h3, fun i i1 i2 => ?_⟩
            by_cases ik : i = k
            · rw [ik, ← h2]
              exact fun z => h5 z.symm
            · exact h4 i i1 (by omega)
          · exact ⟨Nat.lt_succ_self _, rfl, c, fun i i1 i2 => absurd (show k < i from i1) (by omega)⟩
        · rintro ⟨h1, h2, h3, h4⟩
          by_cases pk : p.1 = k
          · exact .inr (Prod.ext pk (by rw [h2, pk]))
          · refine .inl ⟨⟨by omega, h2, h3, fun i i1 i2 => h4 i i1 (by omega)⟩, fun z => ?_⟩
            exact h4 k (by omega) (Nat.lt_succ_self _) (by omega)
    · rw [if_neg c]
      refine ⟨hp, fun p => ?_⟩
      rw [hm p]
      constructor
      · rintro ⟨h1, h2, h3, h4⟩
        refine ⟨by omega, h2, h3, fun i i1 i2 => ?_⟩
        by_cases ik : i = k
        · rw [ik]; omega
        · exact h4 i i1 (by omega)
      · rintro ⟨h1, h2, h3, h4⟩
        have pk : p.1 ≠ k := fun z => by rw [z] at h2; omega
        exact ⟨by omega, h2, h3, fun i i1 i2 => h4 i i1 (by omega)⟩
theorem told_win {x : Str} {a b : Nat} (hb : b ≤ x.length) : toldE x b (min (a + 1) x.length) = winW x a b :=
  asc_eq toldE_spec.1 (winW_asc hb) fun p => (toldE_spec.2 p).trans (mem_winW hb).symm
def spWins (CS : Addr) : Sp := fun vs H Q E => ∃ x v1 d1 v2 d2, vs = [.str x, v1, v2] ∧ Th H v1 d1 ∧ Th H v2 d2 ∧ x.length ≤ 20 ∧ (inI d1 0 x.length = false → ∀ d, H d = none → E (.ref CS) (some d) (upd H d (.xd [(("value" : Str), v1)]))) ∧
  (∀ i, d1 = .int i → 0 ≤ i → i ≤ x.length → inI d2 i x.length = false → ∀ d, H d = none → E (.ref CS) (some d) (upd H d (.xd [(("value" : Str), v2)]))) ∧
  (∀ a b : Nat, d1 = .int a → d2 = .int b → a ≤ b → b ≤ x.length → ∀ (l : Addr) (ys : List V) H', H l = none → H' l = some (.lst ys) → PrN H' ys (winW x a b) → Same H H' → Q (.ref l) H')
abbrev s_windows : Stmt := top 47
theorem sc_windows : FnScope ["text", "first", "last"] ["text", "first", "last"] (defScope s_windows) := ⟨rfl, rfl, rfl, by decide +kernel, rfl, by decide +kernel, by decide +kernel⟩
theorem b_windows {f : Addr} {fd : FuncData} (F : Fun K "windows" "windows" s_windows f fd) (T : Txt mg) (c_all_results : CalG P w K mg base CX0 2 "all_results" spResults) (c_least_windows : CalG P w K mg base CX0 3 "least_windows" spLeastW) (c_check_spot : CalG P w K mg base (L2.CX P w) 3 "check_spot" (spCkSpot C_InvalidSpot)) : FnG P w K mg base (L2.CX P w) 4 f fd ["text", "first", "last"] (spWins C_InvalidSpot) := by
  refine okG F sc_windows (fun vs H Q E h => ?_) (fun cdv A outer s H vs Q E hg hr h => ?_)
  · obtain ⟨x, v1, d1, v2, d2, rfl, _⟩ := h
    rfl
  · have hu := hu_of hr
    have hu64 := hr.units
    obtain ⟨x, v1, d1, v2, d2, rfl, t1, t2, hx, k1, k2, k3⟩ := h
    refine ⟨_, (pss_cons (ps_expr (pe_cG c_check_spot hg hr (by decide) (passes_call (takes_of rfl rfl rfl rfl) (fun _ _ _ _ h => h)) (pa_cons (pv 0) (pa_cons (pv 1) (pa_cons (pv 2) pa_nil)))))
      (pss_one (ps_ret (pe_cG c_least_windows hg hr (by decide) pass0 (pa_cons (pv 0) (pa_cons (pv 1) (pa_cons (pv 2) (pa_cons (pe_cG c_all_results hg hr (by decide) pass0 (pa_cons (pv 0) (pa_cons (pe_lst pa_nil) pa_nil))) pa_nil)))))))), ?_⟩
    refine ⟨_, rfl, _, rfl, _, rfl, x, v1, d1, v2, d2, rfl, t1, t2, by omega, k1, k2, fun i j e1 e2 i0 i1 i2 => ?_⟩
    subst e1 e2
    cases th_int t1
    cases th_int t2
    obtain ⟨a, rfl⟩ : ∃ a : Nat, i = (a : Nat) := ⟨i.toNat, by omega⟩
    obtain ⟨b, rfl⟩ : ∃ b : Nat, j = (b : Nat) := ⟨j.toNat, by omega⟩
    have hab : a ≤ b := by omega
    have hbn : b ≤ x.length := by omega
    refine ⟨_, rfl, _, rfl, _, rfl, _, rfl, by show 0 ≤ sizeLine; decide, fun ed hed => ?_⟩
    have sed := same_new (o := .lst []) hed
    refine ⟨x, ed, rfl, by omega, upd_same, fun l t w e H' hl hl2 ht he s' => ?_⟩
    refine ⟨x, a, b, l, t, w, e, rfl, hx, by omega, hbn, hl2, ht, he, fun l2 ys H'' hl3 hl4 py s'' => ?_⟩
    rw [told_win hbn] at py
    exact k3 a b rfl rfl hab hbn l2 ys H'' (none_up (sed.trans s') hl3) hl4 py ((sed.trans s').trans s'')

end
end Vk
set_option Elab.async false
set_option maxRecDepth 100000
set_option linter.all false
set_option maxHeartbeats 4000000
namespace Vk
open PySem PySem.Spec PyProof.Rows L2 LamX NdefX StX
section
variable {P : Program} {w : World} {K : PySem.W.Frag} {mg : Str → Option Value} {base : Heap}
def forB : Stmt → List Stmt
  | .For _ _ b _ _ => b
  | _ => []
def ifT : Stmt → Expr
  | .If c _ _ _ => c
  | _ => .Constant .none 0 ⟨0, 0, 0, 0⟩
def cmpL : Expr → Expr
  | .Compare l _ _ _ => l
  | e => e
def or1 : Expr → Expr
  | .BoolOp _ (e :: _) _ => e
  | e => e
def arg0 : Expr → Expr
  | .Call _ (e :: _) _ _ => e
  | e => e
def lamPs : Expr → Arguments
  | .Lambda p _ _ _ => p
  | _ => defArgs (top 0)
def lamB : Expr → Expr
  | .Lambda _ b _ _ => b
  | e => e
def lamSc : Expr → Scope
  | .Lambda _ _ s _ => s
  | _ => defScope (top 0)
def lam (e : Expr) (q : Str) (cl : List (Str × Addr)) (c : Addr) : LF := ⟨q, lamPs e, lamB e, lamSc e, cl, c⟩
abbrev nopS : Stmt := .Pass ⟨0, 0, 0, 0⟩
def and2 : Expr → Expr
  | .BoolOp _ (_ :: e :: _) _ => e
  | e => e
abbrev s_law : Stmt := top 65
abbrev outF : List Stmt := forB ((defBody s_law).getD 1 nopS)
abbrev e_l0 : Expr := arg0 (cmpL (and2 (ifT (outF.getD 6 nopS))))
abbrev e_l1 : Expr := arg0 (cmpL (and2 (ifT (outF.getD 9 nopS))))
/-- what the lambdas do -/
def spL0 (CS : Addr) : SpL := fun ws H Q E => ∃ v1 v2 v3, ws = [some v1, some v2, some v3] ∧ spWins CS [v2, v3, v1] H Q E
def spL1 (CS : Addr) : SpL := fun ws H Q E => ∃ v1 v2 v3, ws = [some v1, some v2, some v3] ∧ spWins CS [v3, v1, v2] H Q E
theorem lk0 {CS : Addr} (c_windows : CalG P w K mg base (L2.CX P w) 4 "windows" (spWins CS)) (q : Str) (cl : List (Str × Addr)) (c : Addr) : LamK P w K mg base 6 (lam e_l0 q cl c) ["_law_far", "_law_here", "_law_odd"] (spL0 CS) := by
  refine lamk_of (N := ["_law_far", "_law_here", "_law_odd"]) (nscope_by (show nscB _ _ _ (lamSc e_l0) = true by decide +kernel)) (fun _ _ => rfl) (fun A outer s H f ws Q E hg hr hl h => ?_)
  obtain ⟨v1, v2, v3, rfl, k⟩ := h
  exact ⟨_, pe_cG c_windows hg hr (by decide) (passes_call (takes_of rfl rfl rfl rfl) (fun _ _ _ _ h => h)) (pa_cons (pv 1) (pa_cons (pv 2) (pa_cons (pv 0) pa_nil))), _, rfl, _, rfl, _, rfl, k⟩
theorem lk1 {CS : Addr} (c_windows : CalG P w K mg base (L2.CX P w) 4 "windows" (spWins CS)) (q : Str) (cl : List (Str × Addr)) (c : Addr) : LamK P w K mg base 6 (lam e_l1 q cl c) ["_law_a", "_law_far", "_law_here"] (spL1 CS) := by
  refine lamk_of (N := ["_law_a", "_law_far", "_law_here"]) (nscope_by (show nscB _ _ _ (lamSc e_l1) = true by decide +kernel)) (fun _ _ => rfl) (fun A outer s H f ws Q E hg hr hl h => ?_)
  obtain ⟨v1, v2, v3, rfl, k⟩ := h
  exact ⟨_, pe_cG c_windows hg hr (by decide) (passes_call (takes_of rfl rfl rfl rfl) (fun _ _ _ _ h => h)) (pa_cons (pv 2) (pa_cons (pv 0) (pa_cons (pv 1) pa_nil))), _, rfl, _, rfl, _, rfl, k⟩
/-- try: x() of a lambda that x holds -/
def tTryLamE (f : Addr) (F : LF) (ws : List (Option V)) (sp : SpL) (n : Nat) : WX → TS := fun W D σ H => ∃ E : XK, (∀ cls d (σ' : L2.St) H', σ'.length = n → E cls d H' → W cls d σ' H') ∧ σ[0]? = some (some (.ref f)) ∧ H f = some (LamO f F) ∧ H F.c = some (CodeO F.c F.qual) ∧ sp ws H (fun _ H1 => D.nx σ H1) E
theorem pss_tryLamE {X : Cx} {W : WX} {pn : List (Addr × Obj)} {xe : Value → Shared → Prop} {f : Addr} {F : LF} {fr : List Str} {ws : List (Option V)} {sp : SpL} {j k n : Nat} {x : Str} {p1 p2 p3 : Pos} (tk : Takes (X.tr pn xe) W) (C : CellsAt F.cl fr ws X.s_0.heap X.H_0) (hx0 : X.ex = [])
    (L : LamK X.prog X.w X.K X.mg X.base k F fr sp) (hg : X.A.guards = some []) (hr : Room j X.A) (hk : k ≤ j) (hl : X.N.length = n) (hN : X.N[0]? = some x) (hv : Vis X.env.scope x) (hd : (x == ("__debug__" : Str)) = false := by decide) (hcd : (x == ("__classdict__" : Str)) = false := by decide)
    (hs : swapsWith (.Call (.Name x p1) [] [] p2) none p3.line (X.tr pn xe).env = pure false := by rfl) :
    PSs (X.tr pn xe) [.Expr (.Call (.Name x p1) [] [] p2) p3] (tTryLamE f F ws sp n W) := by
  refine ⟨fun pins s σ H D I h => ?_⟩
  obtain ⟨E, hW, h1, h2, h3, h4⟩ := h
  exact (pss_one (ps_expr (hs := hs) (pe_lamact (X := X.tr pn xe) (f0 := f) C hx0 L hg hr hk (passes_len tk fun cls d σ' H' le => hW cls d σ' H' (le.trans hl)) hN hv hd hcd))).run pins s σ H D I ⟨h1, h2, h3, h4⟩
def Eref (CS : Addr) (Q : VK) : XK := fun cls dd H => cls = .ref CS ∧ ∃ d0 v d, dd = some d0 ∧ H d0 = some (.xd [(("value" : Str), v)]) ∧ Th H v d ∧ Shn d ∧ Q (.str d.shown) H
def spRef (P : Program) (w : World) (K : PySem.W.Frag) (mg : Str → Option Value) (base : Heap) (CS : Addr) : Heap → Sp := fun h vs H Q _ => ∃ f F fr ws spl, vs = [.ref f] ∧ LamK P w K mg base 6 F fr spl ∧ H f = some (LamO f F) ∧ H F.c = some (CodeO F.c F.qual) ∧ CellsAt F.cl fr ws h H ∧ spl ws H (fun _ H1 => Q .non H1) (Eref CS Q)
abbrev s_lnrefused : Stmt := top 64
theorem sc_lnrefused : FnScope ["_law_call", "e"] ["_law_call"] (defScope s_lnrefused) := ⟨rfl, rfl, rfl, by decide +kernel, rfl, by decide +kernel, by decide +kernel⟩
theorem b_lnrefused {f CS : Addr} {fd : FuncData} (F : Fun K "_law_nrefused" "_law_nrefused" s_lnrefused f fd) (T : Txt mg) (c_InvalidSpot : ClsI P w K mg base 1 "InvalidSpot" CS ["value"]) (oo : PySem.W.exmOne K (.ref CS) (.ref CS) = some true) (vo : PySem.W.kitOne K (.ref CS) (.type "ValueError") = some true) :
    FnH P w K mg base CX0 7 f fd ["_law_call"] (spRef P w K mg base CS) := by
  refine okH F sc_lnrefused (fun h0 vs H Q E h => ?_) (fun cdv A outer s H vs Q E hg hr h => ?_)
  · obtain ⟨f1, F1, fr, ws, spl, rfl, _⟩ := h
    rfl
  · have hu := hu_of hr
    have hu64 := hr.units
    obtain ⟨f1, F1, fr, ws, spl, rfl, L, hf1, hc1, C1, k⟩ := h
    refine ⟨_, PSs.nox (pss_cons (ps_try_each (W0 := fun _ _ _ _ => False) (tb := tTryLamE f1 F1 ws spl 2) rfl rfl sc_lnrefused.nd takes0 (fun W pn xe tk _ => pss_tryLamE tk C1 rfl L hg hr (by decide) rfl rfl (Or.inl rfl))
      (.named (c := .ref CS) (i := 1) rfl rfl ⟨by rfl, by decide, .inl c_InvalidSpot.hm⟩ (fun a oe cls d pn hz hf => pss_one (ps_ret (pe_ifExp (pt_val (pe_callB (call_isEd c_InvalidSpot.T hz hf) (by rfl) T.isinstance (by decide +kernel) (pa_cons (pv 1) (pa_cons (pe_bltn (v := .ty "ValueError") (by rfl) T.ValueError rfl rfl) pa_nil)))) (pe_callB (Vk.call_reprT hg hu64) (by rfl) T.repr (by decide +kernel) (pa_cons (pe_xf c_InvalidSpot.T.xf (c_InvalidSpot.no _ (by simp)) hz hf (pv 1)) pa_nil)) pe_str))) .nil)) (pss_one (ps_ret pe_non))), ?_⟩
    refine ⟨Eref CS Q, fun cls d σ2 H2 le hE => ?_, rfl, hf1, hc1, k⟩
    have s1 : ∀ a : Addr, (σ2.set 1 (some (V.ref a)))[1]? = some (some (V.ref a)) := fun a => by rw [List.getElem?_set_self (by omega)]
    obtain ⟨rfl, dd, v, dt, rfl, hd, th, sh, q⟩ := hE
    refine ⟨true, oo, fun _ a na => ?_, fun z => nomatch z⟩
    refine ⟨.ref a, s1 a, .ty "ValueError", .type "ValueError", true, dd, _, rfl, rfl, rfl, hd, (fun u r => r), vo, _, rfl, ?_⟩
    exact iteT ⟨.ref a, s1 a, rfl, rfl, dd, _, _, rfl, hd, rfl, v, dt, rfl, .inl th, sh.1, sh.2.1, sh.2.2, q⟩
end
end Vk
set_option Elab.async false
set_option maxRecDepth 100000
set_option linter.all false
set_option maxHeartbeats 4000000
namespace Vk
open PySem PySem.Spec PyProof.Rows L2 LamX NdefX StX
section
variable {P : Program} {w : World} {K : PySem.W.Frag} {mg : Str → Option Value} {base : Heap}
def spNum : Sp := fun vs H Q _ => ∃ v d lo hi, vs = [v, .int lo, .int hi] ∧ Th H v d ∧ Q (.bl (inI d lo hi)) H
abbrev s_lis_number : Stmt := top 53
theorem sc_lis_number : FnScope ["_law_thing", "_law_least", "_law_greatest"] ["_law_thing", "_law_least", "_law_greatest"] (defScope s_lis_number) := ⟨rfl, rfl, rfl, by decide +kernel, rfl, by decide +kernel, by decide +kernel⟩
theorem b_lis_number {f : Addr} {fd : FuncData} (F : Fun K "_law_is_number" "_law_is_number" s_lis_number f fd) (T : Txt mg) : FnG P w K mg base CX0 1 f fd ["_law_thing", "_law_least", "_law_greatest"] spNum := by
  refine okG0 F sc_lis_number (fun vs H Q E h => ?_) (fun cdv A outer s H vs Q E hg hr h => ?_)
  · obtain ⟨v, d, lo, hi, rfl, _⟩ := h
    rfl
  · have hu := hu_of hr
    have hu64 := hr.units
    obtain ⟨v, d, lo, hi, rfl, th, k⟩ := h
    obtain ⟨t, b, c, ty, kt, kc, hb, hno⟩ := kit_int (K := K) th
    refine ⟨_, (pss_one (ps_ret (pe_and (pe_callB call_isi (by rfl) T.isinstance (by decide +kernel) (pa_cons (pv 0) (pa_cons (pe_bltn (v := .ty "int") (by rfl) T.int rfl rfl) pa_nil))) (pe_and (pe_not (pe_callB call_isi (by rfl) T.isinstance (by decide +kernel) (pa_cons (pv 0) (pa_cons (pe_bltn (v := .ty "bool") (by rfl) T.bool rfl rfl) pa_nil)))) (pe_one (pe_chain op_le op_le (pv 1) (pv 0) (pv 2))))))), ?_⟩
    refine ⟨_, rfl, v, .ty "int", t, .type "int", b, rfl, .ty "int", ty, kt, _, rfl, ?_⟩
    cases hI : isIntB d with
    | false =>
      rw [inI_no hI] at k
      cases b with
      | false => exact iteF k
      | true =>
        have ec : c = true := hno hI rfl
        subst ec
        exact iteT ⟨_, rfl, v, .ty "bool", t, .type "bool", true, rfl, .ty "bool", ty, kc, _, rfl, _, rfl, iteF k⟩
    | true =>
      rw [hI, Bool.and_eq_true] at hb
      obtain ⟨rfl, hc⟩ := hb
      have ec : c = false := by
        cases c with
        | false => rfl
        | true => cases hc
      subst ec
      obtain ⟨i, rfl, rfl⟩ := int_th th hI
      have k : Q (.bl (decide (lo ≤ i) && decide (i ≤ hi))) H := k
      refine iteT ⟨_, rfl, .int i, .ty "bool", t, .type "bool", false, rfl, .ty "bool", ty, kc, _, rfl, _, rfl, ?_⟩
      refine iteT ⟨_, rfl, _, rfl, _, _, rfl, rfl, _, rfl, ?_⟩
      cases h1 : decide (lo ≤ i) with
      | false =>
        rw [h1, Bool.false_and] at k
        exact iteF k
      | true =>
        rw [h1, Bool.true_and] at k
        exact iteT ⟨_, rfl, _, _, rfl, rfl, k⟩

variable {CN P0 c : Addr}
abbrev qLaw : Str := (envOfC "law" (defScope s_law) 0 0 .none).qual ++ "<lambda>"
theorem free_l0 : ndefB (defScope s_law) (lamSc e_l0) ["_law_far", "_law_here", "_law_odd"] = true := by decide +kernel
theorem free_l1 : ndefB (defScope s_law) (lamSc e_l1) ["_law_a", "_law_far", "_law_here"] = true := by decide +kernel
def spLaw (P0 : Addr) (K : PySem.W.Frag) : Sp := fun vs H Q _ => ∃ (a : Addr) (ns : List Int), vs = [.ref a] ∧ SqL K H a (ns.map V.int) ∧ ns.length ≤ 63 ∧ H P0 = some (.tbl #[]) ∧ ∀ H', Q (.bl true) H'
theorem Th.keepN {H H' : Hp} {v : V} {d : PyData} (h : Th H v d) (k : ExtN H H') : Th H' v d := by
  cases h with
  | atm h => exact .atm h
  | lst e n h => exact .lst (k _ _ e (fun _ z => nomatch z)) n h
  | tup e h => exact .tup (k _ _ e (fun _ z => nomatch z)) h
  | dct e => exact .dct (k _ _ e (fun _ z => nomatch z))
theorem ths_keepN {H H' : Hp} (k : ExtN H H') : ∀ {vs : List V} {ds : List PyData}, Paired (Th H) vs ds → Paired (Th H') vs ds
  | _, _, .nil => .nil
  | _, _, .cons a t => .cons (a.keepN k) (ths_keepN k t)
theorem tabs_pen {T : List (Addr × Str)} {H H' : Hp} {p c : Addr} {U : Nat} (t : Tabs T H) (q : Pen H p c U) (x : Ext p H H') : Tabs T H' := fun r hr => by
  obtain ⟨tn, l, hp⟩ := q.is
  have nl : ∀ g u, H g = some u → (∀ k, u ≠ .dK k) → H' g = some u := fun g u e n => x _ _ e (fun z => by
    rw [z, hp] at e
    exact n _ (Option.some.inj e).symm)
  obtain ⟨ps, h1, h2, h3⟩ := t r hr
  refine ⟨ps, nl _ _ h1 (fun _ z => nomatch z), h2, fun pos cv e => ?_⟩
  obtain ⟨c, e1, e2⟩ := h3 pos cv e
  exact ⟨c, e1, nl _ _ e2 (fun xs z => by unfold CodeO at z; cases z)⟩
theorem pen_extN {H H' : Hp} {p c : Addr} {U : Nat} (q : Pen H p c U) (x : ExtN H H') : Pen H' p c U := by
  obtain ⟨ns, t, l, h1, h2, r⟩ := q.ex
  exact ⟨ns, t, l, x _ _ h1 (fun _ z => nomatch z), x _ _ h2 (fun _ z => nomatch z), r⟩
theorem tupN {H H' : Hp} (k : ExtN H H') : ∀ u ws, H u = some (.tup ws) → H' u = some (.tup ws) := fun u ws h => k _ _ h fun _ z => nomatch z
theorem pds_showy {n : Nat} (hn : n ≤ 100) {ws : List (Nat × Nat)} (h : ∀ p ∈ ws, p.1 ≤ n ∧ p.2 ≤ n) : Showy (.list (ws.map pD)) 2 (ws.length * 210 + 2) := by
  have one : ∀ d ∈ ws.map pD, Showy d 1 208 := fun d hd => by
    obtain ⟨p, hp, rfl⟩ := List.mem_map.mp hd
    have q := h p hp
    have small : ∀ k : Nat, k ≤ 100 → ((k : Nat) : Int).natAbs < 10 ^ 100 := fun k hk => Nat.lt_of_le_of_lt (show ((k : Nat) : Int).natAbs ≤ 100 by omega) (by decide +kernel)
    refine Showy.tuple (k := 0) (n := 101) (ds := [.int (p.1 : Nat), .int (p.2 : Nat)]) fun e he => ?_
    simp only [List.mem_cons, List.not_mem_nil, or_false] at he
    rcases he with rfl | rfl
    · exact Showy.int (small _ (by omega))
    · exact Showy.int (small _ (by omega))
  have q := Showy.list one
  rw [List.length_map] at q
  exact q
theorem winW_mem {x : Str} {a b : Nat} {p : Nat × Nat} (h : p ∈ winW x a b) : p.1 < p.2 ∧ p.2 ≤ x.length ∧ p.1 < a + 1 := aroundW_mem (List.mem_filter.mp (List.mem_filter.mp h).1).1
theorem winW_len {x : Str} {a b : Nat} : (winW x a b).length ≤ (a + 1) * x.length := Nat.le_trans (List.length_filter_le _ _) (Nat.le_trans (List.length_filter_le _ _) aroundW_len)
theorem no_inI {i lo hi : Int} (h1 : lo ≤ i) (h2 : i ≤ hi) (z : inI (.int i) lo hi = false) : False := by
  have e : inI (.int i) lo hi = true := by
    show (decide (lo ≤ i) && decide (i ≤ hi)) = true
    rw [decide_eq_true h1, decide_eq_true h2]
    rfl
  rw [e] at z
  cases z
theorem pen_tup {H H1 : Hp} {p c : Addr} {T : Nat} (q : Pen H p c T) (x : Ext p H H1) : ∀ u ws, H u = some (.tup ws) → H1 u = some (.tup ws) := fun u ws h => x u _ h fun e => by
  obtain ⟨t, l, z⟩ := q.is
  rw [e, z] at h
  cases h
theorem nat_int {a b : Nat} (h : PyData.int ((a : Nat) : Int) = PyData.int ((b : Nat) : Int)) : a = b := Int.ofNat.inj (PyData.int.inj h)
theorem no_k1 {X : Prop} {a n : Nat} (ha : a ≤ n) (z : inI (.int (a : Nat)) 0 (n : Nat) = false) : X := (no_inI (by omega) (by omega) z).elim
theorem no_k2 {a b n : Nat} {X : Int → Prop} (h1 : a ≤ b) (h2 : b ≤ n) (i : Int) (e : PyData.int (a : Nat) = .int i) (_ : 0 ≤ i) (_ : i ≤ (n : Nat)) (z : inI (.int (b : Nat)) i (n : Nat) = false) : X i := by
  have := PyData.int.inj e
  exact (no_inI (by omega) (by omega) z).elim
theorem wins_bad1 {CS : Addr} {x : Str} {v1 v2 : V} {d1 d2 : PyData} {H : Hp} {Q : VK} {E : XK} (t1 : Th H v1 d1) (t2 : Th H v2 d2) (hx : x.length ≤ 20) (bad : inI d1 0 x.length = false) (k : ∀ d, H d = none → E (.ref CS) (some d) (upd H d (.xd [(("value" : Str), v1)]))) : spWins CS [.str x, v1, v2] H Q E := by
  refine ⟨x, _, d1, _, d2, rfl, t1, t2, hx, fun _ => k, fun i e i0 i1 z => ?_, fun a' b' e1 e2 h1 h2 => ?_⟩
  · subst e
    exact (no_inI i0 i1 bad).elim
  · subst e1
    exact (no_inI (by omega) (by omega) bad).elim
theorem wins_bad2 {CS : Addr} {x : Str} {a : Nat} {v2 : V} {d2 : PyData} {H : Hp} {Q : VK} {E : XK} (ha : a ≤ x.length) (t2 : Th H v2 d2) (hx : x.length ≤ 20) (bad : inI d2 (a : Nat) x.length = false) (k : ∀ d, H d = none → E (.ref CS) (some d) (upd H d (.xd [(("value" : Str), v2)]))) : spWins CS [.str x, .int (a : Nat), v2] H Q E := by
  refine ⟨x, _, .int (a : Nat), _, d2, rfl, .atm (.int _), t2, hx, fun z => (no_inI (by omega) (by omega) z).elim, fun i e i0 i1 _ => k, fun a' b' e1 e2 h1 h2 => ?_⟩
  have h := PyData.int.inj e1
  subst e2
  exact (no_inI (by omega) (by omega) bad).elim
theorem shn_int {i : Int} (h1 : -1000 ≤ i) (h2 : i ≤ 1000) : Shn (.int i) := by
  have q := Showy.int (i := i) (Nat.lt_of_le_of_lt (show i.natAbs ≤ 1000 by omega) (by decide +kernel))
  exact ⟨q.sh, Nat.le_trans q.dp (by decide), Nat.le_trans q.ln (Nat.le_of_lt (fewL (by decide)))⟩
theorem shn_bl {b : Bool} : Shn (.bool b) := by
  cases b
  · exact ⟨rfl, by decide, Nat.le_of_lt (fewL (by decide +kernel))⟩
  · exact ⟨rfl, by decide, Nat.le_of_lt (fewL (by decide +kernel))⟩
theorem shn_non : Shn .none := ⟨rfl, by decide, Nat.le_of_lt (fewL (by decide +kernel))⟩
theorem sc_law : FnScope ["_law_script", "_law_pen_here", "_law_turn", "_law_signs_here", "_law_here", "_law_size", "_law_again", "_law_a", "_law_b", "_law_due", "_law_told", "_law_odd", "_law_far"] ["_law_script"] (defScope s_law) := ⟨rfl, rfl, rfl, by decide +kernel, rfl, by decide +kernel, by decide +kernel⟩
theorem b_law {f : Addr} {fd : FuncData} (F : FunC K "law" "law" s_law f fd c) (T : Txt mg) (c_lpen : CalG P w K mg base CX0 1 "_law_pen" (spPen K)) (c_lfew : CalG P w K mg base CX0 3 "_law_few" spFew) (c_lntext : CalG P w K mg base CX0 4 "_law_ntext" spNtext) (c_lnspot : CalG P w K mg base CX0 3 "_law_nspot" spSpot) (c_lpick : CalG P w K mg base CX0 2 "_law_pick" (spPick K)) (c_lnwindows : CalG P w K mg base CX0 3 "_law_nwindows" spNwin) (c_lany_value : CalG P w K mg base CX0 3 "_law_any_value" spAny) (c_ldraw : CalG P w K mg base CX0 1 "_law_draw" spDraw) (c_lis_number : CalG P w K mg base CX0 1 "_law_is_number" spNum) (tb : TabB base mg c P0) (c_lnrefused : CalH P w K mg base CX0 7 "_law_nrefused" (spRef P w K mg base CN)) (c_windows : CalG P w K mg base (L2.CX P w) 4 "windows" (spWins CN)) (k_windows : CalK P w K mg base (L2.CX P w) 4 "windows" (spWins CN) ["last", "first", "text"] List.reverse) : FnG P w K mg base CX0 8 f fd ["_law_script"] (spLaw P0 K) := by
  refine okC0 F sc_law (fun vs H Q E h => ?_) (fun A outer s H vs Q E hg hr h => ?_)
  · obtain ⟨a, ns, rfl, _⟩ := h
    rfl
  · have hu := hu_of hr
    have hu64 := hr.units
    obtain ⟨a, ns, rfl, hS, hlen, hP0, k⟩ := h
    let cells := (envOfC "law" (defScope s_law) s.heap.objs.size f (.ref c)).cells
    let rd0 : L2.St → List V → Hp → VK → Prop := fun σ vs H Q => ∃ f2 c2, vs = [.ref f2] ∧ H f2 = some (LamO f2 (lam e_l0 qLaw (cloFrom cells (lamSc e_l0).names []) c2)) ∧ H c2 = some (CodeO c2 qLaw) ∧ spL0 CN ([12, 4, 11].map (slotAt σ)) H (fun _ H1 => Q .non H1) (Eref CN Q)
    let rd1 : L2.St → List V → Hp → VK → Prop := fun σ vs H Q => ∃ f2 c2, vs = [.ref f2] ∧ H f2 = some (LamO f2 (lam e_l1 qLaw (cloFrom cells (lamSc e_l1).names []) c2)) ∧ H c2 = some (CodeO c2 qLaw) ∧ spL1 CN ([7, 12, 4].map (slotAt σ)) H (fun _ H1 => Q .non H1) (Eref CN Q)
    have asks0 : ∀ (pins : List (Addr × Obj)) (s2 : Shared) (σ : L2.St) (H2 : Hp) (vs : List V) (Q : VK), Inv (cxOf CX0 P w K mg base ["_law_script", "_law_pen_here", "_law_turn", "_law_signs_here", "_law_here", "_law_size", "_law_again", "_law_a", "_law_b", "_law_due", "_law_told", "_law_odd", "_law_far"] "law" (defScope s_law) f (.ref c) A outer s H E).nox pins σ H2 s2 → rd0 σ vs H2 Q → spRef P w K mg base CN s2.heap vs H2 Q E0 := by
      intro pins s2 σ H2 vs Q I h
      obtain ⟨f2, c2, rfl, hf, hc, q⟩ := h
      exact ⟨f2, _, _, _, _, rfl, lk0 c_windows qLaw _ c2, hf, hc, cells_of I (Caps.made I.ok (ndef_free free_l0) (ndef_fr free_l0) rfl), q⟩
    have asks1 : ∀ (pins : List (Addr × Obj)) (s2 : Shared) (σ : L2.St) (H2 : Hp) (vs : List V) (Q : VK), Inv (cxOf CX0 P w K mg base ["_law_script", "_law_pen_here", "_law_turn", "_law_signs_here", "_law_here", "_law_size", "_law_again", "_law_a", "_law_b", "_law_due", "_law_told", "_law_odd", "_law_far"] "law" (defScope s_law) f (.ref c) A outer s H E).nox pins σ H2 s2 → rd1 σ vs H2 Q → spRef P w K mg base CN s2.heap vs H2 Q E0 := by
      intro pins s2 σ H2 vs Q I h
      obtain ⟨f2, c2, rfl, hf, hc, q⟩ := h
      exact ⟨f2, _, _, _, _, rfl, lk1 c_windows qLaw _ c2, hf, hc, cells_of I (Caps.made I.ok (ndef_free free_l1) (ndef_fr free_l1) rfl), q⟩
    refine ⟨_, (pss_cons (ps_set (i := 1) sc_law.nd rfl (Or.inl rfl) (pe_cG c_lpen hg hr (by decide) pass0 (pa_cons (pv 0) pa_nil)))
      (pss_cons (ps_for PassesOwn.never rfl (pi_range1 rfl T.range (pa_cons (pe_op op_add pe_int (pe_callB (call_min2 rfl) (by rfl) T.min (by decide +kernel) (pa_cons pe_int (pa_cons (pe_callB call_len (by rfl) T.len (by decide +kernel) (pa_cons (pv 0) pa_nil)) pa_nil)))) pa_nil)) (pg_name (i := 2) sc_law.nd rfl (Or.inl rfl)) (pss_cons (ps_set (i := 3) sc_law.nd rfl (Or.inl rfl) (pe_cG c_lfew hg hr (by decide) pass0 (pa_cons (pv 1) pa_nil)))
      (pss_cons (ps_set (i := 4) sc_law.nd rfl (Or.inr rfl) (pe_cG c_lntext hg hr (by decide) pass0 (pa_cons (pv 1) (pa_cons (pv 3) (pa_cons pe_int pa_nil)))))
      (pss_cons (ps_set (i := 5) sc_law.nd rfl (Or.inl rfl) (pe_callB call_len (by rfl) T.len (by decide +kernel) (pa_cons (pv 4) pa_nil)))
      (pss_cons (ps_for PassesOwn.never rfl (pi_range1 rfl T.range (pa_cons pe_int pa_nil)) (pg_name (i := 6) sc_law.nd rfl (Or.inl rfl)) (pss_cons (ps_asg (pe_cG c_lpick hg hr (by decide) pass0 (pa_cons (pv 1) (pa_cons (pe_lst (pa_cons (pe_tup (pa_cons pe_int (pa_cons pe_int pa_nil))) (pa_cons (pe_tup (pa_cons (pv 5) (pa_cons (pv 5) pa_nil))) (pa_cons (pe_tup (pa_cons pe_int (pa_cons (pv 5) pa_nil))) (pa_cons (pe_cG c_lnspot hg hr (by decide) pass0 (pa_cons (pv 1) (pa_cons (pv 4) pa_nil))) (pa_cons (pe_cG c_lnspot hg hr (by decide) pass0 (pa_cons (pv 1) (pa_cons (pv 4) pa_nil))) pa_nil)))))) pa_nil))) (pg_tup rfl (pgs_cons (pg_name (i := 7) sc_law.nd rfl (Or.inr rfl)) (pgs_cons (pg_name (i := 8) sc_law.nd rfl (Or.inl rfl)) pgs_nil))))
      (pss_cons (ps_set (i := 9) sc_law.nd rfl (Or.inl rfl) (pe_cG c_lnwindows hg hr (by decide) pass0 (pa_cons (pv 4) (pa_cons (pv 7) (pa_cons (pv 8) pa_nil)))))
      (pss_cons (ps_set (i := 10) sc_law.nd rfl (Or.inl rfl) (pe_kw k_windows hg hr (by decide) passesF (pk_cons (pv 8) (pk_cons (pv 7) (pk_cons (pv 4) pk_nil)))))
      (pss_cons (ps_if (pt_cmpR op_ne (pe_callB (Vk.call_reprD hg hu64) (by rfl) T.repr (by decide +kernel) (pa_cons (pv 10) pa_nil)) (pe_callB (Vk.call_reprD hg hu64) (by rfl) T.repr (by decide +kernel) (pa_cons (pv 9) pa_nil)) (nomark _)) (pss_one (ps_ret pe_bl)) pss_nil)
      (pss_cons (ps_expr (pe_bm PySem.F.plainAttrs_list PySem.F.slot_list_append PySem.F.type_list_append mt_append (pv 10) (pa_cons pe_non pa_nil)))
      (pss_one (ps_if (pt_cmpR op_ne (pe_callB (Vk.call_reprD hg hu64) (by rfl) T.repr (by decide +kernel) (pa_cons (pe_cG c_windows hg hr (by decide) passesF (pa_cons (pv 4) (pa_cons (pv 7) (pa_cons (pv 8) pa_nil)))) pa_nil)) (pe_callB (Vk.call_reprD hg hu64) (by rfl) T.repr (by decide +kernel) (pa_cons (pv 9) pa_nil)) (nomark _)) (pss_one (ps_ret pe_bl)) pss_nil))))))))
      (pss_cons (ps_set (i := 11) sc_law.nd rfl (Or.inr rfl) (pe_cG c_lpick hg hr (by decide) pass0 (pa_cons (pv 1) (pa_cons (pe_lst (pa_cons (pe_cG c_lany_value hg hr (by decide) pass0 (pa_cons (pv 1) pa_nil)) (pa_cons (pe_un un_neg pe_int) (pa_cons (pe_op op_add (pv 5) pe_int) (pa_cons pe_bl pa_nil))))) pa_nil))))
      (pss_cons (ps_set (i := 12) sc_law.nd rfl (Or.inr rfl) (pe_cG c_lpick hg hr (by decide) pass0 (pa_cons (pv 1) (pa_cons (pe_lst (pa_cons (pe_cG c_lany_value hg hr (by decide) pass0 (pa_cons (pv 1) pa_nil)) (pa_cons (pe_op op_add (pv 5) pe_int) pa_nil))) pa_nil))))
      (pss_cons (ps_if (PW.pt (pw_and (pt_not (pt_val (pe_cG c_lis_number hg hr (by decide) pass0 (pa_cons (pv 11) (pa_cons pe_int (pa_cons (pv 5) pa_nil)))))) (pw_and1 (pt_cmpR op_ne (pe_cH (rd := rd0) c_lnrefused hg hr (by decide) pass0 (pa_cons (pe_lamv (T := [(P0, qLaw)]) tb rfl List.mem_cons_self (fun p hp _ => by rw [List.mem_singleton.mp hp]; rfl) rfl (ndef_free free_l0)) pa_nil) asks0) (pe_callB (Vk.call_reprT hg hu64) (by rfl) T.repr (by decide +kernel) (pa_cons (pv 11) pa_nil)) (nomark _))))) (pss_one (ps_ret pe_bl)) pss_nil)
      (pss_cons (ps_set (i := 7) sc_law.nd rfl (Or.inr rfl) (pe_cG c_ldraw hg hr (by decide) pass0 (pa_cons (pv 1) (pa_cons (pe_op op_add (pv 5) pe_int) pa_nil))))
      (pss_cons (ps_set (i := 12) sc_law.nd rfl (Or.inr rfl) (pe_cG c_lpick hg hr (by decide) pass0 (pa_cons (pv 1) (pa_cons (pe_lst (pa_cons (pv 12) (pa_cons (pe_op op_sub (pv 7) pe_int) (pa_cons pe_bl (pa_cons pe_non pa_nil))))) pa_nil))))
      (pss_one (ps_if (PW.pt (pw_and (pt_not (pt_val (pe_cG c_lis_number hg hr (by decide) pass0 (pa_cons (pv 12) (pa_cons (pv 7) (pa_cons (pv 5) pa_nil)))))) (pw_and1 (pt_cmpR op_ne (pe_cH (rd := rd1) c_lnrefused hg hr (by decide) pass0 (pa_cons (pe_lamv (T := [(P0, qLaw)]) tb rfl List.mem_cons_self (fun p hp _ => by rw [List.mem_singleton.mp hp]; rfl) rfl (ndef_free free_l1)) pa_nil) asks1) (pe_callB (Vk.call_reprT hg hu64) (by rfl) T.repr (by decide +kernel) (pa_cons (pv 12) pa_nil)) (nomark _))))) (pss_one (ps_ret pe_bl)) pss_nil))))))))))))
      (pss_one (ps_ret (pe_cmpR (op_eqNil hu64) (pe_cG c_windows hg hr (by decide) passesF (pa_cons pe_str (pa_cons pe_int (pa_cons pe_int pa_nil)))) (pe_lst pa_nil) (nomark _)))))), ?_⟩
    refine ⟨_, rfl, a, ns, rfl, hS, fun p pc H1 hp0 Pn0 s1 => ?_⟩
    have T1 : Tabs [(P0, qLaw)] H1 := fun r hr => by
      rw [List.mem_singleton.mp hr]
      exact TabS.nil (s1 _ _ hP0)
    refine ⟨_, rfl, _, _, rfl, .inl ⟨_, s1.seq hS, rfl⟩, _, _, rfl, _, _, rfl, rfl, _, rfl, ?_, ?_, ?_⟩
    · split <;> omega
    · split <;> omega
    refine for_range (lo := 0) (fun i σ H' => ∃ o2 o3 o4 o5 o6 o7 o8 o9 o10 o11 o12 : Option V, σ = [some (.ref a), some (.ref p), o2, o3, o4, o5, o6, o7, o8, o9, o10, o11, o12] ∧ Pen H' p pc (1000 * i) ∧ Tabs [(P0, qLaw)] H') ?_ ?_ ?_
    · exact ⟨_, _, _, _, _, _, _, _, _, _, _, rfl, Pn0, T1⟩
    · rintro i σ H2 hi ⟨o2, o3, o4, o5, o6, o7, o8, o9, o10, o11, o12, rfl, P2, T2⟩
      have hi16 : i ≤ 16 := by
        have : i < 17 := by
          revert hi
          split <;> omega
        omega
      refine ⟨_, rfl, p, pc, 1000 * i, rfl, P2, by omega, fun sg H3 fsg P3 x3 => ?_⟩
      have T3 := tabs_pen T2 P2 x3
      refine ⟨_, rfl, _, rfl, p, pc, sg, 16, _, rfl, fsg, by decide, P3, by omega, fun x H4 hx ltx P4 x4 => ?_⟩
      have T4 := tabs_pen T3 P3 x4
      have xl : x.length ≤ sizeLine := Nat.le_trans hx (by decide)
      clear P2 T2 P3 T3 x3 x4
      refine ⟨_, rfl, _, _, rfl, ⟨xl, rfl⟩, ?_⟩
      refine ⟨8, rfl, by decide, by decide, ?_⟩
      refine for_range (lo := 0) (n := 8) (fun j σ H' => ∃ o6 o7 o8 o9 o10 o11 o12 : Option V, σ = [some (.ref a), some (.ref p), some (.int (0 + (i : Int))), some (.str sg), some (.str x), some (.int (x.length : Nat)), o6, o7, o8, o9, o10, o11, o12] ∧ Pen H' p pc (1000 * i + 200 + 60 * j) ∧ Tabs [(P0, qLaw)] H') ?_ ?_ ?_
      · exact ⟨_, _, _, _, _, _, _, rfl, P4.mono (by omega), T4⟩
      · clear P4 T4
        rintro j σ H2 hj ⟨o6, o7, o8, o9, o10, o11, o12, rfl, P2, T2⟩
        refine ⟨_, rfl, by show 2 ≤ sizeLine; decide, fun u1 hu1 => ?_⟩
        have sa := same_new (o := .tup [.int 0, .int 0]) hu1
        have h1a : (upd H2 u1 (.tup [.int 0, .int 0])) u1 = some (.tup [.int 0, .int 0]) := upd_same
        generalize upd H2 u1 (.tup [.int 0, .int 0]) = Ha at sa h1a ⊢
        refine ⟨_, rfl, _, rfl, by show 2 ≤ sizeLine; decide, fun u2 hu2 => ?_⟩
        have sb := same_new (o := .tup [.int (x.length : Nat), .int (x.length : Nat)]) hu2
        have h2b : (upd Ha u2 (.tup [.int (x.length : Nat), .int (x.length : Nat)])) u2 = some (.tup [.int (x.length : Nat), .int (x.length : Nat)]) := upd_same
        generalize upd Ha u2 (.tup [.int (x.length : Nat), .int (x.length : Nat)]) = Hb at sb h2b ⊢
        refine ⟨_, rfl, by show 2 ≤ sizeLine; decide, fun u3 hu3 => ?_⟩
        have sc := same_new (o := .tup [.int 0, .int (x.length : Nat)]) hu3
        have h3c : (upd Hb u3 (.tup [.int 0, .int (x.length : Nat)])) u3 = some (.tup [.int 0, .int (x.length : Nat)]) := upd_same
        generalize upd Hb u3 (.tup [.int 0, .int (x.length : Nat)]) = Hc at sc h3c ⊢
        have s2c := (sa.trans sb).trans sc
        have Pc := P2.stay s2c
        have Tc := T2.ext s2c
        refine ⟨_, rfl, _, rfl, p, pc, x, _, rfl, by omega, Pc, by omega, fun t4 a4 b4 Hd h4 a40 a41 a42 Pd xd => ?_⟩
        refine ⟨_, rfl, _, rfl, p, pc, x, _, rfl, by omega, Pd, by omega, fun t5 a5 b5 He h5 a50 a51 a52 Pe xe => ⟨by show 5 ≤ sizeLine; decide, fun l hl => ?_⟩⟩
        have sl := same_new (o := .lst [.ref u1, .ref u2, .ref u3, .ref t4, .ref t5]) hl
        have Pf := Pe.stay sl
        refine ⟨p, pc, _, _, _, rfl, .lst (SqL.of upd_same), (fun z => by cases z), by show 5 ≤ 1000; decide, Pf, by omega, fun v H0 hv P0' xg => ?_⟩
        have kc : ∀ u ws, Hc u = some (.tup ws) → H0 u = some (.tup ws) := fun u ws h => pen_tup Pf xg u ws (sl _ _ (pen_tup Pd xe u ws (pen_tup Pc xd u ws h)))
        have T0' := tabs_pen ((tabs_pen (tabs_pen Tc Pc xd) Pd xe).ext sl) Pf xg
        have ev : ∃ (t : Addr) (a b : Nat), v = .ref t ∧ H0 t = some (.tup [.int (a : Nat), .int (b : Nat)]) ∧ a ≤ b ∧ b ≤ x.length := by
          have nat : ∀ (t : Addr) (a b : Int), H0 t = some (.tup [.int a, .int b]) → 0 ≤ a → a ≤ b → b ≤ x.length → ∃ (t' : Addr) (a b : Nat), V.ref t = .ref t' ∧ H0 t' = some (.tup [.int (a : Nat), .int (b : Nat)]) ∧ a ≤ b ∧ b ≤ x.length := fun t a b h h0 h1 h2 => by
            obtain ⟨a', rfl⟩ : ∃ a' : Nat, a = (a' : Nat) := ⟨a.toNat, by omega⟩
            obtain ⟨b', rfl⟩ : ∃ b' : Nat, b = (b' : Nat) := ⟨b.toNat, by omega⟩
            exact ⟨t, a', b', rfl, h, by omega, by omega⟩
          simp only [List.mem_cons, List.not_mem_nil, or_false] at hv
          rcases hv with rfl | rfl | rfl | rfl | rfl
          · exact nat _ _ _ (kc _ _ (sc _ _ (sb _ _ h1a))) (by omega) (by omega) (by omega)
          · exact nat _ _ _ (kc _ _ (sc _ _ h2b)) (by omega) (by omega) (by omega)
          · exact nat _ _ _ (kc _ _ h3c) (by omega) (by omega) (by omega)
          · exact nat _ _ _ (pen_tup Pf xg _ _ (sl _ _ (pen_tup Pd xe _ _ h4))) a40 a41 a42
          · exact nat _ _ _ (pen_tup Pf xg _ _ (sl _ _ h5)) a50 a51 a52
        obtain ⟨t0, a0, b0, rfl, ht0, hab, hbn⟩ := ev
        clear kc h1a h2b h3c sa sb sc s2c Pc Tc Pd xd Pe xe sl Pf xg h4 h5 hv P2 T2
        refine ⟨t0, _, rfl, SqT.of ht0, rfl, _, _, rfl, _, _, rfl, rfl, ?_⟩
        have wl : (winW x a0 b0).length ≤ 17 * 16 := Nat.le_trans winW_len (Nat.mul_le_mul (by omega) hx)
        have sh := pds_showy (n := 100) (by decide) (ws := winW x a0 b0) fun q hq => by
          have := winW_mem hq
          omega
        have shn : (PyData.list ((winW x a0 b0).map pD)).shown.length ≤ sizeLine := Nat.le_trans sh.ln (Nat.le_of_lt (fewL (by omega)))
        have shd : (PyData.list ((winW x a0 b0).map pD)).depth ≤ 60 := Nat.le_trans sh.dp (by decide)
        refine ⟨_, rfl, _, rfl, _, rfl, x, a0, b0, rfl, by omega, by omega, hbn, fun ld yd G1 hld hld2 pd sd => ?_⟩
        refine ⟨_, rfl, _, rfl, _, rfl, rfl, x, _, .int (a0 : Nat), _, .int (b0 : Nat), rfl, .atm (.int _), .atm (.int _), by omega, no_k1 (by omega), no_k2 hab hbn, fun a' b' e1 e2 _ _ => ?_⟩
        obtain rfl : a0 = a' := nat_int e1
        obtain rfl : b0 = b' := nat_int e2
        intro lt yt G2 hlt hlt2 pt st
        refine ⟨_, rfl, _, _, rfl, .lst (SqL.of hlt2) (prs_dp pt), sh.sh, sh.nd, shd, shn, ?_⟩
        refine ⟨_, rfl, _, _, rfl, .lst (SqL.of (st _ _ hld2)) (prs_dp (pd.keep st)), sh.sh, sh.nd, shd, shn, rfl, _, rfl, ?_⟩
        refine iteNS rfl ?_
        have gt := paired_len pt
        have s13 : Same G1 (upd G2 lt (.lst (yt ++ [.non]))) := upd_out hlt st
        refine ⟨_, rfl, .inl ⟨rfl, _, SqL.of hlt2⟩, lt, _, _, rfl, rfl, hlt2, fewL (by omega), ?_⟩
        generalize upd G2 lt (.lst (yt ++ [.non])) = G3 at s13 ⊢
        refine ⟨_, rfl, _, rfl, _, rfl, x, _, .int (a0 : Nat), _, .int (b0 : Nat), rfl, .atm (.int _), .atm (.int _), by omega, no_k1 (by omega), no_k2 hab hbn, fun a' b' e1 e2 _ _ => ?_⟩
        obtain rfl : a0 = a' := nat_int e1
        obtain rfl : b0 = b' := nat_int e2
        intro l4 y4 G4 hl4 hl42 p4 s4
        refine ⟨_, _, rfl, .lst (SqL.of hl42) (prs_dp p4), sh.sh, sh.nd, shd, shn, ?_⟩
        refine ⟨_, rfl, _, _, rfl, .lst (SqL.of (s4 _ _ (s13 _ _ hld2))) (prs_dp (pd.keep (s13.trans s4))), sh.sh, sh.nd, shd, shn, rfl, _, rfl, ?_⟩
        refine iteNS rfl ?_
        have s04 := sd.trans (s13.trans s4)
        exact ⟨_, _, _, _, _, _, _, rfl, (P0'.stay s04).mono (by omega), T0'.ext s04⟩
      · rintro σ H2 ⟨o6, o7, o8, o9, o10, o11, o12, rfl, P2, T2⟩
        refine ⟨_, rfl, _, rfl, p, pc, _, rfl, P2, by omega, fun v1 d1 H3 th1 ok1 _ P3 x3 => ?_⟩
        refine ⟨_, rfl, _, rfl, _, _, rfl, rfl, by show 4 ≤ sizeLine; decide, fun l hl => ?_⟩
        have sl := same_new (o := .lst [v1, .int (-1), .int ((x.length : Nat) + 1), .bl true]) hl
        have P4 := P3.stay sl
        refine ⟨p, pc, _, _, _, rfl, .lst (SqL.of upd_same), (fun z => by cases z), by show 4 ≤ 1000; decide, P4, by omega, fun v H5 hv P5 x5 => ?_⟩
        have T5 := tabs_pen ((tabs_pen T2 P2 x3).ext sl) P4 x5
        have ev : ∃ d, Th H5 v d ∧ Shn d := by
          simp only [List.mem_cons, List.not_mem_nil, or_false] at hv
          rcases hv with rfl | rfl | rfl | rfl
          · exact ⟨d1, (th1.keep sl).ext P4 x5, (okC_shs ok1).shn⟩
          · exact ⟨_, .atm (.int _), shn_int (by decide) (by decide)⟩
          · exact ⟨_, .atm (.int _), shn_int (by omega) (by omega)⟩
          · exact ⟨_, .atm (.bl _), shn_bl⟩
        obtain ⟨d, th5, sh5⟩ := ev
        clear P2 T2 P3 th1 P4 x5 sl hv x3
        refine ⟨_, rfl, _, rfl, p, pc, _, rfl, P5, by omega, fun v2 d2 H6 th2 ok2 _ P6 x6 => ?_⟩
        refine ⟨_, rfl, _, _, rfl, rfl, by show 2 ≤ sizeLine; decide, fun l2 hl2 => ?_⟩
        have sl := same_new (o := .lst [v2, .int ((x.length : Nat) + 1)]) hl2
        have P7 := P6.stay sl
        refine ⟨p, pc, _, _, _, rfl, .lst (SqL.of upd_same), (fun z => by cases z), by show 2 ≤ 1000; decide, P7, by omega, fun vf H8 hv P8 x8 => ?_⟩
        have T8 := tabs_pen ((tabs_pen T5 P5 x6).ext sl) P7 x8
        have th8 := ((th5.ext P5 x6).keep sl).ext P7 x8
        have ev : ∃ d, Th H8 vf d ∧ Shn d := by
          simp only [List.mem_cons, List.not_mem_nil, or_false] at hv
          rcases hv with rfl | rfl
          · exact ⟨d2, (th2.keep sl).ext P7 x8, (okC_shs ok2).shn⟩
          · exact ⟨_, .atm (.int _), shn_int (by omega) (by omega)⟩
        obtain ⟨df, tf8, sf⟩ := ev
        clear P5 T5 P6 th5 th2 P7 x8 sl hv x6
        refine ⟨_, rfl, _, rfl, v, d, _, _, rfl, th8, _, rfl, ?_⟩
        refine' or_bothH (R := ?oR) (fun H' => Pen H' p pc (1000 * i + 700) ∧ Tabs [(P0, qLaw)] H' ∧ Th H' vf df) ?k0 ?k1 ?k2
        case k2 =>
          intro hc hR
          refine iteF ?_
          exact hR H8 ⟨P8.mono (by omega), T8, tf8⟩
        case k1 =>
          intro hc hR
          have bad : inI d 0 (x.length : Nat) = false := by
            cases q : inI d 0 (x.length : Nat) with
            | false => rfl
            | true => rw [q] at hc; cases hc
          refine ⟨T8, fun f0 c0 H9 xe be tbe n0 l0 o0 => ⟨f0, c0, rfl, l0, o0, _, _, _, rfl, wins_bad1 (th8.keepN xe) (tf8.keepN xe) (by omega) bad fun dd hdd => ?_⟩⟩
          have sdd := same_new (o := .xd [(("value" : Str), v)]) hdd
          refine ⟨rfl, dd, v, d, rfl, upd_same, (th8.keepN xe).keep sdd, sh5, ?_⟩
          refine ⟨_, rfl, v, d, rfl, .inl ((th8.keepN xe).keep sdd), sh5.1, sh5.2.1, sh5.2.2, rfl, _, rfl, ?_⟩
          refine iteNS rfl ?_
          exact hR _ ⟨((pen_extN P8 xe).stay sdd).mono (by omega), tbe.ext sdd, (tf8.keepN xe).keep sdd⟩
        case k0 =>
          clear P8 T8 tf8 th8
          rintro H8 ⟨P8, T8, tf8⟩
          refine ⟨_, rfl, _, rfl, _, _, rfl, rfl, p, pc, _, _, rfl, by omega, by omega, P8, by omega, fun da H9 da0 da1 P9 x9 => ?_⟩
          obtain ⟨a0, rfl⟩ : ∃ a0 : Nat, da = (a0 : Nat) := ⟨da.toNat, by omega⟩
          refine ⟨_, rfl, _, rfl, _, rfl, _, _, rfl, rfl, by show 4 ≤ sizeLine; decide, fun l hl => ?_⟩
          have sl := same_new (o := .lst [vf, .int ((a0 : Nat) - 1), .bl false, .non]) hl
          have P10 := P9.stay sl
          refine ⟨p, pc, _, _, _, rfl, .lst (SqL.of upd_same), (fun z => by cases z), by show 4 ≤ 1000; decide, P10, by omega, fun vg H11 hv P11 x11 => ?_⟩
          have T11 := tabs_pen ((tabs_pen T8 P8 x9).ext sl) P10 x11
          have ev : ∃ d, Th H11 vg d ∧ Shn d := by
            simp only [List.mem_cons, List.not_mem_nil, or_false] at hv
            rcases hv with rfl | rfl | rfl | rfl
            · exact ⟨df, ((tf8.ext P8 x9).keep sl).ext P10 x11, sf⟩
            · exact ⟨_, .atm (.int _), shn_int (by omega) (by omega)⟩
            · exact ⟨_, .atm (.bl _), shn_bl⟩
            · exact ⟨_, .atm .non, shn_non⟩
          obtain ⟨dg, tg11, sg11⟩ := ev
          clear P8 T8 tf8 P9 P10 x9 x11 sl hv
          refine ⟨_, rfl, _, rfl, _, rfl, vg, dg, _, _, rfl, tg11, _, rfl, ?_⟩
          refine' or_bothH (R := ?oS) (fun H' => Pen H' p pc (1000 * i + 900) ∧ Tabs [(P0, qLaw)] H') ?m0 ?m1 ?m2
          case m2 =>
            intro hc hR
            refine iteF ?_
            exact hR H11 ⟨P11.mono (by omega), T11⟩
          case m1 =>
            intro hc hR
            have bad : inI dg (a0 : Nat) (x.length : Nat) = false := by
              cases q : inI dg (a0 : Nat) (x.length : Nat) with
              | false => rfl
              | true => rw [q] at hc; cases hc
            refine ⟨T11, fun f0 c0 H9 xe be tbe n0 l0 o0 => ⟨f0, c0, rfl, l0, o0, _, _, _, rfl, wins_bad2 (by omega) (tg11.keepN xe) (by omega) bad fun dd hdd => ?_⟩⟩
            have sdd := same_new (o := .xd [(("value" : Str), vg)]) hdd
            refine ⟨rfl, dd, vg, dg, rfl, upd_same, (tg11.keepN xe).keep sdd, sg11, ?_⟩
            refine ⟨_, rfl, vg, dg, rfl, .inl ((tg11.keepN xe).keep sdd), sg11.1, sg11.2.1, sg11.2.2, rfl, _, rfl, ?_⟩
            refine iteNS rfl ?_
            exact hR _ ⟨((pen_extN P11 xe).stay sdd).mono (by omega), tbe.ext sdd⟩
          case m0 =>
            rintro H12 ⟨P12, T12⟩
            exact ⟨_, _, _, _, _, _, _, _, _, _, _, rfl, P12.mono (by omega), T12⟩
    · rintro σ H2 ⟨o2, o3, o4, o5, o6, o7, o8, o9, o10, o11, o12, rfl, P2, T2⟩
      refine ⟨"", _, .int (0 : Nat), _, .int (0 : Nat), rfl, .atm (.int _), .atm (.int _), by decide, no_k1 (by decide), no_k2 (Nat.le_refl _) (by decide), fun a' b' e1 e2 _ _ => ?_⟩
      obtain rfl : 0 = a' := nat_int e1
      obtain rfl : 0 = b' := nat_int e2
      intro l4 y4 G4 hl4 hl42 p4 s4
      have e0 : winW "" 0 0 = [] := by decide +kernel
      rw [e0] at p4
      cases p4
      refine ⟨by show 0 ≤ sizeLine; decide, fun u hu => ?_⟩
      exact ⟨l4, [], u, rfl, rfl, SqL.of ((same_new hu) _ _ hl42), SqL.of upd_same, k _⟩

end
end Vk
set_option Elab.async false
set_option maxRecDepth 100000
set_option linter.all false
set_option maxHeartbeats 4000000
namespace Vk
open PySem PySem.Spec PyProof.Rows L2 LamX NdefX StX PySem.VkX
theorem makC_mk {K : PySem.W.Frag} {x qual : Str} {st : Stmt} {f c : Addr} {oc : Value} {od an : Option Addr} {sl : Array (Option Value)} {kV doc pm ct : Value}
    (l : K.lookup f = some ⟨oc, od, .func (PySem.W.fnOf x qual (defArgs st) (defBody st) (defScope st) .none kV doc pm an (.ref c) ct), sl⟩) (h : PySem.W.codeIn K (.ref c) qual = true) (k : PySem.W.keepIn K (.ref f) = true) :
    FunC K x qual st f (PySem.W.fnOf x qual (defArgs st) (defBody st) (defScope st) .none kV doc pm an (.ref c) ct) c := ⟨⟨oc, od, kV, doc, pm, an, ct, sl, rfl, l, h⟩, k⟩
theorem tab_mk {K : PySem.W.Frag} {x : Str} {f c P : Addr} {oc o2 v0 v1 v2 v3 v4 v5 v6 v7 v8 v9 v10 : Value} {od d2 : Option Addr} {fd : FuncData} {sl s2 : Array (Option Value)} {rest : List Value} (a : PySem.W.nsIn K mainGlobals x = some (some (.ref f))) (l : K.lookup f = some ⟨oc, od, .func fd, sl⟩) (hc : fd.code = .ref c)
    (l2 : K.lookup c = some ⟨o2, d2, .fields (List.toArray (v0 :: v1 :: v2 :: v3 :: v4 :: v5 :: v6 :: v7 :: v8 :: v9 :: v10 :: .ref P :: rest)), s2⟩) : PySem.W.tabIn K x = some (c, P) := by
  unfold PySem.W.tabIn
  rw [a]
  dsimp only
  rw [l]
  dsimp only
  rw [hc]
  dsimp only
  rw [l2]
  rfl
theorem sub_one {K : PySem.W.Frag} {C D : Addr} {x y : Str} {tl tl2 : List Value} (c : One K C x tl) (d : One K D y tl2) : PySem.W.subIn K (.ref C) (.ref D) = some (x == y) := by
  obtain ⟨cd, h1, h2, h3, h4⟩ := c.cn.cls
  show PySem.W.mroIn K C (.ref D) = some (x == y)
  unfold PySem.W.mroIn
  rw [h1, Option.bind_some, h3, if_neg (by simp), List.contains_cons, notIn_types c.rf, Bool.or_false]
  by_cases e : C = D
  · subst e
    have exy : x = y := c.cn.inj d.cn (by simp)
    rw [exy]
    simp
  · have nxy : (x == y) = false := by
      rw [beq_eq_false_iff_ne]
      rintro rfl
      have z := c.ns.symm.trans d.ns
      cases z
      exact e rfl
    rw [nxy]
    exact congrArg some (beq_eq_false_iff_ne.mpr fun z => e (Value.ref.inj z).symm)
theorem all {l : PySem.W.OpenLaw} {w : World} {K : PySem.W.Frag} {h : Heap} {mg : Str → Option Value} {fa : Addr} (X : K.In h) (G : h.Ns mainGlobals mg) (hfa : mg "law" = some (.ref fa))
    (e_InvalidSpot : ∃ (C f : Addr) (fd : FuncData), ExcTxt K "InvalidSpot" "InvalidSpot.__init__" m_InvalidSpot C f fd ["value"] tlV)
    (d_is_integer : ∃ (f : Addr) (fd : FuncData), At K "is_integer" s_is_integer f fd)
    (d_is_integer_in : ∃ (f : Addr) (fd : FuncData), At K "is_integer_in" s_is_integer_in f fd)
    (d_stands_twice : ∃ (f : Addr) (fd : FuncData), At K "stands_twice" s_stands_twice f fd)
    (d_check_spot : ∃ (f : Addr) (fd : FuncData), At K "check_spot" s_check_spot f fd)
    (d_longer_results : ∃ (f : Addr) (fd : FuncData), At K "longer_results" s_longer_results f fd)
    (d_all_results : ∃ (f : Addr) (fd : FuncData), At K "all_results" s_all_results f fd)
    (d_kept_ends : ∃ (f : Addr) (fd : FuncData), At K "kept_ends" s_kept_ends f fd)
    (d_stands_twice_in_one : ∃ (f : Addr) (fd : FuncData), At K "stands_twice_in_one" s_stands_twice_in_one f fd)
    (d_least_windows : ∃ (f : Addr) (fd : FuncData), At K "least_windows" s_least_windows f fd)
    (d_windows : ∃ (f : Addr) (fd : FuncData), At K "windows" s_windows f fd)
    (d_lsigns : ∃ (f : Addr) (fd : FuncData), At K "_law_signs" s_lsigns f fd)
    (d_ldraw : ∃ (f : Addr) (fd : FuncData), At K "_law_draw" s_ldraw f fd)
    (d_lpen : ∃ (f : Addr) (fd : FuncData), At K "_law_pen" s_lpen f fd)
    (d_lpick : ∃ (f : Addr) (fd : FuncData), At K "_law_pick" s_lpick f fd)
    (d_lis_number : ∃ (f : Addr) (fd : FuncData), At K "_law_is_number" s_lis_number f fd)
    (d_lfew : ∃ (f : Addr) (fd : FuncData), At K "_law_few" s_lfew f fd)
    (d_lword : ∃ (f : Addr) (fd : FuncData), At K "_law_word" s_lword f fd)
    (d_lplaces : ∃ (f : Addr) (fd : FuncData), At K "_law_places" s_lplaces f fd)
    (d_lany_value : ∃ (f : Addr) (fd : FuncData), At K "_law_any_value" s_lany_value f fd)
    (d_lntext : ∃ (f : Addr) (fd : FuncData), At K "_law_ntext" s_lntext f fd)
    (d_lnonce : ∃ (f : Addr) (fd : FuncData), At K "_law_nonce" s_lnonce f fd)
    (d_lnaround : ∃ (f : Addr) (fd : FuncData), At K "_law_naround" s_lnaround f fd)
    (d_lnleast : ∃ (f : Addr) (fd : FuncData), At K "_law_nleast" s_lnleast f fd)
    (d_lnwindows : ∃ (f : Addr) (fd : FuncData), At K "_law_nwindows" s_lnwindows f fd)
    (d_lnspot : ∃ (f : Addr) (fd : FuncData), At K "_law_nspot" s_lnspot f fd)
    (d_lnrefused : ∃ (f : Addr) (fd : FuncData), At K "_law_nrefused" s_lnrefused f fd)
    (d_law : ∃ (f c tP : Addr) (fd : FuncData), PySem.W.nsIn K mainGlobals "law" = some (some (.ref f)) ∧ FunC K "law" "law" s_law f fd c ∧ PySem.W.tabIn K "law" = some (c, tP))
    (z_str : PySem.W.nsIn K mainGlobals "str" = some none)
    (z_tuple : PySem.W.nsIn K mainGlobals "tuple" = some none)
    (z_enumerate : PySem.W.nsIn K mainGlobals "enumerate" = some none)
    (z_bool : PySem.W.nsIn K mainGlobals "bool" = some none)
    (z_sum : PySem.W.nsIn K mainGlobals "sum" = some none)
    (z_max : PySem.W.nsIn K mainGlobals "max" = some none)
    (z_ValueError : PySem.W.nsIn K mainGlobals "ValueError" = some none)
    (z_reversed : PySem.W.nsIn K mainGlobals "reversed" = some none)
    (z_len : PySem.W.nsIn K mainGlobals "len" = some none)
    (z_list : PySem.W.nsIn K mainGlobals "list" = some none)
    (z_int : PySem.W.nsIn K mainGlobals "int" = some none)
    (z_abs : PySem.W.nsIn K mainGlobals "abs" = some none)
    (z_range : PySem.W.nsIn K mainGlobals "range" = some none)
    (z_min : PySem.W.nsIn K mainGlobals "min" = some none)
    (z_repr : PySem.W.nsIn K mainGlobals "repr" = some none)
    (z_isinstance : PySem.W.nsIn K mainGlobals "isinstance" = some none)
    (tb : ∀ c tP : Addr, PySem.W.tabIn K "law" = some (c, tP) → h.get? tP = some { cls := .none, data := .fields #[] } ∧ K.lookup tP = none ∧ PySem.W.CodeHd h c tP)
    : ∃ (fd : FuncData) (c tP : Addr), h.get? tP = some { cls := .none, data := .fields #[] } ∧ K.lookup tP = none ∧ PySem.W.CodeHd h c tP ∧ (∀ (s : Shared) (v : Value), BindsTo s fd ⟨[v], []⟩ [("_law_script", v)]) ∧ ∀ base : Heap, K.In base → base.Ns mainGlobals mg → TabB base mg c tP → SM base → FnG l.prog w K mg base CX0 8 fa fd ["_law_script"] (spLaw tP K) := by
  obtain ⟨C_InvalidSpot, i_InvalidSpot, fd_InvalidSpot, E_InvalidSpot⟩ := e_InvalidSpot
  have o_InvalidSpot : One K C_InvalidSpot "InvalidSpot" tlV := ⟨E_InvalidSpot.cn, E_InvalidSpot.ns, rfl⟩
  obtain ⟨f_is_integer, fd_is_integer, A_is_integer⟩ := d_is_integer
  have m_is_integer := PySem.W.mg_of X G A_is_integer.ns
  obtain ⟨f_is_integer_in, fd_is_integer_in, A_is_integer_in⟩ := d_is_integer_in
  have m_is_integer_in := PySem.W.mg_of X G A_is_integer_in.ns
  obtain ⟨f_stands_twice, fd_stands_twice, A_stands_twice⟩ := d_stands_twice
  have m_stands_twice := PySem.W.mg_of X G A_stands_twice.ns
  obtain ⟨f_check_spot, fd_check_spot, A_check_spot⟩ := d_check_spot
  have m_check_spot := PySem.W.mg_of X G A_check_spot.ns
  obtain ⟨f_longer_results, fd_longer_results, A_longer_results⟩ := d_longer_results
  have m_longer_results := PySem.W.mg_of X G A_longer_results.ns
  obtain ⟨f_all_results, fd_all_results, A_all_results⟩ := d_all_results
  have m_all_results := PySem.W.mg_of X G A_all_results.ns
  obtain ⟨f_kept_ends, fd_kept_ends, A_kept_ends⟩ := d_kept_ends
  have m_kept_ends := PySem.W.mg_of X G A_kept_ends.ns
  obtain ⟨f_stands_twice_in_one, fd_stands_twice_in_one, A_stands_twice_in_one⟩ := d_stands_twice_in_one
  have m_stands_twice_in_one := PySem.W.mg_of X G A_stands_twice_in_one.ns
  obtain ⟨f_least_windows, fd_least_windows, A_least_windows⟩ := d_least_windows
  have m_least_windows := PySem.W.mg_of X G A_least_windows.ns
  obtain ⟨f_windows, fd_windows, A_windows⟩ := d_windows
  have m_windows := PySem.W.mg_of X G A_windows.ns
  obtain ⟨f_lsigns, fd_lsigns, A_lsigns⟩ := d_lsigns
  have m_lsigns := PySem.W.mg_of X G A_lsigns.ns
  obtain ⟨f_ldraw, fd_ldraw, A_ldraw⟩ := d_ldraw
  have m_ldraw := PySem.W.mg_of X G A_ldraw.ns
  obtain ⟨f_lpen, fd_lpen, A_lpen⟩ := d_lpen
  have m_lpen := PySem.W.mg_of X G A_lpen.ns
  obtain ⟨f_lpick, fd_lpick, A_lpick⟩ := d_lpick
  have m_lpick := PySem.W.mg_of X G A_lpick.ns
  obtain ⟨f_lis_number, fd_lis_number, A_lis_number⟩ := d_lis_number
  have m_lis_number := PySem.W.mg_of X G A_lis_number.ns
  obtain ⟨f_lfew, fd_lfew, A_lfew⟩ := d_lfew
  have m_lfew := PySem.W.mg_of X G A_lfew.ns
  obtain ⟨f_lword, fd_lword, A_lword⟩ := d_lword
  have m_lword := PySem.W.mg_of X G A_lword.ns
  obtain ⟨f_lplaces, fd_lplaces, A_lplaces⟩ := d_lplaces
  have m_lplaces := PySem.W.mg_of X G A_lplaces.ns
  obtain ⟨f_lany_value, fd_lany_value, A_lany_value⟩ := d_lany_value
  have m_lany_value := PySem.W.mg_of X G A_lany_value.ns
  obtain ⟨f_lntext, fd_lntext, A_lntext⟩ := d_lntext
  have m_lntext := PySem.W.mg_of X G A_lntext.ns
  obtain ⟨f_lnonce, fd_lnonce, A_lnonce⟩ := d_lnonce
  have m_lnonce := PySem.W.mg_of X G A_lnonce.ns
  obtain ⟨f_lnaround, fd_lnaround, A_lnaround⟩ := d_lnaround
  have m_lnaround := PySem.W.mg_of X G A_lnaround.ns
  obtain ⟨f_lnleast, fd_lnleast, A_lnleast⟩ := d_lnleast
  have m_lnleast := PySem.W.mg_of X G A_lnleast.ns
  obtain ⟨f_lnwindows, fd_lnwindows, A_lnwindows⟩ := d_lnwindows
  have m_lnwindows := PySem.W.mg_of X G A_lnwindows.ns
  obtain ⟨f_lnspot, fd_lnspot, A_lnspot⟩ := d_lnspot
  have m_lnspot := PySem.W.mg_of X G A_lnspot.ns
  obtain ⟨f_lnrefused, fd_lnrefused, A_lnrefused⟩ := d_lnrefused
  have m_lnrefused := PySem.W.mg_of X G A_lnrefused.ns
  obtain ⟨f_law, c_law, tP, fd_law, q_law, F_law, w_law⟩ := d_law
  have m_law := PySem.W.mg_of X G q_law
  have e := hfa.symm.trans m_law
  cases e
  have T : Txt mg := ⟨PySem.W.mg_none_of X G z_str, PySem.W.mg_none_of X G z_tuple, PySem.W.mg_none_of X G z_enumerate, PySem.W.mg_none_of X G z_bool, PySem.W.mg_none_of X G z_sum, PySem.W.mg_none_of X G z_max, PySem.W.mg_none_of X G z_ValueError, PySem.W.mg_none_of X G z_reversed, PySem.W.mg_none_of X G z_len, PySem.W.mg_none_of X G z_list, PySem.W.mg_none_of X G z_int, PySem.W.mg_none_of X G z_abs, PySem.W.mg_none_of X G z_range, PySem.W.mg_none_of X G z_min, PySem.W.mg_none_of X G z_repr, PySem.W.mg_none_of X G z_isinstance⟩
  have bd_is_integer : Binds K fd_is_integer ["value"] [] := A_is_integer.fn.binds (ps := ["value"]) fun _ _ _ _ _ _ us hl => match us, hl with | [_], _ => rfl
  have bd_is_integer_in : Binds K fd_is_integer_in ["value", "low", "high"] [] := A_is_integer_in.fn.binds (ps := ["value", "low", "high"]) fun _ _ _ _ _ _ us hl => match us, hl with | [_, _, _], _ => rfl
  have bd_stands_twice : Binds K fd_stands_twice ["text", "word"] [] := A_stands_twice.fn.binds (ps := ["text", "word"]) fun _ _ _ _ _ _ us hl => match us, hl with | [_, _], _ => rfl
  have bd_check_spot : Binds K fd_check_spot ["text", "first", "last"] [] := A_check_spot.fn.binds (ps := ["text", "first", "last"]) fun _ _ _ _ _ _ us hl => match us, hl with | [_, _, _], _ => rfl
  have bd_longer_results : Binds K fd_longer_results ["results", "edits"] [] := A_longer_results.fn.binds (ps := ["results", "edits"]) fun _ _ _ _ _ _ us hl => match us, hl with | [_, _], _ => rfl
  have bd_all_results : Binds K fd_all_results ["text", "edits"] [] := A_all_results.fn.binds (ps := ["text", "edits"]) fun _ _ _ _ _ _ us hl => match us, hl with | [_, _], _ => rfl
  have bd_kept_ends : Binds K fd_kept_ends ["entries", "length"] [] := A_kept_ends.fn.binds (ps := ["entries", "length"]) fun _ _ _ _ _ _ us hl => match us, hl with | [_, _], _ => rfl
  have bd_stands_twice_in_one : Binds K fd_stands_twice_in_one ["texts", "word"] [] := A_stands_twice_in_one.fn.binds (ps := ["texts", "word"]) fun _ _ _ _ _ _ us hl => match us, hl with | [_, _], _ => rfl
  have bd_least_windows : Binds K fd_least_windows ["text", "first", "last", "results"] [] := A_least_windows.fn.binds (ps := ["text", "first", "last", "results"]) fun _ _ _ _ _ _ us hl => match us, hl with | [_, _, _, _], _ => rfl
  have bd_windows : Binds K fd_windows ["text", "first", "last"] [] := A_windows.fn.binds (ps := ["text", "first", "last"]) fun _ _ _ _ _ _ us hl => match us, hl with | [_, _, _], _ => rfl
  have bd_lsigns : Binds K fd_lsigns [] [] := A_lsigns.fn.binds (ps := []) fun _ _ _ _ _ _ us hl => match us, hl with | [], _ => rfl
  have bd_ldraw : Binds K fd_ldraw ["_law_pen_here", "_law_many"] [] := A_ldraw.fn.binds (ps := ["_law_pen_here", "_law_many"]) fun _ _ _ _ _ _ us hl => match us, hl with | [_, _], _ => rfl
  have bd_lpen : Binds K fd_lpen ["_law_script"] [] := A_lpen.fn.binds (ps := ["_law_script"]) fun _ _ _ _ _ _ us hl => match us, hl with | [_], _ => rfl
  have bd_lpick : Binds K fd_lpick ["_law_pen_here", "_law_options"] [] := A_lpick.fn.binds (ps := ["_law_pen_here", "_law_options"]) fun _ _ _ _ _ _ us hl => match us, hl with | [_, _], _ => rfl
  have bd_lis_number : Binds K fd_lis_number ["_law_thing", "_law_least", "_law_greatest"] [] := A_lis_number.fn.binds (ps := ["_law_thing", "_law_least", "_law_greatest"]) fun _ _ _ _ _ _ us hl => match us, hl with | [_, _, _], _ => rfl
  have bd_lfew : Binds K fd_lfew ["_law_pen_here"] [] := A_lfew.fn.binds (ps := ["_law_pen_here"]) fun _ _ _ _ _ _ us hl => match us, hl with | [_], _ => rfl
  have bd_lword : Binds K fd_lword ["_law_pen_here", "_law_signs_here", "_law_least", "_law_most_letters"] [] := A_lword.fn.binds (ps := ["_law_pen_here", "_law_signs_here", "_law_least", "_law_most_letters"]) fun _ _ _ _ _ _ us hl => match us, hl with | [_, _, _, _], _ => rfl
  have bd_lplaces : Binds K fd_lplaces ["_law_text_here", "_law_was"] [] := A_lplaces.fn.binds (ps := ["_law_text_here", "_law_was"]) fun _ _ _ _ _ _ us hl => match us, hl with | [_, _], _ => rfl
  have bd_lany_value : Binds K fd_lany_value ["_law_pen_here"] [] := A_lany_value.fn.binds (ps := ["_law_pen_here"]) fun _ _ _ _ _ _ us hl => match us, hl with | [_], _ => rfl
  have bd_lntext : Binds K fd_lntext ["_law_pen_here", "_law_signs_here", "_law_most_letters"] [] := A_lntext.fn.binds (ps := ["_law_pen_here", "_law_signs_here", "_law_most_letters"]) fun _ _ _ _ _ _ us hl => match us, hl with | [_, _, _], _ => rfl
  have bd_lnonce : Binds K fd_lnonce ["_law_text_here", "_law_a", "_law_b"] [] := A_lnonce.fn.binds (ps := ["_law_text_here", "_law_a", "_law_b"]) fun _ _ _ _ _ _ us hl => match us, hl with | [_, _, _], _ => rfl
  have bd_lnaround : Binds K fd_lnaround ["_law_text_here", "_law_a", "_law_b"] [] := A_lnaround.fn.binds (ps := ["_law_text_here", "_law_a", "_law_b"]) fun _ _ _ _ _ _ us hl => match us, hl with | [_, _, _], _ => rfl
  have bd_lnleast : Binds K fd_lnleast ["_law_spans"] [] := A_lnleast.fn.binds (ps := ["_law_spans"]) fun _ _ _ _ _ _ us hl => match us, hl with | [_], _ => rfl
  have bd_lnwindows : Binds K fd_lnwindows ["_law_text_here", "_law_a", "_law_b"] [] := A_lnwindows.fn.binds (ps := ["_law_text_here", "_law_a", "_law_b"]) fun _ _ _ _ _ _ us hl => match us, hl with | [_, _, _], _ => rfl
  have bd_lnspot : Binds K fd_lnspot ["_law_pen_here", "_law_text_here"] [] := A_lnspot.fn.binds (ps := ["_law_pen_here", "_law_text_here"]) fun _ _ _ _ _ _ us hl => match us, hl with | [_, _], _ => rfl
  have bd_lnrefused : Binds K fd_lnrefused ["_law_call"] [] := A_lnrefused.fn.binds (ps := ["_law_call"]) fun _ _ _ _ _ _ us hl => match us, hl with | [_], _ => rfl
  obtain ⟨tb1, tb2, tb3⟩ := tb _ _ w_law
  refine ⟨fd_law, c_law, tP, tb1, tb2, tb3, fun s v => F_law.fn.binds1 rfl s v, fun base _ _ tab sm => ?_⟩
  have k_InvalidSpot : ClsI l.prog w K mg base 1 "InvalidSpot" C_InvalidSpot ["value"] := c_InvalidSpot X G E_InvalidSpot
  have c_is_integer : CalG l.prog w K mg base CX0 1 "is_integer" spIsInt := ⟨f_is_integer, fd_is_integer, _, b_is_integer A_is_integer.fn T, m_is_integer, A_is_integer.fn.kp, bd_is_integer⟩
  have c_is_integer_in : CalG l.prog w K mg base CX0 2 "is_integer_in" spInI := ⟨f_is_integer_in, fd_is_integer_in, _, b_is_integer_in A_is_integer_in.fn T c_is_integer, m_is_integer_in, A_is_integer_in.fn.kp, bd_is_integer_in⟩
  have c_stands_twice : CalG l.prog w K mg base CX0 1 "stands_twice" spTwice := ⟨f_stands_twice, fd_stands_twice, _, b_stands_twice A_stands_twice.fn T, m_stands_twice, A_stands_twice.fn.kp, bd_stands_twice⟩
  have c_check_spot : CalG l.prog w K mg base (L2.CX l.prog w) 3 "check_spot" (spCkSpot C_InvalidSpot) := ⟨f_check_spot, fd_check_spot, _, b_check_spot A_check_spot.fn T c_is_integer_in k_InvalidSpot, m_check_spot, A_check_spot.fn.kp, bd_check_spot⟩
  have c_longer_results : CalG l.prog w K mg base CX0 1 "longer_results" spLonger := ⟨f_longer_results, fd_longer_results, _, b_longer_results A_longer_results.fn T, m_longer_results, A_longer_results.fn.kp, bd_longer_results⟩
  have c_all_results : CalG l.prog w K mg base CX0 2 "all_results" spResults := ⟨f_all_results, fd_all_results, _, b_all_results A_all_results.fn T c_longer_results, m_all_results, A_all_results.fn.kp, bd_all_results⟩
  have c_kept_ends : CalG l.prog w K mg base CX0 1 "kept_ends" spKept := ⟨f_kept_ends, fd_kept_ends, _, b_kept_ends A_kept_ends.fn T, m_kept_ends, A_kept_ends.fn.kp, bd_kept_ends⟩
  have c_stands_twice_in_one : CalG l.prog w K mg base CX0 2 "stands_twice_in_one" spIn1 := ⟨f_stands_twice_in_one, fd_stands_twice_in_one, _, b_stands_twice_in_one A_stands_twice_in_one.fn T c_stands_twice, m_stands_twice_in_one, A_stands_twice_in_one.fn.kp, bd_stands_twice_in_one⟩
  have c_least_windows : CalG l.prog w K mg base CX0 3 "least_windows" spLeastW := ⟨f_least_windows, fd_least_windows, _, b_least_windows A_least_windows.fn T c_stands_twice_in_one c_kept_ends, m_least_windows, A_least_windows.fn.kp, bd_least_windows⟩
  have c_windows : CalG l.prog w K mg base (L2.CX l.prog w) 4 "windows" (spWins C_InvalidSpot) := ⟨f_windows, fd_windows, _, b_windows A_windows.fn T c_all_results c_least_windows c_check_spot, m_windows, A_windows.fn.kp, bd_windows⟩
  have c_lsigns : CalG l.prog w K mg base CX0 1 "_law_signs" spSigns := ⟨f_lsigns, fd_lsigns, _, b_lsigns A_lsigns.fn T, m_lsigns, A_lsigns.fn.kp, bd_lsigns⟩
  have c_ldraw : CalG l.prog w K mg base CX0 1 "_law_draw" spDraw := ⟨f_ldraw, fd_ldraw, _, b_ldraw A_ldraw.fn T, m_ldraw, A_ldraw.fn.kp, bd_ldraw⟩
  have c_lpen : CalG l.prog w K mg base CX0 1 "_law_pen" (spPen K) := ⟨f_lpen, fd_lpen, _, b_lpen A_lpen.fn T, m_lpen, A_lpen.fn.kp, bd_lpen⟩
  have c_lpick : CalG l.prog w K mg base CX0 2 "_law_pick" (spPick K) := ⟨f_lpick, fd_lpick, _, b_lpick A_lpick.fn T c_ldraw, m_lpick, A_lpick.fn.kp, bd_lpick⟩
  have c_lis_number : CalG l.prog w K mg base CX0 1 "_law_is_number" spNum := ⟨f_lis_number, fd_lis_number, _, b_lis_number A_lis_number.fn T, m_lis_number, A_lis_number.fn.kp, bd_lis_number⟩
  have t_signs : FnT l.prog w K mg base 1 "_law_signs" letS := okT A_lsigns.fn sc_lsigns m_lsigns bd_lsigns rfl
  have c_lfew : CalG l.prog w K mg base CX0 3 "_law_few" spFew := ⟨f_lfew, fd_lfew, _, b_lfew A_lfew.fn T c_lpick t_signs, m_lfew, A_lfew.fn.kp, bd_lfew⟩
  have c_lword : CalG l.prog w K mg base CX0 3 "_law_word" spWord := ⟨f_lword, fd_lword, _, b_lword A_lword.fn T c_ldraw c_lpick, m_lword, A_lword.fn.kp, bd_lword⟩
  have c_lplaces : CalG l.prog w K mg base CX0 1 "_law_places" (spPlaces K) := ⟨f_lplaces, fd_lplaces, _, b_lplaces A_lplaces.fn T, m_lplaces, A_lplaces.fn.kp, bd_lplaces⟩
  have c_lany_value : CalG l.prog w K mg base CX0 3 "_law_any_value" spAny := ⟨f_lany_value, fd_lany_value, _, b_lany_value A_lany_value.fn T c_lpick, m_lany_value, A_lany_value.fn.kp, bd_lany_value⟩
  have c_lntext : CalG l.prog w K mg base CX0 4 "_law_ntext" spNtext := ⟨f_lntext, fd_lntext, _, b_lntext A_lntext.fn T c_ldraw c_lpick c_lword, m_lntext, A_lntext.fn.kp, bd_lntext⟩
  have c_lnonce : CalG l.prog w K mg base CX0 2 "_law_nonce" spNonce := ⟨f_lnonce, fd_lnonce, _, b_lnonce A_lnonce.fn T c_lplaces, m_lnonce, A_lnonce.fn.kp, bd_lnonce⟩
  have c_lnaround : CalG l.prog w K mg base CX0 1 "_law_naround" spAround := ⟨f_lnaround, fd_lnaround, _, b_lnaround A_lnaround.fn T, m_lnaround, A_lnaround.fn.kp, bd_lnaround⟩
  have c_lnleast : CalG l.prog w K mg base CX0 1 "_law_nleast" spLeast := ⟨f_lnleast, fd_lnleast, _, b_lnleast A_lnleast.fn T, m_lnleast, A_lnleast.fn.kp, bd_lnleast⟩
  have c_lnwindows : CalG l.prog w K mg base CX0 3 "_law_nwindows" spNwin := ⟨f_lnwindows, fd_lnwindows, _, b_lnwindows A_lnwindows.fn T c_lnonce c_lnaround c_lnleast, m_lnwindows, A_lnwindows.fn.kp, bd_lnwindows⟩
  have c_lnspot : CalG l.prog w K mg base CX0 3 "_law_nspot" spSpot := ⟨f_lnspot, fd_lnspot, _, b_lnspot A_lnspot.fn T c_ldraw c_lpick, m_lnspot, A_lnspot.fn.kp, bd_lnspot⟩
  have k_windows : CalK l.prog w K mg base (L2.CX l.prog w) 4 "windows" (spWins C_InvalidSpot) ["last", "first", "text"] List.reverse := ⟨f_windows, fd_windows, ["text", "first", "last"], b_windows A_windows.fn T c_all_results c_least_windows c_check_spot, m_windows, A_windows.fn.kp, A_windows.fn.kwb fun _ _ _ _ _ _ us hl => match us, hl with | [_, _, _], _ => rfl, fun _ _ r _ => vals_rev r⟩
  have c_lnrefused : CalH l.prog w K mg base CX0 7 "_law_nrefused" (spRef l.prog w K mg base C_InvalidSpot) := ⟨f_lnrefused, fd_lnrefused, _, b_lnrefused A_lnrefused.fn T k_InvalidSpot (exm_own E_InvalidSpot.T (sub_one o_InvalidSpot o_InvalidSpot)) (kit_type o_InvalidSpot (by decide +kernel)), m_lnrefused, A_lnrefused.fn.kp, bd_lnrefused⟩
  exact b_law F_law T c_lpen c_lfew c_lntext c_lnspot c_lpick c_lnwindows c_lany_value c_ldraw c_lis_number tab c_lnrefused c_windows k_windows
end Vk
set_option Elab.async false
set_option maxRecDepth 100000
set_option linter.all false
open PySem PySem.W PyProof.Rows
set_option maxRecDepth 100000 in
set_option maxHeartbeats 0 in
theorem PySem.Challenge.cw_anchoredits_k49_windows_that_stand_once_holds : PySem.Challenge.rw_anchoredits_k49_windows_that_stand_once.Holds := by
  w_on; o_law; k_headL; (case hw => w_witness2)
  k_fill
  refine Vk.walkXS (l := PySem.Challenge.rw_anchoredits_k49_windows_that_stand_once) (n := 63) (k := 8) (x := "_law_script") (CX := L2.CX0) (sp := Vk.spLaw) ?hi rfl (by decide) rfl ⟨rfl, by decide, by decide⟩ (fun w h Y => PySem.W.kIn_of Y) ?F (fun P0 K H a ns hl hP hS => ⟨a, ns, rfl, hS, hl, hP, fun _ => rfl⟩) (fun _ _ _ _ z => z)
  case hi => first | kernel_rfl | decide +kernel
  case F =>
    intro w mg fa h KX Gr hmg
    obtain ⟨s0, mb, Gr⟩ := Gr
    refine' Vk.all KX Gr.T.g hmg ?e_InvalidSpot ?d_is_integer ?d_is_integer_in ?d_stands_twice ?d_check_spot ?d_longer_results ?d_all_results ?d_kept_ends ?d_stands_twice_in_one ?d_least_windows ?d_windows ?d_lsigns ?d_ldraw ?d_lpen ?d_lpick ?d_lis_number ?d_lfew ?d_lword ?d_lplaces ?d_lany_value ?d_lntext ?d_lnonce ?d_lnaround ?d_lnleast ?d_lnwindows ?d_lnspot ?d_lnrefused ?d_law ?z_str ?z_tuple ?z_enumerate ?z_bool ?z_sum ?z_max ?z_ValueError ?z_reversed ?z_len ?z_list ?z_int ?z_abs ?z_range ?z_min ?z_repr ?z_isinstance ?tb
    (case e_InvalidSpot => as_aux_lemma => (refine' ⟨_, _, _, Vk.exc_mk PySem.VkX.exB_value ?ns ?iC ?cls ?sa ?kC ?ga ?gg ?ex ?hd ?ha ?hn ?ht ?hm ?tI ?kI (Vk.no1 ?n1) ?l ?c⟩; (case ns => k_is); (case iC => k_is); (case cls => k_is); (case sa => k_is); (case kC => k_is); (case ga => k_is); (case gg => k_is); (case ex => k_is); (case hd => k_is); (case ha => k_is); (case hn => k_is); (case ht => k_is); (case hm => k_is); (case tI => k_is); (case kI => k_is); (case n1 => k_is); (case l => k_is); (case c => k_is)))
    (case d_is_integer => as_aux_lemma => (refine' ⟨_, _, Vk.at_mk ?a ?l ?c ?k⟩; (case a => k_is); (case l => k_is); (case c => k_is); (case k => k_is)))
    (case d_is_integer_in => as_aux_lemma => (refine' ⟨_, _, Vk.at_mk ?a ?l ?c ?k⟩; (case a => k_is); (case l => k_is); (case c => k_is); (case k => k_is)))
    (case d_stands_twice => as_aux_lemma => (refine' ⟨_, _, Vk.at_mk ?a ?l ?c ?k⟩; (case a => k_is); (case l => k_is); (case c => k_is); (case k => k_is)))
    (case d_check_spot => as_aux_lemma => (refine' ⟨_, _, Vk.at_mk ?a ?l ?c ?k⟩; (case a => k_is); (case l => k_is); (case c => k_is); (case k => k_is)))
    (case d_longer_results => as_aux_lemma => (refine' ⟨_, _, Vk.at_mk ?a ?l ?c ?k⟩; (case a => k_is); (case l => k_is); (case c => k_is); (case k => k_is)))
    (case d_all_results => as_aux_lemma => (refine' ⟨_, _, Vk.at_mk ?a ?l ?c ?k⟩; (case a => k_is); (case l => k_is); (case c => k_is); (case k => k_is)))
    (case d_kept_ends => as_aux_lemma => (refine' ⟨_, _, Vk.at_mk ?a ?l ?c ?k⟩; (case a => k_is); (case l => k_is); (case c => k_is); (case k => k_is)))
    (case d_stands_twice_in_one => as_aux_lemma => (refine' ⟨_, _, Vk.at_mk ?a ?l ?c ?k⟩; (case a => k_is); (case l => k_is); (case c => k_is); (case k => k_is)))
    (case d_least_windows => as_aux_lemma => (refine' ⟨_, _, Vk.at_mk ?a ?l ?c ?k⟩; (case a => k_is); (case l => k_is); (case c => k_is); (case k => k_is)))
    (case d_windows => as_aux_lemma => (refine' ⟨_, _, Vk.at_mk ?a ?l ?c ?k⟩; (case a => k_is); (case l => k_is); (case c => k_is); (case k => k_is)))
    (case d_lsigns => as_aux_lemma => (refine' ⟨_, _, Vk.at_mk ?a ?l ?c ?k⟩; (case a => k_is); (case l => k_is); (case c => k_is); (case k => k_is)))
    (case d_ldraw => as_aux_lemma => (refine' ⟨_, _, Vk.at_mk ?a ?l ?c ?k⟩; (case a => k_is); (case l => k_is); (case c => k_is); (case k => k_is)))
    (case d_lpen => as_aux_lemma => (refine' ⟨_, _, Vk.at_mk ?a ?l ?c ?k⟩; (case a => k_is); (case l => k_is); (case c => k_is); (case k => k_is)))
    (case d_lpick => as_aux_lemma => (refine' ⟨_, _, Vk.at_mk ?a ?l ?c ?k⟩; (case a => k_is); (case l => k_is); (case c => k_is); (case k => k_is)))
    (case d_lis_number => as_aux_lemma => (refine' ⟨_, _, Vk.at_mk ?a ?l ?c ?k⟩; (case a => k_is); (case l => k_is); (case c => k_is); (case k => k_is)))
    (case d_lfew => as_aux_lemma => (refine' ⟨_, _, Vk.at_mk ?a ?l ?c ?k⟩; (case a => k_is); (case l => k_is); (case c => k_is); (case k => k_is)))
    (case d_lword => as_aux_lemma => (refine' ⟨_, _, Vk.at_mk ?a ?l ?c ?k⟩; (case a => k_is); (case l => k_is); (case c => k_is); (case k => k_is)))
    (case d_lplaces => as_aux_lemma => (refine' ⟨_, _, Vk.at_mk ?a ?l ?c ?k⟩; (case a => k_is); (case l => k_is); (case c => k_is); (case k => k_is)))
    (case d_lany_value => as_aux_lemma => (refine' ⟨_, _, Vk.at_mk ?a ?l ?c ?k⟩; (case a => k_is); (case l => k_is); (case c => k_is); (case k => k_is)))
    (case d_lntext => as_aux_lemma => (refine' ⟨_, _, Vk.at_mk ?a ?l ?c ?k⟩; (case a => k_is); (case l => k_is); (case c => k_is); (case k => k_is)))
    (case d_lnonce => as_aux_lemma => (refine' ⟨_, _, Vk.at_mk ?a ?l ?c ?k⟩; (case a => k_is); (case l => k_is); (case c => k_is); (case k => k_is)))
    (case d_lnaround => as_aux_lemma => (refine' ⟨_, _, Vk.at_mk ?a ?l ?c ?k⟩; (case a => k_is); (case l => k_is); (case c => k_is); (case k => k_is)))
    (case d_lnleast => as_aux_lemma => (refine' ⟨_, _, Vk.at_mk ?a ?l ?c ?k⟩; (case a => k_is); (case l => k_is); (case c => k_is); (case k => k_is)))
    (case d_lnwindows => as_aux_lemma => (refine' ⟨_, _, Vk.at_mk ?a ?l ?c ?k⟩; (case a => k_is); (case l => k_is); (case c => k_is); (case k => k_is)))
    (case d_lnspot => as_aux_lemma => (refine' ⟨_, _, Vk.at_mk ?a ?l ?c ?k⟩; (case a => k_is); (case l => k_is); (case c => k_is); (case k => k_is)))
    (case d_lnrefused => as_aux_lemma => (refine' ⟨_, _, Vk.at_mk ?a ?l ?c ?k⟩; (case a => k_is); (case l => k_is); (case c => k_is); (case k => k_is)))
    (case d_law => as_aux_lemma => (refine' ⟨_, _, _, _, ?a, Vk.makC_mk ?l ?c ?k, Vk.tab_mk ?a2 ?l2 ?zq ?t⟩; (case a => k_is); (case l => k_is); (case c => k_is); (case k => k_is); (case a2 => k_is); (case l2 => k_is); (case zq => exact rfl); (case t => k_is)))
    (case z_str => k_is)
    (case z_tuple => k_is)
    (case z_enumerate => k_is)
    (case z_bool => k_is)
    (case z_sum => k_is)
    (case z_max => k_is)
    (case z_ValueError => k_is)
    (case z_reversed => k_is)
    (case z_len => k_is)
    (case z_list => k_is)
    (case z_int => k_is)
    (case z_abs => k_is)
    (case z_range => k_is)
    (case z_min => k_is)
    (case z_repr => k_is)
    (case z_isinstance => k_is)
    (case tb => (intro c tP ht; refine' Vk.tab_at Gr.T KX ?i ht ?n; (case i => first | kernel_rfl | decide +kernel); (case n => first | kernel_rfl | k_is)))
#print axioms PySem.Challenge.cw_anchoredits_k49_windows_that_stand_once_holds
