import PyProof.Rows.All
import Wide.All
import OpenK.AllK
import Wide.FinOn
import HandS.Base
import HandS.Call
import HandS.List
import HandS.Comp
import HandS.Ends
import HandS.Text
import HandS.Words
import HandS.StrMore
import HandS.ForMost
import HandS.Codes
import HandS.Replace
import HandS.FStrTup
import PyProof.StrBlock2
import HandS.Exc
import HandS.ExcInit
import HandS.ExcIs
import HandS.ExcField
import KE.KExcIs
import HandS.IsInst
import HandS.Zip
import HandS.Nested
import HandS.OwnEq
import HandS.More
import HandS.Star
import HandS.ClsMeth
import HandS.Property
import HandS.Iter
import HandS.Zip0
import KE.GoesMore
import KE.GoesEnum
import HandS.NoneIn
import PyProof.StrLawsRepr
import HandS.EndTab
import HandS.ListEq
import KE.LtData
import PySem.Challenge.RW_anchoredits_k61_exchanges_done_and_refus
import KE.KTryMore
import KE.KRevSl
import HandS.Style
import HandS.TupAny
import HandS.Defaults
import KE.OsRunLaw
set_option Elab.async false
set_option maxRecDepth 100000
set_option linter.all false
namespace Vk
open PySem PySem.Spec PyProof.Rows L2
/-! ## defs that may show values: no guard is under way -/
structure FnG (P : Program) (w : World) (K : PySem.W.Frag) (mg : Str → Option Value) (base : Heap) (CX : CXT) (k : Nat) (f : Addr) (fd : FuncData) (ps : List Str) (sp : Sp) : Prop where
  len : ∀ vs H Q E, sp vs H Q E → vs.length = ps.length
  run : ∀ (A : Around) (outer : List Env) (s : Shared) (H : Hp) (args : Args) (us : List Value) (vs : List V) (Q : VK) (E : XK), A.guards = some [] → Room k A → Env0 P w K mg base A outer s H → BindsTo s fd args (ps.zip us) → Vals vs us → sp vs H Q E →
    codeAny (model P w) A (.call (.ref f) args) (CR CX outer P w H s Q E) s
theorem FnG.of {P : Program} {w : World} {K : PySem.W.Frag} {mg : Str → Option Value} {base : Heap} {CX : CXT} {k : Nat} {f : Addr} {fd : FuncData} {ps : List Str} {sp : Sp} (F : FnOk P w K mg base CX k f fd ps sp) : FnG P w K mg base CX k f fd ps sp :=
  ⟨F.len, fun A outer s H args us vs Q E _ => F.run A outer s H args us vs Q E⟩
section
variable {P : Program} {w : World} {K : PySem.W.Frag} {mg : Str → Option Value} {base : Heap}
theorem okG {CX : CXT} {x qual : Str} {st : Stmt} {f : Addr} {fd : FuncData} {N ps : List Str} {k : Nat} {sp : Sp} (F : Fun K x qual st f fd) (S : FnScope N ps (defScope st)) (hlen : ∀ vs H Q E, sp vs H Q E → vs.length = ps.length)
    (hbody : ∀ (cdv : Value) (A : Around) (outer : List Env) (s : Shared) (H : Hp) (vs : List V) (Q : VK) (E : XK), A.guards = some [] → Room k (A.deeper (envOfC qual (defScope st) s.heap.objs.size f cdv)) → sp vs H Q E →
      ∃ t, PSs (cxOf CX P w K mg base N qual (defScope st) f cdv A outer s H E) (defBody st) t ∧ t { nx := fun _ H' => Q .non H', rt := Q } (start N vs) H) : FnG P w K mg base CX (k + 1) f fd ps sp := by
  obtain ⟨oc, od, kV, doc, pm, an, cdv, ct, osl, rfl, lk, hcd⟩ := F.ex
  refine ⟨hlen, fun A outer s H args us vs Q E hg hr e0 hb r hsp => ?_⟩
  have hvl := hlen _ _ _ _ hsp
  have KX := e0.mod.kin.keeps (fun b o e => (e0.bs b o e).1 : ∀ b o, base.get? b = some o → s.heap.get? b = some o)
  have noLim := e0.mod.nolimit.keeps (fun b o e => (e0.bs b o e).1 : ∀ b o, base.get? b = some o → s.heap.get? b = some o)
  have kinds : ∀ y ∈ ps.zip us, (defScope st).names.lookup y.1 = some .local ∨ ((defScope st).names.lookup y.1 = some .cell ∧ ((cellsFrom (s.heap.objs.size + 1) (defScope st).names []).lookup y.1).isSome = true) := by
    rintro ⟨n, v⟩ hy
    have hy1 := (List.of_mem_zip hy).1
    cases S.par n hy1 with
    | inl q => exact Or.inl q
    | inr q => exact Or.inr (And.intro q (PySem.W.cellsFrom_some _ _ _ (Or.inl q)))
  refine codeAny_call_function hr.depth (KX f _ lk) rfl S.co S.gen rfl (PySem.W.codeRec_of KX hcd) (hb _ _ _ _ (wpAny_newFunctionEnv_cells S.kind kinds fun env he s1 x => ?_))
  cases he
  refine And.intro (noLim.keeps x.toInCall.keep) (codeAny_func ?_)
  obtain ⟨t, ht, hq⟩ := hbody cdv A outer s H vs Q E hg (hr.deeper _) hsp
  have I0 := inv_start (CX := CX) (E := E) S hr.hd e0 hvl r x
  refine wpAny_mono (ht.run [] s1 (start N vs) H _ I0 hq) (fun fl s2 hs => ?_) (fun e s2 hs => hs)
  have close : ∀ {σ2 : L2.St} {H2 : Hp} {v : V} {u : Value}, Inv (cxOf CX P w K mg base N qual (defScope st) f cdv A outer s H E) [] σ2 H2 s2 → RelV v u → Q v H2 → CE outer P w H s Q u s2 := by
    intro σ2 H2 v u J rv q
    exact ⟨v, H2, And.intro J.os (And.intro J.bare (And.intro J.base (And.intro J.hok (And.intro rv q))))⟩
  match fl, hs with
  | .ret u, ⟨v, σ2, H2, J, rv, q⟩ => exact close J rv q
  | .next, ⟨σ2, H2, J, q⟩ => exact close (v := V.non) (u := Value.none) J rfl q
  | .brk, ⟨_, _, _, q⟩ => exact q.elim
  | .cont, ⟨_, _, _, q⟩ => exact q.elim
end
section
variable {P : Program} {w : World} {K : PySem.W.Frag} {mg : Str → Option Value} {base : Heap}
theorem okG0 {x qual : Str} {st : Stmt} {f : Addr} {fd : FuncData} {N ps : List Str} {k : Nat} {sp : Sp} (F : Fun K x qual st f fd) (S : FnScope N ps (defScope st)) (hlen : ∀ vs H Q E, sp vs H Q E → vs.length = ps.length)
    (hbody : ∀ (cdv : Value) (A : Around) (outer : List Env) (s : Shared) (H : Hp) (vs : List V) (Q : VK) (E : XK), A.guards = some [] → Room k (A.deeper (envOfC qual (defScope st) s.heap.objs.size f cdv)) → sp vs H Q E →
      ∃ t, PSs (cxOf CX0 P w K mg base N qual (defScope st) f cdv A outer s H E).nox (defBody st) t ∧ t { nx := fun _ H' => Q .non H', rt := Q } (start N vs) H) : FnG P w K mg base CX0 (k + 1) f fd ps sp :=
  okG F S hlen fun cdv A outer s H vs Q E hg hr hsp => match hbody cdv A outer s H vs Q E hg hr hsp with | ⟨t, h, q⟩ => ⟨t, h.nox, q⟩
end
/-- a def of the module by its name -/
structure CalG (P : Program) (w : World) (K : PySem.W.Frag) (mg : Str → Option Value) (base : Heap) (CX : CXT) (k : Nat) (x : Str) (sp : Sp) : Prop where
  ex : ∃ (f : Addr) (fd : FuncData) (ps : List Str), FnG P w K mg base CX k f fd ps sp ∧ mg x = some (.ref f) ∧ PySem.W.keepIn K (.ref f) = true ∧ Binds K fd ps []
section
variable {X : Cx} {CX : CXT} {j k : Nat} {f : Addr} {fd : FuncData} {ps : List Str} {sp : Sp} {E : XK} {x : Str} {p pos : Pos} {e : Expr} {es : List Expr} {t : TA}
theorem run_fnG {pins : List (Addr × Obj)} {σ : L2.St} {H : Hp} {s : Shared} {Q : VK} {us : List Value} {vs : List V} (F : FnG X.prog X.w X.K X.mg X.base CX k f fd ps sp) (hg : X.A.guards = some []) (hr : Room k X.A) (hb : Binds X.K fd ps []) (hx : Passes CX X E)
    (I : Inv X pins σ H s) (r : Vals vs us) (h : sp vs H Q E) : wpAny (model X.prog X.w) X.A (call (.ref f) us) (EP X pins σ Q) X.xe s := by
  have hl : us.length = ps.length := r.length.symm.trans (F.len _ _ _ _ h)
  have b := hb s us I.kIn ((congrArg List.length (List.append_nil us)).trans hl)
  rw [List.append_nil] at b
  refine wpAny_call (codeAny_mono (F.run X.A X.stack s H ⟨us, []⟩ us vs Q E hg hr I.env0 b r h) (fun res s2 hq => ?_))
  match res, hq with
  | .error e, hq => exact hx pins σ H s e s2 I hq
  | .ok (.ret u), hq => exact I.after hq
  | .ok .next, hq => exact hq.elim
  | .ok .brk, hq => exact hq.elim
  | .ok .cont, hq => exact hq.elim
theorem pe_cG (c : CalG X.prog X.w X.K X.mg X.base CX k x sp) (hg : X.A.guards = some []) (hr : Room j X.A) (hk : k ≤ j) (hx : Passes CX X E) (ha : PA X (e :: es) t) (gl : Gl X x := by rfl)
    (hdb : (x == ("__debug__" : Str)) = false := by decide) (he : starEach (e :: es) X.env = (false, eval e X.env) :: starEach es X.env := by rfl) (hpl : (backTo pos (starEach es X.env)).any (·.1) = false := by rfl) :
    PE X (.Call (.Name x p) (e :: es) [] pos) (tCall sp [] E t) := by
  obtain ⟨f, fd, ps, F, hm, kp, hb⟩ := c.ex
  refine ⟨fun pins s σ H Q I h => wpAny_Call_Name_kw (ld_glob I gl hm (PySem.W.callWith_K (h₀ := X.base) I.ok.mod.kin kp (thn (ha.run pos pins s σ H _ I h) fun us s1 hh => ?_) he hpl) hdb)⟩
  obtain ⟨vs, H1, I1, r, q⟩ := hh
  rw [List.append_nil] at q
  exact ⟨I1.kIn, run_fnG F hg (hr.mono hk) hb hx I1 r q⟩
theorem pe_cG0 (c : CalG X.prog X.w X.K X.mg X.base CX k x sp) (hg : X.A.guards = some []) (hr : Room j X.A) (hk : k ≤ j) (hx : Passes CX X E) (gl : Gl X x := by rfl)
    (hdb : (x == ("__debug__" : Str)) = false := by decide) : PE X (.Call (.Name x p) [] [] pos) (tCall sp [] E tNil) := by
  obtain ⟨f, fd, ps, F, hm, kp, hb⟩ := c.ex
  exact ⟨fun pins s σ H Q I h => wpAny_Call_Name_kw (ld_glob I gl hm (PySem.W.callWith_K0 I.kIn kp (run_fnG (us := []) F hg (hr.mono hk) hb hx I .nil h)) hdb)⟩
end
/-! ## repr -/
section
variable {X : Cx}
theorem call_reprD (hg : X.A.guards = some []) (hu : X.A.units + 64 < cLine) : CallR X (.builtin "repr") (fun xs H Q => ∃ x d, xs = [x] ∧ Dp X.K H x d ∧ d.showable = true ∧ d.hasDict = false ∧ d.depth ≤ 60 ∧ d.shown.length ≤ sizeLine ∧ Q (.str d.shown) H) := by
  intro pins s σ H xs us Q I r h
  obtain ⟨x, d, rfl, hd, hs, hn, hdp, hz, q⟩ := h
  cases r with
  | cons r1 r2 =>
  cases r2
  obtain ⟨as, rd⟩ := Dp.reads I d x _ hd r1
  cases hd with
  | non => cases r1; exact PySem.P.repr_of_none ⟨V.str _, H, I.tok _, ⟨_, rfl⟩, q⟩
  | bl b => cases r1; exact PySem.P.repr_of_bool ⟨V.str _, H, I.tok _, ⟨_, rfl⟩, q⟩
  | int i =>
    obtain ⟨t, rfl⟩ := r1
    exact PySem.P.repr_of_int (of_decide_eq_true hs) ⟨V.str _, H, I.tok _, ⟨_, rfl⟩, q⟩
  | str z =>
    obtain ⟨t, rfl⟩ := r1
    exact PySem.P.repr_of_str ⟨V.str _, H, I.tok _, ⟨_, rfl⟩, q⟩ hz
  | lst h1 h2 =>
    cases r1
    exact repr_of_reads' rd hs (PyData.noDict_hsm hn) hg (by omega) (fun _ _ e => e) (fun h' u tk hk => ⟨V.str _, H, I.kept hk, ⟨u, rfl⟩, q⟩) hz
  | tup h1 h2 =>
    cases r1
    exact repr_of_reads' rd hs (PyData.noDict_hsm hn) hg (by omega) (fun _ _ e => e) (fun h' u tk hk => ⟨V.str _, H, I.kept hk, ⟨u, rfl⟩, q⟩) hz
end
/-! ## the law's own call -/
theorem lawG {P : Program} {w : World} {K : PySem.W.Frag} {mg mb : Str → Option Value} {CX : CXT} {k : Nat} {fa a : Addr} {fd : FuncData} {x : Str} {sp : Sp} {s1 : Shared} {vs : List Value} {ns : List Int}
    (KX : K.In s1.heap) (gns : s1.heap.Ns mainGlobals mg) (bns : s1.heap.Ns builtinsNs mb) (bbt : ∀ x : Str, x ≠ "__name__" → mb x = bootBuiltins x) (nolim : s1.heap.NoLimit) (gens0 : s1.gens = #[])
    (scr : s1.heap.get? a = some { cls := .type "list", data := .seq vs.toArray }) (hints : IntsAre vs ns) (short : ns.length ≤ sizeLine) (room : Room k callerA)
    (F : ∀ base : Heap, K.In base → base.Ns mainGlobals mg → FnG P w K mg base CX k fa fd [x] sp) (bind1 : ∀ (s : Shared) (u : Value), BindsTo s fd ⟨[u], []⟩ [(x, u)])
    (prom : ∀ H : Hp, Only H → SqL K H a (ns.map V.int) → sp [.ref a] H (fun v _ => v = .bl true) fun _ _ _ => False)
    (noX : ∀ H e s2, CX [] H s1 (fun _ _ _ => False) e s2 → False) :
    codeAny (model P w) callerA (.call (.ref fa) ⟨[.ref a], []⟩) (fun r s2 => r = .ok (.ret (.bool true)) ∧ OldK s1.heap s2.heap ∧ s2.os = s1.os ∧ AllBare s2.gens) s1 := by
  have rel := vals_ints hints
  have main : ∀ H : Hp, Only H → SqL K H a (ns.map V.int) → HOk P w H s1.heap → (∀ b u, H b = some u → b = a) → (∀ u, H a = some u → K.lookup a = none) →
      codeAny (model P w) callerA (.call (.ref fa) ⟨[.ref a], []⟩) (fun r s2 => r = .ok (.ret (.bool true)) ∧ OldK s1.heap s2.heap ∧ s2.os = s1.os ∧ AllBare s2.gens) s1 := by
    intro H only seq ok at1 un1
    have dictFree : ∀ {b : Addr} {o : Obj} {es : Array DictEntry} {ep : Nat}, s1.heap.get? b = some o → o.data = .dict es ep → H b = none := by
      intro b o es ep e d
      match q : H b with
      | none => rfl
      | some u =>
        have eb := at1 b u q
        subst eb
        rw [scr] at e
        cases e
        exact nomatch (show Data.seq vs.toArray _ = Data.dict es ep from d)
    have nsAt : ∀ {b : Addr} {m : Str → Option Value}, s1.heap.Ns b m → (hidT s1.heap H).Ns b m := by
      rintro b m ⟨o, es, ep, e, d, r⟩
      exact ⟨o, es, ep, hidT_get e (dictFree e d), d, r⟩
    have inK : K.In (hidT s1.heap H) := by
      intro b o e
      refine hidT_get (KX b o e) ?_
      match q : H b with
      | none => rfl
      | some u =>
        have eb := at1 b u q
        subst eb
        exact nomatch (un1 u q).symm.trans e
    have limAt : (hidT s1.heap H).NoLimit := match nolim with | ⟨mc, h1, h2⟩ => ⟨mc, nsAt h1, h2⟩
    have mod1 : Mod K mg (hidT s1.heap H) := ⟨inK, nsAt gns, ⟨mb, nsAt bns, bbt⟩, limAt⟩
    have start0 : Env0 P w K mg (hidT s1.heap H) callerA [] s1 H := ⟨rfl, mod1, fun b o => of_hidT, Nat.le_of_eq (hidT_size s1.heap H), trivial, (fun b hb => absurd hb (List.not_mem_nil (a := b))), ok, AllBare.of_eq gens0⟩
    refine codeAny_mono ((F _ inK (nsAt gns)).run callerA [] s1 H ⟨[.ref a], []⟩ [.ref a] [.ref a] _ _ rfl room start0 (bind1 s1 (.ref a)) (.cons rfl .nil) (prom H only seq)) ?_
    intro res s2 h
    match res, h with
    | .error e, h => exact (noX H e s2 h).elim
    | .ok .next, h => exact h.elim
    | .ok .brk, h => exact h.elim
    | .ok .cont, h => exact h.elim
    | .ok (.ret u), ⟨v, H2, os, bare, un, ok2, r2, (hv : v = .bl true)⟩ =>
      cases hv
      have hu : u = Value.bool true := r2
      cases hu
      refine ⟨rfl, OldK.of_keep ?_, os, bare⟩
      intro b o e
      match q : H b with
      | none => exact un.keep b o e q (fun z => nomatch z) (fun z => nomatch z)
      | some u =>
        cases only b with
        | inl z => exact nomatch z.symm.trans q
        | inr z =>
          obtain ⟨ob, xs, z⟩ := z
          have c1 := (ok b _ z).1
          have c2 := (ok2 b _ (un.frzs b ob _ z)).1
          exact c2.trans (c1.symm.trans e)
  match hk : K.lookup a with
  | some o =>
    have e := (KX a o hk).symm.trans scr
    cases e
    refine main (fun _ => none) (fun _ => Or.inl rfl) (Or.inr ⟨_, vs.toArray, _, hk, rfl, rfl, rfl, ?_, ?_⟩) (fun b u z => nomatch (show (none : Option HO) = some u from z)) (fun b u z => nomatch (show (none : Option HO) = some u from z)) (fun u z => nomatch (show (none : Option HO) = some u from z))
    · rw [List.size_toArray, hints.length]
      exact short
    · simpa using rel
  | none =>
    refine main (fun b => if b = a then some (.frz { cls := .type "list", data := .seq vs.toArray } (.lst (ns.map V.int))) else none) ?_ (Or.inl (Or.inr ⟨_, if_pos rfl⟩)) ?_ ?_ (fun _ _ => hk)
    · intro b
      by_cases hb : b = a
      · exact Or.inr ⟨_, _, if_pos hb⟩
      · exact Or.inl (if_neg hb)
    · intro b u z
      by_cases hb : b = a
      · subst hb
        have z1 := (if_pos rfl).symm.trans z
        cases z1
        exact ⟨scr, (by rw [List.length_map]; exact short), vs, _, rel, scr⟩
      · exact nomatch (if_neg hb).symm.trans z
    · intro b u z
      by_cases hb : b = a
      · exact hb
      · exact nomatch (if_neg hb).symm.trans z
theorem walkG {l : PySem.W.OpenLaw} {n k : Nat} {q : Program} {loose : List Str} {XP : (Str → Option Value) → Heap → Prop} {YP : World → Heap → Prop} {d : DefRec} {K : Params → PySem.W.Frag} {CX : CXT} {sp : PySem.W.Frag → Sp} {x : Str}
    (hn : l.most = some n) (hn2 : n ≤ sizeLine) (hdf : d.params.defaults = []) (hr : Room k callerA) (hY : ∀ (w : World) (h : Heap), YP w h → (K w.params).In h)
    (F : ∀ (w : World) (mg : Str → Option Value) (fa : Addr) (h : Heap), (K w.params).In h → h.Ns mainGlobals mg → mg d.name = some (.ref fa) →
      ∃ fd : FuncData, (∀ (s : Shared) (u : Value), BindsTo s fd ⟨[u], []⟩ [(x, u)]) ∧ ∀ base : Heap, (K w.params).In base → base.Ns mainGlobals mg → FnG l.prog w (K w.params) mg base CX k fa fd [x] (sp (K w.params)))
    (hsp : ∀ (K : PySem.W.Frag) (H : Hp) (a : Addr) (ns : List Int), ns.length ≤ n → Only H → SqL K H a (ns.map V.int) → sp K [.ref a] H (fun v _ => v = .bl true) fun _ _ _ => False)
    (noX : ∀ (H : Hp) (s : Shared) (e : Value) (s2 : Shared), CX [] H s (fun _ _ _ => False) e s2 → False) : PySem.W.WalkO q loose XP YP l.row.toRowW d [] (fun f vs => PySem.call f vs) := by
  refine Att.attach_call hn hdf ?_
  intro w s0 s1 mg mb fa o pm cd doc a vs ns G Y _ _ _ hmg scr hints hlen gens0
  obtain ⟨fd, hb, hF⟩ := F w mg fa _ (hY w _ Y) G.T.g hmg
  exact lawG (hY w _ Y) G.T.g G.T.b G.T.builtins G.T.nolimit gens0 scr hints (Nat.le_trans hlen hn2) hr hF hb (fun H h1 h2 => hsp _ H a ns hlen h1 h2) (fun H => noX H s1)
end Vk
set_option Elab.async false
set_option maxRecDepth 100000
set_option linter.all false
namespace Vk
open PySem PySem.Spec PyProof.Rows L2
/-! ## what stays -/
/-- all that was tracked stays, but what stands at p -/
def Ext (p : Addr) (H H' : Hp) : Prop := ∀ b o, H b = some o → b ≠ p → H' b = some o
theorem Ext.rfl {p : Addr} {H : Hp} : Ext p H H := fun _ _ h _ => h
theorem Ext.trans {p : Addr} {H H1 H2 : Hp} (a : Ext p H H1) (b : Ext p H1 H2) : Ext p H H2 := fun c o h n => b c o (a c o h n) n
theorem Ext.same {p : Addr} {H H1 : Hp} (a : Same H H1) : Ext p H H1 := fun c o h _ => a c o h
theorem Ext.at {p : Addr} {H : Hp} {o : HO} : Ext p H (upd H p o) := fun c u h n => (upd_ne n).trans h
theorem same_new {H : Hp} {a : Addr} {o : HO} (h : H a = none) : Same H (upd H a o) := fun c u e => (upd_ne (ne_of_none e h)).trans e
theorem Ext.new {p a : Addr} {H : Hp} {o : HO} (h : H a = none) : Ext p H (upd H a o) := .same (same_new h)
theorem Ext.set {p a : Addr} {H H1 : Hp} {o : HO} (x : Ext p H H1) (h : H a = none) : Ext p H (upd H1 a o) := fun c u e n => (upd_ne (ne_of_none e h)).trans (x c u e n)
theorem Ext.none_of {p a : Addr} {H H1 : Hp} (x : Ext p H H1) (hp : a ≠ p) (h : H1 a = none) : H a = none := by
  match q : H a with
  | none => rfl
  | some o => exact nomatch (x a o q hp).symm.trans h
theorem Ext.seqL {K : PySem.W.Frag} {p a : Addr} {H H1 : Hp} {xs : List V} (x : Ext p H H1) (hp : a ≠ p) (h : SqL K H a xs) : SqL K H1 a xs := by
  match h with
  | .inl (.inl e) => exact .inl (.inl (x _ _ e hp))
  | .inl (.inr ⟨o, e⟩) => exact .inl (.inr ⟨o, x _ _ e hp⟩)
  | .inr e => exact .inr e
theorem Ext.seqT {K : PySem.W.Frag} {p a : Addr} {H H1 : Hp} {xs : List V} (x : Ext p H H1) (hp : a ≠ p) (h : SqT K H a xs) : SqT K H1 a xs := by
  match h with
  | .inl (.inl e) => exact .inl (.inl (x _ _ e hp))
  | .inl (.inr ⟨o, e⟩) => exact .inl (.inr ⟨o, x _ _ e hp⟩)
  | .inr e => exact .inr e
theorem up_new {H : Hp} {a b : Addr} {o u : HO} (h : H a = some o) (hb : H b = none) : upd H b u a = some o := same_new hb a o h
/-! ## the pen -/
def penL (c : Addr) (t l : Int) : List (Key × V) := [(.inr "cells", .ref c), (.inr "turn", .int t), (.inr "left", .int l)]
theorem k_ct : ¬ ((Str.ofString "cells") = Str.ofString "turn") := by decide +kernel
theorem k_cl : ¬ ((Str.ofString "cells") = Str.ofString "left") := by decide +kernel
theorem k_tl : ¬ ((Str.ofString "turn") = Str.ofString "left") := by decide +kernel
theorem k_lt : ¬ ((Str.ofString "left") = Str.ofString "turn") := by decide +kernel
theorem pen_cells (c : Addr) (t l : Int) : valV (penL c t l) (Sum.inr "cells" : Key) = some (.ref c) := valV_pos rfl
theorem pen_turn (c : Addr) (t l : Int) : valV (penL c t l) (Sum.inr "turn" : Key) = some (.int t) := (valV_neg (fun e => k_ct (Sum.inr.inj e))).trans (valV_pos rfl)
theorem pen_left (c : Addr) (t l : Int) : valV (penL c t l) (Sum.inr "left" : Key) = some (.int l) := (valV_neg (fun e => k_cl (Sum.inr.inj e))).trans ((valV_neg (fun e => k_tl (Sum.inr.inj e))).trans (valV_pos rfl))
theorem pen_put_turn (c : Addr) (t l u : Int) : putK (penL c t l) (Sum.inr "turn" : Key) (.int u) = penL c u l := by
  unfold putK
  rw [valV_any, pen_turn]
  simp [penL, k_ct, k_lt]
theorem pen_put_left (c : Addr) (t l u : Int) : putK (penL c t l) (Sum.inr "left" : Key) (.int u) = penL c t u := by
  unfold putK
  rw [valV_any, pen_left]
  simp [penL, k_cl, k_tl]
theorem pen_made (c : Addr) (t l : Int) : mergeK [] (penL c t l) = penL c t l := by
  simp [mergeK, penL, putK, k_ct, k_cl, k_tl]
structure Pen (H : Hp) (p c : Addr) (T : Nat) : Prop where
  ex : ∃ (ns : List Int) (t l : Int), H p = some (.dK (penL c t l)) ∧ H c = some (.lst (ns.map V.int)) ∧ ns.length ≤ 63 ∧ 0 ≤ t ∧ t ≤ T ∧ 0 ≤ l
section
variable {H H1 : Hp} {p c a : Addr} {T U : Nat} {o : HO} {xs : List V}
theorem Pen.mono (x : Pen H p c T) (h : T ≤ U) : Pen H p c U := by
  obtain ⟨ns, t, l, h1, h2, h3, h4, h5, h6⟩ := x.ex
  exact ⟨ns, t, l, h1, h2, h3, h4, by omega, h6⟩
theorem Pen.stay (x : Pen H p c T) (s : Same H H1) : Pen H1 p c T := by
  obtain ⟨ns, t, l, h1, h2, r⟩ := x.ex
  exact ⟨ns, t, l, s _ _ h1, s _ _ h2, r⟩
theorem Pen.new (x : Pen H p c T) (h : H a = none) : Pen (upd H a o) p c T := x.stay (same_new h)
theorem Pen.is (x : Pen H p c T) : ∃ t l, H p = some (.dK (penL c t l)) := by
  obtain ⟨ns, t, l, h1, _⟩ := x.ex
  exact ⟨t, l, h1⟩
theorem Pen.ne (x : Pen H p c T) (h : H a = some (.lst xs)) : a ≠ p := by
  obtain ⟨t, l, h1⟩ := x.is
  exact ne_of h h1 (by intro z; cases z)
/-- another thing is changed -/
theorem Pen.set (x : Pen H p c T) (h1 : a ≠ p) (h2 : a ≠ c) : Pen (upd H a o) p c T := by
  obtain ⟨ns, t, l, g1, g2, r⟩ := x.ex
  exact ⟨ns, t, l, (upd_ne h1.symm).trans g1, (upd_ne h2.symm).trans g2, r⟩
/-- a thing that was not there when the pen stood is neither the pen nor its cells -/
theorem Pen.apart (x : Pen H p c T) (h : H a = none) : a ≠ p ∧ a ≠ c := by
  obtain ⟨ns, t, l, g1, g2, r⟩ := x.ex
  exact ⟨(ne_of_none g1 h).symm, (ne_of_none g2 h).symm⟩
end
/-- draw's promise -/
def spDraw : Sp := fun vs H Q _ => ∃ (p c : Addr) (m : Int) (T : Nat), vs = [.ref p, .int m] ∧ 0 < m ∧ m < 1073741824 ∧ Pen H p c T ∧ T < 1000000000 ∧
  ∀ (d : Int) (H' : Hp), 0 ≤ d → d < m → Pen H' p c (T + 1) → Ext p H H' → Q (.int d) H'
def spPen (K : PySem.W.Frag) : Sp := fun vs H Q _ => ∃ (a : Addr) (ns : List Int), vs = [.ref a] ∧ SqL K H a (ns.map V.int) ∧
  ∀ (p c : Addr) (H' : Hp), H p = none → Pen H' p c 0 → Same H H' → Q (.ref p) H'
/-! ## draws' small facts -/
theorem ints_dp {K : PySem.W.Frag} {H : Hp} : ∀ ns : List Int, DpAll K H (ns.map V.int) (ns.map PyData.int)
  | [] => .nil
  | n :: ns => .cons (.int n) (ints_dp ns)
theorem ints_canLay : ∀ ns : List Int, PyData.canLayAll0 (ns.map PyData.int) = true
  | [] => rfl
  | n :: ns => by
    show (PyData.canLay0 (.int n) && PyData.canLayAll0 (ns.map PyData.int)) = true
    rw [ints_canLay ns]
    rfl
theorem ints_depth : ∀ ns : List Int, PyData.depthAll (ns.map PyData.int) = 0
  | [] => rfl
  | n :: ns => by
    show max (PyData.depth (.int n)) (PyData.depthAll (ns.map PyData.int)) = 0
    rw [ints_depth ns]
    rfl
theorem ints_shaped (ns : List Int) : SeqAt.shaped (.list (ns.map PyData.int)) = true := by
  have h1 : PyData.canLay0 (.list (ns.map PyData.int)) = true := ints_canLay ns
  have h2 : PyData.depth (.list (ns.map PyData.int)) = 1 := by
    show PyData.depthAll (ns.map PyData.int) + 1 = 1
    rw [ints_depth]
  unfold SeqAt.shaped
  rw [h1, h2]
  rfl
theorem ints_ne_nil (ns : List Int) : PyData.eqv (.list (ns.map PyData.int)) (.list []) = ns.isEmpty := by
  match ns with
  | [] => rfl
  | n :: r => rfl
theorem get_left {H : Hp} {p c : Addr} {t l : Int} (h : H p = some (.dK (penL c t l))) : DGet H p (.str "left") (some (.int l)) := pen_left c t l ▸ DGet.k (k := Sum.inr "left") h
theorem get_turn {H : Hp} {p c : Addr} {t l : Int} (h : H p = some (.dK (penL c t l))) : DGet H p (.str "turn") (some (.int t)) := pen_turn c t l ▸ DGet.k (k := Sum.inr "turn") h
theorem get_cells {H : Hp} {p c : Addr} {t l : Int} (h : H p = some (.dK (penL c t l))) : DGet H p (.str "cells") (some (.ref c)) := pen_cells c t l ▸ DGet.k (k := Sum.inr "cells") h
theorem put_left {H : Hp} {p c : Addr} {t l u : Int} (h : H p = some (.dK (penL c t l))) : DPut H p (.str "left") (.int u) (upd H p (.dK (penL c t u))) := pen_put_left c t l u ▸ DPut.k (k := Sum.inr "left") h (by show 3 < sizeLine; decide)
theorem put_turn {H : Hp} {p c : Addr} {t l u : Int} (h : H p = some (.dK (penL c t l))) : DPut H p (.str "turn") (.int u) (upd H p (.dK (penL c u l))) := pen_put_turn c t l u ▸ DPut.k (k := Sum.inr "turn") h (by show 3 < sizeLine; decide)
theorem at_mod {α : Type} {xs : List α} {i : Int} (h0 : 0 ≤ i) (h : i < (xs.length : Int)) : ∃ v, atI xs i = some v ∧ v ∈ xs := by
  have hj : i.toNat < xs.length := by omega
  refine ⟨xs[i.toNat], ?_, List.getElem_mem hj⟩
  have e : i = (i.toNat : Int) := by omega
  have q := atI_nat (List.getElem?_eq_getElem hj)
  rw [← e] at q
  exact q
def primes : List Int := [2147483629, 2147483647, 2147483587, 2147483563, 2147483579]
theorem primes_in {v : V} (h : v ∈ primes.map V.int) : ∃ i : Int, v = .int i ∧ 0 < i ∧ i < 2147483648 := by
  obtain ⟨i, hi, e⟩ := List.mem_map.mp h
  refine ⟨i, e.symm, ?_⟩
  have q : ∀ j ∈ primes, 0 < j ∧ j < 2147483648 := by decide
  exact q i hi
end Vk
set_option Elab.async false
set_option maxRecDepth 100000
set_option linter.all false
namespace Vk
open PySem PySem.Spec PyProof.Rows L2
/-! ## a def that returns one written text, and a replace of what it returns (a token is out behind it) -/
structure FnT (P : Program) (w : World) (K : PySem.W.Frag) (mg : Str → Option Value) (base : Heap) (k : Nat) (x : Str) (z : Str) : Prop where
  ex : ∃ f : Addr, mg x = some (.ref f) ∧ PySem.W.keepIn K (.ref f) = true ∧ ∀ (A : Around) (outer : List Env) (s : Shared) (H : Hp) (Q : VK), Room k A → Env0 P w K mg base A outer s H → Q (.str z) H →
    codeAny (model P w) A (.call (.ref f) ⟨[], []⟩) (fun r s2 => 1 ≤ s2.toks ∧ CR CX0 outer P w H s Q E0 r s2) s
section
variable {P : Program} {w : World} {K : PySem.W.Frag} {mg : Str → Option Value} {base : Heap}
theorem okT {x : Str} {st : Stmt} {f : Addr} {fd : FuncData} {z : Str} {j : Nat} {p1 p2 : Pos} (F : Fun K x x st f fd) (S : FnScope [] [] (defScope st)) (hm : mg x = some (.ref f)) (hb : Binds K fd [] [])
    (body : defBody st = [.Return (some (.Constant (.str z) j p1)) p2]) : FnT P w K mg base 1 x z := by
  refine ⟨f, hm, F.kp, ?_⟩
  obtain ⟨oc, od, kV, doc, pm, an, cdv, ct, osl, rfl, lk, hcd⟩ := F.ex
  intro A outer s H Q hr e0 hsp
  have KX := e0.mod.kin.keeps (fun b o e => (e0.bs b o e).1 : ∀ b o, base.get? b = some o → s.heap.get? b = some o)
  have noLim := e0.mod.nolimit.keeps (fun b o e => (e0.bs b o e).1 : ∀ b o, base.get? b = some o → s.heap.get? b = some o)
  refine codeAny_call_function hr.depth (KX f _ lk) rfl S.co S.gen rfl (PySem.W.codeRec_of KX hcd) (hb s [] KX rfl _ _ _ _ (wpAny_newFunctionEnv_cells S.kind (fun y hy => absurd hy (List.not_mem_nil (a := y))) fun env he s1 x0 => ?_))
  cases he
  refine And.intro (noLim.keeps x0.toInCall.keep) (codeAny_func ?_)
  have I0 := inv_start (P := P) (CX := CX0) (E := E0) (us := []) (vs := []) S hr.hd e0 rfl .nil x0
  show wpAny _ _ (execs (defBody st) _) _ _ s1
  rw [body]
  refine wpAny_execs_cons (wpAny_Return_some (Calls.Constant_str ?_))
  exact ⟨Nat.succ_pos _, .str z, H, I0.os, I0.bare, (I0.tok (s1.toks + 1)).base, (I0.tok (s1.toks + 1)).hok, ⟨_, rfl⟩, hsp⟩
end
section
variable {X : Cx} {j k : Nat} {x z y v : Str} {q q2 apos pos c0 c1 : Pos} {j0 j1 : Nat}
theorem pe_replT (c : FnT X.prog X.w X.K X.mg X.base k x z) (hr : Room j X.A) (hk : k ≤ j) (hz : z.length + (z.length + 1) * v.length ≤ 16777216) (hyz : (y == v) = false) (gl : Gl X x := by rfl) (hdb : (x == ("__debug__" : Str)) = false := by decide)
    (hst : starEach [.Constant (.str y) j0 c0, .Constant (.str v) j1 c1] X.env = [(false, eval (.Constant (.str y) j0 c0) X.env), (false, eval (.Constant (.str v) j1 c1) X.env)] := by rfl)
    (hbase : attributeBase (.Call (.Name x q) [] [] q2) "replace" X.env (eval (.Call (.Name x q) [] [] q2) X.env) = eval (.Call (.Name x q) [] [] q2) X.env := by rfl) (hline : (apos.endLine == pos.line) = true := by rfl) :
    PE X (.Call (.Attribute (.Call (.Name x q) [] [] q2) "replace" apos) [.Constant (.str y) j0 c0, .Constant (.str v) j1 c1] [] pos) (fun σ H Q => Q (.str (Txt.replace z y v)) H) := by
  obtain ⟨f, hm, kp, run⟩ := c.ex
  refine ⟨fun pins s σ H Q I h => PySem.Call_method2 (Q := EP X pins σ Q) hbase hst hline (wpAny_mono (Q := fun u s1 => 1 ≤ s1.toks ∧ EP X pins σ (fun w H1 => w = .str z ∧ H1 = H) u s1) ?_ ?_ (fun _ _ e => e))⟩
  · refine wpAny_Call_Name_kw (ld_glob I gl hm (PySem.W.callWith_K0 I.kIn kp (wpAny_call (codeAny_mono (run X.A X.stack s H (fun w H1 => w = .str z ∧ H1 = H) (hr.mono hk) I.env0 ⟨rfl, rfl⟩) fun res s2 hq => ?_))) hdb)
    match res, hq with
    | .error e, hq => exact hq.2.elim
    | .ok (.ret u), hq => exact ⟨hq.1, I.after hq.2⟩
    | .ok .next, hq => exact hq.2.elim
    | .ok .brk, hq => exact hq.2.elim
    | .ok .cont, hq => exact hq.2.elim
  · rintro u s1 ⟨ht, w, H1, I1, r1, rfl, rfl⟩
    obtain ⟨tx, rfl⟩ := r1
    refine ⟨"str", _, PySem.F.plainAttrs_str, PySem.F.slot_str_replace, PySem.F.type_str_replace, typeIs_str _ _ _, (fun _ e => nomatch e), Calls.callWith_builtin rfl (Calls.evalArgs_plain (Calls.spliced_cons (Calls.Constant_str (Calls.spliced_cons (Calls.Constant_str (Calls.spliced_nil ?_))))))⟩
    exact PySem.SC.replace (Nat.ne_of_gt ht) (Nat.succ_ne_zero _) (by show s1.toks ≠ s1.toks + 1; omega) hyz hz fun t' kk => ⟨V.str _, _, I1.tok kk, ⟨t', rfl⟩, h⟩
end
/-! ## options to pick from -/
def OneS (c : Nat) : V := .str ⟨#[c]⟩
inductive Opts (K : PySem.W.Frag) (H : Hp) : V → List V → Prop
  | str (z : Str) (h : z.length ≤ 1000) : Opts K H (.str z) (z.cps.toList.map OneS)
  | lst {a : Addr} {xs : List V} (h : SqL K H a xs) : Opts K H (.ref a) xs
  | tup {a : Addr} {xs : List V} (h : SqT K H a xs) : Opts K H (.ref a) xs
theorem Ext.sqL {K : PySem.W.Frag} {p a : Addr} {H H1 : Hp} {xs : List V} {kvs : List (Key × V)} (x : Ext p H H1) (hp : H p = some (.dK kvs)) (h : SqL K H a xs) : SqL K H1 a xs := by
  match h with
  | .inl (.inl e) => exact .inl (.inl (x _ _ e (ne_of e hp (by intro z; cases z))))
  | .inl (.inr ⟨o, e⟩) => exact .inl (.inr ⟨o, x _ _ e (ne_of e hp (by intro z; cases z))⟩)
  | .inr e => exact .inr e
theorem Ext.sqT {K : PySem.W.Frag} {p a : Addr} {H H1 : Hp} {xs : List V} {kvs : List (Key × V)} (x : Ext p H H1) (hp : H p = some (.dK kvs)) (h : SqT K H a xs) : SqT K H1 a xs := by
  match h with
  | .inl (.inl e) => exact .inl (.inl (x _ _ e (ne_of e hp (by intro z; cases z))))
  | .inl (.inr ⟨o, e⟩) => exact .inl (.inr ⟨o, x _ _ e (ne_of e hp (by intro z; cases z))⟩)
  | .inr e => exact .inr e
theorem Ext.is {p a : Addr} {H H1 : Hp} {xs : List V} {kvs : List (Key × V)} (x : Ext p H H1) (hp : H p = some (.dK kvs)) (h : H a = some (.lst xs)) : H1 a = some (.lst xs) := x _ _ h (ne_of h hp (by intro z; cases z))
theorem Ext.isT {p a : Addr} {H H1 : Hp} {xs : List V} {kvs : List (Key × V)} (x : Ext p H H1) (hp : H p = some (.dK kvs)) (h : H a = some (.tup xs)) : H1 a = some (.tup xs) := x _ _ h (ne_of h hp (by intro z; cases z))
theorem Pen.keepL {K : PySem.W.Frag} {p c a : Addr} {T : Nat} {H H1 : Hp} {xs : List V} (q : Pen H p c T) (x : Ext p H H1) (h : SqL K H a xs) : SqL K H1 a xs := by
  obtain ⟨t, l, hp⟩ := q.is
  exact x.sqL hp h
theorem Pen.keepT {K : PySem.W.Frag} {p c a : Addr} {T : Nat} {H H1 : Hp} {xs : List V} (q : Pen H p c T) (x : Ext p H H1) (h : SqT K H a xs) : SqT K H1 a xs := by
  obtain ⟨t, l, hp⟩ := q.is
  exact x.sqT hp h
theorem Pen.keepI {p c a : Addr} {T : Nat} {H H1 : Hp} {xs : List V} (q : Pen H p c T) (x : Ext p H H1) (h : H a = some (.lst xs)) : H1 a = some (.lst xs) := by
  obtain ⟨t, l, hp⟩ := q.is
  exact x.is hp h
def spPick (K : PySem.W.Frag) : Sp := fun vs H Q _ => ∃ (p c : Addr) (o : V) (xs : List V) (T : Nat), vs = [.ref p, o] ∧ Opts K H o xs ∧ xs ≠ [] ∧ xs.length ≤ 1000 ∧ Pen H p c T ∧ T < 1000000000 ∧
  ∀ (v : V) (H' : Hp), v ∈ xs → Pen H' p c (T + 1) → Ext p H H' → Q v H'
def letS : Str := "\n !\"#$&'()*+,-./0123456789:;<=>?@ABCDEFGHIJKLMNOPQRSTUVWXYZ[\\]^_`abcdefghijklmnopqrstuvwxyz{|}~"
def spSigns : Sp := fun vs H Q _ => vs = [] ∧ Q (.str letS) H
/-- what few gives: one to three letters -/
def Few (z : Str) : Prop := 1 ≤ z.length ∧ z.length ≤ 3 ∧ ∀ c ∈ z.cps.toList, c ∈ letS.cps.toList
def spFew : Sp := fun vs H Q _ => ∃ (p c : Addr) (T : Nat), vs = [.ref p] ∧ Pen H p c T ∧ T + 4 < 1000000000 ∧ ∀ (z : Str) (H' : Hp), Few z → Pen H' p c (T + 4) → Ext p H H' → Q (.str z) H'
/-- a word of the letters of z, a to b of them -/
def Word (z : Str) (a b : Nat) (x : Str) : Prop := a ≤ x.length ∧ x.length ≤ b ∧ ∀ c ∈ x.cps.toList, c ∈ z.cps.toList
def spWord : Sp := fun vs H Q _ => ∃ (p c : Addr) (z : Str) (a b T : Nat), vs = [.ref p, .str z, .int a, .int b] ∧ a ≤ b ∧ b ≤ 100 ∧ 1 ≤ z.length ∧ z.length ≤ 1000 ∧ Pen H p c T ∧ T + 200 < 1000000000 ∧
  ∀ (x : Str) (H' : Hp), Word z a b x → Pen H' p c (T + b + 1) → Ext p H H' → Q (.str x) H'
theorem cut63 (ns : List Int) : ∃ ms : List Int, cutV (ns.map V.int) none (some 63) = ms.map V.int ∧ ms.length ≤ 63 := by
  refine ⟨ns.take 63, ?_, List.length_take_le _ _⟩
  unfold cutV
  rw [HT.sIx_none, show (63 : Int) = ((63 : Nat) : Int) from rfl, HT.sIx_nat, List.drop_zero, Nat.sub_zero, List.map_take, Nat.min_comm, ← List.take_take]
  exact List.take_of_length_le (by rw [List.length_take]; omega)
theorem one_len (z : Str) : (z.cps.toList.map OneS).length = z.length := by
  rw [List.length_map]
  exact Array.length_toList
theorem join_nil : ∀ ls : List (List Nat), TL.joinL [] ls = ls.flatten
  | [] => rfl
  | [p] => by simp [TL.joinL]
  | p :: q :: r => by
    show p ++ ([] ++ TL.joinL [] (q :: r)) = _
    rw [List.nil_append, join_nil (q :: r)]
    rfl
theorem join_ones (cs : List Nat) : Txt.join "" (cs.map fun c => (⟨#[c]⟩ : Str)) = ⟨cs.toArray⟩ := by
  rw [TL.join_eq]
  refine TL.ext_tl ?_
  rw [TL.tl_join]
  refine (join_nil _).trans ?_
  show (List.map TL.tl (cs.map fun c => (⟨#[c]⟩ : Str))).flatten = cs
  rw [List.map_map]
  induction cs with
  | nil => rfl
  | cons c r ih => exact congrArg (c :: ·) ih
theorem ones_len (cs : List Nat) : ((cs.map fun c => (⟨#[c]⟩ : Str)).map (·.length)).sum = cs.length := by
  induction cs with
  | nil => rfl
  | cons c r ih =>
    rw [List.map_cons, List.map_cons, List.sum_cons, ih, List.length_cons]
    show 1 + r.length = r.length + 1
    omega
theorem ones_map (cs : List Nat) : (cs.map fun c => (⟨#[c]⟩ : Str)).map V.str = cs.map OneS := List.map_map
theorem noq_list : (Txt.replace letS "q" "").cps.toList = letS.cps.toList.filter (· != 113) := replace_strikes letS 113
theorem noq_len : (Txt.replace letS "q" "").length = 94 := by
  rw [show (Txt.replace letS "q" "").length = (Txt.replace letS "q" "").cps.toList.length from Array.length_toList.symm, noq_list]
  decide +kernel
theorem noq_in {c : Nat} (h : c ∈ (Txt.replace letS "q" "").cps.toList) : c ∈ letS.cps.toList := by
  rw [noq_list] at h
  exact (List.mem_filter.mp h).1
theorem ones_of {z : Str} {v : V} (h : v ∈ z.cps.toList.map OneS) : ∃ c, v = OneS c ∧ c ∈ z.cps.toList := by
  obtain ⟨c, hc, e⟩ := List.mem_map.mp h
  exact ⟨c, e.symm, hc⟩
theorem opts_ne {z : Str} (h : 1 ≤ z.length) : z.cps.toList.map OneS ≠ [] := fun e => by
  have q := one_len z
  rw [e] at q
  simp at q
  omega
theorem opts_le {z : Str} {n : Nat} (h : z.length ≤ n) : (z.cps.toList.map OneS).length ≤ n := by
  rw [one_len]
  exact h
/-- the fixed choices of few are few -/
theorem few_of {z : Str} (h : (decide (1 ≤ z.length) && decide (z.length ≤ 3) && z.cps.toList.all fun c => decide (c ∈ letS.cps.toList)) = true) : Few z := by
  simp only [Bool.and_eq_true, decide_eq_true_eq, List.all_eq_true] at h
  exact ⟨h.1.1, h.1.2, h.2⟩
theorem few_ones {cs : List Nat} (h1 : 1 ≤ cs.length) (h3 : cs.length ≤ 3) (h : ∀ c ∈ cs, c ∈ letS.cps.toList) : Few ⟨cs.toArray⟩ := ⟨by simpa [Str.length] using h1, by simpa [Str.length] using h3, by simpa using h⟩
/-! ## rules whose written part is named (within a comprehension's block) -/
section
variable {X : Cx} {K : PySem.W.Frag}
theorem ix_seqK (h : X.K = K) : IxR X (rIx K) := h ▸ ix_seq
theorem ix_listK (h : X.K = K) : IxR X (rIxL K) := h ▸ ix_list
theorem ix_tupK (h : X.K = K) : IxR X (rIxT K) := h ▸ ix_tup
theorem op_in_seqK (h : X.K = K) : OpR X (compareOp .In) (rIn K false) := h ▸ op_in_seq
theorem op_notIn_seqK (h : X.K = K) : OpR X (compareOp .NotIn) (rIn K true) := h ▸ op_notIn_seq
theorem sl_listK (h : X.K = K) : SlR X (rSlL K) := h ▸ sl_list
theorem sl_tupK (h : X.K = K) : SlR X (rSlT K) := h ▸ sl_tup
theorem call_lenK (h : X.K = K) : CallR X (.builtin "len") (fun xs H Q => ∃ x n, xs = [x] ∧ LenV K x H n ∧ Q (.int n) H) := h ▸ call_len
theorem op_eqDK (h : X.K = K) (hu : X.A.units + 64 < cLine) : OpR X (compareOp .Eq) (rEqD K) := h ▸ op_eqD hu
theorem op_neDK (h : X.K = K) (hu : X.A.units + 64 < cLine) : OpR X (compareOp .NotEq) (rNeD K) := h ▸ op_neD hu
end
theorem cutV_mem {xs : List V} {lo hi : Option Int} {v : V} (h : v ∈ cutV xs lo hi) : v ∈ xs := List.mem_of_mem_drop (List.mem_of_mem_take h)
theorem cutV_all {xs : List V} {lo hi : Option Int} {f : V → Bool} (h : xs.all f = true) : (cutV xs lo hi).all f = true := List.all_eq_true.mpr fun v hv => List.all_eq_true.mp h v (cutV_mem hv)
theorem ones_flat (cs : List Nat) : (cs.map OneS).all flatV = true := List.all_eq_true.mpr fun v hv => by
  obtain ⟨c, _, rfl⟩ := List.mem_map.mp hv
  rfl
theorem cutV_zero (xs : List V) : cutV xs none (some 0) = [] := by
  unfold cutV
  rw [HT.sIx_none, show (0 : Int) = ((0 : Nat) : Int) from rfl, HT.sIx_nat]
  simp
theorem one_mem {cs : List Nat} {v : V} (h : v ∈ cs.map OneS) : ∃ c, v = OneS c ∧ c ∈ cs := by
  obtain ⟨c, hc, e⟩ := List.mem_map.mp h
  exact ⟨c, e.symm, hc⟩
end Vk
set_option Elab.async false
set_option maxRecDepth 100000
set_option linter.all false
namespace Vk
open PySem PySem.Spec PyProof.Rows L2
/-! ## how long what is shown may be -/
theorem listText_le : ∀ ts : List Str, (listText ts).length ≤ piled ts + 2
  | [] => by decide +kernel
  | t :: r => by
    have h := textFrom_length_pos r 1 (("[" : Str) ++ (if (0 : Nat) > 0 then ", " else "" : String) ++ t) (Nat.succ_pos 0)
    have e : (listText (t :: r)).length = (textFrom 1 (("[" : Str) ++ (if (0 : Nat) > 0 then ", " else "" : String) ++ t) r).length + 1 := strLen_append _ _
    rw [e, h, strLen_append, strLen_append, piled_cons]
    show 1 + 0 + t.length + piled r + 1 ≤ _
    omega
theorem piled_le {ts : List Str} {n : Nat} (h : ∀ t ∈ ts, t.length ≤ n) : piled ts ≤ ts.length * (n + 2) := by
  induction ts with
  | nil => exact Nat.zero_le _
  | cons t r ih =>
    have h1 := h t List.mem_cons_self
    have h2 := ih fun u hu => h u (List.mem_cons_of_mem _ hu)
    rw [piled_cons, List.length_cons, Nat.succ_mul]
    omega
theorem shownAll_map : ∀ ds : List PyData, PyData.shownAll ds = ds.map PyData.shown
  | [] => rfl
  | d :: r => congrArg (d.shown :: ·) (shownAll_map r)
theorem showableAll_iff : ∀ {ds : List PyData}, (∀ d ∈ ds, d.showable = true) → PyData.showableAll ds = true
  | [], _ => rfl
  | d :: r, h => by
    show (d.showable && PyData.showableAll r) = true
    rw [h d List.mem_cons_self, showableAll_iff fun e he => h e (List.mem_cons_of_mem _ he)]
    rfl
theorem hasDictAll_of : ∀ {ds : List PyData}, (∀ d ∈ ds, d.hasDict = false) → PyData.hasDictAll ds = false
  | [], _ => rfl
  | d :: r, h => by
    show (d.hasDict || PyData.hasDictAll r) = false
    rw [h d List.mem_cons_self, hasDictAll_of fun e he => h e (List.mem_cons_of_mem _ he)]
    rfl
theorem depthAll_le : ∀ {ds : List PyData} {n : Nat}, (∀ d ∈ ds, d.depth ≤ n) → PyData.depthAll ds ≤ n
  | [], _, _ => Nat.zero_le _
  | d :: r, n, h => Nat.max_le.mpr ⟨h d List.mem_cons_self, depthAll_le fun e he => h e (List.mem_cons_of_mem _ he)⟩
/-- d may be shown, in at most n signs, at most k deep -/
structure Showy (d : PyData) (k n : Nat) : Prop where
  sh : d.showable = true
  nd : d.hasDict = false
  dp : d.depth ≤ k
  ln : d.shown.length ≤ n
theorem Showy.list {ds : List PyData} {k n : Nat} (h : ∀ d ∈ ds, Showy d k n) : Showy (.list ds) (k + 1) (ds.length * (n + 2) + 2) := by
  refine ⟨showableAll_iff fun d hd => (h d hd).sh, hasDictAll_of fun d hd => (h d hd).nd, Nat.succ_le_succ (depthAll_le fun d hd => (h d hd).dp), ?_⟩
  show (listText (PyData.shownAll ds)).length ≤ _
  rw [shownAll_map]
  have h1 := listText_le (ds.map PyData.shown)
  have h2 := piled_le (ts := ds.map PyData.shown) (n := n) fun t ht => by
    obtain ⟨d, hd, rfl⟩ := List.mem_map.mp ht
    exact (h d hd).ln
  rw [List.length_map] at h2
  omega
theorem Showy.tuple {ds : List PyData} {k n : Nat} (h : ∀ d ∈ ds, Showy d k n) : Showy (.tuple ds) (k + 1) (ds.length * (n + 2) + 2) := by
  refine ⟨showableAll_iff fun d hd => (h d hd).sh, hasDictAll_of fun d hd => (h d hd).nd, Nat.succ_le_succ (depthAll_le fun d hd => (h d hd).dp), ?_⟩
  show (tupleText (PyData.shownAll ds)).length ≤ _
  rw [shownAll_map]
  have h1 := fmt_text (ds.map PyData.shown)
  have h2 := piled_le (ts := ds.map PyData.shown) (n := n) fun t ht => by
    obtain ⟨d, hd, rfl⟩ := List.mem_map.mp ht
    exact (h d hd).ln
  rw [List.length_map] at h2
  omega
theorem Showy.int {i : Int} (h : i.natAbs < 10 ^ 100) : Showy (.int i) 0 101 := by
  have hl : i.natAbs.log2 < 1920 := by
    by_cases h0 : i.natAbs = 0
    · rw [h0]; decide
    · exact (Nat.log2_lt h0).mpr (Nat.lt_of_lt_of_le h (by decide +kernel))
  refine ⟨decide_eq_true hl, rfl, Nat.le_refl _, ?_⟩
  show (Str.ofString (toString i)).length ≤ 101
  rw [PySem.ofString_length]
  exact int_text_length_le10 (k := 100) (by decide) h
theorem Showy.mono {d : PyData} {k k' n n' : Nat} (h : Showy d k n) (h1 : k ≤ k') (h2 : n ≤ n') : Showy d k' n' := ⟨h.sh, h.nd, Nat.le_trans h.dp h1, Nat.le_trans h.ln h2⟩
/-! ## places of words -/
open StrLaws in
theorem find_from (x y : Str) (lo : Nat) (hlo : lo ≤ x.length + 1) :
    ((match Builtin.Str.occurrences x y lo x.length 1 with | i :: _ => (i : Int) | [] => -1) = -1 ∧ ∀ i, lo ≤ i → ¬ At x y x.length i) ∨
    ∃ i : Nat, (match Builtin.Str.occurrences x y lo x.length 1 with | i :: _ => (i : Int) | [] => -1) = (i : Int) ∧ lo ≤ i ∧ At x y x.length i ∧ ∀ k, lo ≤ k → k < i → ¬ At x y x.length k := by
  rw [occ_eq]
  have inr : ∀ i, lo ≤ i → i ≤ x.length → i ∈ List.range' lo (x.length + 1 - lo) := fun i h1 h2 => by
    simp only [List.mem_range'_1]
    omega
  rcases occ_first x y x.length 1 (Nat.le_refl _) (List.range' lo (x.length + 1 - lo)) lo (fun i hi => (List.mem_range'_1.mp hi).1) with ⟨h0, hn⟩ | ⟨pre, a, post, e, h0, ha, hn⟩
  · refine .inl ⟨by rw [h0], fun i hi hA => hn i (inr i hi (Nat.le_trans (Nat.le_add_right _ _) hA.1)) hA⟩
  · refine .inr ⟨a, ?_, ?_, ha, fun k h1 h2 => ?_⟩
    · generalize (forIn (List.range' lo (x.length + 1 - lo)) ((#[] : Array Nat), lo) (occBody x y x.length 1)).run.fst = arr at h0
      have h1 : arr.toList[0]? = some a := by simpa using h0
      match hL : arr.toList with
      | [] => rw [hL] at h1; cases h1
      | b :: t => rw [hL] at h1; simp at h1; rw [h1]
    · exact (List.mem_range'_1.mp (by rw [e]; exact List.mem_append_right _ List.mem_cons_self : a ∈ List.range' lo (x.length + 1 - lo))).1
    · refine hn k ?_
      have hk : k ∈ pre ++ a :: post := by
        rw [← e]
        refine inr k h1 ?_
        have q := ha.1
        omega
      have pw : (pre ++ a :: post).Pairwise (· < ·) := by rw [← e]; exact List.pairwise_lt_range'
      rcases List.mem_append.mp hk with hk | hk
      · exact hk
      · rcases List.mem_cons.mp hk with rfl | hk
        · exact absurd h2 (Nat.lt_irrefl _)
        · have q := (List.pairwise_cons.mp (List.pairwise_append.mp pw).2.1).1 k hk
          omega
def atB (x w : Str) (i : Nat) : Bool := decide (i + w.length ≤ x.length) && Builtin.Str.subAt x w i
theorem atB_iff (x w : Str) (i : Nat) : atB x w i = true ↔ StrLaws.At x w x.length i := by
  unfold atB StrLaws.At
  simp
/-- all places of a word in a text -/
def plc (x w : Str) : List Nat := (List.range (x.length + 1)).filter (atB x w)
theorem filter_more {P : Nat → Bool} {lo m : Nat} (h : lo ≤ m) (hn : ∀ i, lo ≤ i → i < m → P i = false) : (List.range m).filter P = (List.range lo).filter P := by
  induction m with
  | zero => rw [Nat.le_zero.mp h]
  | succ m ih =>
    by_cases e : lo = m + 1
    · rw [e]
    · rw [List.range_succ, List.filter_append, ih (by omega) fun i h1 h2 => hn i h1 (by omega)]
      have q := hn m (by omega) (Nat.lt_succ_self _)
      simp [q]
theorem filter_snoc {P : Nat → Bool} {m : Nat} (h : P m = true) : (List.range (m + 1)).filter P = (List.range m).filter P ++ [m] := by
  rw [List.range_succ, List.filter_append]
  simp [h]
def plcI (x w : Str) : List Int := (plc x w).map Int.ofNat
theorem plc_lt {x w : Str} {i : Nat} (h : i ∈ plc x w) : i ≤ x.length := Nat.le_of_lt_succ (List.mem_range.mp (List.mem_filter.mp h).1)
theorem plc_len (x w : Str) : (plc x w).length ≤ x.length + 1 := Nat.le_trans (List.length_filter_le _ _) (Nat.le_of_eq List.length_range)
theorem plc_showy {x w : Str} (h : x.length ≤ 10000) : Showy (.list ((plcI x w).map PyData.int)) 1 1100000 := by
  refine (Showy.list (k := 0) (n := 101) fun d hd => ?_).mono (Nat.le_refl _) ?_
  · obtain ⟨i, hi, rfl⟩ := List.mem_map.mp hd
    obtain ⟨n, hn, rfl⟩ := List.mem_map.mp hi
    have q := plc_lt hn
    refine Showy.int ?_
    show n < 10 ^ 100
    exact Nat.lt_of_le_of_lt (Nat.le_trans q h) (by decide +kernel)
  · rw [List.length_map]
    unfold plcI
    rw [List.length_map]
    have := plc_len x w
    omega
def spPlaces (K : PySem.W.Frag) : Sp := fun vs H Q _ => ∃ (x w : Str), vs = [.str x, .str w] ∧ x.length ≤ 10000 ∧ w.length ≤ 10000 ∧
  ∀ (a : Addr) (H' : Hp), H a = none → H' a = some (.lst ((plcI x w).map V.int)) → Same H H' → Q (.ref a) H'
/-- the slice of a text at a place -/
theorem cut_at (x w : Str) (k : Nat) (h : k + w.length ≤ x.length) : decide (V.str (cutS x (some (k : Int)) (some ((k : Int) + (w.length : Int)))) = V.str w) = atB x w k := by
  have e : cutS x (some (k : Int)) (some ((k : Int) + (w.length : Int))) = ⟨((x.cps.toList.drop k).take w.length).toArray⟩ := by
    unfold cutS
    rw [show (k : Int) + (w.length : Int) = ((k + w.length : Nat) : Int) by omega, HT.sIx_nat, HT.sIx_nat, Nat.min_eq_left h, Nat.min_eq_left (show k ≤ x.length by omega), show k + w.length - k = w.length by omega]
  rw [e]
  unfold atB
  rw [StrLaws.subAt_eq, decide_eq_true h, Bool.true_and, Bool.eq_iff_iff, decide_eq_true_eq, beq_iff_eq]
  constructor
  · intro q
    have q2 := V.str.inj q
    exact congrArg (fun z : Str => z.cps.toList) q2
  · intro q
    rw [q]
end Vk
set_option Elab.async false
set_option maxRecDepth 100000
set_option linter.all false
namespace Vk
open PySem PySem.Spec PyProof.Rows L2
/-! ## a text some times -/
theorem mulOk {x : Str} {n : Int} (h0 : 0 ≤ n) (h1 : n ≤ 1000000) (h : x.length * n.toNat ≤ 10000000) (hx : x.length ≤ 10000000) : MulOk x n := by
  refine ⟨?_, fun a _ c => ?_, fun _ _ => ?_⟩
  · rw [decide_eq_false (by omega), decide_eq_false (by omega)]
    rfl
  · have hn : 0 < n := by omega
    have q : (10000000 : Int) ≤ (2 ^ 63 - 1) / n := (Int.le_ediv_iff_mul_le hn).mpr (by omega)
    omega
  · unfold Builtin.Str.tooLong sizeLine
    exact decide_eq_false (by omega)
def CMulS (x : Str) (n : Int) : Prop := 0 ≤ n ∧ n ≤ 1000000 ∧ x.length * n.toNat ≤ 10000000 ∧ x.length ≤ 10000000
def rMulS : R2 := fun x y H Q => ∃ (z : Str) (n : Int), x = .str z ∧ y = .int n ∧ CMulS z n ∧ Q (.str (Txt.mul z n)) H
section
variable {X : Cx}
theorem op_mulS : OpR X (binaryOp .Mult) rMulS := by
  intro pins s σ H x y v u Q I rx ry h
  obtain ⟨z, n, rfl, rfl, ⟨h0, h1, h2, h3⟩, q⟩ := h
  obtain ⟨t, rfl⟩ := rx
  obtain ⟨t2, rfl⟩ := ry
  exact SB.mul (mulOk h0 h1 h2 h3) fun t' k => ⟨V.str _, H, I.tok k, ⟨t', rfl⟩, q⟩
end
theorem foldl_cat : ∀ (l : List (Array Nat)) (acc : Array Nat), (l.foldl (· ++ ·) acc).toList = acc.toList ++ (l.map Array.toList).flatten
  | [], acc => by simp
  | a :: r, acc => by
    rw [List.foldl_cons, foldl_cat r]
    simp
theorem mul_list (x : Str) (n : Int) (h : 0 ≤ n) : (Txt.mul x n).cps.toList = (List.replicate n.toNat x.cps.toList).flatten := by
  unfold Txt.mul
  split
  · rw [show n.toNat = 0 by omega]
    rfl
  · split
    · rename_i h1 h2
      rw [Bool.or_eq_true] at h2
      rcases h2 with h2 | h2
      · rw [show n = 1 from eq_of_beq h2]
        simp
      · have e : x.cps.toList = [] := List.eq_nil_of_length_eq_zero (Array.length_toList.trans (eq_of_beq h2))
        rw [e]
        simp
    · show ((List.replicate n.toNat x.cps).foldl (· ++ ·) #[]).toList = _
      rw [foldl_cat, List.map_replicate]
      rfl
theorem len_list (x : Str) : x.length = x.cps.toList.length := Array.length_toList.symm
theorem mul_len (x : Str) (n : Int) (h : 0 ≤ n) : (Txt.mul x n).length = n.toNat * x.length := by
  rw [len_list, mul_list x n h, len_list x]
  simp [List.length_flatten]
/-! ## a def called by keywords alone -/
structure CalK (P : Program) (w : World) (K : PySem.W.Frag) (mg : Str → Option Value) (base : Heap) (CX : CXT) (k : Nat) (x : Str) (sp : Sp) (ks : List Str) (g : {α : Type} → List α → List α) : Prop where
  ex : ∃ (f : Addr) (fd : FuncData) (ps : List Str), FnG P w K mg base CX k f fd ps sp ∧ mg x = some (.ref f) ∧ PySem.W.keepIn K (.ref f) = true ∧
    (∀ (s : Shared) (ws : List Value), K.In s.heap → ws.length = ks.length → BindsTo s fd ⟨[], ks.zip ws⟩ (ps.zip (g ws))) ∧ ∀ (vs : List V) (ws : List Value), Vals vs ws → vs.length = ks.length → Vals (g vs) (g ws)
def tCallW (n : Nat) (sp : Sp) (g : {α : Type} → List α → List α) (E : XK) (t : TA) : TE := fun σ H Q => t σ H fun vs H1 => vs.length = n ∧ sp (g vs) H1 Q E
section
variable {X : Cx} {CX : CXT} {j k : Nat} {sp : Sp} {E : XK} {x : Str} {p pos : Pos} {kws : List Keyword} {tk : TA} {ks : List Str} {g : {α : Type} → List α → List α}
theorem pe_kw (c : CalK X.prog X.w X.K X.mg X.base CX k x sp ks g) (hg : X.A.guards = some []) (hr : Room j X.A) (hk : k ≤ j) (hx : Passes CX X E) (hkw : PK X kws tk) (gl : Gl X x := by rfl)
    (hall : (backToKw pos (keywordEach kws X.env)).all (·.1.isSome) = true := by rfl) (hks : (backToKw pos (keywordEach kws X.env)).filterMap (·.1) = ks := by rfl) (hdb : (x == ("__debug__" : Str)) = false := by decide)
    (hpl : ((backTo pos (starEach [] X.env)).any (·.1) || (backToKw pos (keywordEach kws X.env)).any (·.1.isNone)) = false := by rfl) :
    PE X (.Call (.Name x p) [] kws pos) (tCallW ks.length sp g E tk) := by
  obtain ⟨f, fd, ps, F, hm, kp, hb, hv⟩ := c.ex
  refine ⟨fun pins s σ H Q I h => wpAny_Call_Name_kw (ld_glob I gl hm (PySem.W.callWith_KW0 (h₀ := X.base) I.ok.mod.kin kp hall (thn (hkw.run pos pins s σ H _ I h) fun ws s2 hh => ?_) hpl) hdb)⟩
  obtain ⟨vs, H2, I2, rz, l2, q2⟩ := hh
  refine ⟨I2.kIn, ?_⟩
  rw [hks]
  refine wpAny_call (codeAny_mono (F.run X.A X.stack s2 H2 ⟨[], ks.zip ws⟩ (g ws) (g vs) Q E hg (hr.mono hk) I2.env0 (hb s2 ws I2.kIn (rz.length.symm.trans l2)) (hv vs ws rz l2) q2) (fun res s3 hq => ?_))
  match res, hq with
  | .error e, hq => exact hx pins σ H2 s2 e s3 I2 hq
  | .ok (.ret u), hq => exact I2.after hq
  | .ok .next, hq => exact hq.elim
  | .ok .brk, hq => exact hq.elim
  | .ok .cont, hq => exact hq.elim
end
theorem vals_rev : ∀ {vs : List V} {ws : List Value}, Vals vs ws → Vals vs.reverse ws.reverse
  | _, _, .nil => .nil
  | _, _, .cons r t => by
    rw [List.reverse_cons, List.reverse_cons]
    exact (vals_rev t).append (.cons r .nil)
theorem ints_can (ns : List Int) : PyData.canLay0 (.list (ns.map PyData.int)) = true := ints_canLay ns
/-! ## a def of the text as the head leaves it -/
structure At (K : PySem.W.Frag) (x : Str) (st : Stmt) (f : Addr) (fd : FuncData) : Prop where
  ns : PySem.W.nsIn K mainGlobals x = some (some (.ref f))
  fn : Fun K x x st f fd
theorem at_mk {K : PySem.W.Frag} {x : Str} {st : Stmt} {f : Addr} {oc : Value} {od an : Option Addr} {sl : Array (Option Value)} {kV doc pm cd ct : Value} (a : PySem.W.nsIn K mainGlobals x = some (some (.ref f)))
    (l : K.lookup f = some ⟨oc, od, .func (PySem.W.fnOf x x (defArgs st) (defBody st) (defScope st) .none kV doc pm an cd ct), sl⟩) (c : PySem.W.codeIn K cd x = true) (k : PySem.W.keepIn K (.ref f) = true) :
    At K x st f (PySem.W.fnOf x x (defArgs st) (defBody st) (defScope st) .none kV doc pm an cd ct) := ⟨a, fun_mk l c k⟩
section
variable {K : PySem.W.Frag} {x y qual : Str} {st : Stmt} {f : Addr} {fd : FuncData} {ps ks : List Str} {g : List Value → List Value}
theorem _root_.L2.Fun.kwb (F : Fun K x qual st f fd)
    (h : ∀ (kV doc pm : Value) (an : Option Addr) (cdv ct : Value) (ws : List Value), ws.length = ks.length → bindArgs (PySem.W.fnOf x qual (defArgs st) (defBody st) (defScope st) .none kV doc pm an cdv ct) ⟨[], ks.zip ws⟩ = pure (ps.zip (g ws))) :
    ∀ (s : Shared) (ws : List Value), K.In s.heap → ws.length = ks.length → BindsTo s fd ⟨[], ks.zip ws⟩ (ps.zip (g ws)) := by
  obtain ⟨oc, od, kV, doc, pm, an, cdv, ct, osl, rfl, lk, hcd⟩ := F.ex
  exact fun s ws _ hl => .of_eq (h kV doc pm an cdv ct ws hl)
theorem _root_.L2.Fun.binds1 (F : Fun K x qual st f fd)
    (h : ∀ {kV doc pm : Value} {an : Option Addr} {cdv ct : Value} {v : Value}, bindArgs (PySem.W.fnOf x qual (defArgs st) (defBody st) (defScope st) .none kV doc pm an cdv ct) ⟨[v], []⟩ = pure [(y, v)]) :
    ∀ (s : Shared) (v : Value), BindsTo s fd ⟨[v], []⟩ [(y, v)] := by
  obtain ⟨oc, od, kV, doc, pm, an, cdv, ct, osl, rfl, lk, hcd⟩ := F.ex
  exact fun s v => .of_eq h
end
end Vk
set_option Elab.async false
set_option maxRecDepth 100000
set_option maxHeartbeats 4000000
set_option linter.all false
namespace PySem
namespace VkX
open PySem.W PySem.Calls PyProof.Rows Builtin Builtin.ObjectAttr PySem.HandSPX
/-! ## own exception classes straight below one of the four -/
structure ExB (B newId initId : String) (tl : List Value) : Prop where
  F : ExcBaseFacts B newId initId tl
  pass : ∀ self : Value, refuseLoop self "__setattr__" tl = pure ()
  obj : tl.contains (.type "object") = true
  refs : tl.all (fun v => match v with | .type _ => true | _ => false) = true
theorem exB_value : ExB "ValueError" "ValueError.__new__" "ValueError.__init__" [.type "ValueError", .type "Exception", .type "BaseException", .type "object"] := ⟨F.excBase_ValueError, fun _ => by kernel_rfl, by decide +kernel, rfl⟩
theorem exB_lookup : ExB "LookupError" "LookupError.__new__" "LookupError.__init__" [.type "LookupError", .type "Exception", .type "BaseException", .type "object"] := ⟨F.excBase_LookupError, fun _ => by kernel_rfl, by decide +kernel, rfl⟩
theorem exB_overflow : ExB "OverflowError" "OverflowError.__new__" "OverflowError.__init__" [.type "OverflowError", .type "ArithmeticError", .type "Exception", .type "BaseException", .type "object"] := ⟨F.excBase_OverflowError, fun _ => by kernel_rfl, by decide +kernel, rfl⟩
theorem exB_runtime : ExB "RuntimeError" "RuntimeError.__new__" "RuntimeError.__init__" [.type "RuntimeError", .type "Exception", .type "BaseException", .type "object"] := ⟨F.excBase_RuntimeError, fun _ => by kernel_rfl, by decide +kernel, rfl⟩
section
variable {M : Model} {A : Around} {E : Value → Shared → Prop} {h : Heap} {g : Array GenState} {d : Drawn} {t : Nat} {os : OsState}
variable {nm q : Str} {C N : Addr} {bs bm : List Value} {hdct : Bool} {sn : List Str} {sub : List Value} {ab : Bool} {col : Option Bool} {dd : Option Addr} {k0 k1 k2 k3 k5 : Option Value} {B newId initId : String}
theorem check_newK (F : ExcBaseFacts B newId initId bm) {rest : List Value} {kw : List (Str × Value)} {Q : Unit → Shared → Prop} (hC : h.get? C = some (excClassObj nm q C N bs bm hdct sn sub ab col dd k0 k1 k2 k3 k5 newId))
    (hq : Q () ⟨h, g, d, t, os⟩) : wpAny M A (checkBuiltinCall newId ⟨.ref C :: rest, kw⟩) Q E ⟨h, g, d, t, os⟩ := by
  have inB : (Value.ref C :: bm).contains (.type B) = true := by rw [List.contains_cons, F.hasB, Bool.or_true]
  have star := F.noStar
  simp only [checkBuiltinCall, F.newKind, F.newSplit, F.newRow]
  repeat (first | refine wpAny_loadPart_at hC ?_ | (refine wpAny_isSubtype_exc hC ?_; rw [inB]) | refine wpAny_staticBase_exc hC ?_ | refine wpAny_madeBy_exc hC ?_ | simp only [bne_self_eq_false, Bool.false_eq_true, if_false] | wp_step)
  exact hq
end
section
variable {prog : Program} {w : World} {A : Around} {E : Value → Shared → Prop} {R : Result → Shared → Prop} {h : Heap} {g : Array GenState} {d : Drawn} {t : Nat} {os : OsState}
variable {nm q : Str} {C N : Addr} {bs bm : List Value} {hdct : Bool} {sn : List Str} {sub : List Value} {ab : Bool} {col : Option Bool} {dd : Option Addr} {k0 k1 k2 k3 k5 : Option Value} {B newId initId : String}
theorem new_ownK (F : ExcBaseFacts B newId initId bm) {rest : List Value} {kw : List (Str × Value)} (hC : h.get? C = some (excClassObj nm q C N bs bm hdct sn sub ab col dd k0 k1 k2 k3 k5 newId))
    (hq : R (.ok (.ret (.ref (h.objs.size + 1)))) ⟨(h.push (W.kdv_tup rest)).push (excO C h.objs.size), g, d, t, os⟩) (hrest : rest.length ≤ sizeLine) :
    codeAny (model prog w) A (.builtin newId ⟨.ref C :: rest, kw⟩) R ⟨h, g, d, t, os⟩ := by
  have fends := F.ends
  have cB : (Value.ref C :: bm).contains (.type B) = true := by rw [List.contains_cons, F.hasB, Bool.or_true]
  have cA : (Value.ref C :: bm).contains (.type "AttributeError") = false := by rw [List.contains_cons, F.noAttr]; rfl
  have cN : (Value.ref C :: bm).contains (.type "NameError") = false := by rw [List.contains_cons, F.noName]; rfl
  refine codeAny_builtinAt F.entry ?_
  unfold Builtin.«BaseException.__new__»
  refine wpAt_bind (show wpAt _ _ _ (stack >>= _) _ _ _ from wpAt_bind (wpAt_stack fun p below => wpAt_of_wpAny ?_))
  wp_walk
  refine wpAt_of_wpAny ?_
  rw [F.owner]
  repeat (first | with_reducible refine wpAny_madeHere_exc F.canon hC ?_ | with_reducible refine wpAny_loadPart_at hC ?_ | (with_reducible refine wpAny_isSubtype_exc hC ?_; first | rw [cB] | rw [cA] | rw [cN]) | wp_step)
  exact (show R _ _ by rw [Heap.size_push]; exact hq)
theorem check_callK {M : Model} {rest : List Value} {kw : List (Str × Value)} {Q : Unit → Shared → Prop} (hC : h.get? C = some (excClassObj nm q C N bs bm hdct sn sub ab col dd k0 k1 k2 k3 k5 newId)) (hq : Q () ⟨h, g, d, t, os⟩) : wpAny M A (checkBuiltinCall "type.__call__" ⟨.ref C :: rest, kw⟩) Q E ⟨h, g, d, t, os⟩ := by
  have own := tc_sub
  have typed : (⟨h, g, d, t, os⟩ : Shared).TypeIs (.ref C) "type" := ⟨_, hC, rfl⟩
  simp only [checkBuiltinCall, tc_kind, tc_split]
  repeat (any_goals (first | assumption | with_reducible refine wpAny_loadPart_at hC ?_ | with_reducible refine wpAny_onRaise ?_ | with_reducible refine wpAny_map ?_ | wp_step))
theorem type_callK (F : ExcBaseFacts B newId initId bm) {rest : List Value} {kw : List (Str × Value)} {fI : Addr} {Q : Fin → Shared → Prop} (hC : h.get? C = some (excClassObj nm q C N bs bm hdct sn sub ab col dd k0 k1 k2 k3 k5 newId))
    (hi : W.Looks (model prog w) h (typeLookup (.ref C) "__init__") (some (.ref fI))) (hb : ∀ self, W.Looks (model prog w) h (bindSpecial (.ref fI) self) (.ref fI, [self])) (hrest : rest.length ≤ sizeLine)
    (hq : codeAny (model prog w) A (.call (.ref fI) ⟨.ref (h.objs.size + 1) :: rest, kw⟩)
      (fun r s' => match r with | .ok (.ret v) => v = .none ∧ Q (.done (.ret (.ref (h.objs.size + 1)))) s' | .ok _ => False | .error e => E e s')
      ⟨(h.push (W.kdv_tup rest)).push (excO C h.objs.size), g, d, t, os⟩) :
    wpAny (model prog w) A (Builtin.«type.__call__» ⟨.ref C :: rest, kw⟩) Q E ⟨h, g, d, t, os⟩ := by
  repeat (first | with_reducible refine wpAny_loadPart_at hC ?_ | with_reducible refine wpAny_madeBy_exc hC ?_ | wp_step)
  refine codeAny_call_builtin_code (Code.quiet_builtin _ F.quiet) (check_newK F hC (new_ownK F hC (show wpAny _ _ _ _ _ _ from ?_) hrest))
  have kp : ∀ b o, h.get? b = some o → ((h.push (W.kdv_tup rest)).push (excO C h.objs.size)).get? b = some o := fun b o e => Heap.get?_push_of_some _ (Heap.get?_push_of_some _ e)
  have hC1 := kp _ _ hC
  have made : ((h.push (W.kdv_tup rest)).push (excO C h.objs.size)).get? (h.objs.size + 1) = some (excO C h.objs.size) := by heap_get
  have self1 : (Value.ref C :: bm).contains (.ref C) = true := by simp
  have looked := hi.keeps kp
  have bound := (hb (.ref (h.objs.size + 1))).keeps kp
  unfold isInstance
  repeat (first | with_reducible refine wpAny_loadPart_at made ?_ | (with_reducible refine wpAny_isSubtype_exc hC1 ?_; rw [self1]) | wp_step)
  refine (show wpAny _ _ (typeLookup (.ref C) _) _ _ _ from looked.at (wpAny_holding (wpAny_bind (bound.at (wpAny_bind (wpAny_call (codeAny_mono hq fun res s2 z => ?_)))))))
  match res, z with
  | .error e, z => exact z
  | .ok (.ret v), z =>
    obtain ⟨rfl, z⟩ := z
    first
      | exact wpAny_pure (wpAny_pure z)
      | (wp_walk; exact z)
  | .ok .next, z => exact z.elim
  | .ok .brk, z => exact z.elim
  | .ok .cont, z => exact z.elim
theorem call_ownK (F : ExcBaseFacts B newId initId bm) {rest : List Value} {kw : List (Str × Value)} {fI : Addr} (hC : h.get? C = some (excClassObj nm q C N bs bm hdct sn sub ab col dd k0 k1 k2 k3 k5 newId))
    (hi : W.Looks (model prog w) h (typeLookup (.ref C) "__init__") (some (.ref fI))) (hb : ∀ self, W.Looks (model prog w) h (bindSpecial (.ref fI) self) (.ref fI, [self])) (hrest : rest.length ≤ sizeLine)
    (hq : codeAny (model prog w) (A.under (.builtin "type.__call__" ⟨.ref C :: rest, kw⟩)) (.call (.ref fI) ⟨.ref (h.objs.size + 1) :: rest, kw⟩) (W.InitBack (h.objs.size + 1) R)
      ⟨(h.push (W.kdv_tup rest)).push (excO C h.objs.size), g, d, t, os⟩) :
    codeAny (model prog w) A (.call (.ref C) ⟨rest, kw⟩) R ⟨h, g, d, t, os⟩ := by
  have l1 := tc_lookup
  have l2 := tc_bind (.ref C)
  have hTy : (⟨h, g, d, t, os⟩ : Shared).TypeIs (.ref C) "type" := ⟨_, hC, rfl⟩
  refine codeAny_of_tree (show wpAny _ _ (callAny (.ref C) _) _ _ _ from ?_)
  repeat (any_goals (first | assumption | with_reducible refine wpAny_loadPart_at hC ?_ | wp_step))
  refine ⟨rfl, codeAny_call_builtin_at (Code.quiet_builtin _ (by decide +kernel)) entry_typeCall (check_callK hC (type_callK F hC hi hb hrest (codeAny_mono hq fun res s2 z => ?_)))⟩
  match res, z with
  | .error e, z => exact z
  | .ok (.ret v), z => exact z
  | .ok .next, z => exact z.elim
  | .ok .brk, z => exact z.elim
  | .ok .cont, z => exact z.elim
end
end VkX
end PySem
set_option Elab.async false
set_option maxRecDepth 100000
set_option maxHeartbeats 4000000
set_option linter.all false
namespace PySem
namespace VkX
open PySem.W PySem.Calls PyProof.Rows Builtin Builtin.ObjectAttr PySem.HandSPX
section
variable {prog : Program} {w : World} {A : Around} {E : Value → Shared → Prop} {R : Result → Shared → Prop} {hp : Heap} {g : Array GenState} {d : Drawn} {t : Nat} {os : OsState}
/-- object.__setattr__ on an exception of an own class, up to the store into its own dict -/
theorem osa_way {K : Frag} {name : Str} {tk : Tok} {v : Value} {x C : Addr} {ox : Obj} {od : Option Obj} {cd : ClassData} {B newId initId : String} {tl : List Value} (hB : ExB B newId initId tl)
    (X : K.In hp) (I : InstAt hp x ox C od) (hcd : clsIn K C = some cd) (hm : cd.mro = .ref C :: tl) (ha : findIn K (.ref C) name = some none)
    (hq : wpAny (model prog w) (A.under (.builtin "object.__setattr__" ⟨[.ref x, .str name tk, v], []⟩)) (storeInOwnDict (.ref x) (.ref C) (.str name tk) name v false)
      (fun fin s2 => match fin with | .done f => R (.ok f) s2 | .again c2 => c2.quiet = true ∧ codeAny (model prog w) A c2 R s2) (fun e s2 => R (.error e) s2) ⟨hp, g, d, t, os⟩) :
    codeAny (model prog w) A (.call (.builtin "object.__setattr__") ⟨[.ref x, .str name tk, v], []⟩) R ⟨hp, g, d, t, os⟩ := by
  have slot := F.store_object
  have some1 : cd.mro.isEmpty = false := by rw [hm]; rfl
  have obj1 : cd.mro.contains (.type "object") = true := by rw [hm, List.contains_cons, hB.obj, Bool.or_true]
  have within : Looks (model prog w) hp (isInstance (.ref x) (.type "object")) true := I.type.andThen (looks_mroIn X (by unfold mroIn; rw [hcd, Option.bind_some, if_neg (by rw [some1]; decide), obj1]))
  refine codeAny_call_builtin slot.slot.plain slot.entry (@check_slot (model prog w) _ _ ⟨hp, g, d, t, os⟩ "object.__setattr__" "object" "__setattr__" (.ref x) [.str name tk, v] [] _ slot.kind slot.split within (slot.args (.ref x) (.str name tk) v) ?_)
  have line : Looks (model prog w) hp (mroOf (.ref C)) cd.mro := (looks_clsIn X hcd).andThen .now
  rw [osa_eq, refuse_eq]
  refine wpAny_bind (wpAny_bind (I.type.at (wpAny_bind (line.at ?_))))
  rw [hm, refuseLoop_ref, hB.pass]
  exact wpAny_pure (wpAny_bind (I.type.at (wpAny_bind ((looks_findIn X ha).at (wpAny_bind ((show Looks (model prog w) hp (storeTaker? none) none from .now).at hq))))))
theorem osa_first {K : Frag} {name : Str} {tk : Tok} {v : Value} {x C : Addr} {fv : Array Value} {cd : ClassData} {B newId initId : String} {tl : List Value} (hB : ExB B newId initId tl)
    (X : K.In hp) (hx : hp.get? x = some { cls := .ref C, data := .fields fv }) (hcd : clsIn K C = some cd) (hm : cd.mro = .ref C :: tl) (hd : cd.hasDict = true) (ha : findIn K (.ref C) name = some none)
    (hq : ∀ h2 tk2 dx, (∀ b o, b ≠ x → hp.get? b = some o → h2.get? b = some o) → hp.objs.size ≤ dx → dx ≠ x → h2.get? x = some { cls := .ref C, dict := some dx, data := .fields fv } →
      h2.Ns1 dx (fun y => if y = name then some v else none) → R (.ok (.ret .none)) ⟨h2, g, d, tk2, os⟩) :
    codeAny (model prog w) A (.call (.builtin "object.__setattr__") ⟨[.ref x, .str name tk, v], []⟩) R ⟨hp, g, d, t, os⟩ := by
  refine osa_way hB X (ox := { cls := .ref C, data := .fields fv }) (od := none) ⟨hx, rfl, rfl, trivial⟩ hcd hm ha ?_
  have far : x ≠ hp.objs.size := Nat.ne_of_lt (Heap.lt_size hx)
  have whole : Looks (model prog w) hp (classData C) cd := looks_clsIn X hcd
  obtain ⟨c1, c2, c3, c4, c5, c6, c7, c8, c9, c10, c11⟩ := cd
  cases (show c6 = true from hd)
  unfold storeInOwnDict ownDictForStores
  repeat (first | with_reducible refine store_in_new ?_ ?_ | with_reducible refine wpAny_loadPart_at hx ?_ | with_reducible refine whole.at ?_ | wp_step)
  · exact ⟨_, #[], _, (Heap.get?_update_ne _ _ _ _ far.symm).trans (Heap.get?_push_at rfl rfl), rfl, fun e he => absurd he (by simp), fun _ => rfl⟩
  · intro h2 tk2 ns same
    have there : (hp.push { cls := .type "dict", data := .dict #[] }).get? x = some { cls := .ref C, data := .fields fv } := Heap.get?_push_of_some _ hx
    exact hq h2 tk2 hp.objs.size (fun b o hb ho => (same.2 b (Nat.ne_of_lt (Heap.lt_size ho))).trans ((Heap.get?_update_ne _ _ _ _ hb).trans (Heap.get?_push_of_some _ ho))) (Nat.le_refl _) far.symm
      ((same.2 x far).trans (Heap.get?_update_self _ there rfl)) ns
theorem osa_next {K : Frag} {name : Str} {tk : Tok} {v : Value} {x C dx : Addr} {fv : Array Value} {cd : ClassData} {m0 : Str → Option Value} {nl : List Str} {B newId initId : String} {tl : List Value} (hB : ExB B newId initId tl)
    (X : K.In hp) (hx : hp.get? x = some { cls := .ref C, dict := some dx, data := .fields fv }) (hns : hp.Ns1 dx m0) (hw : Within m0 nl) (hz : nl.length ≤ 1000) (hcd : clsIn K C = some cd) (hm : cd.mro = .ref C :: tl) (hd : cd.hasDict = true) (ha : findIn K (.ref C) name = some none)
    (hq : ∀ h2 tk2, (∀ b o, b ≠ dx → hp.get? b = some o → h2.get? b = some o) → h2.Ns1 dx (fun y => if y = name then some v else m0 y) → R (.ok (.ret .none)) ⟨h2, g, d, tk2, os⟩) :
    codeAny (model prog w) A (.call (.builtin "object.__setattr__") ⟨[.ref x, .str name tk, v], []⟩) R ⟨hp, g, d, t, os⟩ := by
  obtain ⟨oD, esD, epD, hoD, hdD, _⟩ := hns.count hw
  refine osa_way hB X (ox := { cls := .ref C, dict := some dx, data := .fields fv }) (od := some oD) ⟨hx, rfl, rfl, hoD⟩ hcd hm ha ?_
  have whole : Looks (model prog w) hp (classData C) cd := looks_clsIn X hcd
  obtain ⟨c1, c2, c3, c4, c5, c6, c7, c8, c9, c10, c11⟩ := cd
  cases (show c6 = true from hd)
  unfold storeInOwnDict ownDictForStores
  repeat (first | with_reducible refine PySem.OEX.store_in_old hns hw hz ?_ | with_reducible refine wpAny_loadPart_at hx ?_ | with_reducible refine whole.at ?_ | wp_step)
  intro h2 tk2 ns same
  exact hq h2 tk2 (fun b o hb ho => (same.2 b hb).trans ho) ns
end
end VkX
end PySem
namespace Vk
open L2 PySem PySem.Spec PyProof.Rows PySem.VkX
/-- what the written part says of an own exception class over one of the four -/
structure OexK (K : PySem.W.Frag) (C : Addr) : Prop where
  cls : ∃ B newId initId tl nm q N bs sn sub ab col dd k0 k1 k2 k3 k5, ExB B newId initId tl ∧ K.lookup C = some (excClassObj nm q C N bs tl true sn sub ab col dd k0 k1 k2 k3 k5 newId)
  sa : PySem.W.findIn K (.ref C) "__setattr__" = some (some (.builtin "object.__setattr__"))
  kC : PySem.W.keepIn K (.ref C) = true
  xf : XfC K C
  ic : ExcC K C
section
variable {X : Cx} {pins : List (Addr × Obj)} {σ : L2.St} {H : Hp} {s : Shared} {a C dx : Addr} {f : Str} {y : V} {u : Value} {fs : List (Str × V)} {Q : Unit → Shared → Prop} {E : Value → Shared → Prop} {A : Around}
theorem kst_first (T : OexK X.K C) (I : Inv X pins σ H s) (e : H a = some (exo a C none)) (hno : PySem.W.findIn X.K (.ref C) f = some none) (ry : RelV y u)
    (h : ∀ dx s2, H dx = none → dx ≠ a → Inv X pins σ (upd (upd H dx (exd dx [(f, y)])) a (exo a C (some dx))) s2 → Q () s2) : wpAny (model X.prog X.w) A (setAttr (.ref a) f u) Q E s := by
  obtain ⟨B, newId, initId, tl, nm, q, N, bs, sn, sub, ab, col, dd, k0, k1, k2, k3, k5, hB, hC⟩ := T.cls
  have hcl : PySem.W.clsIn X.K C = some { name := nm, bases := bs, mro := .ref C :: tl, ns := N, qualname := q, hasDict := true, slotNames := sn, subclasses := sub, abstract := ab, collection := col, hasDel := false } := by unfold PySem.W.clsIn; rw [hC] <;> rfl
  obtain ⟨t1, ho⟩ := exo_at I.hok e
  obtain ⟨hp, g, d, t, os⟩ := s
  refine PySem.W.set_plain I.kIn (ox := { cls := .ref C, dict := none, data := .fields #[.ref t1, .none, .none, .none, .bool false, .none] }) (od := none) ⟨ho, rfl, rfl, trivial⟩ T.sa ?_
  refine osa_first hB I.kIn ho hcl rfl rfl hno fun h2 tk2 dx kept low apart put ns => ?_
  have free1 : H dx = none := I.hok.fresh low
  have old1 : ∀ {b : Addr} {o : Obj}, hp.get? b = some o → b ≠ dx := fun z => Nat.ne_of_lt (Nat.lt_of_lt_of_le (Heap.lt_size z) low)
  have not1 : ∀ {b : Addr}, H b = none → b ≠ a := fun n z => nomatch (z ▸ n).symm.trans e
  have un1 : Un X.fs [] H (upd (upd H dx (exd dx [(f, y)])) a (exo a C (some dx))) hp h2 := {
    keep := fun b o z n _ _ => kept b o (not1 n) z
    slot := fun b o z n _ _ => ⟨o.slots, kept b o (not1 n) z⟩
    free := fun b o z n _ => (upd_ne (not1 n)).trans ((upd_ne (old1 z)).trans n)
    there := fun b o z _ => by
      by_cases hb : b = a
      · exact ⟨_, hb ▸ put⟩
      · exact ⟨o, kept b o hb z⟩
    tups := fun b xs z => (upd_ne (at_ne e z exo_tup)).trans ((upd_ne (ne_of_none z free1)).trans z)
    frzs := fun b o v z => (upd_ne (at_ne e z exo_frz)).trans ((upd_ne (ne_of_none z free1)).trans z)
    tbls := fun b ps z => ⟨#[], by rw [upd_ne (at_ne e z exo_tbl), upd_ne (ne_of_none z free1), z]; simp⟩ }
  refine h dx _ free1 apart (I.un (t' := tk2) un1 fun b o z => ?_)
  by_cases hb : b = a
  · subst hb
    rw [upd_same] at z
    cases z
    exact exo_ok put
  · rw [upd_ne hb] at z
    by_cases hd : b = dx
    · subst hd
      rw [upd_same] at z
      cases z
      exact exd_ok ns (relO_put (fs := []) ry fun g => True.intro)
    · rw [upd_ne hd] at z
      refine (I.hok b o z).stay (fun c v hc r => kept c v ?_ r) (fun c hc => (upd_ne (at_ne e hc exo_own)).trans ((upd_ne (ne_of_none hc free1)).trans hc)) (fun c xs hc => (upd_ne (at_ne e hc exo_tup)).trans ((upd_ne (ne_of_none hc free1)).trans hc))
      exact hc.elim (fun z => z ▸ hb) (fun z => at_ne e z exo_own)
theorem kst_next (T : OexK X.K C) (I : Inv X pins σ H s) (e : H a = some (exo a C (some dx))) (ed : H dx = some (exd dx fs)) (hl : fs.length ≤ 900) (hno : PySem.W.findIn X.K (.ref C) f = some none) (ry : RelV y u)
    (h : ∀ s2, Inv X pins σ (upd H dx (exd dx ((f, y) :: fs))) s2 → Q () s2) : wpAny (model X.prog X.w) A (setAttr (.ref a) f u) Q E s := by
  obtain ⟨B, newId, initId, tl, nm, q, N, bs, sn, sub, ab, col, dd, k0, k1, k2, k3, k5, hB, hC⟩ := T.cls
  have hcl : PySem.W.clsIn X.K C = some { name := nm, bases := bs, mro := .ref C :: tl, ns := N, qualname := q, hasDict := true, slotNames := sn, subclasses := sub, abstract := ab, collection := col, hasDel := false } := by unfold PySem.W.clsIn; rw [hC] <;> rfl
  obtain ⟨t1, ho⟩ := exo_at I.hok e
  obtain ⟨mA, hns, rel⟩ := exd_at I.hok ed
  have hw := within_of rel
  obtain ⟨hp, g, d, t, os⟩ := s
  obtain ⟨oD, _, _, hoD, _, _⟩ := hns.count hw
  refine PySem.W.set_plain I.kIn (ox := { cls := .ref C, dict := some dx, data := .fields #[.ref t1, .none, .none, .none, .bool false, .none] }) (od := some oD) ⟨ho, rfl, rfl, hoD⟩ T.sa ?_
  refine osa_next hB I.kIn ho hns hw (by rw [List.length_map]; omega) hcl rfl rfl hno fun h2 tk2 kept ns => ?_
  exact h _ (I.write (t' := tk2) (x := dx) (e := dx) (o := exd dx ((f, y) :: fs)) (by rw [ed]; exact True.intro) (.inl rfl) kept (match ns with | ⟨o, _, _, z, _⟩ => ⟨o, z⟩) (exd_ok ns (relO_put ry rel)))
end
/-- self.f = e on such an exception -/
def tOsk (K : PySem.W.Frag) (f : Str) (to te : TE) : TS := fun D σ H => te σ H fun y H1 => to σ H1 fun x H2 => ∃ a C : Addr, x = .ref a ∧ OexK K C ∧ PySem.W.findIn K (.ref C) f = some none ∧
  ((H2 a = some (exo a C none) ∧ ∀ dx, H2 dx = none → dx ≠ a → D.nx σ (upd (upd H2 dx (exd dx [(f, y)])) a (exo a C (some dx)))) ∨
    ∃ (dx : Addr) (fs : List (Str × V)), H2 a = some (exo a C (some dx)) ∧ H2 dx = some (exd dx fs) ∧ fs.length ≤ 900 ∧ D.nx σ (upd H2 dx (exd dx ((f, y) :: fs))))
/-- x.f, x such an exception -/
def tXk (K : PySem.W.Frag) (f : Str) (te : TE) : TE := fun σ H Q => te σ H fun x H1 => ∃ (a C d : Addr) (fs : List (Str × V)) (v : V), x = .ref a ∧ OexK K C ∧ PySem.W.findIn K (.ref C) f = some none ∧ H1 a = some (exo a C (some d)) ∧ H1 d = some (exd d fs) ∧ fs.lookup f = some v ∧ Q v H1
section
variable {X : Cx} {o e : Expr} {es : List Expr} {to te : TE} {ta : TA} {f : Str} {p p' p1 p2 pos : Pos}
theorem ps_osk (ho : PE X o to) (he : PE X e te) (hs : swapsWith e (some (.Attribute o f p')) pos.line X.env = pure false := by rfl) : PS X (.Assign [.Attribute o f p'] e pos) (tOsk X.K f to te) := by
  refine ⟨fun pins s σ H D I h => plainObj_wpAny_Assign_Attribute (thn (he.run pins s σ H _ I h) fun v s1 ⟨y, H1, I1, r1, q1⟩ => thn (ho.run pins s1 σ H1 _ I1 q1) fun u s2 ⟨x, H2, I2, r2, a, C, ex, T, hno, q⟩ => ?_) hs⟩
  subst ex
  obtain rfl : u = Value.ref a := r2
  exact q.elim (fun z => kst_first T I2 z.1 hno r1 fun dx s3 n ne J => ⟨σ, _, J, z.2 dx n ne⟩) (fun ⟨dx, fs, ea, ed, hl, z⟩ => kst_next T I2 ea ed hl hno r1 fun s3 J => ⟨σ, _, J, z⟩)
theorem pe_xk (he : PE X e te) (hb : attributeBase e f X.env (eval e X.env) = eval e X.env := by rfl) : PE X (.Attribute e f pos) (tXk X.K f te) := by
  refine ⟨fun pins s σ H Q I h => attr_of hb (thn (he.run pins s σ H _ I h) fun u s1 hh => ?_)⟩
  obtain ⟨x, H1, I1, rx, a, C, d, fs, v, ex, T, hno, ea, ed, l, q⟩ := hh
  subst ex
  obtain rfl : u = Value.ref a := rx
  obtain ⟨t1, ho⟩ := exo_at I1.hok ea
  obtain ⟨mA, hns, hr⟩ := exd_at I1.hok ed
  obtain ⟨od, hd, hl⟩ := lookIn_ns hns
  obtain ⟨u, hu, ru⟩ := RelO.some_of (v := v) (o := mA f) (l ▸ hr f)
  have J : PySem.W.InstAt s1.heap a { cls := .ref C, dict := some d, data := .fields #[.ref t1, .none, .none, .none, .bool false, .none] } C (some od) := ⟨ho, rfl, rfl, hd⟩
  exact HandSPX.exc_get I1.kIn J T.xf.ga T.xf.gg T.xf.exC (PySem.W.findObj_own T.xf.hdC hno rfl (by rw [hl, hu])) (handed_of ru) ⟨v, H1, I1.tok _, ru, q⟩
end
end Vk
set_option Elab.async false
set_option maxRecDepth 100000
set_option maxHeartbeats 4000000
set_option linter.all false
namespace Vk
open L2 PySem PySem.Spec PyProof.Rows PySem.VkX
/-- an exception of the class at C, with these fields, the last one stored first -/
def ExV (H : Hp) (a C : Addr) (fs : List (Str × V)) : Prop := (fs = [] ∧ H a = some (exo a C none)) ∨ ∃ d, H a = some (exo a C (some d)) ∧ H d = some (exd d fs)
theorem ExV.inst {X : Cx} {pins : List (Addr × Obj)} {σ : L2.St} {H : Hp} {s : Shared} {a C : Addr} {fs : List (Str × V)} (I : Inv X pins σ H s) (e : ExV H a C fs) : ∃ ox od, PySem.W.InstAt s.heap a ox C od := by
  rcases e with ⟨_, e⟩ | ⟨d, e, ed⟩
  · obtain ⟨t1, ho⟩ := exo_at I.hok e
    exact ⟨{ cls := .ref C, dict := none, data := .fields #[.ref t1, .none, .none, .none, .bool false, .none] }, none, ho, rfl, rfl, trivial⟩
  · obtain ⟨t1, ho⟩ := exo_at I.hok e
    obtain ⟨mA, hns, _⟩ := exd_at I.hok ed
    obtain ⟨od, hd, _⟩ := lookIn_ns hns
    exact ⟨{ cls := .ref C, dict := some d, data := .fields #[.ref t1, .none, .none, .none, .bool false, .none] }, some od, ho, rfl, rfl, hd⟩
/-- isinstance(e, c), e such an exception -/
def rIsX (K : PySem.W.Frag) : List V → Hp → VK → Prop := fun xs H Q => ∃ (a C : Addr) (fs : List (Str × V)) (c : V) (cv : Value) (b : Bool), xs = [.ref a, c] ∧ OexK K C ∧ ExV H a C fs ∧ ClsV c cv ∧ PySem.W.kitOne K (.ref C) cv = some b ∧ Q (.bl b) H
theorem call_isX {X : Cx} : CallR X (.builtin "isinstance") (rIsX X.K) := by
  intro pins s σ H xs us Q I r h
  obtain ⟨a, C, fs, c, cv, b, rfl, T, ev, k, e, q⟩ := h
  obtain ⟨u1, u2, rfl, r1, r2⟩ := vals2 r
  cases (show u1 = Value.ref a from r1)
  have same := k.eq r2
  subst same
  obtain ⟨ox, od, J⟩ := ev.inst I
  obtain ⟨B, newId, initId, tl, nm, q1, N, bs, sn, sub, ab, col, dd, k0, k1, k2, k3, k5, hB, hC⟩ := T.cls
  have hcl : (PySem.W.clsIn X.K C).isSome = true := by unfold PySem.W.clsIn; rw [hC] <;> rfl
  exact PySem.W.kia_one (PySem.W.kitx_exc hcl T.ic.hg T.ic.hk T.ic.hs T.ic.ha T.ic.hn T.ic.ht T.ic.hm) I.kIn J e (fun z => nomatch z) fun tk => ⟨.bl b, H, I.tok tk, rfl, q⟩
/-! ## making one -/
/-- __init__(self, f1, ..): the fields stored in their order -/
def spIni (C : Addr) (fsn : List Str) : Sp := fun vs H Q E => ∃ a ws, vs = .ref a :: ws ∧ ws.length = fsn.length ∧ H a = some (exo a C none) ∧
  (fsn = [] → Q .non H) ∧ (fsn ≠ [] → ∀ d, H d = none → d ≠ a → Q .non (upd (upd H d (exd d (fsn.zip ws).reverse)) a (exo a C (some d))))
structure ClsI (P : Program) (w : World) (K : PySem.W.Frag) (mg : Str → Option Value) (base : Heap) (k : Nat) (x : Str) (C : Addr) (fsn : List Str) : Prop where
  T : OexK K C
  hm : mg x = some (.ref C)
  no : ∀ f ∈ fsn, PySem.W.findIn K (.ref C) f = some none
  ex : ∃ (fI : Addr) (fd : FuncData), PySem.W.findIn K (.ref C) "__init__" = some (some (.ref fI)) ∧ PySem.W.typeIn K (.ref fI) = some (.type "function") ∧ FnG P w K mg base CX0 k fI fd (("self" : Str) :: fsn) (spIni C fsn) ∧ Binds K fd (("self" : Str) :: fsn) [] ∧
    (∀ (s : Shared) (v : Value) (ws : List Value), K.In s.heap → ws.length = fsn.length → BindsTo s fd ⟨[v], fsn.reverse.zip ws⟩ ((("self" : Str) :: fsn).zip (v :: ws.reverse)))
/-- the exception that was made of H: at a, and its dict -/
def Made (C : Addr) (fsn : List Str) (vs : List V) (H : Hp) (Q : VK) : Prop := ∀ a, H a = none → (fsn = [] → Q (.ref a) (upd H a (exo a C none))) ∧
  (fsn ≠ [] → ∀ d, H d = none → d ≠ a → Q (.ref a) (upd (upd H d (exd d (fsn.zip vs).reverse)) a (exo a C (some d))))
theorem upd_over {H : Hp} {a d : Addr} {o1 o2 o3 : HO} (h : d ≠ a) : upd (upd (upd H a o1) d o2) a o3 = upd (upd H d o2) a o3 := by
  funext b
  by_cases hb : b = a
  · subst hb; rw [upd_same, upd_same]
  · rw [upd_ne hb, upd_ne hb]
    by_cases hd : b = d
    · subst hd; rw [upd_same, upd_same]
    · rw [upd_ne hd, upd_ne hd, upd_ne hb]
section
variable {X : Cx} {j k : Nat} {x : Str} {C : Addr} {fsn : List Str} {p pos : Pos} {e : Expr} {es : List Expr} {t : TA}
theorem make_run {pins : List (Addr × Obj)} {σ : L2.St} {H : Hp} {s : Shared} {Q : VK} {us : List Value} {kw : List (Str × Value)} {vs : List V} {zs : List Value} (c : ClsI X.prog X.w X.K X.mg X.base k x C fsn) (hg : X.A.guards = some []) (hr : Room (k + 1) X.A) (hx : Passes CX0 X (fun _ _ _ => False))
    (I : Inv X pins σ H s) (hus : us.length ≤ sizeLine) (hl : vs.length = fsn.length) (r : Vals vs zs) (q : Made C fsn vs H Q)
    (hb : ∀ fI fd, PySem.W.findIn X.K (.ref C) "__init__" = some (some (.ref fI)) → Binds X.K fd (("self" : Str) :: fsn) [] → (∀ (s : Shared) (v : Value) (ws : List Value), X.K.In s.heap → ws.length = fsn.length → BindsTo s fd ⟨[v], fsn.reverse.zip ws⟩ ((("self" : Str) :: fsn).zip (v :: ws.reverse))) →
      ∀ s2 : Shared, X.K.In s2.heap → ∀ a : Addr, BindsTo s2 fd ⟨.ref a :: us, kw⟩ ((("self" : Str) :: fsn).zip (.ref a :: zs))) :
    codeAny (model X.prog X.w) X.A (.call (.ref C) ⟨us, kw⟩) (fun r s2 => match r with | .ok (.ret v) => EP X pins σ Q v s2 | .ok _ => False | .error e => X.xe e s2) s := by
  obtain ⟨fI, fd, iC, tI, F, hbn, hbk⟩ := c.ex
  obtain ⟨B, newId, initId, tl, nm, q1, N, bs, sn, sub, ab, col, dd, k0, k1, k2, k3, k5, hB, hC⟩ := c.T.cls
  obtain ⟨hp, g, dr, tk, os⟩ := s
  have big : hp.objs.size ≤ hp.objs.size + 1 := Nat.le_succ _
  have new1 : H (hp.objs.size + 1) = none := I.hok.fresh big
  have hq := q (hp.objs.size + 1) new1
  have kept : ∀ b o, hp.get? b = some o → ((hp.push (PySem.W.kdv_tup us)).push (PySem.HandSPX.excO C hp.objs.size)).get? b = some o := fun b o z => Heap.get?_push_of_some _ (Heap.get?_push_of_some _ z)
  have put : ((hp.push (PySem.W.kdv_tup us)).push (PySem.HandSPX.excO C hp.objs.size)).get? (hp.objs.size + 1) = some (PySem.HandSPX.excO C hp.objs.size) := by heap_get
  have I2 : Inv X pins σ (upd H (hp.objs.size + 1) (exo (hp.objs.size + 1) C none)) ⟨(hp.push (PySem.W.kdv_tup us)).push (PySem.HandSPX.excO C hp.objs.size), g, dr, tk, os⟩ :=
    I.laid (t' := tk) (a := hp.objs.size + 1) (o := exo (hp.objs.size + 1) C none) kept big (exo_ok put)
  have sp1 : spIni C fsn (V.ref (hp.objs.size + 1) :: vs) (upd H (hp.objs.size + 1) (exo (hp.objs.size + 1) C none)) (fun v H2 => v = .non ∧ Q (.ref (hp.objs.size + 1)) H2) (fun _ _ _ => False) := by
    refine ⟨_, vs, rfl, hl, upd_same, fun z => ⟨rfl, hq.1 z⟩, fun z d hd ne => ⟨rfl, ?_⟩⟩
    rw [upd_ne ne] at hd
    rw [upd_over ne]
    exact hq.2 z d hd ne
  refine call_ownK hB.F (I.kIn _ _ hC) (PySem.W.looks_findIn I.kIn iC) (fun self => PySem.W.bind_fn I.kIn self tI) hus
    (codeAny_mono (F.run _ X.stack _ _ _ (Value.ref (hp.objs.size + 1) :: zs) (V.ref (hp.objs.size + 1) :: vs) _ (fun _ _ _ => False) ?_ (hr.make C us kw) (I2.env0.make C us kw) (hb fI fd iC hbn hbk _ I2.kIn _) (.cons rfl r) sp1) fun res s3 hz => ?_)
  · first
      | exact hg
      | (simpa [Around.under, Code.isGuard, guardIds] using hg)
  · match res, hz with
    | .error er, hz => exact hx pins σ _ _ er s3 I2 hz
    | .ok (.ret u), hz =>
      obtain ⟨v, H2, I3, rv, ev, q3⟩ := I2.after hz
      subst ev
      exact ⟨rv, V.ref (hp.objs.size + 1), H2, I3, rfl, q3⟩
    | .ok .next, hz => exact hz.elim
    | .ok .brk, hz => exact hz.elim
    | .ok .cont, hz => exact hz.elim
def tMk (C : Addr) (fsn : List Str) (t : TA) : TE := fun σ H Q => t σ H fun vs H1 => vs.length = fsn.length ∧ Made C fsn vs H1 Q
def tMkW (C : Addr) (fsn : List Str) (t : TA) : TE := fun σ H Q => t σ H fun vs H1 => vs.length = fsn.length ∧ Made C fsn vs.reverse H1 Q
theorem few_len {n : Nat} (h : n ≤ 1000) : n ≤ sizeLine := Nat.le_trans h (by rw [sizeLine_eq]; decide)
theorem pe_mk (c : ClsI X.prog X.w X.K X.mg X.base k x C fsn) (hg : X.A.guards = some []) (hr : Room j X.A) (hk : k + 1 ≤ j) (hx : Passes CX0 X (fun _ _ _ => False)) (ha : PA X (e :: es) t) (hn : fsn.length ≤ 1000 := by decide) (gl : Gl X x := by rfl)
    (hdb : (x == ("__debug__" : Str)) = false := by decide) (he : starEach (e :: es) X.env = (false, eval e X.env) :: starEach es X.env := by rfl) (hpl : (backTo pos (starEach es X.env)).any (·.1) = false := by rfl) :
    PE X (.Call (.Name x p) (e :: es) [] pos) (tMk C fsn t) := by
  refine ⟨fun pins s σ H Q I h => wpAny_Call_Name_kw (ld_glob I gl c.hm (PySem.W.callWith_K (h₀ := X.base) I.ok.mod.kin c.T.kC (thn (ha.run pos pins s σ H _ I h) fun us s1 hh => ?_) he hpl) hdb)⟩
  obtain ⟨vs, H1, I1, r, hl, q⟩ := hh
  refine ⟨I1.kIn, wpAny_call (codeAny_mono (make_run c hg (hr.mono hk) hx I1 (few_len (show us.length ≤ 1000 by rw [← r.length, hl]; exact hn)) hl r q fun fI fd _ hbn _ s2 K2 a => ?_) fun res s2 z => ?_)⟩
  · have b := hbn s2 (.ref a :: us) K2 (by simpa using (r.length.symm.trans hl))
    rw [List.append_nil] at b
    exact b
  · match res, z with
    | .error er, z => exact z
    | .ok (.ret u), z => exact z
    | .ok .next, z => exact z.elim
    | .ok .brk, z => exact z.elim
    | .ok .cont, z => exact z.elim
theorem pe_mk0 (c : ClsI X.prog X.w X.K X.mg X.base k x C []) (hg : X.A.guards = some []) (hr : Room j X.A) (hk : k + 1 ≤ j) (hx : Passes CX0 X (fun _ _ _ => False)) (gl : Gl X x := by rfl)
    (hdb : (x == ("__debug__" : Str)) = false := by decide) : PE X (.Call (.Name x p) [] [] pos) (tMk C [] tNil) := by
  refine ⟨fun pins s σ H Q I h => wpAny_Call_Name_kw (ld_glob I gl c.hm (PySem.W.callWith_K0 I.kIn c.T.kC (wpAny_call (codeAny_mono (make_run (vs := []) c hg (hr.mono hk) hx I (few_len (by decide)) rfl .nil h.2 fun fI fd _ hbn _ s2 K2 a => ?_) fun res s2 z => ?_))) hdb)⟩
  · have b := hbn s2 [.ref a] K2 rfl
    rw [List.append_nil] at b
    exact b
  · match res, z with
    | .error er, z => exact z
    | .ok (.ret u), z => exact z
    | .ok .next, z => exact z.elim
    | .ok .brk, z => exact z.elim
    | .ok .cont, z => exact z.elim
theorem vals_back : ∀ {vs : List V} {ws : List Value}, Vals vs ws → Vals vs.reverse ws.reverse := fun r => vals_rev r
theorem pe_mkW {kws : List Keyword} {tk : TA} (c : ClsI X.prog X.w X.K X.mg X.base k x C fsn) (hg : X.A.guards = some []) (hr : Room j X.A) (hk : k + 1 ≤ j) (hx : Passes CX0 X (fun _ _ _ => False)) (hkw : PK X kws tk) (gl : Gl X x := by rfl)
    (hall : (backToKw pos (keywordEach kws X.env)).all (·.1.isSome) = true := by rfl) (hks : (backToKw pos (keywordEach kws X.env)).filterMap (·.1) = fsn.reverse := by rfl) (hdb : (x == ("__debug__" : Str)) = false := by decide)
    (hpl : ((backTo pos (starEach [] X.env)).any (·.1) || (backToKw pos (keywordEach kws X.env)).any (·.1.isNone)) = false := by rfl) :
    PE X (.Call (.Name x p) [] kws pos) (tMkW C fsn tk) := by
  refine ⟨fun pins s σ H Q I h => wpAny_Call_Name_kw (ld_glob I gl c.hm (PySem.W.callWith_KW0 (h₀ := X.base) I.ok.mod.kin c.T.kC hall (thn (hkw.run pos pins s σ H _ I h) fun ws s2 hh => ?_) hpl) hdb)⟩
  obtain ⟨vs, H2, I2, rz, l2, q2⟩ := hh
  refine ⟨I2.kIn, ?_⟩
  rw [hks]
  refine wpAny_call (codeAny_mono (make_run (us := []) (vs := vs.reverse) (zs := ws.reverse) c hg (hr.mono hk) hx I2 (few_len (by decide)) (by rw [List.length_reverse]; exact l2) (vals_back rz) q2 fun fI fd _ _ hbk s3 K3 a => hbk s3 _ ws K3 (rz.length.symm.trans l2)) fun res s3 z => ?_)
  match res, z with
  | .error er, z => exact z
  | .ok (.ret u), z => exact z
  | .ok .next, z => exact z.elim
  | .ok .brk, z => exact z.elim
  | .ok .cont, z => exact z.elim
end
end Vk
set_option Elab.async false
set_option maxRecDepth 100000
set_option maxHeartbeats 4000000
set_option linter.all false
namespace Vk
open L2 PySem PySem.Spec PyProof.Rows PySem.VkX
/-- the j-th statement of a class -/
def mtd (st : Stmt) (j : Nat) : Stmt := match st with
  | .ClassDef _ _ _ b _ _ _ _ _ _ _ => b.getD j (.Pass ⟨0, 0, 0, 0⟩)
  | _ => .Pass ⟨0, 0, 0, 0⟩
theorem no0 {P : Str → Prop} : ∀ f ∈ ([] : List Str), P f := fun _ h => nomatch h
theorem no1 {P : Str → Prop} {a : Str} (h : P a) : ∀ f ∈ ([a] : List Str), P f := fun f z => by
  rw [List.mem_singleton] at z
  exact z ▸ h
theorem no2 {P : Str → Prop} {a b : Str} (h : P a) (h2 : P b) : ∀ f ∈ ([a, b] : List Str), P f := fun f z => by
  rcases List.mem_cons.mp z with z | z
  · exact z ▸ h
  · rw [List.mem_singleton] at z
    exact z ▸ h2
/-- the class at C has the name x and these classes behind it -/
def ClsN (K : PySem.W.Frag) (C : Addr) (x : Str) (tl : List Value) : Prop := ∃ newId q N bs sn sub ab col dd k0 k1 k2 k3 k5, K.lookup C = some (excClassObj x q C N bs tl true sn sub ab col dd k0 k1 k2 k3 k5 newId)
structure ExcTxt (K : PySem.W.Frag) (x qual : Str) (st : Stmt) (C fI : Addr) (fd : FuncData) (fsn : List Str) (tl : List Value) : Prop where
  cn : ClsN K C x tl
  ns : PySem.W.nsIn K mainGlobals x = some (some (.ref C))
  T : OexK K C
  iC : PySem.W.findIn K (.ref C) "__init__" = some (some (.ref fI))
  tI : PySem.W.typeIn K (.ref fI) = some (.type "function")
  no : ∀ f ∈ fsn, PySem.W.findIn K (.ref C) f = some none
  fn : Fun K "__init__" qual st fI fd
theorem exc_mk {K : PySem.W.Frag} {x qual : Str} {st : Stmt} {C fI : Addr} {fsn : List Str} {B newId initId : String} {tl : List Value} {q : Str} {N : Addr} {bs : List Value} {sn : List Str} {sub : List Value} {ab : Bool} {col : Option Bool} {dd : Option Addr} {k0 k1 k2 k3 k5 : Option Value}
    {oc : Value} {od an : Option Addr} {sl : Array (Option Value)} {kV doc pm cd ct : Value} (hB : ExB B newId initId tl) (ns : PySem.W.nsIn K mainGlobals x = some (some (.ref C))) (iC : PySem.W.findIn K (.ref C) "__init__" = some (some (.ref fI)))
    (cls : K.lookup C = some (excClassObj x q C N bs tl true sn sub ab col dd k0 k1 k2 k3 k5 newId)) (sa : PySem.W.findIn K (.ref C) "__setattr__" = some (some (.builtin "object.__setattr__"))) (kC : PySem.W.keepIn K (.ref C) = true)
    (ga : PySem.W.findIn K (.ref C) "__getattribute__" = some (some (.builtin "BaseException.__getattribute__"))) (gg : PySem.W.findIn K (.ref C) "__getattr__" = some none) (ex : PySem.W.subIn K (.ref C) (.type "BaseException") = some true) (hd : PySem.W.hasDictIn K C = true)
    (ha : PySem.W.findIn K (.ref C) "__class__" = some (some (.builtin "object.__class__"))) (hn : PySem.W.specialIn K (.builtin "object.__class__") "__get__" = some (some (.builtin "getset_descriptor.__get__"))) (ht : PySem.W.takesIn K (.builtin "object.__class__") = some true)
    (hm : PySem.W.mroIn K C (.type "object") = some true) (tI : PySem.W.typeIn K (.ref fI) = some (.type "function")) (kI : PySem.W.keepIn K (.ref fI) = true) (no : ∀ f ∈ fsn, PySem.W.findIn K (.ref C) f = some none)
    (l : K.lookup fI = some ⟨oc, od, .func (PySem.W.fnOf "__init__" qual (defArgs st) (defBody st) (defScope st) .none kV doc pm an cd ct), sl⟩) (c : PySem.W.codeIn K cd qual = true) :
    ExcTxt K x qual st C fI (PySem.W.fnOf "__init__" qual (defArgs st) (defBody st) (defScope st) .none kV doc pm an cd ct) fsn tl := by
  exact ⟨⟨newId, q, N, bs, sn, sub, ab, col, dd, k0, k1, k2, k3, k5, cls⟩, ns, ⟨⟨B, newId, initId, tl, x, q, N, bs, sn, sub, ab, col, dd, k0, k1, k2, k3, k5, hB, cls⟩, sa, kC, ⟨ga, gg, ex, hd⟩, ⟨ga, gg, ex, hd, ha, hn, ht, hm⟩⟩, iC, tI, no, fun_mk l c kI⟩
section
variable {P : Program} {w : World} {K : PySem.W.Frag} {mg : Str → Option Value} {base h : Heap} {x qual f f2 : Str} {st : Stmt} {C fI : Addr} {fd : FuncData} {p1 p2 p3 p4 q1 q2 q3 q4 : Pos}
theorem ClsI.of0 {tl : List Value} (G : ExcTxt K x qual st C fI fd [] tl) (KX : K.In h) (Gn : h.Ns mainGlobals mg) (F : FnG P w K mg base CX0 1 fI fd [("self" : Str)] (spIni C []))
    (hb : ∀ (kV doc pm : Value) (an : Option Addr) (cdv ct v : Value), bindArgs (PySem.W.fnOf "__init__" qual (defArgs st) (defBody st) (defScope st) .none kV doc pm an cdv ct) ⟨[v], []⟩ = pure [(("self" : Str), v)]) : ClsI P w K mg base 1 x C [] where
  T := G.T
  hm := PySem.W.mg_of KX Gn G.ns
  no := G.no
  ex := ⟨fI, fd, G.iC, G.tI, F, G.fn.binds fun kV doc pm an cdv ct us hl => match us, hl with | [v], _ => hb kV doc pm an cdv ct v, fun s v ws KI hl => by
    cases ws with
    | cons _ _ => cases hl
    | nil =>
      obtain ⟨oc, od, kV, doc, pm, an, cdv, ct, osl, rfl, lk, hcd⟩ := G.fn.ex
      exact .of_eq (hb kV doc pm an cdv ct v)⟩
theorem ClsI.of1 {tl : List Value} (G : ExcTxt K x qual st C fI fd [f] tl) (KX : K.In h) (Gn : h.Ns mainGlobals mg) (F : FnG P w K mg base CX0 1 fI fd [("self" : Str), f] (spIni C [f]))
    (hb : ∀ (kV doc pm : Value) (an : Option Addr) (cdv ct v y : Value), bindArgs (PySem.W.fnOf "__init__" qual (defArgs st) (defBody st) (defScope st) .none kV doc pm an cdv ct) ⟨[v, y], []⟩ = pure [(("self" : Str), v), (f, y)])
    (hk : ∀ (kV doc pm : Value) (an : Option Addr) (cdv ct v y : Value), bindArgs (PySem.W.fnOf "__init__" qual (defArgs st) (defBody st) (defScope st) .none kV doc pm an cdv ct) ⟨[v], [((f : Str), y)]⟩ = pure [(("self" : Str), v), (f, y)]) : ClsI P w K mg base 1 x C [f] where
  T := G.T
  hm := PySem.W.mg_of KX Gn G.ns
  no := G.no
  ex := ⟨fI, fd, G.iC, G.tI, F, G.fn.binds fun kV doc pm an cdv ct us hl => match us, hl with | [v, y], _ => hb kV doc pm an cdv ct v y, fun s v ws KI hl => by
    match ws, hl with
    | [y], _ =>
      obtain ⟨oc, od, kV, doc, pm, an, cdv, ct, osl, rfl, lk, hcd⟩ := G.fn.ex
      exact .of_eq (hk kV doc pm an cdv ct v y)⟩
theorem ClsI.of2 {tl : List Value} (G : ExcTxt K x qual st C fI fd [f, f2] tl) (KX : K.In h) (Gn : h.Ns mainGlobals mg) (F : FnG P w K mg base CX0 1 fI fd [("self" : Str), f, f2] (spIni C [f, f2]))
    (hb : ∀ (kV doc pm : Value) (an : Option Addr) (cdv ct v y z : Value), bindArgs (PySem.W.fnOf "__init__" qual (defArgs st) (defBody st) (defScope st) .none kV doc pm an cdv ct) ⟨[v, y, z], []⟩ = pure [(("self" : Str), v), (f, y), (f2, z)])
    (hk : ∀ (kV doc pm : Value) (an : Option Addr) (cdv ct v y z : Value), bindArgs (PySem.W.fnOf "__init__" qual (defArgs st) (defBody st) (defScope st) .none kV doc pm an cdv ct) ⟨[v], [(f2, z), (f, y)]⟩ = pure [(("self" : Str), v), (f, y), (f2, z)]) : ClsI P w K mg base 1 x C [f, f2] where
  T := G.T
  hm := PySem.W.mg_of KX Gn G.ns
  no := G.no
  ex := ⟨fI, fd, G.iC, G.tI, F, G.fn.binds fun kV doc pm an cdv ct us hl => match us, hl with | [v, y, z], _ => hb kV doc pm an cdv ct v y z, fun s v ws KI hl => by
    match ws, hl with
    | [z, y], _ =>
      obtain ⟨oc, od, kV, doc, pm, an, cdv, ct, osl, rfl, lk, hcd⟩ := G.fn.ex
      exact .of_eq (hk kV doc pm an cdv ct v y z)⟩
end
end Vk
namespace Vk
open L2 PySem PySem.Spec PyProof.Rows PySem.VkX
theorem two_upd {H : Hp} {a d : Addr} {o1 o2 o3 : HO} (h : d ≠ a) : upd (upd (upd H d o1) a o2) d o3 = upd (upd H d o3) a o2 := by
  funext b
  by_cases hb : b = d
  · subst hb; rw [upd_same, upd_ne h, upd_same]
  · rw [upd_ne hb]
    by_cases ha : b = a
    · subst ha; rw [upd_same, upd_same]
    · rw [upd_ne ha, upd_ne ha, upd_ne hb, upd_ne hb]
end Vk
set_option Elab.async false
set_option maxRecDepth 100000
set_option maxHeartbeats 4000000
set_option linter.all false
namespace Vk
open L2 PySem PySem.Spec PyProof.Rows PySem.VkX
/-! ## values that are shown, dicts among them -/
inductive Atm : V → PyData → Prop
  | non : Atm .non .none
  | bl (b : Bool) : Atm (.bl b) (.bool b)
  | int (i : Int) : Atm (.int i) (.int i)
  | str (x : Str) : Atm (.str x) (.str x)
def kvS (ps : List (Str × Str)) : List (Key × V) := ps.map fun p => (Sum.inr p.1, V.str p.2)
def kvD (ps : List (Str × Str)) : List (PyData × PyData) := ps.map fun p => (.str p.1, .str p.2)
/-- one level deep -/
inductive Th (H : Hp) : V → PyData → Prop
  | atm {v : V} {d : PyData} : Atm v d → Th H v d
  | lst {a : Addr} {xs : List V} {ds : List PyData} : H a = some (.lst xs) → a ≠ sysModules → Paired Atm xs ds → Th H (.ref a) (.list ds)
  | tup {a : Addr} {xs : List V} {ds : List PyData} : H a = some (.tup xs) → Paired Atm xs ds → Th H (.ref a) (.tuple ds)
  | dct {a : Addr} {ps : List (Str × Str)} : H a = some (.dK (kvS ps)) → Th H (.ref a) (.dict (kvD ps))
theorem Th.keep {H H' : Hp} {v : V} {d : PyData} (h : Th H v d) (k : ∀ a o, H a = some o → H' a = some o) : Th H' v d := by
  cases h with
  | atm h => exact .atm h
  | lst e n h => exact .lst (k _ _ e) n h
  | tup e h => exact .tup (k _ _ e) h
  | dct e => exact .dct (k _ _ e)
section
variable {X : Cx} {pins : List (Addr × Obj)} {σ : L2.St} {H : Hp} {s : Shared}
theorem Atm.reads {h : Heap} {v : V} {u : Value} {d : PyData} (a : Atm v d) (r : RelV v u) : Reads h u d [] ∧ d.hasDict = false := by
  cases a with
  | non => cases r; exact ⟨Reads.none, by simp only [PyData.hasDict]⟩
  | bl b => cases r; exact ⟨Reads.bool b, by simp only [PyData.hasDict]⟩
  | int i => obtain ⟨t, rfl⟩ := r; exact ⟨Reads.int i t, by simp only [PyData.hasDict]⟩
  | str x => obtain ⟨t, rfl⟩ := r; exact ⟨Reads.str x t, by simp only [PyData.hasDict]⟩
theorem atms_reads {h : Heap} : ∀ {vs : List V} {ds : List PyData} {us : List Value}, Paired Atm vs ds → Vals vs us → ReadsAll h us ds [] ∧ PyData.hasDictAll ds = false
  | _, _, _, .nil, .nil => ⟨ReadsAll.nil, by simp only [PyData.hasDictAll]⟩
  | _, _, _, .cons a t, .cons r rs => by
    obtain ⟨h1, n1⟩ := a.reads (h := h) r
    obtain ⟨h2, n2⟩ := atms_reads (h := h) t rs
    exact ⟨ReadsAll.cons h1 h2, by simp only [PyData.hasDictAll, n1, n2, Bool.or_false]⟩
theorem strs_read {P : Program} {w : World} {h : Heap} : ∀ {ps : List (Str × Str)} {vs : List (Key × Value)} {es : List DictEntry}, KV (kvS ps) vs → Pairs (mixKind P w) es vs →
    ReadsAll h (es.map (·.key)) ((kvD ps).map (·.1)) [] ∧ ReadsAll h (es.map (·.val)) ((kvD ps).map (·.2)) []
  | [], _, _, .nil, .nil => ⟨ReadsAll.nil, ReadsAll.nil⟩
  | p :: ps, _, _, .cons a t, .cons k v r => by
    obtain ⟨h1, h2⟩ := strs_read (P := P) (w := w) (h := h) (ps := ps) t r
    obtain ⟨e1, e2⟩ := a
    rw [mixKind_is, ← e1] at k
    obtain ⟨y, ey⟩ := (show ∃ y, _ = Value.str p.2 y from e2)
    rcases keyIs_shape k with ⟨i, t, z, _⟩ | ⟨x, t, z, z2⟩
    · cases z
    · cases z
      refine ⟨?_, ?_⟩
      · have q := ReadsAll.cons (Reads.str (h := h) p.1 t) h1
        rw [← z2] at q
        exact q
      · have q := ReadsAll.cons (Reads.str (h := h) p.2 y) h2
        rw [← ey, ← v] at q
        exact q
theorem Th.reads (I : Inv X pins σ H s) {v : V} {u : Value} {d : PyData} (h : Th H v d) (r : RelV v u) : ∃ as, Reads s.heap u d as ∧ sysModules ∉ as := by
  cases h with
  | atm a =>
    obtain ⟨h1, n⟩ := a.reads (h := s.heap) r
    exact ⟨_, h1, List.not_mem_nil⟩
  | lst e ne a =>
    cases r
    obtain ⟨its, rv, ⟨o, n, ho, hc, _, hd⟩, _⟩ := I.list (SqL.of e)
    obtain ⟨h1, n1⟩ := atms_reads (h := s.heap) a rv
    exact ⟨_, Reads.list ho hc hd h1, fun z => by simp at z; exact ne z.symm⟩
  | tup e a =>
    cases r
    obtain ⟨its, rv, ⟨o, ho, hc, n, hd⟩, _⟩ := I.tuple (SqT.of e)
    obtain ⟨h1, n1⟩ := atms_reads (h := s.heap) a rv
    exact ⟨_, Reads.tuple ho hc hd h1, List.not_mem_nil⟩
  | @dct a ps e =>
    cases r
    obtain ⟨_, ne, vs, kv, o, es, ep, ho, ex, hd, _, pr, _⟩ := (show ObjOk X.prog X.w H s.heap a (.dK (kvS ps)) from I.hok a _ e)
    obtain ⟨h1, h2⟩ := strs_read (h := s.heap) kv pr
    refine ⟨_, Reads.dict ho ex.1 hd h1 h2, fun hm => ?_⟩
    have z : sysModules = a := by simpa using hm
    rw [← z] at ne
    exact absurd ne (by decide)
/-- what is handed to repr -/
def Shw (H : Hp) (x : V) (d : PyData) : Prop := Th H x d ∨ ∃ q y e, x = .ref q ∧ H q = some (.lst [y, y]) ∧ q ≠ sysModules ∧ Th H y e ∧ d = .list [e, e]
theorem Shw.reads (I : Inv X pins σ H s) {v : V} {u : Value} {d : PyData} (h : Shw H v d) (r : RelV v u) : ∃ as, Reads s.heap u d as ∧ (d.hasDict = true → sysModules ∉ as) := by
  rcases h with h | ⟨q, y, d, rfl, e, ne, t, rfl⟩
  · obtain ⟨as, h1, n1⟩ := h.reads I r
    exact ⟨as, h1, fun _ => n1⟩
  · cases r
    obtain ⟨its, rv, ⟨o, n, ho, hc, _, hd⟩, _⟩ := I.list (SqL.of e)
    cases rv with
    | cons r1 rv =>
      cases rv with
      | cons r2 rv =>
        cases rv
        obtain ⟨as, h1, n1⟩ := t.reads I r1
        obtain ⟨bs, h2, n2⟩ := t.reads I r2
        refine ⟨_, Reads.list ho hc hd (ReadsAll.cons h1 (ReadsAll.cons h2 ReadsAll.nil)), fun z => ?_⟩
        simp only [PyData.hasDict, PyData.hasDictAll, Bool.or_false, Bool.or_self] at z
        have m1 := n1
        have m2 := n2
        simp only [List.append_nil, List.mem_cons, List.mem_append, not_or]
        exact ⟨fun w => ne w.symm, m1, m2⟩
end
section
variable {X : Cx} {es : List Expr} {pos : Pos} {t : TA}
theorem call_reprT (hg : X.A.guards = some []) (hu : X.A.units + 64 < cLine) : CallR X (.builtin "repr") (fun xs H Q => ∃ x d, xs = [x] ∧ Shw H x d ∧ d.showable = true ∧ d.depth ≤ 60 ∧ d.shown.length ≤ sizeLine ∧ Q (.str d.shown) H) := by
  intro pins s σ H xs us Q I r h
  obtain ⟨x, d, rfl, hd, hs, hdp, hz, q⟩ := h
  cases r with
  | cons r1 r2 =>
  cases r2
  obtain ⟨as, rd, nm⟩ := hd.reads I r1
  have far : ∀ {a : Addr}, Reads s.heap (.ref a) d as → wpAny (model X.prog X.w) X.A (call (.builtin "repr") [.ref a]) (EP X pins σ Q) X.xe s := fun rd => repr_of_reads' rd hs nm hg (by omega) (fun _ _ e => e) (fun h2 u tk hk => ⟨V.str _, H, I.kept hk, ⟨u, rfl⟩, q⟩) hz
  rcases hd with h | ⟨p, y, e, rfl, _⟩
  · cases h with
    | atm a =>
      cases a with
      | non => cases r1; exact PySem.P.repr_of_none ⟨V.str _, H, I.tok _, ⟨_, rfl⟩, q⟩
      | bl b => cases r1; exact PySem.P.repr_of_bool ⟨V.str _, H, I.tok _, ⟨_, rfl⟩, q⟩
      | int i =>
        obtain ⟨t, rfl⟩ := r1
        exact PySem.P.repr_of_int (of_decide_eq_true hs) ⟨V.str _, H, I.tok _, ⟨_, rfl⟩, q⟩
      | str z =>
        obtain ⟨t, rfl⟩ := r1
        exact PySem.P.repr_of_str ⟨V.str _, H, I.tok _, ⟨_, rfl⟩, q⟩ hz
    | lst e n h => cases r1; exact far rd
    | tup e h => cases r1; exact far rd
    | dct e => cases r1; exact far rd
  · cases r1; exact far rd
/-- [e, ..]: the new list does not stand where the modules do -/
def tLs1 (t : TA) : TE := fun σ H Q => t σ H fun xs H1 => xs.length ≤ sizeLine ∧ ∀ p, H1 p = none → p ≠ sysModules → Q (.ref p) (upd H1 p (.lst xs))
theorem pe_ls1 (h : PA X es t) : PE X (.List es pos) (tLs1 t) := by
  refine ⟨fun pins s σ H Q I hq => wpAny_List_spliced (thn (h.run pos pins s σ H _ I hq) fun us s1 ⟨xs, H1, I1, r, z, q⟩ => ⟨r.length ▸ z, ?_⟩)⟩
  have free1 : H1 s1.heap.objs.size = none := I1.hok.fresh (Nat.le_refl _)
  obtain ⟨o, _, _, ho, _⟩ := I1.mod.glob
  have big : mainGlobals < s1.heap.objs.size := Heap.lt_size (I1.bk _ _ ho)
  have ne : s1.heap.objs.size ≠ sysModules := fun z => by
    rw [z] at big
    exact absurd big (by decide)
  exact ⟨.ref s1.heap.objs.size, _, I1.laid (t' := s1.toks) (o := .lst xs) (fun b u e => Heap.get?_push_of_some _ e) (Nat.le_refl _) ⟨z, us, 0, r, Heap.get?_push_size _ rfl⟩, rfl, q _ free1 ne⟩
end
end Vk
set_option Elab.async false
set_option maxRecDepth 100000
set_option maxHeartbeats 4000000
set_option linter.all false
namespace Vk
open L2 PySem PySem.Spec PyProof.Rows PySem.VkX
/-! ## isinstance among own exception classes -/
section
variable {K : PySem.W.Frag} {C D : Addr} {x y : Str} {tl tl2 : List Value}
theorem ClsN.cls (c : ClsN K C x tl) : ∃ cd, PySem.W.clsIn K C = some cd ∧ cd.name = x ∧ cd.mro = .ref C :: tl ∧ PySem.W.typeIn K (.ref C) = some (.type "type") := by
  obtain ⟨newId, q, N, bs, sn, sub, ab, col, dd, k0, k1, k2, k3, k5, e⟩ := c
  refine ⟨{ name := x, bases := bs, mro := .ref C :: tl, ns := N, qualname := q, hasDict := true, slotNames := sn, subclasses := sub, abstract := ab, collection := col, hasDel := false }, ?_, rfl, rfl, ?_⟩
  · unfold PySem.W.clsIn; rw [e] <;> rfl
  · show (K.lookup C).map (·.cls) = _
    rw [e] <;> rfl
theorem ClsN.inj (c : ClsN K C x tl) (d : ClsN K D y tl2) : (C == D) = true → x = y := by
  intro h
  have e : C = D := by simpa using h
  subst e
  obtain ⟨cd, h1, h2, _⟩ := c.cls
  obtain ⟨ce, g1, g2, _⟩ := d.cls
  cases h1.symm.trans g1
  exact h2.symm.trans g2
/-- what stands at a name is one class -/
structure One (K : PySem.W.Frag) (C : Addr) (x : Str) (tl : List Value) : Prop where
  cn : ClsN K C x tl
  ns : PySem.W.nsIn K mainGlobals x = some (some (.ref C))
  rf : tl.all (fun v => match v with | .type _ => true | _ => false) = true
theorem notIn_types {l : List Value} (h : l.all (fun v => match v with | .type _ => true | _ => false) = true) : l.contains (.ref D) = false := by
  induction l with
  | nil => rfl
  | cons a r ih =>
    rw [List.all_cons, Bool.and_eq_true] at h
    rw [List.contains_cons, ih h.2, Bool.or_false]
    cases a <;> first | rfl | (exact absurd h.1 (by simp)) | simp
theorem kit_one (c : One K C x tl) (d : One K D y tl2) : PySem.W.kitOne K (.ref C) (.ref D) = some (x == y) := by
  obtain ⟨cd, h1, h2, h3, h4⟩ := c.cn.cls
  obtain ⟨ce, g1, g2, g3, g4⟩ := d.cn.cls
  unfold PySem.W.kitOne
  by_cases e : C = D
  · subst e
    have exy : x = y := c.cn.inj d.cn (by simp)
    rw [if_pos (by simp), exy]
    simp
  · have ne : ¬ ((Value.ref C == Value.ref D) = true) := by simpa using e
    have nxy : (x == y) = false := by
      rw [beq_eq_false_iff_ne]
      rintro rfl
      have z := c.ns.symm.trans d.ns
      cases z
      exact e rfl
    rw [if_neg ne, nxy]
    show (if ((PySem.W.clsIn K D).isSome && PySem.W.typeIn K (.ref D) == some (.type "type")) = true then PySem.W.subIn K (.ref C) (.ref D) else none) = some false
    rw [if_pos (by rw [g1, g4]; simp)]
    show PySem.W.mroIn K C (.ref D) = some false
    unfold PySem.W.mroIn
    rw [h1, Option.bind_some, h3, if_neg (by simp), List.contains_cons, notIn_types c.rf]
    have ne2 : (Value.ref D == Value.ref C) = false := by
      rw [beq_eq_false_iff_ne]
      rintro z
      exact e (Value.ref.inj z).symm
    rw [ne2]
    rfl
theorem kit_type {T : String} (c : One K C x tl) (hT : PySem.W.kitMeta T = true) : PySem.W.kitOne K (.ref C) (.type T) = some (tl.contains (.type T)) := by
  obtain ⟨cd, h1, h2, h3, h4⟩ := c.cn.cls
  unfold PySem.W.kitOne
  have far : ¬ ((Value.ref C == Value.type T) = true) := fun z => nomatch (beq_iff_eq.mp z)
  rw [if_neg far]
  show (if PySem.W.kitMeta T = true then PySem.W.subIn K (.ref C) (.type T) else none) = _
  rw [if_pos hT]
  show PySem.W.mroIn K C (.type T) = _
  unfold PySem.W.mroIn
  rw [h1, Option.bind_some, h3, if_neg (by simp), List.contains_cons]
  have ne : (Value.type T == Value.ref C) = false := beq_eq_false_iff_ne.mpr (fun z => nomatch z)
  rw [ne, Bool.false_or]
end
/-! ## list.count -/
theorem count_eqU {x : V} : ∀ {xs : List V} {us : List Value}, Vals xs us → xs.all flatV = true → us.countP (eqU x) = xs.countP fun y => eqV y x
  | _, _, .nil, _ => rfl
  | _, _, .cons r t, f => by
    rw [List.all_cons, Bool.and_eq_true] at f
    rw [List.countP_cons, List.countP_cons, count_eqU t f.2, eqU_of r f.1]
theorem mt_countL {X : Cx} : MtR X "list.count" (fun x vs H Q => ∃ a ys y, x = .ref a ∧ vs = [y] ∧ SqL X.K H a ys ∧ flatV y = true ∧ ys.all flatV = true ∧ Q (.int (ys.countP fun z => eqV z y : Nat)) H) := by
  intro pins s σ H x xs v us Q I rx rxs h
  obtain ⟨a, ys, y, rfl, rfl, hs, fy, fys, q⟩ := h
  cases rx
  cases rxs with
  | cons ry rt =>
    rename_i uy ut
    cases rt
    obtain ⟨its, rv, ⟨⟨cls, dd, data, sl⟩, n, ho, hc, hdn, hd⟩, hlen⟩ := I.list hs
    simp only at hc hd
    subst hc hd
    refine call_meets PySem.F.slot_list_count ⟨_, ho, rfl⟩ PySem.F.entry_list_count (PySem.F.args_list_count_2 _ _) (SeqAt.list_countAt a its.toArray n dd sl uy (eqU y)) ⟨ho, fun w hw => mem_eqAt ry fy rv fys w (by simpa using hw), ?_⟩
    have e : its.toArray.toList.countP (eqU y) = ys.countP fun z => eqV z y := by rw [← count_eqU rv fys]
    rw [e]
    exact ⟨.int _, H, I.tok _, ⟨_, rfl⟩, q⟩
/-! ## a comprehension over zip of two lists of one length -/
theorem lc_zip {K : PySem.W.Frag} {a b : Addr} {xs ys : List V} {g : TG} {tt : TT} {te : TE} {vs : List Nat} {σ : L2.St} {H1 : Hp} {D : Addr} {Qd : Hp → Prop} (len : xs.length = ys.length) (Pv : Nat → Hp → Prop) (h0 : Pv 0 (upd H1 D (.lst []))) (hl : ∀ i H, Pv i H → SqL K H a xs ∧ SqL K H b ys)
    (hs : ∀ i x y T H, xs[i]? = some x → ys[i]? = some y → Pv i H → H T = none → g (.ref T) (wipe σ vs) (upd H T (.tup [x, y])) fun σ2 H2 => wipe σ2 vs = wipe σ vs ∧ tt σ2 H2 fun c H3 =>
      if c = true then te σ2 H3 fun z H4 => ∃ acc, H4 D = some (.lst acc) ∧ acc.length < sizeLine ∧ Pv (i + 1) (upd H4 D (.lst (acc ++ [z]))) else Pv (i + 1) H3) (hd : ∀ H, Pv xs.length H → Qd H) :
    ∃ W : Nat → Nat → Hp → Prop, (∃ m, W 0 m (upd H1 D (.lst []))) ∧ ∀ i m H, W i m H →
      ((Itz K a b).stop i H ∧ Qd H) ∨ ((Itz K a b).go i H ∧ ∃ Nx : Hp → Prop, (∀ H', Nx H' → ∃ m', m' < m ∧ W (i + 1) m' H') ∧ ∀ x H', (Itz K a b).yld i H x H' → g x (wipe σ vs) H' fun σ2 H2 => wipe σ2 vs = wipe σ vs ∧ tt σ2 H2 fun c H3 =>
        if c = true then te σ2 H3 fun z H4 => ∃ acc, H4 D = some (.lst acc) ∧ acc.length < sizeLine ∧ Nx (upd H4 D (.lst (acc ++ [z]))) else Nx H3) := by
  refine ⟨fun i m H => m = xs.length - i ∧ i ≤ xs.length ∧ Pv i H, ⟨xs.length, rfl, Nat.zero_le _, h0⟩, ?_⟩
  rintro i m H ⟨rfl, hi, p⟩
  obtain ⟨qx, qy⟩ := hl i H p
  by_cases lt : i < xs.length
  · have fx : xs[i]? = some xs[i] := List.getElem?_eq_getElem lt
    have fy : ys[i]? = some (ys[i]'(len ▸ lt)) := List.getElem?_eq_getElem (len ▸ lt)
    refine .inr ⟨⟨xs, ys, _, _, qx, qy, fx, fy⟩, Pv (i + 1), fun H2 p2 => ⟨xs.length - (i + 1), by omega, rfl, lt, p2⟩, fun v H2 w => ?_⟩
    obtain ⟨T, x2, y2, rfl, hT, rfl, f1, f2⟩ := w
    exact hs i x2 y2 T H (f1 xs qx) (f2 ys qy) p hT
  · have e : i = xs.length := by omega
    subst e
    exact .inl ⟨⟨xs, ys, qx, qy, Or.inl (Nat.le_refl _)⟩, hd H p⟩
end Vk
set_option Elab.async false
set_option maxRecDepth 100000
set_option maxHeartbeats 4000000
set_option linter.all false
namespace Vk
open L2 PySem PySem.Spec PyProof.Rows PySem.VkX
/-! ## what is laid, told by what it shows -/
theorem Same.rfl {H : Hp} : Same H H := fun _ _ h => h
theorem Same.trans {H H1 H2 : Hp} (a : Same H H1) (b : Same H1 H2) : Same H H2 := fun c o h => b c o (a c o h)
def MkA (t : TE) (d : PyData) : Prop := ∃ v, Atm v d ∧ ∀ σ H Q, Q v H → t σ H Q
def MkAs (t : TA) (ds : List PyData) : Prop := ∃ vs, Paired Atm vs ds ∧ ∀ σ H Q, Q vs H → t σ H Q
def Mk (t : TE) (d : PyData) : Prop := ∀ σ H Q, (∀ v H', Same H H' → Th H' v d → Q v H') → t σ H Q
def Mks (t : TA) (ds : List PyData) : Prop := ∀ σ H Q, (∀ vs H', Same H H' → Paired (Th H') vs ds → Q vs H') → t σ H Q
section
variable {t te : TE} {ta : TA} {d : PyData} {ds : List PyData}
theorem ma_non : MkA (tC .non) .none := ⟨_, .non, fun _ _ _ q => q⟩
theorem ma_bl {b : Bool} : MkA (tC (.bl b)) (.bool b) := ⟨_, .bl b, fun _ _ _ q => q⟩
theorem ma_int {i : Int} : MkA (tC (.int i)) (.int i) := ⟨_, .int i, fun _ _ _ q => q⟩
theorem ma_str {x : Str} : MkA (tC (.str x)) (.str x) := ⟨_, .str x, fun _ _ _ q => q⟩
theorem ma_neg {i : Int} : MkA (tUn (rU fun i => V.int (-i)) (tC (.int i))) (.int (-i)) := ⟨_, .int (-i), fun _ _ _ q => ⟨i, rfl, q⟩⟩
theorem ma_pow {i j : Int} (h : CPow i j) : MkA (tOp (rI CPow fun i j => V.int (i ^ j.toNat)) (tC (.int i)) (tC (.int j))) (.int (i ^ j.toNat)) := ⟨_, .int _, fun _ _ _ q => ⟨i, j, rfl, rfl, h, q⟩⟩
theorem ma_mul {z : Str} {n : Int} (h : CMulS z n) : MkA (tOp rMulS (tC (.str z)) (tC (.int n))) (.str (Txt.mul z n)) := ⟨_, .str _, fun _ _ _ q => ⟨z, n, rfl, rfl, h, q⟩⟩
theorem mas_nil : MkAs tNil [] := ⟨[], .nil, fun _ _ _ q => q⟩
theorem mas_cons (a : MkA te d) (b : MkAs ta ds) : MkAs (tCons te ta) (d :: ds) := by
  obtain ⟨v, h1, h2⟩ := a
  obtain ⟨vs, g1, g2⟩ := b
  exact ⟨v :: vs, .cons h1 g1, fun σ H Q q => h2 σ H _ (g2 σ H _ q)⟩
theorem mk_atm (a : MkA te d) : Mk te d := by
  obtain ⟨v, h1, h2⟩ := a
  exact fun σ H Q q => h2 σ H Q (q v H Same.rfl (.atm h1))
theorem paired_len {α β : Type} {R : α → β → Prop} : ∀ {xs : List α} {ys : List β}, Paired R xs ys → xs.length = ys.length
  | _, _, .nil => rfl
  | _, _, .cons _ t => congrArg (· + 1) (paired_len t)
theorem mk_tup (a : MkAs ta ds) (hl : ds.length ≤ 1000) : Mk (tTup ta) (.tuple ds) := by
  obtain ⟨vs, g1, g2⟩ := a
  exact fun σ H Q q => g2 σ H _ ⟨few_len ((paired_len g1).symm ▸ hl), fun p hp => q _ _ (same_new hp) (.tup upd_same g1)⟩
theorem mk_lst (a : MkAs ta ds) (hl : ds.length ≤ 1000) : Mk (tLs1 ta) (.list ds) := by
  obtain ⟨vs, g1, g2⟩ := a
  exact fun σ H Q q => g2 σ H _ ⟨few_len ((paired_len g1).symm ▸ hl), fun p hp np => q _ _ (same_new hp) (.lst upd_same np g1)⟩
theorem mk_dnew : Mk tDNewK (.dict (kvD [])) := fun σ H Q q p hp => q _ _ (same_new hp) (.dct upd_same)
theorem mk_disp {a b : Str} : Mk (tDisp [(tC (.str a), tC (.str b))]) (.dict (kvD [(a, b)])) := by
  intro σ H Q q p hp
  refine ⟨upd_same, [(Sum.inr a, V.str b)], rfl, by show 1 ≤ 15; decide, ?_⟩
  refine q _ _ (fun c o h => ?_) (.dct (ps := [(a, b)]) upd_same)
  rw [upd_ne (ne_of_none h hp), upd_ne (ne_of_none h hp)]
  exact h
theorem mks_nil : Mks tNil [] := fun σ H Q q => q [] H Same.rfl .nil
theorem ths_keep {H H' : Hp} (k : Same H H') : ∀ {vs : List V} {ds : List PyData}, Paired (Th H) vs ds → Paired (Th H') vs ds
  | _, _, .nil => .nil
  | _, _, .cons a t => .cons (a.keep k) (ths_keep k t)
theorem mks_cons (a : Mk te d) (b : Mks ta ds) : Mks (tCons te ta) (d :: ds) := fun σ H Q q => a σ H _ fun v H1 s1 t1 => b σ H1 _ fun vs H2 s2 t2 => q _ _ (s1.trans s2) (.cons (t1.keep s2) t2)
/-- a list of such values -/
theorem mk_many (a : Mks ta ds) (hl : ds.length ≤ 1000) {σ : L2.St} {H : Hp} {Q : VK} (q : ∀ p xs H', Same H H' → H' p = some (.lst xs) → Paired (Th H') xs ds → Q (.ref p) H') : tLst ta σ H Q :=
  a σ H _ fun vs H1 s1 t1 => ⟨few_len ((paired_len t1).symm ▸ hl), fun p hp => q p vs _ (s1.trans (same_new hp)) upd_same (ths_keep (same_new hp) t1)⟩
theorem paired_app {α β : Type} {R : α → β → Prop} : ∀ {xs : List α} {ys : List β} {us : List α} {vs : List β}, Paired R xs ys → Paired R us vs → Paired R (xs ++ us) (ys ++ vs)
  | _, _, _, _, .nil, b => b
  | _, _, _, _, .cons a t, b => .cons a (paired_app t b)
theorem paired_mem {α β : Type} {R : α → β → Prop} : ∀ {xs : List α} {ys : List β} {x : α}, Paired R xs ys → x ∈ xs → ∃ y, y ∈ ys ∧ R x y
  | _, _, _, .cons a t, h => by
    rcases List.mem_cons.mp h with rfl | h
    · exact ⟨_, List.mem_cons_self, a⟩
    · obtain ⟨y, h1, h2⟩ := paired_mem t h
      exact ⟨y, List.mem_cons_of_mem _ h1, h2⟩
theorem sqL_same {H : Hp} {p : Addr} {xs : List V} {K : PySem.W.Frag} (h : H p = some (.lst xs)) : SqL K H p xs := SqL.of h
end
/-- nothing of such a value is the pen -/
theorem Th.ext {H H' : Hp} {p c : Addr} {T : Nat} {v : V} {d : PyData} (h : Th H v d) (hp : Pen H p c T) (x : Ext p H H') : Th H' v d := by
  obtain ⟨ns, t, l, hpp, _⟩ := hp.ex
  cases h with
  | atm a => exact .atm a
  | lst e n a => exact .lst (x _ _ e (fun z => by rw [z, hpp] at e; cases e)) n a
  | tup e a => exact .tup (x _ _ e (fun z => by rw [z, hpp] at e; cases e)) a
  | @dct a ps e =>
    refine .dct (x _ _ e (fun z => ?_))
    rw [z, hpp] at e
    have e2 : penL c t l = kvS ps := HO.dK.inj (Option.some.inj e)
    match ps, e2 with
    | [], e2 => cases e2
    | q :: r, e2 =>
      have z := congrArg (fun l => (l.head?).map (·.2)) e2
      cases z
end Vk
namespace Vk
open L2 PySem PySem.Spec PyProof.Rows PySem.VkX
theorem seq_asg {te : TE} {g : TG} {u : TS} {D : Ends} {σ : L2.St} {H : Hp} (h : te σ H fun v H1 => g v σ H1 (u D)) : tSeq (tAsg te g) u D σ H := h
end Vk
namespace Vk
open L2 PySem PySem.Spec PyProof.Rows PySem.VkX
def okB (d : PyData) : Bool := d.showable && decide (d.depth ≤ 60) && decide (d.shown.length ≤ 1000) && (PyData.list [d, d]).showable && decide ((PyData.list [d, d]).depth ≤ 60) && decide ((PyData.list [d, d]).shown.length ≤ 10000)
end Vk
set_option Elab.async false
set_option maxRecDepth 100000
set_option maxHeartbeats 4000000
set_option linter.all false
namespace Vk
open L2 PySem PySem.Spec PyProof.Rows PySem.VkX
/-! ## several except clauses, with a name or without -/
abbrev Sui := Addr → Value → Option Addr → TS
inductive Clz
  | only (c : Value) (ts : Sui)
  | named (c : Value) (i : Nat) (ts : Sui)
/-- the ends of a suite whose name lies in slot i: the name is gone behind it -/
def gone (D : Ends) (i : Nat) : Ends := { nx := fun σ H => D.nx (σ.set i none) H, rt := D.rt, bk := fun σ H => D.bk (σ.set i none) H, ct := fun σ H => D.ct (σ.set i none) H }
def wEach (K : PySem.W.Frag) (W0 : WX) (D : Ends) : List Clz → WX
  | [] => W0
  | .only c ts :: r => fun cls d σ H => ∃ b, PySem.W.exmOne K cls c = some b ∧ (b = true → ∀ a, H a = none → ts a cls d D σ H) ∧ (b = false → wEach K W0 D r cls d σ H)
  | .named c i ts :: r => fun cls d σ H => ∃ b, PySem.W.exmOne K cls c = some b ∧ (b = true → ∀ a, H a = none → ts a cls d (gone D i) (σ.set i (some (.ref a))) H) ∧ (b = false → wEach K W0 D r cls d σ H)
def SuiOk (X : Cx) (ss : List Stmt) (ts : Sui) : Prop := ∀ (a : Addr) (oe : Obj) (cls : Value) (d : Option Addr) (pn : List (Addr × Obj)), Zc cls d oe → (∃ vs, oe.data = .fields vs) → PSs (X.suite a ((a, oe) :: pn)) ss (ts a cls d)
inductive ClzOk (X : Cx) : List ExceptHandler → List Clz → Prop
  | nil : ClzOk X [] []
  | only {x : Str} {c : Value} {ts : Sui} {s0 : Stmt} {ss : List Stmt} {p1 p2 : Pos} {hs : List ExceptHandler} {l : List Clz} (hc : Names X x c) (su : SuiOk X (s0 :: ss) ts) (r : ClzOk X hs l) : ClzOk X (.ExceptHandler (some (.Name x p1)) none (s0 :: ss) p2 :: hs) (.only c ts :: l)
  | named {x n : Str} {c : Value} {i : Nat} {ts : Sui} {s0 : Stmt} {ss : List Stmt} {p1 p2 : Pos} {hs : List ExceptHandler} {l : List Clz} (hi : X.N[i]? = some n) (hl : X.env.kindOf n = some .local) (hc : Names X x c) (su : SuiOk X (s0 :: ss) ts) (r : ClzOk X hs l) :
      ClzOk X (.ExceptHandler (some (.Name x p1)) (some n) (s0 :: ss) p2 :: hs) (.named c i ts :: l)
section
variable {X : Cx} {body : List Stmt} {e0 : ExceptHandler} {es : List ExceptHandler} {l : List Clz} {pos : Pos} {tb : WX → TS} {W0 : WX}
theorem ps_try_each (hs : X.stack = X.env :: X.outer) (hf : X.env.frame = some X.env.locals) (hN : X.N.Nodup) (tk : Takes X W0)
    (hb : ∀ (W : WX) (pn : List (Addr × Obj)) (xe : Value → Shared → Prop), Takes (X.tr pn xe) W → PassesOwn (model X.prog X.w) X.A X.env xe → PSs (X.tr pn xe) body (tb W))
    (hh : ClzOk X (e0 :: es) l) : PS X (.Try body (e0 :: es) [] [] pos) (fun D σ H => tb (wEach X.K W0 D l) D σ H) := by
  constructor
  intro pins s σ H D I h
  have fine := I.ok
  have frames : X.A.frames = some (X.env :: X.outer) := fine.frames.trans (by rw [hs])
  let caught : Value → Shared → Prop := fun e t1 => wpAny (model X.prog X.w) X.A (noteFrame e X.env) (fun _ t2 => wpAny (model X.prog X.w) X.A (setFlight e none) (fun _ t3 => wpAny (model X.prog X.w) X.A (handleBy e X.env (e0 :: es)) (SP X pins D) X.xe t3) X.xe t2) X.xe t1
  have taken : Takes (X.tr (X.pn ++ pins) caught) (wEach X.K W0 D l) := by
    rintro u t1 ⟨a, B, sI, pins1, σ1, H1, cls, d, rfl, J0, ground, up, sky, na, os, ag, wish⟩
    have J : Inv X pins σ1 H1 sI := J0.ofTry fine
    have sky1 : Sky B (X.env :: X.outer) a (Zc cls d) X.env.locals t1.heap := hs ▸ sky
    show wpAny (model X.prog X.w) X.A (noteFrame (.ref a) X.env) _ _ _
    refine Sky.land Zc.steady frames hf sky1 fun h3 fl3 up3 => ?_
    have J3 : Inv X pins σ1 H1 { t1 with heap := h3 } := J.landed ground fl3.1 (up.trans up3) os ag
    obtain ⟨o3, v3, at3, z3, dat3⟩ := fl3.there
    have apart : a ∉ frs (X.env :: X.outer) := by
      intro hm
      obtain ⟨_, o, eo, plain⟩ := fl3.2.2.1.mem hm
      rw [at3] at eo
      cases eo
      exact plain _ dat3
    have notLoc : a ≠ X.env.locals := fun z => apart (List.mem_filterMap.mpr ⟨X.env, List.mem_cons_self, hf.trans (congrArg some z.symm)⟩)
    have notFs : a ∉ X.fs := fun hm => match List.mem_filterMap.mp hm with | ⟨e, he, q⟩ => apart (List.mem_filterMap.mpr ⟨e, List.mem_cons_of_mem _ he, q⟩)
    have S3 := J3.suite at3 dat3 na notLoc notFs
    have typed : PySem.W.Looks (model X.prog X.w) h3 (typeOf (.ref a)) cls := fun A Q E s k q => wpAny_typeOf_ref (k _ _ at3) (z3.1.symm ▸ q)
    have asked : ∀ {x : Str} {c : Value} {p1 : Pos} {Q : Value → Shared → Prop} {E : Value → Shared → Prop}, Names X x c → Q c { t1 with heap := h3 } → wpAny (model X.prog X.w) (X.A.mark (some (.ref a))) (eval (.Name x p1) X.env) Q E { t1 with heap := h3 } := by
      rintro x c p1 Q E ⟨g1, g2, g3⟩ q
      rcases g3 with g3 | ⟨g3, g4, g5⟩
      · exact ld_glob (X := X.suite a ((a, o3) :: (X.pn ++ pins))) S3 g1 g3 q g2
      · exact ld_blt (X := X.suite a ((a, o3) :: (X.pn ++ pins))) S3 g1 g3 g4 q g5 g2
    have walk : ∀ {hs1 : List ExceptHandler} {l1 : List Clz}, ClzOk X hs1 l1 → wEach X.K W0 D l1 cls d σ1 H1 → wpAny (model X.prog X.w) X.A (handleBy (.ref a) X.env hs1) (SP X pins D) X.xe { t1 with heap := h3 } := by
      intro hs1 l1 ok1
      induction ok1 with
      | nil =>
        intro w
        refine wpAny_handleBy_nil ?_
        obtain ⟨_, _, _, oe, vs, tr, _, _, he, _, hd, first1, _⟩ := id fl3
        unfold PySem.passOn
        refine wpAny_bind (wpAny_field he hd first1 ?_)
        rw [if_neg (show ¬ ((Value.ref tr == Value.none) = true) from by simp)]
        have out : wpAny (model X.prog X.w) X.A (setFlight (.ref a) X.env.frame) (fun _ t4 => wpAny (model X.prog X.w) X.A (throw (.ref a) : Sem Flow) (SP X pins D) X.xe t4) X.xe { t1 with heap := h3 } := by
          rw [hf]
          exact HandSPX.setFlight_upZ fl3 fun h4 held up4 => wpAny_throw (tk _ _ ⟨a, B, sI, pins, σ1, H1, cls, d, rfl, J, ground, (up.trans up3).trans up4, .inr (.inr (hs.symm ▸ held)), na, os, ag, w⟩)
        first
          | exact wpAny_bind (wpAny_pure (wpAny_bind out))
          | exact wpAny_bind out
      | only hc su r ih =>
        rintro ⟨b, m, yes, no⟩
        refine wpAny_handleBy_cons (codeAny_handlers_test (asked hc ((PySem.W.exm_one (M := model X.prog X.w) J3.kIn typed m).here ?_))) (by intro q; cases q)
        cases b with
        | false => exact ih (no rfl)
        | true =>
          refine codeAny_handlers_suite (HandSPX.lands_againZ fl3 fun h4 fl4 up4 => ?_)
          have J4 : Inv X pins σ1 H1 { t1 with heap := h4 } := J.landed ground fl4.1 ((up.trans up3).trans up4) os ag
          obtain ⟨o4, v4, at4, z4, dat4⟩ := fl4.there
          have S4 := J4.suite at4 dat4 na notLoc notFs
          refine wpAny_mono ((su a o4 cls d (X.pn ++ pins) z4 ⟨_, dat4⟩).run [] _ _ H1 _ S4 (yes rfl a na)) (fun f t6 sp => ?_) (fun _ _ z => z.elim)
          match f, sp with
          | .next, ⟨σ6, H6, S6, q6⟩ => exact ⟨_, _, S6.unsuite fine, q6⟩
          | .brk, ⟨σ6, H6, S6, q6⟩ => exact ⟨_, _, S6.unsuite fine, q6⟩
          | .cont, ⟨σ6, H6, S6, q6⟩ => exact ⟨_, _, S6.unsuite fine, q6⟩
          | .ret u, ⟨v6, σ6, H6, S6, r6, q6⟩ => exact ⟨_, _, _, S6.unsuite fine, r6, q6⟩
      | @named x n c i ts s0 ss p1 p2 hs2 l2 hi hl hc su r ih =>
        rintro ⟨b, m, yes, no⟩
        refine wpAny_handleBy_cons (codeAny_handlers_test (asked hc ((PySem.W.exm_one (M := model X.prog X.w) J3.kIn typed m).here ?_))) (by intro q; cases q)
        cases b with
        | false => exact ih (no rfl)
        | true =>
          refine codeAny_handlers_suite_as (HandSPX.lands_againZ fl3 fun h4 fl4 up4 => ?_)
          have J4 : Inv X pins σ1 H1 { t1 with heap := h4 } := J.landed ground fl4.1 ((up.trans up3).trans up4) os ag
          obtain ⟨o4, v4, at4, z4, dat4⟩ := fl4.there
          have S4 := J4.suite at4 dat4 na notLoc notFs
          refine store_ok (X := X.suite a ((a, o4) :: (X.pn ++ pins))) (v := .ref a) S4 hN hi (.inl hl) rfl (fun t5 S5 => ?_) (.inr hl)
          refine wpAny_mono ((su a o4 cls d (X.pn ++ pins) z4 ⟨_, dat4⟩).run [] t5 _ H1 _ S5 (yes rfl a na)) (fun f t6 sp => ?_) (fun _ _ z => z.elim)
          have drop1 : ∀ {σ6 : L2.St} {H6 : Hp} {Q : Shared → Prop}, Inv (X.suite a ((a, o4) :: (X.pn ++ pins))) [] σ6 H6 t6 → (∀ t7, Inv X pins (σ6.set i none) H6 t7 → Q t7) → wpAny (model X.prog X.w) X.A (do bindName X.env n .none; unbindBehindTheSuite X.env n p2) (fun _ t7 => Q t7) X.xe t6 := fun S6 hq => gone_ok (S6.unsuite fine) hN hi hl hq
          match f, sp with
          | .next, ⟨σ6, H6, S6, q6⟩ => exact drop1 S6 fun t7 J7 => ⟨_, _, J7, q6⟩
          | .brk, ⟨σ6, H6, S6, q6⟩ => exact drop1 S6 fun t7 J7 => ⟨_, _, J7, q6⟩
          | .cont, ⟨σ6, H6, S6, q6⟩ => exact drop1 S6 fun t7 J7 => ⟨_, _, J7, q6⟩
          | .ret u, ⟨v6, σ6, H6, S6, r6, q6⟩ => exact drop1 S6 fun t7 J7 => ⟨_, _, _, J7, r6, q6⟩
    exact walk hh wish
  refine wpAny_Try_except (wpAny_mono ((hb (wEach X.K W0 D l) (X.pn ++ pins) caught taken PassesOwn.looking).run [] s σ H D (I.toTry _) h) (fun f t1 sp => ?_) (fun e t1 he => he))
  match f, sp with
  | .next, ⟨σ1, H1, J, q⟩ => exact wpAny_execs_nil ⟨σ1, H1, J.ofTry fine, q⟩
  | .brk, ⟨σ1, H1, J, q⟩ => exact ⟨σ1, H1, J.ofTry fine, q⟩
  | .cont, ⟨σ1, H1, J, q⟩ => exact ⟨σ1, H1, J.ofTry fine, q⟩
  | .ret u, ⟨v, σ1, H1, J, r, q⟩ => exact ⟨v, σ1, H1, J.ofTry fine, r, q⟩
end
end Vk
set_option Elab.async false
set_option maxRecDepth 100000
set_option maxHeartbeats 4000000
set_option linter.all false
namespace Vk
open L2 PySem PySem.Spec PyProof.Rows PySem.VkX
/-! ## C(e, ..) to be raised -/
theorem oex_type {K : PySem.W.Frag} {C : Addr} (T : OexK K C) : PySem.W.typeIn K (.ref C) = some (.type "type") := by
  obtain ⟨B, newId, initId, tl, nm, q1, N, bs, sn, sub, ab, col, dd, k0, k1, k2, k3, k5, hB, hC⟩ := T.cls
  show (K.lookup C).map (·.cls) = _
  rw [hC] <;> rfl
def tMkE (C : Addr) (fsn : List Str) (ta : TA) : L2.St → Hp → XK → Prop := fun σ H Q => ta σ H fun vs H1 => vs.length = fsn.length ∧ ∀ d, H1 d = none → Q (.ref C) (some d) (upd H1 d (.xd (fsn.zip vs).reverse))
theorem let_go {H : Hp} {a d : Addr} {o1 o2 o3 : HO} (n : H a = none) (ne : d ≠ a) : upd (del (upd (upd H d o1) a o2) a) d o3 = upd H d o3 := by
  funext b
  by_cases hd : b = d
  · subst hd; rw [upd_same, upd_same]
  · rw [upd_ne hd, upd_ne hd]
    by_cases ha : b = a
    · subst ha; rw [del_same, n]
    · rw [del_ne ha, upd_ne ha, upd_ne hd]
section
variable {X : Cx} {j k : Nat} {x : Str} {C : Addr} {fsn : List Str} {p pos : Pos} {e : Expr} {es : List Expr} {t : TA}
theorem pmk_k (c : ClsI X.prog X.w X.K X.mg X.base k x C fsn) (hg : X.A.guards = some []) (hr : Room j X.A) (hk : k + 1 ≤ j) (hx : Passes CX0 X (fun _ _ _ => False)) (ha : PA X (e :: es) t) (hn : fsn.length ≤ 1000 := by decide) (h0 : fsn ≠ [] := by decide) (gl : Gl X x := by rfl)
    (hdb : (x == ("__debug__" : Str)) = false := by decide) (he : starEach (e :: es) X.env = (false, eval e X.env) :: starEach es X.env := by rfl) (hpl : (backTo pos (starEach es X.env)).any (·.1) = false := by rfl) :
    PMk X (.Call (.Name x p) (e :: es) [] pos) (tMkE C fsn t) := by
  intro pins s σ H Q I h
  refine wpAny_Call_Name_kw (ld_glob I gl c.hm (PySem.W.callWith_K (h₀ := X.base) I.ok.mod.kin c.T.kC (thn (ha.run pos pins s σ H _ I h) fun us s1 hh => ?_) he hpl) hdb)
  obtain ⟨vs, H1, I1, r, hl, q⟩ := hh
  refine ⟨I1.kIn, ?_⟩
  show wpAny _ _ (call (.ref C) us) _ _ _
  have hus : us.length ≤ sizeLine := few_len (by rw [← r.length, hl]; exact hn)
  obtain ⟨fI, fd, iC, tI, F, hbn, hbk⟩ := c.ex
  obtain ⟨B, newId, initId, tl, nm, q1, N, bs, sn, sub, ab, col, dd, k0, k1, k2, k3, k5, hB, hC⟩ := c.T.cls
  obtain ⟨hp, g, dr, tk, os⟩ := s1
  have big : hp.objs.size ≤ hp.objs.size + 1 := Nat.le_succ _
  have new1 : H1 (hp.objs.size + 1) = none := I1.hok.fresh big
  have kept : ∀ b o, hp.get? b = some o → ((hp.push (PySem.W.kdv_tup us)).push (PySem.HandSPX.excO C hp.objs.size)).get? b = some o := fun b o z => Heap.get?_push_of_some _ (Heap.get?_push_of_some _ z)
  have put : ((hp.push (PySem.W.kdv_tup us)).push (PySem.HandSPX.excO C hp.objs.size)).get? (hp.objs.size + 1) = some (PySem.HandSPX.excO C hp.objs.size) := by heap_get
  have I2 : Inv X pins σ (upd H1 (hp.objs.size + 1) (exo (hp.objs.size + 1) C none)) ⟨(hp.push (PySem.W.kdv_tup us)).push (PySem.HandSPX.excO C hp.objs.size), g, dr, tk, os⟩ :=
    I1.laid (t' := tk) (a := hp.objs.size + 1) (o := exo (hp.objs.size + 1) C none) kept big (exo_ok put)
  have sp1 : spIni C fsn (V.ref (hp.objs.size + 1) :: vs) (upd H1 (hp.objs.size + 1) (exo (hp.objs.size + 1) C none))
      (fun v H2 => v = .non ∧ ∃ d, H1 d = none ∧ d ≠ hp.objs.size + 1 ∧ H2 = upd (upd H1 d (exd d (fsn.zip vs).reverse)) (hp.objs.size + 1) (exo (hp.objs.size + 1) C (some d))) (fun _ _ _ => False) := by
    refine ⟨_, vs, rfl, hl, upd_same, fun z => absurd z h0, fun z d hd ne => ⟨rfl, d, ?_, ne, upd_over ne⟩⟩
    rw [upd_ne ne] at hd
    exact hd
  have bound := hbn ⟨(hp.push (PySem.W.kdv_tup us)).push (PySem.HandSPX.excO C hp.objs.size), g, dr, tk, os⟩ (.ref (hp.objs.size + 1) :: us) I2.kIn (by simpa using (r.length.symm.trans hl))
  rw [List.append_nil] at bound
  refine wpAny_call (call_ownK hB.F (I1.kIn _ _ hC) (PySem.W.looks_findIn I1.kIn iC) (fun self => PySem.W.bind_fn I1.kIn self tI) hus
    (codeAny_mono (F.run _ X.stack _ _ _ (Value.ref (hp.objs.size + 1) :: us) (V.ref (hp.objs.size + 1) :: vs) _ (fun _ _ _ => False) ?_ ((hr.mono hk).make C us []) (I2.env0.make C us []) bound (.cons rfl r) sp1) fun res s3 hz => ?_))
  · first
      | exact hg
      | (simpa [Around.under, Code.isGuard, guardIds] using hg)
  · match res, hz with
    | .error er, hz => exact hx pins σ _ _ er s3 I2 hz
    | .ok (.ret u), hz =>
      obtain ⟨v, H2, os2, bare2, un2, hok2, rv, ev, d, hd1, ne, eH⟩ := hz
      subst ev
      subst eH
      obtain ⟨h2, g2, d2, t2, osx⟩ := s3
      refine ⟨rv, mk_end (raises_own c.T.xf.exC (oex_type c.T)) I1 big kept un2 hok2 os2 bare2 upd_same ((upd_ne ne).trans upd_same) hd1 ?_⟩
      rw [let_go new1 ne]
      exact q d hd1
    | .ok .next, hz => exact hz.elim
    | .ok .brk, hz => exact hz.elim
    | .ok .cont, hz => exact hz.elim
end
/-- what such a class answers to a clause -/
theorem exm_own {K : PySem.W.Frag} {C D : Addr} {b : Bool} (T : OexK K D) (h : PySem.W.subIn K (.ref C) (.ref D) = some b) : PySem.W.exmOne K (.ref C) (.ref D) = some b := PySem.W.exm_ref T.xf.exC T.xf.hdC (oex_type T) h
end Vk
set_option Elab.async false
set_option maxRecDepth 100000
set_option maxHeartbeats 4000000
set_option linter.all false
namespace Vk
open L2 PySem PySem.Spec PyProof.Rows PySem.VkX
/-! ## instances of own classes whose __init__ may raise, made by position and by all keywords in the other order -/
structure MakI (P : Program) (w : World) (K : PySem.W.Frag) (mg : Str → Option Value) (base : Heap) (CX : CXT) (k : Nat) (x : Str) (C : Addr) (fsn : List Str) (sp : Sp) : Prop where
  hm : mg x = some (.ref C)
  ex : ∃ (fI : Addr) (fd : FuncData), L2.Mk K C fI ∧ FnG P w K mg base CX k fI fd (("self" : Str) :: fsn) sp ∧ Binds K fd (("self" : Str) :: fsn) [] ∧
    (∀ (s : Shared) (v : Value) (ws : List Value), K.In s.heap → ws.length = fsn.length → BindsTo s fd ⟨[v], fsn.reverse.zip ws⟩ ((("self" : Str) :: fsn).zip (v :: ws.reverse)))
def Born (C : Addr) (sp : Sp) (vs : List V) (H : Hp) (Q : VK) (E : XK) : Prop := ∀ a dx, H a = none → H dx = none → dx ≠ a → sp (.ref a :: vs) (upd (upd H dx (.own a)) a (.ins C dx [])) (fun v H2 => v = .non ∧ Q (.ref a) H2) E
section
variable {X : Cx} {CX : CXT} {E : XK} {j k : Nat} {x : Str} {C : Addr} {fsn : List Str} {sp : Sp} {p pos : Pos} {e : Expr} {es : List Expr} {t : TA}
theorem born_run {pins : List (Addr × Obj)} {σ : L2.St} {H : Hp} {s : Shared} {Q : VK} {us : List Value} {kw : List (Str × Value)} {vs : List V} {zs : List Value} {fI : Addr} {fd : FuncData} (M : L2.Mk X.K C fI) (F : FnG X.prog X.w X.K X.mg X.base CX k fI fd (("self" : Str) :: fsn) sp)
    (hg : X.A.guards = some []) (hr : Room (k + 1) X.A) (hx : Passes CX X E) (I : Inv X pins σ H s) (r : Vals vs zs) (q : Born C sp vs H Q E)
    (hb : ∀ s2 : Shared, X.K.In s2.heap → ∀ a : Addr, BindsTo s2 fd ⟨.ref a :: us, kw⟩ ((("self" : Str) :: fsn).zip (.ref a :: zs))) : wpAny (model X.prog X.w) X.A (call (.ref C) us kw) (EP X pins σ Q) X.xe s := by
  have I2 := Inv.made (C := C) I
  have asked := q (s.heap.objs.size + 1) s.heap.objs.size (I.hok.fresh (Nat.le_succ _)) (I.hok.fresh (Nat.le_refl _)) (Nat.ne_of_lt (Nat.lt_succ_self _))
  refine wpAny_call (make_map (f := fI) I.kIn M.makes M.init (beq_iff_eq.mp M.fn) (codeAny_mono (F.run _ X.stack _ _ _ (Value.ref (s.heap.objs.size + 1) :: zs) (V.ref (s.heap.objs.size + 1) :: vs) _ E ?_ (hr.make C us kw) (I2.env0.make C us kw) (hb _ I2.kIn _) (.cons rfl r) asked) fun res s3 hz => ?_))
  · first
      | exact hg
      | (simpa [Around.under, Code.isGuard, guardIds] using hg)
  · match res, hz with
    | .error er, hz => exact hx pins σ _ _ er s3 I2 hz
    | .ok (.ret u), hz =>
      obtain ⟨v, H2, I3, rv, ev, q3⟩ := I2.after hz
      subst ev
      exact ⟨rv, V.ref (s.heap.objs.size + 1), H2, I3, rfl, q3⟩
    | .ok .next, hz => exact hz.elim
    | .ok .brk, hz => exact hz.elim
    | .ok .cont, hz => exact hz.elim
def tIns (C : Addr) (n : Nat) (sp : Sp) (E : XK) (t : TA) : TE := fun σ H Q => t σ H fun vs H1 => vs.length = n ∧ Born C sp vs H1 Q E
def tInsW (C : Addr) (n : Nat) (sp : Sp) (E : XK) (t : TA) : TE := fun σ H Q => t σ H fun vs H1 => vs.length = n ∧ Born C sp vs.reverse H1 Q E
theorem pe_ins (c : MakI X.prog X.w X.K X.mg X.base CX k x C fsn sp) (hg : X.A.guards = some []) (hr : Room j X.A) (hk : k + 1 ≤ j) (hx : Passes CX X E) (ha : PA X (e :: es) t) (gl : Gl X x := by rfl)
    (hdb : (x == ("__debug__" : Str)) = false := by decide) (he : starEach (e :: es) X.env = (false, eval e X.env) :: starEach es X.env := by rfl) (hpl : (backTo pos (starEach es X.env)).any (·.1) = false := by rfl) :
    PE X (.Call (.Name x p) (e :: es) [] pos) (tIns C fsn.length sp E t) := by
  obtain ⟨fI, fd, M, F, hb, hbk⟩ := c.ex
  refine ⟨fun pins s σ H Q I h => wpAny_Call_Name_kw (ld_glob I gl c.hm (PySem.W.callWith_K (h₀ := X.base) I.ok.mod.kin M.kp (thn (ha.run pos pins s σ H _ I h) fun us s1 hh => ?_) he hpl) hdb)⟩
  obtain ⟨vs, H1, I1, r, hl, q⟩ := hh
  refine ⟨I1.kIn, born_run (us := us) (kw := []) M F hg (hr.mono hk) hx I1 r q fun s2 K2 a => ?_⟩
  have b := hb s2 (.ref a :: us) K2 (by simpa using (r.length.symm.trans hl))
  rw [List.append_nil] at b
  exact b
theorem pe_insW {kws : List Keyword} {tk : TA} (c : MakI X.prog X.w X.K X.mg X.base CX k x C fsn sp) (hg : X.A.guards = some []) (hr : Room j X.A) (hk : k + 1 ≤ j) (hx : Passes CX X E) (hkw : PK X kws tk) (gl : Gl X x := by rfl)
    (hall : (backToKw pos (keywordEach kws X.env)).all (·.1.isSome) = true := by rfl) (hks : (backToKw pos (keywordEach kws X.env)).filterMap (·.1) = fsn.reverse := by rfl) (hdb : (x == ("__debug__" : Str)) = false := by decide)
    (hpl : ((backTo pos (starEach [] X.env)).any (·.1) || (backToKw pos (keywordEach kws X.env)).any (·.1.isNone)) = false := by rfl) :
    PE X (.Call (.Name x p) [] kws pos) (tInsW C fsn.length sp E tk) := by
  obtain ⟨fI, fd, M, F, hb, hbk⟩ := c.ex
  refine ⟨fun pins s σ H Q I h => wpAny_Call_Name_kw (ld_glob I gl c.hm (PySem.W.callWith_KW0 (h₀ := X.base) I.ok.mod.kin M.kp hall (thn (hkw.run pos pins s σ H _ I h) fun ws s2 hh => ?_) hpl) hdb)⟩
  obtain ⟨vs, H2, I2, rz, l2, q2⟩ := hh
  refine ⟨I2.kIn, ?_⟩
  rw [hks]
  exact born_run (us := []) (zs := ws.reverse) M F hg (hr.mono hk) hx I2 (vals_back rz) q2 fun s3 K3 a => hbk s3 _ ws K3 (rz.length.symm.trans l2)
end
end Vk
set_option Elab.async false
set_option maxRecDepth 100000
set_option maxHeartbeats 4000000
set_option linter.all false
namespace Vk
open L2 PySem PySem.Spec PyProof.Rows PySem.VkX LamX NdefX
/-! ## a lambda as a value: made in a def, kept in lists, handed to a def that calls it -/
structure LF where
  qual : Str
  params : Arguments
  body : Expr
  scope : Scope
  cl : List (Str × Addr)
  c : Addr
def LF.nf (F : LF) : NF := ⟨"<lambda>", F.qual, F.params, [], F.scope, F.cl, F.c⟩
def LamO (f : Addr) (F : LF) : HO := .ext fun h => ∃ pm ctv : Value, h.get? f = some (PySem.W.kla_obj "<lambda>" F.qual F.params F.body F.scope F.cl pm F.c ctv)
theorem lamO_ne {f : Addr} {F : LF} (ps : Array Value) : LamO f F ≠ .tbl ps := fun z => by
  unfold LamO at z
  cases z
theorem lamO_at {P : Program} {w : World} {H : Hp} {h : Heap} {f : Addr} {F : LF} (ok : HOk P w H h) (e : H f = some (LamO f F)) : ∃ pm ctv : Value, h.get? f = some (PySem.W.kla_obj "<lambda>" F.qual F.params F.body F.scope F.cl pm F.c ctv) := (ok f _ e).1
section
variable {X : Cx} {pins : List (Addr × Obj)} {σ : L2.St} {H : Hp} {s : Shared}
theorem inv_lam {F : LF} {t' : Nat} {pm ctv : Value} (I : Inv X pins σ H s) :
    Inv X pins σ (upd H s.heap.objs.size (LamO s.heap.objs.size F)) { s with heap := s.heap.push (PySem.W.kla_obj "<lambda>" F.qual F.params F.body F.scope F.cl pm F.c ctv), toks := t' } := by
  have at1 : (s.heap.push (PySem.W.kla_obj "<lambda>" F.qual F.params F.body F.scope F.cl pm F.c ctv)).get? s.heap.objs.size = some (PySem.W.kla_obj "<lambda>" F.qual F.params F.body F.scope F.cl pm F.c ctv) := Heap.get?_push_size _ rfl
  exact I.laid (a := s.heap.objs.size) (fun b u q => Heap.get?_push_of_some _ q) (Nat.le_refl _) ⟨⟨pm, ctv, at1⟩, ⟨_, at1⟩, fun h1 h2 ⟨p, t, z⟩ stays => ⟨p, t, stays _ z⟩⟩
/-- the maker's table and code object, T the tables -/
theorem lam_new {T : List (Addr × Str)} {c P : Addr} {params : Arguments} {body : Expr} {scope : Scope} {pos : Pos} {E : Value → Shared → Prop} {Q : Value → Shared → Prop} (I : Inv X pins σ H s) (tb : TabB X.base X.mg c P) (code : X.env.code = .ref c)
    (mem : (P, X.env.qual ++ "<lambda>") ∈ T) (one : ∀ p ∈ T, p.1 = P → p.2 = X.env.qual ++ "<lambda>") (tabs : Tabs T H) (dflt : defaultsOf params X.env = ([], [])) (free : ∀ y ∈ scope.names, y.2 = .free → ∃ c, X.env.cells.lookup y.1 = some c)
    (k : ∀ (f c' : Addr) (H1 : Hp) (s' : Shared), Inv X pins σ H1 s' → ExtN H H1 → (∀ b, H1 b = none → H b = none) → Tabs T H1 → H f = none → H1 f = some (LamO f ⟨X.env.qual ++ "<lambda>", params, body, scope, cloFrom X.env.cells scope.names [], c'⟩) → H1 c' = some (CodeO c' (X.env.qual ++ "<lambda>")) → Q (.ref f) s') :
    wpAny (model X.prog X.w) X.A (eval (.Lambda params body scope pos) X.env) Q E s := by
  obtain ⟨ps, tP, trip, told⟩ := tabs _ mem
  have lies : s.heap.get? P = some { cls := .none, data := .fields ps } := I.hok P _ tP
  have blt : s.heap.BuiltinsAt X.mg P := tb.bm.keeps I.bk
  refine PySem.W.kla_eval dflt ?_
  match among : codeAmong pos ps.toList with
  | some cv =>
    obtain ⟨c', rfl, is⟩ := told pos cv among
    refine PySem.W.kla_makeFunctionHit (mg := X.mg) (c := c) (P := P) (ps := ps) (closure_ok free) I.ok.glob (I.mod.glob.keeps I.bk) code (tb.code.keeps I.bk) lies trip among blt fun ctv h' tk grown big => ?_
    have I1 : Inv X pins σ H { s with heap := h', toks := tk } := I.kept grown
    have new1 : H h'.objs.size = none := I1.hok.fresh (Nat.le_refl _)
    refine k h'.objs.size c' _ _ (inv_lam (F := ⟨X.env.qual ++ "<lambda>", params, body, scope, cloFrom X.env.cells scope.names [], c'⟩) (t' := tk) (pm := (X.mg "__name__").getD .none) (ctv := ctv) I1) (fun b o e n => ?_) (fun b e => upd_none e) (tabs.ext fun b o e => ?_) new1 upd_same ?_
    · rw [upd_ne (ne_of_none e new1)]; exact e
    · rw [upd_ne (ne_of_none e new1)]; exact e
    · rw [upd_ne (ne_of_none is new1)]; exact is
  | none =>
    refine PySem.W.kla_makeFunction (mg := X.mg) (c := c) (P := P) (ps := ps) (closure_ok free) I.ok.glob (I.mod.glob.keeps I.bk) code (tb.code.keeps I.bk) lies trip among tb.gP blt fun c' ctv h' tk grown low high rec2 put => ?_
    obtain ⟨c2, oc, vs, t, ec, hoc, hd, hv⟩ := rec2
    cases ec
    have newC : H c' = none := I.hok.fresh low
    have I1 := inv_table (t' := tk) (more := #[rawInt pos.line, rawInt pos.col, .ref c']) (h' := h') I tP (fun b o hb e => grown b o hb e) put low ⟨oc, vs, t, hoc, hd, hv⟩
    have out1 : ExtN H (upd (upd H P (.tbl (ps ++ #[rawInt pos.line, rawInt pos.col, .ref c']))) c' (CodeO c' (X.env.qual ++ "<lambda>"))) := fun b o e n => by
      have hb : b ≠ P := fun z => n ps (Option.some.inj (e.symm.trans (z ▸ tP)))
      rw [upd_ne (ne_of_none e newC), upd_ne hb]
      exact e
    have tabs1 : Tabs T (upd (upd H P (.tbl (ps ++ #[rawInt pos.line, rawInt pos.col, .ref c']))) c' (CodeO c' (X.env.qual ++ "<lambda>"))) := fun p hp => by
      by_cases hb : p.1 = P
      · rw [one p hp hb, hb]
        have whole : (ps ++ #[rawInt pos.line, rawInt pos.col, .ref c']).toList = ps.toList ++ [rawInt pos.line, rawInt pos.col, .ref c'] := by simp
        refine ⟨_, by rw [upd_ne (ne_of_none tP newC), upd_same], by rw [whole]; exact PySem.TriplesOk_snoc _ _ _ _ trip, fun p' cv hcv => ?_⟩
        rw [whole] at hcv
        rcases among_app _ trip hcv with z | z
        · obtain ⟨c0, e1, e2⟩ := told p' cv z
          exact ⟨c0, e1, out1 _ _ e2 codeO_ne⟩
        · exact ⟨c', z, upd_same⟩
      · obtain ⟨ps', a1, a2, a3⟩ := tabs p hp
        refine ⟨ps', by rw [upd_ne (ne_of_none a1 newC), upd_ne hb]; exact a1, a2, fun p' cv hcv => ?_⟩
        obtain ⟨c0, e1, e2⟩ := a3 p' cv hcv
        exact ⟨c0, e1, out1 _ _ e2 codeO_ne⟩
    have newF := I1.hok.fresh (Nat.le_refl _)
    have newF0 : H h'.objs.size = none := upd_none (upd_none newF)
    refine k h'.objs.size c' _ _ (inv_lam (F := ⟨X.env.qual ++ "<lambda>", params, body, scope, cloFrom X.env.cells scope.names [], c'⟩) (t' := tk) (pm := (X.mg "__name__").getD .none) (ctv := ctv) I1) (fun b o e n => ?_) (fun b e => upd_none (upd_none (upd_none e))) (tabs1.ext fun b o e => ?_) newF0 upd_same ?_
    · have e1 := out1 b o e n
      rw [upd_ne (ne_of_none e1 newF)]; exact e1
    · rw [upd_ne (ne_of_none e newF)]; exact e
    · rw [upd_ne (Nat.ne_of_lt high)]; exact upd_same
end
def tLamV (T : List (Addr × Str)) (mk : Addr → LF) : TE := fun σ H Q => Tabs T H ∧ ∀ (f c' : Addr) (H1 : Hp), ExtN H H1 → (∀ b, H1 b = none → H b = none) → Tabs T H1 → H f = none → H1 f = some (LamO f (mk c')) → H1 c' = some (CodeO c' (mk c').qual) → Q (.ref f) H1
section
variable {X : Cx}
theorem pe_lamv {T : List (Addr × Str)} {c P : Addr} {params : Arguments} {body : Expr} {scope : Scope} {pos : Pos} (tb : TabB X.base X.mg c P) (code : X.env.code = .ref c) (mem : (P, X.env.qual ++ "<lambda>") ∈ T) (one : ∀ p ∈ T, p.1 = P → p.2 = X.env.qual ++ "<lambda>")
    (dflt : defaultsOf params X.env = ([], [])) (free : ∀ y ∈ scope.names, y.2 = .free → X.env.scope.names.lookup y.1 = some .cell ∨ X.env.scope.names.lookup y.1 = some .free) :
    PE X (.Lambda params body scope pos) (tLamV T fun c' => ⟨X.env.qual ++ "<lambda>", params, body, scope, cloFrom X.env.cells scope.names [], c'⟩) := by
  refine ⟨fun pins s σ H Q I h => lam_new I tb code mem one h.1 dflt (fun y hy e => I.ok.has y.1 (free y hy e)) fun f c' H1 s' I1 x1 b1 t1 n1 f1 c1 => ?_⟩
  exact ⟨.ref f, H1, I1, rfl, h.2 f c' H1 x1 b1 t1 n1 f1 c1⟩
end
/-! ### what it does -/
abbrev SpL := List (Option V) → Hp → VK → XK → Prop
structure LamK (P : Program) (w : World) (K : PySem.W.Frag) (mg : Str → Option Value) (base : Heap) (k : Nat) (F : LF) (fr : List Str) (sp : SpL) : Prop where
  run : ∀ (A : Around) (outer : List Env) (s : Shared) (H : Hp) (f : Addr) (ws : List (Option V)) (Q : VK) (E : XK), A.guards = some [] → Room k A → Env0 P w K mg base A outer s H → H f = some (LamO f F) → H F.c = some (CodeO F.c F.qual) → CellsAt F.cl fr ws s.heap H → sp ws H Q E →
    codeAny (model P w) A (.call (.ref f) ⟨[], []⟩) (CR (L2.CX P w) outer P w H s Q E) s
section
variable {P : Program} {w : World} {K : PySem.W.Frag} {mg : Str → Option Value} {base : Heap} {N fr : List Str} {F : LF} {k j : Nat} {sp : SpL}
theorem LamK.mono (l : LamK P w K mg base j F fr sp) (h : j ≤ k) : LamK P w K mg base k F fr sp := ⟨fun A outer s H f ws Q E hg hr => l.run A outer s H f ws Q E hg (hr.mono h)⟩
theorem lamk_of (S : NScope N [] fr F.scope) (hb : ∀ pm ctv : Value, bindArgs (PySem.W.kla_fn "<lambda>" F.qual F.params F.body F.scope F.cl pm (.ref F.c) ctv) ⟨[], []⟩ = pure [])
    (body : ∀ (A : Around) (outer : List Env) (s : Shared) (H : Hp) (f : Addr) (ws : List (Option V)) (Q : VK) (E : XK), A.guards = some [] → Room k (A.deeper (envF F.nf f s.heap.objs.size)) → ws.length = fr.length → sp ws H Q E →
      ∃ t, PE (ncx (L2.CX P w) P w K mg base N F.nf f A outer s H E) F.body t ∧ t (startF N [] ws) H Q) : LamK P w K mg base (k + 1) F fr sp := by
  refine ⟨fun A outer s H f ws Q E hg hr e0 hf hc C hsp => ?_⟩
  have lim : s.heap.NoLimit := e0.mod.nolimit.keeps fun b o e => (e0.bs b o e).1
  obtain ⟨pm, ctv, ho⟩ := lamO_at e0.hok hf
  refine PySem.W.kla_callFunE hr.depth ho rfl S.co S.gen rfl (codeO_at e0.hok hc) ?_
  rw [hb pm ctv]
  refine wpAny_pure (wpAny_newFunctionEnv S.nocell (fun y hy => absurd hy (List.not_mem_nil (a := y))) (fun h1 hns hsb => ⟨lim.fresh _ hsb, ?_⟩) S.kind)
  have kp : ∀ b o, s.heap.get? b = some o → h1.get? b = some o := fun b o e => hsb.extBut b o (Nat.ne_of_lt (Heap.lt_size e)) (Heap.get?_push_of_some _ e)
  obtain ⟨t, ht, hq⟩ := body A outer s H f ws Q E hg (hr.deeper _) C.len hsp
  have I : Inv (ncx (L2.CX P w) P w K mg base N F.nf f A outer s H E) [] (startF N [] ws) H { s with heap := h1, toks := s.toks + ([] : List (Str × Value)).length } := inv_startN (ps := []) (us := []) (vs := []) S hr.hd e0 rfl .nil C hns kp
  refine PySem.W.kla_codeExpr (wpAny_mono (ht.run [] _ _ H Q I hq) (fun v s' hv => ?_) fun e s' hv => hv)
  obtain ⟨v1, H1, J, rv, q⟩ := hv
  exact ⟨v1, H1, J.os, J.bare, J.base, J.hok, rv, q⟩
end
/-! ### called by the def that got it -/
theorem cells_later {X : Cx} {pins : List (Addr × Obj)} {σ : L2.St} {H : Hp} {s : Shared} {cl : List (Str × Addr)} {fr : List Str} {ws : List (Option V)} (C : CellsAt cl fr ws X.s_0.heap X.H_0) (hx : X.ex = []) (I : Inv X pins σ H s) : CellsAt cl fr ws s.heap H := by
  have out : ∀ c : Addr, c ∉ X.ex := fun c z => by
    rw [hx] at z
    exact absurd z (List.not_mem_nil (a := c))
  have same : ∀ y c, cl.lookup y = some c → ∀ v, X.s_0.heap.IsCell c v → s.heap.IsCell c v := fun y c e v ⟨o, ho, hd⟩ => by
    obtain ⟨sl, z⟩ := I.base.any ho (C.all y c e).1 (out c)
    exact ⟨_, z, hd⟩
  refine ⟨C.len, fun y c e => ?_, C.inj, fun i y e => ?_⟩
  · obtain ⟨n, v, z⟩ := C.all y c e
    have z2 := same y c e v z
    obtain ⟨o, ho, _⟩ := z
    exact ⟨I.base.free c o ho n (out c), v, z2⟩
  · obtain ⟨c, hc, hv⟩ := C.has i y e
    refine ⟨c, hc, fun v ev => ?_⟩
    obtain ⟨u, r, z⟩ := hv v ev
    exact ⟨u, r, same y c hc _ z⟩
section
variable {X : Cx} {F : LF} {fr : List Str} {ws : List (Option V)} {i j k : Nat} {x : Str} {sp : SpL} {E : XK} {p pos : Pos} {f0 : Addr}
/-- x(), x a name that holds the lambda -/
theorem pe_lamact (C : CellsAt F.cl fr ws X.s_0.heap X.H_0) (hx0 : X.ex = []) (L : LamK X.prog X.w X.K X.mg X.base k F fr sp) (hg : X.A.guards = some []) (hr : Room j X.A) (hk : k ≤ j) (hx : Passes (L2.CX X.prog X.w) X E) (hN : X.N[i]? = some x) (hv : Vis X.env.scope x)
    (hd : (x == ("__debug__" : Str)) = false := by decide) (hcd : (x == ("__classdict__" : Str)) = false := by decide) :
    PE X (.Call (.Name x p) [] [] pos) (fun σ H Q => σ[i]? = some (some (.ref f0)) ∧ H f0 = some (LamO f0 F) ∧ H F.c = some (CodeO F.c F.qual) ∧ sp ws H Q E) := by
  refine ⟨fun pins s σ H Q I h => ?_⟩
  obtain ⟨hs, hf, hc, hsp⟩ := h
  refine wpAny_Call_Name_kw (thn ((pe_var (pos := p) hN hv hd hcd).run pins s σ H (fun v H1 => v = .ref f0 ∧ H1 = H) I ⟨.ref f0, hs, rfl, rfl⟩) fun u s1 ⟨v, H1, I1, r1, q1⟩ => ?_)
  obtain ⟨ev, eH⟩ := q1
  subst ev
  subst eH
  obtain rfl : u = Value.ref f0 := r1
  obtain ⟨pm, ctv, ho⟩ := lamO_at I1.hok hf
  refine PySem.W.callWith_F0 ⟨_, _, _, _, ho⟩ (wpAny_call (codeAny_mono (L.run X.A X.stack s1 H1 f0 ws Q E hg (hr.mono hk) I1.env0 hf hc (cells_later C hx0 I1) hsp) fun r s2 hq => ?_))
  match r, hq with
  | .error e, hq => exact hx pins σ H1 s1 e s2 I1 hq
  | .ok (.ret u), hq => exact I1.after hq
  | .ok .next, hq => exact hq.elim
  | .ok .brk, hq => exact hq.elim
  | .ok .cont, hq => exact hq.elim
end
/-! ### defs whose promise speaks of the cells that the heap holds -/
structure FnH (P : Program) (w : World) (K : PySem.W.Frag) (mg : Str → Option Value) (base : Heap) (CX : CXT) (k : Nat) (f : Addr) (fd : FuncData) (ps : List Str) (sp : Heap → Sp) : Prop where
  len : ∀ h vs H Q E, sp h vs H Q E → vs.length = ps.length
  run : ∀ (A : Around) (outer : List Env) (s : Shared) (H : Hp) (args : Args) (us : List Value) (vs : List V) (Q : VK) (E : XK), A.guards = some [] → Room k A → Env0 P w K mg base A outer s H → BindsTo s fd args (ps.zip us) → Vals vs us → sp s.heap vs H Q E →
    codeAny (model P w) A (.call (.ref f) args) (CR CX outer P w H s Q E) s
theorem okH {P : Program} {w : World} {K : PySem.W.Frag} {mg : Str → Option Value} {base : Heap} {CX : CXT} {x qual : Str} {st : Stmt} {f : Addr} {fd : FuncData} {N ps : List Str} {k : Nat} {sp : Heap → Sp} (F : Fun K x qual st f fd) (S : FnScope N ps (defScope st)) (hlen : ∀ h vs H Q E, sp h vs H Q E → vs.length = ps.length)
    (hbody : ∀ (cdv : Value) (A : Around) (outer : List Env) (s : Shared) (H : Hp) (vs : List V) (Q : VK) (E : XK), A.guards = some [] → Room k (A.deeper (envOfC qual (defScope st) s.heap.objs.size f cdv)) → sp s.heap vs H Q E →
      ∃ t, PSs (cxOf CX P w K mg base N qual (defScope st) f cdv A outer s H E) (defBody st) t ∧ t { nx := fun _ H' => Q .non H', rt := Q } (start N vs) H) : FnH P w K mg base CX (k + 1) f fd ps sp := by
  refine ⟨hlen, fun A outer s H args us vs Q E hg hr e0 hb r hsp => ?_⟩
  obtain ⟨oc, od, kV, doc, pm, an, cdv, ct, osl, rfl, lk, hcd⟩ := F.ex
  exact run_ofS lk hcd S hr e0 hb r (hlen _ _ _ _ _ hsp) fun hr2 => hbody cdv A outer s H vs Q E hg hr2 hsp
structure CalH (P : Program) (w : World) (K : PySem.W.Frag) (mg : Str → Option Value) (base : Heap) (CX : CXT) (k : Nat) (x : Str) (sp : Heap → Sp) : Prop where
  ex : ∃ (f : Addr) (fd : FuncData) (ps : List Str), FnH P w K mg base CX k f fd ps sp ∧ mg x = some (.ref f) ∧ PySem.W.keepIn K (.ref f) = true ∧ Binds K fd ps []
/-- x(e, ..): rd says of the values and the names what the call asks -/
def tCallH (rd : L2.St → List V → Hp → VK → Prop) (t : TA) : TE := fun σ H Q => t σ H fun vs H1 => rd σ vs H1 Q
section
variable {X : Cx} {CX : CXT} {j k : Nat} {x : Str} {sp : Heap → Sp} {E : XK} {p pos : Pos} {e : Expr} {es : List Expr} {t : TA} {rd : L2.St → List V → Hp → VK → Prop}
theorem pe_cH (c : CalH X.prog X.w X.K X.mg X.base CX k x sp) (hg : X.A.guards = some []) (hr : Room j X.A) (hk : k ≤ j) (hx : Passes CX X E) (ha : PA X (e :: es) t)
    (asks : ∀ (pins : List (Addr × Obj)) (s : Shared) (σ : L2.St) (H : Hp) (vs : List V) (Q : VK), Inv X pins σ H s → rd σ vs H Q → sp s.heap vs H Q E) (gl : Gl X x := by rfl)
    (hdb : (x == ("__debug__" : Str)) = false := by decide) (he : starEach (e :: es) X.env = (false, eval e X.env) :: starEach es X.env := by rfl) (hpl : (backTo pos (starEach es X.env)).any (·.1) = false := by rfl) :
    PE X (.Call (.Name x p) (e :: es) [] pos) (tCallH rd t) := by
  obtain ⟨f, fd, ps, F, hm, kp, hb⟩ := c.ex
  refine ⟨fun pins s σ H Q I h => wpAny_Call_Name_kw (ld_glob I gl hm (PySem.W.callWith_K (h₀ := X.base) I.ok.mod.kin kp (thn (ha.run pos pins s σ H _ I h) fun us s1 hh => ?_) he hpl) hdb)⟩
  obtain ⟨vs, H1, I1, r, q⟩ := hh
  have q := asks pins s1 σ H1 vs Q I1 q
  have hl : us.length = ps.length := r.length.symm.trans (F.len _ _ _ _ _ q)
  have b := hb s1 us I1.kIn ((congrArg List.length (List.append_nil us)).trans hl)
  rw [List.append_nil] at b
  refine ⟨I1.kIn, wpAny_call (codeAny_mono (F.run X.A X.stack s1 H1 ⟨us, []⟩ us vs Q E hg (hr.mono hk) I1.env0 b r q) (fun res s2 hq => ?_))⟩
  match res, hq with
  | .error e, hq => exact hx pins σ H1 s1 e s2 I1 hq
  | .ok (.ret u), hq => exact I1.after hq
  | .ok .next, hq => exact hq.elim
  | .ok .brk, hq => exact hq.elim
  | .ok .cont, hq => exact hq.elim
end
/-! ### isinstance(e, T) of a caught exception that has fields -/
theorem call_isEd {X : Cx} {a C : Addr} {cls : Value} {d : Option Addr} {oe : Obj} {pn : List (Addr × Obj)} (T : OexK X.K C) (hz : Zc cls d oe) (hf : ∃ vs, oe.data = .fields vs) :
    CallR (X.suite a ((a, oe) :: pn)) (.builtin "isinstance") (fun xs H Q => ∃ (c : V) (cv : Value) (b : Bool) (dd : Addr) (fs : List (Str × V)), xs = [.ref a, c] ∧ cls = .ref C ∧ d = some dd ∧ H dd = some (.xd fs) ∧ (∀ u, RelV c u → u = cv) ∧ PySem.W.kitOne X.K (.ref C) cv = some b ∧ Q (.bl b) H) := by
  intro pins s σ H xs us Q I r h
  obtain ⟨c, cv, b, dd, fs, rfl, rfl, rfl, ed, hc, e, q⟩ := h
  obtain ⟨u1, u2, rfl, r1, r2⟩ := vals2 r
  cases (show u1 = Value.ref a from r1)
  cases hc u2 r2
  obtain ⟨ha, _⟩ := I.pin (a, oe) (List.mem_append_left _ List.mem_cons_self)
  obtain ⟨vs, hd⟩ := hf
  obtain ⟨mA, hns, hr⟩ := (show ObjOk X.prog X.w H s.heap dd (.xd fs) from I.hok dd _ ed)
  obtain ⟨od, ho, hl⟩ := lookIn_ns hns
  have J : PySem.W.InstAt s.heap a oe C (some od) := ⟨ha, hz.1, by unfold PySem.W.notCls; rw [hd] <;> rfl, by rw [hz.2]; exact ho⟩
  obtain ⟨B, newId, initId, tl, nm, q1, N, bs, sn, sub, ab, col, dd2, k0, k1, k2, k3, k5, hB, hC⟩ := T.cls
  have hcl : (PySem.W.clsIn X.K C).isSome = true := by unfold PySem.W.clsIn; rw [hC] <;> rfl
  exact PySem.W.kia_one (PySem.W.kitx_exc hcl T.ic.hg T.ic.hk T.ic.hs T.ic.ha T.ic.hn T.ic.ht T.ic.hm) I.kIn J e (fun z => nomatch z) fun tk => ⟨.bl b, H, I.tok tk, rfl, q⟩
theorem passes_len {X : Cx} {W : WX} {E : XK} (tk : Takes X W) (hW : ∀ cls d σ H, σ.length = X.N.length → E cls d H → W cls d σ H) : Passes (L2.CX X.prog X.w) X E := fun _ σ _ _ e s' I c => tk e s' (XE.of_call I (fun cls d H' h => hW cls d σ H' I.len h) c)
/-- try: return x() of a lambda that x holds -/
def tTryLam (f : Addr) (F : LF) (ws : List (Option V)) (sp : SpL) (n : Nat) : WX → TS := fun W D σ H => ∃ E : XK, (∀ cls d (σ' : L2.St) H', σ'.length = n → E cls d H' → W cls d σ' H') ∧ σ[0]? = some (some (.ref f)) ∧ H f = some (LamO f F) ∧ H F.c = some (CodeO F.c F.qual) ∧ sp ws H D.rt E
theorem pss_tryLam {X : Cx} {W : WX} {pn : List (Addr × Obj)} {xe : Value → Shared → Prop} {f : Addr} {F : LF} {fr : List Str} {ws : List (Option V)} {sp : SpL} {j k n : Nat} {x : Str} {p1 p2 p3 : Pos} (tk : Takes (X.tr pn xe) W) (C : CellsAt F.cl fr ws X.s_0.heap X.H_0) (hx0 : X.ex = [])
    (L : LamK X.prog X.w X.K X.mg X.base k F fr sp) (hg : X.A.guards = some []) (hr : Room j X.A) (hk : k ≤ j) (hl : X.N.length = n) (hN : X.N[0]? = some x) (hv : Vis X.env.scope x) (hd : (x == ("__debug__" : Str)) = false := by decide) (hcd : (x == ("__classdict__" : Str)) = false := by decide) :
    PSs (X.tr pn xe) [.Return (some (.Call (.Name x p1) [] [] p2)) p3] (tTryLam f F ws sp n W) := by
  refine ⟨fun pins s σ H D I h => ?_⟩
  obtain ⟨E, hW, h1, h2, h3, h4⟩ := h
  exact (pss_one (ps_ret (pe_lamact (X := X.tr pn xe) (f0 := f) C hx0 L hg hr hk (passes_len tk fun cls d σ' H' le => hW cls d σ' H' (le.trans hl)) hN hv hd hcd))).run pins s σ H D I ⟨h1, h2, h3, h4⟩
/-! ### a def whose code object is known -/
structure FunC (K : PySem.W.Frag) (x qual : Str) (st : Stmt) (f : Addr) (fd : FuncData) (c : Addr) : Prop where
  ex : ∃ (oc : Value) (od : Option Addr) (kV doc pm : Value) (an : Option Addr) (ct : Value) (sl : Array (Option Value)), fd = PySem.W.fnOf x qual (defArgs st) (defBody st) (defScope st) .none kV doc pm an (.ref c) ct ∧ K.lookup f = some ⟨oc, od, .func fd, sl⟩ ∧ PySem.W.codeIn K (.ref c) qual = true
  kp : PySem.W.keepIn K (.ref f) = true
theorem FunC.fn {K : PySem.W.Frag} {x qual : Str} {st : Stmt} {f c : Addr} {fd : FuncData} (F : FunC K x qual st f fd c) : Fun K x qual st f fd := by
  obtain ⟨oc, od, kV, doc, pm, an, ct, sl, e, l, hc⟩ := F.ex
  exact ⟨⟨oc, od, kV, doc, pm, an, .ref c, ct, sl, e, l, hc⟩, F.kp⟩
theorem okC0 {P : Program} {w : World} {K : PySem.W.Frag} {mg : Str → Option Value} {base : Heap} {x qual : Str} {st : Stmt} {f c : Addr} {fd : FuncData} {N ps : List Str} {k : Nat} {sp : Sp} (F : FunC K x qual st f fd c) (S : FnScope N ps (defScope st)) (hlen : ∀ vs H Q E, sp vs H Q E → vs.length = ps.length)
    (hbody : ∀ (A : Around) (outer : List Env) (s : Shared) (H : Hp) (vs : List V) (Q : VK) (E : XK), A.guards = some [] → Room k (A.deeper (envOfC qual (defScope st) s.heap.objs.size f (.ref c))) → sp vs H Q E →
      ∃ t, PSs (cxOf CX0 P w K mg base N qual (defScope st) f (.ref c) A outer s H E).nox (defBody st) t ∧ t { nx := fun _ H' => Q .non H', rt := Q } (start N vs) H) : FnG P w K mg base CX0 (k + 1) f fd ps sp := by
  refine ⟨hlen, fun A outer s H args us vs Q E hg hr e0 hb r hsp => ?_⟩
  obtain ⟨oc, od, kV, doc, pm, an, ct, sl, rfl, lk, hcd⟩ := F.ex
  refine run_ofS lk hcd S hr e0 hb r (hlen _ _ _ _ hsp) fun hr2 => ?_
  obtain ⟨t, ht, hq⟩ := hbody A outer s H vs Q E hg hr2 hsp
  exact ⟨t, ht.nox, hq⟩
end Vk
set_option Elab.async false
set_option maxRecDepth 100000
set_option maxHeartbeats 4000000
set_option linter.all false
namespace Vk
open PySem PySem.Spec PyProof.Rows PySem.SeqAt L2
open Builtin
section
variable {prog : Program} {w : World} {A : Around} {E : Value → Shared → Prop} {s : Shared} {K : PySem.W.Frag} {x C : Addr} {ox : Obj} {od : Option Obj}
theorem within_no {T : String} (X : K.In s.heap) (I : PySem.W.InstAt s.heap x ox C od) (hm : PySem.W.mroIn K C (.type T) = some false) : PySem.W.Looks (model prog w) s.heap (isInstance (.ref x) (.type T)) false := I.type.andThen (PySem.W.looks_mroIn X hm)
theorem tup_dec {l : Addr} {items : Array Value} {n : Nat} {dd : Option Addr} {sl : Array (Option Value)} {Q : Value → Shared → Prop} (hl : s.heap.get? l = some { cls := .type "tuple", dict := dd, data := .seq items n, slots := sl }) (X : K.In s.heap) (I : PySem.W.InstAt s.heap x ox C od)
    (hm : PySem.W.mroIn K C (.type "tuple") = some false) (hq : Q .notImplemented s) : wpAny (model prog w) A (call (.builtin "tuple.__eq__") [.ref l, .ref x]) Q E s := by
  refine GQ.call_here F.slot_tuple_eq ⟨_, hl, rfl⟩ F.entry_tuple_eq (F.args_tuple_eq_2 _ _) ?_
  have no := within_no (prog := prog) (w := w) X I hm
  obtain ⟨hp, g, d, tk, os⟩ := s
  repeat (first | with_reducible refine no.here ?_ | with_reducible refine no.at ?_ | with_reducible refine AutoSeq1.wpAny_loadPart' hl ?_ | wp_step)
  exact hq
theorem lst_dec {l : Addr} {items : Array Value} {n : Nat} {dd : Option Addr} {sl : Array (Option Value)} {Q : Value → Shared → Prop} (hl : s.heap.get? l = some { cls := .type "list", dict := dd, data := .seq items n, slots := sl }) (X : K.In s.heap) (I : PySem.W.InstAt s.heap x ox C od)
    (hm : PySem.W.mroIn K C (.type "list") = some false) (hq : Q .notImplemented s) : wpAny (model prog w) A (call (.builtin "list.__eq__") [.ref l, .ref x]) Q E s := by
  refine GQ.call_here F.slot_list_eq ⟨_, hl, rfl⟩ F.entry_list_eq (F.args_list_eq_2 _ _) ?_
  have no := within_no (prog := prog) (w := w) X I hm
  obtain ⟨hp, g, d, tk, os⟩ := s
  repeat (first | with_reducible refine no.here ?_ | with_reducible refine no.at ?_ | with_reducible refine AutoSeq1.wpAny_loadPart' hl ?_ | wp_step)
  exact hq
theorem str_dec {z : Str} {t : Tok} {Q : Value → Shared → Prop} (I : PySem.W.InstAt s.heap x ox C od) (hp : ox.data = .plain) (hq : Q .notImplemented s) : wpAny (model prog w) A (call (.builtin "str.__eq__") [.str z t, .ref x]) Q E s := by
  refine GQ.call_here F.slot_str_eq (typeIs_str _ _ _) F.entry_str_eq (F.args_str_eq_2 _ _) ?_
  obtain ⟨h1, h2, h3, h4⟩ := I
  obtain ⟨hp2, g, d, tk, os⟩ := s
  repeat (first | with_reducible refine AutoSeq1.wpAny_loadPart' h1 ?_ | with_reducible refine wpAny_load h1 ?_ | wp_step)
  rw [hp]
  repeat (first | wp_step)
  exact hq
theorem rc_refl {u : Value} {T id : String} {f : Addr} {Q : Value → Shared → Prop} (hT : s.TypeIs u T) (slot : Slot T "__eq__" id) (X : K.In s.heap) (I : PySem.W.InstAt s.heap x ox C od) (hm : PySem.W.mroIn K C (.type T) = some false) (hu : A.units < cLine)
    (dec : ∀ Q' : Value → Shared → Prop, Q' .notImplemented s → wpAny (model prog w) A (call (.builtin id) [u, .ref x]) Q' E s) (hs : PySem.W.findIn K (.ref C) "__eq__" = some (some (.ref f))) (hf : PySem.W.isFn K (.ref f) = true)
    (h : wpAny (model prog w) A (call (.ref f) [.ref x, u]) (PySem.W.CmpBack Q) E s) : wpAny (model prog w) A (richCompare .Eq u (.ref x)) Q E s := by
  simp only [richCompare, cmpInfo_Eq, hT.oneThing_none]
  refine wpAny_holding (wpAny_bind (wpAny_cRoomFor hu ?_))
  refine wpAny_bind (wpAny_typeOf hT (wpAny_bind (I.type.here ?_)))
  have ne : (Value.type T != Value.ref C) = true := rfl
  simp only [ne, if_true]
  refine wpAny_bind ((PySem.W.looks_subIn X (show PySem.W.subIn K (.ref C) (.type T) = some false from hm)).here ?_)
  simp only [Bool.false_eq_true, if_false, Bool.not_false, if_true]
  refine wpAny_bind (m := tryCompare u _ (.ref x)) (wpAny_tryCompare_declines hT slot (dec _ ⟨rfl, ?_⟩))
  refine wpAny_bind (m := tryCompare (.ref x) _ u) ?_
  unfold tryCompare
  refine wpAny_bind (PySem.W.ifBound_K X I hs hf (wpAny_mono h (fun v s' hv => ?_) fun _ _ e => e))
  cases v <;> first | exact hv.elim | exact wpAny_pure (wpAny_pure hv)
theorem eqB_refl {u : Value} {Q : Bool → Shared → Prop} (ne : u ≠ .ref x) (h : wpAny (model prog w) A (richCompare .Eq u (.ref x)) (fun v s' => ∃ r, v = .bool r ∧ Q r s') E s) : wpAny (model prog w) A (eqBool u (.ref x)) Q E s := by
  unfold eqBool
  refine wpAny_holding (wpAny_ite_split (fun hab => absurd (eq_of_beq hab) ne) (fun _ => ?_))
  have fin : wpAny (model prog w) A (richCompare CmpOp.Eq u (Value.ref x) >>= fun v => truthOfDropped v) Q E s := by
    refine wpAny_bind (wpAny_mono h (fun v s' hv => ?_) fun _ _ z => z)
    obtain ⟨r, rfl, q⟩ := hv
    exact wpAny_truthy_bool q
  cases u <;> exact fin
theorem ifBound_objNe {M : Model} {args : List Value} {Q : Option Value → Shared → Prop} (X : K.In s.heap) (I : PySem.W.InstAt s.heap x ox C od) (hs : PySem.W.findIn K (.ref C) "__ne__" = some (some (.builtin "object.__ne__")))
    (h : wpAny M A (call (.builtin "object.__ne__") (.ref x :: args)) (fun v => Q (some v)) E s) : wpAny M A (callSpecialIfBound? (.ref x) "__ne__" args) Q E s := by
  simp only [callSpecialIfBound?, bindSpecialIfBound?]
  refine wpAny_holding (wpAny_bind (wpAny_bind (wpAny_bind (I.type.here ((PySem.W.looks_findIn X hs).here ?_)))))
  refine wpAny_bind (wpAny_askSetting (wpAny_ite ?_))
  have whole : wpAny M A (call (.builtin "object.__ne__") ([.ref x] ++ args) >>= fun v => pure (some v)) Q E s := wpAny_bind (wpAny_mono h (fun v s' q => wpAny_pure q) fun _ _ q => q)
  split
  · exact wpAny_bind (wpAny_of_eq (F.cmp_object.ne.bind _) (wpAny_pure (by exact whole)))
  · exact wpAny_tryCatch (wpAny_bind (wpAny_of_eq (F.cmp_object.ne.bind _) (wpAny_pure (by exact whole))))
/-- x != b by the own == -/
theorem ne_K {b tb : Value} {f : Addr} {Q : Value → Shared → Prop} (hu : A.units + 1 < cLine) (X : K.In s.heap) (I : PySem.W.InstAt s.heap x ox C od) (hb : PySem.W.Looks (model prog w) s.heap (typeOf b) tb) (hn : PySem.W.notFirst K C tb = true)
    (hne : PySem.W.findIn K (.ref C) "__ne__" = some (some (.builtin "object.__ne__"))) (hobj : PySem.W.mroIn K C (.type "object") = some true) (hs : PySem.W.findIn K (.ref C) "__eq__" = some (some (.ref f))) (hf : PySem.W.isFn K (.ref f) = true)
    (h : wpAny (model prog w) A.in1 (call (.ref f) [.ref x, b]) (fun v s' => ∃ r, v = .bool r ∧ Q (.bool (!r)) s') E s) : wpAny (model prog w) A (richCompare .NotEq (.ref x) b) Q E s := by
  have one : wpAny (model prog w) A (tryCompare (.ref x) "__ne__" b) (fun r s' => ∃ v, r = some v ∧ Q v s') E s := by
    unfold tryCompare
    refine wpAny_bind (ifBound_objNe X I hne (wpAny_call (codeAny_call_builtin F.cmp_object.ne.plain F.cmpEntry_ne (PySem.W.check_slot F.cmpKind_ne F.cmpSplit_ne (I.type.andThen (PySem.W.looks_mroIn X hobj)) (F.cmpArgs_ne _ _) ?_))))
    unfold Builtin.«object.__ne__»
    repeat (first
      | with_reducible refine wpAny_cRoomFor (A := A.in1) hu ?_
      | (refine wpAny_bind (m := callSpecialIfBound? (.ref x) (Str.ofString "__eq__") [b]) (PySem.W.ifBound_K X I hs hf (wpAny_mono h (fun r s' hr => ?_) fun _ _ e => e)))
      | wp_step)
    obtain ⟨r, rfl, q⟩ := hr
    repeat (first | (refine wpAny_bind (m := truthy (.bool _)) (wpAny_truthy_bool ?_)) | wp_step)
    exact ⟨_, rfl, q⟩
  simp only [richCompare, cmpInfo_NotEq, oneThing_ref]
  refine wpAny_holding (wpAny_bind (wpAny_cRoomFor (Nat.lt_of_succ_lt hu) ?_))
  refine wpAny_bind (I.type.here (wpAny_bind (hb.here ?_)))
  have done : ∀ r s', (∃ v, r = some v ∧ Q v s') → wpAny (model prog w) A (match r with | some v => pure v | none => pure .none) Q E s' := fun r s' ⟨v, e, q⟩ => by subst e; exact wpAny_pure q
  split
  · rename_i q
    have e : PySem.W.subIn K tb (.ref C) = some false := by
      rcases Bool.or_eq_true_iff.mp hn with e | e
      · rw [beq_iff_eq.mp e] at q; simp at q
      · exact beq_iff_eq.mp e
    refine wpAny_bind ((PySem.W.looks_subIn X e).here ?_)
    simp only [Bool.false_eq_true, if_false]
    refine wpAny_bind (wpAny_mono one (fun r s' z => ?_) fun _ _ e => e)
    obtain ⟨v, rfl, hq⟩ := z
    exact wpAny_pure hq
  · refine wpAny_bind (wpAny_pure ?_)
    simp only [Bool.false_eq_true, if_false]
    refine wpAny_bind (wpAny_mono one (fun r s' z => ?_) fun _ _ e => e)
    obtain ⟨v, rfl, hq⟩ := z
    exact wpAny_pure hq
end
end Vk
set_option Elab.async false
set_option maxRecDepth 100000
set_option maxHeartbeats 4000000
set_option linter.all false
namespace Vk
open PySem PySem.Spec PyProof.Rows PySem.SeqAt L2
open Builtin
/-! ## == and != and in, on the left an instance of an own class with its own == -/
inductive TyE (H : Hp) : V → Value → Prop
  | non : TyE H .non (.type "NoneType")
  | bl (b : Bool) : TyE H (.bl b) (.type "bool")
  | int (i : Int) : TyE H (.int i) (.type "int")
  | str (z : Str) : TyE H (.str z) (.type "str")
  | tup {a : Addr} {xs : List V} (e : H a = some (.tup xs)) : TyE H (.ref a) (.type "tuple")
  | lst {a : Addr} {xs : List V} (e : H a = some (.lst xs)) : TyE H (.ref a) (.type "list")
  | ins {a C dx : Addr} {fs : List (Str × V)} (e : H a = some (.ins C dx fs)) : TyE H (.ref a) (.ref C)
section
variable {X : Cx} {pins : List (Addr × Obj)} {σ : L2.St} {H : Hp} {s : Shared}
theorem looks_of {T : String} {u : Value} (h : ∀ s2 : Shared, (∀ b o, s.heap.get? b = some o → s2.heap.get? b = some o) → s2.TypeIs u T) : PySem.W.Looks (model X.prog X.w) s.heap (typeOf u) (.type T) := fun A Q E s2 k q => wpAny_typeOf (h s2 k) q
theorem TyE.looks {y : V} {u t : Value} (I : Inv X pins σ H s) (h : TyE H y t) (r : RelV y u) : PySem.W.Looks (model X.prog X.w) s.heap (typeOf u) t := by
  cases h with
  | non => cases (show u = Value.none from r); exact looks_of fun _ _ => rfl
  | bl b => cases (show u = Value.bool b from r); exact looks_of fun _ _ => rfl
  | int i => obtain ⟨t, rfl⟩ := (show ∃ t, u = Value.int i t from r); exact looks_of fun _ _ => rfl
  | str z => obtain ⟨t, rfl⟩ := (show ∃ t, u = Value.str z t from r); exact looks_of fun _ _ => rfl
  | tup e =>
    cases (show u = Value.ref _ from r)
    obtain ⟨its, rv, ⟨o, ho, hc, n, hd⟩, _⟩ := I.tuple (SqT.of e)
    exact looks_of fun s2 k => ⟨o, k _ _ ho, hc⟩
  | lst e =>
    cases (show u = Value.ref _ from r)
    obtain ⟨its, rv, ⟨o, n, ho, hc, _, hd⟩, _⟩ := I.list (SqL.of e)
    exact looks_of fun s2 k => ⟨o, k _ _ ho, hc⟩
  | ins e =>
    cases (show u = Value.ref _ from r)
    obtain ⟨mA, O, _⟩ := ins_get I.hok e
    obtain ⟨od, J, _⟩ := O.look
    exact J.type
end
/-- the own == of the class at C -/
structure EqI (P : Program) (w : World) (K : PySem.W.Frag) (mg : Str → Option Value) (base : Heap) (k : Nat) (C : Addr) (sp : Sp) : Prop where
  ex : ∃ (f : Addr) (fd : FuncData), PySem.W.findIn K (.ref C) "__eq__" = some (some (.ref f)) ∧ PySem.W.isFn K (.ref f) = true ∧ FnOk P w K mg base CX0 k f fd ["self", "other"] sp ∧ Binds K fd ["self", "other"] []
  ne : PySem.W.findIn K (.ref C) "__ne__" = some (some (.builtin "object.__ne__"))
  obj : PySem.W.mroIn K C (.type "object") = some true
  no1 : PySem.W.mroIn K C (.type "tuple") = some false
  no2 : PySem.W.mroIn K C (.type "list") = some false
  no3 : PySem.W.mroIn K C (.type "str") = some false
  no4 : PySem.W.mroIn K C (.type "NoneType") = some false
def rEqI (K : PySem.W.Frag) (C : Addr) (sp : Sp) (g : Bool → Bool) : R2 := fun x y H Q => ∃ a dx fs tb, x = .ref a ∧ H a = some (.ins C dx fs) ∧ TyE H y tb ∧ PySem.W.notFirst K C tb = true ∧ sp [x, y] H (fun v H' => ∃ b, v = .bl b ∧ Q (.bl (g b)) H') E0
section
variable {X : Cx} {k j : Nat} {C : Addr} {sp : Sp}
theorem eq_run {A : Around} {pins : List (Addr × Obj)} {σ : L2.St} {H : Hp} {s : Shared} {Q : VK} {a f : Addr} {fd : FuncData} {y : V} {u : Value} {E' : Value → Shared → Prop} (F : FnOk X.prog X.w X.K X.mg X.base CX0 k f fd ["self", "other"] sp) (hb : Binds X.K fd ["self", "other"] []) (hr : Room k A) (hfr : A.frames = X.A.frames)
    (I : Inv X pins σ H s) (r : RelV y u) (h : sp [.ref a, y] H Q E0) : wpAny (model X.prog X.w) A (call (.ref f) [.ref a, u]) (EP X pins σ Q) E' s := by
  have e0 : Env0 X.prog X.w X.K X.mg X.base A X.stack s H := by
    have e := I.env0
    exact ⟨hfr.trans e.frames, e.mod, e.bs, e.bsz, e.funs, e.frf, e.hok, e.bare⟩
  have bound := hb s [.ref a, u] I.kIn rfl
  rw [List.append_nil] at bound
  refine wpAny_call (codeAny_mono (F.run A X.stack s H ⟨[.ref a, u], []⟩ [.ref a, u] [.ref a, y] Q E0 hr e0 bound (.cons rfl (.cons r .nil)) h) fun res s' hq => ?_)
  match res, hq with
  | .error e, hq => exact hq.elim
  | .ok (.ret u), hq => exact I.after hq
  | .ok .next, hq => exact hq.elim
  | .ok .brk, hq => exact hq.elim
  | .ok .cont, hq => exact hq.elim
theorem op_eqI (e : EqI X.prog X.w X.K X.mg X.base k C sp) (hr : Room j X.A) (hk : k ≤ j) : OpR X (compareOp .Eq) (rEqI X.K C sp id) := by
  intro pins s σ H x y v u Q I rx ry h
  obtain ⟨a, dx, fs, tb, rfl, ha, ty, hn, q⟩ := h
  cases (show v = Value.ref a from rx)
  obtain ⟨f, fd, hs, hf, F, hb⟩ := e.ex
  obtain ⟨mA, O, _⟩ := ins_get I.hok ha
  obtain ⟨od, J, _⟩ := O.look
  obtain ⟨m, hF⟩ := I.fr
  show wpAny (model X.prog X.w) X.A (richCompare .Eq (.ref a) u) (EP X pins σ Q) X.xe s
  refine PySem.W.cmp_K (op := .Eq) hr.units0 hF I.ok.mod.kin J (ty.looks I ry) hn hs hf (wpAny_mono (eq_run F hb (hr.mono hk) rfl I ry q) (fun v1 s1 z => ?_) fun _ _ z => z)
  obtain ⟨z1, H1, I1, rz, b, rfl, q1⟩ := z
  cases (show v1 = Value.bool b from rz)
  exact ⟨.bl b, H1, I1, rfl, q1⟩
theorem op_neI (e : EqI X.prog X.w X.K X.mg X.base k C sp) (hr : Room j X.A) (hk : k + 1 ≤ j) : OpR X (compareOp .NotEq) (rEqI X.K C sp not) := by
  intro pins s σ H x y v u Q I rx ry h
  obtain ⟨a, dx, fs, tb, rfl, ha, ty, hn, q⟩ := h
  cases (show v = Value.ref a from rx)
  obtain ⟨f, fd, hs, hf, F, hb⟩ := e.ex
  obtain ⟨mA, O, _⟩ := ins_get I.hok ha
  obtain ⟨od, J, _⟩ := O.look
  have hr1 := hr.mono hk
  show wpAny (model X.prog X.w) X.A (richCompare .NotEq (.ref a) u) (EP X pins σ Q) X.xe s
  refine ne_K (by have := hr.units; omega) I.kIn J (ty.looks I ry) hn e.ne e.obj hs hf (wpAny_mono (eq_run F hb hr1.in1 rfl I ry q) (fun v1 s1 z => ?_) fun _ _ z => z)
  obtain ⟨z1, H1, I1, rz, b, rfl, q1⟩ := z
  cases (show v1 = Value.bool b from rz)
  exact ⟨b, rfl, .bl (!b), H1, I1, rfl, q1⟩
/-- the items that give way to the instance's own == -/
inductive Dec (H : Hp) : V → Prop
  | non : Dec H .non
  | str (z : Str) : Dec H (.str z)
  | tup {a : Addr} {xs : List V} (e : H a = some (.tup xs)) : Dec H (.ref a)
  | lst {a : Addr} {xs : List V} (e : H a = some (.lst xs)) : Dec H (.ref a)
theorem dec_run {A : Around} {pins : List (Addr × Obj)} {σ : L2.St} {H : Hp} {s : Shared} {a dx : Addr} {fs : List (Str × V)} {y : V} {u : Value} {E' : Value → Shared → Prop} (e : EqI X.prog X.w X.K X.mg X.base k C sp) (hr : Room k A) (hfr : A.frames = X.A.frames)
    (I : Inv X pins σ H s) (ha : H a = some (.ins C dx fs)) (d : Dec H y) (r : RelV y u) (h : ∀ Q : VK, Q (.bl false) H → sp [.ref a, y] H Q E0) : wpAny (model X.prog X.w) A (eqBool u (.ref a)) (fun b s' => b = false ∧ Inv X pins σ H s') E' s := by
  obtain ⟨f, fd, hs, hf, Fn, hb⟩ := e.ex
  obtain ⟨mA, O, _⟩ := ins_get I.hok ha
  obtain ⟨od, J, _⟩ := O.look
  have back : wpAny (model X.prog X.w) A (call (.ref f) [.ref a, u]) (PySem.W.CmpBack fun v s' => ∃ b, v = .bool b ∧ b = false ∧ Inv X pins σ H s') E' s := by
    refine wpAny_mono (eq_run (Q := fun v H' => v = .bl false ∧ H' = H) Fn hb hr hfr I r (h _ ⟨rfl, rfl⟩)) (fun v1 s1 z => ?_) fun _ _ z => z
    obtain ⟨z1, H1, I1, rz, rfl, rfl⟩ := z
    cases (show v1 = Value.bool false from rz)
    exact ⟨false, rfl, rfl, I1⟩
  have hu := hr.units0
  cases d with
  | non =>
    cases (show u = Value.none from r)
    exact eqB_refl (fun z => nomatch z) (rc_refl (T := "NoneType") rfl F.slot_NoneType_eq_refl I.kIn J e.no4 hu (fun Q' q => call_gives F.slot_NoneType_eq_refl rfl F.entry_NoneType_eq (F.args_NoneType_eq_2 _ _) (NoneType___eq___none_ref_0 a) q) hs hf back)
  | str z =>
    obtain ⟨t, rfl⟩ := (show ∃ t, u = Value.str z t from r)
    exact eqB_refl (fun z => nomatch z) (rc_refl (T := "str") (typeIs_str _ _ _) F.slot_str_eq I.kIn J e.no3 hu (fun Q' q => str_dec J rfl q) hs hf back)
  | @tup b xs eb =>
    cases (show u = Value.ref b from r)
    have ne : b ≠ a := fun z => by rw [z, ha] at eb; cases eb
    obtain ⟨its, rv, ⟨⟨cls, dd, data, sl⟩, ho, hc, n, hd⟩, _⟩ := I.tuple (SqT.of eb)
    simp only at hc hd
    subst hc hd
    exact eqB_refl (fun z => ne (Value.ref.inj z)) (rc_refl (T := "tuple") ⟨_, ho, rfl⟩ F.slot_tuple_eq I.kIn J e.no1 hu (fun Q' q => tup_dec ho I.kIn J e.no1 q) hs hf back)
  | @lst b xs eb =>
    cases (show u = Value.ref b from r)
    have ne : b ≠ a := fun z => by rw [z, ha] at eb; cases eb
    obtain ⟨its, rv, ⟨⟨cls, dd, data, sl⟩, n, ho, hc, hdn, hd⟩, _⟩ := I.list (SqL.of eb)
    simp only at hc hd
    subst hc hd
    exact eqB_refl (fun z => ne (Value.ref.inj z)) (rc_refl (T := "list") ⟨_, ho, rfl⟩ F.slot_list_eq I.kIn J e.no2 hu (fun Q' q => lst_dec ho I.kIn J e.no2 q) hs hf back)
/-- a in ys, no item of which the own == takes for a -/
def rInI (K : PySem.W.Frag) (C : Addr) (sp : Sp) : R2 := fun x y H Q => ∃ a dx fs q ys, x = .ref a ∧ y = .ref q ∧ H a = some (.ins C dx fs) ∧ H q = some (.tup ys) ∧ (∀ i ∈ ys, Dec H i ∧ ∀ Q : VK, Q (.bl false) H → sp [.ref a, i] H Q E0) ∧ Q (.bl false) H
theorem vals_mem : ∀ {xs : List V} {us : List Value} {u : Value}, Vals xs us → u ∈ us → ∃ x, x ∈ xs ∧ RelV x u
  | _, _, _, .cons r t, h => by
    rcases List.mem_cons.mp h with rfl | h
    · exact ⟨_, List.mem_cons_self, r⟩
    · obtain ⟨x, h1, h2⟩ := vals_mem t h
      exact ⟨x, List.mem_cons_of_mem _ h1, h2⟩
theorem op_inI (e : EqI X.prog X.w X.K X.mg X.base k C sp) (hr : Room j X.A) (hk : k + 1 ≤ j) : OpR X (compareOp .In) (rInI X.K C sp) := by
  intro pins s σ H x y v u Q I rx ry h
  obtain ⟨a, dx, fs, q, ys, rfl, rfl, ha, hq, items, k1⟩ := h
  cases (show v = Value.ref a from rx)
  cases (show u = Value.ref q from ry)
  obtain ⟨its, rv, ⟨⟨cls, dd, data, sl⟩, ho, hc, n, hd⟩, _⟩ := I.tuple (SqT.of hq)
  simp only at hc hd
  subst hc hd
  have hr1 := (hr.mono hk).in1
  show wpAny _ _ (contains (.ref q) (.ref a) >>= fun b => pure (Value.bool b)) _ _ s
  refine wpAny_bind (wpAny_contains_slot ⟨_, ho, rfl⟩ F.slot_tuple_contains (GQ.call_here F.slot_tuple_contains ⟨_, ho, rfl⟩ F.entry_tuple_contains (F.args_tuple_contains_2 _ _) ?_))
  have I0 := I
  obtain ⟨hp, g, d, tk, os⟩ := s
  wp_walk using AutoSeq1.wpAny_loadPart' ho, MeetsSeq2.wpAny_forIn_array _ (fun rest b s' => b.1 = none ∧ L2.Inv X pins σ H s' ∧ (∀ y, y ∈ rest → y ∈ its)) _
  case turn =>
    rintro y rest b s' ⟨hb, I1, hm⟩
    obtain ⟨z, hz, rz⟩ := vals_mem rv (hm y List.mem_cons_self)
    obtain ⟨dz, nz⟩ := items z hz
    refine wpAny_bind (wpAny_mono (dec_run (A := X.A.in1) e hr1 rfl I1 ha dz rz nz) (fun r s2 q2 => ?_) fun _ _ z => z)
    obtain ⟨rfl, I2⟩ := q2
    wp_walk
    exact ⟨rfl, I2, fun y hy => hm y (List.mem_cons_of_mem _ hy)⟩
  case fin =>
    rintro ⟨b1, b2⟩ s' ⟨hb, I1, _⟩
    simp only at hb
    subst hb
    obtain ⟨hp2, g2, d2, tk2, os2⟩ := s'
    wp_walk
    exact wpAny_truthy_bool (wpAny_pure ⟨.bl false, H, I1, rfl, k1⟩)
  case h => exact ⟨rfl, I0, fun y hy => by simpa using hy⟩
end
end Vk
set_option Elab.async false
set_option maxRecDepth 100000
set_option maxHeartbeats 4000000
set_option linter.all false
namespace Vk
open PySem PySem.Spec PyProof.Rows L2 StX
/-! ## def f(self, *parts), with nothing under way -/
def FnRG (P : Program) (w : World) (K : PySem.W.Frag) (mg : Str → Option Value) (base : Heap) (CX : CXT) (k : Nat) (f : Addr) (sp : Sp) : Prop :=
  ∀ (A : Around) (outer : List Env) (s : Shared) (H : Hp) (us : List Value) (vs : List V) (Q : VK) (E : XK), A.guards = some [] → Room k A → Env0 P w K mg base A outer s H → Vals vs us → sp vs H Q E →
    codeAny (model P w) A (.call (.ref f) ⟨us, []⟩) (CR CX outer P w H s Q E) s
theorem passesF {X : Cx} : Passes (L2.CX X.prog X.w) X (fun _ _ _ => False) := by
  rintro pins σ H s e s' I ⟨a, B, H', cls, d, _, _, _, _, _, _, _, h⟩
  exact h.elim
section
variable {CX : CXT} {P : Program} {w : World} {K : PySem.W.Frag} {mg : Str → Option Value} {base : Heap} {k : Nat} {x qual : Str} {st : Stmt} {f : Addr} {fd : FuncData} {N ps : List Str} {sp : Sp}
theorem okStar {pv : Str} (F : Fun K x qual st f fd) (S : FnScope N (ps ++ [pv]) (defScope st)) (hCX : CXUp CX)
    (hb : ∀ (kV doc pm : Value) (an : Option Addr) (cdv ct : Value) (us rest : List Value), us.length = ps.length → bindArgs (PySem.W.fnOf x qual (defArgs st) (defBody st) (defScope st) .none kV doc pm an cdv ct) ⟨us ++ rest, []⟩ = (newTuple rest >>= fun t => pure (ps.zip us ++ [(pv, t)])))
    (body : ∀ (cdv : Value) (A : Around) (outer : List Env) (s : Shared) (H : Hp) (vs : List V) (Q : VK) (E : XK), A.guards = some [] → Room k (A.deeper (envOfC qual (defScope st) s.heap.objs.size f cdv)) → sp vs H Q E →
      ∃ t, PSs (cxOf CX P w K mg base N qual (defScope st) f cdv A outer s H E) (defBody st) t ∧ t { nx := fun _ H' => Q .non H', rt := Q } (start N vs) H) :
    FnRG P w K mg base CX (k + 1) f (fun vs H Q E => ∃ ws rest, vs = ws ++ rest ∧ ws.length = ps.length ∧ rest.length ≤ sizeLine ∧ ∀ p, H p = none → sp (ws ++ [.ref p]) (upd H p (.tup rest)) Q E) := by
  intro A outer s H us vs Q E hg hr e0 r hsp
  obtain ⟨ws, rest, rfl, hl, hz, q⟩ := hsp
  obtain ⟨oc, od, kV, doc, pm, an, cdv, ct, osl, rfl, lk, hcd⟩ := F.ex
  obtain ⟨u1, u2, rfl, r1, r2⟩ := vals_split r
  have free : H s.heap.objs.size = none := e0.hok.fresh (Nat.le_refl _)
  have l1 : u1.length = ps.length := r1.length.symm.trans hl
  have l2 : u2.length ≤ sizeLine := by rw [← r2.length]; exact hz
  refine run_bnd lk hcd S hr e0 (G := fun xs H2 => ∃ p, H p = none ∧ xs = ws ++ [V.ref p] ∧ H2 = upd H p (.tup rest)) (fun A1 E1 Q1 h => ?_) (fun s2 H2 xs g hr2 => ?_)
  · rw [hb kV doc pm an cdv ct u1 u2 l1]
    refine wpAny_bind (wpAny_newTuple (wpAny_pure ?_) l2)
    have laid : ObjOk P w (upd H s.heap.objs.size (.tup rest)) (s.heap.push ({ cls := .type "tuple", data := .seq u2.toArray } : Obj)) s.heap.objs.size (.tup rest) := ⟨hz, u2, r2, ⟨_, Heap.get?_push_size _ rfl, rfl, _, rfl⟩⟩
    have un1 := un_laid (fs := frs outer) (s := s) (o := ({ cls := .type "tuple", data := .seq u2.toArray } : Obj)) (u := .tup rest) free
    have all := h _ _ (ws ++ [V.ref s.heap.objs.size]) (u1 ++ [Value.ref s.heap.objs.size]) (env0_laid e0 laid) un1 rfl (fun e s3 => hCX outer s H _ _ E e s3 un1 (fun b o z => Heap.get?_push_of_some _ z) rfl) (r1.append (.cons rfl .nil))
      (by rw [List.length_append, List.length_append, hl] <;> rfl) ⟨_, free, rfl, rfl⟩
    rw [List.zip_append l1.symm] at all
    exact all
  · obtain ⟨p, hp, rfl, rfl⟩ := g
    exact body cdv A outer s2 _ _ Q E hg hr2 (q p hp)
end
section
variable {X : Cx} {CX : CXT} {k j : Nat} {C f : Addr} {sp : Sp} {E : XK} {x : Str} {p pos : Pos} {e : Expr} {es : List Expr} {t : TA}
theorem star_run {pins : List (Addr × Obj)} {σ : L2.St} {H : Hp} {s : Shared} {Q : VK} {us : List Value} {vs : List V} (M : L2.Mk X.K C f) (F : FnRG X.prog X.w X.K X.mg X.base CX k f sp) (hg : X.A.guards = some []) (hr : Room (k + 1) X.A) (hx : Passes CX X E) (I : Inv X pins σ H s) (r : Vals vs us) (q : Born C sp vs H Q E) :
    wpAny (model X.prog X.w) X.A (call (.ref C) us) (EP X pins σ Q) X.xe s := by
  have I2 := Inv.made (C := C) I
  have asked := q (s.heap.objs.size + 1) s.heap.objs.size (I.hok.fresh (Nat.le_succ _)) (I.hok.fresh (Nat.le_refl _)) (Nat.ne_of_lt (Nat.lt_succ_self _))
  refine wpAny_call (make_map (f := f) I.kIn M.makes M.init (beq_iff_eq.mp M.fn) (codeAny_mono (F _ X.stack _ _ (Value.ref (s.heap.objs.size + 1) :: us) (V.ref (s.heap.objs.size + 1) :: vs) _ E ?_ (hr.make C us []) (I2.env0.make C us []) (.cons rfl r) asked) fun res s3 hz => ?_))
  · first
      | exact hg
      | (simpa [Around.under, Code.isGuard, guardIds] using hg)
  · match res, hz with
    | .error er, hz => exact hx pins σ _ _ er s3 I2 hz
    | .ok (.ret u), hz =>
      obtain ⟨v, H2, I3, rv, ev, q3⟩ := I2.after hz
      subst ev
      exact ⟨rv, V.ref (s.heap.objs.size + 1), H2, I3, rfl, q3⟩
    | .ok .next, hz => exact hz.elim
    | .ok .brk, hz => exact hz.elim
    | .ok .cont, hz => exact hz.elim
def tStarI (C : Addr) (sp : Sp) (E : XK) (t : TA) : TE := fun σ H Q => t σ H fun vs H1 => Born C sp vs H1 Q E
theorem pe_starI (M : L2.Mk X.K C f) (F : FnRG X.prog X.w X.K X.mg X.base CX k f sp) (hg : X.A.guards = some []) (hr : Room j X.A) (hk : k + 1 ≤ j) (hm : X.mg x = some (.ref C)) (hx : Passes CX X E) (ha : PA X (e :: es) t) (gl : Gl X x := by rfl) (hdb : (x == ("__debug__" : Str)) = false := by decide)
    (he : starEach (e :: es) X.env = (false, eval e X.env) :: starEach es X.env := by rfl) (hpl : (backTo pos (starEach es X.env)).any (·.1) = false := by rfl) : PE X (.Call (.Name x p) (e :: es) [] pos) (tStarI C sp E t) := by
  refine ⟨fun pins s σ H Q I h => wpAny_Call_Name_kw (ld_glob I gl hm (PySem.W.callWith_K (h₀ := X.base) I.ok.mod.kin M.kp (thn (ha.run pos pins s σ H _ I h) fun us s1 hh => ?_) he hpl) hdb)⟩
  obtain ⟨vs, H1, I1, r, q⟩ := hh
  exact ⟨I1.kIn, star_run M F hg (hr.mono hk) hx I1 r q⟩
theorem pe_starI0 (M : L2.Mk X.K C f) (F : FnRG X.prog X.w X.K X.mg X.base CX k f sp) (hg : X.A.guards = some []) (hr : Room j X.A) (hk : k + 1 ≤ j) (hm : X.mg x = some (.ref C)) (hx : Passes CX X E) (gl : Gl X x := by rfl) (hdb : (x == ("__debug__" : Str)) = false := by decide) :
    PE X (.Call (.Name x p) [] [] pos) (tStarI C sp E tNil) :=
  ⟨fun pins s σ H Q I h => wpAny_Call_Name_kw (ld_glob I gl hm (PySem.W.callWith_K0 I.kIn M.kp (star_run M F hg (hr.mono hk) hx I .nil h)) hdb)⟩
end
theorem pg_tupK {X : Cx} {K : PySem.W.Frag} {es : List Expr} {k : Nat} {t : TGs} {n : Nat} {pos : Pos} (hK : X.K = K) (hc : X.calm = true) (h : PGs X es t)
    (hn : (assignEach es X.env).length = n := by rfl) (hst : (assignEach es X.env).findIdx? (·.1) = none := by rfl) : PG X (.Tuple es k pos) (gTup K n t) := hK ▸ pg_tup hc h hn hst
end Vk
set_option Elab.async false
set_option maxRecDepth 100000
set_option maxHeartbeats 4000000
set_option linter.all false
namespace Vk
open PySem PySem.Spec PyProof.Rows L2
/-! ## for i, x in enumerate(t), t a tuple -/
theorem enum_new1 (t : Addr) (items : Array Value) : Meets (Builtin.«enumerate.__new__» ⟨[.type "enumerate", .ref t], []⟩) (fun _ R s => s.heap.IsTuple t items ∧
    R (.ok (.ret (.ref (s.heap.push { cls := .type "tuple_iterator", data := .fields #[.ref t, .int 0 0] }).objs.size)))
      { s with heap := (s.heap.push { cls := .type "tuple_iterator", data := .fields #[.ref t, .int 0 0] }).push { cls := .type "enumerate", data := .fields #[.none, .bool false, .ref s.heap.objs.size, rawInt 0, .none, .none] } }) :=
  .of_wp fun prog w A R s h => by
    obtain ⟨hp, g, d, tk, os⟩ := s
    obtain ⟨isT, k⟩ := h
    have sub := sub_enumerate
    have it1 : ∀ {A1 : Around} {E1 : Value → Shared → Prop} {Q1 : Value → Shared → Prop}, Q1 (.ref hp.objs.size) ⟨hp.push { cls := .type "tuple_iterator", data := .fields #[.ref t, .int 0 0] }, g, d, tk, os⟩ → wpAny (model prog w) A1 (pyIter (.ref t)) Q1 E1 ⟨hp, g, d, tk, os⟩ := fun q => wpAny_pyIter_tuple isT q
    wp_walk
    refine wpAny_stack_any fun st => wpAny_pure ?_
    split
    · rename_i c _ _ _ _ _
      cases (c == Value.type "enumerate")
      · wp_walk using it1
        exact ⟨_, rfl, k⟩
      · wp_walk using it1
        exact ⟨_, rfl, k⟩
    · wp_walk using it1
      exact ⟨_, rfl, k⟩
section
variable {prog : Program} {w : World} {A : Around} {E : Value → Shared → Prop} {s : Shared}
theorem call_enumT {t : Addr} {items : Array Value} {Q : Value → Shared → Prop} (isT : s.heap.IsTuple t items)
    (h : ∀ h2, IsEnum h2 (s.heap.objs.size + 1) s.heap.objs.size 0 .none → h2.IsTupleIter s.heap.objs.size t 0 → (∀ b o, s.heap.get? b = some o → h2.get? b = some o) → Q (.ref (s.heap.objs.size + 1)) { s with heap := h2 }) :
    wpAny (model prog w) A (call (.type "enumerate") [.ref t]) Q E s := by
  refine callType_new F.called_enumerate (by decide) (F.typeCall_enumerate_1 _) (F.newCall_enumerate_1 _) (fun obj => F.args_object_init_2 obj _) F.entry_enumerate_new (enum_new1 t items) ⟨isT, ?_⟩
  have one : (s.heap.push { cls := .type "tuple_iterator", data := .fields #[.ref t, .int 0 0] }).objs.size = s.heap.objs.size + 1 := Heap.size_push ..
  show _ ∧ _
  rw [one]
  have at1 : IsEnum ((s.heap.push { cls := .type "tuple_iterator", data := .fields #[.ref t, .int 0 0] }).push
      { cls := .type "enumerate", data := .fields #[.none, .bool false, .ref s.heap.objs.size, rawInt 0, .none, .none] }) (s.heap.objs.size + 1) s.heap.objs.size 0 .none := by
    have z := Heap.get?_push_size (s.heap.push { cls := .type "tuple_iterator", data := .fields #[.ref t, .int 0 0] })
      (o := { cls := .type "enumerate", data := .fields #[.none, .bool false, .ref s.heap.objs.size, rawInt 0, .none, .none] }) rfl
    rw [one] at z
    exact z
  exact ⟨⟨_, at1, rfl⟩, h _ at1 ⟨_, Heap.get?_push_of_some _ (Heap.get?_push_size _ rfl), rfl, rfl⟩ fun b o z => Heap.get?_push_of_some _ (Heap.get?_push_of_some _ z)⟩
end
/-- the tuple at a, each item in a new pair -/
def Itet (a : Addr) : It :=
  ⟨fun i H => ∃ (xs : List V) (x : V), H a = some (.tup xs) ∧ xs[i]? = some x, fun i H v H' => ∃ T x xs, v = .ref T ∧ H T = none ∧ H' = upd H T (.tup [.int (i : Nat), x]) ∧ H a = some (.tup xs) ∧ xs[i]? = some x, fun i H => ∃ xs : List V, H a = some (.tup xs) ∧ xs.length = i⟩
theorem turn_enumT {P : Program} {w : World} {K : PySem.W.Frag} {elts : List Expr} {kk : Nat} {tpos : Pos} (a e it : Addr) :
    Turn P w K (.Tuple elts kk tpos) (Itet a) [e, it] e (fun i h => (∃ old, IsEnum h e it ((i : Nat) : Int) old) ∧ h.IsTupleIter it a i ∧ e ≠ it ∧ a ≠ it ∧ e ≠ a) where
  mem := by simp
  obj := fun i h st b hb => by
    obtain ⟨⟨old, he⟩, ⟨o, ho, hc, hd⟩, _⟩ := st
    rcases List.mem_cons.mp hb with z | z
    · exact z ▸ ⟨_, he, fun v q => nomatch q⟩
    · rw [List.mem_singleton] at z
      exact z ▸ ⟨o, ho, fun v q => by rw [hd] at q; cases q⟩
  keep := fun i h h' st k => by
    obtain ⟨⟨old, he⟩, hi, rest⟩ := st
    exact ⟨⟨old, k e List.mem_cons_self _ he⟩, hi.at fun o q => k it (List.mem_cons_of_mem _ List.mem_cons_self) o q, rest⟩
  item := by
    intro X hP hw hK hc i pins s σ H E I hf st hg
    subst hP hw hK
    obtain ⟨⟨old, he⟩, hit, hne, hat, hea⟩ := st
    obtain ⟨xs, x, hq, hx⟩ := hg
    obtain ⟨its, rv, isT, hz⟩ := I.tuple (SqT.of hq)
    obtain ⟨u, hu, ru⟩ := rv.get hx
    have lt : i < its.toArray.size := by
      have := (List.getElem?_eq_some_iff.mp hu).1
      simpa using this
    have big1 : e < s.heap.objs.size := Heap.lt_size he
    have big2 : it < s.heap.objs.size := by obtain ⟨_, q, _⟩ := hit; exact Heap.lt_size q
    refine wpAny_pyNext_enum_itemD (Draws.tuple (A := X.A.in1) (I.ok.hd hc) it a hat its.toArray) he ⟨hit, isT⟩ lt hne (by simp [hne, hea]) fun u2 h2 tk hu2 ho st2 hT hsz hk => ?_
    obtain ⟨hit2, _⟩ := st2
    have eu : u2 = u := by
      have q := hu2
      simp only [List.getElem?_toArray] at q
      rw [hu] at q
      exact (Option.some.inj q).symm
    subst eu
    refine ⟨_, rfl, wpAny_letOwnedTupleGo_enum (s := { s with heap := h2, toks := tk + 1 }) ho fun h3 he3 sb => ?_⟩
    have hT3 : h3.get? s.heap.objs.size = some { cls := .type "tuple", data := .seq #[.int i tk, u2] } := (sb.2 _ (Nat.ne_of_gt big1)).trans hT
    have laid : ObjOk X.prog X.w (upd H s.heap.objs.size (.tup [.int (i : Nat), x])) h3 s.heap.objs.size (.tup [.int (i : Nat), x]) := ⟨few_len (Nat.le_of_ble_eq_true rfl), [.int i tk, u2], .cons ⟨_, rfl⟩ (.cons ru .nil), ⟨_, hT3, rfl, _, rfl⟩⟩
    have I1 : Inv X pins σ (upd H s.heap.objs.size (.tup [.int (i : Nat), x])) { s with heap := h3, toks := tk + 1 } :=
      I.turnedNew (ch := [e, it]) (fun b ob hb q => (sb.2 b (fun z => hb (by simp [z]))).trans (hk b ob (fun z => hb (by simp [z])) (fun z => hb (by simp [z])) q)) hf (Nat.le_refl _) laid
    refine ⟨.ref s.heap.objs.size, _, I1, rfl, ⟨_, x, xs, rfl, I.hok.fresh (Nat.le_refl _), rfl, hq, hx⟩, ⟨⟨u2, ?_⟩, hit2.at fun o q => (sb.2 it (Ne.symm hne)).trans q, hne, hat, hea⟩, fun b hb => ?_⟩
    · rw [show ((i + 1 : Nat) : Int) = (i : Int) + 1 by omega]
      exact he3
    · have old1 : b < s.heap.objs.size := by
        rcases List.mem_cons.mp hb with z | z
        · exact z ▸ big1
        · rw [List.mem_singleton] at z
          exact z ▸ big2
      exact (upd_ne (Nat.ne_of_lt old1)).trans (hf b hb).1
  done := by
    intro X hP hw hK hc i pins s σ H E I hf st hg
    subst hP hw hK
    obtain ⟨⟨old, he⟩, hit, hne, hat, hea⟩ := st
    obtain ⟨xs, hq, hx⟩ := hg
    obtain ⟨its, rv, isT, hz⟩ := I.tuple (SqT.of hq)
    obtain ⟨f0, f1, f2, f3, f4, f5⟩ := hf it (List.mem_cons_of_mem _ List.mem_cons_self)
    have le : i = its.toArray.size := by rw [← hx, rv.length, List.size_toArray]
    exact wpAny_pyNext_enum_endD (Draws.tuple (A := X.A.in1) (I.ok.hd hc) it a hat its.toArray) he ⟨le ▸ hit, isT⟩ fun h' eb => ⟨rfl, I.turned (t' := s.toks) (fun b o hb q => eb b o hb q) f0 f1 f3 f4 f5⟩
  self := fun A i s Q E st h => let ⟨⟨_, he⟩, _⟩ := st; wpAny_pyIter_enum he h
def iEnumT (ta : TA) : TI := fun σ H R => ta σ H fun vs H1 => ∃ a xs, vs = [.ref a] ∧ H1 a = some (.tup xs) ∧ R (Itet a) H1
theorem pi_enumT {X : Cx} {e : Expr} {ta : TA} {p pos tpos : Pos} {elts : List Expr} {kk : Nat} (gl : Gl X "enumerate") (hm : X.mg "enumerate" = none) (ha : PA X [e] ta) (hs : starEach [e] X.env = [(false, eval e X.env)] := by rfl) :
    PI X (.Tuple elts kk tpos) (.Call (.Name "enumerate" p) [e] [] pos) (iEnumT ta) := by
  refine ⟨fun pins s σ H R I h => Call_ (ld_blt I gl hm boot_enumerate (PyProof.Rows.callWith_type1 (thn (ha.run pos pins s σ H _ I h) fun us s1 hh => ?_) hs rfl))⟩
  obtain ⟨vs, H1, I1, r1, a, xs, rfl, hq, q⟩ := hh
  obtain ⟨u, rfl, ru⟩ := r1.one
  cases (show u = Value.ref a from ru)
  obtain ⟨its, rv, isT, hz⟩ := I1.tuple (SqT.of hq)
  have lta : a < s1.heap.objs.size := by obtain ⟨o, ho, _⟩ := isT; exact Heap.lt_size ho
  refine call_enumT isT fun h2 he hit hk => wpAny_pyIter_enum he ?_
  have I2 : Inv X pins σ H1 { s1 with heap := h2 } := I1.kept (t' := s1.toks) hk
  refine ⟨s1.heap.objs.size + 1, [s1.heap.objs.size + 1, s1.heap.objs.size], _, _, H1, rfl, I2, turn_enumT a (s1.heap.objs.size + 1) s1.heap.objs.size, ⟨⟨.none, he⟩, hit, Nat.succ_ne_self _, Nat.ne_of_lt lta, Nat.ne_of_gt (Nat.lt_succ_of_lt lta)⟩, fun b hb => ?_, q⟩
  have le : s1.heap.objs.size ≤ b := by
    rcases List.mem_cons.mp hb with z | z
    · rw [z]; exact Nat.le_succ _
    · rw [List.mem_singleton.mp z]; exact Nat.le_refl _
  exact I1.fpOk le (I1.hok.fresh le)
end Vk
set_option Elab.async false
set_option maxRecDepth 100000
set_option maxHeartbeats 4000000
set_option linter.all false
namespace Vk
open PySem PySem.Spec PyProof.Rows L2
/-- what repr asks -/
def Shn (d : PyData) : Prop := d.showable = true ∧ d.depth ≤ 60 ∧ d.shown.length ≤ sizeLine
/-- .. with room for a list around -/
def Shs (d : PyData) : Prop := d.showable = true ∧ d.depth ≤ 59 ∧ d.shown.length ≤ 100000 ∧ PyData.strOk d.shown = true
theorem Shs.shn {d : PyData} (h : Shs d) : Shn d := ⟨h.1, Nat.le_succ_of_le h.2.1, Nat.le_trans h.2.2.1 (by rw [sizeLine_eq]; decide)⟩
theorem shn2 {d1 d2 : PyData} (h1 : Shs d1) (h2 : Shs d2) : Shn (.list [d1, d2]) := by
  refine ⟨?_, ?_, ?_⟩
  · show (d1.showable && (d2.showable && true)) = true
    rw [h1.1, h2.1]
    rfl
  · show PyData.depthAll [d1, d2] + 1 ≤ 60
    have e : PyData.depthAll [d1, d2] = max d1.depth (max d2.depth 0) := rfl
    rw [e]
    have := h1.2.1
    have := h2.2.1
    omega
  · show (listText (PyData.shownAll [d1, d2])).length ≤ sizeLine
    rw [shownAll_map]
    have a := listText_le ([d1, d2].map PyData.shown)
    have b := piled_le (ts := [d1, d2].map PyData.shown) (n := 100000) (fun t ht => by
      rcases List.mem_cons.mp ht with e | ht
      · exact e ▸ h1.2.2.1
      · rw [List.mem_singleton.mp ht]
        exact h2.2.2.1)
    have c : ([d1, d2].map PyData.shown).length = 2 := rfl
    rw [c] at b
    rw [sizeLine_eq]
    omega
theorem char_ok : ∀ c ∈ letS.cps.toList, (∀ x ∈ Builtin.Str.reprChar 34 c, x < 0x110000) ∧ ∀ x ∈ Builtin.Str.reprChar 39 c, x < 0x110000 := by decide +kernel
theorem fold_ok (q : Nat) (hq : q = 34 ∨ q = 39) : ∀ (l : List Nat) (acc : Array Nat), (∀ c ∈ l, c ∈ letS.cps.toList) → (∀ x ∈ acc, x < 0x110000) → ∀ x ∈ (l.foldl (fun out c => out ++ (Builtin.Str.reprChar q c).toArray) acc), x < 0x110000
  | [], acc, _, h => h
  | c :: r, acc, hl, h => by
    rw [List.foldl_cons]
    refine fold_ok q hq r _ (fun d hd => hl d (List.mem_cons_of_mem _ hd)) (fun x hx => ?_)
    rcases Array.mem_append.mp hx with hx | hx
    · exact h x hx
    · have z := char_ok c (hl c List.mem_cons_self)
      have hx2 : x ∈ Builtin.Str.reprChar q c := by simpa using hx
      rcases hq with rfl | rfl
      · exact z.1 x hx2
      · exact z.2 x hx2
theorem quote_is (z : Str) : reprQuote z = 34 ∨ reprQuote z = 39 := by
  unfold reprQuote
  split
  · exact .inl rfl
  · exact .inr rfl
theorem repr_ok {z : Str} (h : ∀ c ∈ z.cps.toList, c ∈ letS.cps.toList) : PyData.strOk (reprText z) = true := by
  show (reprText z).cps.all (· < 0x110000) = true
  rw [Array.all_eq_true_iff_forall_mem]
  intro x hx
  have q : reprQuote z < 0x110000 := by
    rcases quote_is z with e | e <;> rw [e] <;> decide
  have hx2 : x ∈ (z.cps.foldl (fun out c => out ++ (Builtin.Str.reprChar (reprQuote z) c).toArray) #[reprQuote z]).push (reprQuote z) := hx
  rw [← Array.foldl_toList] at hx2
  simp only [decide_eq_true_eq]
  rcases Array.mem_push.mp hx2 with hx3 | rfl
  · exact fold_ok _ (quote_is z) _ _ h (fun y hy => by rw [show y = reprQuote z by simpa using hy]; exact q) x hx3
  · exact q
theorem shs_str {z : Str} (h : z.length ≤ 1000) (ltr : ∀ c ∈ z.cps.toList, c ∈ letS.cps.toList) : Shs (.str z) := by
  refine ⟨by simp [PyData.showable], by simp [PyData.depth], ?_, repr_ok ltr⟩
  show (reprText z).length ≤ 100000
  have all : ∀ c ∈ letS.cps.toList, c < 16 ^ 8 := by decide +kernel
  have q := StrLaws.reprText_len z (fun c hc => all c (ltr c hc))
  omega
section
variable {X : Cx}
theorem call_reprP (hg : X.A.guards = some []) (hu : X.A.units + 64 < cLine) : CallR X (.builtin "repr") (fun xs H Q => ∃ q x1 x2 d1 d2, xs = [.ref q] ∧ H q = some (.lst [x1, x2]) ∧ q ≠ sysModules ∧ Th H x1 d1 ∧ Th H x2 d2 ∧ Shn (.list [d1, d2]) ∧ Q (.str (PyData.list [d1, d2]).shown) H) := by
  intro pins s σ H xs us Q I r h
  obtain ⟨q, x1, x2, d1, d2, rfl, e, ne, t1, t2, sh, k⟩ := h
  obtain ⟨u, rfl, ru⟩ := r.one
  cases (show u = Value.ref q from ru)
  obtain ⟨its, rv, ⟨o, n, ho, hc, _, hd⟩, _⟩ := I.list (SqL.of e)
  cases rv with
  | cons r1 rv =>
    cases rv with
    | cons r2 rv =>
      cases rv
      obtain ⟨as, h1, n1⟩ := t1.reads I r1
      obtain ⟨bs, h2, n2⟩ := t2.reads I r2
      have rd := Reads.list ho hc hd (ReadsAll.cons h1 (ReadsAll.cons h2 ReadsAll.nil))
      refine repr_of_reads' rd sh.1 (fun z => ?_) hg (by have := sh.2.1; omega) (fun _ _ e => e) (fun h2 u tk hk => ⟨V.str _, H, I.kept hk, ⟨u, rfl⟩, k⟩) sh.2.2
      simp only [List.append_nil, List.mem_cons, List.mem_append, not_or]
      exact ⟨fun w => ne w.symm, n1, n2⟩
/-- one of some rules -/
theorem op_any {op : Value → Value → Sem Value} {N : Nat} {r : Nat → R2} (h : ∀ n, n < N → OpR X op (r n)) : OpR X op (fun x y H Q => ∃ n, n < N ∧ r n x y H Q) := by
  intro pins s σ H x y v u Q I rx ry hh
  obtain ⟨n, hn, q⟩ := hh
  exact h n hn pins s σ H x y v u Q I rx ry q
/-- e.f, a property, e an instance of one of some classes -/
structure PrI (P : Program) (w : World) (K : PySem.W.Frag) (mg : Str → Option Value) (base : Heap) (k : Nat) (C : Addr) (f fa : Str) : Prop where
  ex : ∃ (p g : Addr) (fd : FuncData), Cls K C ∧ PropOf K C f p g ∧ FnOk P w K mg base CX0 k g fd ["self"] (getSp C fa) ∧ Binds K fd ["self"] []
def tPropN (N : Nat) (Cs : Nat → Addr) (fa : Str) (ta : TE) : TE := fun σ H Q => ta σ H fun x H1 => ∃ n a dx fs v, n < N ∧ x = .ref a ∧ H1 a = some (.ins (Cs n) dx fs) ∧ fs.lookup fa = some v ∧ Q v H1
theorem pe_propN {N : Nat} {Cs : Nat → Addr} {f fa : Str} {k j : Nat} {e : Expr} {ta : TE} {pos : Pos} (he : PE X e ta) (h : ∀ n, n < N → PrI X.prog X.w X.K X.mg X.base k (Cs n) f fa) (hr : Room j X.A) (hk : k + 1 ≤ j) (hab : attributeBase e f X.env (eval e X.env) = eval e X.env := by rfl) :
    PE X (.Attribute e f pos) (tPropN N Cs fa ta) := by
  refine ⟨fun pins s σ H Q I hh => attr_of hab (thn (he.run pins s σ H _ I hh) fun u s1 q1 => ?_)⟩
  obtain ⟨x, H1, I1, rx, n, a, dx, fs, v, hn, rfl, ea, l, q⟩ := q1
  obtain ⟨p, g, fd, c, hp, F, hb⟩ := (h n hn).ex
  cases (show u = Value.ref a from rx)
  exact getprop_ok (ds := []) (dvs := []) (E := E0) I1 ea c hp F (hr.mono hk) hb .nil (fun _ _ _ _ _ _ _ z => z.elim) ⟨a, dx, fs, v, rfl, ea, l, q⟩
end
end Vk
set_option Elab.async false
set_option maxRecDepth 100000
set_option maxHeartbeats 4000000
set_option linter.all false
namespace Vk
open L2 PySem PySem.Spec PyProof.Rows
/-! ## lstrip leaves nothing of a string exactly if all its signs are to be stripped -/
theorem take_all {α : Type} (g : α → Bool) : ∀ l : List α, (l.takeWhile g).length = l.length ↔ l.all g = true
  | [] => by simp
  | a :: r => by
    rw [List.takeWhile_cons, List.all_cons]
    cases h : g a with
    | true =>
      rw [if_pos rfl, List.length_cons, List.length_cons, Bool.true_and]
      exact ⟨fun z => (take_all g r).mp (Nat.succ.inj z), fun z => congrArg Nat.succ ((take_all g r).mpr z)⟩
    | false =>
      rw [if_neg (by decide)]
      simp
theorem take_le {α : Type} (g : α → Bool) : ∀ l : List α, (l.takeWhile g).length ≤ l.length
  | [] => Nat.le_refl _
  | a :: r => by
    rw [List.takeWhile_cons]
    split
    · exact Nat.succ_le_succ (take_le g r)
    · exact Nat.zero_le _
theorem str_empty {z : Str} : z = "" ↔ z.cps.toList = [] := by
  constructor
  · rintro rfl
    rfl
  · intro h
    cases z with
    | mk c =>
      have e : c = #[] := by simpa using h
      subst e
      rfl
theorem lstrip_all {z y : Str} : Txt.lstripChars z y = "" ↔ z.cps.toList.all y.cps.contains = true := by
  unfold Txt.lstripChars Txt.stripBy
  have len : z.length = z.cps.toList.length := by simp [Str.length]
  have lo : stripLo y.cps.contains true z = (z.cps.toList.takeWhile y.cps.contains).length := rfl
  have hi : ∀ n, stripHi y.cps.contains false z n = z.length := fun n => rfl
  rw [← take_all]
  by_cases h0 : (z.cps.toList.takeWhile y.cps.contains).length = 0
  · have same : stripSame y.cps.contains true false z = true := by
      unfold stripSame
      rw [hi, lo, h0]
      simp
    rw [if_pos same, str_empty, h0]
    exact ⟨fun e => by rw [e]; rfl, fun e => List.length_eq_zero_iff.mp e.symm⟩
  · have same : ¬ (stripSame y.cps.contains true false z = true) := by
      unfold stripSame
      rw [hi, lo]
      simpa using fun e => absurd (by simpa using e) h0
    rw [if_neg same, str_empty]
    have sub : (stripped y.cps.contains true false z).cps.toList = z.cps.toList.drop (z.cps.toList.takeWhile y.cps.contains).length := by
      unfold stripped
      rw [hi, lo]
      show ((z.cps.extract _ z.length).toList) = _
      rw [Array.toList_extract, List.extract_eq_drop_take, len]
      rw [List.take_of_length_le (by rw [List.length_drop]; exact Nat.le_refl _)]
    rw [sub, List.drop_eq_nil_iff]
    have le := take_le y.cps.contains z.cps.toList
    exact ⟨fun e => Nat.le_antisymm le e, fun e => Nat.le_of_eq e.symm⟩
end Vk
namespace Vk
open L2 PySem PySem.Spec PyProof.Rows
/-- a comprehension over the signs of a string -/
theorem lc_str {z : Str} {g : TG} {tt : TT} {te : TE} {vs : List Nat} {σ : L2.St} {H1 : Hp} {D : Addr} {Qd : Hp → Prop} (Pv : Nat → Hp → Prop) (h0 : Pv 0 (upd H1 D (.lst [])))
    (hs : ∀ i c H, z.cps[i]? = some c → Pv i H → g (.str ⟨#[c]⟩) (wipe σ vs) H fun σ2 H2 => wipe σ2 vs = wipe σ vs ∧ tt σ2 H2 fun b H3 =>
      if b = true then te σ2 H3 fun y H4 => ∃ acc, H4 D = some (.lst acc) ∧ acc.length < sizeLine ∧ Pv (i + 1) (upd H4 D (.lst (acc ++ [y]))) else Pv (i + 1) H3) (hd : ∀ H, Pv z.cps.size H → Qd H) :
    ∃ W : Nat → Nat → Hp → Prop, (∃ m, W 0 m (upd H1 D (.lst []))) ∧ ∀ i m H, W i m H →
      ((Its z).stop i H ∧ Qd H) ∨ ((Its z).go i H ∧ ∃ Nx : Hp → Prop, (∀ H', Nx H' → ∃ m', m' < m ∧ W (i + 1) m' H') ∧ ∀ x H', (Its z).yld i H x H' → g x (wipe σ vs) H' fun σ2 H2 => wipe σ2 vs = wipe σ vs ∧ tt σ2 H2 fun b H3 =>
        if b = true then te σ2 H3 fun y H4 => ∃ acc, H4 D = some (.lst acc) ∧ acc.length < sizeLine ∧ Nx (upd H4 D (.lst (acc ++ [y]))) else Nx H3) := by
  refine ⟨fun i m H => m = z.cps.size - i ∧ i ≤ z.cps.size ∧ Pv i H, ⟨z.cps.size, rfl, Nat.zero_le _, h0⟩, ?_⟩
  rintro i m H ⟨rfl, hi, p⟩
  by_cases lt : i < z.cps.size
  · refine .inr ⟨lt, Pv (i + 1), fun H2 p2 => ⟨z.cps.size - (i + 1), by omega, rfl, lt, p2⟩, fun v H2 w => ?_⟩
    obtain ⟨rfl, c, hc, rfl⟩ := w
    exact hs i c _ hc p
  · have e : i = z.cps.size := by omega
    subst e
    exact .inl ⟨Nat.le_refl _, hd H p⟩
end Vk
set_option Elab.async false
set_option maxRecDepth 100000
set_option maxHeartbeats 4000000
set_option linter.all false
namespace Vk
open PySem PySem.Spec PyProof.Rows L2 LamX
/-! ## the law's own call, one def of the text makes lambdas (its code object c, its table P) -/
theorem lawGT {P : Program} {w : World} {K : PySem.W.Frag} {mg mb : Str → Option Value} {CX : CXT} {k : Nat} {fa a c tP : Addr} {fd : FuncData} {x : Str} {sp : Sp} {s1 : Shared} {vs : List Value} {ns : List Int}
    (KX : K.In s1.heap) (gns : s1.heap.Ns mainGlobals mg) (bns : s1.heap.Ns builtinsNs mb) (bbt : ∀ x : Str, x ≠ "__name__" → mb x = bootBuiltins x) (nolim : s1.heap.NoLimit) (gens0 : s1.gens = #[])
    (tabAt : s1.heap.get? tP = some { cls := .none, data := .fields #[] }) (tabK : K.lookup tP = none) (code : PySem.W.CodeHd s1.heap c tP)
    (bmain : ∃ (bm : Addr) (ob : Obj), mg "__builtins__" = some (.ref bm) ∧ bm ≠ builtinsNs ∧ s1.heap.get? bm = some ob ∧ ob.cls = .type "module" ∧ ob.dict = some builtinsNs ∧ ob.data = .plain)
    (scr : s1.heap.get? a = some { cls := .type "list", data := .seq vs.toArray }) (hints : IntsAre vs ns) (short : ns.length ≤ sizeLine) (room : Room k callerA)
    (F : ∀ base : Heap, K.In base → base.Ns mainGlobals mg → TabB base mg c tP → FnG P w K mg base CX k fa fd [x] sp) (bind1 : ∀ (s : Shared) (u : Value), BindsTo s fd ⟨[u], []⟩ [(x, u)])
    (prom : ∀ H : Hp, H tP = some (.tbl #[]) → SqL K H a (ns.map V.int) → sp [.ref a] H (fun v _ => v = .bl true) fun _ _ _ => False)
    (noX : ∀ H e s2, CX [] H s1 (fun _ _ _ => False) e s2 → False) :
    codeAny (model P w) callerA (.call (.ref fa) ⟨[.ref a], []⟩) (fun r s2 => r = .ok (.ret (.bool true)) ∧ OldK s1.heap s2.heap ∧ s2.os = s1.os ∧ AllBare s2.gens) s1 := by
  have rel := vals_ints hints
  have aP : a ≠ tP := fun z => by
    rw [z, tabAt] at scr
    cases scr
  have main : ∀ H : Hp, H tP = some (.tbl #[]) → (∀ b u, H b = some u → b = tP ∨ (b = a ∧ ∃ ob xs, u = .frz ob (.lst xs))) → SqL K H a (ns.map V.int) → HOk P w H s1.heap → (∀ u, H a = some u → K.lookup a = none) →
      codeAny (model P w) callerA (.call (.ref fa) ⟨[.ref a], []⟩) (fun r s2 => r = .ok (.ret (.bool true)) ∧ OldK s1.heap s2.heap ∧ s2.os = s1.os ∧ AllBare s2.gens) s1 := by
    intro H hP only seq ok un1
    have apart : ∀ {b : Addr} {o : Obj}, s1.heap.get? b = some o → (∀ ws n, o.data ≠ .seq ws n) → o.data ≠ .fields #[] → H b = none := by
      intro b o e n1 n2
      match q : H b with
      | none => rfl
      | some u =>
        rcases only b u q with rfl | ⟨rfl, _⟩
        · rw [tabAt] at e
          cases e
          exact absurd rfl n2
        · rw [scr] at e
          cases e
          exact absurd rfl (n1 _ _)
    have nsAt : ∀ {b : Addr} {m : Str → Option Value}, s1.heap.Ns b m → (hidT s1.heap H).Ns b m := by
      rintro b m ⟨o, es, ep, e, d, r⟩
      exact ⟨o, es, ep, hidT_get e (apart e (fun ws n z => nomatch d.symm.trans z) (fun z => nomatch d.symm.trans z)), d, r⟩
    have inK : K.In (hidT s1.heap H) := by
      intro b o e
      refine hidT_get (KX b o e) ?_
      match q : H b with
      | none => rfl
      | some u =>
        rcases only b u q with rfl | ⟨rfl, _⟩
        · exact nomatch tabK.symm.trans e
        · exact nomatch (un1 u q).symm.trans e
    have limAt : (hidT s1.heap H).NoLimit := match nolim with | ⟨mc, h1, h2⟩ => ⟨mc, nsAt h1, h2⟩
    have mod1 : Mod K mg (hidT s1.heap H) := ⟨inK, nsAt gns, ⟨mb, nsAt bns, bbt⟩, limAt⟩
    have tb : TabB (hidT s1.heap H) mg c tP := by
      refine ⟨?_, ?_, fun z => ?_⟩
      · obtain ⟨o, us, file, tf, flags, tg, inF, text, tt, e1, r1, r2, r3, r⟩ := code
        refine ⟨o, us, file, tf, flags, tg, inF, text, tt, hidT_get e1 (apart e1 (fun ws n z => nomatch r2.symm.trans z) (fun z => ?_)), r1, r2, r3, r⟩
        have z2 := r2.symm.trans z
        cases z2
        simp at r3
      · obtain ⟨bm, ob, b1, b2, b3, b4, b5, b6⟩ := bmain
        refine ⟨bm, ob, b1, b2, fun q => ?_, fun q => ?_, hidT_get b3 (apart b3 (fun ws n z => nomatch b6.symm.trans z) (fun z => nomatch b6.symm.trans z)), b4, b5, b6⟩
        · obtain ⟨o, es, ep, e, hd, _⟩ := gns
          rw [q, e] at b3
          cases b3
          exact nomatch hd.symm.trans b6
        · rw [q, tabAt] at b3
          cases b3
          cases b6
      · obtain ⟨o, es, ep, e, hd, _⟩ := gns
        rw [z, tabAt] at e
        cases e
        cases hd
    have start0 : Env0 P w K mg (hidT s1.heap H) callerA [] s1 H := ⟨rfl, mod1, fun b o => of_hidT, Nat.le_of_eq (hidT_size s1.heap H), trivial, (fun b hb => absurd hb (List.not_mem_nil (a := b))), ok, AllBare.of_eq gens0⟩
    refine codeAny_mono ((F _ inK (nsAt gns) tb).run callerA [] s1 H ⟨[.ref a], []⟩ [.ref a] [.ref a] _ _ rfl room start0 (bind1 s1 (.ref a)) (.cons rfl .nil) (prom H hP seq)) ?_
    intro res s2 h
    match res, h with
    | .error e, h => exact (noX H e s2 h).elim
    | .ok .next, h => exact h.elim
    | .ok .brk, h => exact h.elim
    | .ok .cont, h => exact h.elim
    | .ok (.ret u), ⟨v, H2, os, bare, un, ok2, r2, (hv : v = .bl true)⟩ =>
      cases hv
      have hu : u = Value.bool true := r2
      cases hu
      obtain ⟨more, grown⟩ := un.tbls tP #[] hP
      have tab2 : s2.heap.get? tP = some { cls := .none, data := .fields (#[] ++ more) } := ok2 tP _ grown
      have rest : ∀ b o, b ≠ tP → s1.heap.get? b = some o → s2.heap.get? b = some o := by
        intro b o nb e
        match q : H b with
        | none => exact un.keep b o e q (fun z => nomatch z) (fun z => nomatch z)
        | some u =>
          rcases only b u q with rfl | ⟨rfl, ob, xs, rfl⟩
          · exact absurd rfl nb
          · have c1 := (ok b _ q).1
            have c2 := (ok2 b _ (un.frzs b ob _ q)).1
            exact c2.trans (c1.symm.trans e)
      refine ⟨rfl, ⟨fun b o e => ?_, fun b o e => ?_⟩, os, bare⟩
      · by_cases hb : b = tP
        · subst hb
          have e2 := tabAt.symm.trans e
          cases e2
          exact .inr (.inl ⟨(code.tab tabAt).isCodeTable, rfl, #[], more, rfl, tab2⟩)
        · exact .inl (rest b o hb e)
      · by_cases hb : b = tP
        · exact ⟨_, hb ▸ tab2⟩
        · exact ⟨o, rest b o hb e⟩
  match hk : K.lookup a with
  | some o =>
    have e := (KX a o hk).symm.trans scr
    cases e
    refine main (fun b => if b = tP then some (.tbl #[]) else none) (if_pos rfl) (fun b u z => ?_) (Or.inr ⟨_, vs.toArray, _, hk, rfl, rfl, rfl, ?_, ?_⟩) (fun b u z => ?_) (fun u z => nomatch (if_neg aP).symm.trans z)
    · by_cases hb : b = tP
      · exact .inl hb
      · exact nomatch (if_neg hb).symm.trans z
    · rw [List.size_toArray, hints.length]
      exact short
    · simpa using rel
    · by_cases hb : b = tP
      · subst hb
        have z2 := (if_pos rfl).symm.trans z
        cases z2
        exact tabAt
      · exact nomatch (if_neg hb).symm.trans z
  | none =>
    refine main (fun b => if b = a then some (.frz { cls := .type "list", data := .seq vs.toArray } (.lst (ns.map V.int))) else if b = tP then some (.tbl #[]) else none) ((if_neg aP.symm).trans (if_pos rfl)) (fun b u z => ?_) (Or.inl (Or.inr ⟨_, if_pos rfl⟩)) (fun b u z => ?_) (fun _ _ => hk)
    · by_cases ha : b = a
      · exact .inr ⟨ha, _, _, (Option.some.inj ((if_pos ha).symm.trans z)).symm⟩
      · by_cases hb : b = tP
        · exact .inl hb
        · exact nomatch ((if_neg ha).trans (if_neg hb)).symm.trans z
    · by_cases ha : b = a
      · subst ha
        have z1 := (if_pos rfl).symm.trans z
        cases z1
        exact ⟨scr, (by rw [List.length_map]; exact short), vs, _, rel, scr⟩
      · have z := (if_neg ha).symm.trans z
        by_cases hb : b = tP
        · subst hb
          have z2 := (if_pos rfl).symm.trans z
          cases z2
          exact tabAt
        · exact nomatch (if_neg hb).symm.trans z
theorem walkXT {l : PySem.W.OpenLaw} {n k : Nat} {q : Program} {loose : List Str} {XP : (Str → Option Value) → Heap → Prop} {YP : World → Heap → Prop} {d : DefRec} {K : Params → PySem.W.Frag} {CX : CXT} {sp : Addr → PySem.W.Frag → Sp} {x : Str}
    (hn : l.most = some n) (hn2 : n ≤ sizeLine) (hdf : d.params.defaults = []) (hr : Room k callerA) (hY : ∀ (w : World) (h : Heap), YP w h → (K w.params).In h)
    (F : ∀ (w : World) (mg : Str → Option Value) (fa : Addr) (h : Heap), (K w.params).In h → (∃ s0 mb, PySem.W.Ground q loose [] XP w s0 mg mb h) → mg d.name = some (.ref fa) →
      ∃ (fd : FuncData) (c tP : Addr), h.get? tP = some { cls := .none, data := .fields #[] } ∧ (K w.params).lookup tP = none ∧ PySem.W.CodeHd h c tP ∧ (∀ (s : Shared) (u : Value), BindsTo s fd ⟨[u], []⟩ [(x, u)]) ∧
        ∀ base : Heap, (K w.params).In base → base.Ns mainGlobals mg → TabB base mg c tP → FnG l.prog w (K w.params) mg base CX k fa fd [x] (sp tP (K w.params)))
    (hsp : ∀ (tP : Addr) (K : PySem.W.Frag) (H : Hp) (a : Addr) (ns : List Int), ns.length ≤ n → H tP = some (.tbl #[]) → SqL K H a (ns.map V.int) → sp tP K [.ref a] H (fun v _ => v = .bl true) fun _ _ _ => False)
    (noX : ∀ (H : Hp) (s : Shared) (e : Value) (s2 : Shared), CX [] H s (fun _ _ _ => False) e s2 → False) : PySem.W.WalkO q loose XP YP l.row.toRowW d [] (fun f vs => PySem.call f vs) := by
  refine Att.attach_call hn hdf ?_
  intro w s0 s1 mg mb fa o pm cd doc a vs ns G Y _ _ _ hmg scr hints hlen gens0
  obtain ⟨fd, c, tP, t1, t2, t3, hb, hF⟩ := F w mg fa _ (hY w _ Y) ⟨s0, mb, G⟩ hmg
  exact lawGT (hY w _ Y) G.T.g G.T.b G.T.builtins G.T.nolimit gens0 t1 t2 t3 G.T.bmain scr hints (Nat.le_trans hlen hn2) hr hF hb (fun H h1 h2 => hsp tP _ H a ns hlen h1 h2) (fun H => noX H s1)
theorem const_i {p : Program} {loose : List Str} {mean : ExcName → Option Value} {mg mb : Str → Option Value} {h : Heap} (T : PyProof.Rows.Top p loose mean mg mb h) {x : Str} {i : Int} (e : PyProof.Rows.valOf p x = some (.int i)) : ∃ u, mg x = some u ∧ RelV (.int i) u := by
  obtain ⟨v, hv, r⟩ := T.const x _ e
  cases r h with
  | int i t => exact ⟨_, hv, ⟨t, rfl⟩⟩
theorem const_s {p : Program} {loose : List Str} {mean : ExcName → Option Value} {mg mb : Str → Option Value} {h : Heap} (T : PyProof.Rows.Top p loose mean mg mb h) {x z : Str} (e : PyProof.Rows.valOf p x = some (.str z)) : ∃ u, mg x = some u ∧ RelV (.str z) u := by
  obtain ⟨v, hv, r⟩ := T.const x _ e
  cases r h with
  | str i t => exact ⟨_, hv, ⟨t, rfl⟩⟩
/-- the table of a def's code object -/
theorem tab_at {p : Program} {loose : List Str} {mean : ExcName → Option Value} {mg mb : Str → Option Value} {h : Heap} {K : PySem.W.Frag} {x : Str} {c tP : Addr} (T : PyProof.Rows.Top p loose mean mg mb h) (X : K.In h) (hr : ((PyProof.Rows.recsOf p).find? (fun e => e.name == x)).isSome = true) (ht : PySem.W.tabIn K x = some (c, tP)) (no : PySem.W.noTabs K = true) :
    h.get? tP = some { cls := .none, data := .fields #[] } ∧ K.lookup tP = none ∧ PySem.W.CodeHd h c tP := by
  obtain ⟨d, hd⟩ := Option.isSome_iff_exists.mp hr
  obtain ⟨h1, h2⟩ := PySem.W.tab_of T X hd ht
  refine ⟨h2, ?_, h1⟩
  match q : K.lookup tP with
  | none => rfl
  | some o =>
    have e := (X _ _ q).symm.trans h2
    cases e
    have z := List.all_eq_true.mp no _ (PySem.W.mem_of_lookupK q)
    exact nomatch (show false = true from z)
end Vk
set_option Elab.async false
set_option maxRecDepth 100000
set_option maxHeartbeats 4000000
set_option linter.all false
namespace Vk
open PySem PySem.Spec PyProof.Rows L2 LamX
/-! ## where the modules are told lies a dict -/
def SM (base : Heap) : Prop := ∃ (o : Obj) (es : Array DictEntry) (ep : _), base.get? sysModules = some o ∧ o.data = .dict es ep
theorem sm_of {h : Heap} (x : h.NoSeer) : SM h := by
  obtain ⟨mm, ⟨o, es, ep, ho, hd, _⟩, _⟩ := x.mods
  exact ⟨o, es, ep, ho, hd⟩
section
variable {X : Cx} {pins : List (Addr × Obj)} {σ : L2.St} {H : Hp} {s : Shared}
theorem ne_sys (I : Inv X pins σ H s) (sm : SM X.base) {a : Addr} {xs : List V} (h : H a = some (.lst xs)) : a ≠ sysModules := by
  rintro rfl
  obtain ⟨o, es, ep, ho, hd⟩ := sm
  obtain ⟨its, rv, ⟨o2, n, ho2, hc, _, hd2⟩, _⟩ := I.list (SqL.of h)
  have e := (I.bk _ _ ho).symm.trans ho2
  cases e
  exact nomatch hd.symm.trans hd2
/-- a list or a tuple of such values -/
def Shm (H : Hp) (x : V) (d : PyData) : Prop := ∃ q vs ds, x = .ref q ∧ Paired (Th H) vs ds ∧ ((H q = some (.lst vs) ∧ d = .list ds) ∨ (H q = some (.tup vs) ∧ d = .tuple ds))
theorem ths_read (I : Inv X pins σ H s) : ∀ {vs : List V} {ds : List PyData} {us : List Value}, Paired (Th H) vs ds → Vals vs us → ∃ as, ReadsAll s.heap us ds as ∧ sysModules ∉ as
  | _, _, _, .nil, .nil => ⟨_, ReadsAll.nil, List.not_mem_nil⟩
  | _, _, _, .cons a t, .cons r rs => by
    obtain ⟨as, h1, n1⟩ := a.reads I r
    obtain ⟨bs, h2, n2⟩ := ths_read I t rs
    refine ⟨_, ReadsAll.cons h1 h2, ?_⟩
    simp only [List.mem_append, not_or]
    exact ⟨n1, n2⟩
theorem call_reprM (sm : SM X.base) (hg : X.A.guards = some []) (hu : X.A.units + 64 < cLine) : CallR X (.builtin "repr") (fun xs H Q => ∃ x d, xs = [x] ∧ Shm H x d ∧ Shn d ∧ Q (.str d.shown) H) := by
  intro pins s σ H xs us Q I r h
  obtain ⟨x, d, rfl, ⟨q, vs, ds, rfl, pr, hd⟩, sh, k⟩ := h
  obtain ⟨u, rfl, ru⟩ := r.one
  cases (show u = Value.ref q from ru)
  rcases hd with ⟨e, rfl⟩ | ⟨e, rfl⟩
  · have ne := ne_sys I sm e
    obtain ⟨its, rv, ⟨o, n, ho, hc, _, hd⟩, _⟩ := I.list (SqL.of e)
    obtain ⟨as, h1, n1⟩ := ths_read I pr rv
    have rd := Reads.list ho hc hd h1
    refine repr_of_reads' rd sh.1 (fun z => ?_) hg (by have := sh.2.1; omega) (fun _ _ e => e) (fun h2 u tk hk => ⟨V.str _, H, I.kept hk, ⟨u, rfl⟩, k⟩) sh.2.2
    simp only [List.mem_cons, not_or]
    exact ⟨fun w => ne w.symm, n1⟩
  · obtain ⟨its, rv, ⟨o, ho, hc, n, hd⟩, _⟩ := I.tuple (SqT.of e)
    obtain ⟨as, h1, n1⟩ := ths_read I pr rv
    have rd := Reads.tuple ho hc hd h1
    refine repr_of_reads' rd sh.1 (fun z => ?_) hg (by have := sh.2.1; omega) (fun _ _ e => e) (fun h2 u tk hk => ⟨V.str _, H, I.kept hk, ⟨u, rfl⟩, k⟩) sh.2.2
    first | exact n1 | exact List.not_mem_nil
end
/-! ## == of a list and the empty list -/
section
open Builtin
theorem list_far {prog : Program} {w : World} {A : Around} {s : Shared} {l b : Addr} {items items2 : Array Value} (hl : s.heap.IsList l items) (hb : s.heap.IsList b items2) (hsz : items.size ≠ items2.size) (hu : A.units < cLine) (E Q : Value → Shared → Prop)
    (h : Q (.bool false) s) : wpAny (model prog w) A (richCompare .Eq (.ref l) (.ref b)) Q E s := by
  obtain ⟨⟨cls, dd, data, sl⟩, ho, hc, n, hd⟩ := id hl
  obtain ⟨⟨cls2, dd2, data2, sl2⟩, ho2, hc2, n2, hd2⟩ := id hb
  simp only at hc hd hc2 hd2
  subst hc hd hc2 hd2
  have ta : s.TypeIs (.ref l) "list" := ⟨_, ho, rfl⟩
  have tb : s.TypeIs (.ref b) "list" := ⟨_, ho2, rfl⟩
  refine wpAny_richCompare_same_room (op := .Eq) ta tb F.slot_list_eq (GQ.call_here F.slot_list_eq ta F.entry_list_eq (F.args_list_eq_2 _ _) ?_) hu
  have f3 := AutoSeq1.sub_list_list
  have hne : (items.size != items2.size) = true := by simpa using hsz
  obtain ⟨hp, g, d, tk, os⟩ := s
  wp_walk using AutoSeq1.wpAny_loadPart' ho, AutoSeq1.wpAny_loadPart' ho2
  exact ⟨(fun x => nomatch x), h⟩
end
def rEqNil (K : PySem.W.Frag) : R2 := fun x y H Q => ∃ a xs b, x = .ref a ∧ y = .ref b ∧ SqL K H a xs ∧ SqL K H b [] ∧ Q (.bl (decide (xs.length = 0))) H
theorem op_eqNil {X : Cx} (hu : X.A.units + 64 < cLine) : OpR X (compareOp .Eq) (rEqNil X.K) := by
  intro pins s σ H x y v u Q I rx ry h
  obtain ⟨a, xs, b, rfl, rfl, ha, hb, q⟩ := h
  cases (show v = Value.ref a from rx)
  cases (show u = Value.ref b from ry)
  obtain ⟨us, r1, p1, _⟩ := I.list ha
  obtain ⟨ws, r2, p2, _⟩ := I.list hb
  cases r2
  show wpAny (model X.prog X.w) X.A (richCompare .Eq (.ref a) (.ref b)) (EP X pins σ Q) X.xe s
  cases xs with
  | nil =>
    cases r1
    exact SeqAt.rcP_lists (e := fun _ => true) p1.isList p2.isList rfl (by omega) (fun j h1 h2 => absurd h1 (by simp)) _ _ ⟨.bl true, H, I, rfl, q⟩
  | cons y ys =>
    cases r1 with
    | cons r rs => exact list_far p1.isList p2.isList (by simp) (by omega) _ _ ⟨.bl false, H, I, rfl, q⟩
/-! ## the law's own call, one def of the text makes lambdas (its code object c, its table P) -/
theorem lawGS {P : Program} {w : World} {K : PySem.W.Frag} {mg mb : Str → Option Value} {CX : CXT} {k : Nat} {fa a c tP : Addr} {fd : FuncData} {x : Str} {sp : Sp} {s1 : Shared} {vs : List Value} {ns : List Int}
    (KX : K.In s1.heap) (gns : s1.heap.Ns mainGlobals mg) (bns : s1.heap.Ns builtinsNs mb) (bbt : ∀ x : Str, x ≠ "__name__" → mb x = bootBuiltins x) (nolim : s1.heap.NoLimit) (smod : SM s1.heap) (gens0 : s1.gens = #[])
    (tabAt : s1.heap.get? tP = some { cls := .none, data := .fields #[] }) (tabK : K.lookup tP = none) (code : PySem.W.CodeHd s1.heap c tP)
    (bmain : ∃ (bm : Addr) (ob : Obj), mg "__builtins__" = some (.ref bm) ∧ bm ≠ builtinsNs ∧ s1.heap.get? bm = some ob ∧ ob.cls = .type "module" ∧ ob.dict = some builtinsNs ∧ ob.data = .plain)
    (scr : s1.heap.get? a = some { cls := .type "list", data := .seq vs.toArray }) (hints : IntsAre vs ns) (short : ns.length ≤ sizeLine) (room : Room k callerA)
    (F : ∀ base : Heap, K.In base → base.Ns mainGlobals mg → TabB base mg c tP → SM base → FnG P w K mg base CX k fa fd [x] sp) (bind1 : ∀ (s : Shared) (u : Value), BindsTo s fd ⟨[u], []⟩ [(x, u)])
    (prom : ∀ H : Hp, H tP = some (.tbl #[]) → SqL K H a (ns.map V.int) → sp [.ref a] H (fun v _ => v = .bl true) fun _ _ _ => False)
    (noX : ∀ H e s2, CX [] H s1 (fun _ _ _ => False) e s2 → False) :
    codeAny (model P w) callerA (.call (.ref fa) ⟨[.ref a], []⟩) (fun r s2 => r = .ok (.ret (.bool true)) ∧ OldK s1.heap s2.heap ∧ s2.os = s1.os ∧ AllBare s2.gens) s1 := by
  have rel := vals_ints hints
  have aP : a ≠ tP := fun z => by
    rw [z, tabAt] at scr
    cases scr
  have main : ∀ H : Hp, H tP = some (.tbl #[]) → (∀ b u, H b = some u → b = tP ∨ (b = a ∧ ∃ ob xs, u = .frz ob (.lst xs))) → SqL K H a (ns.map V.int) → HOk P w H s1.heap → (∀ u, H a = some u → K.lookup a = none) →
      codeAny (model P w) callerA (.call (.ref fa) ⟨[.ref a], []⟩) (fun r s2 => r = .ok (.ret (.bool true)) ∧ OldK s1.heap s2.heap ∧ s2.os = s1.os ∧ AllBare s2.gens) s1 := by
    intro H hP only seq ok un1
    have apart : ∀ {b : Addr} {o : Obj}, s1.heap.get? b = some o → (∀ ws n, o.data ≠ .seq ws n) → o.data ≠ .fields #[] → H b = none := by
      intro b o e n1 n2
      match q : H b with
      | none => rfl
      | some u =>
        rcases only b u q with rfl | ⟨rfl, _⟩
        · rw [tabAt] at e
          cases e
          exact absurd rfl n2
        · rw [scr] at e
          cases e
          exact absurd rfl (n1 _ _)
    have nsAt : ∀ {b : Addr} {m : Str → Option Value}, s1.heap.Ns b m → (hidT s1.heap H).Ns b m := by
      rintro b m ⟨o, es, ep, e, d, r⟩
      exact ⟨o, es, ep, hidT_get e (apart e (fun ws n z => nomatch d.symm.trans z) (fun z => nomatch d.symm.trans z)), d, r⟩
    have inK : K.In (hidT s1.heap H) := by
      intro b o e
      refine hidT_get (KX b o e) ?_
      match q : H b with
      | none => rfl
      | some u =>
        rcases only b u q with rfl | ⟨rfl, _⟩
        · exact nomatch tabK.symm.trans e
        · exact nomatch (un1 u q).symm.trans e
    have limAt : (hidT s1.heap H).NoLimit := match nolim with | ⟨mc, h1, h2⟩ => ⟨mc, nsAt h1, h2⟩
    have mod1 : Mod K mg (hidT s1.heap H) := ⟨inK, nsAt gns, ⟨mb, nsAt bns, bbt⟩, limAt⟩
    have tb : TabB (hidT s1.heap H) mg c tP := by
      refine ⟨?_, ?_, fun z => ?_⟩
      · obtain ⟨o, us, file, tf, flags, tg, inF, text, tt, e1, r1, r2, r3, r⟩ := code
        refine ⟨o, us, file, tf, flags, tg, inF, text, tt, hidT_get e1 (apart e1 (fun ws n z => nomatch r2.symm.trans z) (fun z => ?_)), r1, r2, r3, r⟩
        have z2 := r2.symm.trans z
        cases z2
        simp at r3
      · obtain ⟨bm, ob, b1, b2, b3, b4, b5, b6⟩ := bmain
        refine ⟨bm, ob, b1, b2, fun q => ?_, fun q => ?_, hidT_get b3 (apart b3 (fun ws n z => nomatch b6.symm.trans z) (fun z => nomatch b6.symm.trans z)), b4, b5, b6⟩
        · obtain ⟨o, es, ep, e, hd, _⟩ := gns
          rw [q, e] at b3
          cases b3
          exact nomatch hd.symm.trans b6
        · rw [q, tabAt] at b3
          cases b3
          cases b6
      · obtain ⟨o, es, ep, e, hd, _⟩ := gns
        rw [z, tabAt] at e
        cases e
        cases hd
    have sm : SM (hidT s1.heap H) := by
      obtain ⟨o, es, ep, e, d⟩ := smod
      exact ⟨o, es, ep, hidT_get e (apart e (fun ws n z => nomatch d.symm.trans z) (fun z => nomatch d.symm.trans z)), d⟩
    have start0 : Env0 P w K mg (hidT s1.heap H) callerA [] s1 H := ⟨rfl, mod1, fun b o => of_hidT, Nat.le_of_eq (hidT_size s1.heap H), trivial, (fun b hb => absurd hb (List.not_mem_nil (a := b))), ok, AllBare.of_eq gens0⟩
    refine codeAny_mono ((F _ inK (nsAt gns) tb sm).run callerA [] s1 H ⟨[.ref a], []⟩ [.ref a] [.ref a] _ _ rfl room start0 (bind1 s1 (.ref a)) (.cons rfl .nil) (prom H hP seq)) ?_
    intro res s2 h
    match res, h with
    | .error e, h => exact (noX H e s2 h).elim
    | .ok .next, h => exact h.elim
    | .ok .brk, h => exact h.elim
    | .ok .cont, h => exact h.elim
    | .ok (.ret u), ⟨v, H2, os, bare, un, ok2, r2, (hv : v = .bl true)⟩ =>
      cases hv
      have hu : u = Value.bool true := r2
      cases hu
      obtain ⟨more, grown⟩ := un.tbls tP #[] hP
      have tab2 : s2.heap.get? tP = some { cls := .none, data := .fields (#[] ++ more) } := ok2 tP _ grown
      have rest : ∀ b o, b ≠ tP → s1.heap.get? b = some o → s2.heap.get? b = some o := by
        intro b o nb e
        match q : H b with
        | none => exact un.keep b o e q (fun z => nomatch z) (fun z => nomatch z)
        | some u =>
          rcases only b u q with rfl | ⟨rfl, ob, xs, rfl⟩
          · exact absurd rfl nb
          · have c1 := (ok b _ q).1
            have c2 := (ok2 b _ (un.frzs b ob _ q)).1
            exact c2.trans (c1.symm.trans e)
      refine ⟨rfl, ⟨fun b o e => ?_, fun b o e => ?_⟩, os, bare⟩
      · by_cases hb : b = tP
        · subst hb
          have e2 := tabAt.symm.trans e
          cases e2
          exact .inr (.inl ⟨(code.tab tabAt).isCodeTable, rfl, #[], more, rfl, tab2⟩)
        · exact .inl (rest b o hb e)
      · by_cases hb : b = tP
        · exact ⟨_, hb ▸ tab2⟩
        · exact ⟨o, rest b o hb e⟩
  match hk : K.lookup a with
  | some o =>
    have e := (KX a o hk).symm.trans scr
    cases e
    refine main (fun b => if b = tP then some (.tbl #[]) else none) (if_pos rfl) (fun b u z => ?_) (Or.inr ⟨_, vs.toArray, _, hk, rfl, rfl, rfl, ?_, ?_⟩) (fun b u z => ?_) (fun u z => nomatch (if_neg aP).symm.trans z)
    · by_cases hb : b = tP
      · exact .inl hb
      · exact nomatch (if_neg hb).symm.trans z
    · rw [List.size_toArray, hints.length]
      exact short
    · simpa using rel
    · by_cases hb : b = tP
      · subst hb
        have z2 := (if_pos rfl).symm.trans z
        cases z2
        exact tabAt
      · exact nomatch (if_neg hb).symm.trans z
  | none =>
    refine main (fun b => if b = a then some (.frz { cls := .type "list", data := .seq vs.toArray } (.lst (ns.map V.int))) else if b = tP then some (.tbl #[]) else none) ((if_neg aP.symm).trans (if_pos rfl)) (fun b u z => ?_) (Or.inl (Or.inr ⟨_, if_pos rfl⟩)) (fun b u z => ?_) (fun _ _ => hk)
    · by_cases ha : b = a
      · exact .inr ⟨ha, _, _, (Option.some.inj ((if_pos ha).symm.trans z)).symm⟩
      · by_cases hb : b = tP
        · exact .inl hb
        · exact nomatch ((if_neg ha).trans (if_neg hb)).symm.trans z
    · by_cases ha : b = a
      · subst ha
        have z1 := (if_pos rfl).symm.trans z
        cases z1
        exact ⟨scr, (by rw [List.length_map]; exact short), vs, _, rel, scr⟩
      · have z := (if_neg ha).symm.trans z
        by_cases hb : b = tP
        · subst hb
          have z2 := (if_pos rfl).symm.trans z
          cases z2
          exact tabAt
        · exact nomatch (if_neg hb).symm.trans z
theorem walkXS {l : PySem.W.OpenLaw} {n k : Nat} {q : Program} {loose : List Str} {XP : (Str → Option Value) → Heap → Prop} {YP : World → Heap → Prop} {d : DefRec} {K : Params → PySem.W.Frag} {CX : CXT} {sp : Addr → PySem.W.Frag → Sp} {x : Str}
    (hi : PyProof.Rows.importsNone q = true) (hn : l.most = some n) (hn2 : n ≤ sizeLine) (hdf : d.params.defaults = []) (hr : Room k callerA) (hY : ∀ (w : World) (h : Heap), YP w h → (K w.params).In h)
    (F : ∀ (w : World) (mg : Str → Option Value) (fa : Addr) (h : Heap), (K w.params).In h → (∃ s0 mb, PySem.W.Ground q loose [] XP w s0 mg mb h) → mg d.name = some (.ref fa) →
      ∃ (fd : FuncData) (c tP : Addr), h.get? tP = some { cls := .none, data := .fields #[] } ∧ (K w.params).lookup tP = none ∧ PySem.W.CodeHd h c tP ∧ (∀ (s : Shared) (u : Value), BindsTo s fd ⟨[u], []⟩ [(x, u)]) ∧
        ∀ base : Heap, (K w.params).In base → base.Ns mainGlobals mg → TabB base mg c tP → SM base → FnG l.prog w (K w.params) mg base CX k fa fd [x] (sp tP (K w.params)))
    (hsp : ∀ (tP : Addr) (K : PySem.W.Frag) (H : Hp) (a : Addr) (ns : List Int), ns.length ≤ n → H tP = some (.tbl #[]) → SqL K H a (ns.map V.int) → sp tP K [.ref a] H (fun v _ => v = .bl true) fun _ _ _ => False)
    (noX : ∀ (H : Hp) (s : Shared) (e : Value) (s2 : Shared), CX [] H s (fun _ _ _ => False) e s2 → False) : PySem.W.WalkO q loose XP YP l.row.toRowW d [] (fun f vs => PySem.call f vs) := by
  refine Att.attach_call hn hdf ?_
  intro w s0 s1 mg mb fa o pm cd doc a vs ns G Y _ _ _ hmg scr hints hlen gens0
  obtain ⟨fd, c, tP, t1, t2, t3, hb, hF⟩ := F w mg fa _ (hY w _ Y) ⟨s0, mb, G⟩ hmg
  exact lawGS (hY w _ Y) G.T.g G.T.b G.T.builtins G.T.nolimit (sm_of (G.T.seer hi)) gens0 t1 t2 t3 G.T.bmain scr hints (Nat.le_trans hlen hn2) hr hF hb (fun H h1 h2 => hsp tP _ H a ns hlen h1 h2) (fun H => noX H s1)
end Vk
set_option Elab.async false
set_option maxRecDepth 100000
set_option maxHeartbeats 4000000
set_option linter.all false
namespace Vk
open L2 PySem PySem.Spec PyProof.Rows PySem.VkX
/-! ## what is made is new -/
def New (H : Hp) (v : V) : Prop := ∀ b, v = .ref b → H b = none
theorem New.same {H H1 : Hp} {v : V} (n : New H1 v) (s : Same H H1) : New H v := fun b e => by
  match q : H b with
  | none => rfl
  | some o => exact nomatch (s b o q).symm.trans (n b e)
theorem New.ext {H H1 : Hp} {v : V} {p c : Addr} {T : Nat} (n : New H1 v) (x : Ext p H H1) (P : Pen H1 p c T) : New H v := fun b e => by
  match q : H b with
  | none => rfl
  | some o =>
    obtain ⟨t, l, hp⟩ := P.is
    by_cases hb : b = p
    · rw [hb] at e
      exact nomatch hp.symm.trans (n p e)
    · exact nomatch (x b o q hb).symm.trans (n b e)
theorem Atm.new {H : Hp} {v : V} {d : PyData} (a : Atm v d) : New H v := fun b e => by
  subst e
  cases a
theorem New.ne {H : Hp} {v : V} {D : Addr} {o : HO} (n : New H v) (h : H D = some o) : v ≠ .ref D := fun e => nomatch h.symm.trans (n D e)
theorem Th.at {H : Hp} {v : V} {d : PyData} {D : Addr} {o : HO} (h : Th H v d) (n : v ≠ .ref D) : Th (upd H D o) v d := by
  cases h with
  | atm a => exact .atm a
  | @lst a xs ds e ne p => exact .lst ((upd_ne fun z => n (congrArg V.ref z)).trans e) ne p
  | @tup a xs ds e p => exact .tup ((upd_ne fun z => n (congrArg V.ref z)).trans e) p
  | @dct a ps e => exact .dct ((upd_ne fun z => n (congrArg V.ref z)).trans e)
def Mk2 (t : TE) (d : PyData) : Prop := ∀ σ H Q, (∀ v H', Same H H' → Th H' v d → New H v → Q v H') → t σ H Q
def Mks2 (t : TA) (ds : List PyData) : Prop := ∀ σ H Q, (∀ vs H', Same H H' → Paired (Th H') vs ds → (∀ v ∈ vs, New H v) → Q vs H') → t σ H Q
section
variable {t te : TE} {ta : TA} {d : PyData} {ds : List PyData}
theorem mk2_atm (a : MkA te d) : Mk2 te d := by
  obtain ⟨v, h1, h2⟩ := a
  exact fun σ H Q q => h2 σ H Q (q v H Same.rfl (.atm h1) h1.new)
theorem mk2_tup (a : MkAs ta ds) (hl : ds.length ≤ 1000) : Mk2 (tTup ta) (.tuple ds) := by
  obtain ⟨vs, g1, g2⟩ := a
  exact fun σ H Q q => g2 σ H _ ⟨few_len ((paired_len g1).symm ▸ hl), fun p hp => q _ _ (same_new hp) (.tup upd_same g1) fun b e => by cases e; exact hp⟩
theorem mk2_lst (a : MkAs ta ds) (hl : ds.length ≤ 1000) : Mk2 (tLs1 ta) (.list ds) := by
  obtain ⟨vs, g1, g2⟩ := a
  exact fun σ H Q q => g2 σ H _ ⟨few_len ((paired_len g1).symm ▸ hl), fun p hp np => q _ _ (same_new hp) (.lst upd_same np g1) fun b e => by cases e; exact hp⟩
theorem mk2_dnew : Mk2 tDNewK (.dict (kvD [])) := fun σ H Q q p hp => q _ _ (same_new hp) (.dct upd_same) fun b e => by cases e; exact hp
theorem mk2_disp {a b : Str} : Mk2 (tDisp [(tC (.str a), tC (.str b))]) (.dict (kvD [(a, b)])) := by
  intro σ H Q q p hp
  refine ⟨upd_same, [(Sum.inr a, V.str b)], rfl, by show 1 ≤ 15; decide, ?_⟩
  refine q _ _ (fun c o h => ?_) (.dct (ps := [(a, b)]) upd_same) fun b e => by cases e; exact hp
  rw [upd_ne (ne_of_none h hp), upd_ne (ne_of_none h hp)]
  exact h
theorem mks2_nil : Mks2 tNil [] := fun σ H Q q => q [] H Same.rfl .nil fun v hv => absurd hv List.not_mem_nil
theorem mks2_cons (a : Mk2 te d) (b : Mks2 ta ds) : Mks2 (tCons te ta) (d :: ds) := fun σ H Q q => a σ H _ fun v H1 s1 t1 n1 => b σ H1 _ fun vs H2 s2 t2 n2 => q _ _ (s1.trans s2) (.cons (t1.keep s2) t2) fun x hx => by
  rcases List.mem_cons.mp hx with rfl | hx
  · exact n1
  · exact (n2 x hx).same s1
theorem mk2_many (a : Mks2 ta ds) (hl : ds.length ≤ 1000) {σ : L2.St} {H : Hp} {Q : VK} (q : ∀ p xs H', Same H H' → H' p = some (.lst xs) → Paired (Th H') xs ds → (∀ v ∈ xs, New H v) → Q (.ref p) H') : tLst ta σ H Q :=
  a σ H _ fun vs H1 s1 t1 n1 => ⟨few_len ((paired_len t1).symm ▸ hl), fun p hp => q p vs _ (s1.trans (same_new hp)) upd_same (ths_keep (same_new hp) t1) n1⟩
end
end Vk
set_option Elab.async false
set_option maxRecDepth 100000
set_option linter.all false
namespace Vk
open PySem PySem.Spec PyProof.Rows L2
/-! ## lists whose items stand for items of another list -/
theorem paired_at {α β : Type} {R : α → β → Prop} : ∀ {xs : List α} {ys : List β} {i : Nat} {x : α}, Paired R xs ys → xs[i]? = some x → ∃ y, ys[i]? = some y ∧ R x y
  | _, _, 0, _, .cons a t, h => by cases h; exact ⟨_, rfl, a⟩
  | _, _, i + 1, _, .cons a t, h => paired_at (i := i) t h
theorem drop_at {α : Type} : ∀ {l : List α} {i : Nat} {x : α}, l[i]? = some x → l.drop i = x :: l.drop (i + 1)
  | a :: l, 0, x, h => by cases h; rfl
  | a :: l, i + 1, x, h => by simpa using drop_at (l := l) (i := i) (x := x) (by simpa using h)
theorem paired_perm {α β : Type} {R : α → β → Prop} {xs ys : List α} (p : ys.Perm xs) : ∀ {rs : List β}, Paired R xs rs → ∃ ls, ls.Perm rs ∧ Paired R ys ls := by
  induction p with
  | nil => exact fun h => ⟨_, .refl _, h⟩
  | cons x p ih =>
    intro rs h
    cases h with
    | cons a t =>
      obtain ⟨ls, q, r⟩ := ih t
      exact ⟨_, q.cons _, .cons a r⟩
  | swap x y l =>
    intro rs h
    cases h with
    | cons a t =>
      cases t with
      | cons b t => exact ⟨_, .swap _ _ _, .cons b (.cons a t)⟩
  | trans p1 p2 ih1 ih2 =>
    intro rs h
    obtain ⟨ls, q, r⟩ := ih2 h
    obtain ⟨ms, q2, r2⟩ := ih1 r
    exact ⟨ms, q2.trans q, r2⟩
def tTruK (K : PySem.W.Frag) (ta : TE) : TT := fun σ H Q => ta σ H fun x H' => ∃ k, TruV K x H' k ∧ Q k H'
theorem pt_truthK {X : Cx} {K : PySem.W.Frag} {a : Expr} {ta : TE} (hK : X.K = K) (ha : PE X a ta) (he : ∀ whole, isTrue a X.env whole = (do let v ← whole; standAt a.pos; holding [v] (truthy v)) := by intro _; rfl) :
    PT X a (tTruK K ta) := hK ▸ pt_truth ha he
end Vk
set_option Elab.async false
set_option maxRecDepth 100000
set_option maxHeartbeats 4000000
set_option linter.all false
namespace Vk
open PySem PySem.Spec PyProof.Rows L2
theorem fewL {n : Nat} (h : n ≤ 100000) : n < sizeLine := Nat.lt_of_le_of_lt h (by rw [sizeLine_eq]; decide)
theorem pair_mono {α β : Type} {R S : α → β → Prop} (h : ∀ a b, R a b → S a b) : ∀ {xs : List α} {ys : List β}, Paired R xs ys → Paired S xs ys
  | _, _, .nil => .nil
  | _, _, .cons a t => .cons (h _ _ a) (pair_mono h t)
theorem none_up {H H1 : Hp} {a : Addr} (s : Same H H1) (h : H1 a = none) : H a = none := by
  match e : H a with
  | none => rfl
  | some o => exact nomatch (s _ _ e).symm.trans h
theorem upd_list {H : Hp} {l : Addr} {xs : List V} {o : HO} (h : H l = some (.lst xs)) (u : Addr) (ws : List V) (hu : H u = some (.tup ws)) : (upd H l o) u = some (.tup ws) := by
  rw [upd_ne (fun e => by rw [e, h] at hu; cases hu)]
  exact hu
theorem upd_out {H H1 : Hp} {l : Addr} {o : HO} (hl : H l = none) (s : Same H H1) : Same H (upd H1 l o) := fun b o2 h => by
  rw [upd_ne (ne_of_none h hl)]
  exact s _ _ h
/-- letter i of x -/
def ltr (x : Str) (i : Nat) : Nat := x.cps.toList.getD i 0
theorem ltr_at {x : Str} {i c : Nat} (h : x.cps[i]? = some c) : ltr x i = c := by
  unfold ltr
  rw [List.getD_eq_getElem?_getD, Array.getElem?_toList, h]
  rfl
theorem ones_eq (a b : Nat) : decide (OneS a = OneS b) = decide (a = b) := by
  by_cases h : a = b
  · subst h; rw [decide_eq_true rfl, decide_eq_true rfl]
  · rw [decide_eq_false h, decide_eq_false fun e => h ?_]
    have q := V.str.inj e
    have q2 := congrArg (fun z : Str => z.cps.toList) q
    simpa using q2
theorem paired_back {α β : Type} {R : α → β → Prop} : ∀ {xs : List α} {ys : List β} {y : β}, Paired R xs ys → y ∈ ys → ∃ x, x ∈ xs ∧ R x y
  | _, _, _, .cons (a := x) a t, h => by
    rcases List.mem_cons.mp h with rfl | h
    · exact ⟨_, List.mem_cons_self, a⟩
    · obtain ⟨z, m, e⟩ := paired_back t h
      exact ⟨z, List.mem_cons_of_mem _ m, e⟩
theorem cut_ab {x : Str} {a b : Nat} (h1 : a ≤ b) (h2 : b ≤ x.length) : cutS x (some (a : Int)) (some (b : Int)) = ⟨((x.cps.toList.drop a).take (b - a)).toArray⟩ := by
  unfold cutS
  rw [HT.sIx_nat, HT.sIx_nat, Nat.min_eq_left h2, Nat.min_eq_left (Nat.le_trans h1 h2)]
theorem cut_len {x : Str} {a b : Nat} (h1 : a ≤ b) (h2 : b ≤ x.length) : (cutS x (some (a : Int)) (some (b : Int))).length = b - a := by
  rw [cut_ab h1 h2]
  show (List.toArray _).size = _
  have : x.cps.toList.length = x.length := Array.length_toList
  rw [List.size_toArray, List.length_take, List.length_drop]
  omega
theorem cut_ltr {x : Str} {a b t : Nat} (h1 : a ≤ b) (h2 : b ≤ x.length) (ht : t < b - a) : ltr (cutS x (some (a : Int)) (some (b : Int))) t = ltr x (a + t) := by
  rw [cut_ab h1 h2]
  unfold ltr
  show (List.getD (List.take _ _) t 0) = _
  rw [List.getD_eq_getElem?_getD, List.getD_eq_getElem?_getD, List.getElem?_take, if_pos ht, List.getElem?_drop]
theorem depthAll_const : ∀ (ds : List PyData) (n : Nat), (∀ d ∈ ds, d.depth ≤ n) → PyData.depthAll ds ≤ n
  | [], _, _ => Nat.zero_le _
  | d :: r, n, h => Nat.max_le.mpr ⟨h d List.mem_cons_self, depthAll_const r n fun e he => h e (List.mem_cons_of_mem _ he)⟩
theorem canAll_of : ∀ (ds : List PyData), (∀ d ∈ ds, PyData.canLay0 d = true) → PyData.canLayAll0 ds = true
  | [], _ => rfl
  | d :: r, h => by
    show (PyData.canLay0 d && PyData.canLayAll0 r) = true
    rw [h d List.mem_cons_self, canAll_of r fun e he => h e (List.mem_cons_of_mem _ he)]
    rfl
theorem shaped_list {ds : List PyData} {n : Nat} (h1 : ∀ d ∈ ds, PyData.canLay0 d = true) (h2 : ∀ d ∈ ds, d.depth ≤ n) (hn : n ≤ 20) : SeqAt.shaped (.list ds) = true := by
  unfold SeqAt.shaped
  have e1 : PyData.canLay0 (.list ds) = true := canAll_of ds h1
  have e2 : PyData.depth (.list ds) ≤ 21 := Nat.succ_le_succ (Nat.le_trans (depthAll_const ds n h2) hn)
  rw [e1]
  simp
  omega
theorem or_both {c : Bool} {T B R : Prop} (h1 : c = true → R → T) (h2 : c = false → R → B) (h : R) : if c = true then T else B := by
  cases c with
  | true => exact h1 rfl h
  | false => exact h2 rfl h
theorem and_cut {c : Bool} {A R : Prop} (h : R) (h2 : c = true → R → A) : if c = true then A else R := by
  cases c with
  | true => exact h2 rfl h
  | false => exact h
theorem ite_meet {c : Bool} {T1 T2 : (V → Hp → Prop) → Prop} {C : V → Hp → Prop} (G : V → Hp → Prop) (h : ∀ v H, G v H → C v H) (h1 : c = true → ∀ C' : V → Hp → Prop, (∀ v H, G v H → C' v H) → T1 C') (h2 : c = false → ∀ C' : V → Hp → Prop, (∀ v H, G v H → C' v H) → T2 C') : if c = true then T1 C else T2 C := by
  cases c with
  | true => exact h1 rfl C h
  | false => exact h2 rfl C h
theorem plc_asc (x w : Str) : (plc x w).Pairwise (· < ·) := List.pairwise_lt_range.filter _
theorem plc_ltr {x w : Str} {k : Nat} : k ∈ plc x w ↔ k + w.length ≤ x.length ∧ ∀ t, t < w.length → ltr x (k + t) = ltr w t := by
  unfold plc atB
  rw [List.mem_filter, List.mem_range, Bool.and_eq_true, decide_eq_true_eq, StrLaws.subAt_eq, beq_iff_eq]
  constructor
  · rintro ⟨_, h1, h2⟩
    refine ⟨h1, fun t ht => ?_⟩
    unfold ltr
    rw [← h2, List.getD_eq_getElem?_getD, List.getD_eq_getElem?_getD, List.getElem?_take, if_pos ht, List.getElem?_drop]
  · rintro ⟨h1, h2⟩
    refine ⟨by omega, h1, List.ext_getElem? fun t => ?_⟩
    have lw : w.cps.toList.length = w.length := Array.length_toList
    have lx : x.cps.toList.length = x.length := Array.length_toList
    by_cases ht : t < w.length
    · have q := h2 t ht
      unfold ltr at q
      rw [List.getD_eq_getElem?_getD, List.getD_eq_getElem?_getD, List.getElem?_eq_getElem (by omega : k + t < x.cps.toList.length), List.getElem?_eq_getElem (by omega : t < w.cps.toList.length)] at q
      rw [List.getElem?_take, if_pos ht, List.getElem?_drop, List.getElem?_eq_getElem (by omega : k + t < x.cps.toList.length), List.getElem?_eq_getElem (by omega : t < w.cps.toList.length)]
      exact congrArg some q
    · rw [List.getElem?_take, if_neg ht, List.getElem?_eq_none (by omega)]
theorem atI_end {xs : List V} {n : Nat} {v : V} (h : xs[n]? = some v) (hl : xs.length = n + 1) : atI xs (-1) = some v := by
  have e : xs = xs.take n ++ [v] := by
    have := List.take_append_drop n xs
    rw [drop_at h, List.drop_of_length_le (by omega)] at this
    exact this.symm
  rw [e]
  exact atI_last _ _
/-- pairs of numbers -/
def PrN (H : Hp) : List V → List (Nat × Nat) → Prop := Paired (fun v (p : Nat × Nat) => ∃ t, v = V.ref t ∧ H t = some (.tup [.int (p.1 : Nat), .int (p.2 : Nat)]))
theorem PrN.keep {H H1 : Hp} {xs : List V} {ps : List (Nat × Nat)} (h : PrN H xs ps) (s : Same H H1) : PrN H1 xs ps := pair_mono (fun v p ⟨t, e, ht⟩ => ⟨t, e, s _ _ ht⟩) h
theorem PrN.keepT {H H1 : Hp} {xs : List V} {ps : List (Nat × Nat)} (h : PrN H xs ps) (s : ∀ u ws, H u = some (.tup ws) → H1 u = some (.tup ws)) : PrN H1 xs ps := pair_mono (fun v p ⟨t, e, ht⟩ => ⟨t, e, s _ _ ht⟩) h
theorem at_ltr {x : Str} {i : Nat} (h : i < x.length) : atI x.cps.toList ((i : Nat) : Int) = some (ltr x i) := by
  refine atI_nat ?_
  unfold ltr
  have h2 : i < x.cps.toList.length := by rw [Array.length_toList]; exact h
  rw [List.getD_eq_getElem?_getD, List.getElem?_eq_getElem h2]
  rfl
def pD (p : Nat × Nat) : PyData := .tuple [.int (p.1 : Nat), .int (p.2 : Nat)]
theorem prs_dp {K : PySem.W.Frag} {H : Hp} : ∀ {xs : List V} {rs : List (Nat × Nat)}, PrN H xs rs → DpAll K H xs (rs.map pD)
  | _, _, .nil => .nil
  | _, _, .cons a t => .cons (by
      obtain ⟨u, rfl, h⟩ := a
      exact .tup (SqT.of h) (.cons (.int _) (.cons (.int _) .nil))) (prs_dp t)
theorem pDs_shaped (rs : List (Nat × Nat)) : SeqAt.shaped (.list (rs.map pD)) = true := by
  refine shaped_list (n := 1) (fun d hd => ?_) (fun d hd => ?_) (by decide)
  · obtain ⟨r, _, rfl⟩ := List.mem_map.mp hd
    rfl
  · obtain ⟨r, _, rfl⟩ := List.mem_map.mp hd
    exact Nat.le_of_eq rfl
theorem pDs_nil (rs : List (Nat × Nat)) : PyData.eqv (.list (rs.map pD)) (.list []) = rs.isEmpty := by
  match rs with
  | [] => rfl
  | r :: t => rfl
theorem pDs_can (rs : List (Nat × Nat)) : PyData.canLay0 (.list (rs.map pD)) = true := canAll_of _ fun d hd => by
  obtain ⟨r, _, rfl⟩ := List.mem_map.mp hd
  rfl
/-! ## windows -/
/-- the letters from a to b stand at another place, too -/
def Tw (X : Nat → Nat) (n a b : Nat) : Prop := ∃ k, k ≠ a ∧ k + (b - a) ≤ n ∧ ∀ t, t < b - a → X (k + t) = X (a + t)
theorem Tw.less {X : Nat → Nat} {n a b a' b' : Nat} (h : Tw X n a b) (h1 : a ≤ a') (h2 : a' ≤ b') (h3 : b' ≤ b) : Tw X n a' b' := by
  obtain ⟨k, k1, k2, k3⟩ := h
  refine ⟨k + (a' - a), by omega, by omega, fun t ht => ?_⟩
  have := k3 (a' - a + t) (by omega)
  rw [show k + (a' - a) + t = k + (a' - a + t) by omega, this, show a + (a' - a + t) = a' + t by omega]
def twB (x : Str) (a b : Nat) : Bool := decide (2 ≤ (plc x (cutS x (some (a : Int)) (some (b : Int)))).length)
theorem plc_own {x : Str} {a b : Nat} (h1 : a ≤ b) (h2 : b ≤ x.length) : a ∈ plc x (cutS x (some (a : Int)) (some (b : Int))) :=
  plc_ltr.mpr ⟨by rw [cut_len h1 h2]; omega, fun t ht => by
    rw [cut_len h1 h2] at ht
    exact (cut_ltr h1 h2 ht).symm⟩
theorem two_of {l : List Nat} {a : Nat} (nd : l.Pairwise (· < ·)) (ha : a ∈ l) : 2 ≤ l.length ↔ ∃ k ∈ l, k ≠ a := by
  constructor
  · intro h
    match l, nd, h with
    | x :: y :: r, nd, _ =>
      have lt := (List.pairwise_cons.mp nd).1 y List.mem_cons_self
      by_cases e : x = a
      · exact ⟨y, List.mem_cons_of_mem _ List.mem_cons_self, by omega⟩
      · exact ⟨x, List.mem_cons_self, e⟩
  · rintro ⟨k, hk, hne⟩
    match l, ha, hk with
    | [x], ha, hk => exact absurd ((List.mem_singleton.mp hk).trans (List.mem_singleton.mp ha).symm) hne
    | x :: y :: r, _, _ => show 2 ≤ r.length + 1 + 1; omega
theorem twB_iff {x : Str} {a b : Nat} (h1 : a ≤ b) (h2 : b ≤ x.length) : twB x a b = true ↔ Tw (ltr x) x.length a b := by
  unfold twB
  rw [decide_eq_true_eq, two_of (plc_asc _ _) (plc_own h1 h2)]
  constructor
  · rintro ⟨k, hk, hne⟩
    obtain ⟨k1, k2⟩ := plc_ltr.mp hk
    rw [cut_len h1 h2] at k1 k2
    exact ⟨k, hne, k1, fun t ht => (k2 t ht).trans (cut_ltr h1 h2 ht)⟩
  · rintro ⟨k, hne, k1, k2⟩
    refine ⟨k, plc_ltr.mpr ⟨by rw [cut_len h1 h2]; exact k1, fun t ht => ?_⟩, hne⟩
    rw [cut_len h1 h2] at ht
    rw [k2 t ht, cut_ltr h1 h2 ht]
theorem plc_one {x : Str} {a b : Nat} (h1 : a ≤ b) (h2 : b ≤ x.length) : (plc x (cutS x (some (a : Int)) (some (b : Int)))).length = 1 ↔ twB x a b = false := by
  have h := plc_own h1 h2
  have : 0 < (plc x (cutS x (some (a : Int)) (some (b : Int)))).length := List.length_pos_of_mem h
  unfold twB
  rw [decide_eq_false_iff_not]
  omega
/-- the least end of a window from a that stands once; behind the text if there is none -/
theorem cutV_take {xs : List V} {k : Nat} : cutV xs none (some (k : Int)) = xs.take k := by
  unfold cutV
  rw [HT.sIx_none, HT.sIx_nat]
  simp
/-- parts, one behind the other -/
def OkR (n : Nat) : Nat → List (Nat × Nat × Str) → Prop
  | _, [] => True
  | p, r :: rs => p ≤ r.1 ∧ r.1 < r.2.1 ∧ r.2.1 ≤ n ∧ OkR n r.2.1 rs
def endR : Nat → List (Nat × Nat × Str) → Nat
  | p, [] => p
  | _, r :: rs => endR r.2.1 rs
theorem okR_snoc {n : Nat} {r : Nat × Nat × Str} : ∀ {p : Nat} {rs : List (Nat × Nat × Str)}, OkR n p rs → endR p rs ≤ r.1 → r.1 < r.2.1 → r.2.1 ≤ n → OkR n p (rs ++ [r])
  | p, [], _, h1, h2, h3 => ⟨h1, h2, h3, trivial⟩
  | p, s :: rs, h, h1, h2, h3 => ⟨h.1, h.2.1, h.2.2.1, okR_snoc h.2.2.2 h1 h2 h3⟩
theorem endR_snoc {r : Nat × Nat × Str} : ∀ {p : Nat} {rs : List (Nat × Nat × Str)}, endR p (rs ++ [r]) = r.2.1
  | p, [] => rfl
  | p, s :: rs => endR_snoc (rs := rs)
theorem okR_all {n : Nat} : ∀ {p : Nat} {rs : List (Nat × Nat × Str)}, OkR n p rs → ∀ r ∈ rs, p ≤ r.1 ∧ r.1 < r.2.1 ∧ r.2.1 ≤ n
  | p, s :: rs, h, r, hr => by
    rcases List.mem_cons.mp hr with rfl | hr
    · exact ⟨h.1, h.2.1, h.2.2.1⟩
    · have := okR_all h.2.2.2 r hr
      have := h.1
      have := h.2.1
      omega
theorem cut_to {x : Str} {a : Nat} : (cutS x none (some (a : Int))).cps.toList = x.cps.toList.take a := by
  show ((x.cps.toList.drop (HT.sIx x.length 0 none)).take (HT.sIx x.length x.length (some (a : Int)) - HT.sIx x.length 0 none)).toArray.toList = _
  have lx : x.cps.toList.length = x.length := Array.length_toList
  rw [HT.sIx_none, HT.sIx_nat, Nat.sub_zero, List.drop_zero, List.toList_toArray]
  by_cases h : a ≤ x.length
  · rw [Nat.min_eq_left h]
  · rw [Nat.min_eq_right (by omega), List.take_of_length_le (by omega), List.take_of_length_le (by omega)]
theorem cut_from {x : Str} {a : Nat} : (cutS x (some (a : Int)) none).cps.toList = x.cps.toList.drop a := by
  show ((x.cps.toList.drop (HT.sIx x.length 0 (some (a : Int)))).take (HT.sIx x.length x.length none - HT.sIx x.length 0 (some (a : Int)))).toArray.toList = _
  have lx : x.cps.toList.length = x.length := Array.length_toList
  rw [HT.sIx_none, HT.sIx_nat, List.toList_toArray]
  by_cases h : a ≤ x.length
  · rw [Nat.min_eq_left h, List.take_of_length_le (by rw [List.length_drop]; omega)]
  · rw [Nat.min_eq_right (by omega), Nat.sub_self, List.take_zero, List.drop_of_length_le (by omega)]
theorem cut_mid {x : Str} {a b : Nat} (h1 : a ≤ b) (h2 : b ≤ x.length) : (cutS x (some (a : Int)) (some (b : Int))).cps.toList = (x.cps.toList.drop a).take (b - a) := by
  rw [cut_ab h1 h2]
theorem app_list (x y : Str) : (x ++ y).cps.toList = x.cps.toList ++ y.cps.toList := by
  show (x.cps ++ y.cps).toList = _
  exact Array.toList_append
theorem str_ext {x y : Str} (h : x.cps.toList = y.cps.toList) : x = y := PySem.W.str_of_cps h
theorem ok_letters {x : Str} (h : ∀ c ∈ x.cps.toList, c ∈ letS.cps.toList) : PyData.strOk x = true := by
  have all : ∀ c ∈ letS.cps.toList, c < 0x110000 := by decide +kernel
  show x.cps.all (· < 0x110000) = true
  rw [Array.all_eq_true_iff_forall_mem]
  intro c hc
  simpa using all c (h c (by simpa using hc))
theorem ok_word {z x : Str} {a b : Nat} (fz : Few z) (w : Word z a b x) : PyData.strOk x = true := ok_letters fun c hc => fz.2.2 c (w.2.2 c hc)
theorem ok_one {z : Str} {c : Nat} (fz : Few z) (h : c ∈ z.cps.toList) : PyData.strOk (⟨#[c]⟩ : Str) = true := ok_letters fun d hd => by
  have e : d ∈ [c] := hd
  rw [List.mem_singleton.mp e]
  exact fz.2.2 c h
theorem cutS_ok {x : Str} (h : PyData.strOk x = true) (a b : Option Int) : PyData.strOk (cutS x a b) = true := by
  have e : x.cps.all (· < 0x110000) = true := h
  rw [Array.all_eq_true_iff_forall_mem] at e
  show (cutS x a b).cps.all (· < 0x110000) = true
  rw [Array.all_eq_true_iff_forall_mem]
  intro c hc
  have hc2 : c ∈ ((x.cps.toList.drop (HT.sIx x.length 0 a)).take (HT.sIx x.length x.length b - HT.sIx x.length 0 a)) := by
    have : c ∈ (List.toArray ((x.cps.toList.drop (HT.sIx x.length 0 a)).take (HT.sIx x.length x.length b - HT.sIx x.length 0 a))) := hc
    simpa using this
  exact e c (by simpa using List.mem_of_mem_drop (List.mem_of_mem_take hc2))
theorem more_list {z y : Str} : (z ++ y).cps.toList = z.cps.toList ++ y.cps.toList := by
  show (z.cps ++ y.cps).toList = _
  simp
theorem ok_more {z y : Str} (h1 : PyData.strOk z = true) (h2 : PyData.strOk y = true) : PyData.strOk (z ++ y) = true := by
  have e1 : z.cps.all (· < 0x110000) = true := h1
  have e2 : y.cps.all (· < 0x110000) = true := h2
  show (z ++ y).cps.all (· < 0x110000) = true
  rw [Array.all_eq_true_iff_forall_mem] at e1 e2 ⊢
  intro c hc
  have hc2 : c ∈ z.cps.toList ++ y.cps.toList := by
    rw [← more_list]
    simpa using hc
  rcases List.mem_append.mp hc2 with h | h
  · exact e1 c (by simpa using h)
  · exact e2 c (by simpa using h)
theorem ok_none : PyData.strOk ("" : Str) = true := by decide +kernel
end Vk
set_option Elab.async false
set_option maxRecDepth 100000
set_option linter.all false
namespace Vk
open PySem PySem.Spec PyProof.Rows L2
def top (i : Nat) : Stmt := PySem.Challenge.pw_anchoredits_k61_exchanges_done_and_refus.main.body.getD i (.Pass ⟨0, 0, 0, 0⟩)
structure Txt (mg : Str → Option Value) : Prop where
  str : mg "str" = none
  tuple : mg "tuple" = none
  enumerate : mg "enumerate" = none
  bool : mg "bool" = none
  sum : mg "sum" = none
  max : mg "max" = none
  ValueError : mg "ValueError" = none
  len : mg "len" = none
  list : mg "list" = none
  int : mg "int" = none
  abs : mg "abs" = none
  range : mg "range" = none
  min : mg "min" = none
  repr : mg "repr" = none
  isinstance : mg "isinstance" = none
abbrev tlV : List Value := [.type "ValueError", .type "Exception", .type "BaseException", .type "object"]
abbrev tlL : List Value := [.type "LookupError", .type "Exception", .type "BaseException", .type "object"]
abbrev tlO : List Value := [.type "OverflowError", .type "ArithmeticError", .type "Exception", .type "BaseException", .type "object"]
abbrev tlR : List Value := [.type "RuntimeError", .type "Exception", .type "BaseException", .type "object"]
section
variable {P : Program} {w : World} {K : PySem.W.Frag} {mg : Str → Option Value} {base : Heap}
abbrev m_NoExchange : Stmt := mtd (top 7) 0
theorem sc_NoExchange : FnScope ["self", "index"] ["self", "index"] (defScope m_NoExchange) := ⟨rfl, rfl, rfl, by decide +kernel, rfl, by decide +kernel, by decide +kernel⟩
theorem b_NoExchange {f C : Addr} {fd : FuncData} (F : Fun K "__init__" "NoExchange.__init__" m_NoExchange f fd) (T : OexK K C) (no : ∀ f ∈ (["index"] : List Str), PySem.W.findIn K (.ref C) f = some none) : FnG P w K mg base CX0 1 f fd ["self", "index"] (spIni C ["index"]) := by
  refine okG0 F sc_NoExchange (fun vs H Q E h => ?_) (fun cdv A outer s H vs Q E hg hr h => ?_)
  · obtain ⟨a, ws, rfl, hl, _⟩ := h
    rw [List.length_cons, hl]
    rfl
  · obtain ⟨a, ws, rfl, hl, ha, k0, k⟩ := h
    match ws, hl with
    | [y], _ => exact ⟨_, (pss_one (ps_osk (pv 0) (pv 1))), _, rfl, _, rfl, a, C, rfl, T, no _ (by simp), .inl ⟨ha, fun dx n ne => k (by simp) dx n ne⟩⟩
theorem c_NoExchange {h : Heap} {f C : Addr} {fd : FuncData} {tl : List Value} (KX : K.In h) (G : h.Ns mainGlobals mg) (E : ExcTxt K "NoExchange" "NoExchange.__init__" m_NoExchange C f fd ["index"] tl) : ClsI P w K mg base 1 "NoExchange" C ["index"] :=
  .of1 E KX G (b_NoExchange E.fn E.T E.no) (fun _ _ _ _ _ _ _ _ => rfl) (fun _ _ _ _ _ _ _ _ => rfl)
def isStr : PyData → Bool
  | .str _ => true
  | _ => false
theorem kit_str {H : Hp} {v : V} {d : PyData} (h : Th H v d) : ∃ t b, TyX K H v t ∧ PySem.W.kitOne K t (.type "str") = some b ∧ b = isStr d := by
  cases h with
  | atm a => cases a with
    | non => exact ⟨.type "NoneType", false, .base .non, kit_ty (by decide +kernel), rfl⟩
    | bl b => exact ⟨.type "bool", false, .base (.bl b), kit_ty (by decide +kernel), rfl⟩
    | int i => exact ⟨.type "int", false, .base (.int i), kit_ty (by decide +kernel), rfl⟩
    | str x => exact ⟨.type "str", true, .base (.str x), kit_ty (by decide +kernel), rfl⟩
  | lst e _ _ => exact ⟨.type "list", false, .base (.lst e), kit_ty (by decide +kernel), rfl⟩
  | tup e _ => exact ⟨.type "tuple", false, .base (.tup e), kit_ty (by decide +kernel), rfl⟩
  | dct e => exact ⟨.type "dict", false, .base (.dK e), kit_ty (by decide +kernel), rfl⟩
/-- a text: a string of letters -/
def isT : PyData → Bool
  | .str z => decide (V.str (Txt.lstripChars z letS) = V.str "")
  | _ => false
def isNew (d : PyData) : Bool := isT d && match d with | .str z => decide ((z.length : Int) ≤ 40) | _ => false
def isOld (d : PyData) : Bool := isNew d && match d with | .str z => !decide (V.str z = V.str "") | _ => false
/-- strings of values are short -/
def Srt (d : PyData) : Prop := match d with | .str z => z.length ≤ 1000 ∧ PyData.strOk z = true | _ => True
def spTest (f : PyData → Bool) : Sp := fun vs H Q _ => ∃ v d, vs = [v] ∧ Th H v d ∧ Srt d ∧ Q (.bl (f d)) H
abbrev s_is_text : Stmt := top 2
theorem sc_is_text : FnScope ["value"] ["value"] (defScope s_is_text) := ⟨rfl, rfl, rfl, by decide +kernel, rfl, by decide +kernel, by decide +kernel⟩
theorem b_is_text {f : Addr} {fd : FuncData} (F : Fun K "is_text" "is_text" s_is_text f fd) (T : Txt mg) (g_LETTERS : ∃ u, mg "LETTERS" = some u ∧ RelV (.str letS) u) : FnG P w K mg base CX0 1 f fd ["value"] (spTest isT) := by
  refine okG0 F sc_is_text (fun vs H Q E h => ?_) (fun cdv A outer s H vs Q E hg hr h => ?_)
  · obtain ⟨v, d, rfl, _⟩ := h
    rfl
  · have hu := hu_of hr
    have hu64 := hr.units
    obtain ⟨v, d, rfl, th, sr, k⟩ := h
    obtain ⟨t, b, ty, kt, hb⟩ := kit_str (K := K) th
    refine ⟨_, (pss_one (ps_ret (pe_and (pe_callB call_isi (by rfl) T.isinstance (by decide +kernel) (pa_cons (pv 0) (pa_cons (pe_bltn (v := .ty "str") (by rfl) T.str rfl rfl) pa_nil))) (pe_one (pe_cmpR op_eq (pe_bm PySem.F.plainAttrs_str PySem.F.slot_str_lstrip PySem.F.type_str_lstrip mt_lstripChars (pv 0) (pa_cons (C8.pe_gc (by rfl) g_LETTERS) pa_nil)) pe_str (nomark _)))))), ?_⟩
    refine ⟨_, rfl, v, .ty "str", t, .type "str", b, rfl, .ty "str", ty, kt, _, rfl, ?_⟩
    cases th with
    | atm a =>
      cases a with
      | str x =>
        subst hb
        refine iteT ⟨_, rfl, rfl, x, _, rfl, rfl, few_len sr.1, rfl, ?_⟩
        exact k
      | _ => subst hb; exact iteF k
    | _ => subst hb; exact iteF k

theorem isT_str {d : PyData} (h : isT d = true) : ∃ z, d = .str z := by
  cases d with
  | str z => exact ⟨z, rfl⟩
  | _ => cases h
theorem isNew_str {d : PyData} (h : isNew d = true) : ∃ z, d = .str z := by
  refine isT_str ?_
  unfold isNew at h
  rw [Bool.and_eq_true] at h
  exact h.1
theorem th_str {H : Hp} {v : V} {z : Str} (h : Th H v (.str z)) : v = .str z := by
  cases h with
  | atm a => cases a; rfl
/-- the first error that is due for the words of an edit -/
def spCheck (Co Cn : Addr) : Sp := fun vs H Q E => ∃ v1 d1 v2 d2, vs = [v1, v2] ∧ Th H v1 d1 ∧ Srt d1 ∧ Th H v2 d2 ∧ Srt d2 ∧ (isOld d1 = false → ∀ d, H d = none → E (.ref Co) (some d) (upd H d (.xd [(("value" : Str), v1)]))) ∧
  (isOld d1 = true → isNew d2 = false → ∀ d, H d = none → E (.ref Cn) (some d) (upd H d (.xd [(("value" : Str), v2)]))) ∧ (isOld d1 = true → isNew d2 = true → Q .non H)
/-- Once(old, new) and its like: the words are looked at first -/
def spEdit (C Co Cn : Addr) : Sp := fun vs H Q E => ∃ a dx v1 d1 v2 d2, vs = [.ref a, v1, v2] ∧ H a = some (.ins C dx []) ∧ Th H v1 d1 ∧ Srt d1 ∧ Th H v2 d2 ∧ Srt d2 ∧ (isOld d1 = false → ∀ d, H d = none → E (.ref Co) (some d) (upd H d (.xd [(("value" : Str), v1)]))) ∧
  (isOld d1 = true → isNew d2 = false → ∀ d, H d = none → E (.ref Cn) (some d) (upd H d (.xd [(("value" : Str), v2)]))) ∧ (isOld d1 = true → isNew d2 = true → Q .non (upd H a (.ins C dx [("_old", v1), ("_new", v2)])))
theorem upd_twice {H : Hp} {a : Addr} {o1 o2 : HO} : upd (upd H a o1) a o2 = upd H a o2 := by
  funext b
  by_cases h : b = a
  · subst h; rw [upd_same, upd_same]
  · rw [upd_ne h, upd_ne h, upd_ne h]
theorem isT_all {z : Str} : isT (.str z) = z.cps.toList.all letS.cps.contains := by
  unfold isT
  rw [Bool.eq_iff_iff, ← lstrip_all]
  simp
/-- the signs of z that are no letters, among the first i -/
def odd (z : Str) (i : Nat) : List Nat := (z.cps.toList.take i).filter fun c => !decide (c ∈ letS.cps.toList)
theorem odd_next {z : Str} {i c : Nat} (h : z.cps[i]? = some c) : odd z (i + 1) = if (!decide (c ∈ letS.cps.toList)) = true then odd z i ++ [c] else odd z i := by
  unfold odd
  have e : z.cps.toList[i]? = some c := by rw [Array.getElem?_toList]; exact h
  rw [List.take_add_one, e, List.filter_append]
  cases m : decide (c ∈ letS.cps.toList) with
  | true => simp only [Option.toList_some, List.filter_cons, m, Bool.not_true, Bool.false_eq_true, if_false, List.filter_nil, List.append_nil]
  | false => simp only [Option.toList_some, List.filter_cons, m, Bool.not_false, if_true, List.filter_nil]
theorem odd_len {z : Str} {i : Nat} : (odd z i).length ≤ z.length := by
  unfold odd
  refine Nat.le_trans (List.length_filter_le _ _) ?_
  rw [List.length_take]
  exact Nat.le_trans (Nat.min_le_right _ _) (by simp [Str.length])
theorem odd_all {z : Str} : PyData.eqv (.list ((odd z z.cps.size).map fun c => .str ⟨#[c]⟩)) (.list []) = isT (.str z) := by
  rw [isT_all]
  have e : odd z z.cps.size = z.cps.toList.filter fun c => !decide (c ∈ letS.cps.toList) := by
    unfold odd
    rw [List.take_of_length_le (by simp)]
  rw [e]
  cases h : z.cps.toList.all letS.cps.contains with
  | true =>
    have n : (z.cps.toList.filter fun c => !decide (c ∈ letS.cps.toList)) = [] := by
      rw [List.filter_eq_nil_iff]
      intro c hc
      have q := List.all_eq_true.mp h c hc
      have m : c ∈ letS.cps.toList := by simpa using q
      simp [m]
    rw [n]
    simp [PyData.eqv, PyData.eqvAll]
  | false =>
    have n : (z.cps.toList.filter fun c => !decide (c ∈ letS.cps.toList)) ≠ [] := by
      intro n
      rw [List.filter_eq_nil_iff] at n
      have q : z.cps.toList.all letS.cps.contains = true := by
        rw [List.all_eq_true]
        intro c hc
        have m := n c hc
        simpa using m
      rw [q] at h
      cases h
    revert n
    cases z.cps.toList.filter fun c => !decide (c ∈ letS.cps.toList) with
    | nil => exact fun n => absurd rfl n
    | cons a r => exact fun _ => by simp [PyData.eqv, PyData.eqvAll]
theorem odd_ok {z : Str} (h : PyData.strOk z = true) (i : Nat) : SeqAt.shaped (.list ((odd z i).map fun c => .str ⟨#[c]⟩)) = true := by
  have all : ∀ l : List Nat, (∀ c ∈ l, c < 0x110000) → PyData.canLayAll0 (l.map fun c => PyData.str ⟨#[c]⟩) = true ∧ PyData.depthAll (l.map fun c => PyData.str ⟨#[c]⟩) ≤ 1 := by
    intro l
    induction l with
    | nil => intro _; exact ⟨rfl, by simp [PyData.depthAll]⟩
    | cons a r ih =>
      intro m
      obtain ⟨i1, i2⟩ := ih fun c hc => m c (List.mem_cons_of_mem _ hc)
      have m1 := m a List.mem_cons_self
      refine ⟨?_, ?_⟩
      · rw [List.map_cons]
        simp only [PyData.canLayAll0, PyData.canLay0, i1, Bool.and_true]
        simp [PyData.strOk, m1]
      · rw [List.map_cons]
        simp only [PyData.depthAll, PyData.depth]
        omega
  obtain ⟨a1, a2⟩ := all (odd z i) fun c hc => by
    unfold odd at hc
    have m := List.mem_of_mem_take (List.mem_filter.mp hc).1
    have h2 : z.cps.all (· < 0x110000) = true := h
    rw [Array.all_eq_true_iff_forall_mem] at h2
    have := h2 c (by simpa using m)
    simpa using this
  unfold SeqAt.shaped
  rw [Bool.and_eq_true, decide_eq_true_eq]
  refine ⟨by simpa [PyData.canLay0] using a1, ?_⟩
  simp only [PyData.depth]
  omega
/-- as spTest, new things may be laid -/
def spSays (f : PyData → Bool) : Sp := fun vs H Q _ => ∃ v d, vs = [v] ∧ Th H v d ∧ Srt d ∧ ∀ H', Same H H' → Q (.bl (f d)) H'
theorem dp_signs {H : Hp} : ∀ l : List Nat, DpAll K H (l.map fun c => V.str ⟨#[c]⟩) (l.map fun c => PyData.str ⟨#[c]⟩)
  | [] => .nil
  | c :: r => .cons (.str _) (dp_signs r)
abbrev s_lsigns : Stmt := top 23
theorem sc_lsigns : FnScope [] [] (defScope s_lsigns) := ⟨rfl, rfl, rfl, by decide +kernel, rfl, by decide +kernel, by decide +kernel⟩
theorem b_lsigns {f : Addr} {fd : FuncData} (F : Fun K "_law_signs" "_law_signs" s_lsigns f fd) (T : Txt mg) : FnG P w K mg base CX0 1 f fd [] spSigns := by
  refine okG0 F sc_lsigns (fun vs H Q E h => ?_) (fun cdv A outer s H vs Q E hg hr h => ?_)
  · obtain ⟨rfl, _⟩ := h
    rfl
  · have hu := hu_of hr
    have hu64 := hr.units
    obtain ⟨rfl, k⟩ := h
    exact ⟨_, (pss_one (ps_ret pe_str)), k⟩

abbrev s_lis_text : Stmt := top 24
theorem sc_lis_text : FnScope ["_law_thing", "_law_sign"] ["_law_thing"] (defScope s_lis_text) := ⟨rfl, rfl, rfl, by decide +kernel, rfl, by decide +kernel, by decide +kernel⟩
theorem b_lis_text {f : Addr} {fd : FuncData} (F : Fun K "_law_is_text" "_law_is_text" s_lis_text f fd) (T : Txt mg) (c_lsigns : CalG P w K mg base CX0 1 "_law_signs" spSigns) : FnG P w K mg base CX0 2 f fd ["_law_thing"] (spSays isT) := by
  refine okG0 F sc_lis_text (fun vs H Q E h => ?_) (fun cdv A outer s H vs Q E hg hr h => ?_)
  · obtain ⟨v, d, rfl, _⟩ := h
    rfl
  · have hu := hu_of hr
    have hu64 := hr.units
    obtain ⟨v, d, rfl, th, sr, k⟩ := h
    obtain ⟨t, b, ty, kt, hb⟩ := kit_str (K := K) th
    have hr1 : Room 1 _ := hr
    refine ⟨_, (pss_one (ps_ret (pe_and (pe_callB call_isi (by rfl) T.isinstance (by decide +kernel) (pa_cons (pv 0) (pa_cons (pe_bltn (v := .ty "str") (by rfl) T.str rfl rfl) pa_nil))) (pe_one (pe_cmpR (op_eqD hu64) (pe_lc (own := [("_law_sign", 1)]) (g := gName 1) rfl sc_lis_text.nd (pi_str (pv 0)) (blkOk_by (own := [("_law_sign", 1)]) (N := ["_law_thing", "_law_sign"]) (sc := defScope s_lis_text) (by decide +kernel)) (fun _ _ _ _ _ => (pg_name (i := 1) sc_lis_text.nd rfl (Or.inl rfl))) (fun _ _ _ _ _ => (pts_one (pt_cmpR op_notIn_sign (pv 1) (pe_cG0 c_lsigns hg hr (by decide) pass0) (by rfl)))) (fun _ _ _ _ _ => (pv 1))) (pe_lst pa_nil) (nomark _)))))), ?_⟩
    refine ⟨_, rfl, v, .ty "str", t, .type "str", b, rfl, .ty "str", ty, kt, _, rfl, ?_⟩
    have other : isStr d = false → Q (.bl false) H := fun z => by
      have e : isT d = false := by cases d <;> first | rfl | cases z
      rw [e] at k
      exact k H Same.rfl
    rw [hb]
    match hd : isStr d with
    | false => exact iteF (other hd)
    | true =>
      obtain ⟨z, rfl⟩ : ∃ z, d = .str z := by
        cases d with
        | str z => exact ⟨z, rfl⟩
        | _ => cases hd
      cases th_str th
      refine iteT ⟨_, rfl, z, rfl, fun D hD => ?_⟩
      refine lc_str (fun i H2 => (∀ a o, H a = some o → H2 a = some o) ∧ H2 D = some (.lst ((odd z i).map fun c => V.str ⟨#[c]⟩))) ⟨same_new hD, upd_same⟩ (fun i c H2 hc p => ?_) (fun H2 p => ?_)
      · have nx := odd_next hc
        refine ⟨rfl, _, rfl, ⟨rfl, c, letS, rfl, rfl, _, rfl, ?_⟩⟩
        show (if (!decide (c ∈ letS.cps.toList)) = true then _ else _)
        cases m : (!decide (c ∈ letS.cps.toList)) with
        | true =>
          rw [m, if_pos rfl] at nx
          rw [if_pos rfl]
          refine ⟨_, rfl, _, p.2, Nat.lt_of_le_of_lt (Nat.le_trans (by rw [List.length_map]; exact odd_len) sr.1) (by rw [sizeLine_eq]; decide), fun a o h => ?_, ?_⟩
          · rw [upd_ne (ne_of_none h hD)]
            exact p.1 _ _ h
          · rw [nx, List.map_append]
            exact upd_same
        | false =>
          rw [m, if_neg (by decide)] at nx
          rw [if_neg (by decide), nx]
          exact p
      · refine ⟨few_len (Nat.zero_le _), fun q hq => ⟨_, _, .lst (SqL.of ((same_new hq) _ _ p.2)) (dp_signs _), .lst (SqL.of upd_same) .nil, odd_ok sr.2 _, by decide +kernel, ?_⟩⟩
        rw [odd_all]
        exact k _ (Same.trans p.1 (same_new hq))

def isIntB : PyData → Bool
  | .int _ => true
  | _ => false
theorem kit_int {H : Hp} {v : V} {d : PyData} (h : Th H v d) : ∃ t b c, TyX K H v t ∧ PySem.W.kitOne K t (.type "int") = some b ∧ PySem.W.kitOne K t (.type "bool") = some c ∧ (b && !c) = isIntB d ∧ (isIntB d = false → b = true → c = true) := by
  cases h with
  | atm a => cases a with
    | non => exact ⟨.type "NoneType", false, false, .base .non, kit_ty (by decide +kernel), kit_ty (by decide +kernel), rfl, fun _ z => nomatch z⟩
    | bl b => exact ⟨.type "bool", true, true, .base (.bl b), kit_ty (by decide +kernel), kit_ty (by decide +kernel), rfl, fun _ _ => rfl⟩
    | int i => exact ⟨.type "int", true, false, .base (.int i), kit_ty (by decide +kernel), kit_ty (by decide +kernel), rfl, fun z => nomatch z⟩
    | str x => exact ⟨.type "str", false, false, .base (.str x), kit_ty (by decide +kernel), kit_ty (by decide +kernel), rfl, fun _ z => nomatch z⟩
  | lst e _ _ => exact ⟨.type "list", false, false, .base (.lst e), kit_ty (by decide +kernel), kit_ty (by decide +kernel), rfl, fun _ z => nomatch z⟩
  | tup e _ => exact ⟨.type "tuple", false, false, .base (.tup e), kit_ty (by decide +kernel), kit_ty (by decide +kernel), rfl, fun _ z => nomatch z⟩
  | dct e => exact ⟨.type "dict", false, false, .base (.dK e), kit_ty (by decide +kernel), kit_ty (by decide +kernel), rfl, fun _ z => nomatch z⟩
theorem kit_tup {H : Hp} {v : V} {d : PyData} (h : Th H v d) : ∃ t b, TyX K H v t ∧ PySem.W.kitOne K t (.type "tuple") = some b ∧ b = (match d with | .tuple _ => true | _ => false) := by
  cases h with
  | atm a => cases a with
    | non => exact ⟨.type "NoneType", false, .base .non, kit_ty (by decide +kernel), rfl⟩
    | bl b => exact ⟨.type "bool", false, .base (.bl b), kit_ty (by decide +kernel), rfl⟩
    | int i => exact ⟨.type "int", false, .base (.int i), kit_ty (by decide +kernel), rfl⟩
    | str x => exact ⟨.type "str", false, .base (.str x), kit_ty (by decide +kernel), rfl⟩
  | lst e _ _ => exact ⟨.type "list", false, .base (.lst e), kit_ty (by decide +kernel), rfl⟩
  | tup e _ => exact ⟨.type "tuple", true, .base (.tup e), kit_ty (by decide +kernel), rfl⟩
  | dct e => exact ⟨.type "dict", false, .base (.dK e), kit_ty (by decide +kernel), rfl⟩
def inI (d : PyData) (lo hi : Int) : Bool := match d with | .int i => decide (lo ≤ i) && decide (i ≤ hi) | _ => false
def spIsInt : Sp := fun vs H Q _ => ∃ v d, vs = [v] ∧ Th H v d ∧ Q (.bl (isIntB d)) H
def spInI : Sp := fun vs H Q _ => ∃ v d lo hi, vs = [v, .int lo, .int hi] ∧ Th H v d ∧ Q (.bl (inI d lo hi)) H
theorem int_th {H : Hp} {v : V} {d : PyData} (h : Th H v d) (z : isIntB d = true) : ∃ i, d = .int i ∧ v = .int i := by
  cases h with
  | atm a => cases a with
    | int i => exact ⟨i, rfl, rfl⟩
    | _ => cases z
  | _ => cases z
theorem inI_no {d : PyData} {lo hi : Int} (z : isIntB d = false) : inI d lo hi = false := by
  cases d with
  | int i => cases z
  | _ => rfl
abbrev s_is_integer : Stmt := top 4
theorem sc_is_integer : FnScope ["value"] ["value"] (defScope s_is_integer) := ⟨rfl, rfl, rfl, by decide +kernel, rfl, by decide +kernel, by decide +kernel⟩
theorem b_is_integer {f : Addr} {fd : FuncData} (F : Fun K "is_integer" "is_integer" s_is_integer f fd) (T : Txt mg) : FnG P w K mg base CX0 1 f fd ["value"] spIsInt := by
  refine okG0 F sc_is_integer (fun vs H Q E h => ?_) (fun cdv A outer s H vs Q E hg hr h => ?_)
  · obtain ⟨v, d, rfl, _⟩ := h
    rfl
  · have hu := hu_of hr
    have hu64 := hr.units
    obtain ⟨v, d, rfl, th, k⟩ := h
    obtain ⟨t, b, c, ty, kt, kc, hb, _⟩ := kit_int (K := K) th
    refine ⟨_, (pss_one (ps_ret (pe_and (pe_callB call_isi (by rfl) T.isinstance (by decide +kernel) (pa_cons (pv 0) (pa_cons (pe_bltn (v := .ty "int") (by rfl) T.int rfl rfl) pa_nil))) (pe_one (pe_not (pe_callB call_isi (by rfl) T.isinstance (by decide +kernel) (pa_cons (pv 0) (pa_cons (pe_bltn (v := .ty "bool") (by rfl) T.bool rfl rfl) pa_nil)))))))), ?_⟩
    refine ⟨_, rfl, v, .ty "int", t, .type "int", b, rfl, .ty "int", ty, kt, _, rfl, ?_⟩
    rw [← hb] at k
    cases b with
    | false => exact iteF k
    | true => exact iteT ⟨_, rfl, v, .ty "bool", t, .type "bool", c, rfl, .ty "bool", ty, kc, _, rfl, k⟩

abbrev s_is_integer_in : Stmt := top 5
theorem sc_is_integer_in : FnScope ["value", "low", "high"] ["value", "low", "high"] (defScope s_is_integer_in) := ⟨rfl, rfl, rfl, by decide +kernel, rfl, by decide +kernel, by decide +kernel⟩
theorem b_is_integer_in {f : Addr} {fd : FuncData} (F : Fun K "is_integer_in" "is_integer_in" s_is_integer_in f fd) (T : Txt mg) (c_is_integer : CalG P w K mg base CX0 1 "is_integer" spIsInt) : FnG P w K mg base CX0 2 f fd ["value", "low", "high"] spInI := by
  refine okG0 F sc_is_integer_in (fun vs H Q E h => ?_) (fun cdv A outer s H vs Q E hg hr h => ?_)
  · obtain ⟨v, d, lo, hi, rfl, _⟩ := h
    rfl
  · have hu := hu_of hr
    have hu64 := hr.units
    obtain ⟨v, d, lo, hi, rfl, th, k⟩ := h
    refine ⟨_, (pss_one (ps_ret (pe_and (pe_cG c_is_integer hg hr (by decide) pass0 (pa_cons (pv 0) pa_nil)) (pe_one (pe_chain op_le op_le (pv 1) (pv 0) (pv 2)))))), ?_⟩
    refine ⟨_, rfl, v, d, rfl, th, _, rfl, ?_⟩
    cases hI : isIntB d with
    | false =>
      rw [inI_no hI] at k
      exact iteF k
    | true =>
      obtain ⟨i, rfl, rfl⟩ := int_th th hI
      have k : Q (.bl (decide (lo ≤ i) && decide (i ≤ hi))) H := k
      refine iteT ⟨_, rfl, _, rfl, ?_⟩
      refine ⟨_, _, rfl, rfl, _, rfl, ?_⟩
      cases h1 : decide (lo ≤ i) with
      | false =>
        rw [h1, Bool.false_and] at k
        exact iteF k
      | true =>
        rw [h1, Bool.true_and] at k
        exact iteT ⟨_, rfl, _, _, rfl, rfl, k⟩

end
end Vk
set_option Elab.async false
set_option maxRecDepth 100000
set_option maxHeartbeats 4000000
set_option linter.all false
namespace Vk
open L2 PySem PySem.Spec PyProof.Rows PySem.VkX
/-! ## several except clauses, two classes in one among them -/
inductive Cly
  | only (c : Value) (ts : Sui)
  | named (c : Value) (i : Nat) (ts : Sui)
  | pair (c1 c2 : Value) (ts : Sui)
def wEvy (K : PySem.W.Frag) (W0 : WX) (D : Ends) : List Cly → WX
  | [] => W0
  | .only c ts :: r => fun cls d σ H => ∃ b, PySem.W.exmOne K cls c = some b ∧ (b = true → ∀ a, H a = none → ts a cls d D σ H) ∧ (b = false → wEvy K W0 D r cls d σ H)
  | .pair c1 c2 ts :: r => fun cls d σ H => ∃ b, PySem.W.exmAny K cls [c1, c2] = some b ∧ (b = true → ∀ a, H a = none → ts a cls d D σ H) ∧ (b = false → wEvy K W0 D r cls d σ H)
  | .named c i ts :: r => fun cls d σ H => ∃ b, PySem.W.exmOne K cls c = some b ∧ (b = true → ∀ a, H a = none → ts a cls d (gone D i) (σ.set i (some (.ref a))) H) ∧ (b = false → wEvy K W0 D r cls d σ H)
inductive ClyOk (X : Cx) : List ExceptHandler → List Cly → Prop
  | nil : ClyOk X [] []
  | only {x : Str} {c : Value} {ts : Sui} {s0 : Stmt} {ss : List Stmt} {p1 p2 : Pos} {hs : List ExceptHandler} {l : List Cly} (hc : Names X x c) (su : SuiOk X (s0 :: ss) ts) (r : ClyOk X hs l) : ClyOk X (.ExceptHandler (some (.Name x p1)) none (s0 :: ss) p2 :: hs) (.only c ts :: l)
  | named {x n : Str} {c : Value} {i : Nat} {ts : Sui} {s0 : Stmt} {ss : List Stmt} {p1 p2 : Pos} {hs : List ExceptHandler} {l : List Cly} (hi : X.N[i]? = some n) (hl : X.env.kindOf n = some .local) (hc : Names X x c) (su : SuiOk X (s0 :: ss) ts) (r : ClyOk X hs l) :
      ClyOk X (.ExceptHandler (some (.Name x p1)) (some n) (s0 :: ss) p2 :: hs) (.named c i ts :: l)
  | pair {x y : Str} {c1 c2 : Value} {ts : Sui} {s0 : Stmt} {ss : List Stmt} {p1 p2 p3 pt : Pos} {kk : Nat} {hs : List ExceptHandler} {l : List Cly} (hx : Names X x c1) (hy : Names X y c2) (su : SuiOk X (s0 :: ss) ts) (r : ClyOk X hs l) :
      ClyOk X (.ExceptHandler (some (.Tuple [.Name x p1, .Name y p3] kk pt)) none (s0 :: ss) p2 :: hs) (.pair c1 c2 ts :: l)
/-- more is laid while it flies -/
theorem flyingZ_keeps {B h h' : Heap} {l : List Env} {e : Addr} {Z : Obj → Prop} (R : HandSPX.FlyingZ B l e Z h) (k : ∀ b o, h.get? b = some o → h'.get? b = some o) : HandSPX.FlyingZ B l e Z h' := by
  obtain ⟨f1, f2, f3, oe, ws, T, oT, ts, he, hz, hd, h1, hn, hne, hT, hdT, h3⟩ := R
  exact ⟨fun b o q => k b o (f1 b o q), f2, f3.of_keeps fun b o q _ => ⟨o, k b o q, rfl⟩, oe, ws, T, oT, ts, k _ _ he, hz, hd, h1, hn, hne, k _ _ hT, hdT, h3⟩
section
variable {X : Cx} {body : List Stmt} {e0 : ExceptHandler} {es : List ExceptHandler} {l : List Cly} {pos : Pos} {tb : WX → TS} {W0 : WX}
theorem ps_try_evy (hs : X.stack = X.env :: X.outer) (hf : X.env.frame = some X.env.locals) (hN : X.N.Nodup) (tk : Takes X W0)
    (hb : ∀ (W : WX) (pn : List (Addr × Obj)) (xe : Value → Shared → Prop), Takes (X.tr pn xe) W → PassesOwn (model X.prog X.w) X.A X.env xe → PSs (X.tr pn xe) body (tb W))
    (hh : ClyOk X (e0 :: es) l) : PS X (.Try body (e0 :: es) [] [] pos) (fun D σ H => tb (wEvy X.K W0 D l) D σ H) := by
  constructor
  intro pins s σ H D I h
  have fine := I.ok
  have frames : X.A.frames = some (X.env :: X.outer) := fine.frames.trans (by rw [hs])
  let caught : Value → Shared → Prop := fun e t1 => wpAny (model X.prog X.w) X.A (noteFrame e X.env) (fun _ t2 => wpAny (model X.prog X.w) X.A (setFlight e none) (fun _ t3 => wpAny (model X.prog X.w) X.A (handleBy e X.env (e0 :: es)) (SP X pins D) X.xe t3) X.xe t2) X.xe t1
  have taken : Takes (X.tr (X.pn ++ pins) caught) (wEvy X.K W0 D l) := by
    rintro u t1 ⟨a, B, sI, pins1, σ1, H1, cls, d, rfl, J0, ground, up, sky, na, os, ag, wish⟩
    have J : Inv X pins σ1 H1 sI := J0.ofTry fine
    have sky1 : Sky B (X.env :: X.outer) a (Zc cls d) X.env.locals t1.heap := hs ▸ sky
    show wpAny (model X.prog X.w) X.A (noteFrame (.ref a) X.env) _ _ _
    refine Sky.land Zc.steady frames hf sky1 fun h3 fl3 up3 => ?_
    have walk : ∀ {hs1 : List ExceptHandler} {l1 : List Cly}, ClyOk X hs1 l1 → ∀ h3, HandSPX.FlyingZ B (X.env :: X.outer) a (Zc cls d) h3 → t1.heap.UpToSlots h3 → wEvy X.K W0 D l1 cls d σ1 H1 → wpAny (model X.prog X.w) X.A (handleBy (.ref a) X.env hs1) (SP X pins D) X.xe { t1 with heap := h3 } := by
      intro hs1 l1 ok1
      induction ok1 with
      | nil =>
        intro h3 fl3 up3
        have J3 : Inv X pins σ1 H1 { t1 with heap := h3 } := J.landed ground fl3.1 (up.trans up3) os ag
        obtain ⟨o3, v3, at3, z3, dat3⟩ := fl3.there
        have apart : a ∉ frs (X.env :: X.outer) := by
          intro hm
          obtain ⟨_, o, eo, plain⟩ := fl3.2.2.1.mem hm
          rw [at3] at eo
          cases eo
          exact plain _ dat3
        have notLoc : a ≠ X.env.locals := fun z => apart (List.mem_filterMap.mpr ⟨X.env, List.mem_cons_self, hf.trans (congrArg some z.symm)⟩)
        have notFs : a ∉ X.fs := fun hm => match List.mem_filterMap.mp hm with | ⟨e, he, q⟩ => apart (List.mem_filterMap.mpr ⟨e, List.mem_cons_of_mem _ he, q⟩)
        have S3 := J3.suite at3 dat3 na notLoc notFs
        have typed : PySem.W.Looks (model X.prog X.w) h3 (typeOf (.ref a)) cls := fun A Q E s k q => wpAny_typeOf_ref (k _ _ at3) (z3.1.symm ▸ q)
        have asked : ∀ {x : Str} {c : Value} {p1 : Pos} {Q : Value → Shared → Prop} {E : Value → Shared → Prop}, Names X x c → Q c { t1 with heap := h3 } → wpAny (model X.prog X.w) (X.A.mark (some (.ref a))) (eval (.Name x p1) X.env) Q E { t1 with heap := h3 } := by
          rintro x c p1 Q E ⟨g1, g2, g3⟩ q
          rcases g3 with g3 | ⟨g3, g4, g5⟩
          · exact ld_glob (X := X.suite a ((a, o3) :: (X.pn ++ pins))) S3 g1 g3 q g2
          · exact ld_blt (X := X.suite a ((a, o3) :: (X.pn ++ pins))) S3 g1 g3 g4 q g5 g2
        intro w
        refine wpAny_handleBy_nil ?_
        obtain ⟨_, _, _, oe, vs, tr, _, _, he, _, hd, first1, _⟩ := id fl3
        unfold PySem.passOn
        refine wpAny_bind (wpAny_field he hd first1 ?_)
        rw [if_neg (show ¬ ((Value.ref tr == Value.none) = true) from by simp)]
        have out : wpAny (model X.prog X.w) X.A (setFlight (.ref a) X.env.frame) (fun _ t4 => wpAny (model X.prog X.w) X.A (throw (.ref a) : Sem Flow) (SP X pins D) X.xe t4) X.xe { t1 with heap := h3 } := by
          rw [hf]
          exact HandSPX.setFlight_upZ fl3 fun h4 held up4 => wpAny_throw (tk _ _ ⟨a, B, sI, pins, σ1, H1, cls, d, rfl, J, ground, (up.trans up3).trans up4, .inr (.inr (hs.symm ▸ held)), na, os, ag, w⟩)
        first
          | exact wpAny_bind (wpAny_pure (wpAny_bind out))
          | exact wpAny_bind out
      | only hc su r ih =>
        intro h3 fl3 up3
        have J3 : Inv X pins σ1 H1 { t1 with heap := h3 } := J.landed ground fl3.1 (up.trans up3) os ag
        obtain ⟨o3, v3, at3, z3, dat3⟩ := fl3.there
        have apart : a ∉ frs (X.env :: X.outer) := by
          intro hm
          obtain ⟨_, o, eo, plain⟩ := fl3.2.2.1.mem hm
          rw [at3] at eo
          cases eo
          exact plain _ dat3
        have notLoc : a ≠ X.env.locals := fun z => apart (List.mem_filterMap.mpr ⟨X.env, List.mem_cons_self, hf.trans (congrArg some z.symm)⟩)
        have notFs : a ∉ X.fs := fun hm => match List.mem_filterMap.mp hm with | ⟨e, he, q⟩ => apart (List.mem_filterMap.mpr ⟨e, List.mem_cons_of_mem _ he, q⟩)
        have S3 := J3.suite at3 dat3 na notLoc notFs
        have typed : PySem.W.Looks (model X.prog X.w) h3 (typeOf (.ref a)) cls := fun A Q E s k q => wpAny_typeOf_ref (k _ _ at3) (z3.1.symm ▸ q)
        have asked : ∀ {x : Str} {c : Value} {p1 : Pos} {Q : Value → Shared → Prop} {E : Value → Shared → Prop}, Names X x c → Q c { t1 with heap := h3 } → wpAny (model X.prog X.w) (X.A.mark (some (.ref a))) (eval (.Name x p1) X.env) Q E { t1 with heap := h3 } := by
          rintro x c p1 Q E ⟨g1, g2, g3⟩ q
          rcases g3 with g3 | ⟨g3, g4, g5⟩
          · exact ld_glob (X := X.suite a ((a, o3) :: (X.pn ++ pins))) S3 g1 g3 q g2
          · exact ld_blt (X := X.suite a ((a, o3) :: (X.pn ++ pins))) S3 g1 g3 g4 q g5 g2
        rintro ⟨b, m, yes, no⟩
        refine wpAny_handleBy_cons (codeAny_handlers_test (asked hc ((PySem.W.exm_one (M := model X.prog X.w) J3.kIn typed m).here ?_))) (by intro q; cases q)
        cases b with
        | false => exact ih h3 fl3 up3 (no rfl)
        | true =>
          refine codeAny_handlers_suite (HandSPX.lands_againZ fl3 fun h4 fl4 up4 => ?_)
          have J4 : Inv X pins σ1 H1 { t1 with heap := h4 } := J.landed ground fl4.1 ((up.trans up3).trans up4) os ag
          obtain ⟨o4, v4, at4, z4, dat4⟩ := fl4.there
          have S4 := J4.suite at4 dat4 na notLoc notFs
          refine wpAny_mono ((su a o4 cls d (X.pn ++ pins) z4 ⟨_, dat4⟩).run [] _ _ H1 _ S4 (yes rfl a na)) (fun f t6 sp => ?_) (fun _ _ z => z.elim)
          match f, sp with
          | .next, ⟨σ6, H6, S6, q6⟩ => exact ⟨_, _, S6.unsuite fine, q6⟩
          | .brk, ⟨σ6, H6, S6, q6⟩ => exact ⟨_, _, S6.unsuite fine, q6⟩
          | .cont, ⟨σ6, H6, S6, q6⟩ => exact ⟨_, _, S6.unsuite fine, q6⟩
          | .ret u, ⟨v6, σ6, H6, S6, r6, q6⟩ => exact ⟨_, _, _, S6.unsuite fine, r6, q6⟩
      | @named x n c i ts s0 ss p1 p2 hs2 l2 hi hl hc su r ih =>
        intro h3 fl3 up3
        have J3 : Inv X pins σ1 H1 { t1 with heap := h3 } := J.landed ground fl3.1 (up.trans up3) os ag
        obtain ⟨o3, v3, at3, z3, dat3⟩ := fl3.there
        have apart : a ∉ frs (X.env :: X.outer) := by
          intro hm
          obtain ⟨_, o, eo, plain⟩ := fl3.2.2.1.mem hm
          rw [at3] at eo
          cases eo
          exact plain _ dat3
        have notLoc : a ≠ X.env.locals := fun z => apart (List.mem_filterMap.mpr ⟨X.env, List.mem_cons_self, hf.trans (congrArg some z.symm)⟩)
        have notFs : a ∉ X.fs := fun hm => match List.mem_filterMap.mp hm with | ⟨e, he, q⟩ => apart (List.mem_filterMap.mpr ⟨e, List.mem_cons_of_mem _ he, q⟩)
        have S3 := J3.suite at3 dat3 na notLoc notFs
        have typed : PySem.W.Looks (model X.prog X.w) h3 (typeOf (.ref a)) cls := fun A Q E s k q => wpAny_typeOf_ref (k _ _ at3) (z3.1.symm ▸ q)
        have asked : ∀ {x : Str} {c : Value} {p1 : Pos} {Q : Value → Shared → Prop} {E : Value → Shared → Prop}, Names X x c → Q c { t1 with heap := h3 } → wpAny (model X.prog X.w) (X.A.mark (some (.ref a))) (eval (.Name x p1) X.env) Q E { t1 with heap := h3 } := by
          rintro x c p1 Q E ⟨g1, g2, g3⟩ q
          rcases g3 with g3 | ⟨g3, g4, g5⟩
          · exact ld_glob (X := X.suite a ((a, o3) :: (X.pn ++ pins))) S3 g1 g3 q g2
          · exact ld_blt (X := X.suite a ((a, o3) :: (X.pn ++ pins))) S3 g1 g3 g4 q g5 g2
        rintro ⟨b, m, yes, no⟩
        refine wpAny_handleBy_cons (codeAny_handlers_test (asked hc ((PySem.W.exm_one (M := model X.prog X.w) J3.kIn typed m).here ?_))) (by intro q; cases q)
        cases b with
        | false => exact ih h3 fl3 up3 (no rfl)
        | true =>
          refine codeAny_handlers_suite_as (HandSPX.lands_againZ fl3 fun h4 fl4 up4 => ?_)
          have J4 : Inv X pins σ1 H1 { t1 with heap := h4 } := J.landed ground fl4.1 ((up.trans up3).trans up4) os ag
          obtain ⟨o4, v4, at4, z4, dat4⟩ := fl4.there
          have S4 := J4.suite at4 dat4 na notLoc notFs
          refine store_ok (X := X.suite a ((a, o4) :: (X.pn ++ pins))) (v := .ref a) S4 hN hi (.inl hl) rfl (fun t5 S5 => ?_) (.inr hl)
          refine wpAny_mono ((su a o4 cls d (X.pn ++ pins) z4 ⟨_, dat4⟩).run [] t5 _ H1 _ S5 (yes rfl a na)) (fun f t6 sp => ?_) (fun _ _ z => z.elim)
          have drop1 : ∀ {σ6 : L2.St} {H6 : Hp} {Q : Shared → Prop}, Inv (X.suite a ((a, o4) :: (X.pn ++ pins))) [] σ6 H6 t6 → (∀ t7, Inv X pins (σ6.set i none) H6 t7 → Q t7) → wpAny (model X.prog X.w) X.A (do bindName X.env n .none; unbindBehindTheSuite X.env n p2) (fun _ t7 => Q t7) X.xe t6 := fun S6 hq => gone_ok (S6.unsuite fine) hN hi hl hq
          match f, sp with
          | .next, ⟨σ6, H6, S6, q6⟩ => exact drop1 S6 fun t7 J7 => ⟨_, _, J7, q6⟩
          | .brk, ⟨σ6, H6, S6, q6⟩ => exact drop1 S6 fun t7 J7 => ⟨_, _, J7, q6⟩
          | .cont, ⟨σ6, H6, S6, q6⟩ => exact drop1 S6 fun t7 J7 => ⟨_, _, J7, q6⟩
          | .ret u, ⟨v6, σ6, H6, S6, r6, q6⟩ => exact drop1 S6 fun t7 J7 => ⟨_, _, _, J7, r6, q6⟩
      | @pair x y c1 c2 ts s0 ss p1 p2 p3 pt kk hs2 l2 hx hy su r ih =>
        intro h3 fl3 up3
        have J3 : Inv X pins σ1 H1 { t1 with heap := h3 } := J.landed ground fl3.1 (up.trans up3) os ag
        obtain ⟨o3, v3, at3, z3, dat3⟩ := fl3.there
        have apart : a ∉ frs (X.env :: X.outer) := by
          intro hm
          obtain ⟨_, o, eo, plain⟩ := fl3.2.2.1.mem hm
          rw [at3] at eo
          cases eo
          exact plain _ dat3
        have notLoc : a ≠ X.env.locals := fun z => apart (List.mem_filterMap.mpr ⟨X.env, List.mem_cons_self, hf.trans (congrArg some z.symm)⟩)
        have notFs : a ∉ X.fs := fun hm => match List.mem_filterMap.mp hm with | ⟨e, he, q⟩ => apart (List.mem_filterMap.mpr ⟨e, List.mem_cons_of_mem _ he, q⟩)
        have S3 := J3.suite at3 dat3 na notLoc notFs
        have typed : PySem.W.Looks (model X.prog X.w) h3 (typeOf (.ref a)) cls := fun A Q E s k q => wpAny_typeOf_ref (k _ _ at3) (z3.1.symm ▸ q)
        have asked : ∀ {x : Str} {c : Value} {p1 : Pos} {Q : Value → Shared → Prop} {E : Value → Shared → Prop}, Names X x c → Q c { t1 with heap := h3 } → wpAny (model X.prog X.w) (X.A.mark (some (.ref a))) (eval (.Name x p1) X.env) Q E { t1 with heap := h3 } := by
          rintro x c p1 Q E ⟨g1, g2, g3⟩ q
          rcases g3 with g3 | ⟨g3, g4, g5⟩
          · exact ld_glob (X := X.suite a ((a, o3) :: (X.pn ++ pins))) S3 g1 g3 q g2
          · exact ld_blt (X := X.suite a ((a, o3) :: (X.pn ++ pins))) S3 g1 g3 g4 q g5 g2
        rintro ⟨b, m, yes, no⟩
        have kp : ∀ q o, h3.get? q = some o → (h3.push { cls := .type "tuple", data := .seq [c1, c2].toArray }).get? q = some o := fun _ _ z => Heap.get?_push_of_some _ z
        refine wpAny_handleBy_cons (codeAny_handlers_test (wpAny_Tuple (wpAny_items_cons (asked hx (wpAny_items_cons (asked hy (wpAny_items_nil ⟨by size_fits, ?_⟩))))))) (by intro q; cases q)
        refine (PySem.W.exm_tup2 (M := model X.prog X.w) (J3.kIn.keeps kp) (typed.keeps kp) (Heap.get?_push_size h3 rfl) m).here ?_
        have flP := flyingZ_keeps fl3 kp
        have upP := up3.trans (Heap.UpToSlots.of_keeps kp)
        cases b with
        | false => exact ih _ flP upP (no rfl)
        | true =>
          refine codeAny_handlers_suite (HandSPX.lands_againZ flP fun h4 fl4 up4 => ?_)
          have J4 : Inv X pins σ1 H1 { t1 with heap := h4 } := J.landed ground fl4.1 ((up.trans upP).trans up4) os ag
          obtain ⟨o4, v4, at4, z4, dat4⟩ := fl4.there
          have S4 := J4.suite at4 dat4 na notLoc notFs
          refine wpAny_mono ((su a o4 cls d (X.pn ++ pins) z4 ⟨_, dat4⟩).run [] _ _ H1 _ S4 (yes rfl a na)) (fun f t6 sp => ?_) (fun _ _ z => z.elim)
          match f, sp with
          | .next, ⟨σ6, H6, S6, q6⟩ => exact ⟨_, _, S6.unsuite fine, q6⟩
          | .brk, ⟨σ6, H6, S6, q6⟩ => exact ⟨_, _, S6.unsuite fine, q6⟩
          | .cont, ⟨σ6, H6, S6, q6⟩ => exact ⟨_, _, S6.unsuite fine, q6⟩
          | .ret u, ⟨v6, σ6, H6, S6, r6, q6⟩ => exact ⟨_, _, _, S6.unsuite fine, r6, q6⟩
    exact walk hh h3 fl3 up3 wish
  refine wpAny_Try_except (wpAny_mono ((hb (wEvy X.K W0 D l) (X.pn ++ pins) caught taken PassesOwn.looking).run [] s σ H D (I.toTry _) h) (fun f t1 sp => ?_) (fun e t1 he => he))
  match f, sp with
  | .next, ⟨σ1, H1, J, q⟩ => exact wpAny_execs_nil ⟨σ1, H1, J.ofTry fine, q⟩
  | .brk, ⟨σ1, H1, J, q⟩ => exact ⟨σ1, H1, J.ofTry fine, q⟩
  | .cont, ⟨σ1, H1, J, q⟩ => exact ⟨σ1, H1, J.ofTry fine, q⟩
  | .ret u, ⟨v, σ1, H1, J, r, q⟩ => exact ⟨v, σ1, H1, J.ofTry fine, r, q⟩
end
end Vk
set_option Elab.async false
set_option maxRecDepth 100000
set_option maxHeartbeats 4000000
set_option linter.all false
namespace Vk
open PySem PySem.Spec PyProof.Rows L2
/-! ## x[::-1], x a text -/
theorem back_idx (n : Nat) : Builtin.Str.strSliceIndices none none (-1) n = (List.range n).reverse := by
  rw [← PySem.W.krv_range, ← PySem.W.krv_sliceRange]
  rfl
/-- read from the end -/
def backS (z : Str) : Str := ⟨z.cps.toList.reverse.toArray⟩
def tRevS (te : TE) : TE := fun σ H Q => te σ H fun x H1 => ∃ z, x = .str z ∧ z.length ≤ sizeLine ∧ Q (.str (backS z)) H1
theorem pe_revS {X : Cx} {e : Expr} {te : TE} {k : Nat} {p1 p2 p3 pos : Pos} (he : PE X e te) : PE X (.Subscript e (.Slice none none (some (.UnaryOp .USub (.Constant (.int 1) k p1) p2)) p3) pos) (tRevS te) := by
  refine ⟨fun pins s σ H Q I h => ?_⟩
  refine Subscript_ (thn (he.run pins s σ H _ I h) fun v s1 ⟨x, H1, I1, r1, q1⟩ => ?_)
  obtain ⟨z, rfl, hz, q⟩ := q1
  obtain ⟨t, rfl⟩ := r1
  have step : PO X (some (.UnaryOp .USub (.Constant (.int 1) k p1) p2)) (tPart (tUn (rU fun i => .int (-i)) (tC (.int 1)))) := po_some (pe_un un_neg pe_int)
  refine wpAny_Slice (thn (po_none.run pins s1 σ H1 (fun o H2 => o = none ∧ H2 = H1) I1 ⟨rfl, rfl⟩) fun vl s2 ⟨l, H2, I2, pl, el, e2⟩ => ?_)
  subst el e2
  refine thn (po_none.run pins s2 σ H2 (fun o H3 => o = none ∧ H3 = H2) I2 ⟨rfl, rfl⟩) fun vu s3 ⟨u, H3, I3, pu, eu, e3⟩ => ?_
  subst eu e3
  refine thn (step.run pins s3 σ H3 (fun o H4 => o = some (-1) ∧ H4 = H3) I3 ⟨1, rfl, -1, rfl, rfl, rfl⟩) fun vs s4 ⟨o, H4, I4, ps, eo, e4⟩ => ?_
  subst eo e4
  have I5 : Inv X pins σ H4 { s4 with heap := s4.heap.push { cls := .type "slice", data := .fields #[vl, vu, vs] } } := I4.kept (t' := s4.toks) fun b ob q => Heap.get?_push_of_some _ q
  obtain ⟨pl1, rfl, el⟩ := IsPart.raw pl
  obtain ⟨pu1, rfl, eu⟩ := IsPart.raw pu
  obtain ⟨ps1, rfl, es⟩ := IsPart.raw ps
  match pl1, pu1, ps1, el, eu, es with
  | none, none, some (m, tm), _, _, es =>
    have em : m = -1 := Option.some.inj es
    subst em
    refine tail_any (ops := [.str z t, .ref s4.heap.objs.size]) (typeIs_str _ _ _) F.slot_str_getitem.lookup ?_ (by with_unfolding_all rfl)
    refine wpAny_getItem_str_slice (l := none) (u := none) (st := some (-1, tm)) ⟨_, Heap.get?_push_size _ rfl, rfl, rfl⟩ rfl ?_
    have e : (⟨((Builtin.Str.strSliceIndices none none (-1) z.length).filterMap (z.cps[·]?)).toArray⟩ : Str) = backS z := by
      rw [back_idx, List.filterMap_reverse]
      unfold backS
      exact congrArg (fun l : List Nat => (⟨l.reverse.toArray⟩ : Str)) (PySem.W.krv_all z.cps)
    show Made.post (Made.str ⟨((Builtin.Str.strSliceIndices none none (-1) z.length).filterMap (z.cps[·]?)).toArray⟩) (EP X pins σ Q) _
    rw [e]
    have hl : (backS z).length ≤ sizeLine := by
      show (z.cps.toList.reverse.toArray).size ≤ sizeLine
      rw [List.size_toArray, List.length_reverse, Array.length_toList]
      exact hz
    exact ⟨hl, .str _, H4, I5.tok _, ⟨_, rfl⟩, q⟩
end Vk
set_option Elab.async false
set_option maxRecDepth 100000
set_option maxHeartbeats 4000000
set_option linter.all false
namespace Vk
open PySem PySem.Spec PyProof.Rows L2 HT
/-! ## t[::-1], t a tuple -/
section
variable {prog : Program} {w : World} {A : Around} {E : Value → Shared → Prop} {s : Shared}
theorem places_back (n : Nat) : Builtin.Slice.slicePlaces ((n : Int) - 1) (-1) (-1) = n := by
  unfold Builtin.Slice.slicePlaces
  rw [if_neg (by omega : ¬ ((-1 : Int) > 0))]
  show (if ((n : Int) - 1 > -1) then ((n : Int) - 1 - -1 - 1) / (1 : Int) + 1 else 0).toNat = n
  rw [Int.ediv_one]
  split <;> omega
theorem sliceApplied_back {sl : Addr} {t : Tok} {n : Nat} {Q : Int × Int × Nat → Shared → Prop} (hs : s.heap.IsSliceOf sl .none .none (.int (-1) t)) (h : Q ((n : Int) - 1, -1, n) s) :
    wpAny (model prog w) A (Builtin.Slice.sliceApplied (.ref sl) (pure (n : Int))) Q E s := by
  obtain ⟨os, hos, hcs, hds⟩ := id hs
  unfold Builtin.Slice.sliceApplied Builtin.Slice.sliceFields
  refine wpAny_bind (wpAny_bind (wpAny_field hos hds (x := .none) rfl (wpAny_bind (wpAny_field hos hds (x := .none) rfl (wpAny_bind (wpAny_field hos hds (x := .int (-1) t) rfl (wpAny_pure ?_)))))))
  refine wpAny_bind (slicePart_int ?_)
  show wpAny _ _ (if ((-1 : Int) == 0) = true then _ else _) _ _ s
  rw [if_neg (by decide)]
  refine wpAny_bind (slicePart_none (wpAny_bind (slicePart_none (wpAny_bind (wpAny_pure ?_)))))
  show wpAny _ _ (pure ((n : Int) - 1, (-1 : Int), Builtin.Slice.slicePlaces ((n : Int) - 1) (-1) (-1))) _ _ s
  rw [places_back]
  exact wpAny_pure h
theorem pick_back (xs : Array Value) : ((List.range xs.size).filterMap fun (m : Nat) => xs[((xs.size : Int) - 1 + (m : Int) * -1).toNat]?).toArray = xs.toList.reverse.toArray := by
  have e : ((List.range xs.size).filterMap fun (m : Nat) => xs[((xs.size : Int) - 1 + (m : Int) * -1).toNat]?) = (List.range xs.size).reverse.filterMap (xs[·]?) := by
    rw [← PySem.W.krv_range, List.filterMap_map]
    have q : ∀ l : List Nat, (∀ m ∈ l, m < xs.size) → l.filterMap (fun (m : Nat) => xs[((xs.size : Int) - 1 + (m : Int) * -1).toNat]?) = l.filterMap ((fun x => xs[x]?) ∘ fun k => xs.size - 1 - k) := by
      intro l
      induction l with
      | nil => intro _; rfl
      | cons m l ih =>
        intro hl
        have hm := hl m List.mem_cons_self
        have e1 : ((xs.size : Int) - 1 + (m : Int) * -1).toNat = xs.size - 1 - m := by omega
        rw [List.filterMap_cons, List.filterMap_cons, ih fun k hk => hl k (List.mem_cons_of_mem _ hk)]
        simp only [Function.comp, e1]
    exact q _ fun m hm => List.mem_range.mp hm
  rw [e, List.filterMap_reverse, PySem.W.krv_all]
theorem getItem_tuple_back {t sl : Addr} {tk : Tok} {items : Array Value} {Q : Value → Shared → Prop} (ht : IsTup s.heap t items) (hs : s.heap.IsSliceOf sl .none .none (.int (-1) tk))
    (h : Q (.ref s.heap.objs.size) { s with heap := s.heap.push { cls := .type "tuple", data := .seq items.toList.reverse.toArray } })
    (hsz : items.size ≤ sizeLine) : wpAny (model prog w) A (getItem (.ref t) (.ref sl)) Q E s := by
  have htake : sizeOk (.seq items.toList.reverse.toArray) := by
    show items.toList.reverse.toArray.size ≤ sizeLine
    rw [List.size_toArray, List.length_reverse, Array.length_toList]
    exact hsz
  obtain ⟨os, hos, hcs, hds⟩ := id hs
  have hTs : s.TypeIs (.ref sl) "slice" := ⟨os, hos, hcs⟩
  unfold getItem
  try with_reducible refine wpAny_holding ?_
  first | refine wpAny_bind (wpAny_pure ?_) | skip
  refine wpAny_bind (wpAny_sequenceKey ht.typeIs (by decide) ?_)
  refine wpAny_bind (wpAny_callSpecial?_slot (name := Str.ofString "__getitem__") ht.typeIs PyProof.Rows.slot_tuple_getitem
    (wpAny_call_entry PyProof.Rows.slot_tuple_getitem ht.typeIs entry_tuple_getitem ?_ (args_tuple_getitem _ _)))
  show wpAny _ _ (Builtin.Tuple.tupleItemsOf (.ref t) >>= _) _ _ s
  refine wpAny_bind (tupleItemsOf_ ht ?_)
  refine wpAny_bind (wpAny_typeOf hTs ?_)
  rw [if_pos (by decide)]
  refine wpAny_bind (sliceApplied_back hs ?_)
  have hno : ¬ ((((items.size : Int) - 1) == 0 && (-1 : Int) == 1 && items.size == items.size) = true) := by
    intro q
    rw [Bool.and_eq_true, Bool.and_eq_true] at q
    exact absurd q.1.2 (by decide)
  show wpAny _ _ (if ((((items.size : Int) - 1) == 0 && (-1 : Int) == 1 && items.size == items.size) = true) then _ else _) _ _ s
  rw [if_neg hno, pick_back]
  first
    | exact wpAny_bind (m := Builtin.Tuple.tupleExact _) (wpAny_newObj_type (wpAny_pure ⟨_, rfl, wpAny_pure h⟩) htake)
    | exact wpAny_bind (m := Builtin.Tuple.tupleExact _) (wpAny_newObj_type (wpAny_bind (wpAny_pure (wpAny_pure ⟨_, rfl, wpAny_pure h⟩))) htake)
    | exact wpAny_bind (wpAny_bind (m := Builtin.Tuple.tupleExact _) (wpAny_newObj_type (wpAny_pure (wpAny_pure ⟨_, rfl, wpAny_pure h⟩)) htake))
    | exact wpAny_bind (wpAny_bind (m := Builtin.Tuple.tupleExact _) (wpAny_newObj_type (wpAny_pure ⟨_, rfl, wpAny_pure h⟩) htake))
end
def tRevT (K : PySem.W.Frag) (te : TE) : TE := fun σ H Q => te σ H fun x H1 => ∃ a xs, x = .ref a ∧ SqT K H1 a xs ∧ xs.length ≤ sizeLine ∧ ∀ p, H1 p = none → Q (.ref p) (upd H1 p (.tup xs.reverse))
theorem vals_backT : ∀ {vs : List V} {ws : List Value}, Vals vs ws → Vals vs.reverse ws.reverse
  | _, _, .nil => .nil
  | _, _, .cons r t => by
    rw [List.reverse_cons, List.reverse_cons]
    exact (vals_backT t).append (.cons r .nil)
theorem pe_revT {X : Cx} {e : Expr} {te : TE} {k : Nat} {p1 p2 p3 pos : Pos} (he : PE X e te) : PE X (.Subscript e (.Slice none none (some (.UnaryOp .USub (.Constant (.int 1) k p1) p2)) p3) pos) (tRevT X.K te) := by
  refine ⟨fun pins s σ H Q I h => ?_⟩
  refine Subscript_ (thn (he.run pins s σ H _ I h) fun v s1 ⟨x, H1, I1, r1, q1⟩ => ?_)
  obtain ⟨a, xs, rfl, ha, hz, q⟩ := q1
  cases r1
  have step : PO X (some (.UnaryOp .USub (.Constant (.int 1) k p1) p2)) (tPart (tUn (rU fun i => .int (-i)) (tC (.int 1)))) := po_some (pe_un un_neg pe_int)
  refine wpAny_Slice (thn (po_none.run pins s1 σ H1 (fun o H2 => o = none ∧ H2 = H1) I1 ⟨rfl, rfl⟩) fun vl s2 ⟨l, H2, I2, pl, el, e2⟩ => ?_)
  subst el e2
  refine thn (po_none.run pins s2 σ H2 (fun o H3 => o = none ∧ H3 = H2) I2 ⟨rfl, rfl⟩) fun vu s3 ⟨u, H3, I3, pu, eu, e3⟩ => ?_
  subst eu e3
  refine thn (step.run pins s3 σ H3 (fun o H4 => o = some (-1) ∧ H4 = H3) I3 ⟨1, rfl, -1, rfl, rfl, rfl⟩) fun vs s4 ⟨o, H4, I4, ps, eo, e4⟩ => ?_
  subst eo e4
  have I5 : Inv X pins σ H4 { s4 with heap := s4.heap.push { cls := .type "slice", data := .fields #[vl, vu, vs] } } := I4.kept (t' := s4.toks) fun b ob q => Heap.get?_push_of_some _ q
  cases pl
  cases pu
  cases ps with
  | int i t =>
  obtain ⟨its, r2, p2, hz2⟩ := I5.tuple ha
  refine tail_any (ops := [.ref a, .ref s4.heap.objs.size]) p2.typeIs PyProof.Rows.slot_tuple_getitem.lookup ?_ (by with_unfolding_all rfl)
  refine getItem_tuple_back (tk := t) p2 ⟨_, Heap.get?_push_size _ rfl, rfl, rfl⟩ ?_ (by rw [List.size_toArray, ← r2.length]; exact hz)
  refine ⟨.ref _, _, I5.laid (t' := s4.toks) (o := .tup xs.reverse) (fun b ob q => Heap.get?_push_of_some _ q) (Nat.le_refl _) ?_, rfl, q _ (I5.hok.fresh (Nat.le_refl _))⟩
  refine ⟨by rw [List.length_reverse]; exact hz, its.reverse, vals_backT r2, ?_⟩
  exact IsTup.new _ _
end Vk
set_option Elab.async false
set_option maxRecDepth 100000
set_option maxHeartbeats 4000000
set_option linter.all false
namespace Vk
open PySem PySem.Spec PyProof.Rows L2 LamX
/-! ## things: a value, or a list or a tuple of values -/
inductive Tg (H : Hp) : V → PyData → Prop
  | one {v : V} {d : PyData} : Th H v d → (∀ ds, d ≠ .tuple ds) → Tg H v d
  | lst {a : Addr} {vs : List V} {ds : List PyData} : H a = some (.lst vs) → Paired (Th H) vs ds → Tg H (.ref a) (.list ds)
  | tup {a : Addr} {vs : List V} {ds : List PyData} : H a = some (.tup vs) → Paired (Th H) vs ds → Tg H (.ref a) (.tuple ds)
theorem atms_ths {H : Hp} : ∀ {vs : List V} {ds : List PyData}, Paired Atm vs ds → Paired (Th H) vs ds
  | _, _, .nil => .nil
  | _, _, .cons a t => .cons (.atm a) (atms_ths t)
theorem Th.tg {H : Hp} {v : V} {d : PyData} (h : Th H v d) : Tg H v d := by
  cases h with
  | atm a => exact .one (.atm a) (fun ds z => by cases a <;> cases z)
  | lst e n p => exact .one (.lst e n p) (fun ds z => by cases z)
  | tup e p => exact .tup e (atms_ths p)
  | dct e => exact .one (.dct e) (fun ds z => by cases z)
theorem Tg.keep {H H' : Hp} {v : V} {d : PyData} (h : Tg H v d) (s : Same H H') : Tg H' v d := by
  cases h with
  | one th n => exact .one (th.keep s) n
  | lst e p => exact .lst (s _ _ e) (ths_keep s p)
  | tup e p => exact .tup (s _ _ e) (ths_keep s p)
theorem ths_ext {H H' : Hp} {p c : Addr} {T : Nat} (hp : Pen H p c T) (x : Ext p H H') : ∀ {vs : List V} {ds : List PyData}, Paired (Th H) vs ds → Paired (Th H') vs ds
  | _, _, .nil => .nil
  | _, _, .cons a t => .cons (a.ext hp x) (ths_ext hp x t)
theorem Tg.ext {H H' : Hp} {p c : Addr} {T : Nat} {v : V} {d : PyData} (h : Tg H v d) (hp : Pen H p c T) (x : Ext p H H') : Tg H' v d := by
  have ne : ∀ {a o}, H a = some o → (∀ k, o ≠ .dK k) → H' a = some o := fun {a o} e n => x _ _ e fun z => by
    obtain ⟨t, l, hl⟩ := hp.is
    rw [z, hl] at e
    exact n _ (Option.some.inj e).symm
  cases h with
  | one th n => exact .one (th.ext hp x) n
  | lst e p => exact .lst (ne e fun _ z => nomatch z) (ths_ext hp x p)
  | tup e p => exact .tup (ne e fun _ z => nomatch z) (ths_ext hp x p)
theorem call_reprG {X : Cx} (sm : SM X.base) (hg : X.A.guards = some []) (hu : X.A.units + 64 < cLine) : CallR X (.builtin "repr") (fun xs H Q => ∃ x d, xs = [x] ∧ Tg H x d ∧ Shn d ∧ Q (.str d.shown) H) := by
  intro pins s σ H xs us Q I r h
  obtain ⟨x, d, rfl, tg, sh, k⟩ := h
  cases tg with
  | one th n => exact call_reprT hg hu pins s σ H _ us Q I r ⟨x, d, rfl, .inl th, sh.1, sh.2.1, sh.2.2, k⟩
  | lst e p => exact call_reprM sm hg hu pins s σ H _ us Q I r ⟨_, _, rfl, ⟨_, _, _, rfl, p, .inl ⟨e, rfl⟩⟩, sh, k⟩
  | tup e p => exact call_reprM sm hg hu pins s σ H _ us Q I r ⟨_, _, rfl, ⟨_, _, _, rfl, p, .inr ⟨e, rfl⟩⟩, sh, k⟩
/-- the thing's kind -/
def isTupB : PyData → Bool
  | .tuple _ => true
  | _ => false
end Vk
set_option Elab.async false
set_option maxRecDepth 100000
set_option linter.all false
set_option maxHeartbeats 4000000
namespace Vk
open PySem PySem.Spec PyProof.Rows L2
section
variable {P : Program} {w : World} {K : PySem.W.Frag} {mg : Str → Option Value} {base : Heap}
theorem find_two {x w : Str} : (∃ z : Int, Txt.find x w = z ∧ ∃ y : Int, Txt.find3 x w (z + 1) = y ∧ (decide (0 ≤ y) = decide (2 ≤ (plc x w).length))) := by
  have nd := plc_asc x w
  have mem : ∀ i, StrLaws.At x w x.length i ↔ i ∈ plc x w := fun i => by
    unfold plc
    rw [List.mem_filter, List.mem_range, atB_iff]
    exact ⟨fun h => ⟨by have := h.1; omega, h⟩, fun h => h.2⟩
  have ef : ∀ i : Nat, Txt.find3 x w ((i : Nat) : Int) = (match Builtin.Str.occurrences x w i x.length 1 with | i :: _ => (i : Int) | [] => -1) := fun i => by
    unfold Txt.find3
    rw [show fromIndex x.length ((i : Nat) : Int) = i by unfold fromIndex; rw [if_neg (by omega)]; omega]
    cases Builtin.Str.occurrences x w i x.length 1 <;> rfl
  have key : ∀ i : Nat, i ≤ x.length + 1 → (Txt.find3 x w ((i : Nat) : Int) = -1 ∧ ∀ k, i ≤ k → ¬ StrLaws.At x w x.length k) ∨ ∃ j : Nat, Txt.find3 x w ((i : Nat) : Int) = (j : Int) ∧ i ≤ j ∧ StrLaws.At x w x.length j ∧ ∀ k, i ≤ k → k < j → ¬ StrLaws.At x w x.length k := fun i hi => by
    rw [ef]
    exact find_from x w i hi
  have f0 : (Txt.find x w = -1 ∧ ∀ k, 0 ≤ k → ¬ StrLaws.At x w x.length k) ∨ ∃ j : Nat, Txt.find x w = (j : Int) ∧ 0 ≤ j ∧ StrLaws.At x w x.length j ∧ ∀ k, 0 ≤ k → k < j → ¬ StrLaws.At x w x.length k := find_from x w 0 (Nat.zero_le _)
  refine ⟨_, rfl, _, rfl, ?_⟩
  rcases f0 with ⟨h1, h2⟩ | ⟨i, h1, h2, h3, h4⟩
  · have en : plc x w = [] := List.eq_nil_iff_forall_not_mem.mpr fun k hk => h2 k (Nat.zero_le _) ((mem k).mpr hk)
    have k0 := key 0 (Nat.zero_le _)
    rw [h1, en]
    rcases k0 with ⟨g1, _⟩ | ⟨j, _, _, g3, _⟩
    · rw [show ((-1 : Int) + 1) = ((0 : Nat) : Int) by rfl, g1]
      decide
    · exact absurd g3 (h2 j (Nat.zero_le _))
  · have il : i ≤ x.length := by have := h3.1; omega
    have hi := (mem i).mp h3
    rw [h1, show ((i : Int) + 1) = ((i + 1 : Nat) : Int) by omega, decide_eq_decide, two_of nd hi]
    rcases key (i + 1) (by omega) with ⟨g1, g2⟩ | ⟨j, g1, g2, g3, g4⟩
    · rw [g1]
      constructor
      · intro h; omega
      · rintro ⟨k, hk, hne⟩
        have hk2 := (mem k).mpr hk
        by_cases lt : k < i
        · exact absurd hk2 (h4 k (Nat.zero_le _) lt)
        · exact absurd hk2 (g2 k (by omega))
    · rw [g1]
      exact ⟨fun _ => ⟨j, (mem j).mp g3, by omega⟩, fun _ => by omega⟩
def spTwice : Sp := fun vs H Q _ => ∃ x w, vs = [.str x, .str w] ∧ Q (.bl (decide (2 ≤ (plc x w).length))) H
abbrev s_stands_twice : Stmt := top 11
theorem sc_stands_twice : FnScope ["text", "word"] ["text", "word"] (defScope s_stands_twice) := ⟨rfl, rfl, rfl, by decide +kernel, rfl, by decide +kernel, by decide +kernel⟩
theorem b_stands_twice {f : Addr} {fd : FuncData} (F : Fun K "stands_twice" "stands_twice" s_stands_twice f fd) (T : Txt mg) : FnG P w K mg base CX0 1 f fd ["text", "word"] spTwice := by
  refine okG0 F sc_stands_twice (fun vs H Q E h => ?_) (fun cdv A outer s H vs Q E hg hr h => ?_)
  · obtain ⟨x, w, rfl, _⟩ := h
    rfl
  · have hu := hu_of hr
    have hu64 := hr.units
    obtain ⟨x, w, rfl, k⟩ := h
    refine ⟨_, (pss_one (ps_ret (pe_cmpR op_ge (pe_bm PySem.F.plainAttrs_str PySem.F.slot_str_find PySem.F.type_str_find mt_find3 (pv 0) (pa_cons (pv 1) (pa_cons (pe_op op_add (pe_bm PySem.F.plainAttrs_str PySem.F.slot_str_find PySem.F.type_str_find mt_find (pv 0) (pa_cons (pv 1) pa_nil)) pe_int) pa_nil))) pe_int (nomark _)))), ?_⟩
    obtain ⟨z, e1, y, e2, e3⟩ := @find_two x w
    refine ⟨_, rfl, rfl, _, rfl, _, rfl, rfl, _, rfl, x, w, rfl, rfl, ?_⟩
    rw [e1]
    refine ⟨_, _, rfl, rfl, x, w, _, rfl, rfl, ?_⟩
    rw [e2]
    refine ⟨_, _, rfl, rfl, ?_⟩
    show Q (V.bl (decide (0 ≤ y))) H
    rw [e3]
    exact k

def spOnce : Sp := fun vs H Q _ => ∃ x w, vs = [.str x, .str w] ∧ Q (.bl (decide ((plc x w).length = 1))) H
theorem in_plc {x w : Str} : (!(Builtin.Str.occurrences x w 0 x.length 1).isEmpty) = decide (1 ≤ (plc x w).length) := by
  rw [Bool.eq_iff_iff, PySem.StrLaws.found_iff, decide_eq_true_eq]
  constructor
  · rintro ⟨i, h1, h2⟩
    refine List.length_pos_of_mem (a := i) ?_
    unfold plc atB
    rw [List.mem_filter, List.mem_range, Bool.and_eq_true, decide_eq_true_eq]
    exact ⟨by omega, h1, h2⟩
  · intro h
    obtain ⟨i, hi⟩ := List.exists_mem_of_length_pos h
    unfold plc atB at hi
    rw [List.mem_filter, List.mem_range, Bool.and_eq_true, decide_eq_true_eq] at hi
    exact ⟨i, hi.2.1, hi.2.2⟩
abbrev s_stands_once : Stmt := top 12
theorem sc_stands_once : FnScope ["text", "word"] ["text", "word"] (defScope s_stands_once) := ⟨rfl, rfl, rfl, by decide +kernel, rfl, by decide +kernel, by decide +kernel⟩
theorem b_stands_once {f : Addr} {fd : FuncData} (F : Fun K "stands_once" "stands_once" s_stands_once f fd) (T : Txt mg) (c_stands_twice : CalG P w K mg base CX0 1 "stands_twice" spTwice) : FnG P w K mg base CX0 2 f fd ["text", "word"] spOnce := by
  refine okG0 F sc_stands_once (fun vs H Q E h => ?_) (fun cdv A outer s H vs Q E hg hr h => ?_)
  · obtain ⟨x, w, rfl, _⟩ := h
    rfl
  · have hu := hu_of hr
    have hu64 := hr.units
    obtain ⟨x, w, rfl, k⟩ := h
    have hr1 : Room 1 _ := hr
    refine ⟨_, (pss_one (ps_ret (pe_and (pe_cmpR op_in_str (pv 1) (pv 0) (by rfl)) (pe_one (pe_not (pe_cG c_stands_twice hg hr (by decide) pass0 (pa_cons (pv 0) (pa_cons (pv 1) pa_nil)))))))), ?_⟩
    refine ⟨_, rfl, _, rfl, w, x, rfl, rfl, _, rfl, ?_⟩
    rw [in_plc]
    by_cases c : 1 ≤ (plc x w).length
    · rw [decide_eq_true c]
      refine iteT ?_
      refine ⟨_, rfl, _, rfl, x, w, rfl, _, rfl, ?_⟩
      have e : (!decide (2 ≤ (plc x w).length)) = decide ((plc x w).length = 1) := by
        rw [← decide_not]
        exact decide_eq_decide.mpr (by omega)
      rw [e]
      exact k
    · rw [decide_eq_false c]
      refine iteF ?_
      rw [decide_eq_false (show ¬ (plc x w).length = 1 by omega)] at k
      exact k

/-- parts -/
def Rw3 (H : Hp) : List V → List (Nat × Nat × Str) → Prop := Paired (fun v (r : Nat × Nat × Str) => ∃ t, v = V.ref t ∧ H t = some (.tup [.int (r.1 : Nat), .int (r.2.1 : Nat), .str r.2.2]))
theorem Rw3.keep {H H1 : Hp} {xs : List V} {rs : List (Nat × Nat × Str)} (h : Rw3 H xs rs) (s : Same H H1) : Rw3 H1 xs rs := pair_mono (fun v p ⟨t, e, ht⟩ => ⟨t, e, s _ _ ht⟩) h
theorem Rw3.keepT {H H1 : Hp} {xs : List V} {rs : List (Nat × Nat × Str)} (h : Rw3 H xs rs) (s : ∀ u ws, H u = some (.tup ws) → H1 u = some (.tup ws)) : Rw3 H1 xs rs := pair_mono (fun v p ⟨t, e, ht⟩ => ⟨t, e, s _ _ ht⟩) h
def costE (e : Int) (r : Nat × Nat × Str) : Int := (r.2.1 : Int) - (r.1 : Int) + (r.2.2.length : Nat) + e
def spCost : Sp := fun vs H Q _ => ∃ (q : Addr) (e : Int) (xs : List V) (rs : List (Nat × Nat × Str)), vs = [.ref q, .int e] ∧ H q = some (.tup xs) ∧ Rw3 H xs rs ∧ rs.length ≤ 100 ∧ (∀ r ∈ rs, r.2.2.length ≤ 100) ∧ ∀ H', Same H H' → Q (.int ((rs.map (costE e)).sum)) H'
abbrev s_cost_of : Stmt := top 18
theorem sc_cost_of : FnScope ["exchange", "each", "begin", "end", "new"] ["exchange", "each"] (defScope s_cost_of) := ⟨rfl, rfl, rfl, by decide +kernel, rfl, by decide +kernel, by decide +kernel⟩
theorem b_cost_of {f : Addr} {fd : FuncData} (F : Fun K "cost_of" "cost_of" s_cost_of f fd) (T : Txt mg) : FnG P w K mg base CX0 1 f fd ["exchange", "each"] spCost := by
  refine okG0 F sc_cost_of (fun vs H Q E h => ?_) (fun cdv A outer s H vs Q E hg hr h => ?_)
  · obtain ⟨q, e0, xs, rs, rfl, _⟩ := h
    rfl
  · have hu := hu_of hr
    have hu64 := hr.units
    obtain ⟨q, e0, xs, rs, rfl, hq, rw0, hl, hz, k⟩ := h
    have glen := paired_len rw0
    refine ⟨_, (pss_one (ps_ret (pe_callB (cr_sum rfl) (by rfl) T.sum (by decide +kernel) (pa_cons (pe_lc (own := [("begin", 2), ("end", 3), ("new", 4)]) (g := (gTup K 3 (gCons (gName 2) (gCons (gName 3) (gCons (gName 4) gNil))))) (tt := tYes) rfl sc_cost_of.nd (pi_tup (pv 0)) (blkOk_by (own := [("begin", 2), ("end", 3), ("new", 4)]) (N := ["exchange", "each", "begin", "end", "new"]) (sc := defScope s_cost_of) (by decide +kernel)) (fun _ _ _ _ _ => (pg_tupK (K := K) rfl rfl (pgs_cons (pg_name (i := 2) sc_cost_of.nd rfl (Or.inl rfl)) (pgs_cons (pg_name (i := 3) sc_cost_of.nd rfl (Or.inl rfl)) (pgs_cons (pg_name (i := 4) sc_cost_of.nd rfl (Or.inl rfl)) pgs_nil))))) (fun _ _ _ _ _ => pts_nil) (fun _ _ _ _ _ => (pe_op op_add (pe_op op_add (pe_op op_sub (pv 3) (pv 2)) (pe_callB (call_lenK (K := K) rfl) (by rfl) T.len (by decide +kernel) (pa_cons (pv 4) pa_nil))) (pv 1)))) pa_nil)))), ?_⟩
    refine ⟨_, rfl, q, rfl, ⟨_, SqT.of hq⟩, fun D hD => ?_⟩
    have sD := same_new (o := .lst []) hD
    refine lc_tup (K := K) (a := q) (xs := xs) (fun n H' => H' D = some (.lst ((rs.take n).map fun r => V.int (costE e0 r))) ∧ Same H H') ?_ ?_ ?_ ?_
    · exact ⟨upd_same, sD⟩
    · rintro n H' _ ⟨_, sm⟩
      exact SqT.of (sm _ _ hq)
    · rintro n v H' hv ⟨hDz, sm⟩
      obtain ⟨r, hr1, t, rfl, ht⟩ := paired_at rw0 hv
      have zl : r.2.2.length ≤ sizeLine := Nat.le_of_lt (fewL (by have := hz r (List.mem_of_getElem? hr1); omega))
      refine ⟨t, _, rfl, SqT.of (sm _ _ ht), rfl, _, _, rfl, _, _, rfl, _, _, rfl, rfl, ?_⟩
      refine ⟨rfl, _, rfl, _, rfl, _, _, rfl, rfl, _, rfl, _, _, rfl, ⟨zl, rfl⟩, _, _, rfl, rfl, _, rfl, _, _, rfl, rfl, ?_⟩
      refine ⟨_, hDz, fewL (by rw [List.length_map, List.length_take]; omega), ?_, upd_out hD sm⟩
      rw [upd_same, List.take_add_one, hr1, Option.toList_some, List.map_append]
      rfl
    · rintro H2 ⟨hD2, s2⟩
      rw [List.take_of_length_le (by omega)] at hD2
      refine ⟨D, rs.map (costE e0), rfl, SqL.of ?_, k _ s2⟩
      rw [hD2, List.map_map]
      rfl

/-- what stands when the parts are put -/
def putH (x : Str) : Nat → List (Nat × Nat × Str) → Str → Str
  | p, [], acc => acc ++ cutS x (some (p : Int)) none
  | p, r :: rs, acc => putH x r.2.1 rs (acc ++ cutS x (some (p : Int)) (some (r.1 : Int)) ++ r.2.2)
theorem tl_flat (ps : List Str) : TL.tl (Txt.join "" ps) = (ps.map TL.tl).flatten := by
  rw [TL.join_eq, TL.tl_join]
  exact join_nil _
theorem join_snoc {ps : List Str} {y : Str} : Txt.join "" (ps ++ [y]) = Txt.join "" ps ++ y := by
  refine TL.ext_tl ?_
  rw [tl_flat, List.map_append, List.flatten_append]
  have e : TL.tl (Txt.join "" ps ++ y) = TL.tl (Txt.join "" ps) ++ TL.tl y := more_list
  rw [e, tl_flat]
  simp
def texs (ss : List Str) : List V := ss.map V.str
theorem nowhole3 {a b c : V} : (HT.sIx [a, b, c].length 0 none = 0 ∧ HT.sIx [a, b, c].length [a, b, c].length (some 3) = [a, b, c].length) := ⟨rfl, rfl⟩
theorem few_lt2 {n : Nat} (h : n ≤ 3000) : n < sizeLine := Nat.lt_of_le_of_lt h (by rw [sizeLine_eq]; decide)
theorem upd_twice3 {H : Hp} {a : Addr} {o1 o2 : HO} : upd (upd H a o1) a o2 = upd H a o2 := by
  funext b
  by_cases h : b = a
  · rw [h, upd_same, upd_same]
  · rw [upd_ne h, upd_ne h, upd_ne h]
theorem putH_cons {x : Str} {p : Nat} {r : Nat × Nat × Str} {rs : List (Nat × Nat × Str)} {acc : Str} : putH x p (r :: rs) acc = putH x r.2.1 rs (acc ++ cutS x (some (p : Int)) (some (r.1 : Int)) ++ r.2.2) := rfl
theorem putH_nil {x : Str} {p : Nat} {acc : Str} : putH x p [] acc = acc ++ cutS x (some (p : Int)) none := rfl
def spBehind : Sp := fun vs H Q _ => ∃ (x : Str) (q : Addr) (xs : List V) (rs : List (Nat × Nat × Str)), vs = [.str x, .ref q] ∧ x.length ≤ 100 ∧ H q = some (.tup xs) ∧ Rw3 H xs rs ∧ rs.length ≤ 100 ∧ (∀ r ∈ rs, r.2.2.length ≤ 1000) ∧ ∀ H', Same H H' → Q (.str (putH x 0 rs "")) H'
abbrev s_text_behind : Stmt := top 9
theorem sc_text_behind : FnScope ["text", "puts", "pieces", "kept", "put", "begin", "end", "new"] ["text", "puts"] (defScope s_text_behind) := ⟨rfl, rfl, rfl, by decide +kernel, rfl, by decide +kernel, by decide +kernel⟩
theorem b_text_behind {f : Addr} {fd : FuncData} (F : Fun K "text_behind" "text_behind" s_text_behind f fd) (T : Txt mg) : FnG P w K mg base CX0 1 f fd ["text", "puts"] spBehind := by
  refine okG0 F sc_text_behind (fun vs H Q E h => ?_) (fun cdv A outer s H vs Q E hg hr h => ?_)
  · obtain ⟨x, q, xs, rs, rfl, _⟩ := h
    rfl
  · have hu := hu_of hr
    have hu64 := hr.units
    obtain ⟨x, q, xs, rs, rfl, hx, hq, rw0, hl, hz, k⟩ := h
    have hxs := paired_len rw0
    have xl : x.length ≤ sizeLine := Nat.le_of_lt (fewL (by omega))
    refine ⟨_, (pss_cons (ps_set (i := 2) sc_text_behind.nd rfl (Or.inl rfl) (pe_lst pa_nil))
      (pss_cons (ps_set (i := 3) sc_text_behind.nd rfl (Or.inl rfl) pe_int)
      (pss_cons (ps_for PassesOwn.never rfl (pi_tup (pv 1)) (pg_name (i := 4) sc_text_behind.nd rfl (Or.inl rfl)) (pss_cons (ps_asg (pe_slice sl_tupA (pv 4) po_none (po_some pe_int)) (pg_tup rfl (pgs_cons (pg_name (i := 5) sc_text_behind.nd rfl (Or.inl rfl)) (pgs_cons (pg_name (i := 6) sc_text_behind.nd rfl (Or.inl rfl)) (pgs_cons (pg_name (i := 7) sc_text_behind.nd rfl (Or.inl rfl)) pgs_nil)))))
      (pss_cons (ps_expr (pe_bm PySem.F.plainAttrs_list PySem.F.slot_list_append PySem.F.type_list_append mt_append (pv 2) (pa_cons (pe_slice sl_str (pv 0) (po_some (pv 3)) (po_some (pv 5))) pa_nil)))
      (pss_cons (ps_expr (pe_bm PySem.F.plainAttrs_list PySem.F.slot_list_append PySem.F.type_list_append mt_append (pv 2) (pa_cons (pv 7) pa_nil)))
      (pss_one (ps_set (i := 3) sc_text_behind.nd rfl (Or.inl rfl) (pv 6)))))))
      (pss_cons (ps_expr (pe_bm PySem.F.plainAttrs_list PySem.F.slot_list_append PySem.F.type_list_append mt_append (pv 2) (pa_cons (pe_slice sl_str (pv 0) (po_some (pv 3)) po_none) pa_nil)))
      (pss_one (ps_ret (pe_join pe_str (pv 2)))))))), ?_⟩
    refine ⟨few_len (Nat.zero_le _), fun lo hlo => ?_⟩
    have s0 := same_new (o := .lst []) hlo
    refine ⟨_, rfl, q, rfl, ⟨_, SqT.of (s0 _ _ hq)⟩, ?_⟩
    refine for_tup (xs := xs) (fun i σ H2 => ∃ (o4 o5 o6 o7 : Option V) (e : Nat) (got : List Str), σ = [some (.str x), some (.ref q), some (.ref lo), some (.int (e : Nat)), o4, o5, o6, o7] ∧ Same H H2 ∧ H2 lo = some (.lst (texs got)) ∧ got.length = 2 * i ∧ (got.map (·.length)).sum ≤ i * 1100 ∧ putH x 0 rs "" = putH x e (rs.drop i) (Txt.join "" got)) ?_ ?_ ?_ ?_
    · exact ⟨_, _, _, _, 0, [], rfl, s0, upd_same, rfl, Nat.zero_le _, rfl⟩
    · rintro i σ H2 _ ⟨o4, o5, o6, o7, e, got, rfl, s2, _⟩
      exact SqT.of (s2 _ _ hq)
    · rintro i v σ H2 hv ⟨o4, o5, o6, o7, e, got, rfl, s2, hg, gl, gs, ge⟩
      obtain ⟨r, hpp, t, rfl, ht0⟩ := paired_at rw0 hv
      have il : i < xs.length := (List.getElem?_eq_some_iff.mp hv).1
      have hz1 := hz r (List.mem_of_getElem? hpp)
      rw [drop_at hpp, putH_cons] at ge
      have ht := s2 _ _ ht0
      refine ⟨_, rfl, 3, rfl, t, _, rfl, SqT.of ht, fun _ => ?_, fun n => absurd nowhole3 n⟩
      refine ⟨t, _, rfl, SqT.of ht, rfl, _, _, rfl, _, _, rfl, _, _, rfl, rfl, ?_⟩
      refine ⟨_, rfl, .inl ⟨rfl, _, SqL.of hg⟩, _, rfl, _, rfl, _, rfl, _, rfl, _, rfl, x, rfl, xl, lo, _, _, rfl, rfl, hg, few_lt2 (by unfold texs; rw [List.length_map]; omega), ?_⟩
      refine ⟨_, rfl, .inl ⟨rfl, _, SqL.of upd_same⟩, _, rfl, lo, _, _, rfl, rfl, upd_same, few_lt2 (by unfold texs; rw [List.length_append, List.length_map, List.length_singleton]; omega), ?_⟩
      rw [upd_twice3]
      refine ⟨_, rfl, _, _, _, _, r.2.1, got ++ [cutS x (some (e : Int)) (some (r.1 : Int))] ++ [r.2.2], rfl, fun b o h2 => ?_, ?_, ?_, ?_, ?_⟩
      · rw [upd_ne (ne_of_none h2 hlo)]
        exact s2 _ _ h2
      · rw [upd_same]
        unfold texs
        rw [List.map_append, List.map_append]
        rfl
      · rw [List.length_append, List.length_append, gl]
        simp only [List.length_singleton]
        omega
      · have := cutS_length x (some (e : Int)) (some (r.1 : Int))
        simp only [List.map_append, List.map_cons, List.map_nil, List.sum_append, List.sum_cons, List.sum_nil]
        omega
      · rw [join_snoc, join_snoc]
        exact ge
    · rintro σ H2 ⟨o4, o5, o6, o7, e, got, rfl, s2, hg, gl, gs, ge⟩
      rw [List.drop_of_length_le (by omega), putH_nil] at ge
      refine ⟨_, rfl, .inl ⟨rfl, _, SqL.of hg⟩, _, rfl, _, rfl, _, rfl, x, rfl, xl, lo, _, _, rfl, rfl, hg, few_lt2 (by unfold texs; rw [List.length_map]; omega), ?_⟩
      have cl := cutS_length x (some (e : Int)) none
      refine ⟨⟨_, rfl⟩, _, rfl, "", lo, got ++ [cutS x (some (e : Int)) none], rfl, rfl, .inl (SqL.of ?_), ?_, ?_⟩
      · rw [upd_same]
        unfold texs
        rw [List.map_append]
        rfl
      · have e0 : (Str.ofString "").length = 0 := by decide +kernel
        rw [e0]
        simp only [List.map_append, List.map_cons, List.map_nil, List.sum_append, List.sum_cons, List.sum_nil]
        omega
      · rw [join_snoc, ← ge]
        refine k _ fun b o h2 => ?_
        rw [upd_ne (ne_of_none h2 hlo)]
        exact s2 _ _ h2

end
end Vk
set_option Elab.async false
set_option maxRecDepth 100000
set_option linter.all false
set_option maxHeartbeats 4000000
namespace Vk
open PySem PySem.Spec PyProof.Rows L2
section
variable {P : Program} {w : World} {K : PySem.W.Frag} {mg : Str → Option Value} {base : Heap}
abbrev Ltr (x : Str) : Prop := ∀ c ∈ x.cps.toList, c ∈ letS.cps.toList
theorem lt_ok {x : Str} (h : Ltr x) : PyData.strOk x = true := ok_letters h
theorem lt_word {z x : Str} {a b : Nat} (fz : Few z) (w : Word z a b x) : Ltr x := fun c hc => fz.2.2 c (w.2.2 c hc)
theorem lt_one {z : Str} {c : Nat} (fz : Few z) (h : c ∈ z.cps.toList) : Ltr (⟨#[c]⟩ : Str) := fun d hd => by
  have e : d ∈ [c] := hd
  rw [List.mem_singleton.mp e]
  exact fz.2.2 c h
theorem cutS_lt {x : Str} (h : Ltr x) (a b : Option Int) : Ltr (cutS x a b) := fun c hc => by
  have hc2 : c ∈ (List.toArray ((x.cps.toList.drop (HT.sIx x.length 0 a)).take (HT.sIx x.length x.length b - HT.sIx x.length 0 a))).toList := hc
  rw [List.toList_toArray] at hc2
  exact h c (List.mem_of_mem_drop (List.mem_of_mem_take hc2))
theorem lt_more {z y : Str} (h1 : Ltr z) (h2 : Ltr y) : Ltr (z ++ y) := fun c hc => by
  rw [more_list] at hc
  rcases List.mem_append.mp hc with h | h
  · exact h1 c h
  · exact h2 c h
theorem lt_none : Ltr "" := by decide +kernel
theorem lt_isT {z : Str} (h : Ltr z) : isT (.str z) = true := by
  rw [isT_all]
  exact List.all_eq_true.mpr fun c hc => by simpa using h c hc
abbrev s_ldraw : Stmt := top 21
theorem sc_ldraw : FnScope ["_law_pen_here", "_law_many", "_law_digit", "_law_turn", "_law_cell", "_law_primes", "_law_prime", "_law_drawn"] ["_law_pen_here", "_law_many"] (defScope s_ldraw) := ⟨rfl, rfl, rfl, by decide +kernel, rfl, by decide +kernel, by decide +kernel⟩
theorem b_ldraw {f : Addr} {fd : FuncData} (F : Fun K "_law_draw" "_law_draw" s_ldraw f fd) (T : Txt mg) : FnG P w K mg base CX0 1 f fd ["_law_pen_here", "_law_many"] spDraw := by
  refine okG0 F sc_ldraw (fun vs H Q E h => ?_) (fun cdv A outer s H vs Q E hg hr h => ?_)
  · obtain ⟨p, c, m, T0, rfl, _⟩ := h
    rfl
  · have hu := hu_of hr
    have hu64 := hr.units
    obtain ⟨p, c, m, T0, rfl, m0, m1, ⟨ns, t, l, hp, hc, hn, t0, tT, l0⟩, hT, k⟩ := h
    have ncp : c ≠ p := ne_of hc hp (by intro z; cases z)
    have lenns : (ns.map V.int).length = ns.length := List.length_map _
    refine ⟨_, (pss_cons (ps_if (pt_cmpR op_gt (pe_dget hu (pv 0) pe_str (fun _ _ => rfl)) pe_int (nomark _)) (pss_cons (ps_set (i := 2) sc_ldraw.nd rfl (Or.inl rfl) (pe_op op_mod (pe_callTy call_int1 (by rfl) T.int (by decide +kernel) (pa_cons (pe_dget hu (pv 0) pe_str (fun _ _ => rfl)) pa_nil)) (pv 1)))
      (pss_cons (ps_dput hu (pv 0) pe_str (pe_op op_fdiv (pe_dget hu (pv 0) pe_str (fun _ _ => rfl)) (pv 1)) rfl)
      (pss_one (ps_ret (pv 2))))) pss_nil)
      (pss_cons (ps_set (i := 3) sc_ldraw.nd rfl (Or.inl rfl) (pe_dget hu (pv 0) pe_str (fun _ _ => rfl)))
      (pss_cons (ps_dput hu (pv 0) pe_str (pe_op op_add (pv 3) pe_int) rfl)
      (pss_cons (ps_set (i := 4) sc_ldraw.nd rfl (Or.inl rfl) (pe_op op_add (pe_op op_mul pe_int (pv 3)) pe_int))
      (C8.pss_cut (ps_if (pt_cmpR (op_neD hu64) (pe_dget hu (pv 0) pe_str (fun _ _ => rfl)) (pe_lst pa_nil) (nomark _)) (pss_one (ps_set (i := 4) sc_ldraw.nd rfl (Or.inl rfl) (pe_ix ix_seq (pe_dget hu (pv 0) pe_str (fun _ _ => rfl)) (pe_op op_mod (pe_callTy call_int1 (by rfl) T.int (by decide +kernel) (pa_cons (pv 3) pa_nil)) (pe_callB call_len (by rfl) T.len (by decide +kernel) (pa_cons (pe_dget hu (pv 0) pe_str (fun _ _ => rfl)) pa_nil))) (fun _ _ => rfl)))) pss_nil)
      (C8.pss_cut (ps_if (PW.pt (pw_and (pt_cmpR op_lt (pv 3) (pe_callB call_len (by rfl) T.len (by decide +kernel) (pa_cons (pe_dget hu (pv 0) pe_str (fun _ _ => rfl)) pa_nil)) (nomark _)) (pw_and1 (pt_cmpR op_ge (pe_callB call_abs (by rfl) T.abs (by decide +kernel) (pa_cons (pv 4) pa_nil)) (pe_op op_pow pe_int pe_int) (nomark _))))) (pss_cons (ps_dput hu (pv 0) pe_str (pe_op op_fdiv (pe_op op_sub (pe_callB call_abs (by rfl) T.abs (by decide +kernel) (pa_cons (pv 4) pa_nil)) (pe_op op_pow pe_int pe_int)) (pv 1)) rfl)
      (pss_one (ps_ret (pe_op op_mod (pe_op op_sub (pe_callB call_abs (by rfl) T.abs (by decide +kernel) (pa_cons (pv 4) pa_nil)) (pe_op op_pow pe_int pe_int)) (pv 1))))) pss_nil)
      (pss_cons (ps_set (i := 5) sc_ldraw.nd rfl (Or.inl rfl) (pe_lst (pa_cons pe_int (pa_cons pe_int (pa_cons pe_int (pa_cons pe_int (pa_cons pe_int pa_nil)))))))
      (pss_cons (ps_set (i := 6) sc_ldraw.nd rfl (Or.inl rfl) (pe_ix ix_seq (pv 5) (pe_op op_mod (pe_callTy call_int1 (by rfl) T.int (by decide +kernel) (pa_cons (pv 3) pa_nil)) pe_int) (fun _ _ => rfl)))
      (pss_cons (ps_set (i := 7) sc_ldraw.nd rfl (Or.inl rfl) (pe_op op_mod (pe_callTy call_int1 (by rfl) T.int (by decide +kernel) (pa_cons (pe_op op_add (pe_op op_add (pe_op op_mul (pe_op op_mod (pe_callTy call_int1 (by rfl) T.int (by decide +kernel) (pa_cons (pv 4) pa_nil)) (pv 6)) pe_int) (pe_op op_mul (pv 3) (pe_op op_add (pe_op op_mul pe_int (pv 3)) pe_int))) pe_int) pa_nil)) (pv 6)))
      (pss_cons (ps_set (i := 7) sc_ldraw.nd rfl (Or.inl rfl) (pe_op op_mod (pe_callTy call_int1 (by rfl) T.int (by decide +kernel) (pa_cons (pe_op op_mul (pv 7) (pe_op op_add (pv 7) pe_int)) pa_nil)) (pe_ix ix_seq (pv 5) (pe_op op_mod (pe_callTy call_int1 (by rfl) T.int (by decide +kernel) (pa_cons (pe_op op_add (pv 3) pe_int) pa_nil)) pe_int) (fun _ _ => rfl))))
      (pss_one (ps_ret (pe_op op_mod (pe_callTy call_int1 (by rfl) T.int (by decide +kernel) (pa_cons (pe_op op_fdiv (pe_op op_mod (pe_callTy call_int1 (by rfl) T.int (by decide +kernel) (pa_cons (pe_op op_add (pe_op op_add (pe_op op_mul (pv 7) (pv 7)) (pe_op op_mul pe_int (pv 7))) (pv 3)) pa_nil)) pe_int) pe_int) pa_nil)) (pv 1)))))))))))))), ?_⟩
    refine ⟨_, rfl, p, _, rfl, get_left hp, _, _, rfl, rfl, _, rfl, ?_⟩
    refine ite2 (fun hl => ?_) (fun hl => ?_)
    · refine ⟨_, rfl, p, _, rfl, get_left hp, .inl ⟨_, rfl, ?_⟩⟩
      refine ⟨_, rfl, _, _, rfl, rfl, m0, ?_⟩
      refine ⟨_, rfl, p, _, rfl, get_left hp, _, rfl, _, _, rfl, rfl, ⟨by omega, by omega⟩, ?_⟩
      refine ⟨_, rfl, p, _, rfl, put_left hp, _, rfl, ?_⟩
      refine k _ _ (Int.emod_nonneg _ (by omega)) (Int.emod_lt_of_pos _ m0) ⟨ns, t, _, upd_same, (upd_ne ncp).trans hc, hn, t0, by omega, Int.ediv_nonneg l0 (by omega)⟩ Ext.at
    · refine ⟨_, rfl, p, _, rfl, get_turn hp, ?_⟩
      refine ⟨_, rfl, _, _, rfl, rfl, _, rfl, p, _, rfl, put_turn hp, ?_⟩
      generalize hH1 : upd H p (.dK (penL c (t + 1) l)) = H1
      have hp1 : H1 p = some (.dK (penL c (t + 1) l)) := by rw [← hH1]; exact upd_same
      have hc1 : H1 c = some (.lst (ns.map V.int)) := by rw [← hH1]; exact (upd_ne ncp).trans hc
      have e1 : Ext p H H1 := by rw [← hH1]; exact Ext.at
      refine ⟨_, rfl, _, _, rfl, rfl, .inl ⟨by decide, by decide⟩, _, _, rfl, rfl, ?_⟩
      refine ⟨fun σ' H2 => ∃ z : Int, σ' = [some (.ref p), some (.int m), none, some (.int t), some (.int z), none, none, none] ∧ H2 p = some (.dK (penL c (t + 1) l)) ∧ H2 c = some (.lst (ns.map V.int)) ∧ Ext p H H2, ?_, ?_⟩
      · refine ⟨_, rfl, p, _, rfl, get_cells hp1, by decide, fun b hb => ?_⟩
        have hp2 := up_new (u := .lst []) hp1 hb
        have hc2 := up_new (u := .lst []) hc1 hb
        refine ⟨.list (ns.map .int), .list [], .lst (SqL.of hc2) (ints_dp ns), .lst (SqL.of upd_same) .nil, ints_shaped ns, by decide +kernel, _, rfl, ?_⟩
        rw [ints_ne_nil]
        refine ite2 (fun hne => ?_) (fun _ => ?_)
        · have hpos : 0 < ns.length := by
            cases ns with
            | nil => simp at hne
            | cons a r => exact Nat.succ_pos _
          refine ⟨_, rfl, p, _, rfl, get_cells hp2, _, rfl, .inl ⟨_, rfl, _, rfl, p, _, rfl, get_cells hp2, _, _, rfl, .inl ⟨_, SqL.of hc2, rfl⟩, _, _, rfl, rfl, ?_, ?_⟩⟩
          · rw [lenns]; omega
          · obtain ⟨v, hv, hm⟩ := at_mod (xs := ns.map V.int) (i := t % ((ns.map V.int).length : Int)) (Int.emod_nonneg _ (by rw [lenns]; omega)) (Int.emod_lt_of_pos _ (by rw [lenns]; omega))
            obtain ⟨z, _, rfl⟩ := List.mem_map.mp hm
            refine .inl ⟨_, _, _, _, rfl, rfl, SqL.of hc2, hv, z, rfl, hp2, hc2, e1.set (e1.none_of ?_ hb)⟩
            exact (ne_of_none hp1 hb).symm
        · exact ⟨_, rfl, hp2, hc2, e1.set (e1.none_of (ne_of_none hp1 hb).symm hb)⟩
      · rintro σ2 H2 ⟨z, rfl, hp2, hc2, e2⟩
        refine ⟨fun σ' H3 => σ' = [some (.ref p), some (.int m), none, some (.int t), some (.int z), none, none, none] ∧ H3 = H2, ?_, ?_⟩
        · refine ⟨_, rfl, _, rfl, p, _, rfl, get_cells hp2, _, _, rfl, .inl ⟨_, SqL.of hc2, rfl⟩, _, _, rfl, rfl, _, rfl, ?_⟩
          refine ite2 (fun _ => ?_) (fun _ => ?_)
          · refine ⟨_, rfl, _, rfl, _, _, rfl, rfl, ⟨by decide, by decide, by decide⟩, _, _, rfl, rfl, _, rfl, ?_⟩
            refine ite2 (fun hbig => ?_) (fun _ => ?_)
            · have big := of_decide_eq_true hbig
              refine ⟨_, rfl, _, rfl, _, _, rfl, rfl, ⟨by decide, by decide, by decide⟩, _, _, rfl, rfl, _, rfl, _, _, rfl, rfl, ⟨by omega, by omega⟩, ?_⟩
              refine ⟨_, rfl, p, _, rfl, put_left hp2, ?_⟩
              refine ⟨_, rfl, _, rfl, _, _, rfl, rfl, ⟨by decide, by decide, by decide⟩, _, _, rfl, rfl, _, rfl, _, _, rfl, rfl, m0, ?_⟩
              refine k _ _ (Int.emod_nonneg _ (by omega)) (Int.emod_lt_of_pos _ m0) ⟨ns, t + 1, _, upd_same, (upd_ne ncp).trans hc2, hn, by omega, by omega, Int.ediv_nonneg (by omega) (by omega)⟩ (e2.trans Ext.at)
            · exact ⟨rfl, rfl⟩
          · exact ⟨rfl, rfl⟩
        · rintro σ3 H3 ⟨rfl, rfl⟩
          refine ⟨by decide, fun q hq => ?_⟩
          have hp3 := up_new (u := .lst (primes.map V.int)) hp2 hq
          have hc3 := up_new (u := .lst (primes.map V.int)) hc2 hq
          have e3 : Ext p H (upd H3 q (.lst (primes.map V.int))) := e2.set (e2.none_of (ne_of_none hp2 hq).symm hq)
          have hq3 : (upd H3 q (.lst (primes.map V.int))) q = some (.lst (primes.map V.int)) := upd_same
          have pick : ∀ i : Int, 0 ≤ i → i < 5 → ∃ z : Int, atI (primes.map V.int) i = some (.int z) ∧ 0 < z ∧ z < 2147483648 := fun i h0 h5 => by
            obtain ⟨v, hv, hm⟩ := at_mod (xs := primes.map V.int) h0 h5
            obtain ⟨z, rfl, hz⟩ := primes_in hm
            exact ⟨z, hv, hz⟩
          obtain ⟨a1, ha1, a1p, a1b⟩ := pick (t % 5) (Int.emod_nonneg _ (by decide)) (Int.emod_lt_of_pos _ (by decide))
          obtain ⟨a2, ha2, a2p, a2b⟩ := pick ((t + 2) % 5) (Int.emod_nonneg _ (by decide)) (Int.emod_lt_of_pos _ (by decide))
          refine ⟨_, rfl, _, rfl, .inl ⟨_, rfl, _, _, rfl, rfl, (by show (0 : Int) < 5; decide), .inl ⟨_, _, _, _, rfl, rfl, SqL.of hq3, ha1, ?_⟩⟩⟩
          have b1 := Int.emod_nonneg z (show a1 ≠ 0 by omega)
          have b2 := Int.emod_lt_of_pos z a1p
          refine ⟨_, rfl, .inl ⟨_, rfl, _, rfl, _, _, rfl, rfl, a1p, _, _, rfl, rfl, .inr ⟨by decide, by decide⟩, ?_⟩⟩
          refine ⟨_, rfl, _, rfl, _, _, rfl, rfl, .inl ⟨by decide, by decide⟩, _, _, rfl, rfl, _, _, rfl, rfl, .inl ⟨by omega, by omega⟩, _, _, rfl, rfl, _, _, rfl, rfl, .inl ⟨_, rfl, _, rfl, _, _, rfl, rfl, a1p, ?_⟩⟩
          have d1 := Int.emod_nonneg (z % a1 * 39373 + t * (30011 * t + 8117) + 23) (show a1 ≠ 0 by omega)
          have d2 := Int.emod_lt_of_pos (z % a1 * 39373 + t * (30011 * t + 8117) + 23) a1p
          refine ⟨_, rfl, _, rfl, _, _, rfl, rfl, _, _, rfl, rfl, .inl ⟨by omega, by omega⟩, .inl ⟨_, rfl, _, rfl, _, rfl, _, _, rfl, rfl, .inl ⟨_, rfl, _, _, rfl, rfl, (by show (0 : Int) < 5; decide), .inl ⟨_, _, _, _, rfl, rfl, SqL.of hq3, ha2, _, _, rfl, rfl, a2p, ?_⟩⟩⟩⟩
          have f1 := Int.emod_nonneg (((z % a1 * 39373 + t * (30011 * t + 8117) + 23) % a1) * (((z % a1 * 39373 + t * (30011 * t + 8117) + 23) % a1) + 69621)) (show a2 ≠ 0 by omega)
          have f2 := Int.emod_lt_of_pos (((z % a1 * 39373 + t * (30011 * t + 8117) + 23) % a1) * (((z % a1 * 39373 + t * (30011 * t + 8117) + 23) % a1) + 69621)) a2p
          refine ⟨_, rfl, _, rfl, _, _, rfl, rfl, .inl ⟨by omega, by omega⟩, _, rfl, _, _, rfl, rfl, .inl ⟨by decide, by decide⟩, _, _, rfl, rfl, _, rfl, _, _, rfl, rfl, .inl ⟨_, rfl, _, _, rfl, rfl, (by show (0 : Int) < 2147483549; decide), _, _, rfl, rfl, ⟨by decide, by decide⟩, .inl ⟨_, rfl, _, rfl, _, _, rfl, rfl, m0, ?_⟩⟩⟩
          exact k _ _ (Int.emod_nonneg _ (by omega)) (Int.emod_lt_of_pos _ m0) ⟨ns, t + 1, l, hp3, hc3, hn, by omega, by omega, l0⟩ e3

abbrev s_lpen : Stmt := top 20
theorem sc_lpen : FnScope ["_law_script"] ["_law_script"] (defScope s_lpen) := ⟨rfl, rfl, rfl, by decide +kernel, rfl, by decide +kernel, by decide +kernel⟩
theorem b_lpen {f : Addr} {fd : FuncData} (F : Fun K "_law_pen" "_law_pen" s_lpen f fd) (T : Txt mg) : FnG P w K mg base CX0 1 f fd ["_law_script"] (spPen K) := by
  refine okG0 F sc_lpen (fun vs H Q E h => ?_) (fun cdv A outer s H vs Q E hg hr h => ?_)
  · obtain ⟨a, ns, rfl, _⟩ := h
    rfl
  · have hu := hu_of hr
    have hu64 := hr.units
    obtain ⟨a, ns, rfl, hs, k⟩ := h
    refine ⟨_, (pss_one (ps_ret (pe_disp (pps_cons pe_str (pe_callTy call_list_of (by rfl) T.list (by decide +kernel) (pa_cons (pe_slice sl_list (pv 0) po_none (po_some pe_int)) pa_nil)) (pps_cons pe_str pe_int (pps_cons pe_str pe_int pps_nil))) (by rfl) (by rfl) (fun z => by cases z) (by decide)))), ?_⟩
    intro p hp
    obtain ⟨ms, hms, hml⟩ := cut63 ns
    refine ⟨_, rfl, 63, rfl, a, _, rfl, (same_new hp).seq hs, fun q hq => ?_⟩
    refine ⟨q, _, rfl, .inl (SqL.of upd_same), fun c hc => ?_⟩
    rw [hms] at hc ⊢
    have nqp : p ≠ q := fun e => by rw [← e, upd_same] at hq; cases hq
    have ncp : p ≠ c := fun e => by rw [← e, upd_ne nqp, upd_same] at hc; cases hc
    have hp2 : (upd (upd (upd H p (.dK [])) q (.lst (ms.map V.int))) c (.lst (ms.map V.int))) p = some (.dK []) := by rw [upd_ne ncp, upd_ne nqp, upd_same]
    refine ⟨hp2, penL c 0 0, rfl, (by show 3 ≤ 15; decide), ?_⟩
    rw [pen_made]
    refine k p c _ hp ⟨ms, 0, 0, upd_same, by rw [upd_ne ncp.symm, upd_same], hml, Int.le_refl _, Int.le_refl _, Int.le_refl _⟩ fun b o e => ?_
    rw [upd_ne (ne_of_none e hp), upd_ne ?_, upd_ne ?_, upd_ne (ne_of_none e hp)]
    · exact e
    · rintro rfl
      rw [upd_ne (ne_of_none e hp)] at hq
      rw [hq] at e
      cases e
    · rintro rfl
      by_cases ebq : b = q
      · subst ebq
        rw [upd_ne nqp.symm] at hq
        rw [hq] at e
        cases e
      · rw [upd_ne ebq, upd_ne (ne_of_none e hp)] at hc
        rw [hc] at e
        cases e

abbrev s_lpick : Stmt := top 22
theorem sc_lpick : FnScope ["_law_pen_here", "_law_options"] ["_law_pen_here", "_law_options"] (defScope s_lpick) := ⟨rfl, rfl, rfl, by decide +kernel, rfl, by decide +kernel, by decide +kernel⟩
theorem b_lpick {f : Addr} {fd : FuncData} (F : Fun K "_law_pick" "_law_pick" s_lpick f fd) (T : Txt mg) (c_ldraw : CalG P w K mg base CX0 1 "_law_draw" spDraw) : FnG P w K mg base CX0 2 f fd ["_law_pen_here", "_law_options"] (spPick K) := by
  refine okG0 F sc_lpick (fun vs H Q E h => ?_) (fun cdv A outer s H vs Q E hg hr h => ?_)
  · obtain ⟨p, c, o, xs, T0, rfl, _⟩ := h
    rfl
  · have hu := hu_of hr
    have hu64 := hr.units
    obtain ⟨p, c, o, xs, T0, rfl, ho, hne, hlen, hpen, hT, k⟩ := h
    have hpos : 0 < xs.length := List.length_pos_iff.mpr hne
    have hr1 : Room 1 _ := hr
    refine ⟨_, (pss_one (ps_ret (pe_ix ix_seq (pv 1) (pe_cG c_ldraw hg hr (by decide) pass0 (pa_cons (pv 0) (pa_cons (pe_callB call_len (by rfl) T.len (by decide +kernel) (pa_cons (pv 1) pa_nil)) pa_nil))) (fun _ _ => rfl)))), ?_⟩

    cases ho with
    | str z hz =>
      have e := one_len z
      have hz24 : z.length ≤ sizeLine := Nat.le_trans hz (by decide)
      refine ⟨_, rfl, _, rfl, _, rfl, _, _, rfl, ⟨hz24, rfl⟩, p, c, _, T0, rfl, by omega, by omega, hpen, hT, fun d H' d0 d1 hpen' x => ?_⟩
      obtain ⟨e1, hc, hm⟩ := at_mod (xs := z.cps.toList) d0 (by rw [show (z.cps.toList.length : Int) = (z.length : Int) from congrArg Nat.cast Array.length_toList]; exact d1)
      exact .inr (.inr ⟨z, d, e1, rfl, rfl, hz24, hc, k _ _ (List.mem_map_of_mem (f := OneS) hm) hpen' x⟩)
    | lst hs =>
      refine ⟨_, rfl, _, rfl, _, rfl, _, _, rfl, .inl ⟨_, hs, rfl⟩, p, c, _, T0, rfl, by omega, by omega, hpen, hT, fun d H' d0 d1 hpen' x => ?_⟩
      obtain ⟨v, hv, hm⟩ := at_mod d0 d1
      exact .inl ⟨_, xs, d, v, rfl, rfl, hpen.keepL x hs, hv, k _ _ hm hpen' x⟩
    | tup hs =>
      refine ⟨_, rfl, _, rfl, _, rfl, _, _, rfl, .inr ⟨_, hs, rfl⟩, p, c, _, T0, rfl, by omega, by omega, hpen, hT, fun d H' d0 d1 hpen' x => ?_⟩
      obtain ⟨v, hv, hm⟩ := at_mod d0 d1
      exact .inr (.inl ⟨_, xs, d, v, rfl, rfl, hpen.keepT x hs, hv, k _ _ hm hpen' x⟩)

abbrev s_lfew : Stmt := top 26
theorem sc_lfew : FnScope ["_law_pen_here", "_law_some", "_law_rare", "_law_k"] ["_law_pen_here"] (defScope s_lfew) := ⟨rfl, rfl, rfl, by decide +kernel, rfl, by decide +kernel, by decide +kernel⟩
theorem b_lfew {f : Addr} {fd : FuncData} (F : Fun K "_law_few" "_law_few" s_lfew f fd) (T : Txt mg) (c_lpick : CalG P w K mg base CX0 2 "_law_pick" (spPick K)) (t_signs : FnT P w K mg base 1 "_law_signs" letS) : FnG P w K mg base CX0 3 f fd ["_law_pen_here"] spFew := by
  refine okG0 F sc_lfew (fun vs H Q E h => ?_) (fun cdv A outer s H vs Q E hg hr h => ?_)
  · obtain ⟨p, pc, T0, rfl, _⟩ := h
    rfl
  · have hu := hu_of hr
    have hu64 := hr.units
    obtain ⟨p, pc, T0, rfl, hpen, hT, k⟩ := h
    have hr2 : Room 2 _ := hr
    refine ⟨_, (pss_cons (ps_set (i := 1) sc_lfew.nd rfl (Or.inr rfl) (pe_lst (pa_cons (pe_cG c_lpick hg hr (by decide) pass0 (pa_cons (pv 0) (pa_cons (pe_replT t_signs hr (by decide) (by decide +kernel) (by decide +kernel)) pa_nil))) (pa_cons (pe_cG c_lpick hg hr (by decide) pass0 (pa_cons (pv 0) (pa_cons pe_str pa_nil))) (pa_cons (pe_cG c_lpick hg hr (by decide) pass0 (pa_cons (pv 0) (pa_cons pe_str pa_nil))) pa_nil)))))
      (pss_cons (ps_set (i := 2) sc_lfew.nd rfl (Or.inl rfl) (pe_join pe_str (pe_lc (own := [("_law_k", 3)]) (g := gName 3) rfl sc_lfew.nd (pi_range1 rfl T.range (pa_cons pe_int pa_nil)) (blkOk_by (own := [("_law_k", 3)]) (N := ["_law_pen_here", "_law_some", "_law_rare", "_law_k"]) (sc := defScope s_lfew) (by decide +kernel)) (fun _ _ _ _ _ => (pg_name (i := 3) sc_lfew.nd rfl (Or.inl rfl))) (fun _ _ _ _ _ => (pts_one (pt_cmpR (op_notIn_seqK (K := K) rfl) (pe_ix (ix_seqK (K := K) rfl) (pv 1) (pv 3) (fun _ _ => rfl)) (pe_slice (sl_listK (K := K) rfl) (pv 1) po_none (po_some (pv 3))) (by rfl)))) (fun _ _ _ _ _ => (pe_ix (ix_seqK (K := K) rfl) (pv 1) (pv 3) (fun _ _ => rfl))))))
      (pss_one (ps_ret (pe_cG c_lpick hg hr (by decide) pass0 (pa_cons (pv 0) (pa_cons (pe_lst (pa_cons pe_str (pa_cons pe_str (pa_cons pe_str (pa_cons pe_str (pa_cons pe_str (pa_cons pe_str (pa_cons pe_str (pa_cons pe_str (pa_cons pe_str (pa_cons (pv 2) pa_nil))))))))))) pa_nil))))))), ?_⟩
    refine ⟨_, rfl, p, pc, _, _, T0, rfl, .str _ (by rw [noq_len]; decide), opts_ne (by rw [noq_len]; decide), opts_le (by rw [noq_len]; decide), hpen, by omega, fun v1 H1 m1 P1 x1 => ?_⟩
    obtain ⟨c1, rfl, k1⟩ := ones_of m1
    refine ⟨_, rfl, p, pc, _, _, T0 + 1, rfl, .str _ (by decide), opts_ne (by decide), opts_le (by decide), P1, by omega, fun v2 H2 m2 P2 x2 => ?_⟩
    obtain ⟨c2, rfl, k2⟩ := ones_of m2
    refine ⟨_, rfl, p, pc, _, _, T0 + 2, rfl, .str _ (by decide), opts_ne (by decide), opts_le (by decide), P2, by omega, fun v3 H3 m3 P3 x3 => ?_⟩
    obtain ⟨c3, rfl, k3⟩ := ones_of m3
    refine ⟨by show 3 ≤ sizeLine; decide, fun a ha => ?_⟩
    have hin : ∀ c ∈ [c1, c2, c3], c ∈ letS.cps.toList := by
      intro c hc
      simp only [List.mem_cons, List.not_mem_nil, or_false] at hc
      rcases hc with rfl | rfl | rfl
      · exact noq_in k1
      · exact (by decide +kernel : ∀ c ∈ (Str.ofString "yz").cps.toList, c ∈ letS.cps.toList) _ k2
      · exact (by decide +kernel : ∀ c ∈ (Str.ofString "(\n").cps.toList, c ∈ letS.cps.toList) _ k3
    have P4 := P3.new (o := .lst ([c1, c2, c3].map OneS)) ha
    have x4 : Ext p H (upd H3 a (.lst ([c1, c2, c3].map OneS))) := (x1.trans (x2.trans x3)).trans (Ext.new ha)
    have ha4 : (upd H3 a (.lst ([c1, c2, c3].map OneS))) a = some (.lst ([c1, c2, c3].map OneS)) := upd_same
    generalize hxs : ([c1, c2, c3].map OneS : List V) = xs at ha4 P4 x4
    have hxl : xs.length = 3 := by rw [← hxs]; rfl
    have hxf : xs.all flatV = true := by rw [← hxs]; exact ones_flat _
    have hxm : ∀ v ∈ xs, ∃ c, v = OneS c ∧ c ∈ [c1, c2, c3] := by rw [← hxs]; exact fun v hv => one_mem hv
    have ha5 : (upd H3 a (.lst ([c1, c2, c3].map OneS))) = upd H3 a (.lst xs) := by rw [hxs]
    generalize hH4 : upd H3 a (.lst xs) = H4 at ha4 P4 x4 ha5
    refine ⟨⟨_, rfl⟩, ?_⟩
    show (iRng1 (tCons (tC (V.int 3)) tNil)) _ (upd H3 a (.lst ([c1, c2, c3].map OneS))) _
    rw [ha5]
    refine ⟨3, rfl, by decide, by decide, fun D hD => lc_range (lo := 0) (n := 3) (fun i H' => ∃ cs : List Nat, H' D = some (.lst (cs.map OneS)) ∧ cs.length ≤ i ∧ (1 ≤ i → 1 ≤ cs.length) ∧ (∀ c ∈ cs, c ∈ letS.cps.toList) ∧ Same H4 H') ?_ ?_ ?_⟩
    · exact ⟨[], upd_same, Nat.le_refl _, fun h => by omega, fun c hc => absurd hc List.not_mem_nil, same_new hD⟩
    · rintro i H5 hi ⟨cs, hDc, hcl, hc1, hcm, sm⟩
      obtain ⟨v, hv, hvm⟩ := at_mod (xs := xs) (i := 0 + (i : Int)) (by omega) (by rw [hxl]; omega)
      obtain ⟨c, rfl, hcc⟩ := hxm v hvm
      have sa : SqL K H5 a xs := sm.seq (SqL.of ha4)
      refine ⟨rfl, _, rfl, _, rfl, .inl ⟨a, xs, _, _, rfl, rfl, sa, hv, _, rfl, _, rfl, _, rfl, a, xs, rfl, sa, fun q hq => ⟨q, _, rfl, .inl (SqL.of upd_same), rfl, cutV_all hxf, _, rfl, ?_⟩⟩⟩
      have sq : Same H4 (upd H5 q (.lst (cutV xs none (some (0 + (i : Int)))))) := sm.trans (same_new hq)
      have dq := up_new (u := .lst (cutV xs none (some (0 + (i : Int))))) hDc hq
      refine ite2 (fun hb => ?_) (fun hb => ?_)
      · refine ⟨_, rfl, _, rfl, .inl ⟨a, xs, _, _, rfl, rfl, sq.seq (SqL.of ha4), hv, _, dq, by rw [List.length_map]; exact Nat.lt_of_le_of_lt hcl (Nat.lt_trans hi (by decide)), cs ++ [c], ?_, ?_, fun _ => ?_, ?_, ?_⟩⟩
        · rw [upd_same, List.map_append]
          rfl
        · rw [List.length_append]; exact Nat.add_le_add_right hcl 1
        · rw [List.length_append]; exact Nat.le_add_left _ _
        · intro d hd
          rcases List.mem_append.mp hd with hd | hd
          · exact hcm d hd
          · rw [List.mem_singleton.mp hd]
            exact hin c hcc
        · intro b o e
          by_cases hbD : b = D
          · rw [hbD, hD] at e
            cases e
          · exact (upd_ne hbD).trans (sq b o e)
      · refine ⟨cs, dq, Nat.le_succ_of_le hcl, fun _ => ?_, hcm, sq⟩
        by_cases h0 : i = 0
        · subst h0
          refine absurd ?_ hb
          show (if true = true then !inV (OneS c) (cutV xs none (some (0 + ((0 : Nat) : Int)))) else inV (OneS c) (cutV xs none (some (0 + ((0 : Nat) : Int))))) = true
          rw [show (0 : Int) + ((0 : Nat) : Int) = 0 from rfl, cutV_zero]
          rfl
        · exact hc1 (by omega)
    · rintro H5 ⟨cs, hDc, hcl, hc1, hcm, sm⟩
      refine ⟨_, D, cs.map fun c => ⟨#[c]⟩, rfl, rfl, .inl (SqL.of (by rw [ones_map]; exact hDc)), ?_, ?_⟩
      · rw [ones_len]
        show cs.length + _ * 0 ≤ _
        omega
      · rw [join_ones]
        have fz : Few ⟨cs.toArray⟩ := few_ones (hc1 (by decide)) hcl hcm
        have x5 : Ext p H H5 := x4.trans (Ext.same sm)
        have P5 := P4.stay sm
        refine ⟨_, rfl, _, rfl, by show 10 ≤ sizeLine; decide, fun q hq => ?_⟩
        refine ⟨p, pc, _, _, T0 + 3, rfl, .lst (SqL.of upd_same), by simp, by show 10 ≤ 1000; decide, P5.new hq, by omega, fun v H6 hm P6 x6 => ?_⟩
        have fin : ∃ z, v = .str z ∧ Few z := by
          simp only [List.mem_cons, List.not_mem_nil, or_false] at hm
          rcases hm with rfl | rfl | rfl | rfl | rfl | rfl | rfl | rfl | rfl | rfl
          all_goals first
            | exact ⟨_, rfl, fz⟩
            | exact ⟨_, rfl, few_of (by decide +kernel)⟩
        obtain ⟨z, rfl, hz⟩ := fin
        exact k z H6 hz P6 (x5.trans ((Ext.new hq).trans x6))

abbrev s_lword : Stmt := top 27
theorem sc_lword : FnScope ["_law_pen_here", "_law_signs_here", "_law_least", "_law_most_letters", "_law_many", "_law_k"] ["_law_pen_here", "_law_signs_here", "_law_least", "_law_most_letters"] (defScope s_lword) := ⟨rfl, rfl, rfl, by decide +kernel, rfl, by decide +kernel, by decide +kernel⟩
theorem b_lword {f : Addr} {fd : FuncData} (F : Fun K "_law_word" "_law_word" s_lword f fd) (T : Txt mg) (c_ldraw : CalG P w K mg base CX0 1 "_law_draw" spDraw) (c_lpick : CalG P w K mg base CX0 2 "_law_pick" (spPick K)) : FnG P w K mg base CX0 3 f fd ["_law_pen_here", "_law_signs_here", "_law_least", "_law_most_letters"] spWord := by
  refine okG0 F sc_lword (fun vs H Q E h => ?_) (fun cdv A outer s H vs Q E hg hr h => ?_)
  · obtain ⟨p, pc, z, a, b, T0, rfl, _⟩ := h
    rfl
  · have hu := hu_of hr
    have hu64 := hr.units
    obtain ⟨p, pc, z, a, b, T0, rfl, hab, hb, hz1, hz, hpen, hT, k⟩ := h
    have hr2 : Room 2 _ := hr
    refine ⟨_, (pss_cons (ps_set (i := 4) sc_lword.nd rfl (Or.inl rfl) (pe_op op_add (pv 2) (pe_cG c_ldraw hg hr (by decide) pass0 (pa_cons (pv 0) (pa_cons (pe_op op_add (pe_op op_sub (pv 3) (pv 2)) pe_int) pa_nil)))))
      (pss_one (ps_ret (pe_join pe_str (pe_lc (own := [("_law_k", 5)]) (g := gName 5) (tt := tYes) rfl sc_lword.nd (pi_range1 rfl T.range (pa_cons (pv 4) pa_nil)) (blkOk_by (own := [("_law_k", 5)]) (N := ["_law_pen_here", "_law_signs_here", "_law_least", "_law_most_letters", "_law_many", "_law_k"]) (sc := defScope s_lword) (by decide +kernel)) (fun _ _ _ _ _ => (pg_name (i := 5) sc_lword.nd rfl (Or.inl rfl))) (fun _ _ _ _ _ => pts_nil) (fun _ _ _ _ _ => (pe_cG c_lpick hg hr (by decide) pass0 (pa_cons (pv 0) (pa_cons (pv 1) pa_nil))))))))), ?_⟩
    refine ⟨_, rfl, _, rfl, _, rfl, _, rfl, _, _, rfl, rfl, _, _, rfl, rfl, p, pc, _, T0, rfl, by omega, by omega, hpen, by omega, fun d H1 d0 d1 P1 x1 => ?_⟩
    refine ⟨_, _, rfl, rfl, ⟨_, rfl⟩, ?_⟩
    obtain ⟨n, rfl⟩ : ∃ n : Nat, d = (n : Int) := ⟨d.toNat, by omega⟩
    refine ⟨_, rfl, _, rfl, by omega, by omega, fun D hD => ?_⟩
    have en : ((a : Int) + (n : Int)).toNat = a + n := by omega
    have hn : a + n ≤ b := by omega
    obtain ⟨nDp, nDc⟩ := P1.apart hD
    refine lc_range (lo := 0) (n := ((a : Int) + (n : Int)).toNat) (fun i H' => ∃ cs : List Nat, H' D = some (.lst (cs.map OneS)) ∧ cs.length = i ∧ (∀ c ∈ cs, c ∈ z.cps.toList) ∧ Pen H' p pc (T0 + 1 + i) ∧ Ext p H H') ?_ ?_ ?_
    · refine ⟨[], upd_same, rfl, fun c hc => absurd hc List.not_mem_nil, P1.new hD, x1.trans (Ext.new hD)⟩
    · rintro i H2 hi ⟨cs, hDc, hcl, hcm, P2, x2⟩
      rw [en] at hi
      refine ⟨rfl, _, rfl, _, rfl, p, pc, _, _, T0 + 1 + i, rfl, .str z hz, opts_ne hz1, opts_le hz, P2, by omega, fun v H3 hm P3 x3 => ?_⟩
      obtain ⟨c, rfl, hc⟩ := ones_of hm
      have d3 := P2.keepI x3 hDc
      refine ⟨_, d3, by rw [List.length_map, hcl]; exact Nat.lt_of_lt_of_le hi (Nat.le_trans hn (Nat.le_trans hb (by decide))), cs ++ [c], ?_, by rw [List.length_append, hcl]; rfl, ?_, ?_, ?_⟩
      · rw [upd_same, List.map_append]
        rfl
      · intro e he
        rcases List.mem_append.mp he with he | he
        · exact hcm e he
        · rw [List.mem_singleton.mp he]
          exact hc
      · exact P3.set nDp nDc
      · exact fun b o e hb => by
          rw [upd_ne (fun q => by rw [q, x1.none_of nDp hD] at e; cases e)]
          exact x3 b o (x2 b o e hb) hb
    · rintro H2 ⟨cs, hDc, hcl, hcm, P2, x2⟩
      refine ⟨_, D, cs.map fun c => ⟨#[c]⟩, rfl, rfl, .inl (SqL.of (by rw [ones_map]; exact hDc)), ?_, ?_⟩
      · rw [ones_len]
        show cs.length + _ * 0 ≤ _
        omega
      · rw [join_ones]
        rw [en] at hcl P2
        exact k _ H2 ⟨by show a ≤ cs.toArray.size; rw [List.size_toArray]; omega, by show cs.toArray.size ≤ b; rw [List.size_toArray]; omega, by simpa using hcm⟩ (P2.mono (by omega)) x2

abbrev s_lplaces : Stmt := top 28
theorem sc_lplaces : FnScope ["_law_text_here", "_law_was", "_law_size", "_law_k"] ["_law_text_here", "_law_was"] (defScope s_lplaces) := ⟨rfl, rfl, rfl, by decide +kernel, rfl, by decide +kernel, by decide +kernel⟩
theorem b_lplaces {f : Addr} {fd : FuncData} (F : Fun K "_law_places" "_law_places" s_lplaces f fd) (T : Txt mg) : FnG P w K mg base CX0 1 f fd ["_law_text_here", "_law_was"] (spPlaces K) := by
  refine okG0 F sc_lplaces (fun vs H Q E h => ?_) (fun cdv A outer s H vs Q E hg hr h => ?_)
  · obtain ⟨x, wd, rfl, _⟩ := h
    rfl
  · have hu := hu_of hr
    have hu64 := hr.units
    obtain ⟨x, wd, rfl, hx, hw, k⟩ := h
    refine ⟨_, (pss_cons (ps_set (i := 2) sc_lplaces.nd rfl (Or.inr rfl) (pe_callB call_len (by rfl) T.len (by decide +kernel) (pa_cons (pv 1) pa_nil)))
      (pss_one (ps_ret (pe_lc (own := [("_law_k", 3)]) (g := gName 3) rfl sc_lplaces.nd (pi_range1 rfl T.range (pa_cons (pe_op op_add (pe_op op_sub (pe_callB call_len (by rfl) T.len (by decide +kernel) (pa_cons (pv 0) pa_nil)) (pv 2)) pe_int) pa_nil)) (blkOk_by (own := [("_law_k", 3)]) (N := ["_law_text_here", "_law_was", "_law_size", "_law_k"]) (sc := defScope s_lplaces) (by decide +kernel)) (fun _ _ _ _ _ => (pg_name (i := 3) sc_lplaces.nd rfl (Or.inl rfl))) (fun _ _ _ _ _ => (pts_one (pt_cmpR op_eq (pe_slice sl_str (pv 0) (po_some (pv 3)) (po_some (pe_op op_add (pv 3) (pv 2)))) (pv 1) (nomark _)))) (fun _ _ _ _ _ => (pv 3)))))), ?_⟩
    have hx24 : x.length ≤ sizeLine := Nat.le_trans hx (by decide)
    have hw24 : wd.length ≤ sizeLine := Nat.le_trans hw (by decide)
    refine ⟨_, rfl, _, _, rfl, ⟨hw24, rfl⟩, ?_⟩
    refine ⟨_, rfl, _, _, rfl, ⟨hx24, rfl⟩, _, rfl, _, _, rfl, rfl, _, _, rfl, rfl, _, rfl, by omega, by omega, fun D hD => ?_⟩
    refine lc_range (lo := 0) (n := ((x.length : Int) - (wd.length : Int) + 1).toNat) (fun i H' => H' D = some (.lst ((((List.range i).filter (atB x wd)).map Int.ofNat).map V.int)) ∧ Same H H') ?_ ?_ ?_
    · exact ⟨upd_same, same_new hD⟩
    · rintro i H2 hi ⟨hd, sm⟩
      have hi2 : i + wd.length ≤ x.length := by omega
      refine ⟨rfl, _, rfl, _, rfl, _, rfl, _, rfl, _, rfl, _, _, rfl, rfl, _, rfl, x, rfl, hx24, ?_⟩
      refine ⟨_, rfl, rfl, _, rfl, ?_⟩
      have ec := cut_at x wd i hi2
      rw [show (0 : Int) + (i : Int) = (i : Int) by omega, ec]
      cases hb : atB x wd i with
      | true =>
        refine iteT ?_
        have fl : ((((List.range i).filter (atB x wd)).map Int.ofNat).map V.int).length ≤ i := by
          rw [List.length_map, List.length_map]
          exact Nat.le_trans (List.length_filter_le _ _) (Nat.le_of_eq List.length_range)
        refine ⟨_, rfl, _, hd, Nat.lt_of_le_of_lt fl (Nat.lt_of_le_of_lt (show i ≤ 10002 by omega) (by decide)), ?_, ?_⟩
        · rw [upd_same, filter_snoc hb, List.map_append, List.map_append]
          rfl
        · intro b o e
          exact (upd_ne (fun q => by rw [q, hD] at e; cases e)).trans (sm b o e)
      | false =>
        refine iteF ⟨?_, sm⟩
        rw [hd, filter_more (Nat.le_succ i) fun j h1 h2 => by rw [show j = i by omega]; exact hb]
    · rintro H2 ⟨hd, sm⟩
      refine k D H2 hD ?_ sm
      rw [hd]
      unfold plcI plc
      rw [← filter_more (lo := ((x.length : Int) - (wd.length : Int) + 1).toNat) (m := x.length + 1) (by omega) fun j h1 h2 => by
        unfold atB
        rw [decide_eq_false (by omega)]
        rfl]

theorem cut_upto (x : Str) (M : Nat) : (cutS x none (some (M : Int))).length ≤ M := by
  unfold cutS
  show (List.toArray _).size ≤ M
  rw [List.size_toArray, HT.sIx_nat, HT.sIx_none]
  refine Nat.le_trans (List.length_take_le _ _) ?_
  have := Nat.min_le_left M x.length
  omega
def spNtext : Sp := fun vs H Q _ => ∃ p c z M T, vs = [.ref p, .str z, .int (M : Nat)] ∧ Few z ∧ M ≤ 100 ∧ Pen H p c T ∧ T + 1000 < 1000000000 ∧ ∀ (x : Str) (H' : Hp), x.length ≤ M → Ltr x → Pen H' p c (T + 100) → Ext p H H' → Q (.str x) H'
abbrev s_lntext : Stmt := top 30
theorem sc_lntext : FnScope ["_law_pen_here", "_law_signs_here", "_law_most_letters", "_law_some", "_law_found", "_law_k"] ["_law_pen_here", "_law_signs_here", "_law_most_letters"] (defScope s_lntext) := ⟨rfl, rfl, rfl, by decide +kernel, rfl, by decide +kernel, by decide +kernel⟩
theorem b_lntext {f : Addr} {fd : FuncData} (F : Fun K "_law_ntext" "_law_ntext" s_lntext f fd) (T : Txt mg) (c_ldraw : CalG P w K mg base CX0 1 "_law_draw" spDraw) (c_lpick : CalG P w K mg base CX0 2 "_law_pick" (spPick K)) (c_lword : CalG P w K mg base CX0 3 "_law_word" spWord) : FnG P w K mg base CX0 4 f fd ["_law_pen_here", "_law_signs_here", "_law_most_letters"] spNtext := by
  refine okG0 F sc_lntext (fun vs H Q E h => ?_) (fun cdv A outer s H vs Q E hg hr h => ?_)
  · obtain ⟨p, pc, z, M, T0, rfl, _⟩ := h
    rfl
  · have hu := hu_of hr
    have hu64 := hr.units
    obtain ⟨p, pc, z, M, T0, rfl, fz, hM, hpen, hT, k⟩ := h
    have hr3 : Room 3 _ := hr
    have z100 : z.length ≤ 1000 := Nat.le_trans fz.2.1 (by decide)
    refine ⟨_, (pss_cons (ps_par (i := 3) (j := 4) (by rfl) sc_lntext.nd rfl rfl (by decide) rfl rfl (pa_cons (pe_lst (pa_cons (pe_cG c_lword hg hr (by decide) pass0 (pa_cons (pv 0) (pa_cons (pv 1) (pa_cons pe_int (pa_cons pe_int pa_nil))))) (pa_cons (pe_cG c_lword hg hr (by decide) pass0 (pa_cons (pv 0) (pa_cons (pv 1) (pa_cons pe_int (pa_cons pe_int pa_nil))))) pa_nil))) (pa_cons pe_str pa_nil)) (by rfl))
      (pss_cons (ps_for PassesOwn.never rfl (pi_range1 rfl T.range (pa_cons (pe_cG c_ldraw hg hr (by decide) pass0 (pa_cons (pv 0) (pa_cons pe_int pa_nil))) pa_nil)) (pg_name (i := 5) sc_lntext.nd rfl (Or.inl rfl)) (pss_one (ps_set (i := 4) sc_lntext.nd rfl (Or.inl rfl) (pe_op op_add_str (pv 4) (pe_cG c_lpick hg hr (by decide) pass0 (pa_cons (pv 0) (pa_cons (pe_op op_cat (pv 3) (pe_lst (pa_cons (pe_cG c_lpick hg hr (by decide) pass0 (pa_cons (pv 0) (pa_cons (pv 1) pa_nil))) pa_nil))) pa_nil)))))))
      (pss_one (ps_ret (pe_slice sl_str (pv 4) po_none (po_some (pv 2))))))), ?_⟩
    refine ⟨_, rfl, _, rfl, p, pc, z, 1, 4, T0, rfl, by decide, by decide, fz.1, z100, hpen, by omega, fun w1 H1 g1 P1 x1 => ?_⟩
    refine ⟨_, rfl, _, rfl, p, pc, z, 1, 3, _, rfl, by decide, by decide, fz.1, z100, P1, by omega, fun w2 H2 g2 P2 x2 => ?_⟩
    refine ⟨by show 2 ≤ sizeLine; decide, fun b hb => ?_⟩
    have sb := same_new (o := .lst [.str w1, .str w2]) hb
    have P3 := P2.stay sb
    have x3 : Ext p H _ := (x1.trans x2).trans (Ext.same sb)
    refine ⟨_, _, rfl, _, rfl, p, pc, 9, _, rfl, by decide, by decide, P3, by omega, fun n H4 n0 n1 P4 x4 => ?_⟩
    have hb4 := P3.keepI x4 upd_same
    refine ⟨_, rfl, by omega, by omega, ?_⟩
    refine for_range (lo := 0) (n := n.toNat) (fun i σ H' => ∃ (o5 : Option V) (f : Str), σ = [some (.ref p), some (.str z), some (.int (M : Nat)), some (.ref b), some (.str f), o5] ∧ (f.length ≤ 100 * i ∧ Ltr f) ∧ Pen H' p pc (T0 + 20 + 2 * i) ∧ Ext p H H' ∧ H' b = some (.lst [.str w1, .str w2])) ?_ ?_ ?_
    · exact ⟨_, "", rfl, ⟨by show 0 ≤ _; omega, lt_none⟩, P4.mono (by omega), x3.trans x4, hb4⟩
    · rintro i σ H5 hi ⟨o5, f, rfl, hf, P5, x5, hb5⟩
      have hf1 := hf.1
      refine ⟨_, rfl, _, rfl, _, rfl, _, rfl, _, rfl, p, pc, _, _, _, rfl, .str z z100, opts_ne fz.1, opts_le z100, P5, by omega, fun v H6 hv P6 x6 => ?_⟩
      obtain ⟨cv, rfl, hcv⟩ := ones_of hv
      have hb6 := P5.keepI x6 hb5
      refine ⟨by show 1 ≤ sizeLine; decide, fun q hq => ?_⟩
      have sq := same_new (o := .lst [OneS cv]) hq
      refine ⟨b, q, _, _, rfl, rfl, sq _ _ hb6, upd_same, by show 3 ≤ sizeLine; decide, fun q2 hq2 => ?_⟩
      have sq2 := same_new (o := .lst [.str w1, .str w2, OneS cv]) hq2
      have P7 := (P6.stay sq).stay sq2
      refine ⟨p, pc, _, _, _, rfl, .lst (SqL.of upd_same), (fun z => by cases z), by show 3 ≤ 1000; decide, P7, by omega, fun v H8 hv2 P8 x8 => ?_⟩
      have hb8 := P7.keepI x8 (sq2 _ _ (sq _ _ hb6))
      have ev : ∃ y : Str, v = .str y ∧ y.length ≤ 100 ∧ Ltr y := by
        simp only [List.mem_append, List.mem_cons, List.not_mem_nil, or_false] at hv2
        rcases hv2 with (rfl | rfl) | rfl
        · exact ⟨w1, rfl, Nat.le_trans g1.2.1 (by decide), lt_word fz g1⟩
        · exact ⟨w2, rfl, Nat.le_trans g2.2.1 (by decide), lt_word fz g2⟩
        · exact ⟨_, rfl, by show 1 ≤ 100; decide, lt_one fz hcv⟩
      obtain ⟨y, rfl, hy, oy⟩ := ev
      refine ⟨_, _, rfl, rfl, Nat.le_of_lt (fewL (by omega)), _, f ++ y, rfl, ⟨?_, lt_more hf.2 oy⟩, P8.mono (by omega), (x5.trans x6).trans (((Ext.same sq).trans (Ext.same sq2)).trans x8), hb8⟩
      rw [strLen_append]
      omega
    · rintro σ H5 ⟨o5, f, rfl, hf, P5, x5, hb5⟩
      have hf1 := hf.1
      refine ⟨_, rfl, _, rfl, _, rfl, f, rfl, Nat.le_of_lt (fewL (by have : n.toNat ≤ 9 := by omega
                                                                     omega)), k _ _ (cut_upto f M) (cutS_lt hf.2 _ _) (P5.mono (by omega)) x5⟩

/-- a window that stands once -/
def spNonce : Sp := fun vs H Q _ => ∃ (x : Str) (a b : Nat), vs = [.str x, .int (a : Nat), .int (b : Nat)] ∧ x.length ≤ 100 ∧ (a < b → b ≤ x.length) ∧ ∀ H', Same H H' → Q (.bl (decide (a < b ∧ twB x a b = false))) H'
abbrev s_lnonce : Stmt := top 31
theorem sc_lnonce : FnScope ["_law_text_here", "_law_a", "_law_b"] ["_law_text_here", "_law_a", "_law_b"] (defScope s_lnonce) := ⟨rfl, rfl, rfl, by decide +kernel, rfl, by decide +kernel, by decide +kernel⟩
theorem b_lnonce {f : Addr} {fd : FuncData} (F : Fun K "_law_nonce" "_law_nonce" s_lnonce f fd) (T : Txt mg) (c_lplaces : CalG P w K mg base CX0 1 "_law_places" (spPlaces K)) : FnG P w K mg base CX0 2 f fd ["_law_text_here", "_law_a", "_law_b"] spNonce := by
  refine okG0 F sc_lnonce (fun vs H Q E h => ?_) (fun cdv A outer s H vs Q E hg hr h => ?_)
  · obtain ⟨x, a, b, rfl, _⟩ := h
    rfl
  · have hu := hu_of hr
    have hu64 := hr.units
    obtain ⟨x, a, b, rfl, hx, hb, k⟩ := h
    have hr1 : Room 1 _ := hr
    have xl : x.length ≤ sizeLine := Nat.le_of_lt (fewL (by omega))
    refine ⟨_, (pss_one (ps_ret (pe_and (pe_cmpR op_lt (pv 1) (pv 2) (nomark _)) (pe_one (pe_cmpR op_eq (pe_callB call_len (by rfl) T.len (by decide +kernel) (pa_cons (pe_cG c_lplaces hg hr (by decide) pass0 (pa_cons (pv 0) (pa_cons (pe_slice sl_str (pv 0) (po_some (pv 1)) (po_some (pv 2))) pa_nil))) pa_nil)) pe_int (nomark _)))))), ?_⟩
    refine ⟨_, rfl, _, rfl, _, _, rfl, rfl, _, rfl, ?_⟩
    by_cases hab : a < b
    · rw [decide_eq_true (show ((a : Nat) : Int) < ((b : Nat) : Int) by omega)]
      refine iteT ⟨_, rfl, _, rfl, _, rfl, _, rfl, _, rfl, _, rfl, x, rfl, xl, x, _, rfl, by omega, ?_⟩
      refine ⟨Nat.le_trans (cutS_length _ _ _) (by omega), fun lp H1 _ hp s1 => ⟨_, _, rfl, .inl ⟨_, SqL.of hp, rfl⟩, rfl, ?_⟩⟩
      have hl : ((plcI x (cutS x (some ((a : Nat) : Int)) (some ((b : Nat) : Int)))).map V.int).length = (plc x (cutS x (some ((a : Nat) : Int)) (some ((b : Nat) : Int)))).length := by
        unfold plcI
        rw [List.length_map, List.length_map]
      have q := k H1 s1
      have e : decide (V.int ((((plcI x (cutS x (some ((a : Nat) : Int)) (some ((b : Nat) : Int)))).map V.int).length : Nat) : Int) = V.int 1) = decide (a < b ∧ twB x a b = false) := by
        rw [hl]
        refine decide_eq_decide.mpr (Iff.trans ⟨fun z => ?_, fun z => ?_⟩ (Iff.trans (plc_one (Nat.le_of_lt hab) (hb hab)) ⟨fun z => ⟨hab, z⟩, fun z => z.2⟩))
        · have := V.int.inj z
          omega
        · rw [z]
          rfl
      rw [← e] at q
      exact q
    · rw [decide_eq_false (show ¬ ((a : Nat) : Int) < ((b : Nat) : Int) by omega)]
      refine iteF ?_
      have q := k H (fun _ _ e => e)
      rw [decide_eq_false (fun z => hab z.1)] at q
      exact q

def allW (n k : Nat) : List (Nat × Nat) := (List.range k).flatMap fun a => (List.range' (a + 1) (n - a)).map fun b => (a, b)
theorem allW_succ {n k : Nat} : allW n (k + 1) = allW n k ++ (List.range' (k + 1) (n - k)).map fun b => (k, b) := by
  unfold allW
  rw [List.range_succ, List.flatMap_append]
  simp
theorem allW_len {n : Nat} : ∀ {k : Nat}, (allW n k).length ≤ k * n
  | 0 => by simp [allW]
  | k + 1 => by
    have := allW_len (n := n) (k := k)
    rw [allW_succ, List.length_append, List.length_map, List.length_range', Nat.succ_mul]
    omega
theorem allW_mem {n k : Nat} {p : Nat × Nat} (h : p ∈ allW n k) : p.1 < p.2 ∧ p.2 ≤ n := by
  unfold allW at h
  rw [List.mem_flatMap] at h
  obtain ⟨a, ha, h⟩ := h
  obtain ⟨b, hb, rfl⟩ := List.mem_map.mp h
  have := List.mem_range'_1.mp hb
  exact ⟨by show a < b; omega, by show b ≤ n; omega⟩
def spAround : Sp := fun vs H Q _ => ∃ (x : Str), vs = [.str x, .int (x.length : Nat), .int 0] ∧ x.length ≤ 20 ∧ ∀ (a : Addr) xs H', H a = none → H' a = some (.lst xs) → PrN H' xs (allW x.length (x.length + 1)) → Same H H' → Q (.ref a) H'
theorem fewM {n : Nat} (h : n ≤ 1000000) : n < sizeLine := Nat.lt_of_le_of_lt h (by rw [sizeLine_eq]; decide)
def spPut : Sp := fun vs H Q _ => ∃ (x : Str) (q : Addr) (xs : List V) (rs : List (Nat × Nat × Str)), vs = [.str x, .ref q] ∧ x.length ≤ 100 ∧ H q = some (.tup xs) ∧ Rw3 H xs rs ∧ rs.length ≤ 100 ∧ (∀ r ∈ rs, r.2.2.length ≤ 1000) ∧ ∀ H', Same H H' → Q (.str (putH x 0 rs "")) H'
abbrev s_lnaround : Stmt := top 32
theorem sc_lnaround : FnScope ["_law_text_here", "_law_a", "_law_b", "_law_found", "_law_k", "_law_tip"] ["_law_text_here", "_law_a", "_law_b"] (defScope s_lnaround) := ⟨rfl, rfl, rfl, by decide +kernel, rfl, by decide +kernel, by decide +kernel⟩
theorem b_lnaround {f : Addr} {fd : FuncData} (F : Fun K "_law_naround" "_law_naround" s_lnaround f fd) (T : Txt mg) : FnG P w K mg base CX0 1 f fd ["_law_text_here", "_law_a", "_law_b"] spAround := by
  refine okG0 F sc_lnaround (fun vs H Q E h => ?_) (fun cdv A outer s H vs Q E hg hr h => ?_)
  · obtain ⟨x, rfl, _⟩ := h
    rfl
  · have hu := hu_of hr
    have hu64 := hr.units
    obtain ⟨x, rfl, hx, k⟩ := h
    have xl : x.length ≤ sizeLine := Nat.le_of_lt (fewL (by omega))
    refine ⟨_, (pss_cons (ps_set (i := 3) sc_lnaround.nd rfl (Or.inl rfl) (pe_lst pa_nil))
      (pss_cons (ps_for PassesOwn.never rfl (pi_range1 rfl T.range (pa_cons (pe_op op_add (pv 1) pe_int) pa_nil)) (pg_name (i := 4) sc_lnaround.nd rfl (Or.inr rfl)) (pss_one (ps_expr (pe_bm PySem.F.plainAttrs_list PySem.F.slot_list_extend PySem.F.type_list_extend mt_extend (pv 3) (pa_cons (pe_lc (own := [("_law_tip", 5)]) (g := gName 5) (tt := tYes) rfl sc_lnaround.nd (pi_range2 rfl T.range (pa_cons (pe_callB (call_max2 rfl) (by rfl) T.max (by decide +kernel) (pa_cons (pv 2) (pa_cons (pe_op op_add (pv 4) pe_int) pa_nil))) (pa_cons (pe_op op_add (pe_callB call_len (by rfl) T.len (by decide +kernel) (pa_cons (pv 0) pa_nil)) pe_int) pa_nil))) (blkOk_by (own := [("_law_tip", 5)]) (N := ["_law_text_here", "_law_a", "_law_b", "_law_found", "_law_k", "_law_tip"]) (sc := defScope s_lnaround) (by decide +kernel)) (fun _ _ _ _ _ => (pg_name (i := 5) sc_lnaround.nd rfl (Or.inl rfl))) (fun _ _ _ _ _ => pts_nil) (fun _ _ _ _ _ => (pe_tup (pa_cons (pv 4) (pa_cons (pv 5) pa_nil))))) pa_nil)))))
      (pss_one (ps_ret (pv 3))))), ?_⟩
    refine ⟨by show 0 ≤ sizeLine; decide, fun lr hlr => ?_⟩
    have slr := same_new (o := .lst []) hlr
    refine ⟨_, rfl, _, _, rfl, rfl, _, rfl, by omega, by omega, ?_⟩
    refine for_range (lo := 0) (n := (((x.length : Nat) : Int) + 1).toNat) (fun q σ H' => ∃ (o4 o5 : Option V) (xs : List V), σ = [some (.str x), some (.int (x.length : Nat)), some (.int 0), some (.ref lr), o4, o5] ∧ H' lr = some (.lst xs) ∧ PrN H' xs (allW x.length q) ∧ Same H H') ?_ ?_ ?_
    · exact ⟨_, _, [], rfl, upd_same, .nil, slr⟩
    · rintro q σ H9 hq ⟨o8, o9, xs, rfl, hl9, tr9, s9⟩
      have gl := paired_len tr9
      have gr := allW_len (n := x.length) (k := q)
      rw [Int.zero_add]
      refine ⟨_, rfl, .inl ⟨rfl, _, SqL.of hl9⟩, ?_⟩
      refine ⟨_, rfl, _, rfl, _, _, rfl, rfl, _, _, rfl, _, rfl, _, _, rfl, ⟨xl, rfl⟩, _, _, rfl, rfl, _, _, rfl, ?_⟩
      rw [show (if ((q : Nat) : Int) + 1 > 0 then ((q : Nat) : Int) + 1 else 0) = ((q : Nat) : Int) + 1 from if_pos (by omega)]
      refine ⟨⟨by omega, by omega, by omega, by omega⟩, fun D hD => ?_⟩
      have sD := same_new (o := .lst []) hD
      refine lc_range (lo := (q : Int) + 1) (n := (((x.length : Nat) : Int) + 1 - ((q : Int) + 1)).toNat) (fun j H' => ∃ us, H' D = some (.lst us) ∧ PrN H' us ((List.range' (q + 1) j).map fun b => (q, b)) ∧ Same H9 H') ?_ ?_ ?_
      · exact ⟨[], upd_same, .nil, sD⟩
      · rintro j H10 hj ⟨us, hD10, tr10, s10⟩
        have gu := paired_len tr10
        rw [List.length_map, List.length_range'] at gu
        have eb : ((q : Nat) : Int) + 1 + (j : Nat) = ((q + 1 + j : Nat) : Int) := by omega
        rw [eb]
        refine ⟨rfl, _, rfl, _, rfl, by show 2 ≤ sizeLine; decide, fun u hu => ?_⟩
        have su := same_new (o := .tup [.int ((q : Nat) : Int), .int ((q + 1 + j : Nat) : Int)]) hu
        have hDu := su _ _ hD10
        refine ⟨_, hDu, fewL (by omega), us ++ [.ref u], upd_same, ?_, upd_out hD (s10.trans su)⟩
        rw [List.range'_concat, List.map_append, Nat.one_mul]
        exact Paired.snoc ((tr10.keep su).keepT (upd_list hDu)) ⟨u, rfl, upd_list hDu _ _ upd_same⟩
      · rintro H10 ⟨us, hD10, tr10, s10⟩
        have hl10 := s10 _ _ hl9
        have gu := paired_len tr10
        rw [List.length_map, List.length_range'] at gu
        have gq : q * x.length ≤ 20 * 20 := Nat.mul_le_mul (by omega) hx
        refine ⟨lr, D, _, _, rfl, rfl, hl10, hD10, Nat.le_of_lt (fewL (by omega)), ?_⟩
        refine ⟨_, _, xs ++ us, rfl, upd_same, ?_, upd_out hlr (s9.trans s10)⟩
        rw [show (((x.length : Nat) : Int) + 1 - ((q : Int) + 1)).toNat = x.length - q by omega] at tr10
        rw [allW_succ]
        have pp : PrN H10 (xs ++ us) _ := paired_app (tr9.keep s10) tr10
        exact pp.keepT (upd_list hl10)
    · rintro σ H9 ⟨o8, o9, xs, rfl, hl9, tr9, s9⟩
      rw [show (((x.length : Nat) : Int) + 1).toNat = x.length + 1 by omega] at tr9
      exact ⟨_, rfl, k lr xs H9 hlr hl9 tr9 s9⟩

abbrev s_lnput : Stmt := top 34
theorem sc_lnput : FnScope ["_law_text_here", "_law_rows", "_law_found", "_law_behind", "_law_a", "_law_b", "_law_fresh"] ["_law_text_here", "_law_rows"] (defScope s_lnput) := ⟨rfl, rfl, rfl, by decide +kernel, rfl, by decide +kernel, by decide +kernel⟩
theorem b_lnput {f : Addr} {fd : FuncData} (F : Fun K "_law_nput" "_law_nput" s_lnput f fd) (T : Txt mg) : FnG P w K mg base CX0 1 f fd ["_law_text_here", "_law_rows"] spPut := by
  refine okG0 F sc_lnput (fun vs H Q E h => ?_) (fun cdv A outer s H vs Q E hg hr h => ?_)
  · obtain ⟨x, q, xs, rs, rfl, _⟩ := h
    rfl
  · have hu := hu_of hr
    have hu64 := hr.units
    obtain ⟨x, q, xs, rs, rfl, hx, hq, rw0, hl, hz, k⟩ := h
    have xl : x.length ≤ sizeLine := Nat.le_of_lt (fewM (by omega))
    have glen := paired_len rw0
    refine ⟨_, (pss_cons (ps_asg (pe_tup (pa_cons pe_str (pa_cons pe_int pa_nil))) (pg_tup rfl (pgs_cons (pg_name (i := 2) sc_lnput.nd rfl (Or.inl rfl)) (pgs_cons (pg_name (i := 3) sc_lnput.nd rfl (Or.inl rfl)) pgs_nil))))
      (pss_cons (ps_for PassesOwn.never rfl (pi_tup (pv 1)) (pg_tup rfl (pgs_cons (pg_name (i := 4) sc_lnput.nd rfl (Or.inl rfl)) (pgs_cons (pg_name (i := 5) sc_lnput.nd rfl (Or.inl rfl)) (pgs_cons (pg_name (i := 6) sc_lnput.nd rfl (Or.inl rfl)) pgs_nil)))) (pss_cons (ps_set (i := 2) sc_lnput.nd rfl (Or.inl rfl) (pe_op op_add_str (pe_op op_add_str (pv 2) (pe_slice sl_str (pv 0) (po_some (pv 3)) (po_some (pv 4)))) (pv 6)))
      (pss_one (ps_set (i := 3) sc_lnput.nd rfl (Or.inl rfl) (pv 5)))))
      (pss_one (ps_ret (pe_op op_add_str (pv 2) (pe_slice sl_str (pv 0) (po_some (pv 3)) po_none)))))), ?_⟩
    refine ⟨by show 2 ≤ sizeLine; decide, fun t0 ht0 => ?_⟩
    have st0 := same_new (o := .tup [.str "", .int 0]) ht0
    refine ⟨t0, _, rfl, SqT.of upd_same, rfl, _, _, rfl, _, _, rfl, rfl, ?_⟩
    refine ⟨_, rfl, q, rfl, ⟨_, SqT.of (st0 _ _ hq)⟩, ?_⟩
    refine for_tup (xs := xs) (fun i σ H' => ∃ (p : Nat) (acc : Str) (o4 o5 o6 : Option V), σ = [some (.str x), some (.ref q), some (.str acc), some (.int (p : Nat)), o4, o5, o6] ∧ Same H H' ∧ acc.length ≤ 1200 * i ∧ putH x p (rs.drop i) acc = putH x 0 rs "") ?_ ?_ ?_ ?_
    · exact ⟨0, "", _, _, _, rfl, st0, Nat.zero_le _, rfl⟩
    · rintro i σ H2 _ ⟨p, acc, o4, o5, o6, rfl, s2, _, _⟩
      exact SqT.of (s2 _ _ hq)
    · rintro i v σ H2 hv ⟨p, acc, o4, o5, o6, rfl, s2, al, he⟩
      obtain ⟨r, hr1, t, rfl, ht⟩ := paired_at rw0 hv
      have hi := (List.getElem?_eq_some_iff.mp hr1).1
      have hz1 := hz r (List.mem_of_getElem? hr1)
      have c1 : (cutS x (some ((p : Nat) : Int)) (some ((r.1 : Nat) : Int))).length ≤ 100 := Nat.le_trans (cutS_length _ _ _) hx
      rw [drop_at hr1] at he
      refine ⟨t, _, rfl, SqT.of (s2 _ _ ht), rfl, _, _, rfl, _, _, rfl, _, _, rfl, rfl, ?_⟩
      refine ⟨_, rfl, _, rfl, _, rfl, _, rfl, _, rfl, _, rfl, x, rfl, xl, _, _, rfl, rfl, Nat.le_of_lt (fewM (by omega)), _, rfl, _, _, rfl, rfl, Nat.le_of_lt (fewM (by rw [strLen_append]; omega)), _, rfl, ?_⟩
      exact ⟨r.2.1, _, _, _, _, rfl, s2, by rw [strLen_append, strLen_append]; omega, he⟩
    · rintro σ H2 ⟨p, acc, o4, o5, o6, rfl, s2, al, he⟩
      rw [List.drop_of_length_le (by omega)] at he
      have c1 : (cutS x (some ((p : Nat) : Int)) none).length ≤ 100 := Nat.le_trans (cutS_length _ _ _) hx
      refine ⟨_, rfl, _, rfl, _, rfl, _, rfl, x, rfl, xl, _, _, rfl, rfl, Nat.le_of_lt (fewM (by omega)), ?_⟩
      have q := k H2 s2
      rw [← he] at q
      exact q

end
end Vk
set_option Elab.async false
set_option maxRecDepth 100000
set_option linter.all false
set_option maxHeartbeats 4000000
namespace Vk
open PySem PySem.Spec PyProof.Rows L2
section
variable {P : Program} {w : World} {K : PySem.W.Frag} {mg : Str → Option Value} {base : Heap}
theorem pen_tup {H H1 : Hp} {p c : Addr} {T : Nat} (q : Pen H p c T) (x : Ext p H H1) : ∀ u ws, H u = some (.tup ws) → H1 u = some (.tup ws) := fun u ws h => x u _ h fun e => by
  obtain ⟨t, l, z⟩ := q.is
  rw [e, z] at h
  cases h
def spDrawn : Sp := fun vs H Q _ => ∃ (p c : Addr) (x z : Str) (T : Nat), vs = [.ref p, .str x, .str z] ∧ x.length ≤ 10 ∧ Ltr x ∧ Few z ∧ Pen H p c T ∧ T + 1000 < 1000000000 ∧
  ∀ (q : Addr) xs rs H', H' q = some (.tup xs) → Rw3 H' xs rs → OkR x.length 0 rs → rs.length ≤ 5 → (∀ r ∈ rs, r.2.2.length ≤ 20 ∧ Ltr r.2.2 ∧ twB x r.1 r.2.1 = false) → Pen H' p c (T + 100) → Ext p H H' → Q (.ref q) H'
abbrev s_lndrawn : Stmt := top 36
theorem sc_lndrawn : FnScope ["_law_pen_here", "_law_text_here", "_law_signs_here", "_law_rows", "_law_behind", "_law_k", "_law_spans", "_law_span", "_law_a", "_law_b", "_law_same", "_law_some"] ["_law_pen_here", "_law_text_here", "_law_signs_here"] (defScope s_lndrawn) := ⟨rfl, rfl, rfl, by decide +kernel, rfl, by decide +kernel, by decide +kernel⟩
theorem b_lndrawn {f : Addr} {fd : FuncData} (F : Fun K "_law_ndrawn" "_law_ndrawn" s_lndrawn f fd) (T : Txt mg) (c_ldraw : CalG P w K mg base CX0 1 "_law_draw" spDraw) (c_lpick : CalG P w K mg base CX0 2 "_law_pick" (spPick K)) (c_lword : CalG P w K mg base CX0 3 "_law_word" spWord) (c_lnonce : CalG P w K mg base CX0 2 "_law_nonce" spNonce) (c_lnaround : CalG P w K mg base CX0 1 "_law_naround" spAround) : FnG P w K mg base CX0 4 f fd ["_law_pen_here", "_law_text_here", "_law_signs_here"] spDrawn := by
  refine okG0 F sc_lndrawn (fun vs H Q E h => ?_) (fun cdv A outer s H vs Q E hg hr h => ?_)
  · obtain ⟨p, pc, x, z, T0, rfl, _⟩ := h
    rfl
  · have hu := hu_of hr
    have hu64 := hr.units
    obtain ⟨p, pc, x, z, T0, rfl, hx, okx, fz, hpen, hT, k⟩ := h
    have hr3 : Room 3 _ := hr
    have xl : x.length ≤ sizeLine := Nat.le_of_lt (fewL (by omega))
    have z100 : z.length ≤ 1000 := Nat.le_trans fz.2.1 (by decide)
    refine ⟨_, (pss_cons (ps_asg (pe_tup (pa_cons (pe_lst pa_nil) (pa_cons pe_int pa_nil))) (pg_tup rfl (pgs_cons (pg_name (i := 3) sc_lndrawn.nd rfl (Or.inl rfl)) (pgs_cons (pg_name (i := 4) sc_lndrawn.nd rfl (Or.inr rfl)) pgs_nil))))
      (pss_cons (ps_for PassesOwn.never rfl (pi_range1 rfl T.range (pa_cons (pe_cG c_ldraw hg hr (by decide) pass0 (pa_cons (pv 0) (pa_cons pe_int pa_nil))) pa_nil)) (pg_name (i := 5) sc_lndrawn.nd rfl (Or.inl rfl)) (pss_cons (ps_setLc (i := 6) (own := [("_law_span", 7)]) (g := gName 7) rfl sc_lndrawn.nd rfl rfl (sw_true rfl rfl rfl (by decide +kernel)) (pi_list (pe_cG c_lnaround hg hr (by decide) pass0 (pa_cons (pv 1) (pa_cons (pe_callB call_len (by rfl) T.len (by decide +kernel) (pa_cons (pv 1) pa_nil)) (pa_cons pe_int pa_nil))))) (blkOk_by (own := [("_law_span", 7)]) (N := ["_law_pen_here", "_law_text_here", "_law_signs_here", "_law_rows", "_law_behind", "_law_k", "_law_spans", "_law_span", "_law_a", "_law_b", "_law_same", "_law_some"]) (sc := defScope s_lndrawn) (by decide +kernel)) (fun _ _ _ _ _ => (pg_name (i := 7) sc_lndrawn.nd rfl (Or.inl rfl))) (fun _ _ _ _ _ => (pts_one (pt_cmpR op_ge (pe_ix (ix_tupK (K := K) rfl) (pv 7) pe_int (fun _ _ => rfl)) (pv 4) (nomark _)))) (fun _ _ _ _ _ => (pv 7)))
      (pss_cons (ps_setLc (i := 6) (own := [("_law_span", 7)]) (g := gName 7) rfl sc_lndrawn.nd rfl rfl (sw_true rfl rfl rfl (by decide +kernel)) (pi_list (pv 6)) (blkOk_by (own := [("_law_span", 7)]) (N := ["_law_pen_here", "_law_text_here", "_law_signs_here", "_law_rows", "_law_behind", "_law_k", "_law_spans", "_law_span", "_law_a", "_law_b", "_law_same", "_law_some"]) (sc := defScope s_lndrawn) (by decide +kernel)) (fun _ _ _ _ _ => (pg_name (i := 7) sc_lndrawn.nd rfl (Or.inl rfl))) (fun _ _ _ _ _ => (pts_one (pt_val (pe_cG c_lnonce hg hr (by decide) pass0 (pa_cons (pv 1) (pa_cons (pe_ix (ix_tupK (K := K) rfl) (pv 7) pe_int (fun _ _ => rfl)) (pa_cons (pe_ix (ix_tupK (K := K) rfl) (pv 7) pe_int (fun _ _ => rfl)) pa_nil))))))) (fun _ _ _ _ _ => (pv 7)))
      (pss_one (ps_if (pt_cmpR (op_neD hu64) (pv 6) (pe_lst pa_nil) (nomark _)) (pss_cons (ps_asg (pe_cG c_lpick hg hr (by decide) pass0 (pa_cons (pv 0) (pa_cons (pe_slice sl_list (pv 6) po_none (po_some (pe_op op_add pe_int (pe_cG c_ldraw hg hr (by decide) pass0 (pa_cons (pv 0) (pa_cons (pe_callB call_len (by rfl) T.len (by decide +kernel) (pa_cons (pv 6) pa_nil)) pa_nil)))))) pa_nil))) (pg_tup rfl (pgs_cons (pg_name (i := 8) sc_lndrawn.nd rfl (Or.inl rfl)) (pgs_cons (pg_name (i := 9) sc_lndrawn.nd rfl (Or.inl rfl)) pgs_nil))))
      (pss_cons (ps_set (i := 10) sc_lndrawn.nd rfl (Or.inl rfl) (pe_slice sl_str (pv 1) (po_some (pv 8)) (po_some (pv 9))))
      (pss_cons (ps_set (i := 11) sc_lndrawn.nd rfl (Or.inl rfl) (pe_lst (pa_cons (pe_cG c_lword hg hr (by decide) pass0 (pa_cons (pv 0) (pa_cons (pv 2) (pa_cons pe_int (pa_cons pe_int pa_nil))))) (pa_cons (pv 10) (pa_cons (pe_op op_add_str (pe_slice sl_str (pv 10) po_none (po_some pe_int)) (pe_slice sl_str (pv 10) (po_some pe_int) po_none)) (pa_cons (pe_op op_add_str (pe_slice sl_str (pv 10) (po_some pe_int) po_none) pe_str) pa_nil))))))
      (pss_cons (ps_expr (pe_bm PySem.F.plainAttrs_list PySem.F.slot_list_append PySem.F.type_list_append mt_append (pv 3) (pa_cons (pe_tup (pa_cons (pv 8) (pa_cons (pv 9) (pa_cons (pe_cG c_lpick hg hr (by decide) pass0 (pa_cons (pv 0) (pa_cons (pv 11) pa_nil))) pa_nil)))) pa_nil)))
      (pss_one (ps_set (i := 4) sc_lndrawn.nd rfl (Or.inr rfl) (pv 9))))))) pss_nil)))))
      (pss_one (ps_ret (pe_callTy call_tuple_of (by rfl) T.tuple (by decide +kernel) (pa_cons (pv 3) pa_nil)))))), ?_⟩
    refine ⟨by show 0 ≤ sizeLine; decide, fun lr hlr => ?_⟩
    have slr := same_new (o := .lst []) hlr
    refine ⟨by show 2 ≤ sizeLine; decide, fun t0 ht0 => ?_⟩
    have st0 := same_new (o := .tup [.ref lr, .int 0]) ht0
    have P1 := (hpen.stay slr).stay st0
    refine ⟨t0, _, rfl, SqT.of upd_same, rfl, _, _, rfl, _, _, rfl, rfl, ?_⟩
    refine ⟨_, rfl, p, pc, 5, _, rfl, by decide, by decide, P1, by omega, fun n H2 n0 n1 P2 x2 => ?_⟩
    have hl2 := P1.keepI x2 (st0 _ _ upd_same)
    have x02 : Ext p H H2 := ((Ext.same slr).trans (Ext.same st0)).trans x2
    refine ⟨_, rfl, by omega, by omega, ?_⟩
    refine for_range (lo := 0) (n := n.toNat) (fun i σ H' => ∃ (be : Nat) (xs : List V) (rs : List (Nat × Nat × Str)) (o5 o6 o7 o8 o9 o10 o11 : Option V), σ = [some (.ref p), some (.str x), some (.str z), some (.ref lr), some (.int (be : Nat)), o5, o6, o7, o8, o9, o10, o11] ∧ H' lr = some (.lst xs) ∧ Rw3 H' xs rs ∧ OkR x.length 0 rs ∧ endR 0 rs = be ∧ rs.length ≤ i ∧ (∀ r ∈ rs, r.2.2.length ≤ 20 ∧ Ltr r.2.2 ∧ twB x r.1 r.2.1 = false) ∧ Pen H' p pc (T0 + 1 + 19 * i) ∧ Ext p H H') ?_ ?_ ?_
    · exact ⟨0, [], [], _, _, _, _, _, _, _, rfl, hl2, .nil, trivial, rfl, Nat.le_refl _, (fun r h => by cases h), P2, x02⟩
    · rintro i σ H3 hi ⟨be, xs, rs, o5, o6, o7, o8, o9, o10, o11, rfl, hl3, rw3, ok3, en3, le3, w3, P3, x3⟩
      refine ⟨_, rfl, _, rfl, _, _, rfl, ⟨xl, rfl⟩, x, rfl, by omega, fun la xa H4 hla hla4 pa s4 => ?_⟩
      refine ⟨la, rfl, ⟨_, SqL.of hla4⟩, fun D hD => ?_⟩
      have sD := same_new (o := .lst []) hD
      have ga := allW_len (n := x.length) (k := x.length + 1)
      have ga2 : (x.length + 1) * x.length ≤ 11 * 10 := Nat.mul_le_mul (by omega) hx
      have gxa := paired_len pa
      have P4 := P3.stay s4
      have hl4 := s4 _ _ hl3
      refine lc_list (K := K) (a := la) (xs := xa) (fun n H' => ∃ us ws, H' D = some (.lst us) ∧ PrN H' us ws ∧ (∀ r ∈ ws, be ≤ r.1 ∧ r.1 < r.2 ∧ r.2 ≤ x.length) ∧ ws.length ≤ n ∧ Same H4 H') ?_ ?_ ?_ ?_
      · exact ⟨[], [], upd_same, .nil, (fun r h => by cases h), Nat.le_refl _, sD⟩
      · rintro n H' _ ⟨_, _, _, _, _, _, sm⟩
        exact SqL.of (sm _ _ hla4)
      · rintro n v H' hv ⟨us, ws, hDz, pu, ok, le, sm⟩
        obtain ⟨r, hr1, t, rfl, ht⟩ := paired_at pa hv
        have hn := (List.getElem?_eq_some_iff.mp hr1).1
        have hw := allW_mem (List.mem_of_getElem? hr1)
        have gu := paired_len pu
        refine ⟨rfl, _, rfl, t, _, _, _, rfl, rfl, SqT.of (sm _ _ ht), rfl, _, rfl, _, _, rfl, rfl, _, rfl, ?_⟩
        by_cases c : be ≤ r.1
        · rw [decide_eq_true (show ((be : Nat) : Int) ≤ ((r.1 : Nat) : Int) by omega)]
          refine iteT ⟨_, rfl, _, hDz, fewL (by omega), us ++ [.ref t], ws ++ [r], upd_same, Paired.snoc (pu.keepT (upd_list hDz)) ⟨t, rfl, upd_list hDz _ _ (sm _ _ ht)⟩, fun r' h' => ?_, by rw [List.length_append]; exact Nat.add_le_add_right le 1, upd_out hD sm⟩
          rcases List.mem_append.mp h' with h' | h'
          · exact ok r' h'
          · rw [List.mem_singleton.mp h']
            exact ⟨c, hw.1, hw.2⟩
        · rw [decide_eq_false (show ¬ ((be : Nat) : Int) ≤ ((r.1 : Nat) : Int) by omega)]
          exact iteF ⟨us, ws, hDz, pu, ok, by omega, sm⟩
      rintro H5 ⟨us, ws, hD5, pu, ok5, le5, s5⟩
      have P5 := P4.stay s5
      have hl5 := s5 _ _ hl4
      have gu := paired_len pu
      -- those that stand once
      refine ⟨_, rfl, D, rfl, ⟨_, SqL.of hD5⟩, fun D2 hD2 => ?_⟩
      have sD2 := same_new (o := .lst []) hD2
      refine lc_list (K := K) (a := D) (xs := us) (fun n H' => ∃ us' ws', H' D2 = some (.lst us') ∧ PrN H' us' ws' ∧ (∀ r ∈ ws', be ≤ r.1 ∧ r.1 < r.2 ∧ r.2 ≤ x.length ∧ twB x r.1 r.2 = false) ∧ ws'.length ≤ n ∧ Same H5 H') ?_ ?_ ?_ ?_
      · exact ⟨[], [], upd_same, .nil, (fun r h => by cases h), Nat.le_refl _, sD2⟩
      · rintro n H' _ ⟨_, _, _, _, _, _, sm⟩
        exact SqL.of (sm _ _ hD5)
      · rintro n v H' hv ⟨us', ws', hDz, pu', ok', le', sm⟩
        obtain ⟨r, hr1, t, rfl, ht⟩ := paired_at pu hv
        have hn := (List.getElem?_eq_some_iff.mp hr1).1
        have hw := ok5 r (List.mem_of_getElem? hr1)
        have gu' := paired_len pu'
        refine ⟨rfl, _, rfl, _, rfl, t, _, _, _, rfl, rfl, SqT.of (sm _ _ ht), rfl, _, rfl, t, _, _, _, rfl, rfl, SqT.of (sm _ _ ht), rfl, x, r.1, r.2, rfl, by omega, fun _ => hw.2.2, fun H'' s'' => ⟨_, rfl, ?_⟩⟩
        have hDz2 := s'' _ _ hDz
        have pu2 := pu'.keep s''
        have sm2 := sm.trans s''
        by_cases c : r.1 < r.2 ∧ twB x r.1 r.2 = false
        · rw [decide_eq_true c]
          refine iteT ⟨_, rfl, _, hDz2, fewL (by omega), us' ++ [.ref t], ws' ++ [r], upd_same, Paired.snoc (pu2.keepT (upd_list hDz2)) ⟨t, rfl, upd_list hDz2 _ _ (sm2 _ _ ht)⟩, fun r' h' => ?_, by rw [List.length_append]; exact Nat.add_le_add_right le' 1, upd_out hD2 sm2⟩
          rcases List.mem_append.mp h' with h' | h'
          · exact ok' r' h'
          · rw [List.mem_singleton.mp h']
            exact ⟨hw.1, hw.2.1, hw.2.2, c.2⟩
        · rw [decide_eq_false c]
          exact iteF ⟨us', ws', hDz2, pu2, ok', by omega, sm2⟩
      rintro H6 ⟨us6, ws6, hD6, pu6, ok6, le6, s6⟩
      have P6 := P5.stay s6
      have hl6 := s6 _ _ hl5
      have rw6 := ((rw3.keep s4).keep s5).keep s6
      have gu6 := paired_len pu6
      refine ⟨_, rfl, by show 0 ≤ sizeLine; decide, fun qe hqe => ?_⟩
      have sqe := same_new (o := .lst []) hqe
      refine ⟨_, _, .lst (SqL.of (sqe _ _ hD6)) (prs_dp (pu6.keep sqe)), .lst (SqL.of upd_same) .nil, pDs_shaped _, by decide, _, rfl, ?_⟩
      rw [pDs_nil]
      have P7 := P6.stay sqe
      have hl7 := sqe _ _ hl6
      have rw7 := rw6.keep sqe
      have pu7 := pu6.keep sqe
      have hD7 := sqe _ _ hD6
      have x7 : Ext p H _ := x3.trans ((Ext.same (((s4.trans s5).trans s6))).trans (Ext.same sqe))
      generalize upd H6 qe (.lst []) = H7 at P7 hl7 rw7 pu7 hD7 x7 ⊢
      have lxs := paired_len rw7
      by_cases ne : ws6 = []
      · rw [ne]
        exact iteF ⟨be, xs, rs, _, _, _, _, _, _, _, rfl, hl7, rw7, ok3, en3, by omega, w3, P7.mono (by omega), x7⟩
      rw [show ws6.isEmpty = false by cases ws6 with | nil => exact absurd rfl ne | cons _ _ => rfl]
      have upos : 0 < us6.length := by rw [gu6]; exact List.length_pos_iff.mpr ne
      refine iteT ?_
      refine ⟨_, rfl, _, rfl, _, rfl, _, rfl, _, _, rfl, .inl ⟨_, SqL.of hD7, rfl⟩, p, pc, _, _, rfl, by omega, by omega, P7, by omega, fun d H8 d0 d1 P8 x8 => ?_⟩
      have hD8 := P7.keepI x8 hD7
      have ed : (1 : Int) + d = ((1 + d.toNat : Nat) : Int) := by omega
      refine ⟨_, _, rfl, rfl, _, rfl, D2, us6, rfl, SqL.of hD8, fun q hq => ?_⟩
      rw [ed, cutV_take]
      have sq := same_new (o := .lst (us6.take (1 + d.toNat))) hq
      have P9 := P8.stay sq
      have ltk : (us6.take (1 + d.toNat)).length ≤ us6.length := List.length_take_le' _ _
      refine ⟨p, pc, _, _, _, rfl, .lst (SqL.of upd_same), (fun z => by
        have := congrArg List.length z
        rw [List.length_take, List.length_nil] at this
        omega), by omega, P9, by omega, fun v H10 hv P10 x10 => ?_⟩
      have hv6 := List.mem_of_mem_take hv
      obtain ⟨r, hr6, t, rfl, ht7⟩ := paired_mem pu7 hv6
      have hw := ok6 r hr6
      have tt : ∀ u ws, H7 u = some (.tup ws) → H10 u = some (.tup ws) := fun u ws h => pen_tup P9 x10 u ws (sq _ _ (pen_tup P7 x8 u ws h))
      have hl10 := P9.keepI x10 (sq _ _ (P7.keepI x8 hl7))
      have rw10 := rw7.keepT tt
      have xx10 : Ext p H H10 := (x7.trans x8).trans ((Ext.same sq).trans x10)
      refine ⟨t, _, rfl, SqT.of (tt _ _ ht7), rfl, _, _, rfl, _, _, rfl, rfl, ?_⟩
      refine ⟨_, rfl, _, rfl, _, rfl, _, rfl, _, rfl, x, rfl, xl, ?_⟩
      have lcs : (cutS x (some ((r.1 : Nat) : Int)) (some ((r.2 : Nat) : Int))).length ≤ 10 := Nat.le_trans (cutS_length _ _ _) hx
      have okcs := cutS_lt okx (some ((r.1 : Nat) : Int)) (some ((r.2 : Nat) : Int))
      generalize cutS x (some ((r.1 : Nat) : Int)) (some ((r.2 : Nat) : Int)) = cs at lcs okcs
      have csL : cs.length ≤ sizeLine := Nat.le_of_lt (fewL (by omega))
      refine ⟨_, rfl, _, rfl, p, pc, z, 0, 3, _, rfl, by decide, by decide, fz.1, z100, P10, by omega, fun w1 H11 ww P11 x11 => ?_⟩
      have w1l : w1.length ≤ 3 := ww.2.1
      have c1 : (cutS cs none (some 1)).length ≤ 10 := Nat.le_trans (cutS_length _ _ _) lcs
      have c2 : (cutS cs (some 2) none).length ≤ 10 := Nat.le_trans (cutS_length _ _ _) lcs
      have c3 : (cutS cs (some 1) none).length ≤ 10 := Nat.le_trans (cutS_length _ _ _) lcs
      have q1 : (Str.ofString "q").length = 1 := rfl
      refine ⟨_, rfl, _, rfl, 1, rfl, cs, rfl, csL, _, rfl, 2, rfl, cs, rfl, csL, _, _, rfl, rfl, Nat.le_of_lt (fewL (by omega)), _, rfl, 1, rfl, cs, rfl, csL, _, _, rfl, rfl, Nat.le_of_lt (fewL (by omega)), by show 4 ≤ sizeLine; decide, fun b hb => ?_⟩
      have sb := same_new (o := .lst [.str w1, .str cs, .str (cutS cs none (some 1) ++ cutS cs (some 2) none), .str (cutS cs (some 1) none ++ Str.ofString "q")]) hb
      have P12 := P11.stay sb
      have hl12 := sb _ _ (P10.keepI x11 hl10)
      have rw12 := (rw10.keepT (pen_tup P10 x11)).keep sb
      refine ⟨_, rfl, .inl ⟨rfl, _, SqL.of hl12⟩, _, rfl, _, rfl, _, rfl, _, rfl, p, pc, _, _, _, rfl, .lst (SqL.of upd_same), (fun z => by cases z), by show 4 ≤ 1000; decide, P12, by omega, fun v H13 hv2 P13 x13 => ?_⟩
      have ev : ∃ y : Str, v = .str y ∧ y.length ≤ 20 ∧ Ltr y := by
        simp only [List.mem_cons, List.not_mem_nil, or_false] at hv2
        rcases hv2 with rfl | rfl | rfl | rfl
        · exact ⟨w1, rfl, by omega, lt_word fz ww⟩
        · exact ⟨cs, rfl, by omega, okcs⟩
        · exact ⟨_, rfl, by rw [strLen_append]; omega, lt_more (cutS_lt okcs _ _) (cutS_lt okcs _ _)⟩
        · exact ⟨_, rfl, by rw [strLen_append]; omega, lt_more (cutS_lt okcs _ _) (by decide +kernel)⟩
      obtain ⟨y, rfl, hy⟩ := ev
      refine ⟨by show 3 ≤ sizeLine; decide, fun u hu => ?_⟩
      have su := same_new (o := .tup [.int (r.1 : Nat), .int (r.2 : Nat), .str y]) hu
      have hl14 := su _ _ (P12.keepI x13 hl12)
      have rw14 := (rw12.keepT (pen_tup P12 x13)).keep su
      have P14 := P13.stay su
      refine ⟨lr, _, _, rfl, rfl, hl14, fewL (by omega), ?_⟩
      have ap := hpen.apart hlr
      have xx14 : Ext p H _ := (((xx10.trans x11).trans (Ext.same sb)).trans x13).trans (Ext.same su)
      refine ⟨_, rfl, r.2, xs ++ [.ref u], rs ++ [(r.1, r.2, y)], _, _, _, _, _, _, _, rfl, upd_same, ?_, okR_snoc ok3 (by rw [en3]; exact hw.1) hw.2.1 hw.2.2.1, endR_snoc, ?_, fun r' h' => ?_, (P14.set ap.1 ap.2).mono (by omega), xx14.set hlr⟩
      · exact Paired.snoc (rw14.keepT (upd_list hl14)) ⟨u, rfl, upd_list hl14 _ _ upd_same⟩
      · rw [List.length_append]
        exact Nat.add_le_add_right le3 1
      · rcases List.mem_append.mp h' with h' | h'
        · exact w3 r' h'
        · rw [List.mem_singleton.mp h']
          exact ⟨hy.1, hy.2, hw.2.2.2⟩
    · rintro σ H3 ⟨be, xs, rs, o5, o6, o7, o8, o9, o10, o11, rfl, hl3, rw3, ok3, en3, le3, w3, P3, x3⟩
      refine ⟨_, rfl, lr, xs, rfl, .inl ⟨SqL.of hl3, fun q hq => ?_⟩⟩
      have sq := same_new (o := .tup xs) hq
      exact k q xs rs _ upd_same (rw3.keep sq) ok3 (by omega) w3 ((P3.stay sq).mono (by omega)) (x3.trans (Ext.same sq))

end
end Vk
set_option Elab.async false
set_option maxRecDepth 100000
set_option linter.all false
namespace Vk
open PySem PySem.Spec PyProof.Rows L2
section
variable {P : Program} {w : World} {K : PySem.W.Frag} {mg : Str → Option Value} {base : Heap}
def srtB : PyData → Bool
  | .str z => decide (z.length ≤ 1000) && PyData.strOk z
  | _ => true
def elB : PyData → Bool
  | .tuple l => l.all srtB && decide (l.length ≤ 100)
  | _ => true
def okC (d : PyData) : Bool := okB d && srtB d && PyData.strOk d.shown && elB d
/-- the strings within a tuple are short -/
def El (d : PyData) : Prop := ∀ l, d = .tuple l → ∀ x ∈ l, Srt x
theorem srtB_srt {d : PyData} (h : srtB d = true) : Srt d := by
  cases d with
  | str z =>
    unfold srtB at h
    rw [Bool.and_eq_true, decide_eq_true_eq] at h
    exact h
  | _ => trivial
theorem okC_el {d : PyData} (h : okC d = true) : El d := by
  unfold okC at h
  rw [Bool.and_eq_true] at h
  rintro l rfl x hx
  exact srtB_srt (List.all_eq_true.mp (Bool.and_eq_true_iff.mp h.2).1 x hx)
theorem okC_srt {d : PyData} (h : okC d = true) : Srt d := by
  unfold okC at h
  rw [Bool.and_eq_true, Bool.and_eq_true, Bool.and_eq_true] at h
  cases d with
  | str z =>
    have q := h.1.1.2
    unfold srtB at q
    rw [Bool.and_eq_true, decide_eq_true_eq] at q
    exact q
  | _ => trivial
theorem okC_shs {d : PyData} (h : okC d = true) : Shs d := by
  unfold okC okB at h
  simp only [Bool.and_eq_true, decide_eq_true_eq] at h
  obtain ⟨⟨⟨⟨⟨⟨⟨⟨h1, h2⟩, h3⟩, _⟩, h5⟩, _⟩, _⟩, h8⟩, _⟩ := h
  refine ⟨h1, ?_, Nat.le_trans h3 (by decide), h8⟩
  have e : (PyData.list [d, d]).depth = max d.depth (max d.depth 0) + 1 := rfl
  rw [e] at h5
  omega
theorem okC_len {d : PyData} (h : okC d = true) : ∀ l, d = .tuple l → l.length ≤ 100 := by
  unfold okC at h
  rw [Bool.and_eq_true] at h
  rintro l rfl
  exact of_decide_eq_true (Bool.and_eq_true_iff.mp h.2).2
def spAny : Sp := fun vs H Q _ => ∃ (p c : Addr) (T : Nat), vs = [.ref p] ∧ Pen H p c T ∧ T < 1000000000 ∧ ∀ (v : V) (d : PyData) (H' : Hp), Th H' v d → okC d = true → New H v → Pen H' p c (T + 1) → Ext p H H' → Q v H'
abbrev ds1 : List PyData := [.none, .bool true, .bool false, .int 0, .int 1, .int (-1), .int (10 ^ (59 : Int).toNat), .str "", .str "a", .str "\t", .str "a\t", .str "ab", .tuple [], .tuple [.str "a"], .tuple [.str "a", .str "b"], .list [.str "a", .str "b"], .dict (kvD [])]
abbrev ds2 : List PyData := [.list [.int 1], .tuple [.str "a", .int 1], .tuple [.str "", .str "a"], .tuple [.str "a", .str "\t"], .tuple [.str "a", .str "b", .str "c"], .dict (kvD [("a", "b")]), .str "once", .tuple [.str (Txt.mul "a" 41), .str ""]]
abbrev ds3 : List PyData := [.tuple [.str "a", .str (Txt.mul "b" 41)], .str (Txt.mul "a" 41), .str (Txt.mul "b" 50), .tuple [.int 0, .int 1], .list [], .tuple [.str "a", .none]]
abbrev s_lany_value : Stmt := top 29
theorem sc_lany_value : FnScope ["_law_pen_here", "_law_some"] ["_law_pen_here"] (defScope s_lany_value) := ⟨rfl, rfl, rfl, by decide +kernel, rfl, by decide +kernel, by decide +kernel⟩
theorem b_lany_value {f : Addr} {fd : FuncData} (F : Fun K "_law_any_value" "_law_any_value" s_lany_value f fd) (T : Txt mg) (c_lpick : CalG P w K mg base CX0 2 "_law_pick" (spPick K)) : FnG P w K mg base CX0 3 f fd ["_law_pen_here"] spAny := by
  refine okG0 F sc_lany_value (fun vs H Q E h => ?_) (fun cdv A outer s H vs Q E hg hr h => ?_)
  · obtain ⟨p, c, T0, rfl, _⟩ := h
    rfl
  · have hu := hu_of hr
    have hu64 := hr.units
    obtain ⟨p, c, T0, rfl, hpen, hT, k⟩ := h
    have hr2 : Room 2 _ := hr
    refine ⟨_, (pss_cons (ps_set (i := 1) sc_lany_value.nd rfl (Or.inl rfl) (pe_lst (pa_cons pe_non (pa_cons pe_bl (pa_cons pe_bl (pa_cons pe_int (pa_cons pe_int (pa_cons (pe_un un_neg pe_int) (pa_cons (pe_op op_pow pe_int pe_int) (pa_cons pe_str (pa_cons pe_str (pa_cons pe_str (pa_cons pe_str (pa_cons pe_str (pa_cons (pe_tup pa_nil) (pa_cons (pe_tup (pa_cons pe_str pa_nil)) (pa_cons (pe_tup (pa_cons pe_str (pa_cons pe_str pa_nil))) (pa_cons (pe_ls1 (pa_cons pe_str (pa_cons pe_str pa_nil))) (pa_cons pe_dnewK pa_nil)))))))))))))))))))
      (pss_cons (ps_set (i := 1) sc_lany_value.nd rfl (Or.inl rfl) (pe_op op_cat (pv 1) (pe_lst (pa_cons (pe_ls1 (pa_cons pe_int pa_nil)) (pa_cons (pe_tup (pa_cons pe_str (pa_cons pe_int pa_nil))) (pa_cons (pe_tup (pa_cons pe_str (pa_cons pe_str pa_nil))) (pa_cons (pe_tup (pa_cons pe_str (pa_cons pe_str pa_nil))) (pa_cons (pe_tup (pa_cons pe_str (pa_cons pe_str (pa_cons pe_str pa_nil)))) (pa_cons (pe_disp (pps_cons pe_str pe_str pps_nil) (by rfl) (by rfl) (fun z => by cases z) (by decide)) (pa_cons pe_str (pa_cons (pe_tup (pa_cons (pe_op op_mulS pe_str pe_int) (pa_cons pe_str pa_nil))) pa_nil)))))))))))
      (pss_one (ps_ret (pe_cG c_lpick hg hr (by decide) pass0 (pa_cons (pv 0) (pa_cons (pe_op op_cat (pv 1) (pe_lst (pa_cons (pe_tup (pa_cons pe_str (pa_cons (pe_op op_mulS pe_str pe_int) pa_nil))) (pa_cons (pe_op op_mulS pe_str pe_int) (pa_cons (pe_op op_mulS pe_str pe_int) (pa_cons (pe_tup (pa_cons pe_int (pa_cons pe_int pa_nil))) (pa_cons (pe_ls1 pa_nil) (pa_cons (pe_tup (pa_cons pe_str (pa_cons pe_non pa_nil))) pa_nil)))))))) pa_nil))))))), ?_⟩
    refine seq_asg (mk2_many (ds := ds1) ?m1 ?l1 fun q1 xs1 H1 s1 hq1 t1 n1 => ?_)
    case m1 => repeat' (first | exact mks2_nil | refine mks2_cons ?_ ?_ | exact mk2_dnew | exact mk2_disp | refine mk2_tup ?_ (Nat.le_of_ble_eq_true rfl) | refine mk2_lst ?_ (Nat.le_of_ble_eq_true rfl) | exact mas_nil | refine mas_cons ?_ ?_ | exact ma_non | exact ma_bl | exact ma_int | exact ma_str | exact ma_neg | exact ma_pow ⟨by decide, by decide, by decide⟩ | exact ma_mul ⟨by decide, by decide, by decide, by decide +kernel⟩ | refine mk2_atm ?_)
    case l1 => exact Nat.le_of_ble_eq_true rfl
    refine seq_asg ⟨_, rfl, mk2_many (ds := ds2) ?m2 ?l2 fun q2 xs2 H2 s2 hq2 t2 n2 => ?_⟩
    case m2 => repeat' (first | exact mks2_nil | refine mks2_cons ?_ ?_ | exact mk2_dnew | exact mk2_disp | refine mk2_tup ?_ (Nat.le_of_ble_eq_true rfl) | refine mk2_lst ?_ (Nat.le_of_ble_eq_true rfl) | exact mas_nil | refine mas_cons ?_ ?_ | exact ma_non | exact ma_bl | exact ma_int | exact ma_str | exact ma_neg | exact ma_pow ⟨by decide, by decide, by decide⟩ | exact ma_mul ⟨by decide, by decide, by decide, by decide +kernel⟩ | refine mk2_atm ?_)
    case l2 => exact Nat.le_of_ble_eq_true rfl
    refine ⟨q1, q2, xs1, xs2, rfl, rfl, s2 _ _ hq1, hq2, few_len (by rw [paired_len t1, paired_len t2]; exact Nat.le_of_ble_eq_true rfl), fun q3 hq3 => ?_⟩
    refine ⟨_, rfl, _, rfl, mk2_many (ds := ds3) ?m3 ?l3 fun q4 xs4 H4 s4 hq4 t4 n4 => ?_⟩
    case m3 => repeat' (first | exact mks2_nil | refine mks2_cons ?_ ?_ | exact mk2_dnew | exact mk2_disp | refine mk2_tup ?_ (Nat.le_of_ble_eq_true rfl) | refine mk2_lst ?_ (Nat.le_of_ble_eq_true rfl) | exact mas_nil | refine mas_cons ?_ ?_ | exact ma_non | exact ma_bl | exact ma_int | exact ma_str | exact ma_neg | exact ma_pow ⟨by decide, by decide, by decide⟩ | exact ma_mul ⟨by decide, by decide, by decide, by decide +kernel⟩ | refine mk2_atm ?_)
    case l3 => exact Nat.le_of_ble_eq_true rfl
    refine ⟨q3, q4, _, xs4, rfl, rfl, s4 _ _ upd_same, hq4, few_len (by rw [List.length_append, paired_len t1, paired_len t2, paired_len t4]; exact Nat.le_of_ble_eq_true rfl), fun q5 hq5 => ?_⟩
    have g5 : Same H (upd H4 q5 (.lst (xs1 ++ xs2 ++ xs4))) := (((s1.trans s2).trans (same_new hq3)).trans s4).trans (same_new hq5)
    have a5 : Paired (Th (upd H4 q5 (.lst (xs1 ++ xs2 ++ xs4)))) (xs1 ++ xs2 ++ xs4) (ds1 ++ ds2 ++ ds3) := paired_app (paired_app (ths_keep (((s2.trans (same_new hq3)).trans s4).trans (same_new hq5)) t1) (ths_keep (((same_new hq3).trans s4).trans (same_new hq5)) t2)) (ths_keep (same_new hq5) t4)
    refine ⟨p, c, .ref q5, _, T0, rfl, .lst (SqL.of upd_same), ?_, ?_, hpen.stay g5, hT, fun v H6 m6 P6 x6 => ?_⟩
    · exact fun z => nomatch (congrArg List.length z).symm.trans (paired_len a5)
    · rw [paired_len a5]; exact Nat.le_of_ble_eq_true rfl
    · obtain ⟨d, hd, td⟩ := paired_mem a5 m6
      have nv : New H v := by
        rcases List.mem_append.mp m6 with m6 | m6
        · rcases List.mem_append.mp m6 with m6 | m6
          · exact n1 v m6
          · exact (n2 v m6).same s1
        · exact (n4 v m6).same ((s1.trans s2).trans (same_new hq3))
      refine k v d H6 (td.ext (hpen.stay g5) x6) ?_ nv P6 ((Ext.same g5).trans x6)
      exact List.all_eq_true.mp (by decide +kernel) d hd

end
end Vk
set_option Elab.async false
set_option maxRecDepth 100000
set_option linter.all false
set_option maxHeartbeats 4000000
namespace Vk
open PySem PySem.Spec PyProof.Rows L2
section
variable {P : Program} {w : World} {K : PySem.W.Frag} {mg : Str → Option Value} {base : Heap}
/-- a part of an exchange, as it stands among values -/
def row3 (x : Str) (l : Nat) : PyData → PyData → PyData → Option (Nat × Nat × Str)
  | .int b, .int e, .str n => if (inI (.int b) l ((x.length : Int) - 1) && (inI (.int e) (b + 1) x.length && (isT (.str n) && !twB x b.toNat e.toNat))) = true then some (b.toNat, e.toNat, n) else none
  | _, _, _ => none
def rowG (x : Str) (l : Nat) : PyData → Option (Nat × Nat × Str)
  | .tuple [d1, d2, d3] => row3 x l d1 d2 d3
  | _ => none
theorem rowG_eq {x : Str} {l : Nat} {b e : Int} {n : Str} : rowG x l (.tuple [.int b, .int e, .str n]) = if (inI (.int b) l ((x.length : Int) - 1) && (inI (.int e) (b + 1) x.length && (isT (.str n) && !twB x b.toNat e.toNat))) = true then some (b.toNat, e.toNat, n) else none := rfl
def spPartOk : Sp := fun vs H Q _ => ∃ v d x l, vs = [v, .str x, .int (l : Nat)] ∧ Th H v d ∧ El d ∧ x.length ≤ 100 ∧ Q (.bl (rowG x l d).isSome) H
theorem rowG_int {x : Str} {l : Nat} {d1 d2 d3 : PyData} (h : inI d1 l ((x.length : Int) - 1) = false) : rowG x l (.tuple [d1, d2, d3]) = none := by
  cases d1 with
  | int b =>
    cases d2 with
    | int e =>
      cases d3 with
      | str n =>
        rw [rowG_eq, h, Bool.false_and]
        rfl
      | _ => rfl
    | _ => rfl
  | _ => rfl
theorem rowG_end {x : Str} {l : Nat} {b : Int} {d2 d3 : PyData} (h : inI d2 (b + 1) x.length = false) : rowG x l (.tuple [.int b, d2, d3]) = none := by
  cases d2 with
  | int e =>
    cases d3 with
    | str n =>
      rw [rowG_eq, h, Bool.false_and, Bool.and_false]
      rfl
    | _ => rfl
  | _ => rfl
theorem rowG_new {x : Str} {l : Nat} {b e : Int} {d3 : PyData} (h : isT d3 = false) : rowG x l (.tuple [.int b, .int e, d3]) = none := by
  cases d3 with
  | str n =>
    rw [rowG_eq, h, Bool.false_and, Bool.and_false, Bool.and_false]
    rfl
  | _ => rfl
theorem inI_int {d : PyData} {lo hi : Int} (h : inI d lo hi = true) : ∃ i, d = .int i ∧ lo ≤ i ∧ i ≤ hi := by
  cases d with
  | int i =>
    have h : (decide (lo ≤ i) && decide (i ≤ hi)) = true := h
    rw [Bool.and_eq_true, decide_eq_true_eq, decide_eq_true_eq] at h
    exact ⟨i, rfl, h.1, h.2⟩
  | _ => cases h
theorem at_int {v : V} {i : Int} (a : Atm v (.int i)) : v = .int i := by
  cases a
  rfl
abbrev s_is_exchange_part : Stmt := top 14
theorem sc_is_exchange_part : FnScope ["value", "text", "least", "begin", "end", "new"] ["value", "text", "least"] (defScope s_is_exchange_part) := ⟨rfl, rfl, rfl, by decide +kernel, rfl, by decide +kernel, by decide +kernel⟩
theorem b_is_exchange_part {f : Addr} {fd : FuncData} (F : Fun K "is_exchange_part" "is_exchange_part" s_is_exchange_part f fd) (T : Txt mg) (c_is_text : CalG P w K mg base CX0 1 "is_text" (spTest isT)) (c_is_integer_in : CalG P w K mg base CX0 2 "is_integer_in" spInI) (c_stands_once : CalG P w K mg base CX0 2 "stands_once" spOnce) : FnG P w K mg base CX0 3 f fd ["value", "text", "least"] spPartOk := by
  refine okG0 F sc_is_exchange_part (fun vs H Q E h => ?_) (fun cdv A outer s H vs Q E hg hr h => ?_)
  · obtain ⟨v, d, x, l, rfl, _⟩ := h
    rfl
  · have hu := hu_of hr
    have hu64 := hr.units
    obtain ⟨v, d, x, l, rfl, th, el, hx, k⟩ := h
    have hr2 : Room 2 _ := hr
    have xl : x.length ≤ sizeLine := Nat.le_of_lt (fewL (by omega))
    obtain ⟨t, b, ty, kt, hb⟩ := kit_tup (K := K) th
    refine ⟨_, (pss_cons (ps_if (PW.pt (pw_or (pt_not (pt_val (pe_callB call_isi (by rfl) T.isinstance (by decide +kernel) (pa_cons (pv 0) (pa_cons (pe_bltn (v := .ty "tuple") (by rfl) T.tuple rfl rfl) pa_nil))))) (pw_or1 (pt_cmpR op_ne (pe_callB call_len (by rfl) T.len (by decide +kernel) (pa_cons (pv 0) pa_nil)) pe_int (nomark _))))) (pss_one (ps_ret pe_bl)) pss_nil)
      (pss_cons (ps_asg (pv 0) (pg_tup rfl (pgs_cons (pg_name (i := 3) sc_is_exchange_part.nd rfl (Or.inl rfl)) (pgs_cons (pg_name (i := 4) sc_is_exchange_part.nd rfl (Or.inl rfl)) (pgs_cons (pg_name (i := 5) sc_is_exchange_part.nd rfl (Or.inl rfl)) pgs_nil)))))
      (pss_cons (ps_if (PW.pt (pw_or (pt_not (pt_val (pe_cG c_is_integer_in hg hr (by decide) pass0 (pa_cons (pv 3) (pa_cons (pv 2) (pa_cons (pe_op op_sub (pe_callB call_len (by rfl) T.len (by decide +kernel) (pa_cons (pv 1) pa_nil)) pe_int) pa_nil)))))) (pw_or1 (pt_not (pt_val (pe_cG c_is_integer_in hg hr (by decide) pass0 (pa_cons (pv 4) (pa_cons (pe_op op_add (pv 3) pe_int) (pa_cons (pe_callB call_len (by rfl) T.len (by decide +kernel) (pa_cons (pv 1) pa_nil)) pa_nil))))))))) (pss_one (ps_ret pe_bl)) pss_nil)
      (pss_one (ps_ret (pe_and (pe_cG c_is_text hg hr (by decide) pass0 (pa_cons (pv 5) pa_nil)) (pe_one (pe_cG c_stands_once hg hr (by decide) pass0 (pa_cons (pv 1) (pa_cons (pe_slice sl_str (pv 1) (po_some (pv 3)) (po_some (pv 4))) pa_nil)))))))))), ?_⟩
    refine ⟨_, rfl, v, .ty "tuple", t, .type "tuple", b, rfl, .ty "tuple", ty, kt, _, rfl, ?_⟩
    cases th with
    | atm a => cases a <;> (subst hb; exact iteT (iteT k))
    | lst e n p => subst hb; exact iteT (iteT k)
    | dct e => subst hb; exact iteT (iteT k)
    | @tup a xs ds e pa =>
      subst hb
      refine iteF ⟨_, rfl, .ref a, xs.length, rfl, .inr ⟨_, SqT.of e, rfl⟩, rfl, _, rfl, ?_⟩
      match xs, ds, pa, e, el, k with
      | [], [], _, e, el, k => exact iteT k
      | [x1], [y1], _, e, el, k => exact iteT k
      | [x1, x2], [y1, y2], _, e, el, k => exact iteT k
      | x1 :: x2 :: x3 :: x4 :: xr, y1 :: y2 :: y3 :: y4 :: yr, _, e, el, k =>
        have z : (!decide (V.int ((x1 :: x2 :: x3 :: x4 :: xr).length : Nat) = V.int 3)) = true := by
          rw [decide_eq_false fun z => ?_]
          · rfl
          · have := V.int.inj z
            simp at this
            omega
        rw [z]
        exact iteT k
      | [v1, v2, v3], [d1, d2, d3], .cons p1 (.cons p2 (.cons p3 .nil)), e, el, k =>
        refine iteNS rfl ?_
        refine ⟨_, rfl, a, _, rfl, SqT.of e, rfl, _, _, rfl, _, _, rfl, _, _, rfl, rfl, ?_⟩
        refine ⟨_, rfl, _, rfl, _, rfl, _, _, rfl, ⟨xl, rfl⟩, _, _, rfl, rfl, v1, d1, _, _, rfl, .atm p1, _, rfl, ?_⟩
        cases h1 : inI d1 l ((x.length : Int) - 1) with
        | false =>
          rw [rowG_int h1] at k
          exact iteT (iteT k)
        | true =>
          obtain ⟨i, rfl, i1, i2⟩ := inI_int h1
          cases at_int p1
          refine iteF ⟨_, rfl, _, rfl, _, _, rfl, rfl, _, rfl, _, _, rfl, ⟨xl, rfl⟩, v2, d2, _, _, rfl, .atm p2, _, rfl, ?_⟩
          cases h2 : inI d2 (i + 1) x.length with
          | false =>
            rw [rowG_end h2] at k
            exact iteT k
          | true =>
            obtain ⟨j, rfl, j1, j2⟩ := inI_int h2
            cases at_int p2
            refine iteF ⟨_, rfl, v3, d3, rfl, .atm p3, el _ rfl _ (by simp), _, rfl, ?_⟩
            cases h3 : isT d3 with
            | false =>
              rw [rowG_new h3] at k
              exact iteF k
            | true =>
              obtain ⟨n, rfl⟩ := isT_str h3
              refine iteT ⟨_, rfl, _, rfl, _, rfl, _, rfl, _, rfl, _, rfl, x, rfl, xl, x, _, rfl, ?_⟩
              have eb : i = ((i.toNat : Nat) : Int) := by omega
              have ee : j = ((j.toNat : Nat) : Int) := by omega
              have q : (rowG x l (.tuple [.int i, .int j, .str n])).isSome = decide ((plc x (cutS x (some i) (some j))).length = 1) := by
                rw [rowG_eq, h1, h2, h3, Bool.true_and, Bool.true_and, Bool.true_and]
                have o := plc_one (x := x) (a := i.toNat) (b := j.toNat) (by omega) (by omega)
                rw [← eb, ← ee] at o
                cases w : twB x i.toNat j.toNat with
                | false =>
                  rw [decide_eq_true (o.mpr w)]
                  rfl
                | true =>
                  rw [decide_eq_false fun z => by rw [o.mp z] at w; cases w]
                  rfl
              rw [q] at k
              exact k

end
end Vk
set_option Elab.async false
set_option maxRecDepth 100000
set_option linter.all false
set_option maxHeartbeats 4000000
namespace Vk
open PySem PySem.Spec PyProof.Rows L2
section
variable {P : Program} {w : World} {K : PySem.W.Frag} {mg : Str → Option Value} {base : Heap}
/-- the first wrong part -/
def faultG (x : Str) : List PyData → Nat → Nat → Option Nat
  | [], _, _ => none
  | d :: t, l, i => match rowG x l d with
    | none => some i
    | some r => faultG x t r.2.1 (i + 1)
def faultD (x : Str) : PyData → Option Nat
  | .tuple ds => faultG x ds 0 0
  | _ => some 0
def fV : Option Nat → V
  | none => .non
  | some i => .int (i : Nat)
def ElG (d : PyData) : Prop := ∀ ds, d = .tuple ds → ds.length ≤ 100 ∧ ∀ e ∈ ds, El e
def rowD (r : Nat × Nat × Str) : PyData := .tuple [.int (r.1 : Nat), .int (r.2.1 : Nat), .str r.2.2]
theorem kit_tupG {H : Hp} {v : V} {d : PyData} (h : Tg H v d) : ∃ t b, TyX K H v t ∧ PySem.W.kitOne K t (.type "tuple") = some b ∧ b = isTupB d := by
  cases h with
  | one th n =>
    obtain ⟨t, b, ty, kt, hb⟩ := kit_tup (K := K) th
    refine ⟨t, b, ty, kt, hb.trans ?_⟩
    cases d with
    | tuple ds => exact absurd rfl (n ds)
    | _ => rfl
  | lst e p => exact ⟨.type "list", false, .base (.lst e), kit_ty (by decide +kernel), rfl⟩
  | tup e p => exact ⟨.type "tuple", true, .base (.tup e), kit_ty (by decide +kernel), rfl⟩
theorem rowG_some {x : Str} {l : Nat} {d : PyData} {r : Nat × Nat × Str} (h : rowG x l d = some r) : d = rowD r ∧ l ≤ r.1 ∧ r.1 < r.2.1 ∧ r.2.1 ≤ x.length ∧ isT (.str r.2.2) = true ∧ twB x r.1 r.2.1 = false := by
  unfold rowG at h
  split at h
  · rename_i d1 d2 d3
    unfold row3 at h
    split at h
    · rename_i b e n
      split at h
      · rename_i c
        cases h
        rw [Bool.and_eq_true, Bool.and_eq_true, Bool.and_eq_true] at c
        obtain ⟨c1, c2, c3, c4⟩ := c
        obtain ⟨i, e1, i1, i2⟩ := inI_int c1
        obtain ⟨j, e2, j1, j2⟩ := inI_int c2
        cases e1
        cases e2
        refine ⟨?_, by show l ≤ b.toNat; omega, by show b.toNat < e.toNat; omega, by show e.toNat ≤ x.length; omega, c3, ?_⟩
        · show PyData.tuple [.int b, .int e, .str n] = PyData.tuple [.int ((b.toNat : Nat) : Int), .int ((e.toNat : Nat) : Int), .str n]
          rw [show ((b.toNat : Nat) : Int) = b by omega, show ((e.toNat : Nat) : Int) = e by omega]
        · cases w : twB x b.toNat e.toNat with
          | false => rfl
          | true => rw [w] at c4; cases c4
      · cases h
    · cases h
  · cases h
theorem th_row {H : Hp} {v : V} {r : Nat × Nat × Str} (h : Th H v (rowD r)) : ∃ t, v = .ref t ∧ H t = some (.tup [.int (r.1 : Nat), .int (r.2.1 : Nat), .str r.2.2]) := by
  cases h with
  | atm a => cases a
  | @tup a xs ds e pa =>
    match xs, pa, e with
    | [v1, v2, v3], .cons p1 (.cons p2 (.cons p3 .nil)), e =>
      cases p1
      cases p2
      cases p3
      exact ⟨a, rfl, e⟩
theorem ths_rows {H : Hp} : ∀ {rs : List (Nat × Nat × Str)} {xs : List V}, Paired (Th H) xs (rs.map rowD) → Rw3 H xs rs
  | [], _, .nil => .nil
  | r :: rs, _, .cons a t => .cons (th_row a) (ths_rows t)
theorem rows_ths {H : Hp} : ∀ {rs : List (Nat × Nat × Str)} {xs : List V}, Rw3 H xs rs → Paired (Th H) xs (rs.map rowD)
  | [], _, .nil => .nil
  | r :: rs, _, .cons a t => .cons (by
      obtain ⟨u, rfl, h⟩ := a
      exact .tup h (.cons (.int _) (.cons (.int _) (.cons (.str _) .nil)))) (rows_ths t)
theorem fault_none {x : Str} : ∀ {ds : List PyData} {l i : Nat}, faultG x ds l i = none → ∃ rs : List (Nat × Nat × Str), ds = rs.map rowD ∧ OkR x.length l rs ∧ ∀ r ∈ rs, isT (.str r.2.2) = true ∧ twB x r.1 r.2.1 = false
  | [], l, i, _ => ⟨[], rfl, trivial, fun r hr => absurd hr List.not_mem_nil⟩
  | d :: t, l, i, h => by
    unfold faultG at h
    cases c : rowG x l d with
    | none =>
      rw [c] at h
      cases h
    | some r =>
      rw [c] at h
      obtain ⟨rs, e, ok, q⟩ := fault_none (ds := t) h
      obtain ⟨e1, h1, h2, h3, h4, h5⟩ := rowG_some c
      refine ⟨r :: rs, by rw [e1, e]; rfl, ⟨h1, h2, h3, ok⟩, fun r' hr => ?_⟩
      rcases List.mem_cons.mp hr with rfl | hr
      · exact ⟨h4, h5⟩
      · exact q r' hr
def unrow : PyData → Option (Nat × Nat × Str)
  | .tuple [.int b, .int e, .str n] => some (b.toNat, e.toNat, n)
  | _ => none
theorem unrow_rows (rs : List (Nat × Nat × Str)) : (rs.map rowD).filterMap unrow = rs := by
  induction rs with
  | nil => rfl
  | cons r t ih =>
    rw [List.map_cons, List.filterMap_cons, ih]
    rfl
/-- the text behind an exchange -/
def putX (x : Str) : PyData → Str
  | .tuple ds => putH x 0 (ds.filterMap unrow) ""
  | _ => ""
theorem putX_rows {x : Str} {rs : List (Nat × Nat × Str)} : putX x (.tuple (rs.map rowD)) = putH x 0 rs "" := by
  show putH x 0 ((rs.map rowD).filterMap unrow) "" = _
  rw [unrow_rows]
def spFirst : Sp := fun vs H Q _ => ∃ v d x, vs = [.str x, v] ∧ Tg H v d ∧ ElG d ∧ x.length ≤ 100 ∧ ∀ H', Same H H' → Q (fV (faultD x d)) H'
abbrev s_first_wrong : Stmt := top 15
theorem sc_first_wrong : FnScope ["text", "exchange", "least", "index", "part"] ["text", "exchange"] (defScope s_first_wrong) := ⟨rfl, rfl, rfl, by decide +kernel, rfl, by decide +kernel, by decide +kernel⟩
theorem b_first_wrong {f : Addr} {fd : FuncData} (F : Fun K "first_wrong" "first_wrong" s_first_wrong f fd) (T : Txt mg) (c_is_exchange_part : CalG P w K mg base CX0 3 "is_exchange_part" spPartOk) : FnG P w K mg base CX0 4 f fd ["text", "exchange"] spFirst := by
  refine okG0 F sc_first_wrong (fun vs H Q E h => ?_) (fun cdv A outer s H vs Q E hg hr h => ?_)
  · obtain ⟨v, d, x, rfl, _⟩ := h
    rfl
  · have hu := hu_of hr
    have hu64 := hr.units
    obtain ⟨v, d, x, rfl, tg, el, hx, k⟩ := h
    have hr3 : Room 3 _ := hr
    obtain ⟨t, b, ty, kt, hb⟩ := kit_tupG (K := K) tg
    refine ⟨_, (pss_cons (ps_if (pt_not (pt_val (pe_callB call_isi (by rfl) T.isinstance (by decide +kernel) (pa_cons (pv 1) (pa_cons (pe_bltn (v := .ty "tuple") (by rfl) T.tuple rfl rfl) pa_nil))))) (pss_one (ps_ret pe_int)) pss_nil)
      (pss_cons (ps_set (i := 2) sc_first_wrong.nd rfl (Or.inl rfl) pe_int)
      (pss_cons (ps_for PassesOwn.never rfl (pi_enumT (by rfl) T.enumerate (pa_cons (pv 1) pa_nil)) (pg_tup rfl (pgs_cons (pg_name (i := 3) sc_first_wrong.nd rfl (Or.inl rfl)) (pgs_cons (pg_name (i := 4) sc_first_wrong.nd rfl (Or.inl rfl)) pgs_nil))) (pss_cons (ps_if (pt_not (pt_val (pe_cG c_is_exchange_part hg hr (by decide) pass0 (pa_cons (pv 4) (pa_cons (pv 0) (pa_cons (pv 2) pa_nil)))))) (pss_one (ps_ret (pv 3))) pss_nil)
      (pss_one (ps_set (i := 2) sc_first_wrong.nd rfl (Or.inl rfl) (pe_ix ix_seq (pv 4) pe_int (fun _ _ => rfl))))))
      (pss_one (ps_ret pe_non))))), ?_⟩
    refine ⟨_, rfl, v, .ty "tuple", t, .type "tuple", b, rfl, .ty "tuple", ty, kt, _, rfl, ?_⟩
    cases tg with
    | one th n =>
      have e1 : isTupB d = false := by
        cases d with
        | tuple ds => exact absurd rfl (n ds)
        | _ => rfl
      have e2 : faultD x d = some 0 := by
        cases d with
        | tuple ds => exact absurd rfl (n ds)
        | _ => rfl
      rw [hb, e1]
      rw [e2] at k
      exact iteT (k H Same.rfl)
    | lst e p =>
      subst hb
      exact iteT (k H Same.rfl)
    | @tup a xs ds e pa =>
      subst hb
      have el := (el ds rfl).2
      have hlen := paired_len pa
      refine iteF ?_
      refine ⟨_, rfl, a, _, rfl, e, fun i m σ H2 => m + i = xs.length ∧ (∃ (l : Nat) (o3 o4 : Option V), σ = [some (.str x), some (.ref a), some (.int (l : Nat)), o3, o4] ∧ faultG x ds 0 0 = faultG x (ds.drop i) l i) ∧ Same H H2, ⟨xs.length, rfl, ⟨0, _, _, rfl, rfl⟩, Same.rfl⟩, ?_⟩
      rintro i m σ H2 ⟨hm, ⟨l, o3, o4, rfl, hb⟩, s2⟩
      by_cases hi : i < xs.length
      · obtain ⟨v, hv⟩ : ∃ v, xs[i]? = some v := ⟨xs[i], List.getElem?_eq_getElem hi⟩
        obtain ⟨d, hd, th⟩ := paired_at pa hv
        rw [drop_at hd] at hb
        refine .inr ⟨⟨_, _, s2 _ _ e, hv⟩, fun σ2 H3 => m - 1 + (i + 1) = xs.length ∧ (∃ (l : Nat) (o3 o4 : Option V), σ2 = [some (.str x), some (.ref a), some (.int (l : Nat)), o3, o4] ∧ faultG x ds 0 0 = faultG x (ds.drop (i + 1)) l (i + 1)) ∧ Same H H3, fun σ2 H3 p => ⟨m - 1, by omega, p⟩, ?_⟩
        rintro y H3 ⟨T, y2, xs2, rfl, hT, rfl, hxs, hy⟩
        have e3 := (s2 _ _ e).symm.trans hxs
        cases e3
        cases hv.symm.trans hy
        have s3 := s2.trans (same_new (o := .tup [.int (i : Nat), v]) hT)
        have eld := el d (List.mem_of_getElem? hd)
        have th3 := th.keep s3
        refine ⟨T, _, rfl, SqT.of upd_same, rfl, ?_⟩
        refine ⟨_, _, rfl, _, _, rfl, rfl, _, rfl, _, rfl, _, rfl, v, d, x, l, rfl, th3, eld, hx, _, rfl, ?_⟩
        cases hP : rowG x l d with
        | none =>
          have e1 : faultG x ds 0 0 = some i := hb.trans (by unfold faultG; rw [hP])
          have k : ∀ H', Same H H' → Q (fV (faultG x ds 0 0)) H' := k
          rw [e1] at k
          exact iteT ⟨_, rfl, k _ s3⟩
        | some r =>
          have e1 : faultG x ds 0 0 = faultG x (ds.drop (i + 1)) r.2.1 (i + 1) := hb.trans (by rw [faultG, hP])
          obtain ⟨ed, _⟩ := rowG_some hP
          subst ed
          obtain ⟨t, rfl, ht⟩ := th_row th3
          refine iteF ⟨_, rfl, .inr (.inl ⟨t, _, _, _, rfl, rfl, SqT.of ht, rfl, ?_⟩)⟩
          exact ⟨by omega, ⟨r.2.1, _, _, rfl, e1⟩, s3⟩
      · have e0 : i = xs.length := by omega
        have e1 : faultG x ds 0 0 = none := hb.trans (by rw [List.drop_eq_nil_of_le (by omega)]; rfl)
        refine .inl ⟨⟨_, s2 _ _ e, e0.symm⟩, ?_⟩
        have k : ∀ H', Same H H' → Q (fV (faultG x ds 0 0)) H' := k
        rw [e1] at k
        exact k _ s2

end
end Vk
set_option Elab.async false
set_option maxRecDepth 100000
set_option linter.all false
set_option maxHeartbeats 4000000
namespace Vk
open PySem PySem.Spec PyProof.Rows L2
section
variable {P : Program} {w : World} {K : PySem.W.Frag} {mg : Str → Option Value} {base : Heap}
theorem fault_tup {x : Str} {d : PyData} (h : faultD x d = none) : ∃ rs : List (Nat × Nat × Str), d = .tuple (rs.map rowD) ∧ OkR x.length 0 rs ∧ ∀ r ∈ rs, isT (.str r.2.2) = true ∧ twB x r.1 r.2.1 = false := by
  cases d with
  | tuple ds =>
    obtain ⟨rs, rfl, q⟩ := fault_none (ds := ds) h
    exact ⟨rs, rfl, q⟩
  | _ => cases h
theorem tg_rows {H : Hp} {v : V} {rs : List (Nat × Nat × Str)} (h : Tg H v (.tuple (rs.map rowD))) : ∃ q xs, v = .ref q ∧ H q = some (.tup xs) ∧ Rw3 H xs rs := by
  cases h with
  | one th n => exact absurd rfl (n _)
  | tup e p => exact ⟨_, _, rfl, e, ths_rows p⟩
theorem el_rows {rs : List (Nat × Nat × Str)} (el : ElG (.tuple (rs.map rowD))) : rs.length ≤ 100 ∧ ∀ r ∈ rs, r.2.2.length ≤ 1000 := by
  obtain ⟨h1, h2⟩ := el _ rfl
  rw [List.length_map] at h1
  refine ⟨h1, fun r hr => ?_⟩
  exact (h2 _ (List.mem_map.mpr ⟨r, hr, rfl⟩) _ rfl (.str r.2.2) (by simp)).1
def spExch (CN : Addr) : Sp := fun vs H Q E => ∃ v d x, vs = [.str x, v] ∧ Tg H v d ∧ ElG d ∧ x.length ≤ 100 ∧ (∀ i, faultD x d = some i → ∀ H1 dd, Same H H1 → H1 dd = none → E (.ref CN) (some dd) (upd H1 dd (.xd [(("index" : Str), .int (i : Nat))]))) ∧
  (faultD x d = none → ∀ H', Same H H' → Q (.str (putX x d)) H')
def spIsEx : Sp := fun vs H Q _ => ∃ v d x y, vs = [.str x, .str y, v] ∧ Tg H v d ∧ ElG d ∧ x.length ≤ 100 ∧ ∀ H', Same H H' → Q (.bl ((faultD x d).isNone && decide (putX x d = y))) H'
abbrev s_exchanged : Stmt := top 16
theorem sc_exchanged : FnScope ["text", "exchange", "wrong"] ["text", "exchange"] (defScope s_exchanged) := ⟨rfl, rfl, rfl, by decide +kernel, rfl, by decide +kernel, by decide +kernel⟩
theorem b_exchanged {f : Addr} {fd : FuncData} (F : Fun K "exchanged" "exchanged" s_exchanged f fd) (T : Txt mg) (c_first_wrong : CalG P w K mg base CX0 4 "first_wrong" spFirst) (c_text_behind : CalG P w K mg base CX0 1 "text_behind" spBehind) {C_NoExchange : Addr} (c_NoExchange : ClsI P w K mg base 1 "NoExchange" C_NoExchange ["index"]) : FnG P w K mg base (L2.CX P w) 5 f fd ["text", "exchange"] (spExch C_NoExchange) := by
  refine okG F sc_exchanged (fun vs H Q E h => ?_) (fun cdv A outer s H vs Q E hg hr h => ?_)
  · obtain ⟨v, d, x, rfl, _⟩ := h
    rfl
  · have hu := hu_of hr
    have hu64 := hr.units
    obtain ⟨v, d, x, rfl, tg, el, hx, k1, k2⟩ := h
    refine ⟨_, (pss_cons (ps_set (i := 2) sc_exchanged.nd rfl (Or.inl rfl) (pe_cG c_first_wrong hg hr (by decide) pass0 (pa_cons (pv 0) (pa_cons (pv 1) pa_nil))))
      (pss_cons (ps_if (pt_cmpR op_notN (pv 2) pe_non (nomark _)) (pss_one (ps_raise rfl (takes_of rfl rfl rfl rfl) (pmk_k c_NoExchange hg hr (by decide) pass0 (pa_cons (pv 2) pa_nil)))) pss_nil)
      (pss_one (ps_ret (pe_cG c_text_behind hg hr (by decide) pass0 (pa_cons (pv 0) (pa_cons (pv 1) pa_nil))))))), ?_⟩
    refine ⟨_, rfl, _, rfl, v, d, x, rfl, tg, el, hx, fun H1 s1 => ?_⟩
    refine ⟨_, rfl, rfl, _, rfl, ?_⟩
    cases hf : faultD x d with
    | some i => exact iteT ⟨_, rfl, rfl, fun dd hd => k1 i hf _ dd s1 hd⟩
    | none =>
      obtain ⟨rs, rfl, ok, _⟩ := fault_tup hf
      obtain ⟨q, xs, rfl, hq, rw0⟩ := tg_rows tg
      obtain ⟨l1, l2⟩ := el_rows el
      refine iteF ⟨_, rfl, _, rfl, x, q, xs, rs, rfl, hx, s1 _ _ hq, rw0.keep s1, l1, l2, fun H2 s2 => ?_⟩
      have z := k2 hf H2 (s1.trans s2)
      rw [putX_rows] at z
      exact z

abbrev s_is_exchange : Stmt := top 17
theorem sc_is_exchange : FnScope ["text", "other", "value"] ["text", "other", "value"] (defScope s_is_exchange) := ⟨rfl, rfl, rfl, by decide +kernel, rfl, by decide +kernel, by decide +kernel⟩
theorem b_is_exchange {f : Addr} {fd : FuncData} (F : Fun K "is_exchange" "is_exchange" s_is_exchange f fd) (T : Txt mg) (c_first_wrong : CalG P w K mg base CX0 4 "first_wrong" spFirst) (c_text_behind : CalG P w K mg base CX0 1 "text_behind" spBehind) : FnG P w K mg base CX0 5 f fd ["text", "other", "value"] spIsEx := by
  refine okG0 F sc_is_exchange (fun vs H Q E h => ?_) (fun cdv A outer s H vs Q E hg hr h => ?_)
  · obtain ⟨v, d, x, y, rfl, _⟩ := h
    rfl
  · have hu := hu_of hr
    have hu64 := hr.units
    obtain ⟨v, d, x, y, rfl, tg, el, hx, k⟩ := h
    have hr4 : Room 4 _ := hr
    refine ⟨_, (pss_one (ps_ret (pe_and (pe_cmpR op_isN (pe_cG c_first_wrong hg hr (by decide) pass0 (pa_cons (pv 0) (pa_cons (pv 2) pa_nil))) pe_non (nomark _)) (pe_one (pe_cmpR op_eq (pe_cG c_text_behind hg hr (by decide) pass0 (pa_cons (pv 0) (pa_cons (pv 2) pa_nil))) (pv 1) (nomark _)))))), ?_⟩
    refine ⟨_, rfl, _, rfl, v, d, x, rfl, tg, el, hx, fun H1 s1 => ?_⟩
    refine ⟨rfl, _, rfl, ?_⟩
    cases hf : faultD x d with
    | some i =>
      rw [hf] at k
      exact iteF (k H1 s1)
    | none =>
      obtain ⟨rs, rfl, ok, _⟩ := fault_tup hf
      obtain ⟨q, xs, rfl, hq, rw0⟩ := tg_rows tg
      obtain ⟨l1, l2⟩ := el_rows el
      refine iteT ⟨_, rfl, _, rfl, x, q, xs, rs, rfl, hx, s1 _ _ hq, rw0.keep s1, l1, l2, fun H2 s2 => ?_⟩
      have z := k H2 (s1.trans s2)
      rw [hf, putX_rows] at z
      refine ⟨_, rfl, rfl, ?_⟩
      rw [show decide (V.str (putH x 0 rs "") = V.str y) = decide (putH x 0 rs "" = y) from decide_eq_decide.mpr ⟨fun e => V.str.inj e, fun e => by rw [e]⟩]
      exact z

end
end Vk
set_option Elab.async false
set_option maxRecDepth 100000
set_option linter.all false
set_option maxHeartbeats 4000000
namespace Vk
open PySem PySem.Spec PyProof.Rows L2
section
variable {P : Program} {w : World} {K : PySem.W.Frag} {mg : Str → Option Value} {base : Heap}
def spNum : Sp := fun vs H Q _ => ∃ v d lo hi, vs = [v, .int lo, .int hi] ∧ Th H v d ∧ Q (.bl (inI d lo hi)) H
abbrev s_lis_number : Stmt := top 25
theorem sc_lis_number : FnScope ["_law_thing", "_law_least", "_law_greatest"] ["_law_thing", "_law_least", "_law_greatest"] (defScope s_lis_number) := ⟨rfl, rfl, rfl, by decide +kernel, rfl, by decide +kernel, by decide +kernel⟩
theorem b_lis_number {f : Addr} {fd : FuncData} (F : Fun K "_law_is_number" "_law_is_number" s_lis_number f fd) (T : Txt mg) : FnG P w K mg base CX0 1 f fd ["_law_thing", "_law_least", "_law_greatest"] spNum := by
  refine okG0 F sc_lis_number (fun vs H Q E h => ?_) (fun cdv A outer s H vs Q E hg hr h => ?_)
  · obtain ⟨v, d, lo, hi, rfl, _⟩ := h
    rfl
  · have hu := hu_of hr
    have hu64 := hr.units
    obtain ⟨v, d, lo, hi, rfl, th, k⟩ := h
    obtain ⟨t, b, c, ty, kt, kc, hb, hno⟩ := kit_int (K := K) th
    refine ⟨_, (pss_one (ps_ret (pe_and (pe_callB call_isi (by rfl) T.isinstance (by decide +kernel) (pa_cons (pv 0) (pa_cons (pe_bltn (v := .ty "int") (by rfl) T.int rfl rfl) pa_nil))) (pe_and (pe_not (pe_callB call_isi (by rfl) T.isinstance (by decide +kernel) (pa_cons (pv 0) (pa_cons (pe_bltn (v := .ty "bool") (by rfl) T.bool rfl rfl) pa_nil)))) (pe_one (pe_chain op_le op_le (pv 1) (pv 0) (pv 2))))))), ?_⟩
    refine ⟨_, rfl, v, .ty "int", t, .type "int", b, rfl, .ty "int", ty, kt, _, rfl, ?_⟩
    cases hI : isIntB d with
    | false =>
      rw [inI_no hI] at k
      cases b with
      | false => exact iteF k
      | true =>
        have ec : c = true := hno hI rfl
        subst ec
        exact iteT ⟨_, rfl, v, .ty "bool", t, .type "bool", true, rfl, .ty "bool", ty, kc, _, rfl, _, rfl, iteF k⟩
    | true =>
      rw [hI, Bool.and_eq_true] at hb
      obtain ⟨rfl, hc⟩ := hb
      have ec : c = false := by
        cases c with
        | false => rfl
        | true => cases hc
      subst ec
      obtain ⟨i, rfl, rfl⟩ := int_th th hI
      have k : Q (.bl (decide (lo ≤ i) && decide (i ≤ hi))) H := k
      refine iteT ⟨_, rfl, .int i, .ty "bool", t, .type "bool", false, rfl, .ty "bool", ty, kc, _, rfl, _, rfl, ?_⟩
      refine iteT ⟨_, rfl, _, rfl, _, _, rfl, rfl, _, rfl, ?_⟩
      cases h1 : decide (lo ≤ i) with
      | false =>
        rw [h1, Bool.false_and] at k
        exact iteF k
      | true =>
        rw [h1, Bool.true_and] at k
        exact iteT ⟨_, rfl, _, _, rfl, rfl, k⟩

def spSpot : Sp := fun vs H Q _ => ∃ (p c : Addr) (x : Str) (T : Nat), vs = [.ref p, .str x] ∧ x.length ≤ 100 ∧ Pen H p c T ∧ T + 1000 < 1000000000 ∧
  ∀ (t : Addr) (a b : Int) (H' : Hp), H' t = some (.tup [.int a, .int b]) → 0 ≤ a → a ≤ x.length → 0 ≤ b → b ≤ x.length + 1 → Pen H' p c (T + 10) → Ext p H H' → Q (.ref t) H'
abbrev s_lnspot : Stmt := top 33
theorem sc_lnspot : FnScope ["_law_pen_here", "_law_text_here", "_law_size", "_law_a"] ["_law_pen_here", "_law_text_here"] (defScope s_lnspot) := ⟨rfl, rfl, rfl, by decide +kernel, rfl, by decide +kernel, by decide +kernel⟩
theorem b_lnspot {f : Addr} {fd : FuncData} (F : Fun K "_law_nspot" "_law_nspot" s_lnspot f fd) (T : Txt mg) (c_ldraw : CalG P w K mg base CX0 1 "_law_draw" spDraw) (c_lpick : CalG P w K mg base CX0 2 "_law_pick" (spPick K)) : FnG P w K mg base CX0 3 f fd ["_law_pen_here", "_law_text_here"] spSpot := by
  refine okG0 F sc_lnspot (fun vs H Q E h => ?_) (fun cdv A outer s H vs Q E hg hr h => ?_)
  · obtain ⟨p, pc, x, T0, rfl, _⟩ := h
    rfl
  · have hu := hu_of hr
    have hu64 := hr.units
    obtain ⟨p, pc, x, T0, rfl, hx, hpen, hT, k⟩ := h
    have hr2 : Room 2 _ := hr
    have xl : x.length ≤ sizeLine := Nat.le_of_lt (fewL (by omega))
    refine ⟨_, (pss_cons (ps_set (i := 2) sc_lnspot.nd rfl (Or.inl rfl) (pe_callB call_len (by rfl) T.len (by decide +kernel) (pa_cons (pv 1) pa_nil)))
      (pss_cons (ps_set (i := 3) sc_lnspot.nd rfl (Or.inl rfl) (pe_cG c_lpick hg hr (by decide) pass0 (pa_cons (pv 0) (pa_cons (pe_lst (pa_cons pe_int (pa_cons (pv 2) (pa_cons (pe_cG c_ldraw hg hr (by decide) pass0 (pa_cons (pv 0) (pa_cons (pe_op op_add (pv 2) pe_int) pa_nil))) (pa_cons (pe_cG c_ldraw hg hr (by decide) pass0 (pa_cons (pv 0) (pa_cons (pe_op op_add (pv 2) pe_int) pa_nil))) pa_nil))))) pa_nil))))
      (pss_one (ps_ret (pe_tup (pa_cons (pv 3) (pa_cons (pe_cG c_lpick hg hr (by decide) pass0 (pa_cons (pv 0) (pa_cons (pe_lst (pa_cons (pv 3) (pa_cons (pv 2) (pa_cons (pe_op op_add (pv 3) (pe_cG c_ldraw hg hr (by decide) pass0 (pa_cons (pv 0) (pa_cons (pe_op op_add (pe_op op_sub (pv 2) (pv 3)) pe_int) pa_nil)))) (pa_cons (pe_callB (call_min2 rfl) (by rfl) T.min (by decide +kernel) (pa_cons (pv 2) (pa_cons (pe_op op_add (pv 3) pe_int) pa_nil))) pa_nil))))) pa_nil))) pa_nil))))))), ?_⟩
    refine ⟨_, rfl, _, _, rfl, ⟨xl, rfl⟩, ?_⟩
    refine ⟨_, rfl, _, rfl, _, rfl, _, rfl, _, _, rfl, rfl, p, pc, _, _, rfl, by omega, by omega, hpen, by omega, fun d1 H1 a1 b1 P1 x1 => ?_⟩
    refine ⟨_, rfl, _, rfl, _, _, rfl, rfl, p, pc, _, _, rfl, by omega, by omega, P1, by omega, fun d2 H2 a2 b2 P2 x2 => ?_⟩
    refine ⟨by show 4 ≤ sizeLine; decide, fun b hb => ?_⟩
    have sb := same_new (o := .lst [.int 0, .int (x.length : Nat), .int d1, .int d2]) hb
    have P3 := P2.stay sb
    refine ⟨p, pc, _, _, _, rfl, .lst (SqL.of upd_same), (fun z => by cases z), by show 4 ≤ 1000; decide, P3, by omega, fun v H4 hv P4 x4 => ?_⟩
    have ev : ∃ a : Int, v = .int a ∧ 0 ≤ a ∧ a ≤ x.length := by
      simp only [List.mem_cons, List.not_mem_nil, or_false] at hv
      rcases hv with rfl | rfl | rfl | rfl
      · exact ⟨_, rfl, by omega, by omega⟩
      · exact ⟨_, rfl, by omega, by omega⟩
      · exact ⟨_, rfl, by omega, by omega⟩
      · exact ⟨_, rfl, by omega, by omega⟩
    obtain ⟨a, rfl, ha0, ha1⟩ := ev
    refine ⟨_, rfl, _, rfl, _, rfl, _, rfl, _, rfl, _, rfl, _, rfl, _, rfl, _, _, rfl, rfl, _, _, rfl, rfl, p, pc, _, _, rfl, by omega, by omega, P4, by omega, fun d3 H5 a3 b3 P5 x5 => ?_⟩
    refine ⟨_, _, rfl, rfl, _, rfl, _, rfl, _, _, rfl, rfl, _, _, rfl, ?_⟩
    have mi : 0 ≤ (if a + 1 < (x.length : Int) then a + 1 else (x.length : Int)) ∧ (if a + 1 < (x.length : Int) then a + 1 else (x.length : Int)) ≤ x.length + 1 := by split <;> omega
    generalize (if a + 1 < (x.length : Int) then a + 1 else (x.length : Int)) = mi0 at mi
    refine ⟨by show 4 ≤ sizeLine; decide, fun b2 hb2 => ?_⟩
    have sb2 := same_new (o := .lst [.int a, .int (x.length : Nat), .int (a + d3), .int mi0]) hb2
    have P6 := P5.stay sb2
    refine ⟨p, pc, _, _, _, rfl, .lst (SqL.of upd_same), (fun z => by cases z), by show 4 ≤ 1000; decide, P6, by omega, fun v H7 hv P7 x7 => ?_⟩
    have ev : ∃ c : Int, v = .int c ∧ 0 ≤ c ∧ c ≤ x.length + 1 := by
      simp only [List.mem_cons, List.not_mem_nil, or_false] at hv
      rcases hv with rfl | rfl | rfl | rfl
      · exact ⟨_, rfl, by omega, by omega⟩
      · exact ⟨_, rfl, by omega, by omega⟩
      · exact ⟨_, rfl, by omega, by omega⟩
      · exact ⟨_, rfl, mi.1, mi.2⟩
    obtain ⟨c, rfl, hc0, hc1⟩ := ev
    refine ⟨by show 2 ≤ sizeLine; decide, fun t ht => ?_⟩
    have st := same_new (o := .tup [.int a, .int c]) ht
    exact k t a c _ upd_same ha0 ha1 hc0 hc1 ((P7.stay st).mono (by omega)) ((((((x1.trans x2).trans (Ext.same sb)).trans x4).trans x5).trans (Ext.same sb2)).trans (x7.trans (Ext.same st)))

end
end Vk
set_option Elab.async false
set_option maxRecDepth 100000
set_option linter.all false
set_option maxHeartbeats 4000000
namespace Vk
open PySem PySem.Spec PyProof.Rows L2
section
variable {P : Program} {w : World} {K : PySem.W.Frag} {mg : Str → Option Value} {base : Heap}
theorem inI_less {d : PyData} {lo hi hi2 : Int} (h : inI d lo hi2 = false) (le : hi ≤ hi2) : inI d lo hi = false := by
  cases d with
  | int i =>
    have h : (decide (lo ≤ i) && decide (i ≤ hi2)) = false := h
    show (decide (lo ≤ i) && decide (i ≤ hi)) = false
    cases a : decide (lo ≤ i) with
    | false => rfl
    | true =>
      rw [a, Bool.true_and] at h
      rw [Bool.true_and]
      have := of_decide_eq_false h
      exact decide_eq_false (by omega)
  | _ => rfl
theorem row3_all {x : Str} {l : Nat} {i j : Int} {n : Str} (h1 : (l : Int) ≤ i) (h2 : i + 1 ≤ j) (h3 : j ≤ x.length) (h4 : isT (.str n) = true) : rowG x l (.tuple [.int i, .int j, .str n]) = if twB x i.toNat j.toNat = false then some (i.toNat, j.toNat, n) else none := by
  have e1 : inI (.int i) l ((x.length : Int) - 1) = true := by
    show (decide ((l : Int) ≤ i) && decide (i ≤ (x.length : Int) - 1)) = true
    rw [decide_eq_true h1, decide_eq_true (by omega)]
    rfl
  have e2 : inI (.int j) (i + 1) x.length = true := by
    show (decide (i + 1 ≤ j) && decide (j ≤ (x.length : Int))) = true
    rw [decide_eq_true h2, decide_eq_true h3]
    rfl
  rw [rowG_eq, e1, e2, h4, Bool.true_and, Bool.true_and, Bool.true_and]
  cases twB x i.toNat j.toNat <;> rfl
abbrev s_lnfault : Stmt := top 35
theorem sc_lnfault : FnScope ["_law_text_here", "_law_thing", "_law_behind", "_law_k", "_law_row"] ["_law_text_here", "_law_thing"] (defScope s_lnfault) := ⟨rfl, rfl, rfl, by decide +kernel, rfl, by decide +kernel, by decide +kernel⟩
theorem b_lnfault {f : Addr} {fd : FuncData} (F : Fun K "_law_nfault" "_law_nfault" s_lnfault f fd) (T : Txt mg) (c_lis_number : CalG P w K mg base CX0 1 "_law_is_number" spNum) (c_lis_text : CalG P w K mg base CX0 2 "_law_is_text" (spSays isT)) (c_lnonce : CalG P w K mg base CX0 2 "_law_nonce" spNonce) : FnG P w K mg base CX0 3 f fd ["_law_text_here", "_law_thing"] spFirst := by
  refine okG0 F sc_lnfault (fun vs H Q E h => ?_) (fun cdv A outer s H vs Q E hg hr h => ?_)
  · obtain ⟨v, d, x, rfl, _⟩ := h
    rfl
  · have hu := hu_of hr
    have hu64 := hr.units
    obtain ⟨v, d, x, rfl, tg, el, hx, k⟩ := h
    have hr2 : Room 2 _ := hr
    have xl : x.length ≤ sizeLine := Nat.le_of_lt (fewL (by omega))
    obtain ⟨t, b, ty, kt, hb⟩ := kit_tupG (K := K) tg
    refine ⟨_, (pss_cons (ps_if (pt_not (pt_val (pe_callB call_isi (by rfl) T.isinstance (by decide +kernel) (pa_cons (pv 1) (pa_cons (pe_bltn (v := .ty "tuple") (by rfl) T.tuple rfl rfl) pa_nil))))) (pss_one (ps_ret pe_int)) pss_nil)
      (pss_cons (ps_set (i := 2) sc_lnfault.nd rfl (Or.inl rfl) pe_int)
      (pss_cons (ps_for PassesOwn.never rfl (pi_range1 rfl T.range (pa_cons (pe_callB call_len (by rfl) T.len (by decide +kernel) (pa_cons (pv 1) pa_nil)) pa_nil)) (pg_name (i := 3) sc_lnfault.nd rfl (Or.inl rfl)) (pss_cons (ps_set (i := 4) sc_lnfault.nd rfl (Or.inl rfl) (pe_ix ix_seq (pv 1) (pv 3) (fun _ _ => rfl)))
      (pss_cons (ps_if (PW.pt (pw_or (pt_not (pt_val (pe_callB call_isi (by rfl) T.isinstance (by decide +kernel) (pa_cons (pv 4) (pa_cons (pe_bltn (v := .ty "tuple") (by rfl) T.tuple rfl rfl) pa_nil))))) (pw_or (pt_cmpR op_ne (pe_callB call_len (by rfl) T.len (by decide +kernel) (pa_cons (pv 4) pa_nil)) pe_int (nomark _)) (pw_or1 (pt_not (pt_val (pe_cG c_lis_number hg hr (by decide) pass0 (pa_cons (pe_ix ix_seq (pv 4) pe_int (fun _ _ => rfl)) (pa_cons (pv 2) (pa_cons (pe_callB call_len (by rfl) T.len (by decide +kernel) (pa_cons (pv 0) pa_nil)) pa_nil)))))))))) (pss_one (ps_ret (pv 3))) pss_nil)
      (pss_cons (ps_if (PW.pt (pw_or (pt_not (pt_val (pe_cG c_lis_number hg hr (by decide) pass0 (pa_cons (pe_ix ix_seq (pv 4) pe_int (fun _ _ => rfl)) (pa_cons (pe_op op_add (pe_ix ix_seq (pv 4) pe_int (fun _ _ => rfl)) pe_int) (pa_cons (pe_callB call_len (by rfl) T.len (by decide +kernel) (pa_cons (pv 0) pa_nil)) pa_nil)))))) (pw_or1 (pt_not (pt_val (pe_cG c_lis_text hg hr (by decide) pass0 (pa_cons (pe_ix ix_seq (pv 4) pe_int (fun _ _ => rfl)) pa_nil))))))) (pss_one (ps_ret (pv 3))) pss_nil)
      (pss_cons (ps_if (pt_not (pt_val (pe_cG c_lnonce hg hr (by decide) pass0 (pa_cons (pv 0) (pa_cons (pe_ix ix_seq (pv 4) pe_int (fun _ _ => rfl)) (pa_cons (pe_ix ix_seq (pv 4) pe_int (fun _ _ => rfl)) pa_nil)))))) (pss_one (ps_ret (pv 3))) pss_nil)
      (pss_one (ps_set (i := 2) sc_lnfault.nd rfl (Or.inl rfl) (pe_ix ix_seq (pv 4) pe_int (fun _ _ => rfl)))))))))
      (pss_one (ps_ret pe_non))))), ?_⟩
    refine ⟨_, rfl, v, .ty "tuple", t, .type "tuple", b, rfl, .ty "tuple", ty, kt, _, rfl, ?_⟩
    cases tg with
    | one th n =>
      have e1 : isTupB d = false := by
        cases d with
        | tuple ds => exact absurd rfl (n ds)
        | _ => rfl
      have e2 : faultD x d = some 0 := by
        cases d with
        | tuple ds => exact absurd rfl (n ds)
        | _ => rfl
      rw [hb, e1]
      rw [e2] at k
      exact iteT (k H Same.rfl)
    | lst e p =>
      subst hb
      exact iteT (k H Same.rfl)
    | @tup a xs ds e pa =>
      subst hb
      have xsl := (el ds rfl).1
      have el := (el ds rfl).2
      have hlen := paired_len pa
      have k : ∀ H', Same H H' → Q (fV (faultG x ds 0 0)) H' := k
      refine iteF ?_
      refine ⟨_, rfl, .ref a, xs.length, rfl, .inr ⟨_, SqT.of e, rfl⟩, _, rfl, by omega, by omega, ?_⟩
      refine for_range (lo := 0) (n := xs.length) (fun i σ H' => ∃ (l : Nat) (o3 o4 : Option V), σ = [some (.str x), some (.ref a), some (.int (l : Nat)), o3, o4] ∧ faultG x ds 0 0 = faultG x (ds.drop i) l i ∧ Same H H') ?_ ?_ ?_
      · exact ⟨0, _, _, rfl, rfl, Same.rfl⟩
      · rintro i σ H2 hi ⟨l, o3, o4, rfl, hb, s2⟩
        obtain ⟨v, hv⟩ : ∃ v, xs[i]? = some v := ⟨xs[i], List.getElem?_eq_getElem hi⟩
        obtain ⟨d, hd, th⟩ := paired_at pa hv
        rw [drop_at hd] at hb
        have eld := el d (List.mem_of_getElem? hd)
        have th3 := th.keep s2
        have ix : atI xs ((i : Nat) : Int) = some v := atI_nat hv
        rw [Int.zero_add]
        have none_k : rowG x l d = none → ∀ H', Same H H' → Q (.int (i : Nat)) H' := fun hn => by
          have e1 : faultG x ds 0 0 = some i := hb.trans (by unfold faultG; rw [hn])
          rw [e1] at k
          exact k
        refine ⟨_, rfl, _, rfl, .inr (.inl ⟨a, _, _, _, rfl, rfl, SqT.of (s2 _ _ e), ix, ?_⟩)⟩
        obtain ⟨t2, b2, ty2, kt2, hb2⟩ := kit_tup (K := K) th3
        refine ⟨_, rfl, v, .ty "tuple", t2, .type "tuple", b2, rfl, .ty "tuple", ty2, kt2, _, rfl, ?_⟩
        cases th3 with
        | atm a => cases a <;> (subst hb2; exact iteT (iteT ⟨_, rfl, none_k rfl _ s2⟩))
        | lst e n p => subst hb2; exact iteT (iteT ⟨_, rfl, none_k rfl _ s2⟩)
        | dct e => subst hb2; exact iteT (iteT ⟨_, rfl, none_k rfl _ s2⟩)
        | @tup a2 ys ys2 e2 pa2 =>
          subst hb2
          refine iteF ⟨_, rfl, .ref a2, ys.length, rfl, .inr ⟨_, SqT.of e2, rfl⟩, rfl, _, rfl, ?_⟩
          match ys, ys2, pa2, e2, eld, none_k, hb with
          | [], [], _, e2, eld, none_k, hb => exact iteT (iteT ⟨_, rfl, none_k rfl _ s2⟩)
          | [x1], [y1], _, e2, eld, none_k, hb => exact iteT (iteT ⟨_, rfl, none_k rfl _ s2⟩)
          | [x1, x2], [y1, y2], _, e2, eld, none_k, hb => exact iteT (iteT ⟨_, rfl, none_k rfl _ s2⟩)
          | x1 :: x2 :: x3 :: x4 :: xr, y1 :: y2 :: y3 :: y4 :: yr, _, e2, eld, none_k, hb =>
            have z : (!decide (V.int ((x1 :: x2 :: x3 :: x4 :: xr).length : Nat) = V.int 3)) = true := by
              rw [decide_eq_false fun z => ?_]
              · rfl
              · have := V.int.inj z
                simp at this
                omega
            rw [z]
            exact iteT (iteT ⟨_, rfl, none_k rfl _ s2⟩)
          | [v1, v2, v3], [d1, d2, d3], .cons p1 (.cons p2 (.cons p3 .nil)), e2, eld, none_k, hb =>
            refine iteNS rfl ?_
            refine ⟨_, rfl, .inr (.inl ⟨a2, _, _, v1, rfl, rfl, SqT.of e2, rfl, _, rfl, _, rfl, _, _, rfl, ⟨xl, rfl⟩, v1, d1, _, _, rfl, .atm p1, _, rfl, ?_⟩)⟩
            cases h1 : inI d1 l (x.length : Int) with
            | false => exact iteT ⟨_, rfl, none_k (rowG_int (inI_less h1 (by omega))) _ s2⟩
            | true =>
              obtain ⟨i0, rfl, i1, i2⟩ := inI_int h1
              cases at_int p1
              refine iteF ?_
              refine ⟨_, rfl, .inr (.inl ⟨a2, _, _, v2, rfl, rfl, SqT.of e2, rfl, _, rfl, .inr (.inl ⟨a2, _, _, _, rfl, rfl, SqT.of e2, rfl, _, _, rfl, rfl, _, rfl, _, _, rfl, ⟨xl, rfl⟩, v2, d2, _, _, rfl, .atm p2, _, rfl, ?_⟩)⟩)⟩
              cases h2 : inI d2 (i0 + 1) (x.length : Int) with
              | false => exact iteT (iteT ⟨_, rfl, none_k (rowG_end h2) _ s2⟩)
              | true =>
                obtain ⟨j0, rfl, j1, j2⟩ := inI_int h2
                cases at_int p2
                refine iteF ?_
                refine ⟨_, rfl, .inr (.inl ⟨a2, _, _, v3, rfl, rfl, SqT.of e2, rfl, v3, d3, rfl, .atm p3, eld _ rfl _ (by simp), fun H4 s4 => ⟨_, rfl, ?_⟩⟩)⟩
                have s24 := s2.trans s4
                have e4 := s4 _ _ e2
                cases h3 : isT d3 with
                | false => exact iteT ⟨_, rfl, none_k (rowG_new h3) _ s24⟩
                | true =>
                  obtain ⟨n, rfl⟩ := isT_str h3
                  cases p3
                  have er := row3_all (x := x) (l := l) i1 j1 j2 h3
                  have eb : i0 = ((i0.toNat : Nat) : Int) := by omega
                  have ee : j0 = ((j0.toNat : Nat) : Int) := by omega
                  refine iteF ?_
                  refine ⟨_, rfl, _, rfl, .inr (.inl ⟨a2, _, _, _, rfl, rfl, SqT.of e4, rfl, _, rfl, .inr (.inl ⟨a2, _, _, _, rfl, rfl, SqT.of e4, rfl, x, i0.toNat, j0.toNat, ?_, hx, (fun _ => by omega), fun H5 s5 => ⟨_, rfl, ?_⟩⟩)⟩)⟩
                  · rw [← eb, ← ee]
                    rfl
                  have s25 := s24.trans s5
                  have e5 := s5 _ _ e4
                  have lt : i0.toNat < j0.toNat := by omega
                  cases w : twB x i0.toNat j0.toNat with
                  | true =>
                    rw [w] at er
                    rw [decide_eq_false (fun z => nomatch z.2)]
                    exact iteT ⟨_, rfl, none_k er _ s25⟩
                  | false =>
                    rw [w] at er
                    rw [decide_eq_true ⟨lt, rfl⟩]
                    refine iteF ?_
                    refine ⟨_, rfl, .inr (.inl ⟨a2, _, _, _, rfl, rfl, SqT.of e5, rfl, ?_⟩)⟩
                    refine ⟨j0.toNat, some (.int (i : Nat)), some (.ref a2), ?_, hb.trans (by rw [faultG, er]; rfl), s25⟩
                    rw [← ee]
                    rfl
      · rintro σ H2 ⟨l, o3, o4, rfl, hb, s2⟩
        have e1 : faultG x ds 0 0 = none := hb.trans (by rw [List.drop_of_length_le (by omega)]; rfl)
        rw [e1] at k
        exact k _ s2

def spNcost : Sp := fun vs H Q _ => ∃ (q : Addr) (e : Int) (xs : List V) (rs : List (Nat × Nat × Str)), vs = [.ref q, .int e] ∧ H q = some (.tup xs) ∧ Rw3 H xs rs ∧ rs.length ≤ 100 ∧ (∀ r ∈ rs, r.2.2.length ≤ 100) ∧ ∀ H', Same H H' → Q (.int ((rs.map (costE e)).sum)) H'
abbrev s_lncost : Stmt := top 37
theorem sc_lncost : FnScope ["_law_rows", "_law_extra", "_law_a", "_law_b", "_law_fresh"] ["_law_rows", "_law_extra"] (defScope s_lncost) := ⟨rfl, rfl, rfl, by decide +kernel, rfl, by decide +kernel, by decide +kernel⟩
theorem b_lncost {f : Addr} {fd : FuncData} (F : Fun K "_law_ncost" "_law_ncost" s_lncost f fd) (T : Txt mg) : FnG P w K mg base CX0 1 f fd ["_law_rows", "_law_extra"] spNcost := by
  refine okG0 F sc_lncost (fun vs H Q E h => ?_) (fun cdv A outer s H vs Q E hg hr h => ?_)
  · obtain ⟨q, e0, xs, rs, rfl, _⟩ := h
    rfl
  · have hu := hu_of hr
    have hu64 := hr.units
    obtain ⟨q, e0, xs, rs, rfl, hq, rw0, hl, hz, k⟩ := h
    have glen := paired_len rw0
    refine ⟨_, (pss_one (ps_ret (pe_callB (cr_sum rfl) (by rfl) T.sum (by decide +kernel) (pa_cons (pe_lc (own := [("_law_a", 2), ("_law_b", 3), ("_law_fresh", 4)]) (g := (gTup K 3 (gCons (gName 2) (gCons (gName 3) (gCons (gName 4) gNil))))) (tt := tYes) rfl sc_lncost.nd (pi_tup (pv 0)) (blkOk_by (own := [("_law_a", 2), ("_law_b", 3), ("_law_fresh", 4)]) (N := ["_law_rows", "_law_extra", "_law_a", "_law_b", "_law_fresh"]) (sc := defScope s_lncost) (by decide +kernel)) (fun _ _ _ _ _ => (pg_tupK (K := K) rfl rfl (pgs_cons (pg_name (i := 2) sc_lncost.nd rfl (Or.inl rfl)) (pgs_cons (pg_name (i := 3) sc_lncost.nd rfl (Or.inl rfl)) (pgs_cons (pg_name (i := 4) sc_lncost.nd rfl (Or.inl rfl)) pgs_nil))))) (fun _ _ _ _ _ => pts_nil) (fun _ _ _ _ _ => (pe_op op_add (pe_op op_add (pe_op op_sub (pv 3) (pv 2)) (pe_callB (call_lenK (K := K) rfl) (by rfl) T.len (by decide +kernel) (pa_cons (pv 4) pa_nil))) (pv 1)))) pa_nil)))), ?_⟩
    refine ⟨_, rfl, q, rfl, ⟨_, SqT.of hq⟩, fun D hD => ?_⟩
    have sD := same_new (o := .lst []) hD
    refine lc_tup (K := K) (a := q) (xs := xs) (fun n H' => H' D = some (.lst ((rs.take n).map fun r => V.int (costE e0 r))) ∧ Same H H') ?_ ?_ ?_ ?_
    · exact ⟨upd_same, sD⟩
    · rintro n H' _ ⟨_, sm⟩
      exact SqT.of (sm _ _ hq)
    · rintro n v H' hv ⟨hDz, sm⟩
      obtain ⟨r, hr1, t, rfl, ht⟩ := paired_at rw0 hv
      have zl : r.2.2.length ≤ sizeLine := Nat.le_of_lt (fewL (by have := hz r (List.mem_of_getElem? hr1); omega))
      refine ⟨t, _, rfl, SqT.of (sm _ _ ht), rfl, _, _, rfl, _, _, rfl, _, _, rfl, rfl, ?_⟩
      refine ⟨rfl, _, rfl, _, rfl, _, _, rfl, rfl, _, rfl, _, _, rfl, ⟨zl, rfl⟩, _, _, rfl, rfl, _, rfl, _, _, rfl, rfl, ?_⟩
      refine ⟨_, hDz, fewL (by rw [List.length_map, List.length_take]; omega), ?_, upd_out hD sm⟩
      rw [upd_same, List.take_add_one, hr1, Option.toList_some, List.map_append]
      rfl
    · rintro H2 ⟨hD2, s2⟩
      rw [List.take_of_length_le (by omega)] at hD2
      refine ⟨D, rs.map (costE e0), rfl, SqL.of ?_, k _ s2⟩
      rw [hD2, List.map_map]
      rfl

end
end Vk
set_option Elab.async false
set_option maxRecDepth 100000
set_option linter.all false
set_option maxHeartbeats 4000000
namespace Vk
open PySem PySem.Spec PyProof.Rows L2 LamX NdefX StX
section
variable {P : Program} {w : World} {K : PySem.W.Frag} {mg : Str → Option Value} {base : Heap}
def forB : Stmt → List Stmt
  | .For _ _ b _ _ => b
  | _ => []
def ifT : Stmt → Expr
  | .If c _ _ _ => c
  | _ => .Constant .none 0 ⟨0, 0, 0, 0⟩
def cmpL : Expr → Expr
  | .Compare l _ _ _ => l
  | e => e
def or1 : Expr → Expr
  | .BoolOp _ (e :: _) _ => e
  | e => e
def arg0 : Expr → Expr
  | .Call _ (e :: _) _ _ => e
  | e => e
def lamPs : Expr → Arguments
  | .Lambda p _ _ _ => p
  | _ => defArgs (top 0)
def lamB : Expr → Expr
  | .Lambda _ b _ _ => b
  | e => e
def lamSc : Expr → Scope
  | .Lambda _ _ s _ => s
  | _ => defScope (top 0)
def lam (e : Expr) (q : Str) (cl : List (Str × Addr)) (c : Addr) : LF := ⟨q, lamPs e, lamB e, lamSc e, cl, c⟩
abbrev nopS : Stmt := .Pass ⟨0, 0, 0, 0⟩
abbrev s_law : Stmt := top 40
abbrev outF : List Stmt := forB ((defBody s_law).getD 1 nopS)
abbrev inF : List Stmt := forB (outF.getD 10 nopS)
abbrev e_l0 : Expr := arg0 (cmpL (ifT (outF.getD 4 nopS)))
abbrev e_l1 : Expr := arg0 (cmpL (or1 (ifT (inF.getD 3 nopS))))
/-- what the lambdas do -/
def spL (CN : Addr) : SpL := fun ws H Q E => ∃ v1 v2, ws = [some v1, some v2] ∧ spExch CN [v1, v2] H Q E
theorem lk0 {CN : Addr} (k_exchanged : CalK P w K mg base (L2.CX P w) 5 "exchanged" (spExch CN) ["exchange", "text"] List.reverse) (q : Str) (cl : List (Str × Addr)) (c : Addr) : LamK P w K mg base 6 (lam e_l0 q cl c) ["_law_here", "_law_rows"] (spL CN) := by
  refine lamk_of (N := ["_law_here", "_law_rows"]) (nscope_by (show nscB _ _ _ (lamSc e_l0) = true by decide +kernel)) (fun _ _ => rfl) (fun A outer s H f ws Q E hg hr hl h => ?_)
  obtain ⟨v1, v2, rfl, k⟩ := h
  exact ⟨_, pe_kw k_exchanged hg hr (by decide) (passes_call (takes_of rfl rfl rfl rfl) (fun _ _ _ _ h => h)) (pk_cons (pv 1) (pk_cons (pv 0) pk_nil)), _, rfl, _, rfl, rfl, k⟩
theorem lk1 {CN : Addr} (c_exchanged : CalG P w K mg base (L2.CX P w) 5 "exchanged" (spExch CN)) (q : Str) (cl : List (Str × Addr)) (c : Addr) : LamK P w K mg base 6 (lam e_l1 q cl c) ["_law_here", "_law_thing"] (spL CN) := by
  refine lamk_of (N := ["_law_here", "_law_thing"]) (nscope_by (show nscB _ _ _ (lamSc e_l1) = true by decide +kernel)) (fun _ _ => rfl) (fun A outer s H f ws Q E hg hr hl h => ?_)
  obtain ⟨v1, v2, rfl, k⟩ := h
  exact ⟨_, pe_cG c_exchanged hg hr (by decide) (passes_call (takes_of rfl rfl rfl rfl) (fun _ _ _ _ h => h)) (pa_cons (pv 0) (pa_cons (pv 1) pa_nil)), _, rfl, _, rfl, k⟩
/-- try: return ("..", x()) of a lambda that x holds -/
def tTryLamT (z : Str) (f : Addr) (F : LF) (ws : List (Option V)) (sp : SpL) (n : Nat) : WX → TS := fun W D σ H => ∃ E : XK, (∀ cls d (σ' : L2.St) H', σ'.length = n → E cls d H' → W cls d σ' H') ∧ σ[0]? = some (some (.ref f)) ∧ H f = some (LamO f F) ∧ H F.c = some (CodeO F.c F.qual) ∧ sp ws H (fun v H1 => 2 ≤ sizeLine ∧ ∀ t, H1 t = none → D.rt (.ref t) (upd H1 t (.tup [.str z, v]))) E
theorem pss_tryLamT {X : Cx} {W : WX} {pn : List (Addr × Obj)} {xe : Value → Shared → Prop} {f : Addr} {F : LF} {fr : List Str} {ws : List (Option V)} {sp : SpL} {j k n : Nat} {x z : Str} {kk : Nat} {p0 p1 p2 p3 p4 : Pos} (tk : Takes (X.tr pn xe) W) (C : CellsAt F.cl fr ws X.s_0.heap X.H_0) (hx0 : X.ex = [])
    (L : LamK X.prog X.w X.K X.mg X.base k F fr sp) (hg : X.A.guards = some []) (hr : Room j X.A) (hk : k ≤ j) (hl : X.N.length = n) (hN : X.N[0]? = some x) (hv : Vis X.env.scope x) (hd : (x == ("__debug__" : Str)) = false := by decide) (hcd : (x == ("__classdict__" : Str)) = false := by decide) :
    PSs (X.tr pn xe) [.Return (some (.Tuple [.Constant (.str z) 0 p0, .Call (.Name x p1) [] [] p2] kk p4)) p3] (tTryLamT z f F ws sp n W) := by
  refine ⟨fun pins s σ H D I h => ?_⟩
  obtain ⟨E, hW, h1, h2, h3, h4⟩ := h
  exact (pss_one (ps_ret (pe_tup (pa_cons pe_str (pa_cons (pe_lamact (X := X.tr pn xe) (f0 := f) C hx0 L hg hr hk (passes_len tk fun cls d σ' H' le => hW cls d σ' H' (le.trans hl)) hN hv hd hcd) pa_nil))))).run pins s σ H D I ⟨h1, h2, h3, h4⟩
def Enex (CN : Addr) (Q : VK) : XK := fun cls d H => cls = .ref CN ∧ ∃ dd, ∃ i : Nat, d = some dd ∧ H dd = some (.xd [(("index" : Str), .int i)]) ∧ ∀ t, H t = none → Q (.ref t) (upd H t (.tup [.str "no", .int i, .bl true]))
def spNex (P : Program) (w : World) (K : PySem.W.Frag) (mg : Str → Option Value) (base : Heap) (CN : Addr) : Heap → Sp := fun h vs H Q _ => ∃ f F fr ws spl, vs = [.ref f] ∧ LamK P w K mg base 6 F fr spl ∧ H f = some (LamO f F) ∧ H F.c = some (CodeO F.c F.qual) ∧ CellsAt F.cl fr ws h H ∧ spl ws H (fun v H1 => 2 ≤ sizeLine ∧ ∀ t, H1 t = none → Q (.ref t) (upd H1 t (.tup [.str "told", v]))) (Enex CN Q)
abbrev s_lnexchanged : Stmt := top 38
theorem sc_lnexchanged : FnScope ["_law_call", "e"] ["_law_call"] (defScope s_lnexchanged) := ⟨rfl, rfl, rfl, by decide +kernel, rfl, by decide +kernel, by decide +kernel⟩
theorem b_lnexchanged {f CN : Addr} {fd : FuncData} (F : Fun K "_law_nexchanged" "_law_nexchanged" s_lnexchanged f fd) (T : Txt mg) (c_NoExchange : ClsI P w K mg base 1 "NoExchange" CN ["index"]) (oo : PySem.W.exmOne K (.ref CN) (.ref CN) = some true) (vo : PySem.W.kitOne K (.ref CN) (.type "ValueError") = some true) :
    FnH P w K mg base CX0 7 f fd ["_law_call"] (spNex P w K mg base CN) := by
  refine okH F sc_lnexchanged (fun h0 vs H Q E h => ?_) (fun cdv A outer s H vs Q E hg hr h => ?_)
  · obtain ⟨f1, F1, fr, ws, spl, rfl, _⟩ := h
    rfl
  · have hu := hu_of hr
    have hu64 := hr.units
    obtain ⟨f1, F1, fr, ws, spl, rfl, L, hf1, hc1, C1, k⟩ := h
    refine ⟨_, PSs.nox (pss_one (ps_try_each (W0 := fun _ _ _ _ => False) (tb := tTryLamT "told" f1 F1 ws spl 2) rfl rfl sc_lnexchanged.nd takes0 (fun W pn xe tk _ => pss_tryLamT tk C1 rfl L hg hr (by decide) rfl rfl (Or.inl rfl))
      (.named (c := .ref CN) (i := 1) rfl rfl ⟨by rfl, by decide, .inl c_NoExchange.hm⟩ (fun a oe cls d pn hz hf => pss_one (ps_ret (pe_tup (pa_cons pe_str (pa_cons (pe_xf c_NoExchange.T.xf (c_NoExchange.no _ (by simp)) hz hf (pv 1)) (pa_cons (pe_callB (call_isEd c_NoExchange.T hz hf) (by rfl) T.isinstance (by decide +kernel) (pa_cons (pv 1) (pa_cons (pe_bltn (v := .ty "ValueError") (by rfl) T.ValueError rfl rfl) pa_nil))) pa_nil)))))) .nil))), ?_⟩
    refine ⟨Enex CN Q, fun cls d σ2 H2 le hE => ?_, rfl, hf1, hc1, k⟩
    · obtain ⟨rfl, dd, i, rfl, hd, q⟩ := hE
      have s1 : ∀ a : Addr, (σ2.set 1 (some (V.ref a)))[1]? = some (some (V.ref a)) := fun a => by rw [List.getElem?_set_self (by omega)]
      refine ⟨true, oo, fun _ a na => ?_, fun z => nomatch z⟩
      exact ⟨.ref a, s1 a, rfl, rfl, dd, _, _, rfl, hd, rfl, .ref a, s1 a, .ty "ValueError", .type "ValueError", true, dd, _, rfl, rfl, rfl, hd, (fun u r => r), vo, few_len (Nat.le_of_ble_eq_true rfl), fun t ht => q t ht⟩
end
end Vk
set_option Elab.async false
set_option maxRecDepth 100000
set_option linter.all false
set_option maxHeartbeats 4000000
namespace Vk
open PySem PySem.Spec PyProof.Rows L2
section
variable {P : Program} {w : World} {K : PySem.W.Frag} {mg : Str → Option Value} {base : Heap}
def GoodG (d : PyData) : Prop := ElG d ∧ Shn d
def OkE (e : PyData) : Prop := El e ∧ e.showable = true ∧ e.depth ≤ 59 ∧ e.shown.length ≤ 2000
def OkA (a : PyData) : Prop := Srt a ∧ (∀ l, a ≠ .tuple l) ∧ a.showable = true ∧ a.depth ≤ 0 ∧ a.shown.length ≤ 300
theorem atm_el {v : V} {e : PyData} (a : Atm v e) : El e := fun l z => by cases a <;> cases z
theorem oke_any {d : PyData} (ok : okC d = true) : OkE d := by
  have q := okC_shs ok
  have el := okC_el ok
  unfold okC okB at ok
  simp only [Bool.and_eq_true, decide_eq_true_eq] at ok
  obtain ⟨⟨⟨⟨⟨⟨⟨⟨h1, h2⟩, h3⟩, _⟩, h5⟩, _⟩, _⟩, h8⟩, _⟩ := ok
  exact ⟨el, h1, q.2.1, Nat.le_trans h3 (by decide)⟩
theorem good_any {H : Hp} {v : V} {d : PyData} (th : Th H v d) (ok : okC d = true) : GoodG d := by
  have q := okC_shs ok
  refine ⟨fun ds z => ⟨okC_len ok ds z, fun e he => ?_⟩, q.shn⟩
  subst z
  cases th with
  | atm a => cases a
  | tup e pa =>
    obtain ⟨x, _, a⟩ := paired_back pa he
    exact atm_el a
theorem many_shn {ds : List PyData} (hl : ds.length ≤ 100) (h : ∀ e ∈ ds, OkE e) : Shn (.list ds) ∧ Shn (.tuple ds) := by
  have h1 : PyData.showableAll ds = true := showableAll_iff fun d hd => (h d hd).2.1
  have h2 : PyData.depthAll ds ≤ 59 := depthAll_le fun d hd => (h d hd).2.2.1
  have h3 := piled_le (ts := ds.map PyData.shown) (n := 2000) fun t ht => by
    obtain ⟨d, hd, rfl⟩ := List.mem_map.mp ht
    exact (h d hd).2.2.2
  rw [List.length_map] at h3
  have h4 := listText_le (ds.map PyData.shown)
  have h5 := fmt_text (ds.map PyData.shown)
  refine ⟨⟨h1, Nat.succ_le_succ h2, ?_⟩, ⟨h1, Nat.succ_le_succ h2, ?_⟩⟩
  · show (listText (PyData.shownAll ds)).length ≤ _
    rw [shownAll_map, sizeLine_eq]
    omega
  · show (tupleText (PyData.shownAll ds)).length ≤ _
    rw [shownAll_map, sizeLine_eq]
    omega
theorem good_tup {ds : List PyData} (hl : ds.length ≤ 100) (h : ∀ e ∈ ds, OkE e) : GoodG (.tuple ds) :=
  ⟨fun es z => by cases z; exact ⟨hl, fun e he => (h e he).1⟩, (many_shn hl h).2⟩
theorem good_lst {ds : List PyData} (hl : ds.length ≤ 100) (h : ∀ e ∈ ds, OkE e) : GoodG (.list ds) :=
  ⟨(fun es z => by cases z), (many_shn hl h).1⟩
theorem oka_int {i : Int} (h : i.natAbs < 10 ^ 100) : OkA (.int i) := by
  have q := Showy.int h
  exact ⟨trivial, (fun _ z => nomatch z), q.sh, q.dp, Nat.le_trans q.ln (by decide)⟩
theorem oka_str {y : Str} (h : y.length ≤ 20) (ok : PyData.strOk y = true) : OkA (.str y) := by
  refine ⟨⟨by omega, ok⟩, (fun _ z => nomatch z), by simp [PyData.showable], by simp [PyData.depth], ?_⟩
  have h2 : y.cps.all (· < 0x110000) = true := ok
  rw [Array.all_eq_true_iff_forall_mem] at h2
  have q := StrLaws.reprText_len y (fun c hc => by
    have := h2 c (by simpa using hc)
    have : c < 0x110000 := by simpa using this
    exact Nat.lt_trans this (by decide))
  show (reprText y).length ≤ 300
  omega
theorem oka_non : OkA .none := ⟨trivial, (fun _ z => nomatch z), rfl, by decide, by decide +kernel⟩
theorem oka_bl : OkA (.bool true) := ⟨trivial, (fun _ z => nomatch z), rfl, by decide, by decide +kernel⟩
theorem atoms_fit {l : List PyData} (hl : l.length ≤ 5) (h : ∀ a ∈ l, OkA a) : PyData.showableAll l = true ∧ PyData.depthAll l ≤ 58 ∧ (listText (PyData.shownAll l)).length ≤ 2000 ∧ (tupleText (PyData.shownAll l)).length ≤ 2000 := by
  have h3 := piled_le (ts := l.map PyData.shown) (n := 300) fun t ht => by
    obtain ⟨d, hd, rfl⟩ := List.mem_map.mp ht
    exact (h d hd).2.2.2.2
  rw [List.length_map] at h3
  have h4 := listText_le (l.map PyData.shown)
  have h5 := fmt_text (l.map PyData.shown)
  refine ⟨showableAll_iff fun d hd => (h d hd).2.2.1, depthAll_le fun d hd => Nat.le_trans (h d hd).2.2.2.1 (by decide), ?_, ?_⟩
  · rw [shownAll_map]
    omega
  · rw [shownAll_map]
    omega
theorem oke_tup {l : List PyData} (hl : l.length ≤ 5) (h : ∀ a ∈ l, OkA a) : OkE (.tuple l) := by
  obtain ⟨h1, h2, h3, h4⟩ := atoms_fit hl h
  exact ⟨fun es z => by cases z; exact fun e he => (h e he).1, h1, Nat.succ_le_succ h2, h4⟩
theorem oke_lst {l : List PyData} (hl : l.length ≤ 5) (h : ∀ a ∈ l, OkA a) : OkE (.list l) := by
  obtain ⟨h1, h2, h3, h4⟩ := atoms_fit hl h
  exact ⟨(fun es z => by cases z), h1, Nat.succ_le_succ h2, h3⟩
theorem oke_row {r : Nat × Nat × Str} (h1 : r.1 ≤ 100) (h2 : r.2.1 ≤ 100) (h3 : r.2.2.length ≤ 20) (ok : PyData.strOk r.2.2 = true) : OkE (rowD r) := by
  have sm : ∀ n : Nat, n ≤ 100 → OkA (.int (n : Nat)) := fun n hn => oka_int (Nat.lt_of_le_of_lt (show ((n : Nat) : Int).natAbs ≤ 100 from hn) (by decide +kernel))
  refine oke_tup (by show 3 ≤ 5; decide) fun a ha => ?_
  simp only [List.mem_cons, List.not_mem_nil, or_false] at ha
  rcases ha with rfl | rfl | rfl
  · exact sm _ h1
  · exact sm _ h2
  · exact oka_str h3 ok
/-! values that a frame's names make -/
def MkAV (σ : L2.St) (t : TE) (d : PyData) : Prop := ∃ v, Atm v d ∧ ∀ H Q, Q v H → t σ H Q
def MkAVs (σ : L2.St) (t : TA) (ds : List PyData) : Prop := ∃ vs, Paired Atm vs ds ∧ ∀ H Q, Q vs H → t σ H Q
def MkV (σ : L2.St) (t : TE) (d : PyData) : Prop := ∀ H Q, (∀ v H', Same H H' → Th H' v d → Q v H') → t σ H Q
def MkVs (σ : L2.St) (t : TA) (ds : List PyData) : Prop := ∀ H Q, (∀ vs H', Same H H' → Paired (Th H') vs ds → Q vs H') → t σ H Q
section
variable {σ : L2.St} {t te : TE} {ta : TA} {d : PyData} {ds : List PyData}
theorem mav_var {i : Nat} {v : V} (a : Atm v d) (h : σ[i]? = some (some v) := by rfl) : MkAV σ (tVar i) d := ⟨v, a, fun _ _ q => ⟨v, h, q⟩⟩
theorem mav_c (a : MkA t d) : MkAV σ t d := by
  obtain ⟨v, h1, h2⟩ := a
  exact ⟨v, h1, h2 σ⟩
theorem mav_add {i : Nat} {n m : Int} (h : σ[i]? = some (some (.int n)) := by rfl) : MkAV σ (tOp (rI0 fun i j => V.int (i + j)) (tVar i) (tC (.int m))) (.int (n + m)) := ⟨_, .int _, fun _ _ q => ⟨_, h, n, m, rfl, rfl, q⟩⟩
theorem mavs_nil : MkAVs σ tNil [] := ⟨[], .nil, fun _ _ q => q⟩
theorem mavs_cons (a : MkAV σ te d) (b : MkAVs σ ta ds) : MkAVs σ (tCons te ta) (d :: ds) := by
  obtain ⟨v, h1, h2⟩ := a
  obtain ⟨vs, g1, g2⟩ := b
  exact ⟨v :: vs, .cons h1 g1, fun H Q q => h2 H _ (g2 H _ q)⟩
theorem mv_tup (a : MkAVs σ ta ds) (hl : ds.length ≤ 1000) : MkV σ (tTup ta) (.tuple ds) := by
  obtain ⟨vs, g1, g2⟩ := a
  exact fun H Q q => g2 H _ ⟨few_len ((paired_len g1).symm ▸ hl), fun p hp => q _ _ (same_new hp) (.tup upd_same g1)⟩
theorem mv_lst (a : MkAVs σ ta ds) (hl : ds.length ≤ 1000) : MkV σ (tLs1 ta) (.list ds) := by
  obtain ⟨vs, g1, g2⟩ := a
  exact fun H Q q => g2 H _ ⟨few_len ((paired_len g1).symm ▸ hl), fun p hp np => q _ _ (same_new hp) (.lst upd_same np g1)⟩
theorem mvs_nil : MkVs σ tNil [] := fun H Q q => q [] H Same.rfl .nil
theorem mvs_cons (a : MkV σ te d) (b : MkVs σ ta ds) : MkVs σ (tCons te ta) (d :: ds) := fun H Q q => a H _ fun v H1 s1 t1 => b H1 _ fun vs H2 s2 t2 => q _ _ (s1.trans s2) (.cons (t1.keep s2) t2)
theorem mv_many (a : MkVs σ ta ds) (hl : ds.length ≤ 1000) {H : Hp} {Q : VK} (q : ∀ p xs H', Same H H' → H' p = some (.lst xs) → Paired (Th H') xs ds → Q (.ref p) H') : tLst ta σ H Q :=
  a H _ fun vs H1 s1 t1 => ⟨few_len ((paired_len t1).symm ▸ hl), fun p hp => q p vs _ (s1.trans (same_new hp)) upd_same (ths_keep (same_new hp) t1)⟩
end
theorem paired_dropN {α β : Type} {R : α → β → Prop} : ∀ (n : Nat) {xs : List α} {ys : List β}, Paired R xs ys → Paired R (xs.drop n) (ys.drop n)
  | 0, _, _, h => h
  | _ + 1, _, _, .nil => .nil
  | n + 1, _, _, .cons _ t => paired_dropN n t
theorem paired_takeN {α β : Type} {R : α → β → Prop} : ∀ (n : Nat) {xs : List α} {ys : List β}, Paired R xs ys → Paired R (xs.take n) (ys.take n)
  | 0, _, _, _ => .nil
  | _ + 1, _, _, .nil => .nil
  | n + 1, _, _, .cons a t => .cons a (paired_takeN n t)
theorem paired_cut {α : Type} {R : V → α → Prop} {xs : List V} {ds : List α} (h : Paired R xs ds) (lo hi : Option Int) : ∃ es, Paired R (cutV xs lo hi) es ∧ es.length ≤ ds.length ∧ ∀ e ∈ es, e ∈ ds := by
  refine ⟨(ds.drop (HT.sIx xs.length 0 lo)).take (HT.sIx xs.length xs.length hi - HT.sIx xs.length 0 lo), paired_takeN _ (paired_dropN _ h), ?_, fun e he => List.mem_of_mem_drop (List.mem_of_mem_take he)⟩
  rw [List.length_take, List.length_drop]
  omega
theorem paired_back2 {α β : Type} {R : α → β → Prop} : ∀ {xs : List α} {ys : List β}, Paired R xs ys → Paired R xs.reverse ys.reverse
  | _, _, .nil => .nil
  | _, _, .cons a t => by
    rw [List.reverse_cons, List.reverse_cons]
    exact paired_app (paired_back2 t) (.cons a .nil)
/-- t[lo:hi], whatever it is -/
theorem slA {H : Hp} {q : Addr} {xs : List V} {lo hi : Option Int} {Q : VK} (h : H q = some (.tup xs)) (k : ∀ p H', Same H H' → H' p = some (.tup (cutV xs lo hi)) → Q (.ref p) H') : rSlA K (.ref q) lo hi H Q := by
  refine ⟨q, xs, rfl, SqT.of h, fun w => k q H Same.rfl ?_, fun _ p hp => k p _ (same_new hp) upd_same⟩
  rw [h]
  unfold cutV
  rw [w.1, w.2, List.drop_zero, Nat.sub_zero, List.take_length]
theorem catA {H : Hp} {a b : Addr} {xs ys : List V} {Q : VK} (ha : H a = some (.tup xs)) (hb : H b = some (.tup ys)) (hz : xs.length + ys.length ≤ sizeLine) (k : ∀ p H', Same H H' → H' p = some (.tup (xs ++ ys)) → Q (.ref p) H') : rCatA K (.ref a) (.ref b) H Q := by
  refine ⟨a, b, xs, ys, rfl, rfl, SqT.of ha, SqT.of hb, hz, fun e => k b H Same.rfl ?_, fun _ e => k a H Same.rfl ?_, fun _ _ p hp => k p _ (same_new hp) upd_same⟩
  · rw [hb, e, List.nil_append]
  · rw [ha, e, List.append_nil]
/-- values that may stand in an exchange -/
def OkT (H : Hp) (xs : List V) (n : Nat) : Prop := ∃ ds, Paired (Th H) xs ds ∧ ds.length ≤ n ∧ ∀ e ∈ ds, OkE e
theorem OkT.keep {H H' : Hp} {xs : List V} {n : Nat} (h : OkT H xs n) (s : Same H H') : OkT H' xs n := by
  obtain ⟨ds, h1, h2, h3⟩ := h
  exact ⟨ds, ths_keep s h1, h2, h3⟩
theorem OkT.cut {H : Hp} {xs : List V} {n : Nat} (h : OkT H xs n) (lo hi : Option Int) : OkT H (cutV xs lo hi) n := by
  obtain ⟨ds, h1, h2, h3⟩ := h
  obtain ⟨es, g1, g2, g3⟩ := paired_cut h1 lo hi
  exact ⟨es, g1, by omega, fun e he => h3 e (g3 e he)⟩
theorem OkT.cat {H : Hp} {xs ys : List V} {n m : Nat} (h : OkT H xs n) (g : OkT H ys m) : OkT H (xs ++ ys) (n + m) := by
  obtain ⟨ds, h1, h2, h3⟩ := h
  obtain ⟨es, g1, g2, g3⟩ := g
  refine ⟨ds ++ es, paired_app h1 g1, by rw [List.length_append]; omega, fun e he => ?_⟩
  rcases List.mem_append.mp he with he | he
  · exact h3 e he
  · exact g3 e he
theorem OkT.one {H : Hp} {v : V} {e : PyData} (th : Th H v e) (ok : OkE e) : OkT H [v] 1 := ⟨[e], .cons th .nil, (by show 1 ≤ 1; decide), fun e' he => by rw [List.mem_singleton.mp he]; exact ok⟩
theorem OkT.back {H : Hp} {xs : List V} {n : Nat} (h : OkT H xs n) : OkT H xs.reverse n := by
  obtain ⟨ds, h1, h2, h3⟩ := h
  exact ⟨ds.reverse, paired_back2 h1, by rw [List.length_reverse]; exact h2, fun e he => h3 e (List.mem_reverse.mp he)⟩
theorem OkT.len {H : Hp} {xs : List V} {n : Nat} (h : OkT H xs n) : xs.length ≤ n := by
  obtain ⟨ds, h1, h2, h3⟩ := h
  have := paired_len h1
  omega
theorem OkT.ext {H H' : Hp} {p c : Addr} {T n : Nat} {xs : List V} (h : OkT H xs n) (hp : Pen H p c T) (x : Ext p H H') : OkT H' xs n := by
  obtain ⟨ds, h1, h2, h3⟩ := h
  exact ⟨ds, ths_ext hp x h1, h2, h3⟩
theorem OkT.tup {H : Hp} {a : Addr} {xs : List V} {n : Nat} (h : OkT H xs n) (e : H a = some (.tup xs)) (hn : n ≤ 100) : ∃ d, Tg H (.ref a) d ∧ GoodG d := by
  obtain ⟨ds, h1, h2, h3⟩ := h
  exact ⟨_, .tup e h1, good_tup (by omega) h3⟩
theorem OkT.lst {H : Hp} {a : Addr} {xs : List V} {n : Nat} (h : OkT H xs n) (e : H a = some (.lst xs)) (hn : n ≤ 100) : ∃ d, Tg H (.ref a) d ∧ GoodG d := by
  obtain ⟨ds, h1, h2, h3⟩ := h
  exact ⟨_, .lst e h1, good_lst (by omega) h3⟩
theorem okt_rows {H : Hp} {xs : List V} {rs : List (Nat × Nat × Str)} {n : Nat} (h : Rw3 H xs rs) (hl : rs.length ≤ n) (ok : ∀ r ∈ rs, r.1 ≤ 100 ∧ r.2.1 ≤ 100 ∧ r.2.2.length ≤ 20 ∧ PyData.strOk r.2.2 = true) : OkT H xs n := by
  refine ⟨_, rows_ths h, by rw [List.length_map]; exact hl, fun e he => ?_⟩
  obtain ⟨r, hr, rfl⟩ := List.mem_map.mp he
  have q := ok r hr
  exact oke_row q.1 q.2.1 q.2.2.1 q.2.2.2
theorem small_text : ∀ n : Nat, n < 101 → PyData.strOk (Str.ofString (toString ((n : Nat) : Int))) = true ∧ (Str.ofString (toString ((n : Nat) : Int))).length ≤ 20 := by decide +kernel
end
end Vk
set_option Elab.async false
set_option maxRecDepth 100000
set_option linter.all false
set_option maxHeartbeats 4000000
namespace Vk
open PySem PySem.Spec PyProof.Rows L2
section
variable {P : Program} {w : World} {K : PySem.W.Frag} {mg : Str → Option Value} {base : Heap}
theorem shaped_tup {ds : List PyData} {n : Nat} (h1 : ∀ d ∈ ds, PyData.canLay0 d = true) (h2 : ∀ d ∈ ds, d.depth ≤ n) (hn : n ≤ 20) : SeqAt.shaped (.tuple ds) = true := by
  unfold SeqAt.shaped
  have e1 : PyData.canLay0 (.tuple ds) = true := canAll_of ds h1
  have e2 : PyData.depth (.tuple ds) ≤ 21 := Nat.succ_le_succ (Nat.le_trans (depthAll_const ds n h2) hn)
  rw [e1]
  simp
  omega
theorem rw3_dp {K : PySem.W.Frag} {H : Hp} : ∀ {xs : List V} {rs : List (Nat × Nat × Str)}, Rw3 H xs rs → DpAll K H xs (rs.map rowD)
  | _, _, .nil => .nil
  | _, _, .cons a t => .cons (by
      obtain ⟨u, rfl, h⟩ := a
      exact .tup (SqT.of h) (.cons (.int _) (.cons (.int _) (.cons (.str _) .nil)))) (rw3_dp t)
theorem rows_shaped {rs : List (Nat × Nat × Str)} (ok : ∀ r ∈ rs, PyData.strOk r.2.2 = true) : SeqAt.shaped (.tuple (rs.map rowD)) = true := by
  refine shaped_tup (n := 1) (fun d hd => ?_) (fun d hd => ?_) (by decide)
  · obtain ⟨r, hr, rfl⟩ := List.mem_map.mp hd
    show (true && (true && (PyData.strOk r.2.2 && true))) = true
    rw [ok r hr]
    rfl
  · obtain ⟨r, _, rfl⟩ := List.mem_map.mp hd
    exact Nat.le_of_eq rfl
theorem rows_nil (rs : List (Nat × Nat × Str)) : PyData.eqv (.tuple (rs.map rowD)) (.tuple []) = rs.isEmpty := by
  match rs with
  | [] => rfl
  | r :: t => rfl
theorem or_bothH {c : Bool} {T B : Prop} (R : Hp → Prop) (G : Hp → Prop) (h : ∀ H, G H → R H) (h1 : c = true → (∀ H, G H → R H) → T) (h2 : c = false → (∀ H, G H → R H) → B) : if c = true then T else B := by
  cases c with
  | true => exact h1 rfl h
  | false => exact h2 rfl h
theorem tsl_from {K : PySem.W.Frag} {σ : L2.St} {H : Hp} {q : Addr} {xs : List V} {k : Int} {i j : Nat} {Q : VK} (h1 : σ[i]? = some (some (.ref q))) (h2 : σ[j]? = some (some (.int k))) (h : H q = some (.tup xs)) (kk : ∀ p H', Same H H' → H' p = some (.tup (cutV xs (some k) none)) → Q (.ref p) H') : tSl (rSlA K) (tVar i) (tPart (tVar j)) tNoPart σ H Q := ⟨_, h1, _, h2, k, rfl, slA h kk⟩
theorem tsl_from1 {K : PySem.W.Frag} {σ : L2.St} {H : Hp} {q : Addr} {xs : List V} {k : Int} {i j : Nat} {Q : VK} (h1 : σ[i]? = some (some (.ref q))) (h2 : σ[j]? = some (some (.int k))) (h : H q = some (.tup xs)) (kk : ∀ p H', Same H H' → H' p = some (.tup (cutV xs (some (k + 1)) none)) → Q (.ref p) H') : tSl (rSlA K) (tVar i) (tPart (tOp (rI0 fun i j => V.int (i + j)) (tVar j) (tC (.int 1)))) tNoPart σ H Q := ⟨_, h1, _, h2, k, 1, rfl, rfl, k + 1, rfl, slA h kk⟩
theorem al_nil {α : Type} {P : α → Prop} : ∀ x ∈ ([] : List α), P x := fun x h => absurd h List.not_mem_nil
theorem al_cons {α : Type} {P : α → Prop} {a : α} {l : List α} (h : P a) (t : ∀ x ∈ l, P x) : ∀ x ∈ a :: l, P x := fun x hx => by
  rcases List.mem_cons.mp hx with rfl | hx
  · exact h
  · exact t x hx
/-- the odd parts -/
def odds1 (r : Nat × Nat × Str) : List PyData := [.tuple [.int (r.1 : Nat), .int (r.2.1 : Nat)], .tuple [.int (r.1 : Nat), .int (r.2.1 : Nat), .str r.2.2, .int 0], .list [.int (r.1 : Nat), .int (r.2.1 : Nat), .str r.2.2], .tuple [.int (r.1 : Nat), .int (r.2.1 : Nat), .str "	"], .tuple [.int (r.1 : Nat), .int (r.2.1 : Nat), .none], .tuple [.int (r.1 : Nat), .int (r.2.1 : Nat), .int 1], .tuple [.bool true, .int (r.2.1 : Nat), .str r.2.2]]
def odds2 (n : Nat) (r : Nat × Nat × Str) : List PyData := [.tuple [.int (r.1 : Nat), .int ((n : Int) + 1), .str ""], .tuple [.int (r.1 : Nat), .int (r.1 : Nat), .str r.2.2], .tuple [.int (-1), .int (r.2.1 : Nat), .str r.2.2], .tuple [.str (Str.ofString (toString ((r.1 : Nat) : Int))), .int (r.2.1 : Nat), .str r.2.2]]
theorem odds_ok {n : Nat} {r : Nat × Nat × Str} (hn : n ≤ 100) (h1 : r.1 ≤ 100) (h2 : r.2.1 ≤ 100) (h3 : r.2.2.length ≤ 20) (ok : PyData.strOk r.2.2 = true) : ∀ e ∈ odds1 r ++ odds2 n r, OkE e := by
  have big : 100 < 10 ^ 100 := by decide +kernel
  have sm : ∀ m : Nat, m ≤ 100 → OkA (.int (m : Nat)) := fun m hm => oka_int (Nat.lt_of_le_of_lt (show ((m : Nat) : Int).natAbs ≤ 100 from hm) big)
  have ax := sm _ h1
  have ay := sm _ h2
  have an := oka_str h3 ok
  have a0 : OkA (.int 0) := oka_int (by decide +kernel)
  have a1 : OkA (.int 1) := oka_int (by decide +kernel)
  have am : OkA (.int (-1)) := oka_int (by decide +kernel)
  have as : OkA (.int ((n : Int) + 1)) := oka_int (Nat.lt_of_le_of_lt (show ((n : Int) + 1).natAbs ≤ 101 by omega) (by decide +kernel))
  have at_ : OkA (.str "	") := oka_str (by decide) (by decide +kernel)
  have ae : OkA (.str "") := oka_str (by decide) (by decide +kernel)
  have ast := small_text r.1 (by omega)
  have ast := oka_str ast.2 ast.1
  have t3 : ∀ {a b c : PyData}, OkA a → OkA b → OkA c → OkE (.tuple [a, b, c]) := fun h1 h2 h3 => oke_tup (Nat.le_of_ble_eq_true rfl) (al_cons h1 (al_cons h2 (al_cons h3 al_nil)))
  exact al_cons (oke_tup (Nat.le_of_ble_eq_true rfl) (al_cons ax (al_cons ay al_nil))) (al_cons (oke_tup (Nat.le_of_ble_eq_true rfl) (al_cons ax (al_cons ay (al_cons an (al_cons a0 al_nil))))) (al_cons (oke_lst (Nat.le_of_ble_eq_true rfl) (al_cons ax (al_cons ay (al_cons an al_nil)))) (al_cons (t3 ax ay at_) (al_cons (t3 ax ay oka_non) (al_cons (t3 ax ay a1) (al_cons (t3 oka_bl ay an) (al_cons (t3 ax as ae) (al_cons (t3 ax ax an) (al_cons (t3 am ay an) (al_cons (t3 ast ay an) al_nil))))))))))
def spCrook : Sp := fun vs H Q _ => ∃ (p c : Addr) (x : Str) (q : Addr) (xs : List V) (rs : List (Nat × Nat × Str)) (T : Nat), vs = [.ref p, .str x, .ref q] ∧ x.length ≤ 20 ∧ H q = some (.tup xs) ∧ Rw3 H xs rs ∧ rs.length ≤ 5 ∧ (∀ r ∈ rs, r.1 ≤ 100 ∧ r.2.1 ≤ 100 ∧ r.2.2.length ≤ 20 ∧ PyData.strOk r.2.2 = true) ∧ Pen H p c T ∧ T + 3000 < 1000000000 ∧
  ∀ v d H', Tg H' v d → GoodG d → Pen H' p c (T + 50) → Ext p H H' → Q v H'
abbrev s_lncrooked : Stmt := top 39
theorem sc_lncrooked : FnScope ["_law_pen_here", "_law_here", "_law_rows", "_law_way", "_law_size", "_law_k", "_law_a", "_law_b", "_law_x", "_law_y", "_law_fresh", "_law_some", "_law_odd"] ["_law_pen_here", "_law_here", "_law_rows"] (defScope s_lncrooked) := ⟨rfl, rfl, rfl, by decide +kernel, rfl, by decide +kernel, by decide +kernel⟩
theorem b_lncrooked {f : Addr} {fd : FuncData} (F : Fun K "_law_ncrooked" "_law_ncrooked" s_lncrooked f fd) (T : Txt mg) (c_ldraw : CalG P w K mg base CX0 1 "_law_draw" spDraw) (c_lnspot : CalG P w K mg base CX0 3 "_law_nspot" spSpot) (c_lpick : CalG P w K mg base CX0 2 "_law_pick" (spPick K)) (c_lany_value : CalG P w K mg base CX0 3 "_law_any_value" spAny) : FnG P w K mg base CX0 4 f fd ["_law_pen_here", "_law_here", "_law_rows"] spCrook := by
  refine okG0 F sc_lncrooked (fun vs H Q E h => ?_) (fun cdv A outer s H vs Q E hg hr h => ?_)
  · obtain ⟨p, pc, x, q, xs, rs, T0, rfl, _⟩ := h
    rfl
  · have hu := hu_of hr
    have hu64 := hr.units
    obtain ⟨p, pc, x, q, xs, rs, T0, rfl, hx, hq, rw0, hl, okr, hpen, hT, k⟩ := h
    have hr3 : Room 3 _ := hr
    have xl : x.length ≤ sizeLine := Nat.le_of_lt (fewL (by omega))
    have xsl := paired_len rw0
    have sz : 100 ≤ sizeLine := by rw [sizeLine_eq]; decide
    have okx := okt_rows rw0 hl okr
    refine ⟨_, (pss_cons (ps_par (i := 3) (j := 4) (by rfl) sc_lncrooked.nd rfl rfl (by decide) rfl rfl (pa_cons (pe_cG c_ldraw hg hr (by decide) pass0 (pa_cons (pv 0) (pa_cons pe_int pa_nil))) (pa_cons (pe_callB call_len (by rfl) T.len (by decide +kernel) (pa_cons (pv 1) pa_nil)) pa_nil)) (by rfl))
      (pss_cons (ps_set (i := 5) sc_lncrooked.nd rfl (Or.inl rfl) (pe_cG c_ldraw hg hr (by decide) pass0 (pa_cons (pv 0) (pa_cons (pe_callB (call_max2 rfl) (by rfl) T.max (by decide +kernel) (pa_cons pe_int (pa_cons (pe_callB call_len (by rfl) T.len (by decide +kernel) (pa_cons (pv 2) pa_nil)) pa_nil))) pa_nil))))
      (pss_cons (ps_asg (pe_cG c_lnspot hg hr (by decide) pass0 (pa_cons (pv 0) (pa_cons (pv 1) pa_nil))) (pg_tup rfl (pgs_cons (pg_name (i := 6) sc_lncrooked.nd rfl (Or.inl rfl)) (pgs_cons (pg_name (i := 7) sc_lncrooked.nd rfl (Or.inl rfl)) pgs_nil))))
      (pss_cons (ps_if (pt_cmpR op_eq (pv 3) pe_int (nomark _)) (pss_one (ps_ret (pe_op op_catA (pe_op op_catA (pe_slice sl_tupA (pv 2) po_none (po_some (pv 5))) (pe_tup (pa_cons (pe_tup (pa_cons (pv 6) (pa_cons (pv 7) (pa_cons pe_str pa_nil)))) pa_nil))) (pe_slice sl_tupA (pv 2) (po_some (pv 5)) po_none)))) pss_nil)
      (pss_cons (ps_if (pt_cmpR op_eq (pv 3) pe_int (nomark _)) (pss_one (ps_ret (pe_revT (pv 2)))) pss_nil)
      (pss_cons (ps_if (pt_cmpR op_eq (pv 3) pe_int (nomark _)) (pss_one (ps_ret (pe_op op_catA (pe_op op_catA (pe_slice sl_tupA (pv 2) po_none (po_some (pv 5))) (pe_slice sl_tupA (pv 2) (po_some (pv 5)) (po_some (pe_op op_add (pv 5) pe_int)))) (pe_slice sl_tupA (pv 2) (po_some (pv 5)) po_none)))) pss_nil)
      (pss_cons (ps_if (pt_cmpR op_eq (pv 3) pe_int (nomark _)) (pss_one (ps_ret (pe_callTy call_list_of (by rfl) T.list (by decide +kernel) (pa_cons (pv 2) pa_nil)))) pss_nil)
      (pss_cons (ps_if (PW.pt (pw_and (pt_cmpR op_lt (pv 3) pe_int (nomark _)) (pw_and1 (pt_cmpR (op_neD hu64) (pv 2) (pe_tup pa_nil) (nomark _))))) (pss_cons (ps_asg (pe_ix ix_seq (pv 2) (pv 5) (fun _ _ => rfl)) (pg_tup rfl (pgs_cons (pg_name (i := 8) sc_lncrooked.nd rfl (Or.inl rfl)) (pgs_cons (pg_name (i := 9) sc_lncrooked.nd rfl (Or.inl rfl)) (pgs_cons (pg_name (i := 10) sc_lncrooked.nd rfl (Or.inl rfl)) pgs_nil)))))
      (pss_cons (ps_set (i := 11) sc_lncrooked.nd rfl (Or.inl rfl) (pe_lst (pa_cons (pe_tup (pa_cons (pv 8) (pa_cons (pv 9) pa_nil))) (pa_cons (pe_tup (pa_cons (pv 8) (pa_cons (pv 9) (pa_cons (pv 10) (pa_cons pe_int pa_nil))))) (pa_cons (pe_ls1 (pa_cons (pv 8) (pa_cons (pv 9) (pa_cons (pv 10) pa_nil)))) (pa_cons (pe_tup (pa_cons (pv 8) (pa_cons (pv 9) (pa_cons pe_str pa_nil)))) (pa_cons (pe_tup (pa_cons (pv 8) (pa_cons (pv 9) (pa_cons pe_non pa_nil)))) (pa_cons (pe_tup (pa_cons (pv 8) (pa_cons (pv 9) (pa_cons pe_int pa_nil)))) (pa_cons (pe_tup (pa_cons pe_bl (pa_cons (pv 9) (pa_cons (pv 10) pa_nil)))) pa_nil)))))))))
      (pss_cons (ps_set (i := 11) sc_lncrooked.nd rfl (Or.inl rfl) (pe_op op_cat (pv 11) (pe_lst (pa_cons (pe_tup (pa_cons (pv 8) (pa_cons (pe_op op_add (pv 4) pe_int) (pa_cons pe_str pa_nil)))) (pa_cons (pe_tup (pa_cons (pv 8) (pa_cons (pv 8) (pa_cons (pv 10) pa_nil)))) (pa_cons (pe_tup (pa_cons (pe_un un_neg pe_int) (pa_cons (pv 9) (pa_cons (pv 10) pa_nil)))) (pa_cons (pe_tup (pa_cons (pe_callTy call_str_int (by rfl) T.str (by decide +kernel) (pa_cons (pv 8) pa_nil)) (pa_cons (pv 9) (pa_cons (pv 10) pa_nil)))) pa_nil)))))))
      (pss_cons (ps_set (i := 12) sc_lncrooked.nd rfl (Or.inl rfl) (pe_cG c_lpick hg hr (by decide) pass0 (pa_cons (pv 0) (pa_cons (pv 11) pa_nil))))
      (pss_one (ps_ret (pe_op op_catA (pe_op op_catA (pe_slice sl_tupA (pv 2) po_none (po_some (pv 5))) (pe_tup (pa_cons (pv 12) pa_nil))) (pe_slice sl_tupA (pv 2) (po_some (pe_op op_add (pv 5) pe_int)) po_none)))))))) pss_nil)
      (pss_one (ps_ret (pe_cG c_lpick hg hr (by decide) pass0 (pa_cons (pv 0) (pa_cons (pe_lst (pa_cons (pv 2) (pa_cons (pv 2) (pa_cons (pe_cG c_lany_value hg hr (by decide) pass0 (pa_cons (pv 0) pa_nil)) (pa_cons (pe_tup (pa_cons (pe_cG c_lany_value hg hr (by decide) pass0 (pa_cons (pv 0) pa_nil)) pa_nil)) (pa_cons (pe_op op_catA (pv 2) (pe_tup (pa_cons (pe_cG c_lany_value hg hr (by decide) pass0 (pa_cons (pv 0) pa_nil)) pa_nil))) pa_nil)))))) pa_nil))))))))))))), ?_⟩
    refine ⟨_, rfl, p, pc, 8, _, rfl, by decide, by decide, hpen, by omega, fun way H1 w0 w8 P1 x1 => ?_⟩
    refine ⟨_, rfl, _, _, rfl, ⟨xl, rfl⟩, _, _, rfl, ?_⟩
    have hq1 := pen_tup hpen x1 _ _ hq
    have okx1 := okx.ext hpen x1
    refine ⟨_, rfl, _, rfl, .ref q, xs.length, rfl, .inr ⟨_, SqT.of hq1, rfl⟩, _, _, rfl, p, pc, _, _, rfl, by split <;> omega, by split <;> omega, P1, by omega, fun k0 H2 k00 k01 P2 x2 => ?_⟩
    refine ⟨_, rfl, _, rfl, p, pc, x, _, rfl, by omega, P2, by omega, fun ts a b H3 hts a0 a1 b0 b1 P3 x3 => ?_⟩
    refine ⟨ts, _, rfl, SqT.of hts, rfl, _, _, rfl, _, _, rfl, rfl, ?_⟩
    have hq3 := pen_tup P2 x3 _ _ (pen_tup P1 x2 _ _ hq1)
    have okx3 := (okx1.ext P1 x2).ext P2 x3
    have rw3 : Rw3 H3 xs rs := ((rw0.keepT (pen_tup hpen x1)).keepT (pen_tup P1 x2)).keepT (pen_tup P2 x3)
    have x13 := (x1.trans x2).trans x3
    have fin : ∀ (v : Addr) (ys : List V) (n : Nat) (H' : Hp), Same H3 H' → H' v = some (.tup ys) → OkT H' ys n → n ≤ 100 → Q (.ref v) H' := fun v ys n H' s h o hn => by
      obtain ⟨d, tg, gd⟩ := o.tup h hn
      exact k _ d H' tg gd ((P3.stay s).mono (by omega)) (x13.trans (Ext.same s))
    have l5 := okx3.len
    clear hq rw0 okx okx1 hq1
    -- one part more
    refine ⟨_, rfl, rfl, _, rfl, ?_⟩
    cases c0 : decide (V.int way = V.int 0) with
    | true =>
      refine iteT ?_
      refine ⟨_, rfl, _, rfl, _, rfl, slA hq3 fun p1 H4 s4 h4 => ?_⟩
      refine ⟨_, rfl, _, rfl, by show 3 ≤ sizeLine; decide, fun u hu => ⟨by show 1 ≤ sizeLine; decide, fun u2 hu2 => ?_⟩⟩
      have su := same_new (o := .tup [.int a, .int b, .str "q"]) hu
      have su2 := same_new (o := .tup [.ref u]) hu2
      have tu : Th (upd (upd H4 u (.tup [.int a, .int b, .str "q"])) u2 (.tup [.ref u])) (.ref u) (.tuple [.int a, .int b, .str "q"]) := .tup (su2 _ _ upd_same) (.cons (.int _) (.cons (.int _) (.cons (.str _) .nil)))
      have oku : OkE (.tuple [.int a, .int b, .str "q"]) := oke_tup (by show 3 ≤ 5; decide) fun e he => by
        simp only [List.mem_cons, List.not_mem_nil, or_false] at he
        rcases he with rfl | rfl | rfl
        · exact oka_int (Nat.lt_of_le_of_lt (show a.natAbs ≤ 100 by omega) (by decide +kernel))
        · exact oka_int (Nat.lt_of_le_of_lt (show b.natAbs ≤ 100 by omega) (by decide +kernel))
        · exact oka_str (by decide) (by decide +kernel)
      have s6 := (s4.trans su).trans su2
      have o1 := (okx3.cut none (some k0)).keep s6
      have o1l := o1.len
      refine catA ((su.trans su2) _ _ h4) upd_same (by show _ + 1 ≤ sizeLine; omega) fun p3 H7 s7 h7 => ?_
      have o2 := (o1.cat (OkT.one tu oku)).keep s7
      have s37 := s6.trans s7
      refine tsl_from (k := k0) rfl rfl (s37 _ _ hq3) fun p4 H8 s8 h8 => ?_
      have o3 := (okx3.cut (some k0) none).keep (s37.trans s8)
      have o3l := o3.len
      have o2l := o2.len
      refine catA (s8 _ _ h7) h8 (by omega) fun p5 H9 s9 h9 => ?_
      exact fin p5 _ _ H9 ((s37.trans s8).trans s9) h9 (((o2.keep s8).cat o3).keep s9) (by decide)
    | false =>
    refine iteF ?_
    -- turned round
    refine ⟨_, rfl, rfl, _, rfl, ?_⟩
    cases c1 : decide (V.int way = V.int 1) with
    | true =>
      refine iteT ?_
      refine ⟨_, rfl, q, xs, rfl, SqT.of hq3, by omega, fun p1 hp1 => ?_⟩
      exact fin p1 _ _ _ (same_new hp1) upd_same (okx3.back.keep (same_new hp1)) (by decide : 5 ≤ 100)
    | false =>
    refine iteF ?_
    -- one part twice
    refine ⟨_, rfl, rfl, _, rfl, ?_⟩
    cases c2 : decide (V.int way = V.int 2) with
    | true =>
      refine iteT ?_
      refine ⟨_, rfl, _, rfl, _, rfl, slA hq3 fun p1 H4 s4 h4 => ?_⟩
      refine ⟨_, rfl, _, rfl, _, rfl, _, rfl, _, _, rfl, rfl, _, rfl, slA (s4 _ _ hq3) fun p2 H5 s5 h5 => ?_⟩
      have s35 := s4.trans s5
      have o1 := (okx3.cut none (some k0)).keep s35
      have o2 := (okx3.cut (some k0) (some (k0 + 1))).keep s35
      have o1l := o1.len
      have o2l := o2.len
      refine catA (s5 _ _ h4) h5 (by omega) fun p3 H6 s6 h6 => ?_
      have s36 := s35.trans s6
      refine tsl_from (k := k0) rfl rfl (s36 _ _ hq3) fun p4 H7 s7 h7 => ?_
      have o3 := (okx3.cut (some k0) none).keep (s36.trans s7)
      have o4 := ((o1.cat o2).keep s6).keep s7
      have o3l := o3.len
      have o4l := o4.len
      refine catA (s7 _ _ h6) h7 (by omega) fun p5 H8 s8 h8 => ?_
      exact fin p5 _ _ H8 ((s36.trans s7).trans s8) h8 ((o4.cat o3).keep s8) (by decide)
    | false =>
    refine iteF ?_
    -- a list
    refine ⟨_, rfl, rfl, _, rfl, ?_⟩
    cases c3 : decide (V.int way = V.int 3) with
    | true =>
      refine iteT ?_
      refine ⟨_, rfl, q, xs, rfl, .inr (SqT.of hq3), fun l hl0 => ?_⟩
      have s := same_new (o := .lst xs) hl0
      obtain ⟨d, tg, gd⟩ := (okx3.keep s).lst upd_same (by decide)
      exact k _ d _ tg gd ((P3.stay s).mono (by omega)) (x13.trans (Ext.same s))
    | false =>
    refine iteF ?_
    -- an odd part
    refine ⟨_, rfl, _, _, rfl, rfl, _, rfl, ?_⟩
    refine' or_bothH ?oR (fun H' => Same H3 H') ?oc ?oa ?ob
    case oa =>
      intro hc hR
      refine ⟨_, rfl, by show 0 ≤ sizeLine; decide, fun u hu => ?_⟩
      have su := same_new (o := .tup []) hu
      refine ⟨_, _, .tup (SqT.of (su _ _ hq3)) (rw3_dp (rw3.keep su)), .tup (SqT.of upd_same) .nil, rows_shaped fun r hr => (okr r hr).2.2.2, by decide +kernel, _, rfl, ?_⟩
      rw [rows_nil]
      generalize upd H3 u (.tup []) = H4 at su
      by_cases e0 : rs = []
      · rw [e0]
        refine iteF ?_
        exact hR H4 su
      rw [show rs.isEmpty = false by cases rs with | nil => exact absurd rfl e0 | cons _ _ => rfl]
      have lpos : 0 < rs.length := List.length_pos_iff.mpr e0
      have kl : k0.toNat < xs.length := by
        have : k0 < (if (1 : Int) < (xs.length : Nat) then ((xs.length : Nat) : Int) else 1) := k01
        split at this <;> omega
      obtain ⟨v, hv⟩ : ∃ v, xs[k0.toNat]? = some v := ⟨xs[k0.toNat], List.getElem?_eq_getElem kl⟩
      obtain ⟨r, hr, t, rfl, ht⟩ := paired_at rw3 hv
      have okr1 := okr r (List.mem_of_getElem? hr)
      have ix : atI xs k0 = some (V.ref t) := by
        rw [show k0 = ((k0.toNat : Nat) : Int) by omega]
        exact atI_nat hv
      refine iteT ?_
      refine ⟨_, rfl, _, rfl, .inr (.inl ⟨q, _, _, _, rfl, rfl, SqT.of (su _ _ hq3), ix, ?_⟩)⟩
      refine ⟨t, _, rfl, SqT.of (su _ _ ht), rfl, _, _, rfl, _, _, rfl, _, _, rfl, rfl, ?_⟩
      have P4 := P3.stay su
      have hlog : ((r.1 : Nat) : Int).natAbs.log2 < 1920 := Nat.lt_of_le_of_lt (Nat.log2_le_self _) (by show r.1 < 1920; omega)
      refine seq_asg (mv_many (ds := odds1 r) (mvs_cons (mv_tup (mavs_cons (mav_var (.int _)) (mavs_cons (mav_var (.int _)) mavs_nil)) (Nat.le_of_ble_eq_true rfl)) (mvs_cons (mv_tup (mavs_cons (mav_var (.int _)) (mavs_cons (mav_var (.int _)) (mavs_cons (mav_var (.str _)) (mavs_cons (mav_c ma_int) mavs_nil)))) (Nat.le_of_ble_eq_true rfl)) (mvs_cons (mv_lst (mavs_cons (mav_var (.int _)) (mavs_cons (mav_var (.int _)) (mavs_cons (mav_var (.str _)) mavs_nil))) (Nat.le_of_ble_eq_true rfl)) (mvs_cons (mv_tup (mavs_cons (mav_var (.int _)) (mavs_cons (mav_var (.int _)) (mavs_cons (mav_c ma_str) mavs_nil))) (Nat.le_of_ble_eq_true rfl)) (mvs_cons (mv_tup (mavs_cons (mav_var (.int _)) (mavs_cons (mav_var (.int _)) (mavs_cons (mav_c ma_non) mavs_nil))) (Nat.le_of_ble_eq_true rfl)) (mvs_cons (mv_tup (mavs_cons (mav_var (.int _)) (mavs_cons (mav_var (.int _)) (mavs_cons (mav_c ma_int) mavs_nil))) (Nat.le_of_ble_eq_true rfl)) (mvs_cons (mv_tup (mavs_cons (mav_c ma_bl) (mavs_cons (mav_var (.int _)) (mavs_cons (mav_var (.str _)) mavs_nil))) (Nat.le_of_ble_eq_true rfl)) mvs_nil))))))) (Nat.le_of_ble_eq_true rfl) fun l1 vs1 H5 s5 hl1 pr1 => ?_)
      have g1 : vs1.length = 7 := paired_len pr1
      refine seq_asg ⟨_, rfl, mv_many (ds := odds2 x.length r) (mvs_cons (mv_tup (mavs_cons (mav_var (.int _)) (mavs_cons mav_add (mavs_cons (mav_c ma_str) mavs_nil))) (Nat.le_of_ble_eq_true rfl)) (mvs_cons (mv_tup (mavs_cons (mav_var (.int _)) (mavs_cons (mav_var (.int _)) (mavs_cons (mav_var (.str _)) mavs_nil))) (Nat.le_of_ble_eq_true rfl)) (mvs_cons (mv_tup (mavs_cons (mav_c ma_neg) (mavs_cons (mav_var (.int _)) (mavs_cons (mav_var (.str _)) mavs_nil))) (Nat.le_of_ble_eq_true rfl)) (mvs_cons (mv_tup (mavs_cons ⟨_, .str _, fun _ _ q => ⟨_, rfl, _, rfl, hlog, q⟩⟩ (mavs_cons (mav_var (.int _)) (mavs_cons (mav_var (.str _)) mavs_nil))) (Nat.le_of_ble_eq_true rfl)) mvs_nil)))) (Nat.le_of_ble_eq_true rfl) fun l2 vs2 H6 s6 hl2 pr2 => ?_⟩
      have g2 : vs2.length = 4 := paired_len pr2
      refine ⟨l1, l2, vs1, vs2, rfl, rfl, s6 _ _ hl1, hl2, by omega, fun l3 hl3 => ?_⟩
      have s7 := same_new (o := .lst (vs1 ++ vs2)) hl3
      have s37 := (su.trans s5).trans (s6.trans s7)
      have pr7 := ths_keep s7 (paired_app (ths_keep s6 pr1) pr2)
      have P7 := P3.stay s37
      refine ⟨_, rfl, _, rfl, p, pc, _, vs1 ++ vs2, _, rfl, .lst (SqL.of upd_same), (fun z => by
        have := congrArg List.length z
        rw [List.length_append, g1, g2] at this
        exact absurd this (by decide)), by rw [List.length_append]; omega, P7, by omega, fun v H8 hv P8 x8 => ?_⟩
      obtain ⟨e, he, th7⟩ := paired_mem pr7 hv
      have th8 := th7.ext P7 x8
      have oke := odds_ok (n := x.length) (r := r) (by omega) okr1.1 okr1.2.1 okr1.2.2.1 okr1.2.2.2 e he
      have hq8 := pen_tup P7 x8 _ _ (s37 _ _ hq3)
      have okx8 := (okx3.keep s37).ext P7 x8
      have x18 := (x13.trans (Ext.same s37)).trans x8
      have fin8 : ∀ (v : Addr) (ys : List V) (n : Nat) (H' : Hp), Same H8 H' → H' v = some (.tup ys) → OkT H' ys n → n ≤ 100 → Q (.ref v) H' := fun v ys n H' s h o hn => by
        obtain ⟨d, tg, gd⟩ := o.tup h hn
        exact k _ d H' tg gd ((P8.stay s).mono (by omega)) (x18.trans (Ext.same s))
      clear hR pr7 pr1 pr2
      refine ⟨_, rfl, _, rfl, _, rfl, slA hq8 fun p1 H9 s9 h9 => ?_⟩
      refine ⟨_, rfl, by show 1 ≤ sizeLine; decide, fun u2 hu2 => ?_⟩
      have su2 := same_new (o := .tup [v]) hu2
      have o1 := (okx8.cut none (some k0)).keep (s9.trans su2)
      have o1l := o1.len
      refine catA (su2 _ _ h9) upd_same (by show _ + 1 ≤ sizeLine; omega) fun p3 H10 s10 h10 => ?_
      have s810 := (s9.trans su2).trans s10
      have o2 := (o1.cat (OkT.one ((th8.keep s9).keep su2) oke)).keep s10
      have o2l := o2.len
      refine tsl_from1 (k := k0) rfl rfl (s810 _ _ hq8) fun p4 H11 s11 h11 => ?_
      have o3 := (okx8.cut (some (k0 + 1)) none).keep (s810.trans s11)
      have o3l := o3.len
      refine catA (s11 _ _ h10) h11 (by omega) fun p5 H12 s12 h12 => ?_
      exact fin8 p5 _ _ H12 ((s810.trans s11).trans s12) h12 (((o2.keep s11).cat o3).keep s12) (by decide : 5 + 1 + 5 ≤ 100)
    case ob =>
      intro hc hR
      exact iteF (hR H3 Same.rfl)
    case oc =>
      intro H4 s4
      have P4 := P3.stay s4
      have hq4 := s4 _ _ hq3
      have okx4 := okx3.keep s4
      have x14 := x13.trans (Ext.same s4)
      refine ⟨_, rfl, _, rfl, _, rfl, _, rfl, p, pc, _, rfl, P4, by omega, fun v1 d1 H5 th1 ok1 _ P5 x5 => ?_⟩
      refine ⟨_, rfl, p, pc, _, rfl, P5, by omega, fun v2 d2 H6 th2 ok2 _ P6 x6 => ⟨by show 1 ≤ sizeLine; decide, fun u hu => ?_⟩⟩
      have su := same_new (o := .tup [v2]) hu
      have P7 := P6.stay su
      refine ⟨_, rfl, _, rfl, p, pc, _, rfl, P7, by omega, fun v3 d3 H8 th3 ok3 _ P8 x8 => ⟨by show 1 ≤ sizeLine; decide, fun u2 hu2 => ?_⟩⟩
      have su2 := same_new (o := .tup [v3]) hu2
      have t48 : ∀ w ws, H4 w = some (.tup ws) → H8 w = some (.tup ws) := fun w ws h => pen_tup P7 x8 w ws (su _ _ (pen_tup P5 x6 w ws (pen_tup P4 x5 w ws h)))
      have okx8 := ((((okx4.ext P4 x5).ext P5 x6).keep su).ext P7 x8).keep su2
      have lx8 := okx8.len
      refine catA (su2 _ _ (t48 _ _ hq4)) upd_same (by show _ + 1 ≤ sizeLine; omega) fun p9 H9 s9 h9 => ?_
      have s89 := su2.trans s9
      have P9 := P8.stay s89
      refine ⟨by show 5 ≤ sizeLine; decide, fun l hl0 => ?_⟩
      have sl := same_new (o := .lst [.ref q, .ref q, v1, .ref u, .ref p9]) hl0
      have P10 := P9.stay sl
      have s8l := s89.trans sl
      refine ⟨p, pc, _, _, _, rfl, .lst (SqL.of upd_same), (fun z => by cases z), by show 5 ≤ 1000; decide, P10, by omega, fun v H11 hv P11 x11 => ?_⟩
      have x411 : Ext p H H11 := (((((x14.trans x5).trans x6).trans (Ext.same su)).trans x8).trans (Ext.same s8l)).trans x11
      have fin2 : ∀ (w : Addr) (ys : List V) (n : Nat), (upd H9 l (.lst [.ref q, .ref q, v1, .ref u, .ref p9])) w = some (.tup ys) → OkT (upd H9 l (.lst [.ref q, .ref q, v1, .ref u, .ref p9])) ys n → n ≤ 100 → Q (.ref w) H11 := fun w ys n h o hn => by
        obtain ⟨d, tg, gd⟩ := o.tup h hn
        exact k _ d H11 (tg.ext P10 x11) gd (P11.mono (by omega)) x411
      simp only [List.mem_cons, List.not_mem_nil, or_false] at hv
      rcases hv with rfl | rfl | rfl | rfl | rfl
      · exact fin2 q _ _ ((s9.trans sl) _ _ (su2 _ _ (t48 _ _ hq4))) (okx8.keep (s9.trans sl)) (by decide : 5 ≤ 100)
      · exact fin2 q _ _ ((s9.trans sl) _ _ (su2 _ _ (t48 _ _ hq4))) (okx8.keep (s9.trans sl)) (by decide : 5 ≤ 100)
      · have th := ((((th1.ext P5 x6).keep su).ext P7 x8).keep s8l).ext P10 x11
        exact k _ d1 H11 th.tg (good_any th ok1) (P11.mono (by omega)) x411
      · have th := (th2.keep su).ext P7 x8
        exact fin2 u _ _ (s8l _ _ (pen_tup P7 x8 _ _ upd_same)) (OkT.one (th.keep s8l) (oke_any ok2)) (by decide : 1 ≤ 100)
      · have o9 := (okx8.cat (OkT.one (th3.keep su2) (oke_any ok3))).keep (s9.trans sl)
        exact fin2 p9 _ _ (sl _ _ h9) o9 (by decide : 5 + 1 ≤ 100)

end
end Vk
set_option Elab.async false
set_option maxRecDepth 100000
set_option linter.all false
set_option maxHeartbeats 4000000
namespace Vk
open PySem PySem.Spec PyProof.Rows L2 LamX NdefX StX
section
variable {P : Program} {w : World} {K : PySem.W.Frag} {mg : Str → Option Value} {base : Heap}
/-- a def of the module whose last parameters have values of their own -/
structure CalD (P : Program) (w : World) (K : PySem.W.Frag) (mg : Str → Option Value) (base : Heap) (CX : CXT) (k : Nat) (x : Str) (sp : Sp) (dv : List V) : Prop where
  ex : ∃ (f : Addr) (fd : FuncData) (ps : List Str) (ds : List Value), FnG P w K mg base CX k f fd ps sp ∧ mg x = some (.ref f) ∧ PySem.W.keepIn K (.ref f) = true ∧ Vals dv ds ∧ Binds K fd ps ds
section
variable {X : Cx} {CX : CXT} {j k : Nat} {sp : Sp} {E : XK} {x : Str} {p pos : Pos} {e : Expr} {es : List Expr} {t : TA} {dv : List V}
theorem pe_cD (c : CalD X.prog X.w X.K X.mg X.base CX k x sp dv) (hg : X.A.guards = some []) (hr : Room j X.A) (hk : k ≤ j) (hx : Passes CX X E) (ha : PA X (e :: es) t) (gl : Gl X x := by rfl)
    (hdb : (x == ("__debug__" : Str)) = false := by decide) (he : starEach (e :: es) X.env = (false, eval e X.env) :: starEach es X.env := by rfl) (hpl : (backTo pos (starEach es X.env)).any (·.1) = false := by rfl) :
    PE X (.Call (.Name x p) (e :: es) [] pos) (tCall sp dv E t) := by
  obtain ⟨f, fd, ps, ds, F, hm, kp, rd, hb⟩ := c.ex
  refine ⟨fun pins s σ H Q I h => wpAny_Call_Name_kw (ld_glob I gl hm (PySem.W.callWith_K (h₀ := X.base) I.ok.mod.kin kp (thn (ha.run pos pins s σ H _ I h) fun us s1 hh => ?_) he hpl) hdb)⟩
  obtain ⟨vs, H1, I1, r, q⟩ := hh
  have rr : Vals (vs ++ dv) (us ++ ds) := r.append rd
  have hl : (us ++ ds).length = ps.length := rr.length.symm.trans (F.len _ _ _ _ q)
  refine ⟨I1.kIn, wpAny_call (codeAny_mono (F.run X.A X.stack s1 H1 ⟨us, []⟩ (us ++ ds) (vs ++ dv) Q E hg (hr.mono hk) I1.env0 (hb s1 us I1.kIn hl) rr q) (fun res s2 hq => ?_))⟩
  match res, hq with
  | .error e, hq => exact hx pins σ H1 s1 e s2 I1 hq
  | .ok (.ret u), hq => exact I1.after hq
  | .ok .next, hq => exact hq.elim
  | .ok .brk, hq => exact hq.elim
  | .ok .cont, hq => exact hq.elim
end
variable {CN P0 c : Addr}
abbrev qLaw : Str := (envOfC "law" (defScope s_law) 0 0 .none).qual ++ "<lambda>"
theorem free_l0 : ndefB (defScope s_law) (lamSc e_l0) ["_law_here", "_law_rows"] = true := by decide +kernel
theorem free_l1 : ndefB (defScope s_law) (lamSc e_l1) ["_law_here", "_law_thing"] = true := by decide +kernel
def spLaw (P0 : Addr) (K : PySem.W.Frag) : Sp := fun vs H Q _ => ∃ (a : Addr) (ns : List Int), vs = [.ref a] ∧ SqL K H a (ns.map V.int) ∧ ns.length ≤ 63 ∧ H P0 = some (.tbl #[]) ∧ ∀ H', Q (.bl true) H'
theorem Th.keepN {H H' : Hp} {v : V} {d : PyData} (h : Th H v d) (k : ExtN H H') : Th H' v d := by
  cases h with
  | atm h => exact .atm h
  | lst e n h => exact .lst (k _ _ e (fun _ z => nomatch z)) n h
  | tup e h => exact .tup (k _ _ e (fun _ z => nomatch z)) h
  | dct e => exact .dct (k _ _ e (fun _ z => nomatch z))
theorem ths_keepN {H H' : Hp} (k : ExtN H H') : ∀ {vs : List V} {ds : List PyData}, Paired (Th H) vs ds → Paired (Th H') vs ds
  | _, _, .nil => .nil
  | _, _, .cons a t => .cons (a.keepN k) (ths_keepN k t)
theorem Tg.keepN {H H' : Hp} {v : V} {d : PyData} (h : Tg H v d) (k : ExtN H H') : Tg H' v d := by
  cases h with
  | one th n => exact .one (th.keepN k) n
  | lst e p => exact .lst (k _ _ e (fun _ z => nomatch z)) (ths_keepN k p)
  | tup e p => exact .tup (k _ _ e (fun _ z => nomatch z)) (ths_keepN k p)
theorem tabs_pen {T : List (Addr × Str)} {H H' : Hp} {p c : Addr} {U : Nat} (t : Tabs T H) (q : Pen H p c U) (x : Ext p H H') : Tabs T H' := fun r hr => by
  obtain ⟨tn, l, hp⟩ := q.is
  have nl : ∀ g u, H g = some u → (∀ k, u ≠ .dK k) → H' g = some u := fun g u e n => x _ _ e (fun z => by
    rw [z, hp] at e
    exact n _ (Option.some.inj e).symm)
  obtain ⟨ps, h1, h2, h3⟩ := t r hr
  refine ⟨ps, nl _ _ h1 (fun _ z => nomatch z), h2, fun pos cv e => ?_⟩
  obtain ⟨c, e1, e2⟩ := h3 pos cv e
  exact ⟨c, e1, nl _ _ e2 (fun xs z => by unfold CodeO at z; cases z)⟩
theorem pen_extN {H H' : Hp} {p c : Addr} {U : Nat} (q : Pen H p c U) (x : ExtN H H') : Pen H' p c U := by
  obtain ⟨ns, t, l, h1, h2, r⟩ := q.ex
  exact ⟨ns, t, l, x _ _ h1 (fun _ z => nomatch z), x _ _ h2 (fun _ z => nomatch z), r⟩
structure RW (q : Addr) (xs : List V) (rs : List (Nat × Nat × Str)) (H : Hp) : Prop where
  hq : H q = some (.tup xs)
  rw : Rw3 H xs rs
theorem RW.map {q : Addr} {xs : List V} {rs : List (Nat × Nat × Str)} {H H' : Hp} (h : RW q xs rs H) (s : ∀ u ws, H u = some (.tup ws) → H' u = some (.tup ws)) : RW q xs rs H' := ⟨s _ _ h.hq, h.rw.keepT s⟩
theorem RW.tg {q : Addr} {xs : List V} {rs : List (Nat × Nat × Str)} {H : Hp} (h : RW q xs rs H) : Tg H (.ref q) (.tuple (rs.map rowD)) := .tup h.hq (rows_ths h.rw)
theorem tupN {H H' : Hp} (k : ExtN H H') : ∀ u ws, H u = some (.tup ws) → H' u = some (.tup ws) := fun u ws h => k _ _ h fun _ z => nomatch z
theorem okr_all2 {n : Nat} : ∀ {l : Nat} {rs : List (Nat × Nat × Str)}, OkR n l rs → ∀ r ∈ rs, l ≤ r.1 ∧ r.1 < r.2.1 ∧ r.2.1 ≤ n := okR_all
theorem rowG_row {x : Str} {l : Nat} {r : Nat × Nat × Str} (h1 : l ≤ r.1) (h2 : r.1 < r.2.1) (h3 : r.2.1 ≤ x.length) (h4 : isT (.str r.2.2) = true) (h5 : twB x r.1 r.2.1 = false) : rowG x l (rowD r) = some r := by
  have e := row3_all (x := x) (l := l) (i := ((r.1 : Nat) : Int)) (j := ((r.2.1 : Nat) : Int)) (n := r.2.2) (by omega) (by omega) (by omega) h4
  rw [Int.toNat_natCast, Int.toNat_natCast, h5] at e
  exact e
theorem fault_rows2 {x : Str} : ∀ {rs : List (Nat × Nat × Str)} {l i : Nat}, OkR x.length l rs → (∀ r ∈ rs, isT (.str r.2.2) = true ∧ twB x r.1 r.2.1 = false) → faultG x (rs.map rowD) l i = none
  | [], _, _, _, _ => rfl
  | r :: t, l, i, ⟨h1, h2, h3, h4⟩, q => by
    have q1 := q r List.mem_cons_self
    have e := rowG_row h1 h2 h3 q1.1 q1.2
    rw [List.map_cons, faultG, e]
    exact fault_rows2 h4 fun r' hr => q r' (List.mem_cons_of_mem _ hr)
theorem fault_rows {x : Str} {rs : List (Nat × Nat × Str)} (ok : OkR x.length 0 rs) (q : ∀ r ∈ rs, isT (.str r.2.2) = true ∧ twB x r.1 r.2.1 = false) : faultD x (.tuple (rs.map rowD)) = none := fault_rows2 ok q
theorem putH_lt {x : Str} (hx : Ltr x) : ∀ {rs : List (Nat × Nat × Str)} {p : Nat} {acc : Str}, (∀ r ∈ rs, Ltr r.2.2) → Ltr acc → Ltr (putH x p rs acc)
  | [], p, acc, _, ha => lt_more ha (cutS_lt hx _ _)
  | r :: t, p, acc, h, ha => putH_lt (p := r.2.1) hx (fun r' hr => h r' (List.mem_cons_of_mem _ hr)) (lt_more (lt_more ha (cutS_lt hx _ _)) (h r List.mem_cons_self))
theorem putH_len {x : Str} : ∀ {rs : List (Nat × Nat × Str)} {p : Nat} {acc : Str}, (∀ r ∈ rs, r.2.2.length ≤ 1000) → (putH x p rs acc).length ≤ acc.length + (rs.length + 1) * (x.length + 1000)
  | [], p, acc, _ => by
    have := cutS_length x (some (p : Int)) none
    rw [putH_nil, strLen_append]
    simp only [List.length_nil, Nat.zero_add, Nat.one_mul]
    omega
  | r :: t, p, acc, h => by
    have q := putH_len (x := x) (rs := t) (p := r.2.1) (acc := acc ++ cutS x (some (p : Int)) (some (r.1 : Int)) ++ r.2.2) fun r' hr => h r' (List.mem_cons_of_mem _ hr)
    have c1 := cutS_length x (some (p : Int)) (some (r.1 : Int))
    have c2 := h r List.mem_cons_self
    rw [putH_cons, List.length_cons, Nat.succ_mul (t.length + 1)]
    rw [strLen_append, strLen_append] at q
    omega
theorem isT_lt {z : Str} (h : isT (.str z) = true) : Ltr z := by
  rw [isT_all] at h
  intro c hc
  simpa using List.all_eq_true.mp h c hc
theorem elg_rows {rs : List (Nat × Nat × Str)} (hl : rs.length ≤ 100) (h : ∀ r ∈ rs, r.2.2.length ≤ 1000 ∧ PyData.strOk r.2.2 = true) : ElG (.tuple (rs.map rowD)) := fun ds z => by
  cases z
  refine ⟨by rw [List.length_map]; exact hl, fun e he => ?_⟩
  obtain ⟨r, hr, rfl⟩ := List.mem_map.mp he
  intro l z a ha
  cases z
  simp only [List.mem_cons, List.not_mem_nil, or_false] at ha
  rcases ha with rfl | rfl | rfl
  · trivial
  · trivial
  · exact h r hr
theorem told_shaped {z : Str} (h : PyData.strOk z = true) : SeqAt.shaped (.tuple [.str "told", .str z]) = true := by
  refine shaped_tup (n := 0) (fun d hd => ?_) (fun d hd => ?_) (by decide)
  · simp only [List.mem_cons, List.not_mem_nil, or_false] at hd
    rcases hd with rfl | rfl
    · decide +kernel
    · exact h
  · simp only [List.mem_cons, List.not_mem_nil, or_false] at hd
    rcases hd with rfl | rfl <;> exact Nat.le_refl _
theorem no_shaped {i : Int} : SeqAt.shaped (.tuple [.str "no", .int i, .bool true]) = true := by
  refine shaped_tup (n := 0) (fun d hd => ?_) (fun d hd => ?_) (by decide)
  · simp only [List.mem_cons, List.not_mem_nil, or_false] at hd
    rcases hd with rfl | rfl | rfl
    · decide +kernel
    · rfl
    · rfl
  · simp only [List.mem_cons, List.not_mem_nil, or_false] at hd
    rcases hd with rfl | rfl | rfl <;> exact Nat.le_refl _
theorem bl_showy : ∀ b : Bool, Showy (.bool b) 0 10
  | true => ⟨rfl, rfl, by decide, by decide +kernel⟩
  | false => ⟨rfl, rfl, by decide, by decide +kernel⟩
theorem cost_bound {e : Int} (h0 : 0 ≤ e) (h1 : e ≤ 100) : ∀ {rs : List (Nat × Nat × Str)}, (∀ r ∈ rs, r.1 < r.2.1 ∧ r.2.1 ≤ 20 ∧ r.2.2.length ≤ 100) → 0 ≤ (rs.map (costE e)).sum ∧ (rs.map (costE e)).sum ≤ 300 * (rs.length : Int)
  | [], _ => by simp
  | r :: t, h => by
    have q := cost_bound h0 h1 (rs := t) fun r' hr => h r' (List.mem_cons_of_mem _ hr)
    have q1 := h r List.mem_cons_self
    rw [List.map_cons, List.sum_cons, List.length_cons]
    unfold costE at q ⊢
    omega
theorem sc_law : FnScope ["_law_script", "_law_pen_here", "_law_turn", "_law_signs_here", "_law_here", "_law_rows", "_law_goal", "_law_extra", "_law_due", "_law_again", "_law_thing", "_law_kept", "_law_fault", "_law_away"] ["_law_script"] (defScope s_law) := ⟨rfl, rfl, rfl, by decide +kernel, rfl, by decide +kernel, by decide +kernel⟩
theorem b_law {f : Addr} {fd : FuncData} (F : FunC K "law" "law" s_law f fd c) (T : Txt mg) (c_lpen : CalG P w K mg base CX0 1 "_law_pen" (spPen K)) (c_lfew : CalG P w K mg base CX0 3 "_law_few" spFew) (c_lntext : CalG P w K mg base CX0 4 "_law_ntext" spNtext) (c_lndrawn : CalG P w K mg base CX0 4 "_law_ndrawn" spDrawn) (c_lnput : CalG P w K mg base CX0 1 "_law_nput" spPut) (c_ldraw : CalG P w K mg base CX0 1 "_law_draw" spDraw) (c_lpick : CalG P w K mg base CX0 2 "_law_pick" (spPick K)) (c_lncost : CalG P w K mg base CX0 1 "_law_ncost" spNcost) (c_lncrooked : CalG P w K mg base CX0 4 "_law_ncrooked" spCrook) (c_lnfault : CalG P w K mg base CX0 3 "_law_nfault" spFirst) (c_is_exchange : CalG P w K mg base CX0 5 "is_exchange" spIsEx) (tb : TabB base mg c P0) (sm : SM base) (c_lnexchanged : CalH P w K mg base CX0 7 "_law_nexchanged" (spNex P w K mg base CN)) (c_exchanged : CalG P w K mg base (L2.CX P w) 5 "exchanged" (spExch CN)) (k_exchanged : CalK P w K mg base (L2.CX P w) 5 "exchanged" (spExch CN) ["exchange", "text"] List.reverse) (k_is_exchange : CalK P w K mg base CX0 5 "is_exchange" spIsEx ["value", "other", "text"] List.reverse) (d_cost_of : CalD P w K mg base CX0 1 "cost_of" spCost [.int 0]) (k_cost_of : CalK P w K mg base CX0 1 "cost_of" spCost ["each", "exchange"] List.reverse) : FnG P w K mg base CX0 8 f fd ["_law_script"] (spLaw P0 K) := by
  refine okC0 F sc_law (fun vs H Q E h => ?_) (fun A outer s H vs Q E hg hr h => ?_)
  · obtain ⟨a, ns, rfl, _⟩ := h
    rfl
  · have hu := hu_of hr
    have hu64 := hr.units
    obtain ⟨a, ns, rfl, hS, hlen, hP0, k⟩ := h
    let cells := (envOfC "law" (defScope s_law) s.heap.objs.size f (.ref c)).cells
    let rd0 : L2.St → List V → Hp → VK → Prop := fun σ vs H Q => ∃ f2 c2, vs = [.ref f2] ∧ H f2 = some (LamO f2 (lam e_l0 qLaw (cloFrom cells (lamSc e_l0).names []) c2)) ∧ H c2 = some (CodeO c2 qLaw) ∧ spL CN ([4, 5].map (slotAt σ)) H (fun v H1 => 2 ≤ sizeLine ∧ ∀ t, H1 t = none → Q (.ref t) (upd H1 t (.tup [.str "told", v]))) (Enex CN Q)
    let rd1 : L2.St → List V → Hp → VK → Prop := fun σ vs H Q => ∃ f2 c2, vs = [.ref f2] ∧ H f2 = some (LamO f2 (lam e_l1 qLaw (cloFrom cells (lamSc e_l1).names []) c2)) ∧ H c2 = some (CodeO c2 qLaw) ∧ spL CN ([4, 10].map (slotAt σ)) H (fun v H1 => 2 ≤ sizeLine ∧ ∀ t, H1 t = none → Q (.ref t) (upd H1 t (.tup [.str "told", v]))) (Enex CN Q)
    have asks0 : ∀ (pins : List (Addr × Obj)) (s2 : Shared) (σ : L2.St) (H2 : Hp) (vs : List V) (Q : VK), Inv (cxOf CX0 P w K mg base ["_law_script", "_law_pen_here", "_law_turn", "_law_signs_here", "_law_here", "_law_rows", "_law_goal", "_law_extra", "_law_due", "_law_again", "_law_thing", "_law_kept", "_law_fault", "_law_away"] "law" (defScope s_law) f (.ref c) A outer s H E).nox pins σ H2 s2 → rd0 σ vs H2 Q → spNex P w K mg base CN s2.heap vs H2 Q E0 := by
      intro pins s2 σ H2 vs Q I h
      obtain ⟨f2, c2, rfl, hf, hc, q⟩ := h
      exact ⟨f2, _, _, _, _, rfl, lk0 k_exchanged qLaw _ c2, hf, hc, cells_of I (Caps.made I.ok (ndef_free free_l0) (ndef_fr free_l0) rfl), q⟩
    have asks1 : ∀ (pins : List (Addr × Obj)) (s2 : Shared) (σ : L2.St) (H2 : Hp) (vs : List V) (Q : VK), Inv (cxOf CX0 P w K mg base ["_law_script", "_law_pen_here", "_law_turn", "_law_signs_here", "_law_here", "_law_rows", "_law_goal", "_law_extra", "_law_due", "_law_again", "_law_thing", "_law_kept", "_law_fault", "_law_away"] "law" (defScope s_law) f (.ref c) A outer s H E).nox pins σ H2 s2 → rd1 σ vs H2 Q → spNex P w K mg base CN s2.heap vs H2 Q E0 := by
      intro pins s2 σ H2 vs Q I h
      obtain ⟨f2, c2, rfl, hf, hc, q⟩ := h
      exact ⟨f2, _, _, _, _, rfl, lk1 c_exchanged qLaw _ c2, hf, hc, cells_of I (Caps.made I.ok (ndef_free free_l1) (ndef_fr free_l1) rfl), q⟩
    refine ⟨_, (pss_cons (ps_set (i := 1) sc_law.nd rfl (Or.inl rfl) (pe_cG c_lpen hg hr (by decide) pass0 (pa_cons (pv 0) pa_nil)))
      (pss_cons (ps_for PassesOwn.never rfl (pi_range1 rfl T.range (pa_cons (pe_op op_add pe_int (pe_callB (call_min2 rfl) (by rfl) T.min (by decide +kernel) (pa_cons pe_int (pa_cons (pe_callB call_len (by rfl) T.len (by decide +kernel) (pa_cons (pv 0) pa_nil)) pa_nil)))) pa_nil)) (pg_name (i := 2) sc_law.nd rfl (Or.inl rfl)) (pss_cons (ps_set (i := 3) sc_law.nd rfl (Or.inl rfl) (pe_cG c_lfew hg hr (by decide) pass0 (pa_cons (pv 1) pa_nil)))
      (pss_cons (ps_set (i := 4) sc_law.nd rfl (Or.inr rfl) (pe_cG c_lntext hg hr (by decide) pass0 (pa_cons (pv 1) (pa_cons (pv 3) (pa_cons pe_int pa_nil)))))
      (pss_cons (ps_set (i := 5) sc_law.nd rfl (Or.inr rfl) (pe_cG c_lndrawn hg hr (by decide) pass0 (pa_cons (pv 1) (pa_cons (pv 4) (pa_cons (pv 3) pa_nil)))))
      (pss_cons (ps_set (i := 6) sc_law.nd rfl (Or.inl rfl) (pe_cG c_lnput hg hr (by decide) pass0 (pa_cons (pv 4) (pa_cons (pv 5) pa_nil))))
      (pss_cons (ps_if (pt_cmpR (op_neD hu64) (pe_cH (rd := rd0) c_lnexchanged hg hr (by decide) pass0 (pa_cons (pe_lamv (T := [(P0, qLaw)]) tb rfl List.mem_cons_self (fun p hp _ => by rw [List.mem_singleton.mp hp]; rfl) rfl (ndef_free free_l0)) pa_nil) asks0) (pe_tup (pa_cons pe_str (pa_cons (pv 6) pa_nil))) (nomark _)) (pss_one (ps_ret pe_bl)) pss_nil)
      (pss_cons (ps_if (pt_cmpR op_notBl (pe_kw k_is_exchange hg hr (by decide) pass0 (pk_cons (pv 5) (pk_cons (pv 6) (pk_cons (pv 4) pk_nil)))) pe_bl (nomark _)) (pss_one (ps_ret pe_bl)) pss_nil)
      (pss_cons (ps_if (pt_cmpR op_notBl (pe_cG c_is_exchange hg hr (by decide) pass0 (pa_cons (pv 4) (pa_cons (pe_op op_add_str (pv 6) pe_str) (pa_cons (pv 5) pa_nil)))) pe_bl (nomark _)) (pss_one (ps_ret pe_bl)) pss_nil)
      (pss_cons (ps_set (i := 7) sc_law.nd rfl (Or.inl rfl) (pe_cG c_lpick hg hr (by decide) pass0 (pa_cons (pv 1) (pa_cons (pe_lst (pa_cons pe_int (pa_cons pe_int (pa_cons pe_int (pa_cons (pe_cG c_ldraw hg hr (by decide) pass0 (pa_cons (pv 1) (pa_cons pe_int pa_nil))) pa_nil))))) pa_nil))))
      (pss_cons (ps_set (i := 8) sc_law.nd rfl (Or.inl rfl) (pe_lst (pa_cons (pe_cG c_lncost hg hr (by decide) pass0 (pa_cons (pv 5) (pa_cons pe_int pa_nil))) (pa_cons (pe_cG c_lncost hg hr (by decide) pass0 (pa_cons (pv 5) (pa_cons (pv 7) pa_nil))) pa_nil))))
      (pss_cons (ps_if (pt_cmpR op_ne (pe_callB (Vk.call_reprD hg hu64) (by rfl) T.repr (by decide +kernel) (pa_cons (pe_lst (pa_cons (pe_cD d_cost_of hg hr (by decide) pass0 (pa_cons (pv 5) pa_nil)) (pa_cons (pe_kw k_cost_of hg hr (by decide) pass0 (pk_cons (pv 7) (pk_cons (pv 5) pk_nil))) pa_nil))) pa_nil)) (pe_callB (Vk.call_reprD hg hu64) (by rfl) T.repr (by decide +kernel) (pa_cons (pv 8) pa_nil)) (nomark _)) (pss_one (ps_ret pe_bl)) pss_nil)
      (pss_one (ps_for PassesOwn.never rfl (pi_range1 rfl T.range (pa_cons pe_int pa_nil)) (pg_name (i := 9) sc_law.nd rfl (Or.inl rfl)) (pss_cons (ps_set (i := 10) sc_law.nd rfl (Or.inr rfl) (pe_cG c_lncrooked hg hr (by decide) pass0 (pa_cons (pv 1) (pa_cons (pv 4) (pa_cons (pv 5) pa_nil)))))
      (pss_cons (ps_par (i := 11) (j := 12) (by rfl) sc_law.nd rfl rfl (by decide) rfl rfl (pa_cons (pe_callB (Vk.call_reprG sm hg hu64) (by rfl) T.repr (by decide +kernel) (pa_cons (pv 10) pa_nil)) (pa_cons (pe_cG c_lnfault hg hr (by decide) pass0 (pa_cons (pv 4) (pa_cons (pv 10) pa_nil))) pa_nil)) (by rfl))
      (pss_cons (ps_set (i := 8) sc_law.nd rfl (Or.inl rfl) (pe_ifExp (pt_cmpR op_notN (pv 12) pe_non (nomark _)) (pe_tup (pa_cons pe_str (pa_cons (pv 12) (pa_cons pe_bl pa_nil)))) (pe_tup (pa_cons pe_str (pa_cons (pe_cG c_lnput hg hr (by decide) pass0 (pa_cons (pv 4) (pa_cons (pv 10) pa_nil))) pa_nil)))))
      (pss_cons (ps_if (PW.pt (pw_or (pt_cmpR (op_neD hu64) (pe_cH (rd := rd1) c_lnexchanged hg hr (by decide) pass0 (pa_cons (pe_lamv (T := [(P0, qLaw)]) tb rfl List.mem_cons_self (fun p hp _ => by rw [List.mem_singleton.mp hp]; rfl) rfl (ndef_free free_l1)) pa_nil) asks1) (pv 8) (nomark _)) (pw_or1 (pt_cmpR op_ne (pe_callB (Vk.call_reprG sm hg hu64) (by rfl) T.repr (by decide +kernel) (pa_cons (pv 10) pa_nil)) (pv 11) (nomark _))))) (pss_one (ps_ret pe_bl)) pss_nil)
      (pss_cons (ps_set (i := 13) sc_law.nd rfl (Or.inl rfl) (pe_cG c_lpick hg hr (by decide) pass0 (pa_cons (pv 1) (pa_cons (pe_lst (pa_cons (pv 6) (pa_cons (pe_ifExp (pt_cmpR op_isN (pv 12) pe_non (nomark _)) (pe_ix ix_tup (pv 8) pe_int (fun _ _ => rfl)) (pv 6)) pa_nil))) pa_nil))))
      (pss_one (ps_if (pt_cmpR op_ne (pe_callB (Vk.call_reprD hg hu64) (by rfl) T.repr (by decide +kernel) (pa_cons (pe_cG c_is_exchange hg hr (by decide) pass0 (pa_cons (pv 4) (pa_cons (pv 13) (pa_cons (pv 10) pa_nil)))) pa_nil)) (pe_callB (Vk.call_reprD hg hu64) (by rfl) T.repr (by decide +kernel) (pa_cons (pe_and (pe_cmpR op_isN (pv 12) pe_non (nomark _)) (pe_one (pe_cmpR op_eq (pe_ix ix_tup (pv 8) pe_int (fun _ _ => rfl)) (pv 13) (nomark _)))) pa_nil)) (nomark _)) (pss_one (ps_ret pe_bl)) pss_nil))))))))))))))))))))
      (pss_one (ps_ret (pe_and (pe_cmpR op_eq (pe_cG c_exchanged hg hr (by decide) passesF (pa_cons pe_str (pa_cons (pe_tup pa_nil) pa_nil))) pe_str (nomark _)) (pe_one (pe_cmpR op_eq (pe_cD d_cost_of hg hr (by decide) pass0 (pa_cons (pe_tup pa_nil) pa_nil)) pe_int (nomark _)))))))), ?_⟩
    refine ⟨_, rfl, a, ns, rfl, hS, fun p pc H1 hp0 Pn0 s1 => ?_⟩
    have T1 : Tabs [(P0, qLaw)] H1 := fun r hr => by
      rw [List.mem_singleton.mp hr]
      exact TabS.nil (s1 _ _ hP0)
    refine ⟨_, rfl, _, _, rfl, .inl ⟨_, s1.seq hS, rfl⟩, _, _, rfl, _, _, rfl, rfl, _, rfl, ?_, ?_, ?_⟩
    · split <;> omega
    · split <;> omega
    refine for_range (lo := 0) (fun i σ H' => ∃ o2 o3 o4 o5 o6 o7 o8 o9 o10 o11 o12 o13 : Option V, σ = [some (.ref a), some (.ref p), o2, o3, o4, o5, o6, o7, o8, o9, o10, o11, o12, o13] ∧ Pen H' p pc (2000 * i) ∧ Tabs [(P0, qLaw)] H') ?_ ?_ ?_
    · exact ⟨_, _, _, _, _, _, _, _, _, _, _, _, rfl, Pn0, T1⟩
    · rintro i σ H2 hi ⟨o2, o3, o4, o5, o6, o7, o8, o9, o10, o11, o12, o13, rfl, P2, T2⟩
      have hi16 : i ≤ 16 := by
        have : i < 17 := by
          revert hi
          split <;> omega
        omega
      refine ⟨_, rfl, p, pc, 2000 * i, rfl, P2, by omega, fun sg H3 fsg P3 x3 => ?_⟩
      have T3 := tabs_pen T2 P2 x3
      refine ⟨_, rfl, _, rfl, p, pc, sg, 10, _, rfl, fsg, by decide, P3, by omega, fun x H4 hx ltx P4 x4 => ?_⟩
      have T4 := tabs_pen T3 P3 x4
      have xl : x.length ≤ sizeLine := Nat.le_trans hx (by decide)
      refine ⟨_, rfl, _, rfl, _, rfl, p, pc, x, sg, _, rfl, hx, ltx, fsg, P4, by omega, fun q xs rs H5 hq rw0 okr l5 w20 P5 x5 => ?_⟩
      have T5 := tabs_pen T4 P4 x5
      have okm := okr_all2 okr
      have glen := paired_len rw0
      have w1000 : ∀ r ∈ rs, r.2.2.length ≤ 1000 := fun r hr => Nat.le_trans (w20 r hr).1 (by decide)
      have w100 : ∀ r ∈ rs, r.2.2.length ≤ 100 := fun r hr => Nat.le_trans (w20 r hr).1 (by decide)
      have fn : faultD x (.tuple (rs.map rowD)) = none := fault_rows okr fun r hr => ⟨lt_isT (w20 r hr).2.1, (w20 r hr).2.2⟩
      have W5 : RW q xs rs H5 := ⟨hq, rw0⟩
      refine ⟨_, rfl, _, rfl, x, q, xs, rs, rfl, by omega, hq, rw0, by omega, w1000, fun H6 s6 => ?_⟩
      have ltg : Ltr (putH x 0 rs "") := putH_lt ltx (fun r hr => (w20 r hr).2.1) lt_none
      generalize hgoal : putH x 0 rs "" = goal at ltg
      have okg : ElG (.tuple (rs.map rowD)) := elg_rows (by omega) fun r hr => ⟨w1000 r hr, lt_ok (w20 r hr).2.1⟩
      have W6 : RW q xs rs H6 := W5.map fun u ws h => s6 _ _ h
      have P6 := P5.stay s6
      have T6 := T5.ext s6
      have gl := putH_len (x := x) (p := 0) (acc := "") w1000
      rw [hgoal] at gl
      have gl2 : (rs.length + 1) * (x.length + 1000) ≤ 6 * 1010 := Nat.mul_le_mul (by omega) (by omega)
      have g0 : ("" : Str).length = 0 := by decide +kernel
      have gll : goal.length ≤ 6060 := by omega
      clear P2 T2 P3 T3 P4 T4 P5 T5 hq rw0 W5 gl gl2 g0
      have eg : putX x (.tuple (rs.map rowD)) = goal := putX_rows.trans hgoal
      have okgs := lt_ok ltg
      have x100 : x.length ≤ 100 := by omega
      -- exchanged
      refine ⟨T6, fun f0 c0 H7 xe be tbe n0 l0 o0 => ⟨f0, c0, rfl, l0, o0, _, _, rfl, .ref q, .tuple (rs.map rowD), x, rfl, W6.tg.keepN xe, okg, x100, (fun j hj => by rw [fn] at hj; cases hj), fun _ H8 s8 => ⟨by decide, fun t ht => ?_⟩⟩⟩
      rw [eg]
      refine ⟨_, rfl, by show 2 ≤ sizeLine; decide, fun u hu => ?_⟩
      refine ⟨.tuple [.str "told", .str goal], .tuple [.str "told", .str goal], .tup (SqT.of ((same_new hu) _ _ upd_same)) (.cons (.str _) (.cons (.str _) .nil)), .tup (SqT.of upd_same) (.cons (.str _) (.cons (.str _) .nil)), told_shaped okgs, told_shaped okgs, _, rfl, ?_⟩
      rw [SeqAt.eqv_refl _ (SeqAt.canLay_of_shaped (told_shaped okgs))]
      refine iteF ?_
      have sT := s8.trans ((same_new (o := .tup [.str "told", .str goal]) ht).trans (same_new (o := .tup [.str "told", .str goal]) hu))
      have W9 := (W6.map (tupN xe)).map fun u ws h => sT _ _ h
      have P9 := (pen_extN P6 xe).stay sT
      have T9 := tbe.ext sT
      generalize upd (upd H8 t (.tup [.str "told", .str goal])) u (.tup [.str "told", .str goal]) = H9 at W9 P9 T9 sT ⊢
      clear P6 T6 W6 xe be tbe n0 l0 o0
      -- is_exchange
      have e1 : ((faultD x (.tuple (rs.map rowD))).isNone && decide (putX x (.tuple (rs.map rowD)) = goal)) = true := by
        rw [fn, eg, decide_eq_true rfl]
        rfl
      have e2 : ((faultD x (.tuple (rs.map rowD))).isNone && decide (putX x (.tuple (rs.map rowD)) = goal ++ "q")) = false := by
        rw [fn, eg, decide_eq_false fun z => ?_]
        · rfl
        · have q := congrArg Str.length z
          rw [strLen_append] at q
          have q1 : ("q" : Str).length = 1 := by decide +kernel
          omega
      refine ⟨_, rfl, _, rfl, _, rfl, rfl, .ref q, .tuple (rs.map rowD), x, goal, rfl, W9.tg, okg, x100, fun H10 s10 => ⟨_, true, rfl, rfl, _, rfl, ?_⟩⟩
      refine iteNS e1 ?_
      have q1 : (Str.ofString "q").length = 1 := by decide +kernel
      refine ⟨_, rfl, _, rfl, _, _, rfl, rfl, Nat.le_of_lt (fewL (by omega)), _, rfl, .ref q, .tuple (rs.map rowD), x, goal ++ "q", rfl, W9.tg.keep s10, okg, x100, fun H11 s11 => ⟨_, false, rfl, rfl, _, rfl, ?_⟩⟩
      refine iteNS e2 ?_
      have s911 := s10.trans s11
      have W11 := W9.map fun u ws h => s911 _ _ h
      have P11 := P9.stay s911
      have T11 := T9.ext s911
      clear W9 P9 T9 e1 e2
      -- what it costs
      refine ⟨_, rfl, _, rfl, p, pc, 101, _, rfl, by decide, by decide, P11, by omega, fun dr H12 d0 d1 P12 x12 => ⟨by show 4 ≤ sizeLine; decide, fun b hb => ?_⟩⟩
      have sb := same_new (o := .lst [.int 0, .int 1, .int 100, .int dr]) hb
      have P13 := P12.stay sb
      refine ⟨p, pc, _, _, _, rfl, .lst (SqL.of upd_same), (fun z => by cases z), by show 4 ≤ 1000; decide, P13, by omega, fun v H14 hv P14 x14 => ?_⟩
      have ev : ∃ e : Int, v = .int e ∧ 0 ≤ e ∧ e ≤ 100 := by
        simp only [List.mem_cons, List.not_mem_nil, or_false] at hv
        rcases hv with rfl | rfl | rfl | rfl
        · exact ⟨_, rfl, by omega, by omega⟩
        · exact ⟨_, rfl, by omega, by omega⟩
        · exact ⟨_, rfl, by omega, by omega⟩
        · exact ⟨_, rfl, by omega, by omega⟩
      obtain ⟨e, rfl, he0, he1⟩ := ev
      have W14 := ((W11.map (pen_tup P11 x12)).map fun u ws h => sb _ _ h).map (pen_tup P13 x14)
      have T14 := tabs_pen ((tabs_pen T11 P11 x12).ext sb) P13 x14
      clear W11 T11 P11 P12 P13 x12 x14
      have r5 : rs.length ≤ 100 := by omega
      refine ⟨_, rfl, q, 0, xs, rs, rfl, W14.hq, W14.rw, r5, w100, fun H15 s15 => ?_⟩
      have W15 := W14.map fun u ws h => s15 _ _ h
      refine ⟨_, rfl, _, rfl, q, e, xs, rs, rfl, W15.hq, W15.rw, r5, w100, fun H16 s16 => ⟨by show 2 ≤ sizeLine; decide, fun l hl => ?_⟩⟩
      have cb0 := cost_bound (e := 0) (by decide) (by decide) (rs := rs) fun r hr => ⟨(okm r hr).2.1, Nat.le_trans (okm r hr).2.2 (by omega), w100 r hr⟩
      have cbe := cost_bound (e := e) he0 he1 (rs := rs) fun r hr => ⟨(okm r hr).2.1, Nat.le_trans (okm r hr).2.2 (by omega), w100 r hr⟩
      have small : ∀ n : Int, 0 ≤ n → n ≤ 300 * (rs.length : Int) → n.natAbs < 10 ^ 100 := fun n h0 h1 => Nat.lt_of_le_of_lt (show n.natAbs ≤ 2000 by omega) (by decide +kernel)
      have sm0 := small _ cb0.1 cb0.2
      have sme := small _ cbe.1 cbe.2
      generalize hn0 : (rs.map (costE 0)).sum = n0 at sm0
      generalize hne : (rs.map (costE e)).sum = ne at sme
      have sh : Showy (.list [.int n0, .int ne]) 1 208 := Showy.list (k := 0) (n := 101) fun d hd => by
        simp only [List.mem_cons, List.not_mem_nil, or_false] at hd
        rcases hd with rfl | rfl
        · exact Showy.int sm0
        · exact Showy.int sme
      have sl := same_new (o := .lst [.int n0, .int ne]) hl
      have W17 := (W15.map fun u ws h => s16 _ _ h).map fun u ws h => sl _ _ h
      have hl17 : (upd H16 l (.lst [.int n0, .int ne])) l = some (.lst [.int n0, .int ne]) := upd_same
      have s1417 := (s15.trans s16).trans sl
      have P17 := P14.stay s1417
      have T17 := T14.ext s1417
      generalize upd H16 l (.lst [.int n0, .int ne]) = H17 at W17 hl17 s1417 P17 T17
      clear cb0 cbe sm0 sme small W14 W15 P14 T14 s15 s16 sl
      refine ⟨_, rfl, q, 0, xs, rs, rfl, W17.hq, W17.rw, r5, w100, fun H18 s18 => ?_⟩
      have W18 := W17.map fun u ws h => s18 _ _ h
      refine ⟨_, rfl, _, rfl, rfl, q, e, xs, rs, rfl, W18.hq, W18.rw, r5, w100, fun H19 s19 => ⟨by show 2 ≤ sizeLine; decide, fun l2 hl2 => ?_⟩⟩
      rw [hn0, hne]
      have sl2 := same_new (o := .lst [.int n0, .int ne]) hl2
      have s1720 := (s18.trans s19).trans sl2
      refine ⟨_, _, rfl, .lst (SqL.of upd_same) (.cons (.int _) (.cons (.int _) .nil)), sh.sh, sh.nd, Nat.le_trans sh.dp (by decide), Nat.le_trans sh.ln (by decide), ?_⟩
      refine ⟨_, rfl, _, _, rfl, .lst (SqL.of (s1720 _ _ hl17)) (.cons (.int _) (.cons (.int _) .nil)), sh.sh, sh.nd, Nat.le_trans sh.dp (by decide), Nat.le_trans sh.ln (by decide), rfl, _, rfl, ?_⟩
      refine iteNS rfl ?_
      have W20 := W17.map fun u ws h => s1720 _ _ h
      have P20 := P17.stay s1720
      have T20 := T17.ext s1720
      generalize upd H19 l2 (.lst [.int n0, .int ne]) = H20 at W20 P20 T20 s1720 ⊢
      clear W17 P17 T17 W18 hn0 hne
      replace P20 := P20.mono (show _ ≤ 2000 * i + 300 by omega)
      have okrows : ∀ r ∈ rs, r.1 ≤ 100 ∧ r.2.1 ≤ 100 ∧ r.2.2.length ≤ 20 ∧ PyData.strOk r.2.2 = true := fun r hr => ⟨by have := okm r hr; omega, by have := okm r hr; omega, (w20 r hr).1, lt_ok (w20 r hr).2.1⟩
      -- crooked ones
      refine ⟨6, rfl, by decide, by decide, ?_⟩
      refine for_range (lo := 0) (n := 6) (fun j σ H' => ∃ o8 o9 o10 o11 o12 o13 : Option V, σ = [some (.ref a), some (.ref p), some (.int (0 + (i : Int))), some (.str sg), some (.str x), some (.ref q), some (.str goal), some (.int e), o8, o9, o10, o11, o12, o13] ∧ Pen H' p pc (2000 * i + 300 + 60 * j) ∧ Tabs [(P0, qLaw)] H' ∧ RW q xs rs H') ?_ ?_ ?_
      · exact ⟨_, _, _, _, _, _, rfl, P20, T20, W20⟩
      · clear P20 T20 W20
        rintro j σ H2 hj ⟨o8, o9, o10, o11, o12, o13, rfl, P2, T2, W2⟩
        refine ⟨_, rfl, _, rfl, _, rfl, p, pc, x, q, xs, rs, _, rfl, by omega, W2.hq, W2.rw, l5, okrows, P2, by omega, fun v d H3 tg gd P3 x3 => ?_⟩
        have T3 := tabs_pen T2 P2 x3
        have W3 := W2.map (pen_tup P2 x3)
        refine ⟨_, rfl, v, d, rfl, tg, gd.2, ?_⟩
        refine ⟨_, rfl, _, rfl, v, d, x, rfl, tg, gd.1, x100, fun H4 s4 => ⟨_, _, rfl, ?_⟩⟩
        have tg4 := tg.keep s4
        have W4 := W3.map fun u ws h => s4 _ _ h
        have P4 := P3.stay s4
        have T4 := T3.ext s4
        clear P2 T2 W2 P3 T3 W3 tg s4 x3
        refine ⟨_, rfl, rfl, _, rfl, ?_⟩
        cases hf : faultD x d with
        | some j0 =>
          rw [show fV (some j0) = V.int ((j0 : Nat) : Int) from rfl]
          refine iteT ?_
          refine ⟨_, rfl, by show 3 ≤ sizeLine; decide, fun t0 ht0 => ?_⟩
          have st0 := same_new (o := .tup [.str "no", .int (j0 : Nat), .bl true]) ht0
          have P5 := P4.stay st0
          have T5 := T4.ext st0
          have tg5 := tg4.keep st0
          have W5 := W4.map fun u ws h => st0 _ _ h
          have hd5 : (upd H4 t0 (.tup [.str "no", .int (j0 : Nat), .bl true])) t0 = some (.tup [.str "no", .int (j0 : Nat), .bl true]) := upd_same
          generalize upd H4 t0 (.tup [.str "no", .int (j0 : Nat), .bl true]) = H5 at P5 T5 tg5 W5 hd5
          clear P4 T4 tg4 W4 st0
          refine ⟨T5, fun f0 c0 H6 xe be tbe n0 l0 o0 => ⟨f0, c0, rfl, l0, o0, _, _, rfl, v, d, x, rfl, tg5.keepN xe, gd.1, x100, (fun j1 hj1 H7 dd s7 hdd => ⟨rfl, dd, j1, rfl, upd_same, fun t2 ht2 => ?_⟩), fun hn => by rw [hf] at hn; cases hn⟩⟩
          have ej : j1 = j0 := Option.some.inj (hj1.symm.trans hf)
          subst ej
          have sT := s7.trans ((same_new (o := .xd [(("index" : Str), .int (j1 : Nat))]) hdd).trans (same_new (o := .tup [.str "no", .int (j1 : Nat), .bl true]) ht2))
          have W8 := (W5.map (tupN xe)).map fun u ws h => sT _ _ h
          have P8 := (pen_extN P5 xe).stay sT
          have T8 := tbe.ext sT
          have tg8 := (tg5.keepN xe).keep sT
          have hd8 := sT _ _ (tupN xe _ _ hd5)
          have ht8 : (upd (upd H7 dd (.xd [(("index" : Str), .int (j1 : Nat))])) t2 (.tup [.str "no", .int (j1 : Nat), .bl true])) t2 = some (.tup [.str "no", .int (j1 : Nat), .bl true]) := upd_same
          generalize upd (upd H7 dd (.xd [(("index" : Str), .int (j1 : Nat))])) t2 (.tup [.str "no", .int (j1 : Nat), .bl true]) = H8 at W8 P8 T8 tg8 hd8 ht8 ⊢
          clear P5 T5 tg5 W5 hd5 xe be tbe n0 l0 o0 sT
          have dpn : ∀ {u}, H8 u = some (.tup [.str "no", .int (j1 : Nat), .bl true]) → Dp K H8 (.ref u) (.tuple [.str "no", .int (j1 : Nat), .bool true]) := fun h => .tup (SqT.of h) (.cons (.str _) (.cons (.int _) (.cons (.bl _) .nil)))
          refine ⟨_, rfl, _, _, dpn ht8, dpn hd8, no_shaped, no_shaped, _, rfl, ?_⟩
          rw [SeqAt.eqv_refl _ (SeqAt.canLay_of_shaped no_shaped)]
          refine iteF ?_
          refine ⟨_, rfl, v, d, rfl, tg8, gd.2, _, rfl, rfl, _, rfl, ?_⟩
          refine iteNS rfl ?_
          -- another text
          refine ⟨_, rfl, _, rfl, _, rfl, rfl, _, rfl, ?_⟩
          refine iteF ?_
          refine ⟨_, rfl, by show 2 ≤ sizeLine; decide, fun b hb => ?_⟩
          have sb := same_new (o := .lst [.str goal, .str goal]) hb
          have P9 := P8.stay sb
          refine ⟨p, pc, _, _, _, rfl, .lst (SqL.of upd_same), (fun z => by cases z), by show 2 ≤ 1000; decide, P9, by omega, fun w H10 hw P10 x10 => ?_⟩
          have ew : w = .str goal := by
            simp only [List.mem_cons, List.not_mem_nil, or_false] at hw
            rcases hw with rfl | rfl <;> rfl
          subst ew
          have tg10 := (tg8.keep sb).ext P9 x10
          have W10 := (W8.map fun u ws h => sb _ _ h).map (pen_tup P9 x10)
          have T10 := tabs_pen (T8.ext sb) P9 x10
          refine ⟨_, rfl, _, rfl, _, rfl, v, d, x, goal, rfl, tg10, gd.1, x100, fun H11 s11 => ?_⟩
          rw [hf]
          have shf := bl_showy false
          refine ⟨_, .bool false, rfl, .bl _, shf.sh, shf.nd, Nat.le_trans shf.dp (by decide), Nat.le_trans shf.ln (by decide), ?_⟩
          refine ⟨_, rfl, rfl, _, rfl, ?_⟩
          refine iteF ?_
          refine ⟨_, .bool false, rfl, .bl _, shf.sh, shf.nd, Nat.le_trans shf.dp (by decide), Nat.le_trans shf.ln (by decide), rfl, _, rfl, ?_⟩
          refine iteNS rfl ?_
          exact ⟨_, _, _, _, _, _, rfl, (P10.stay s11).mono (by omega), T10.ext s11, W10.map fun u ws h => s11 _ _ h⟩
        | none =>
          obtain ⟨rs2, rfl, ok2, it2⟩ := fault_tup hf
          obtain ⟨q2, xs2, rfl, hq2, rw2⟩ := tg_rows tg4
          obtain ⟨el1, el2⟩ := el_rows gd.1
          refine iteF ?_
          refine ⟨_, rfl, _, rfl, x, q2, xs2, rs2, rfl, x100, hq2, rw2, el1, el2, fun H5 s5 => ⟨by show 2 ≤ sizeLine; decide, fun t0 ht0 => ?_⟩⟩
          have lt2 : Ltr (putH x 0 rs2 "") := putH_lt ltx (fun r hr => isT_lt (it2 r hr).1) lt_none
          have eg2 : putX x (.tuple (rs2.map rowD)) = putH x 0 rs2 "" := putX_rows
          generalize putH x 0 rs2 "" = g2 at lt2 eg2 ht0 ⊢
          have ok2s := lt_ok lt2
          have s05 := s5.trans (same_new (o := .tup [.str "told", .str g2]) ht0)
          have P5 := P4.stay s05
          have T5 := T4.ext s05
          have tg5 := tg4.keep s05
          have W5 := W4.map fun u ws h => s05 _ _ h
          have hd5 : (upd H5 t0 (.tup [.str "told", .str g2])) t0 = some (.tup [.str "told", .str g2]) := upd_same
          generalize upd H5 t0 (.tup [.str "told", .str g2]) = H6 at P5 T5 tg5 W5 hd5 s05
          clear P4 T4 tg4 W4 hq2 rw2
          refine ⟨T5, fun f0 c0 H7 xe be tbe n0 l0 o0 => ⟨f0, c0, rfl, l0, o0, _, _, rfl, .ref q2, .tuple (rs2.map rowD), x, rfl, tg5.keepN xe, gd.1, x100, (fun j1 hj1 => by rw [hf] at hj1; cases hj1), fun _ H8 s8 => ⟨by decide, fun t2 ht2 => ?_⟩⟩⟩
          rw [eg2]
          have sT := s8.trans (same_new (o := .tup [.str "told", .str g2]) ht2)
          have W8 := (W5.map (tupN xe)).map fun u ws h => sT _ _ h
          have P8 := (pen_extN P5 xe).stay sT
          have T8 := tbe.ext sT
          have tg8 := (tg5.keepN xe).keep sT
          have hd8 := sT _ _ (tupN xe _ _ hd5)
          have ht8 : (upd H8 t2 (.tup [.str "told", .str g2])) t2 = some (.tup [.str "told", .str g2]) := upd_same
          generalize upd H8 t2 (.tup [.str "told", .str g2]) = H9 at W8 P8 T8 tg8 hd8 ht8 sT ⊢
          clear P5 T5 tg5 W5 hd5 xe be tbe n0 l0 o0 sT
          have dpn : ∀ {u}, H9 u = some (.tup [.str "told", .str g2]) → Dp K H9 (.ref u) (.tuple [.str "told", .str g2]) := fun h => .tup (SqT.of h) (.cons (.str _) (.cons (.str _) .nil))
          refine ⟨_, rfl, _, _, dpn ht8, dpn hd8, told_shaped ok2s, told_shaped ok2s, _, rfl, ?_⟩
          rw [SeqAt.eqv_refl _ (SeqAt.canLay_of_shaped (told_shaped ok2s))]
          refine iteF ?_
          refine ⟨_, rfl, .ref q2, _, rfl, tg8, gd.2, _, rfl, rfl, _, rfl, ?_⟩
          refine iteNS rfl ?_
          -- another text
          refine ⟨_, rfl, _, rfl, _, rfl, rfl, _, rfl, ?_⟩
          refine iteT ?_
          refine ⟨_, rfl, t0, _, _, _, rfl, rfl, SqT.of hd8, rfl, by show 2 ≤ sizeLine; decide, fun b hb => ?_⟩
          have sb := same_new (o := .lst [.str goal, .str g2]) hb
          have P9 := P8.stay sb
          refine ⟨p, pc, _, _, _, rfl, .lst (SqL.of upd_same), (fun z => by cases z), by show 2 ≤ 1000; decide, P9, by omega, fun w H10 hw P10 x10 => ?_⟩
          have ew : ∃ aw : Str, w = .str aw := by
            simp only [List.mem_cons, List.not_mem_nil, or_false] at hw
            rcases hw with rfl | rfl <;> exact ⟨_, rfl⟩
          obtain ⟨aw, rfl⟩ := ew
          have tg10 := (tg8.keep sb).ext P9 x10
          have W10 := (W8.map fun u ws h => sb _ _ h).map (pen_tup P9 x10)
          have T10 := tabs_pen (T8.ext sb) P9 x10
          have hd10 := pen_tup P9 x10 _ _ (sb _ _ hd8)
          refine ⟨_, rfl, _, rfl, _, rfl, .ref q2, _, x, aw, rfl, tg10, gd.1, x100, fun H11 s11 => ?_⟩
          rw [hf, eg2]
          have shf := bl_showy (decide (g2 = aw))
          refine ⟨_, .bool (decide (g2 = aw)), rfl, .bl _, shf.sh, shf.nd, Nat.le_trans shf.dp (by decide), Nat.le_trans shf.ln (by decide), ?_⟩
          refine ⟨_, rfl, rfl, _, rfl, ?_⟩
          refine iteT ?_
          refine ⟨_, rfl, t0, _, _, _, rfl, rfl, SqT.of (s11 _ _ hd10), rfl, _, rfl, rfl, ?_⟩
          rw [show decide (V.str g2 = V.str aw) = decide (g2 = aw) from decide_eq_decide.mpr ⟨fun z => V.str.inj z, fun z => by rw [z]⟩]
          refine ⟨_, .bool (decide (g2 = aw)), rfl, .bl _, shf.sh, shf.nd, Nat.le_trans shf.dp (by decide), Nat.le_trans shf.ln (by decide), rfl, _, rfl, ?_⟩
          refine iteNS rfl ?_
          exact ⟨_, _, _, _, _, _, rfl, (P10.stay s11).mono (by omega), T10.ext s11, W10.map fun u ws h => s11 _ _ h⟩
      · rintro σ H2 ⟨o8, o9, o10, o11, o12, o13, rfl, P2, T2, W2⟩
        exact ⟨_, _, _, _, _, _, _, _, _, _, _, _, rfl, P2.mono (by omega), T2⟩
    · rintro σ H2 ⟨o2, o3, o4, o5, o6, o7, o8, o9, o10, o11, o12, o13, rfl, P2, T2⟩
      refine ⟨by show 0 ≤ sizeLine; decide, fun u hu => ?_⟩
      refine ⟨.ref u, .tuple [], "", rfl, .tup upd_same .nil, (fun ds z => by cases z; exact ⟨by decide, fun e he => absurd he List.not_mem_nil⟩), by decide, (fun j hj => nomatch hj), fun _ H4 s4 => ?_⟩
      refine ⟨rfl, _, rfl, ?_⟩
      rw [show putX "" (.tuple []) = "" by decide +kernel]
      refine iteT ?_
      refine ⟨by show 0 ≤ sizeLine; decide, fun u2 hu2 => ⟨u2, 0, [], [], rfl, upd_same, .nil, by decide, (fun r hr => nomatch hr), fun H6 s6 => ?_⟩⟩
      refine ⟨rfl, ?_⟩
      exact k _

end
end Vk
set_option Elab.async false
set_option maxRecDepth 100000
set_option linter.all false
set_option maxHeartbeats 4000000
namespace Vk
open PySem PySem.Spec PyProof.Rows L2 LamX NdefX StX PySem.VkX
theorem makC_mk {K : PySem.W.Frag} {x qual : Str} {st : Stmt} {f c : Addr} {oc : Value} {od an : Option Addr} {sl : Array (Option Value)} {kV doc pm ct : Value}
    (l : K.lookup f = some ⟨oc, od, .func (PySem.W.fnOf x qual (defArgs st) (defBody st) (defScope st) .none kV doc pm an (.ref c) ct), sl⟩) (h : PySem.W.codeIn K (.ref c) qual = true) (k : PySem.W.keepIn K (.ref f) = true) :
    FunC K x qual st f (PySem.W.fnOf x qual (defArgs st) (defBody st) (defScope st) .none kV doc pm an (.ref c) ct) c := ⟨⟨oc, od, kV, doc, pm, an, ct, sl, rfl, l, h⟩, k⟩
theorem tab_mk {K : PySem.W.Frag} {x : Str} {f c P : Addr} {oc o2 v0 v1 v2 v3 v4 v5 v6 v7 v8 v9 v10 : Value} {od d2 : Option Addr} {fd : FuncData} {sl s2 : Array (Option Value)} {rest : List Value} (a : PySem.W.nsIn K mainGlobals x = some (some (.ref f))) (l : K.lookup f = some ⟨oc, od, .func fd, sl⟩) (hc : fd.code = .ref c)
    (l2 : K.lookup c = some ⟨o2, d2, .fields (List.toArray (v0 :: v1 :: v2 :: v3 :: v4 :: v5 :: v6 :: v7 :: v8 :: v9 :: v10 :: .ref P :: rest)), s2⟩) : PySem.W.tabIn K x = some (c, P) := by
  unfold PySem.W.tabIn
  rw [a]
  dsimp only
  rw [l]
  dsimp only
  rw [hc]
  dsimp only
  rw [l2]
  rfl
/-- a def with one value of its own for a parameter that is named -/
theorem fund_mk {K : PySem.W.Frag} {x y : Str} {st : Stmt} {f D : Addr} {oc : Value} {od an : Option Addr} {sl : Array (Option Value)} {doc pm cd ct : Value} {i : Int} {tk : Tok}
    (l : K.lookup f = some ⟨oc, od, .func (PySem.W.fnOf x x (defArgs st) (defBody st) (defScope st) .none (.ref D) doc pm an cd ct), sl⟩) (c : PySem.W.codeIn K cd x = true) (k : PySem.W.keepIn K (.ref f) = true)
    (e : PySem.W.nsIn K D y = some (some (.int i tk))) : L2.FunD K x x (defArgs st) (defBody st) (defScope st) [] [(y, .int i)] f (PySem.W.fnOf x x (defArgs st) (defBody st) (defScope st) .none (.ref D) doc pm an cd ct) :=
  ⟨⟨oc, od, .none, .ref D, doc, pm, an, cd, ct, sl, rfl, l, c, .inl ⟨rfl, rfl⟩, .inr ⟨D, rfl, fun q hq => by
    rw [List.mem_singleton.mp hq]
    exact ⟨_, e, tk, rfl⟩⟩⟩, k⟩
structure AtD (K : PySem.W.Frag) (x y : Str) (i : Int) (st : Stmt) (f : Addr) (fd : FuncData) : Prop where
  ns : PySem.W.nsIn K mainGlobals x = some (some (.ref f))
  fn : Fun K x x st f fd
  fd : L2.FunD K x x (defArgs st) (defBody st) (defScope st) [] [(y, .int i)] f fd
theorem atd_mk {K : PySem.W.Frag} {x y : Str} {st : Stmt} {f D : Addr} {oc : Value} {od an : Option Addr} {sl : Array (Option Value)} {doc pm cd ct : Value} {i : Int} {tk : Tok}
    (a : PySem.W.nsIn K mainGlobals x = some (some (.ref f)))
    (l : K.lookup f = some ⟨oc, od, .func (PySem.W.fnOf x x (defArgs st) (defBody st) (defScope st) .none (.ref D) doc pm an cd ct), sl⟩) (c : PySem.W.codeIn K cd x = true) (k : PySem.W.keepIn K (.ref f) = true)
    (e : PySem.W.nsIn K D y = some (some (.int i tk))) : AtD K x y i st f (PySem.W.fnOf x x (defArgs st) (defBody st) (defScope st) .none (.ref D) doc pm an cd ct) := ⟨a, L2.fun_mk l c k, fund_mk l c k e⟩
theorem sub_one {K : PySem.W.Frag} {C D : Addr} {x y : Str} {tl tl2 : List Value} (c : One K C x tl) (d : One K D y tl2) : PySem.W.subIn K (.ref C) (.ref D) = some (x == y) := by
  obtain ⟨cd, h1, h2, h3, h4⟩ := c.cn.cls
  show PySem.W.mroIn K C (.ref D) = some (x == y)
  unfold PySem.W.mroIn
  rw [h1, Option.bind_some, h3, if_neg (by simp), List.contains_cons, notIn_types c.rf, Bool.or_false]
  by_cases e : C = D
  · subst e
    have exy : x = y := c.cn.inj d.cn (by simp)
    rw [exy]
    simp
  · have nxy : (x == y) = false := by
      rw [beq_eq_false_iff_ne]
      rintro rfl
      have z := c.ns.symm.trans d.ns
      cases z
      exact e rfl
    rw [nxy]
    exact congrArg some (beq_eq_false_iff_ne.mpr fun z => e (Value.ref.inj z).symm)
theorem all {l : PySem.W.OpenLaw} {w : World} {K : PySem.W.Frag} {h : Heap} {mg : Str → Option Value} {fa : Addr} (X : K.In h) (G : h.Ns mainGlobals mg) (hfa : mg "law" = some (.ref fa))
    (e_NoExchange : ∃ (C f : Addr) (fd : FuncData), ExcTxt K "NoExchange" "NoExchange.__init__" m_NoExchange C f fd ["index"] tlV)
    (d_is_text : ∃ (f : Addr) (fd : FuncData), At K "is_text" s_is_text f fd)
    (d_is_integer : ∃ (f : Addr) (fd : FuncData), At K "is_integer" s_is_integer f fd)
    (d_is_integer_in : ∃ (f : Addr) (fd : FuncData), At K "is_integer_in" s_is_integer_in f fd)
    (d_text_behind : ∃ (f : Addr) (fd : FuncData), At K "text_behind" s_text_behind f fd)
    (d_stands_twice : ∃ (f : Addr) (fd : FuncData), At K "stands_twice" s_stands_twice f fd)
    (d_stands_once : ∃ (f : Addr) (fd : FuncData), At K "stands_once" s_stands_once f fd)
    (d_is_exchange_part : ∃ (f : Addr) (fd : FuncData), At K "is_exchange_part" s_is_exchange_part f fd)
    (d_first_wrong : ∃ (f : Addr) (fd : FuncData), At K "first_wrong" s_first_wrong f fd)
    (d_exchanged : ∃ (f : Addr) (fd : FuncData), At K "exchanged" s_exchanged f fd)
    (d_is_exchange : ∃ (f : Addr) (fd : FuncData), At K "is_exchange" s_is_exchange f fd)
    (d_cost_of : ∃ (f : Addr) (fd : FuncData), AtD K "cost_of" "each" 0 s_cost_of f fd)
    (d_lsigns : ∃ (f : Addr) (fd : FuncData), At K "_law_signs" s_lsigns f fd)
    (d_ldraw : ∃ (f : Addr) (fd : FuncData), At K "_law_draw" s_ldraw f fd)
    (d_lpen : ∃ (f : Addr) (fd : FuncData), At K "_law_pen" s_lpen f fd)
    (d_lpick : ∃ (f : Addr) (fd : FuncData), At K "_law_pick" s_lpick f fd)
    (d_lis_text : ∃ (f : Addr) (fd : FuncData), At K "_law_is_text" s_lis_text f fd)
    (d_lis_number : ∃ (f : Addr) (fd : FuncData), At K "_law_is_number" s_lis_number f fd)
    (d_lfew : ∃ (f : Addr) (fd : FuncData), At K "_law_few" s_lfew f fd)
    (d_lword : ∃ (f : Addr) (fd : FuncData), At K "_law_word" s_lword f fd)
    (d_lplaces : ∃ (f : Addr) (fd : FuncData), At K "_law_places" s_lplaces f fd)
    (d_lany_value : ∃ (f : Addr) (fd : FuncData), At K "_law_any_value" s_lany_value f fd)
    (d_lntext : ∃ (f : Addr) (fd : FuncData), At K "_law_ntext" s_lntext f fd)
    (d_lnonce : ∃ (f : Addr) (fd : FuncData), At K "_law_nonce" s_lnonce f fd)
    (d_lnaround : ∃ (f : Addr) (fd : FuncData), At K "_law_naround" s_lnaround f fd)
    (d_lnspot : ∃ (f : Addr) (fd : FuncData), At K "_law_nspot" s_lnspot f fd)
    (d_lnput : ∃ (f : Addr) (fd : FuncData), At K "_law_nput" s_lnput f fd)
    (d_lnfault : ∃ (f : Addr) (fd : FuncData), At K "_law_nfault" s_lnfault f fd)
    (d_lndrawn : ∃ (f : Addr) (fd : FuncData), At K "_law_ndrawn" s_lndrawn f fd)
    (d_lncost : ∃ (f : Addr) (fd : FuncData), At K "_law_ncost" s_lncost f fd)
    (d_lncrooked : ∃ (f : Addr) (fd : FuncData), At K "_law_ncrooked" s_lncrooked f fd)
    (d_lnexchanged : ∃ (f : Addr) (fd : FuncData), At K "_law_nexchanged" s_lnexchanged f fd)
    (d_law : ∃ (f c tP : Addr) (fd : FuncData), PySem.W.nsIn K mainGlobals "law" = some (some (.ref f)) ∧ FunC K "law" "law" s_law f fd c ∧ PySem.W.tabIn K "law" = some (c, tP))
    (z_str : PySem.W.nsIn K mainGlobals "str" = some none)
    (z_tuple : PySem.W.nsIn K mainGlobals "tuple" = some none)
    (z_enumerate : PySem.W.nsIn K mainGlobals "enumerate" = some none)
    (z_bool : PySem.W.nsIn K mainGlobals "bool" = some none)
    (z_sum : PySem.W.nsIn K mainGlobals "sum" = some none)
    (z_max : PySem.W.nsIn K mainGlobals "max" = some none)
    (z_ValueError : PySem.W.nsIn K mainGlobals "ValueError" = some none)
    (z_len : PySem.W.nsIn K mainGlobals "len" = some none)
    (z_list : PySem.W.nsIn K mainGlobals "list" = some none)
    (z_int : PySem.W.nsIn K mainGlobals "int" = some none)
    (z_abs : PySem.W.nsIn K mainGlobals "abs" = some none)
    (z_range : PySem.W.nsIn K mainGlobals "range" = some none)
    (z_min : PySem.W.nsIn K mainGlobals "min" = some none)
    (z_repr : PySem.W.nsIn K mainGlobals "repr" = some none)
    (z_isinstance : PySem.W.nsIn K mainGlobals "isinstance" = some none)
    (g_LETTERS : ∃ u, mg "LETTERS" = some u ∧ RelV (.str letS) u)
    (tb : ∀ c tP : Addr, PySem.W.tabIn K "law" = some (c, tP) → h.get? tP = some { cls := .none, data := .fields #[] } ∧ K.lookup tP = none ∧ PySem.W.CodeHd h c tP)
    : ∃ (fd : FuncData) (c tP : Addr), h.get? tP = some { cls := .none, data := .fields #[] } ∧ K.lookup tP = none ∧ PySem.W.CodeHd h c tP ∧ (∀ (s : Shared) (v : Value), BindsTo s fd ⟨[v], []⟩ [("_law_script", v)]) ∧ ∀ base : Heap, K.In base → base.Ns mainGlobals mg → TabB base mg c tP → SM base → FnG l.prog w K mg base CX0 8 fa fd ["_law_script"] (spLaw tP K) := by
  obtain ⟨C_NoExchange, i_NoExchange, fd_NoExchange, E_NoExchange⟩ := e_NoExchange
  have o_NoExchange : One K C_NoExchange "NoExchange" tlV := ⟨E_NoExchange.cn, E_NoExchange.ns, rfl⟩
  obtain ⟨f_is_text, fd_is_text, A_is_text⟩ := d_is_text
  have m_is_text := PySem.W.mg_of X G A_is_text.ns
  obtain ⟨f_is_integer, fd_is_integer, A_is_integer⟩ := d_is_integer
  have m_is_integer := PySem.W.mg_of X G A_is_integer.ns
  obtain ⟨f_is_integer_in, fd_is_integer_in, A_is_integer_in⟩ := d_is_integer_in
  have m_is_integer_in := PySem.W.mg_of X G A_is_integer_in.ns
  obtain ⟨f_text_behind, fd_text_behind, A_text_behind⟩ := d_text_behind
  have m_text_behind := PySem.W.mg_of X G A_text_behind.ns
  obtain ⟨f_stands_twice, fd_stands_twice, A_stands_twice⟩ := d_stands_twice
  have m_stands_twice := PySem.W.mg_of X G A_stands_twice.ns
  obtain ⟨f_stands_once, fd_stands_once, A_stands_once⟩ := d_stands_once
  have m_stands_once := PySem.W.mg_of X G A_stands_once.ns
  obtain ⟨f_is_exchange_part, fd_is_exchange_part, A_is_exchange_part⟩ := d_is_exchange_part
  have m_is_exchange_part := PySem.W.mg_of X G A_is_exchange_part.ns
  obtain ⟨f_first_wrong, fd_first_wrong, A_first_wrong⟩ := d_first_wrong
  have m_first_wrong := PySem.W.mg_of X G A_first_wrong.ns
  obtain ⟨f_exchanged, fd_exchanged, A_exchanged⟩ := d_exchanged
  have m_exchanged := PySem.W.mg_of X G A_exchanged.ns
  obtain ⟨f_is_exchange, fd_is_exchange, A_is_exchange⟩ := d_is_exchange
  have m_is_exchange := PySem.W.mg_of X G A_is_exchange.ns
  obtain ⟨f_cost_of, fd_cost_of, A_cost_of⟩ := d_cost_of
  have m_cost_of := PySem.W.mg_of X G A_cost_of.ns
  obtain ⟨f_lsigns, fd_lsigns, A_lsigns⟩ := d_lsigns
  have m_lsigns := PySem.W.mg_of X G A_lsigns.ns
  obtain ⟨f_ldraw, fd_ldraw, A_ldraw⟩ := d_ldraw
  have m_ldraw := PySem.W.mg_of X G A_ldraw.ns
  obtain ⟨f_lpen, fd_lpen, A_lpen⟩ := d_lpen
  have m_lpen := PySem.W.mg_of X G A_lpen.ns
  obtain ⟨f_lpick, fd_lpick, A_lpick⟩ := d_lpick
  have m_lpick := PySem.W.mg_of X G A_lpick.ns
  obtain ⟨f_lis_text, fd_lis_text, A_lis_text⟩ := d_lis_text
  have m_lis_text := PySem.W.mg_of X G A_lis_text.ns
  obtain ⟨f_lis_number, fd_lis_number, A_lis_number⟩ := d_lis_number
  have m_lis_number := PySem.W.mg_of X G A_lis_number.ns
  obtain ⟨f_lfew, fd_lfew, A_lfew⟩ := d_lfew
  have m_lfew := PySem.W.mg_of X G A_lfew.ns
  obtain ⟨f_lword, fd_lword, A_lword⟩ := d_lword
  have m_lword := PySem.W.mg_of X G A_lword.ns
  obtain ⟨f_lplaces, fd_lplaces, A_lplaces⟩ := d_lplaces
  have m_lplaces := PySem.W.mg_of X G A_lplaces.ns
  obtain ⟨f_lany_value, fd_lany_value, A_lany_value⟩ := d_lany_value
  have m_lany_value := PySem.W.mg_of X G A_lany_value.ns
  obtain ⟨f_lntext, fd_lntext, A_lntext⟩ := d_lntext
  have m_lntext := PySem.W.mg_of X G A_lntext.ns
  obtain ⟨f_lnonce, fd_lnonce, A_lnonce⟩ := d_lnonce
  have m_lnonce := PySem.W.mg_of X G A_lnonce.ns
  obtain ⟨f_lnaround, fd_lnaround, A_lnaround⟩ := d_lnaround
  have m_lnaround := PySem.W.mg_of X G A_lnaround.ns
  obtain ⟨f_lnspot, fd_lnspot, A_lnspot⟩ := d_lnspot
  have m_lnspot := PySem.W.mg_of X G A_lnspot.ns
  obtain ⟨f_lnput, fd_lnput, A_lnput⟩ := d_lnput
  have m_lnput := PySem.W.mg_of X G A_lnput.ns
  obtain ⟨f_lnfault, fd_lnfault, A_lnfault⟩ := d_lnfault
  have m_lnfault := PySem.W.mg_of X G A_lnfault.ns
  obtain ⟨f_lndrawn, fd_lndrawn, A_lndrawn⟩ := d_lndrawn
  have m_lndrawn := PySem.W.mg_of X G A_lndrawn.ns
  obtain ⟨f_lncost, fd_lncost, A_lncost⟩ := d_lncost
  have m_lncost := PySem.W.mg_of X G A_lncost.ns
  obtain ⟨f_lncrooked, fd_lncrooked, A_lncrooked⟩ := d_lncrooked
  have m_lncrooked := PySem.W.mg_of X G A_lncrooked.ns
  obtain ⟨f_lnexchanged, fd_lnexchanged, A_lnexchanged⟩ := d_lnexchanged
  have m_lnexchanged := PySem.W.mg_of X G A_lnexchanged.ns
  obtain ⟨f_law, c_law, tP, fd_law, q_law, F_law, w_law⟩ := d_law
  have m_law := PySem.W.mg_of X G q_law
  have e := hfa.symm.trans m_law
  cases e
  have T : Txt mg := ⟨PySem.W.mg_none_of X G z_str, PySem.W.mg_none_of X G z_tuple, PySem.W.mg_none_of X G z_enumerate, PySem.W.mg_none_of X G z_bool, PySem.W.mg_none_of X G z_sum, PySem.W.mg_none_of X G z_max, PySem.W.mg_none_of X G z_ValueError, PySem.W.mg_none_of X G z_len, PySem.W.mg_none_of X G z_list, PySem.W.mg_none_of X G z_int, PySem.W.mg_none_of X G z_abs, PySem.W.mg_none_of X G z_range, PySem.W.mg_none_of X G z_min, PySem.W.mg_none_of X G z_repr, PySem.W.mg_none_of X G z_isinstance⟩
  have bd_is_text : Binds K fd_is_text ["value"] [] := A_is_text.fn.binds (ps := ["value"]) fun _ _ _ _ _ _ us hl => match us, hl with | [_], _ => rfl
  have bd_is_integer : Binds K fd_is_integer ["value"] [] := A_is_integer.fn.binds (ps := ["value"]) fun _ _ _ _ _ _ us hl => match us, hl with | [_], _ => rfl
  have bd_is_integer_in : Binds K fd_is_integer_in ["value", "low", "high"] [] := A_is_integer_in.fn.binds (ps := ["value", "low", "high"]) fun _ _ _ _ _ _ us hl => match us, hl with | [_, _, _], _ => rfl
  have bd_text_behind : Binds K fd_text_behind ["text", "puts"] [] := A_text_behind.fn.binds (ps := ["text", "puts"]) fun _ _ _ _ _ _ us hl => match us, hl with | [_, _], _ => rfl
  have bd_stands_twice : Binds K fd_stands_twice ["text", "word"] [] := A_stands_twice.fn.binds (ps := ["text", "word"]) fun _ _ _ _ _ _ us hl => match us, hl with | [_, _], _ => rfl
  have bd_stands_once : Binds K fd_stands_once ["text", "word"] [] := A_stands_once.fn.binds (ps := ["text", "word"]) fun _ _ _ _ _ _ us hl => match us, hl with | [_, _], _ => rfl
  have bd_is_exchange_part : Binds K fd_is_exchange_part ["value", "text", "least"] [] := A_is_exchange_part.fn.binds (ps := ["value", "text", "least"]) fun _ _ _ _ _ _ us hl => match us, hl with | [_, _, _], _ => rfl
  have bd_first_wrong : Binds K fd_first_wrong ["text", "exchange"] [] := A_first_wrong.fn.binds (ps := ["text", "exchange"]) fun _ _ _ _ _ _ us hl => match us, hl with | [_, _], _ => rfl
  have bd_exchanged : Binds K fd_exchanged ["text", "exchange"] [] := A_exchanged.fn.binds (ps := ["text", "exchange"]) fun _ _ _ _ _ _ us hl => match us, hl with | [_, _], _ => rfl
  have bd_is_exchange : Binds K fd_is_exchange ["text", "other", "value"] [] := A_is_exchange.fn.binds (ps := ["text", "other", "value"]) fun _ _ _ _ _ _ us hl => match us, hl with | [_, _, _], _ => rfl
  have bd_lsigns : Binds K fd_lsigns [] [] := A_lsigns.fn.binds (ps := []) fun _ _ _ _ _ _ us hl => match us, hl with | [], _ => rfl
  have bd_ldraw : Binds K fd_ldraw ["_law_pen_here", "_law_many"] [] := A_ldraw.fn.binds (ps := ["_law_pen_here", "_law_many"]) fun _ _ _ _ _ _ us hl => match us, hl with | [_, _], _ => rfl
  have bd_lpen : Binds K fd_lpen ["_law_script"] [] := A_lpen.fn.binds (ps := ["_law_script"]) fun _ _ _ _ _ _ us hl => match us, hl with | [_], _ => rfl
  have bd_lpick : Binds K fd_lpick ["_law_pen_here", "_law_options"] [] := A_lpick.fn.binds (ps := ["_law_pen_here", "_law_options"]) fun _ _ _ _ _ _ us hl => match us, hl with | [_, _], _ => rfl
  have bd_lis_text : Binds K fd_lis_text ["_law_thing"] [] := A_lis_text.fn.binds (ps := ["_law_thing"]) fun _ _ _ _ _ _ us hl => match us, hl with | [_], _ => rfl
  have bd_lis_number : Binds K fd_lis_number ["_law_thing", "_law_least", "_law_greatest"] [] := A_lis_number.fn.binds (ps := ["_law_thing", "_law_least", "_law_greatest"]) fun _ _ _ _ _ _ us hl => match us, hl with | [_, _, _], _ => rfl
  have bd_lfew : Binds K fd_lfew ["_law_pen_here"] [] := A_lfew.fn.binds (ps := ["_law_pen_here"]) fun _ _ _ _ _ _ us hl => match us, hl with | [_], _ => rfl
  have bd_lword : Binds K fd_lword ["_law_pen_here", "_law_signs_here", "_law_least", "_law_most_letters"] [] := A_lword.fn.binds (ps := ["_law_pen_here", "_law_signs_here", "_law_least", "_law_most_letters"]) fun _ _ _ _ _ _ us hl => match us, hl with | [_, _, _, _], _ => rfl
  have bd_lplaces : Binds K fd_lplaces ["_law_text_here", "_law_was"] [] := A_lplaces.fn.binds (ps := ["_law_text_here", "_law_was"]) fun _ _ _ _ _ _ us hl => match us, hl with | [_, _], _ => rfl
  have bd_lany_value : Binds K fd_lany_value ["_law_pen_here"] [] := A_lany_value.fn.binds (ps := ["_law_pen_here"]) fun _ _ _ _ _ _ us hl => match us, hl with | [_], _ => rfl
  have bd_lntext : Binds K fd_lntext ["_law_pen_here", "_law_signs_here", "_law_most_letters"] [] := A_lntext.fn.binds (ps := ["_law_pen_here", "_law_signs_here", "_law_most_letters"]) fun _ _ _ _ _ _ us hl => match us, hl with | [_, _, _], _ => rfl
  have bd_lnonce : Binds K fd_lnonce ["_law_text_here", "_law_a", "_law_b"] [] := A_lnonce.fn.binds (ps := ["_law_text_here", "_law_a", "_law_b"]) fun _ _ _ _ _ _ us hl => match us, hl with | [_, _, _], _ => rfl
  have bd_lnaround : Binds K fd_lnaround ["_law_text_here", "_law_a", "_law_b"] [] := A_lnaround.fn.binds (ps := ["_law_text_here", "_law_a", "_law_b"]) fun _ _ _ _ _ _ us hl => match us, hl with | [_, _, _], _ => rfl
  have bd_lnspot : Binds K fd_lnspot ["_law_pen_here", "_law_text_here"] [] := A_lnspot.fn.binds (ps := ["_law_pen_here", "_law_text_here"]) fun _ _ _ _ _ _ us hl => match us, hl with | [_, _], _ => rfl
  have bd_lnput : Binds K fd_lnput ["_law_text_here", "_law_rows"] [] := A_lnput.fn.binds (ps := ["_law_text_here", "_law_rows"]) fun _ _ _ _ _ _ us hl => match us, hl with | [_, _], _ => rfl
  have bd_lnfault : Binds K fd_lnfault ["_law_text_here", "_law_thing"] [] := A_lnfault.fn.binds (ps := ["_law_text_here", "_law_thing"]) fun _ _ _ _ _ _ us hl => match us, hl with | [_, _], _ => rfl
  have bd_lndrawn : Binds K fd_lndrawn ["_law_pen_here", "_law_text_here", "_law_signs_here"] [] := A_lndrawn.fn.binds (ps := ["_law_pen_here", "_law_text_here", "_law_signs_here"]) fun _ _ _ _ _ _ us hl => match us, hl with | [_, _, _], _ => rfl
  have bd_lncost : Binds K fd_lncost ["_law_rows", "_law_extra"] [] := A_lncost.fn.binds (ps := ["_law_rows", "_law_extra"]) fun _ _ _ _ _ _ us hl => match us, hl with | [_, _], _ => rfl
  have bd_lncrooked : Binds K fd_lncrooked ["_law_pen_here", "_law_here", "_law_rows"] [] := A_lncrooked.fn.binds (ps := ["_law_pen_here", "_law_here", "_law_rows"]) fun _ _ _ _ _ _ us hl => match us, hl with | [_, _, _], _ => rfl
  have bd_lnexchanged : Binds K fd_lnexchanged ["_law_call"] [] := A_lnexchanged.fn.binds (ps := ["_law_call"]) fun _ _ _ _ _ _ us hl => match us, hl with | [_], _ => rfl
  have bd_cost_of : ∃ ds, Vals [V.int 0] ds ∧ Binds K fd_cost_of ["exchange", "each"] ds := A_cost_of.fd.binds0 (ps := ["exchange", "each"]) 1 (fun z => nomatch z) rfl fun D doc pm an cdv ct us ks h1 h2 => match us, ks, h1, h2 with
    | [u], [v], _, _ => ⟨_, _, _, _, _, _, rfl, rfl, rfl⟩
  obtain ⟨tb1, tb2, tb3⟩ := tb _ _ w_law
  refine ⟨fd_law, c_law, tP, tb1, tb2, tb3, fun s v => F_law.fn.binds1 rfl s v, fun base _ _ tab sm => ?_⟩
  have k_NoExchange : ClsI l.prog w K mg base 1 "NoExchange" C_NoExchange ["index"] := c_NoExchange X G E_NoExchange
  have c_is_text : CalG l.prog w K mg base CX0 1 "is_text" (spTest isT) := ⟨f_is_text, fd_is_text, _, b_is_text A_is_text.fn T g_LETTERS, m_is_text, A_is_text.fn.kp, bd_is_text⟩
  have c_is_integer : CalG l.prog w K mg base CX0 1 "is_integer" spIsInt := ⟨f_is_integer, fd_is_integer, _, b_is_integer A_is_integer.fn T, m_is_integer, A_is_integer.fn.kp, bd_is_integer⟩
  have c_is_integer_in : CalG l.prog w K mg base CX0 2 "is_integer_in" spInI := ⟨f_is_integer_in, fd_is_integer_in, _, b_is_integer_in A_is_integer_in.fn T c_is_integer, m_is_integer_in, A_is_integer_in.fn.kp, bd_is_integer_in⟩
  have c_text_behind : CalG l.prog w K mg base CX0 1 "text_behind" spBehind := ⟨f_text_behind, fd_text_behind, _, b_text_behind A_text_behind.fn T, m_text_behind, A_text_behind.fn.kp, bd_text_behind⟩
  have c_stands_twice : CalG l.prog w K mg base CX0 1 "stands_twice" spTwice := ⟨f_stands_twice, fd_stands_twice, _, b_stands_twice A_stands_twice.fn T, m_stands_twice, A_stands_twice.fn.kp, bd_stands_twice⟩
  have c_stands_once : CalG l.prog w K mg base CX0 2 "stands_once" spOnce := ⟨f_stands_once, fd_stands_once, _, b_stands_once A_stands_once.fn T c_stands_twice, m_stands_once, A_stands_once.fn.kp, bd_stands_once⟩
  have c_is_exchange_part : CalG l.prog w K mg base CX0 3 "is_exchange_part" spPartOk := ⟨f_is_exchange_part, fd_is_exchange_part, _, b_is_exchange_part A_is_exchange_part.fn T c_is_text c_is_integer_in c_stands_once, m_is_exchange_part, A_is_exchange_part.fn.kp, bd_is_exchange_part⟩
  have c_first_wrong : CalG l.prog w K mg base CX0 4 "first_wrong" spFirst := ⟨f_first_wrong, fd_first_wrong, _, b_first_wrong A_first_wrong.fn T c_is_exchange_part, m_first_wrong, A_first_wrong.fn.kp, bd_first_wrong⟩
  have c_exchanged : CalG l.prog w K mg base (L2.CX l.prog w) 5 "exchanged" (spExch C_NoExchange) := ⟨f_exchanged, fd_exchanged, _, b_exchanged A_exchanged.fn T c_first_wrong c_text_behind k_NoExchange, m_exchanged, A_exchanged.fn.kp, bd_exchanged⟩
  have c_is_exchange : CalG l.prog w K mg base CX0 5 "is_exchange" spIsEx := ⟨f_is_exchange, fd_is_exchange, _, b_is_exchange A_is_exchange.fn T c_first_wrong c_text_behind, m_is_exchange, A_is_exchange.fn.kp, bd_is_exchange⟩
  obtain ⟨ds_cost_of, rd_cost_of, bd_cost_of⟩ := bd_cost_of
  have d_cost_of : CalD l.prog w K mg base CX0 1 "cost_of" spCost [.int 0] := ⟨f_cost_of, fd_cost_of, _, ds_cost_of, b_cost_of A_cost_of.fn T, m_cost_of, A_cost_of.fn.kp, rd_cost_of, bd_cost_of⟩
  have k_cost_of : CalK l.prog w K mg base CX0 1 "cost_of" spCost ["each", "exchange"] List.reverse := ⟨f_cost_of, fd_cost_of, ["exchange", "each"], b_cost_of A_cost_of.fn T, m_cost_of, A_cost_of.fn.kp, A_cost_of.fn.kwb fun _ _ _ _ _ _ us hl => match us, hl with | [_, _], _ => rfl, fun _ _ r _ => vals_rev r⟩
  have c_lsigns : CalG l.prog w K mg base CX0 1 "_law_signs" spSigns := ⟨f_lsigns, fd_lsigns, _, b_lsigns A_lsigns.fn T, m_lsigns, A_lsigns.fn.kp, bd_lsigns⟩
  have c_ldraw : CalG l.prog w K mg base CX0 1 "_law_draw" spDraw := ⟨f_ldraw, fd_ldraw, _, b_ldraw A_ldraw.fn T, m_ldraw, A_ldraw.fn.kp, bd_ldraw⟩
  have c_lpen : CalG l.prog w K mg base CX0 1 "_law_pen" (spPen K) := ⟨f_lpen, fd_lpen, _, b_lpen A_lpen.fn T, m_lpen, A_lpen.fn.kp, bd_lpen⟩
  have c_lpick : CalG l.prog w K mg base CX0 2 "_law_pick" (spPick K) := ⟨f_lpick, fd_lpick, _, b_lpick A_lpick.fn T c_ldraw, m_lpick, A_lpick.fn.kp, bd_lpick⟩
  have c_lis_text : CalG l.prog w K mg base CX0 2 "_law_is_text" (spSays isT) := ⟨f_lis_text, fd_lis_text, _, b_lis_text A_lis_text.fn T c_lsigns, m_lis_text, A_lis_text.fn.kp, bd_lis_text⟩
  have c_lis_number : CalG l.prog w K mg base CX0 1 "_law_is_number" spNum := ⟨f_lis_number, fd_lis_number, _, b_lis_number A_lis_number.fn T, m_lis_number, A_lis_number.fn.kp, bd_lis_number⟩
  have t_signs : FnT l.prog w K mg base 1 "_law_signs" letS := okT A_lsigns.fn sc_lsigns m_lsigns bd_lsigns rfl
  have c_lfew : CalG l.prog w K mg base CX0 3 "_law_few" spFew := ⟨f_lfew, fd_lfew, _, b_lfew A_lfew.fn T c_lpick t_signs, m_lfew, A_lfew.fn.kp, bd_lfew⟩
  have c_lword : CalG l.prog w K mg base CX0 3 "_law_word" spWord := ⟨f_lword, fd_lword, _, b_lword A_lword.fn T c_ldraw c_lpick, m_lword, A_lword.fn.kp, bd_lword⟩
  have c_lplaces : CalG l.prog w K mg base CX0 1 "_law_places" (spPlaces K) := ⟨f_lplaces, fd_lplaces, _, b_lplaces A_lplaces.fn T, m_lplaces, A_lplaces.fn.kp, bd_lplaces⟩
  have c_lany_value : CalG l.prog w K mg base CX0 3 "_law_any_value" spAny := ⟨f_lany_value, fd_lany_value, _, b_lany_value A_lany_value.fn T c_lpick, m_lany_value, A_lany_value.fn.kp, bd_lany_value⟩
  have c_lntext : CalG l.prog w K mg base CX0 4 "_law_ntext" spNtext := ⟨f_lntext, fd_lntext, _, b_lntext A_lntext.fn T c_ldraw c_lpick c_lword, m_lntext, A_lntext.fn.kp, bd_lntext⟩
  have c_lnonce : CalG l.prog w K mg base CX0 2 "_law_nonce" spNonce := ⟨f_lnonce, fd_lnonce, _, b_lnonce A_lnonce.fn T c_lplaces, m_lnonce, A_lnonce.fn.kp, bd_lnonce⟩
  have c_lnaround : CalG l.prog w K mg base CX0 1 "_law_naround" spAround := ⟨f_lnaround, fd_lnaround, _, b_lnaround A_lnaround.fn T, m_lnaround, A_lnaround.fn.kp, bd_lnaround⟩
  have c_lnspot : CalG l.prog w K mg base CX0 3 "_law_nspot" spSpot := ⟨f_lnspot, fd_lnspot, _, b_lnspot A_lnspot.fn T c_ldraw c_lpick, m_lnspot, A_lnspot.fn.kp, bd_lnspot⟩
  have c_lnput : CalG l.prog w K mg base CX0 1 "_law_nput" spPut := ⟨f_lnput, fd_lnput, _, b_lnput A_lnput.fn T, m_lnput, A_lnput.fn.kp, bd_lnput⟩
  have c_lnfault : CalG l.prog w K mg base CX0 3 "_law_nfault" spFirst := ⟨f_lnfault, fd_lnfault, _, b_lnfault A_lnfault.fn T c_lis_number c_lis_text c_lnonce, m_lnfault, A_lnfault.fn.kp, bd_lnfault⟩
  have c_lndrawn : CalG l.prog w K mg base CX0 4 "_law_ndrawn" spDrawn := ⟨f_lndrawn, fd_lndrawn, _, b_lndrawn A_lndrawn.fn T c_ldraw c_lpick c_lword c_lnonce c_lnaround, m_lndrawn, A_lndrawn.fn.kp, bd_lndrawn⟩
  have c_lncost : CalG l.prog w K mg base CX0 1 "_law_ncost" spNcost := ⟨f_lncost, fd_lncost, _, b_lncost A_lncost.fn T, m_lncost, A_lncost.fn.kp, bd_lncost⟩
  have c_lncrooked : CalG l.prog w K mg base CX0 4 "_law_ncrooked" spCrook := ⟨f_lncrooked, fd_lncrooked, _, b_lncrooked A_lncrooked.fn T c_ldraw c_lnspot c_lpick c_lany_value, m_lncrooked, A_lncrooked.fn.kp, bd_lncrooked⟩
  have k_exchanged : CalK l.prog w K mg base (L2.CX l.prog w) 5 "exchanged" (spExch C_NoExchange) ["exchange", "text"] List.reverse := ⟨f_exchanged, fd_exchanged, ["text", "exchange"], b_exchanged A_exchanged.fn T c_first_wrong c_text_behind k_NoExchange, m_exchanged, A_exchanged.fn.kp, A_exchanged.fn.kwb fun _ _ _ _ _ _ us hl => match us, hl with | [_, _], _ => rfl, fun _ _ r _ => vals_rev r⟩
  have k_is_exchange : CalK l.prog w K mg base CX0 5 "is_exchange" spIsEx ["value", "other", "text"] List.reverse := ⟨f_is_exchange, fd_is_exchange, ["text", "other", "value"], b_is_exchange A_is_exchange.fn T c_first_wrong c_text_behind, m_is_exchange, A_is_exchange.fn.kp, A_is_exchange.fn.kwb fun _ _ _ _ _ _ us hl => match us, hl with | [_, _, _], _ => rfl, fun _ _ r _ => vals_rev r⟩
  have c_lnexchanged : CalH l.prog w K mg base CX0 7 "_law_nexchanged" (spNex l.prog w K mg base C_NoExchange) := ⟨f_lnexchanged, fd_lnexchanged, _, b_lnexchanged A_lnexchanged.fn T k_NoExchange (exm_own E_NoExchange.T (sub_one o_NoExchange o_NoExchange)) (kit_type o_NoExchange (by decide +kernel)), m_lnexchanged, A_lnexchanged.fn.kp, bd_lnexchanged⟩
  exact b_law F_law T c_lpen c_lfew c_lntext c_lndrawn c_lnput c_ldraw c_lpick c_lncost c_lncrooked c_lnfault c_is_exchange tab sm c_lnexchanged c_exchanged k_exchanged k_is_exchange d_cost_of k_cost_of
end Vk
set_option Elab.async false
set_option maxRecDepth 100000
set_option linter.all false
open PySem PySem.W PyProof.Rows
set_option maxRecDepth 100000 in
set_option maxHeartbeats 0 in
theorem PySem.Challenge.cw_anchoredits_k61_exchanges_done_and_refus_holds : PySem.Challenge.rw_anchoredits_k61_exchanges_done_and_refus.Holds := by
  w_on; o_law; k_headL; (case hw => w_witness2)
  k_fill
  refine Vk.walkXS (l := PySem.Challenge.rw_anchoredits_k61_exchanges_done_and_refus) (n := 63) (k := 8) (x := "_law_script") (CX := L2.CX0) (sp := Vk.spLaw) ?hi rfl (by decide) rfl ⟨rfl, by decide, by decide⟩ (fun w h Y => PySem.W.kIn_of Y) ?F (fun P0 K H a ns hl hP hS => ⟨a, ns, rfl, hS, hl, hP, fun _ => rfl⟩) (fun _ _ _ _ z => z)
  case hi => first | kernel_rfl | decide +kernel
  case F =>
    intro w mg fa h KX Gr hmg
    obtain ⟨s0, mb, Gr⟩ := Gr
    refine' Vk.all KX Gr.T.g hmg ?e_NoExchange ?d_is_text ?d_is_integer ?d_is_integer_in ?d_text_behind ?d_stands_twice ?d_stands_once ?d_is_exchange_part ?d_first_wrong ?d_exchanged ?d_is_exchange ?d_cost_of ?d_lsigns ?d_ldraw ?d_lpen ?d_lpick ?d_lis_text ?d_lis_number ?d_lfew ?d_lword ?d_lplaces ?d_lany_value ?d_lntext ?d_lnonce ?d_lnaround ?d_lnspot ?d_lnput ?d_lnfault ?d_lndrawn ?d_lncost ?d_lncrooked ?d_lnexchanged ?d_law ?z_str ?z_tuple ?z_enumerate ?z_bool ?z_sum ?z_max ?z_ValueError ?z_len ?z_list ?z_int ?z_abs ?z_range ?z_min ?z_repr ?z_isinstance ?g_LETTERS ?tb
    (case e_NoExchange => as_aux_lemma => (refine' ⟨_, _, _, Vk.exc_mk PySem.VkX.exB_value ?ns ?iC ?cls ?sa ?kC ?ga ?gg ?ex ?hd ?ha ?hn ?ht ?hm ?tI ?kI (Vk.no1 ?n1) ?l ?c⟩; (case ns => k_is); (case iC => k_is); (case cls => k_is); (case sa => k_is); (case kC => k_is); (case ga => k_is); (case gg => k_is); (case ex => k_is); (case hd => k_is); (case ha => k_is); (case hn => k_is); (case ht => k_is); (case hm => k_is); (case tI => k_is); (case kI => k_is); (case n1 => k_is); (case l => k_is); (case c => k_is)))
    (case d_is_text => as_aux_lemma => (refine' ⟨_, _, Vk.at_mk ?a ?l ?c ?k⟩; (case a => k_is); (case l => k_is); (case c => k_is); (case k => k_is)))
    (case d_is_integer => as_aux_lemma => (refine' ⟨_, _, Vk.at_mk ?a ?l ?c ?k⟩; (case a => k_is); (case l => k_is); (case c => k_is); (case k => k_is)))
    (case d_is_integer_in => as_aux_lemma => (refine' ⟨_, _, Vk.at_mk ?a ?l ?c ?k⟩; (case a => k_is); (case l => k_is); (case c => k_is); (case k => k_is)))
    (case d_text_behind => as_aux_lemma => (refine' ⟨_, _, Vk.at_mk ?a ?l ?c ?k⟩; (case a => k_is); (case l => k_is); (case c => k_is); (case k => k_is)))
    (case d_stands_twice => as_aux_lemma => (refine' ⟨_, _, Vk.at_mk ?a ?l ?c ?k⟩; (case a => k_is); (case l => k_is); (case c => k_is); (case k => k_is)))
    (case d_stands_once => as_aux_lemma => (refine' ⟨_, _, Vk.at_mk ?a ?l ?c ?k⟩; (case a => k_is); (case l => k_is); (case c => k_is); (case k => k_is)))
    (case d_is_exchange_part => as_aux_lemma => (refine' ⟨_, _, Vk.at_mk ?a ?l ?c ?k⟩; (case a => k_is); (case l => k_is); (case c => k_is); (case k => k_is)))
    (case d_first_wrong => as_aux_lemma => (refine' ⟨_, _, Vk.at_mk ?a ?l ?c ?k⟩; (case a => k_is); (case l => k_is); (case c => k_is); (case k => k_is)))
    (case d_exchanged => as_aux_lemma => (refine' ⟨_, _, Vk.at_mk ?a ?l ?c ?k⟩; (case a => k_is); (case l => k_is); (case c => k_is); (case k => k_is)))
    (case d_is_exchange => as_aux_lemma => (refine' ⟨_, _, Vk.at_mk ?a ?l ?c ?k⟩; (case a => k_is); (case l => k_is); (case c => k_is); (case k => k_is)))
    (case d_cost_of => as_aux_lemma => (refine' ⟨_, _, Vk.atd_mk ?a ?l ?c ?k ?e⟩; (case a => k_is); (case l => k_is); (case c => k_is); (case k => k_is); (case e => k_is)))
    (case d_lsigns => as_aux_lemma => (refine' ⟨_, _, Vk.at_mk ?a ?l ?c ?k⟩; (case a => k_is); (case l => k_is); (case c => k_is); (case k => k_is)))
    (case d_ldraw => as_aux_lemma => (refine' ⟨_, _, Vk.at_mk ?a ?l ?c ?k⟩; (case a => k_is); (case l => k_is); (case c => k_is); (case k => k_is)))
    (case d_lpen => as_aux_lemma => (refine' ⟨_, _, Vk.at_mk ?a ?l ?c ?k⟩; (case a => k_is); (case l => k_is); (case c => k_is); (case k => k_is)))
    (case d_lpick => as_aux_lemma => (refine' ⟨_, _, Vk.at_mk ?a ?l ?c ?k⟩; (case a => k_is); (case l => k_is); (case c => k_is); (case k => k_is)))
    (case d_lis_text => as_aux_lemma => (refine' ⟨_, _, Vk.at_mk ?a ?l ?c ?k⟩; (case a => k_is); (case l => k_is); (case c => k_is); (case k => k_is)))
    (case d_lis_number => as_aux_lemma => (refine' ⟨_, _, Vk.at_mk ?a ?l ?c ?k⟩; (case a => k_is); (case l => k_is); (case c => k_is); (case k => k_is)))
    (case d_lfew => as_aux_lemma => (refine' ⟨_, _, Vk.at_mk ?a ?l ?c ?k⟩; (case a => k_is); (case l => k_is); (case c => k_is); (case k => k_is)))
    (case d_lword => as_aux_lemma => (refine' ⟨_, _, Vk.at_mk ?a ?l ?c ?k⟩; (case a => k_is); (case l => k_is); (case c => k_is); (case k => k_is)))
    (case d_lplaces => as_aux_lemma => (refine' ⟨_, _, Vk.at_mk ?a ?l ?c ?k⟩; (case a => k_is); (case l => k_is); (case c => k_is); (case k => k_is)))
    (case d_lany_value => as_aux_lemma => (refine' ⟨_, _, Vk.at_mk ?a ?l ?c ?k⟩; (case a => k_is); (case l => k_is); (case c => k_is); (case k => k_is)))
    (case d_lntext => as_aux_lemma => (refine' ⟨_, _, Vk.at_mk ?a ?l ?c ?k⟩; (case a => k_is); (case l => k_is); (case c => k_is); (case k => k_is)))
    (case d_lnonce => as_aux_lemma => (refine' ⟨_, _, Vk.at_mk ?a ?l ?c ?k⟩; (case a => k_is); (case l => k_is); (case c => k_is); (case k => k_is)))
    (case d_lnaround => as_aux_lemma => (refine' ⟨_, _, Vk.at_mk ?a ?l ?c ?k⟩; (case a => k_is); (case l => k_is); (case c => k_is); (case k => k_is)))
    (case d_lnspot => as_aux_lemma => (refine' ⟨_, _, Vk.at_mk ?a ?l ?c ?k⟩; (case a => k_is); (case l => k_is); (case c => k_is); (case k => k_is)))
    (case d_lnput => as_aux_lemma => (refine' ⟨_, _, Vk.at_mk ?a ?l ?c ?k⟩; (case a => k_is); (case l => k_is); (case c => k_is); (case k => k_is)))
    (case d_lnfault => as_aux_lemma => (refine' ⟨_, _, Vk.at_mk ?a ?l ?c ?k⟩; (case a => k_is); (case l => k_is); (case c => k_is); (case k => k_is)))
    (case d_lndrawn => as_aux_lemma => (refine' ⟨_, _, Vk.at_mk ?a ?l ?c ?k⟩; (case a => k_is); (case l => k_is); (case c => k_is); (case k => k_is)))
    (case d_lncost => as_aux_lemma => (refine' ⟨_, _, Vk.at_mk ?a ?l ?c ?k⟩; (case a => k_is); (case l => k_is); (case c => k_is); (case k => k_is)))
    (case d_lncrooked => as_aux_lemma => (refine' ⟨_, _, Vk.at_mk ?a ?l ?c ?k⟩; (case a => k_is); (case l => k_is); (case c => k_is); (case k => k_is)))
    (case d_lnexchanged => as_aux_lemma => (refine' ⟨_, _, Vk.at_mk ?a ?l ?c ?k⟩; (case a => k_is); (case l => k_is); (case c => k_is); (case k => k_is)))
    (case d_law => as_aux_lemma => (refine' ⟨_, _, _, _, ?a, Vk.makC_mk ?l ?c ?k, Vk.tab_mk ?a2 ?l2 ?zq ?t⟩; (case a => k_is); (case l => k_is); (case c => k_is); (case k => k_is); (case a2 => k_is); (case l2 => k_is); (case zq => exact rfl); (case t => k_is)))
    (case z_str => k_is)
    (case z_tuple => k_is)
    (case z_enumerate => k_is)
    (case z_bool => k_is)
    (case z_sum => k_is)
    (case z_max => k_is)
    (case z_ValueError => k_is)
    (case z_len => k_is)
    (case z_list => k_is)
    (case z_int => k_is)
    (case z_abs => k_is)
    (case z_range => k_is)
    (case z_min => k_is)
    (case z_repr => k_is)
    (case z_isinstance => k_is)
    (case g_LETTERS => exact Vk.const_s Gr.T (by first | kernel_rfl | decide +kernel))
    (case tb => (intro c tP ht; refine' Vk.tab_at Gr.T KX ?i ht ?n; (case i => first | kernel_rfl | decide +kernel); (case n => first | kernel_rfl | k_is)))
#print axioms PySem.Challenge.cw_anchoredits_k61_exchanges_done_and_refus_holds
