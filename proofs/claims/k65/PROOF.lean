import PyProof.Rows.All
import Wide.All
import OpenK.AllK
import Wide.FinOn
import HandS.Base
import HandS.Call
import HandS.List
import HandS.Comp
import HandS.Ends
import HandS.Text
import HandS.Words
import HandS.StrMore
import HandS.ForMost
import HandS.Codes
import HandS.Replace
import HandS.FStrTup
import PyProof.StrBlock2
import HandS.Iter
import HandS.Zip0
import KE.GoesEnum
import PyProof.EnumMake
import KE.GoesMore
import KE.GoesZip
import HandS.Exc
import HandS.ExcInit
import HandS.ExcIs
import HandS.ExcField
import KE.KExcIs
import HandS.IsInst
import HandS.Nested
import KE.KRevSl
import HandS.Style
import KE.DataMinKey
import HandS.SortKw
import KE.DataMinMax
import HandS.Flt
import HandS.FltList
import HandS.Conv
import PySem.Challenge.RW_anchoredits_k65_single_and_thinned_excha
import HandS.Defaults
import HandS.EndTab
import KE.OsRunLaw
set_option Elab.async false
set_option maxRecDepth 100000
set_option linter.all false
namespace Vk
open PySem PySem.Spec PyProof.Rows L2
/-! ## defs that may show values: no guard is under way -/
structure FnG (P : Program) (w : World) (K : PySem.W.Frag) (mg : Str → Option Value) (base : Heap) (CX : CXT) (k : Nat) (f : Addr) (fd : FuncData) (ps : List Str) (sp : Sp) : Prop where
  len : ∀ vs H Q E, sp vs H Q E → vs.length = ps.length
  run : ∀ (A : Around) (outer : List Env) (s : Shared) (H : Hp) (args : Args) (us : List Value) (vs : List V) (Q : VK) (E : XK), A.guards = some [] → Room k A → Env0 P w K mg base A outer s H → BindsTo s fd args (ps.zip us) → Vals vs us → sp vs H Q E →
    codeAny (model P w) A (.call (.ref f) args) (CR CX outer P w H s Q E) s
theorem FnG.of {P : Program} {w : World} {K : PySem.W.Frag} {mg : Str → Option Value} {base : Heap} {CX : CXT} {k : Nat} {f : Addr} {fd : FuncData} {ps : List Str} {sp : Sp} (F : FnOk P w K mg base CX k f fd ps sp) : FnG P w K mg base CX k f fd ps sp :=
  ⟨F.len, fun A outer s H args us vs Q E _ => F.run A outer s H args us vs Q E⟩
section
variable {P : Program} {w : World} {K : PySem.W.Frag} {mg : Str → Option Value} {base : Heap}
theorem okG {CX : CXT} {x qual : Str} {st : Stmt} {f : Addr} {fd : FuncData} {N ps : List Str} {k : Nat} {sp : Sp} (F : Fun K x qual st f fd) (S : FnScope N ps (defScope st)) (hlen : ∀ vs H Q E, sp vs H Q E → vs.length = ps.length)
    (hbody : ∀ (cdv : Value) (A : Around) (outer : List Env) (s : Shared) (H : Hp) (vs : List V) (Q : VK) (E : XK), A.guards = some [] → Room k (A.deeper (envOfC qual (defScope st) s.heap.objs.size f cdv)) → sp vs H Q E →
      ∃ t, PSs (cxOf CX P w K mg base N qual (defScope st) f cdv A outer s H E) (defBody st) t ∧ t { nx := fun _ H' => Q .non H', rt := Q } (start N vs) H) : FnG P w K mg base CX (k + 1) f fd ps sp := by
  obtain ⟨oc, od, kV, doc, pm, an, cdv, ct, osl, rfl, lk, hcd⟩ := F.ex
  refine ⟨hlen, fun A outer s H args us vs Q E hg hr e0 hb r hsp => ?_⟩
  have hvl := hlen _ _ _ _ hsp
  have KX := e0.mod.kin.keeps (fun b o e => (e0.bs b o e).1 : ∀ b o, base.get? b = some o → s.heap.get? b = some o)
  have noLim := e0.mod.nolimit.keeps (fun b o e => (e0.bs b o e).1 : ∀ b o, base.get? b = some o → s.heap.get? b = some o)
  have kinds : ∀ y ∈ ps.zip us, (defScope st).names.lookup y.1 = some .local ∨ ((defScope st).names.lookup y.1 = some .cell ∧ ((cellsFrom (s.heap.objs.size + 1) (defScope st).names []).lookup y.1).isSome = true) := by
    rintro ⟨n, v⟩ hy
    have hy1 := (List.of_mem_zip hy).1
    cases S.par n hy1 with
    | inl q => exact Or.inl q
    | inr q => exact Or.inr (And.intro q (PySem.W.cellsFrom_some _ _ _ (Or.inl q)))
  refine codeAny_call_function hr.depth (KX f _ lk) rfl S.co S.gen rfl (PySem.W.codeRec_of KX hcd) (hb _ _ _ _ (wpAny_newFunctionEnv_cells S.kind kinds fun env he s1 x => ?_))
  cases he
  refine And.intro (noLim.keeps x.toInCall.keep) (codeAny_func ?_)
  obtain ⟨t, ht, hq⟩ := hbody cdv A outer s H vs Q E hg (hr.deeper _) hsp
  have I0 := inv_start (CX := CX) (E := E) S hr.hd e0 hvl r x
  refine wpAny_mono (ht.run [] s1 (start N vs) H _ I0 hq) (fun fl s2 hs => ?_) (fun e s2 hs => hs)
  have close : ∀ {σ2 : L2.St} {H2 : Hp} {v : V} {u : Value}, Inv (cxOf CX P w K mg base N qual (defScope st) f cdv A outer s H E) [] σ2 H2 s2 → RelV v u → Q v H2 → CE outer P w H s Q u s2 := by
    intro σ2 H2 v u J rv q
    exact ⟨v, H2, And.intro J.os (And.intro J.bare (And.intro J.base (And.intro J.hok (And.intro rv q))))⟩
  match fl, hs with
  | .ret u, ⟨v, σ2, H2, J, rv, q⟩ => exact close J rv q
  | .next, ⟨σ2, H2, J, q⟩ => exact close (v := V.non) (u := Value.none) J rfl q
  | .brk, ⟨_, _, _, q⟩ => exact q.elim
  | .cont, ⟨_, _, _, q⟩ => exact q.elim
end
section
variable {P : Program} {w : World} {K : PySem.W.Frag} {mg : Str → Option Value} {base : Heap}
theorem okG0 {x qual : Str} {st : Stmt} {f : Addr} {fd : FuncData} {N ps : List Str} {k : Nat} {sp : Sp} (F : Fun K x qual st f fd) (S : FnScope N ps (defScope st)) (hlen : ∀ vs H Q E, sp vs H Q E → vs.length = ps.length)
    (hbody : ∀ (cdv : Value) (A : Around) (outer : List Env) (s : Shared) (H : Hp) (vs : List V) (Q : VK) (E : XK), A.guards = some [] → Room k (A.deeper (envOfC qual (defScope st) s.heap.objs.size f cdv)) → sp vs H Q E →
      ∃ t, PSs (cxOf CX0 P w K mg base N qual (defScope st) f cdv A outer s H E).nox (defBody st) t ∧ t { nx := fun _ H' => Q .non H', rt := Q } (start N vs) H) : FnG P w K mg base CX0 (k + 1) f fd ps sp :=
  okG F S hlen fun cdv A outer s H vs Q E hg hr hsp => match hbody cdv A outer s H vs Q E hg hr hsp with | ⟨t, h, q⟩ => ⟨t, h.nox, q⟩
end
/-- a def of the module by its name -/
structure CalG (P : Program) (w : World) (K : PySem.W.Frag) (mg : Str → Option Value) (base : Heap) (CX : CXT) (k : Nat) (x : Str) (sp : Sp) : Prop where
  ex : ∃ (f : Addr) (fd : FuncData) (ps : List Str), FnG P w K mg base CX k f fd ps sp ∧ mg x = some (.ref f) ∧ PySem.W.keepIn K (.ref f) = true ∧ Binds K fd ps []
section
variable {X : Cx} {CX : CXT} {j k : Nat} {f : Addr} {fd : FuncData} {ps : List Str} {sp : Sp} {E : XK} {x : Str} {p pos : Pos} {e : Expr} {es : List Expr} {t : TA}
theorem run_fnG {pins : List (Addr × Obj)} {σ : L2.St} {H : Hp} {s : Shared} {Q : VK} {us : List Value} {vs : List V} (F : FnG X.prog X.w X.K X.mg X.base CX k f fd ps sp) (hg : X.A.guards = some []) (hr : Room k X.A) (hb : Binds X.K fd ps []) (hx : Passes CX X E)
    (I : Inv X pins σ H s) (r : Vals vs us) (h : sp vs H Q E) : wpAny (model X.prog X.w) X.A (call (.ref f) us) (EP X pins σ Q) X.xe s := by
  have hl : us.length = ps.length := r.length.symm.trans (F.len _ _ _ _ h)
  have b := hb s us I.kIn ((congrArg List.length (List.append_nil us)).trans hl)
  rw [List.append_nil] at b
  refine wpAny_call (codeAny_mono (F.run X.A X.stack s H ⟨us, []⟩ us vs Q E hg hr I.env0 b r h) (fun res s2 hq => ?_))
  match res, hq with
  | .error e, hq => exact hx pins σ H s e s2 I hq
  | .ok (.ret u), hq => exact I.after hq
  | .ok .next, hq => exact hq.elim
  | .ok .brk, hq => exact hq.elim
  | .ok .cont, hq => exact hq.elim
theorem pe_cG (c : CalG X.prog X.w X.K X.mg X.base CX k x sp) (hg : X.A.guards = some []) (hr : Room j X.A) (hk : k ≤ j) (hx : Passes CX X E) (ha : PA X (e :: es) t) (gl : Gl X x := by rfl)
    (hdb : (x == ("__debug__" : Str)) = false := by decide) (he : starEach (e :: es) X.env = (false, eval e X.env) :: starEach es X.env := by rfl) (hpl : (backTo pos (starEach es X.env)).any (·.1) = false := by rfl) :
    PE X (.Call (.Name x p) (e :: es) [] pos) (tCall sp [] E t) := by
  obtain ⟨f, fd, ps, F, hm, kp, hb⟩ := c.ex
  refine ⟨fun pins s σ H Q I h => wpAny_Call_Name_kw (ld_glob I gl hm (PySem.W.callWith_K (h₀ := X.base) I.ok.mod.kin kp (thn (ha.run pos pins s σ H _ I h) fun us s1 hh => ?_) he hpl) hdb)⟩
  obtain ⟨vs, H1, I1, r, q⟩ := hh
  rw [List.append_nil] at q
  exact ⟨I1.kIn, run_fnG F hg (hr.mono hk) hb hx I1 r q⟩
theorem pe_cG0 (c : CalG X.prog X.w X.K X.mg X.base CX k x sp) (hg : X.A.guards = some []) (hr : Room j X.A) (hk : k ≤ j) (hx : Passes CX X E) (gl : Gl X x := by rfl)
    (hdb : (x == ("__debug__" : Str)) = false := by decide) : PE X (.Call (.Name x p) [] [] pos) (tCall sp [] E tNil) := by
  obtain ⟨f, fd, ps, F, hm, kp, hb⟩ := c.ex
  exact ⟨fun pins s σ H Q I h => wpAny_Call_Name_kw (ld_glob I gl hm (PySem.W.callWith_K0 I.kIn kp (run_fnG (us := []) F hg (hr.mono hk) hb hx I .nil h)) hdb)⟩
end
/-! ## repr -/
section
variable {X : Cx}
theorem call_reprD (hg : X.A.guards = some []) (hu : X.A.units + 64 < cLine) : CallR X (.builtin "repr") (fun xs H Q => ∃ x d, xs = [x] ∧ Dp X.K H x d ∧ d.showable = true ∧ d.hasDict = false ∧ d.depth ≤ 60 ∧ d.shown.length ≤ sizeLine ∧ Q (.str d.shown) H) := by
  intro pins s σ H xs us Q I r h
  obtain ⟨x, d, rfl, hd, hs, hn, hdp, hz, q⟩ := h
  cases r with
  | cons r1 r2 =>
  cases r2
  obtain ⟨as, rd⟩ := Dp.reads I d x _ hd r1
  cases hd with
  | non => cases r1; exact PySem.P.repr_of_none ⟨V.str _, H, I.tok _, ⟨_, rfl⟩, q⟩
  | bl b => cases r1; exact PySem.P.repr_of_bool ⟨V.str _, H, I.tok _, ⟨_, rfl⟩, q⟩
  | int i =>
    obtain ⟨t, rfl⟩ := r1
    exact PySem.P.repr_of_int (of_decide_eq_true hs) ⟨V.str _, H, I.tok _, ⟨_, rfl⟩, q⟩
  | str z =>
    obtain ⟨t, rfl⟩ := r1
    exact PySem.P.repr_of_str ⟨V.str _, H, I.tok _, ⟨_, rfl⟩, q⟩ hz
  | lst h1 h2 =>
    cases r1
    exact repr_of_reads' rd hs (PyData.noDict_hsm hn) hg (by omega) (fun _ _ e => e) (fun h' u tk hk => ⟨V.str _, H, I.kept hk, ⟨u, rfl⟩, q⟩) hz
  | tup h1 h2 =>
    cases r1
    exact repr_of_reads' rd hs (PyData.noDict_hsm hn) hg (by omega) (fun _ _ e => e) (fun h' u tk hk => ⟨V.str _, H, I.kept hk, ⟨u, rfl⟩, q⟩) hz
end
/-! ## the law's own call -/
theorem lawG {P : Program} {w : World} {K : PySem.W.Frag} {mg mb : Str → Option Value} {CX : CXT} {k : Nat} {fa a : Addr} {fd : FuncData} {x : Str} {sp : Sp} {s1 : Shared} {vs : List Value} {ns : List Int}
    (KX : K.In s1.heap) (gns : s1.heap.Ns mainGlobals mg) (bns : s1.heap.Ns builtinsNs mb) (bbt : ∀ x : Str, x ≠ "__name__" → mb x = bootBuiltins x) (nolim : s1.heap.NoLimit) (gens0 : s1.gens = #[])
    (scr : s1.heap.get? a = some { cls := .type "list", data := .seq vs.toArray }) (hints : IntsAre vs ns) (short : ns.length ≤ sizeLine) (room : Room k callerA)
    (F : ∀ base : Heap, K.In base → base.Ns mainGlobals mg → FnG P w K mg base CX k fa fd [x] sp) (bind1 : ∀ (s : Shared) (u : Value), BindsTo s fd ⟨[u], []⟩ [(x, u)])
    (prom : ∀ H : Hp, Only H → SqL K H a (ns.map V.int) → sp [.ref a] H (fun v _ => v = .bl true) fun _ _ _ => False)
    (noX : ∀ H e s2, CX [] H s1 (fun _ _ _ => False) e s2 → False) :
    codeAny (model P w) callerA (.call (.ref fa) ⟨[.ref a], []⟩) (fun r s2 => r = .ok (.ret (.bool true)) ∧ OldK s1.heap s2.heap ∧ s2.os = s1.os ∧ AllBare s2.gens) s1 := by
  have rel := vals_ints hints
  have main : ∀ H : Hp, Only H → SqL K H a (ns.map V.int) → HOk P w H s1.heap → (∀ b u, H b = some u → b = a) → (∀ u, H a = some u → K.lookup a = none) →
      codeAny (model P w) callerA (.call (.ref fa) ⟨[.ref a], []⟩) (fun r s2 => r = .ok (.ret (.bool true)) ∧ OldK s1.heap s2.heap ∧ s2.os = s1.os ∧ AllBare s2.gens) s1 := by
    intro H only seq ok at1 un1
    have dictFree : ∀ {b : Addr} {o : Obj} {es : Array DictEntry} {ep : Nat}, s1.heap.get? b = some o → o.data = .dict es ep → H b = none := by
      intro b o es ep e d
      match q : H b with
      | none => rfl
      | some u =>
        have eb := at1 b u q
        subst eb
        rw [scr] at e
        cases e
        exact nomatch (show Data.seq vs.toArray _ = Data.dict es ep from d)
    have nsAt : ∀ {b : Addr} {m : Str → Option Value}, s1.heap.Ns b m → (hidT s1.heap H).Ns b m := by
      rintro b m ⟨o, es, ep, e, d, r⟩
      exact ⟨o, es, ep, hidT_get e (dictFree e d), d, r⟩
    have inK : K.In (hidT s1.heap H) := by
      intro b o e
      refine hidT_get (KX b o e) ?_
      match q : H b with
      | none => rfl
      | some u =>
        have eb := at1 b u q
        subst eb
        exact nomatch (un1 u q).symm.trans e
    have limAt : (hidT s1.heap H).NoLimit := match nolim with | ⟨mc, h1, h2⟩ => ⟨mc, nsAt h1, h2⟩
    have mod1 : Mod K mg (hidT s1.heap H) := ⟨inK, nsAt gns, ⟨mb, nsAt bns, bbt⟩, limAt⟩
    have start0 : Env0 P w K mg (hidT s1.heap H) callerA [] s1 H := ⟨rfl, mod1, fun b o => of_hidT, Nat.le_of_eq (hidT_size s1.heap H), trivial, (fun b hb => absurd hb (List.not_mem_nil (a := b))), ok, AllBare.of_eq gens0⟩
    refine codeAny_mono ((F _ inK (nsAt gns)).run callerA [] s1 H ⟨[.ref a], []⟩ [.ref a] [.ref a] _ _ rfl room start0 (bind1 s1 (.ref a)) (.cons rfl .nil) (prom H only seq)) ?_
    intro res s2 h
    match res, h with
    | .error e, h => exact (noX H e s2 h).elim
    | .ok .next, h => exact h.elim
    | .ok .brk, h => exact h.elim
    | .ok .cont, h => exact h.elim
    | .ok (.ret u), ⟨v, H2, os, bare, un, ok2, r2, (hv : v = .bl true)⟩ =>
      cases hv
      have hu : u = Value.bool true := r2
      cases hu
      refine ⟨rfl, OldK.of_keep ?_, os, bare⟩
      intro b o e
      match q : H b with
      | none => exact un.keep b o e q (fun z => nomatch z) (fun z => nomatch z)
      | some u =>
        cases only b with
        | inl z => exact nomatch z.symm.trans q
        | inr z =>
          obtain ⟨ob, xs, z⟩ := z
          have c1 := (ok b _ z).1
          have c2 := (ok2 b _ (un.frzs b ob _ z)).1
          exact c2.trans (c1.symm.trans e)
  match hk : K.lookup a with
  | some o =>
    have e := (KX a o hk).symm.trans scr
    cases e
    refine main (fun _ => none) (fun _ => Or.inl rfl) (Or.inr ⟨_, vs.toArray, _, hk, rfl, rfl, rfl, ?_, ?_⟩) (fun b u z => nomatch (show (none : Option HO) = some u from z)) (fun b u z => nomatch (show (none : Option HO) = some u from z)) (fun u z => nomatch (show (none : Option HO) = some u from z))
    · rw [List.size_toArray, hints.length]
      exact short
    · simpa using rel
  | none =>
    refine main (fun b => if b = a then some (.frz { cls := .type "list", data := .seq vs.toArray } (.lst (ns.map V.int))) else none) ?_ (Or.inl (Or.inr ⟨_, if_pos rfl⟩)) ?_ ?_ (fun _ _ => hk)
    · intro b
      by_cases hb : b = a
      · exact Or.inr ⟨_, _, if_pos hb⟩
      · exact Or.inl (if_neg hb)
    · intro b u z
      by_cases hb : b = a
      · subst hb
        have z1 := (if_pos rfl).symm.trans z
        cases z1
        exact ⟨scr, (by rw [List.length_map]; exact short), vs, _, rel, scr⟩
      · exact nomatch (if_neg hb).symm.trans z
    · intro b u z
      by_cases hb : b = a
      · exact hb
      · exact nomatch (if_neg hb).symm.trans z
theorem walkG {l : PySem.W.OpenLaw} {n k : Nat} {q : Program} {loose : List Str} {XP : (Str → Option Value) → Heap → Prop} {YP : World → Heap → Prop} {d : DefRec} {K : Params → PySem.W.Frag} {CX : CXT} {sp : PySem.W.Frag → Sp} {x : Str}
    (hn : l.most = some n) (hn2 : n ≤ sizeLine) (hdf : d.params.defaults = []) (hr : Room k callerA) (hY : ∀ (w : World) (h : Heap), YP w h → (K w.params).In h)
    (F : ∀ (w : World) (mg : Str → Option Value) (fa : Addr) (h : Heap), (K w.params).In h → h.Ns mainGlobals mg → mg d.name = some (.ref fa) →
      ∃ fd : FuncData, (∀ (s : Shared) (u : Value), BindsTo s fd ⟨[u], []⟩ [(x, u)]) ∧ ∀ base : Heap, (K w.params).In base → base.Ns mainGlobals mg → FnG l.prog w (K w.params) mg base CX k fa fd [x] (sp (K w.params)))
    (hsp : ∀ (K : PySem.W.Frag) (H : Hp) (a : Addr) (ns : List Int), ns.length ≤ n → Only H → SqL K H a (ns.map V.int) → sp K [.ref a] H (fun v _ => v = .bl true) fun _ _ _ => False)
    (noX : ∀ (H : Hp) (s : Shared) (e : Value) (s2 : Shared), CX [] H s (fun _ _ _ => False) e s2 → False) : PySem.W.WalkO q loose XP YP l.row.toRowW d [] (fun f vs => PySem.call f vs) := by
  refine Att.attach_call hn hdf ?_
  intro w s0 s1 mg mb fa o pm cd doc a vs ns G Y _ _ _ hmg scr hints hlen gens0
  obtain ⟨fd, hb, hF⟩ := F w mg fa _ (hY w _ Y) G.T.g hmg
  exact lawG (hY w _ Y) G.T.g G.T.b G.T.builtins G.T.nolimit gens0 scr hints (Nat.le_trans hlen hn2) hr hF hb (fun H h1 h2 => hsp _ H a ns hlen h1 h2) (fun H => noX H s1)
end Vk
set_option Elab.async false
set_option maxRecDepth 100000
set_option linter.all false
namespace Vk
open PySem PySem.Spec PyProof.Rows L2
/-! ## what stays -/
/-- all that was tracked stays, but what stands at p -/
def Ext (p : Addr) (H H' : Hp) : Prop := ∀ b o, H b = some o → b ≠ p → H' b = some o
theorem Ext.rfl {p : Addr} {H : Hp} : Ext p H H := fun _ _ h _ => h
theorem Ext.trans {p : Addr} {H H1 H2 : Hp} (a : Ext p H H1) (b : Ext p H1 H2) : Ext p H H2 := fun c o h n => b c o (a c o h n) n
theorem Ext.same {p : Addr} {H H1 : Hp} (a : Same H H1) : Ext p H H1 := fun c o h _ => a c o h
theorem Ext.at {p : Addr} {H : Hp} {o : HO} : Ext p H (upd H p o) := fun c u h n => (upd_ne n).trans h
theorem same_new {H : Hp} {a : Addr} {o : HO} (h : H a = none) : Same H (upd H a o) := fun c u e => (upd_ne (ne_of_none e h)).trans e
theorem Ext.new {p a : Addr} {H : Hp} {o : HO} (h : H a = none) : Ext p H (upd H a o) := .same (same_new h)
theorem Ext.set {p a : Addr} {H H1 : Hp} {o : HO} (x : Ext p H H1) (h : H a = none) : Ext p H (upd H1 a o) := fun c u e n => (upd_ne (ne_of_none e h)).trans (x c u e n)
theorem Ext.none_of {p a : Addr} {H H1 : Hp} (x : Ext p H H1) (hp : a ≠ p) (h : H1 a = none) : H a = none := by
  match q : H a with
  | none => rfl
  | some o => exact nomatch (x a o q hp).symm.trans h
theorem Ext.seqL {K : PySem.W.Frag} {p a : Addr} {H H1 : Hp} {xs : List V} (x : Ext p H H1) (hp : a ≠ p) (h : SqL K H a xs) : SqL K H1 a xs := by
  match h with
  | .inl (.inl e) => exact .inl (.inl (x _ _ e hp))
  | .inl (.inr ⟨o, e⟩) => exact .inl (.inr ⟨o, x _ _ e hp⟩)
  | .inr e => exact .inr e
theorem Ext.seqT {K : PySem.W.Frag} {p a : Addr} {H H1 : Hp} {xs : List V} (x : Ext p H H1) (hp : a ≠ p) (h : SqT K H a xs) : SqT K H1 a xs := by
  match h with
  | .inl (.inl e) => exact .inl (.inl (x _ _ e hp))
  | .inl (.inr ⟨o, e⟩) => exact .inl (.inr ⟨o, x _ _ e hp⟩)
  | .inr e => exact .inr e
theorem up_new {H : Hp} {a b : Addr} {o u : HO} (h : H a = some o) (hb : H b = none) : upd H b u a = some o := same_new hb a o h
/-! ## the pen -/
def penL (c : Addr) (t l : Int) : List (Key × V) := [(.inr "cells", .ref c), (.inr "turn", .int t), (.inr "left", .int l)]
theorem k_ct : ¬ ((Str.ofString "cells") = Str.ofString "turn") := by decide +kernel
theorem k_cl : ¬ ((Str.ofString "cells") = Str.ofString "left") := by decide +kernel
theorem k_tl : ¬ ((Str.ofString "turn") = Str.ofString "left") := by decide +kernel
theorem k_lt : ¬ ((Str.ofString "left") = Str.ofString "turn") := by decide +kernel
theorem pen_cells (c : Addr) (t l : Int) : valV (penL c t l) (Sum.inr "cells" : Key) = some (.ref c) := valV_pos rfl
theorem pen_turn (c : Addr) (t l : Int) : valV (penL c t l) (Sum.inr "turn" : Key) = some (.int t) := (valV_neg (fun e => k_ct (Sum.inr.inj e))).trans (valV_pos rfl)
theorem pen_left (c : Addr) (t l : Int) : valV (penL c t l) (Sum.inr "left" : Key) = some (.int l) := (valV_neg (fun e => k_cl (Sum.inr.inj e))).trans ((valV_neg (fun e => k_tl (Sum.inr.inj e))).trans (valV_pos rfl))
theorem pen_put_turn (c : Addr) (t l u : Int) : putK (penL c t l) (Sum.inr "turn" : Key) (.int u) = penL c u l := by
  unfold putK
  rw [valV_any, pen_turn]
  simp [penL, k_ct, k_lt]
theorem pen_put_left (c : Addr) (t l u : Int) : putK (penL c t l) (Sum.inr "left" : Key) (.int u) = penL c t u := by
  unfold putK
  rw [valV_any, pen_left]
  simp [penL, k_cl, k_tl]
theorem pen_made (c : Addr) (t l : Int) : mergeK [] (penL c t l) = penL c t l := by
  simp [mergeK, penL, putK, k_ct, k_cl, k_tl]
structure Pen (H : Hp) (p c : Addr) (T : Nat) : Prop where
  ex : ∃ (ns : List Int) (t l : Int), H p = some (.dK (penL c t l)) ∧ H c = some (.lst (ns.map V.int)) ∧ ns.length ≤ 63 ∧ 0 ≤ t ∧ t ≤ T ∧ 0 ≤ l
section
variable {H H1 : Hp} {p c a : Addr} {T U : Nat} {o : HO} {xs : List V}
theorem Pen.mono (x : Pen H p c T) (h : T ≤ U) : Pen H p c U := by
  obtain ⟨ns, t, l, h1, h2, h3, h4, h5, h6⟩ := x.ex
  exact ⟨ns, t, l, h1, h2, h3, h4, by omega, h6⟩
theorem Pen.stay (x : Pen H p c T) (s : Same H H1) : Pen H1 p c T := by
  obtain ⟨ns, t, l, h1, h2, r⟩ := x.ex
  exact ⟨ns, t, l, s _ _ h1, s _ _ h2, r⟩
theorem Pen.new (x : Pen H p c T) (h : H a = none) : Pen (upd H a o) p c T := x.stay (same_new h)
theorem Pen.is (x : Pen H p c T) : ∃ t l, H p = some (.dK (penL c t l)) := by
  obtain ⟨ns, t, l, h1, _⟩ := x.ex
  exact ⟨t, l, h1⟩
theorem Pen.ne (x : Pen H p c T) (h : H a = some (.lst xs)) : a ≠ p := by
  obtain ⟨t, l, h1⟩ := x.is
  exact ne_of h h1 (by intro z; cases z)
/-- another thing is changed -/
theorem Pen.set (x : Pen H p c T) (h1 : a ≠ p) (h2 : a ≠ c) : Pen (upd H a o) p c T := by
  obtain ⟨ns, t, l, g1, g2, r⟩ := x.ex
  exact ⟨ns, t, l, (upd_ne h1.symm).trans g1, (upd_ne h2.symm).trans g2, r⟩
/-- a thing that was not there when the pen stood is neither the pen nor its cells -/
theorem Pen.apart (x : Pen H p c T) (h : H a = none) : a ≠ p ∧ a ≠ c := by
  obtain ⟨ns, t, l, g1, g2, r⟩ := x.ex
  exact ⟨(ne_of_none g1 h).symm, (ne_of_none g2 h).symm⟩
end
/-- draw's promise -/
def spDraw : Sp := fun vs H Q _ => ∃ (p c : Addr) (m : Int) (T : Nat), vs = [.ref p, .int m] ∧ 0 < m ∧ m < 1073741824 ∧ Pen H p c T ∧ T < 1000000000 ∧
  ∀ (d : Int) (H' : Hp), 0 ≤ d → d < m → Pen H' p c (T + 1) → Ext p H H' → Q (.int d) H'
def spPen (K : PySem.W.Frag) : Sp := fun vs H Q _ => ∃ (a : Addr) (ns : List Int), vs = [.ref a] ∧ SqL K H a (ns.map V.int) ∧
  ∀ (p c : Addr) (H' : Hp), H p = none → Pen H' p c 0 → Same H H' → Q (.ref p) H'
/-! ## draws' small facts -/
theorem ints_dp {K : PySem.W.Frag} {H : Hp} : ∀ ns : List Int, DpAll K H (ns.map V.int) (ns.map PyData.int)
  | [] => .nil
  | n :: ns => .cons (.int n) (ints_dp ns)
theorem ints_canLay : ∀ ns : List Int, PyData.canLayAll0 (ns.map PyData.int) = true
  | [] => rfl
  | n :: ns => by
    show (PyData.canLay0 (.int n) && PyData.canLayAll0 (ns.map PyData.int)) = true
    rw [ints_canLay ns]
    rfl
theorem ints_depth : ∀ ns : List Int, PyData.depthAll (ns.map PyData.int) = 0
  | [] => rfl
  | n :: ns => by
    show max (PyData.depth (.int n)) (PyData.depthAll (ns.map PyData.int)) = 0
    rw [ints_depth ns]
    rfl
theorem ints_shaped (ns : List Int) : SeqAt.shaped (.list (ns.map PyData.int)) = true := by
  have h1 : PyData.canLay0 (.list (ns.map PyData.int)) = true := ints_canLay ns
  have h2 : PyData.depth (.list (ns.map PyData.int)) = 1 := by
    show PyData.depthAll (ns.map PyData.int) + 1 = 1
    rw [ints_depth]
  unfold SeqAt.shaped
  rw [h1, h2]
  rfl
theorem ints_ne_nil (ns : List Int) : PyData.eqv (.list (ns.map PyData.int)) (.list []) = ns.isEmpty := by
  match ns with
  | [] => rfl
  | n :: r => rfl
theorem get_left {H : Hp} {p c : Addr} {t l : Int} (h : H p = some (.dK (penL c t l))) : DGet H p (.str "left") (some (.int l)) := pen_left c t l ▸ DGet.k (k := Sum.inr "left") h
theorem get_turn {H : Hp} {p c : Addr} {t l : Int} (h : H p = some (.dK (penL c t l))) : DGet H p (.str "turn") (some (.int t)) := pen_turn c t l ▸ DGet.k (k := Sum.inr "turn") h
theorem get_cells {H : Hp} {p c : Addr} {t l : Int} (h : H p = some (.dK (penL c t l))) : DGet H p (.str "cells") (some (.ref c)) := pen_cells c t l ▸ DGet.k (k := Sum.inr "cells") h
theorem put_left {H : Hp} {p c : Addr} {t l u : Int} (h : H p = some (.dK (penL c t l))) : DPut H p (.str "left") (.int u) (upd H p (.dK (penL c t u))) := pen_put_left c t l u ▸ DPut.k (k := Sum.inr "left") h (by show 3 < sizeLine; decide)
theorem put_turn {H : Hp} {p c : Addr} {t l u : Int} (h : H p = some (.dK (penL c t l))) : DPut H p (.str "turn") (.int u) (upd H p (.dK (penL c u l))) := pen_put_turn c t l u ▸ DPut.k (k := Sum.inr "turn") h (by show 3 < sizeLine; decide)
theorem at_mod {α : Type} {xs : List α} {i : Int} (h0 : 0 ≤ i) (h : i < (xs.length : Int)) : ∃ v, atI xs i = some v ∧ v ∈ xs := by
  have hj : i.toNat < xs.length := by omega
  refine ⟨xs[i.toNat], ?_, List.getElem_mem hj⟩
  have e : i = (i.toNat : Int) := by omega
  have q := atI_nat (List.getElem?_eq_getElem hj)
  rw [← e] at q
  exact q
def primes : List Int := [2147483629, 2147483647, 2147483587, 2147483563, 2147483579]
theorem primes_in {v : V} (h : v ∈ primes.map V.int) : ∃ i : Int, v = .int i ∧ 0 < i ∧ i < 2147483648 := by
  obtain ⟨i, hi, e⟩ := List.mem_map.mp h
  refine ⟨i, e.symm, ?_⟩
  have q : ∀ j ∈ primes, 0 < j ∧ j < 2147483648 := by decide
  exact q i hi
end Vk
set_option Elab.async false
set_option maxRecDepth 100000
set_option linter.all false
namespace Vk
open PySem PySem.Spec PyProof.Rows L2
/-! ## a def that returns one written text, and a replace of what it returns (a token is out behind it) -/
structure FnT (P : Program) (w : World) (K : PySem.W.Frag) (mg : Str → Option Value) (base : Heap) (k : Nat) (x : Str) (z : Str) : Prop where
  ex : ∃ f : Addr, mg x = some (.ref f) ∧ PySem.W.keepIn K (.ref f) = true ∧ ∀ (A : Around) (outer : List Env) (s : Shared) (H : Hp) (Q : VK), Room k A → Env0 P w K mg base A outer s H → Q (.str z) H →
    codeAny (model P w) A (.call (.ref f) ⟨[], []⟩) (fun r s2 => 1 ≤ s2.toks ∧ CR CX0 outer P w H s Q E0 r s2) s
section
variable {P : Program} {w : World} {K : PySem.W.Frag} {mg : Str → Option Value} {base : Heap}
theorem okT {x : Str} {st : Stmt} {f : Addr} {fd : FuncData} {z : Str} {j : Nat} {p1 p2 : Pos} (F : Fun K x x st f fd) (S : FnScope [] [] (defScope st)) (hm : mg x = some (.ref f)) (hb : Binds K fd [] [])
    (body : defBody st = [.Return (some (.Constant (.str z) j p1)) p2]) : FnT P w K mg base 1 x z := by
  refine ⟨f, hm, F.kp, ?_⟩
  obtain ⟨oc, od, kV, doc, pm, an, cdv, ct, osl, rfl, lk, hcd⟩ := F.ex
  intro A outer s H Q hr e0 hsp
  have KX := e0.mod.kin.keeps (fun b o e => (e0.bs b o e).1 : ∀ b o, base.get? b = some o → s.heap.get? b = some o)
  have noLim := e0.mod.nolimit.keeps (fun b o e => (e0.bs b o e).1 : ∀ b o, base.get? b = some o → s.heap.get? b = some o)
  refine codeAny_call_function hr.depth (KX f _ lk) rfl S.co S.gen rfl (PySem.W.codeRec_of KX hcd) (hb s [] KX rfl _ _ _ _ (wpAny_newFunctionEnv_cells S.kind (fun y hy => absurd hy (List.not_mem_nil (a := y))) fun env he s1 x0 => ?_))
  cases he
  refine And.intro (noLim.keeps x0.toInCall.keep) (codeAny_func ?_)
  have I0 := inv_start (P := P) (CX := CX0) (E := E0) (us := []) (vs := []) S hr.hd e0 rfl .nil x0
  show wpAny _ _ (execs (defBody st) _) _ _ s1
  rw [body]
  refine wpAny_execs_cons (wpAny_Return_some (Calls.Constant_str ?_))
  exact ⟨Nat.succ_pos _, .str z, H, I0.os, I0.bare, (I0.tok (s1.toks + 1)).base, (I0.tok (s1.toks + 1)).hok, ⟨_, rfl⟩, hsp⟩
end
section
variable {X : Cx} {j k : Nat} {x z y v : Str} {q q2 apos pos c0 c1 : Pos} {j0 j1 : Nat}
theorem pe_replT (c : FnT X.prog X.w X.K X.mg X.base k x z) (hr : Room j X.A) (hk : k ≤ j) (hz : z.length + (z.length + 1) * v.length ≤ 16777216) (hyz : (y == v) = false) (gl : Gl X x := by rfl) (hdb : (x == ("__debug__" : Str)) = false := by decide)
    (hst : starEach [.Constant (.str y) j0 c0, .Constant (.str v) j1 c1] X.env = [(false, eval (.Constant (.str y) j0 c0) X.env), (false, eval (.Constant (.str v) j1 c1) X.env)] := by rfl)
    (hbase : attributeBase (.Call (.Name x q) [] [] q2) "replace" X.env (eval (.Call (.Name x q) [] [] q2) X.env) = eval (.Call (.Name x q) [] [] q2) X.env := by rfl) (hline : (apos.endLine == pos.line) = true := by rfl) :
    PE X (.Call (.Attribute (.Call (.Name x q) [] [] q2) "replace" apos) [.Constant (.str y) j0 c0, .Constant (.str v) j1 c1] [] pos) (fun σ H Q => Q (.str (Txt.replace z y v)) H) := by
  obtain ⟨f, hm, kp, run⟩ := c.ex
  refine ⟨fun pins s σ H Q I h => PySem.Call_method2 (Q := EP X pins σ Q) hbase hst hline (wpAny_mono (Q := fun u s1 => 1 ≤ s1.toks ∧ EP X pins σ (fun w H1 => w = .str z ∧ H1 = H) u s1) ?_ ?_ (fun _ _ e => e))⟩
  · refine wpAny_Call_Name_kw (ld_glob I gl hm (PySem.W.callWith_K0 I.kIn kp (wpAny_call (codeAny_mono (run X.A X.stack s H (fun w H1 => w = .str z ∧ H1 = H) (hr.mono hk) I.env0 ⟨rfl, rfl⟩) fun res s2 hq => ?_))) hdb)
    match res, hq with
    | .error e, hq => exact hq.2.elim
    | .ok (.ret u), hq => exact ⟨hq.1, I.after hq.2⟩
    | .ok .next, hq => exact hq.2.elim
    | .ok .brk, hq => exact hq.2.elim
    | .ok .cont, hq => exact hq.2.elim
  · rintro u s1 ⟨ht, w, H1, I1, r1, rfl, rfl⟩
    obtain ⟨tx, rfl⟩ := r1
    refine ⟨"str", _, PySem.F.plainAttrs_str, PySem.F.slot_str_replace, PySem.F.type_str_replace, typeIs_str _ _ _, (fun _ e => nomatch e), Calls.callWith_builtin rfl (Calls.evalArgs_plain (Calls.spliced_cons (Calls.Constant_str (Calls.spliced_cons (Calls.Constant_str (Calls.spliced_nil ?_))))))⟩
    exact PySem.SC.replace (Nat.ne_of_gt ht) (Nat.succ_ne_zero _) (by show s1.toks ≠ s1.toks + 1; omega) hyz hz fun t' kk => ⟨V.str _, _, I1.tok kk, ⟨t', rfl⟩, h⟩
end
/-! ## options to pick from -/
def OneS (c : Nat) : V := .str ⟨#[c]⟩
inductive Opts (K : PySem.W.Frag) (H : Hp) : V → List V → Prop
  | str (z : Str) (h : z.length ≤ 1000) : Opts K H (.str z) (z.cps.toList.map OneS)
  | lst {a : Addr} {xs : List V} (h : SqL K H a xs) : Opts K H (.ref a) xs
  | tup {a : Addr} {xs : List V} (h : SqT K H a xs) : Opts K H (.ref a) xs
theorem Ext.sqL {K : PySem.W.Frag} {p a : Addr} {H H1 : Hp} {xs : List V} {kvs : List (Key × V)} (x : Ext p H H1) (hp : H p = some (.dK kvs)) (h : SqL K H a xs) : SqL K H1 a xs := by
  match h with
  | .inl (.inl e) => exact .inl (.inl (x _ _ e (ne_of e hp (by intro z; cases z))))
  | .inl (.inr ⟨o, e⟩) => exact .inl (.inr ⟨o, x _ _ e (ne_of e hp (by intro z; cases z))⟩)
  | .inr e => exact .inr e
theorem Ext.sqT {K : PySem.W.Frag} {p a : Addr} {H H1 : Hp} {xs : List V} {kvs : List (Key × V)} (x : Ext p H H1) (hp : H p = some (.dK kvs)) (h : SqT K H a xs) : SqT K H1 a xs := by
  match h with
  | .inl (.inl e) => exact .inl (.inl (x _ _ e (ne_of e hp (by intro z; cases z))))
  | .inl (.inr ⟨o, e⟩) => exact .inl (.inr ⟨o, x _ _ e (ne_of e hp (by intro z; cases z))⟩)
  | .inr e => exact .inr e
theorem Ext.is {p a : Addr} {H H1 : Hp} {xs : List V} {kvs : List (Key × V)} (x : Ext p H H1) (hp : H p = some (.dK kvs)) (h : H a = some (.lst xs)) : H1 a = some (.lst xs) := x _ _ h (ne_of h hp (by intro z; cases z))
theorem Ext.isT {p a : Addr} {H H1 : Hp} {xs : List V} {kvs : List (Key × V)} (x : Ext p H H1) (hp : H p = some (.dK kvs)) (h : H a = some (.tup xs)) : H1 a = some (.tup xs) := x _ _ h (ne_of h hp (by intro z; cases z))
theorem Pen.keepL {K : PySem.W.Frag} {p c a : Addr} {T : Nat} {H H1 : Hp} {xs : List V} (q : Pen H p c T) (x : Ext p H H1) (h : SqL K H a xs) : SqL K H1 a xs := by
  obtain ⟨t, l, hp⟩ := q.is
  exact x.sqL hp h
theorem Pen.keepT {K : PySem.W.Frag} {p c a : Addr} {T : Nat} {H H1 : Hp} {xs : List V} (q : Pen H p c T) (x : Ext p H H1) (h : SqT K H a xs) : SqT K H1 a xs := by
  obtain ⟨t, l, hp⟩ := q.is
  exact x.sqT hp h
theorem Pen.keepI {p c a : Addr} {T : Nat} {H H1 : Hp} {xs : List V} (q : Pen H p c T) (x : Ext p H H1) (h : H a = some (.lst xs)) : H1 a = some (.lst xs) := by
  obtain ⟨t, l, hp⟩ := q.is
  exact x.is hp h
def spPick (K : PySem.W.Frag) : Sp := fun vs H Q _ => ∃ (p c : Addr) (o : V) (xs : List V) (T : Nat), vs = [.ref p, o] ∧ Opts K H o xs ∧ xs ≠ [] ∧ xs.length ≤ 1000 ∧ Pen H p c T ∧ T < 1000000000 ∧
  ∀ (v : V) (H' : Hp), v ∈ xs → Pen H' p c (T + 1) → Ext p H H' → Q v H'
def letS : Str := "\n !\"#$&'()*+,-./0123456789:;<=>?@ABCDEFGHIJKLMNOPQRSTUVWXYZ[\\]^_`abcdefghijklmnopqrstuvwxyz{|}~"
def spSigns : Sp := fun vs H Q _ => vs = [] ∧ Q (.str letS) H
/-- what few gives: one to three letters -/
def Few (z : Str) : Prop := 1 ≤ z.length ∧ z.length ≤ 3 ∧ ∀ c ∈ z.cps.toList, c ∈ letS.cps.toList
def spFew : Sp := fun vs H Q _ => ∃ (p c : Addr) (T : Nat), vs = [.ref p] ∧ Pen H p c T ∧ T + 4 < 1000000000 ∧ ∀ (z : Str) (H' : Hp), Few z → Pen H' p c (T + 4) → Ext p H H' → Q (.str z) H'
/-- a word of the letters of z, a to b of them -/
def Word (z : Str) (a b : Nat) (x : Str) : Prop := a ≤ x.length ∧ x.length ≤ b ∧ ∀ c ∈ x.cps.toList, c ∈ z.cps.toList
def spWord : Sp := fun vs H Q _ => ∃ (p c : Addr) (z : Str) (a b T : Nat), vs = [.ref p, .str z, .int a, .int b] ∧ a ≤ b ∧ b ≤ 100 ∧ 1 ≤ z.length ∧ z.length ≤ 1000 ∧ Pen H p c T ∧ T + 200 < 1000000000 ∧
  ∀ (x : Str) (H' : Hp), Word z a b x → Pen H' p c (T + b + 1) → Ext p H H' → Q (.str x) H'
theorem cut63 (ns : List Int) : ∃ ms : List Int, cutV (ns.map V.int) none (some 63) = ms.map V.int ∧ ms.length ≤ 63 := by
  refine ⟨ns.take 63, ?_, List.length_take_le _ _⟩
  unfold cutV
  rw [HT.sIx_none, show (63 : Int) = ((63 : Nat) : Int) from rfl, HT.sIx_nat, List.drop_zero, Nat.sub_zero, List.map_take, Nat.min_comm, ← List.take_take]
  exact List.take_of_length_le (by rw [List.length_take]; omega)
theorem one_len (z : Str) : (z.cps.toList.map OneS).length = z.length := by
  rw [List.length_map]
  exact Array.length_toList
theorem join_nil : ∀ ls : List (List Nat), TL.joinL [] ls = ls.flatten
  | [] => rfl
  | [p] => by simp [TL.joinL]
  | p :: q :: r => by
    show p ++ ([] ++ TL.joinL [] (q :: r)) = _
    rw [List.nil_append, join_nil (q :: r)]
    rfl
theorem join_ones (cs : List Nat) : Txt.join "" (cs.map fun c => (⟨#[c]⟩ : Str)) = ⟨cs.toArray⟩ := by
  rw [TL.join_eq]
  refine TL.ext_tl ?_
  rw [TL.tl_join]
  refine (join_nil _).trans ?_
  show (List.map TL.tl (cs.map fun c => (⟨#[c]⟩ : Str))).flatten = cs
  rw [List.map_map]
  induction cs with
  | nil => rfl
  | cons c r ih => exact congrArg (c :: ·) ih
theorem ones_len (cs : List Nat) : ((cs.map fun c => (⟨#[c]⟩ : Str)).map (·.length)).sum = cs.length := by
  induction cs with
  | nil => rfl
  | cons c r ih =>
    rw [List.map_cons, List.map_cons, List.sum_cons, ih, List.length_cons]
    show 1 + r.length = r.length + 1
    omega
theorem ones_map (cs : List Nat) : (cs.map fun c => (⟨#[c]⟩ : Str)).map V.str = cs.map OneS := List.map_map
theorem noq_list : (Txt.replace letS "q" "").cps.toList = letS.cps.toList.filter (· != 113) := replace_strikes letS 113
theorem noq_len : (Txt.replace letS "q" "").length = 94 := by
  rw [show (Txt.replace letS "q" "").length = (Txt.replace letS "q" "").cps.toList.length from Array.length_toList.symm, noq_list]
  decide +kernel
theorem noq_in {c : Nat} (h : c ∈ (Txt.replace letS "q" "").cps.toList) : c ∈ letS.cps.toList := by
  rw [noq_list] at h
  exact (List.mem_filter.mp h).1
theorem ones_of {z : Str} {v : V} (h : v ∈ z.cps.toList.map OneS) : ∃ c, v = OneS c ∧ c ∈ z.cps.toList := by
  obtain ⟨c, hc, e⟩ := List.mem_map.mp h
  exact ⟨c, e.symm, hc⟩
theorem opts_ne {z : Str} (h : 1 ≤ z.length) : z.cps.toList.map OneS ≠ [] := fun e => by
  have q := one_len z
  rw [e] at q
  simp at q
  omega
theorem opts_le {z : Str} {n : Nat} (h : z.length ≤ n) : (z.cps.toList.map OneS).length ≤ n := by
  rw [one_len]
  exact h
/-- the fixed choices of few are few -/
theorem few_of {z : Str} (h : (decide (1 ≤ z.length) && decide (z.length ≤ 3) && z.cps.toList.all fun c => decide (c ∈ letS.cps.toList)) = true) : Few z := by
  simp only [Bool.and_eq_true, decide_eq_true_eq, List.all_eq_true] at h
  exact ⟨h.1.1, h.1.2, h.2⟩
theorem few_ones {cs : List Nat} (h1 : 1 ≤ cs.length) (h3 : cs.length ≤ 3) (h : ∀ c ∈ cs, c ∈ letS.cps.toList) : Few ⟨cs.toArray⟩ := ⟨by simpa [Str.length] using h1, by simpa [Str.length] using h3, by simpa using h⟩
/-! ## rules whose written part is named (within a comprehension's block) -/
section
variable {X : Cx} {K : PySem.W.Frag}
theorem ix_seqK (h : X.K = K) : IxR X (rIx K) := h ▸ ix_seq
theorem ix_listK (h : X.K = K) : IxR X (rIxL K) := h ▸ ix_list
theorem ix_tupK (h : X.K = K) : IxR X (rIxT K) := h ▸ ix_tup
theorem op_in_seqK (h : X.K = K) : OpR X (compareOp .In) (rIn K false) := h ▸ op_in_seq
theorem op_notIn_seqK (h : X.K = K) : OpR X (compareOp .NotIn) (rIn K true) := h ▸ op_notIn_seq
theorem sl_listK (h : X.K = K) : SlR X (rSlL K) := h ▸ sl_list
theorem sl_tupK (h : X.K = K) : SlR X (rSlT K) := h ▸ sl_tup
theorem call_lenK (h : X.K = K) : CallR X (.builtin "len") (fun xs H Q => ∃ x n, xs = [x] ∧ LenV K x H n ∧ Q (.int n) H) := h ▸ call_len
theorem op_eqDK (h : X.K = K) (hu : X.A.units + 64 < cLine) : OpR X (compareOp .Eq) (rEqD K) := h ▸ op_eqD hu
theorem op_neDK (h : X.K = K) (hu : X.A.units + 64 < cLine) : OpR X (compareOp .NotEq) (rNeD K) := h ▸ op_neD hu
end
theorem cutV_mem {xs : List V} {lo hi : Option Int} {v : V} (h : v ∈ cutV xs lo hi) : v ∈ xs := List.mem_of_mem_drop (List.mem_of_mem_take h)
theorem cutV_all {xs : List V} {lo hi : Option Int} {f : V → Bool} (h : xs.all f = true) : (cutV xs lo hi).all f = true := List.all_eq_true.mpr fun v hv => List.all_eq_true.mp h v (cutV_mem hv)
theorem ones_flat (cs : List Nat) : (cs.map OneS).all flatV = true := List.all_eq_true.mpr fun v hv => by
  obtain ⟨c, _, rfl⟩ := List.mem_map.mp hv
  rfl
theorem cutV_zero (xs : List V) : cutV xs none (some 0) = [] := by
  unfold cutV
  rw [HT.sIx_none, show (0 : Int) = ((0 : Nat) : Int) from rfl, HT.sIx_nat]
  simp
theorem one_mem {cs : List Nat} {v : V} (h : v ∈ cs.map OneS) : ∃ c, v = OneS c ∧ c ∈ cs := by
  obtain ⟨c, hc, e⟩ := List.mem_map.mp h
  exact ⟨c, e.symm, hc⟩
end Vk
set_option Elab.async false
set_option maxRecDepth 100000
set_option linter.all false
namespace Vk
open PySem PySem.Spec PyProof.Rows L2
/-! ## how long what is shown may be -/
theorem listText_le : ∀ ts : List Str, (listText ts).length ≤ piled ts + 2
  | [] => by decide +kernel
  | t :: r => by
    have h := textFrom_length_pos r 1 (("[" : Str) ++ (if (0 : Nat) > 0 then ", " else "" : String) ++ t) (Nat.succ_pos 0)
    have e : (listText (t :: r)).length = (textFrom 1 (("[" : Str) ++ (if (0 : Nat) > 0 then ", " else "" : String) ++ t) r).length + 1 := strLen_append _ _
    rw [e, h, strLen_append, strLen_append, piled_cons]
    show 1 + 0 + t.length + piled r + 1 ≤ _
    omega
theorem piled_le {ts : List Str} {n : Nat} (h : ∀ t ∈ ts, t.length ≤ n) : piled ts ≤ ts.length * (n + 2) := by
  induction ts with
  | nil => exact Nat.zero_le _
  | cons t r ih =>
    have h1 := h t List.mem_cons_self
    have h2 := ih fun u hu => h u (List.mem_cons_of_mem _ hu)
    rw [piled_cons, List.length_cons, Nat.succ_mul]
    omega
theorem shownAll_map : ∀ ds : List PyData, PyData.shownAll ds = ds.map PyData.shown
  | [] => rfl
  | d :: r => congrArg (d.shown :: ·) (shownAll_map r)
theorem showableAll_iff : ∀ {ds : List PyData}, (∀ d ∈ ds, d.showable = true) → PyData.showableAll ds = true
  | [], _ => rfl
  | d :: r, h => by
    show (d.showable && PyData.showableAll r) = true
    rw [h d List.mem_cons_self, showableAll_iff fun e he => h e (List.mem_cons_of_mem _ he)]
    rfl
theorem hasDictAll_of : ∀ {ds : List PyData}, (∀ d ∈ ds, d.hasDict = false) → PyData.hasDictAll ds = false
  | [], _ => rfl
  | d :: r, h => by
    show (d.hasDict || PyData.hasDictAll r) = false
    rw [h d List.mem_cons_self, hasDictAll_of fun e he => h e (List.mem_cons_of_mem _ he)]
    rfl
theorem depthAll_le : ∀ {ds : List PyData} {n : Nat}, (∀ d ∈ ds, d.depth ≤ n) → PyData.depthAll ds ≤ n
  | [], _, _ => Nat.zero_le _
  | d :: r, n, h => Nat.max_le.mpr ⟨h d List.mem_cons_self, depthAll_le fun e he => h e (List.mem_cons_of_mem _ he)⟩
/-- d may be shown, in at most n signs, at most k deep -/
structure Showy (d : PyData) (k n : Nat) : Prop where
  sh : d.showable = true
  nd : d.hasDict = false
  dp : d.depth ≤ k
  ln : d.shown.length ≤ n
theorem Showy.list {ds : List PyData} {k n : Nat} (h : ∀ d ∈ ds, Showy d k n) : Showy (.list ds) (k + 1) (ds.length * (n + 2) + 2) := by
  refine ⟨showableAll_iff fun d hd => (h d hd).sh, hasDictAll_of fun d hd => (h d hd).nd, Nat.succ_le_succ (depthAll_le fun d hd => (h d hd).dp), ?_⟩
  show (listText (PyData.shownAll ds)).length ≤ _
  rw [shownAll_map]
  have h1 := listText_le (ds.map PyData.shown)
  have h2 := piled_le (ts := ds.map PyData.shown) (n := n) fun t ht => by
    obtain ⟨d, hd, rfl⟩ := List.mem_map.mp ht
    exact (h d hd).ln
  rw [List.length_map] at h2
  omega
theorem Showy.tuple {ds : List PyData} {k n : Nat} (h : ∀ d ∈ ds, Showy d k n) : Showy (.tuple ds) (k + 1) (ds.length * (n + 2) + 2) := by
  refine ⟨showableAll_iff fun d hd => (h d hd).sh, hasDictAll_of fun d hd => (h d hd).nd, Nat.succ_le_succ (depthAll_le fun d hd => (h d hd).dp), ?_⟩
  show (tupleText (PyData.shownAll ds)).length ≤ _
  rw [shownAll_map]
  have h1 := fmt_text (ds.map PyData.shown)
  have h2 := piled_le (ts := ds.map PyData.shown) (n := n) fun t ht => by
    obtain ⟨d, hd, rfl⟩ := List.mem_map.mp ht
    exact (h d hd).ln
  rw [List.length_map] at h2
  omega
theorem Showy.int {i : Int} (h : i.natAbs < 10 ^ 100) : Showy (.int i) 0 101 := by
  have hl : i.natAbs.log2 < 1920 := by
    by_cases h0 : i.natAbs = 0
    · rw [h0]; decide
    · exact (Nat.log2_lt h0).mpr (Nat.lt_of_lt_of_le h (by decide +kernel))
  refine ⟨decide_eq_true hl, rfl, Nat.le_refl _, ?_⟩
  show (Str.ofString (toString i)).length ≤ 101
  rw [PySem.ofString_length]
  exact int_text_length_le10 (k := 100) (by decide) h
theorem Showy.mono {d : PyData} {k k' n n' : Nat} (h : Showy d k n) (h1 : k ≤ k') (h2 : n ≤ n') : Showy d k' n' := ⟨h.sh, h.nd, Nat.le_trans h.dp h1, Nat.le_trans h.ln h2⟩
/-! ## places of words -/
open StrLaws in
theorem find_from (x y : Str) (lo : Nat) (hlo : lo ≤ x.length + 1) :
    ((match Builtin.Str.occurrences x y lo x.length 1 with | i :: _ => (i : Int) | [] => -1) = -1 ∧ ∀ i, lo ≤ i → ¬ At x y x.length i) ∨
    ∃ i : Nat, (match Builtin.Str.occurrences x y lo x.length 1 with | i :: _ => (i : Int) | [] => -1) = (i : Int) ∧ lo ≤ i ∧ At x y x.length i ∧ ∀ k, lo ≤ k → k < i → ¬ At x y x.length k := by
  rw [occ_eq]
  have inr : ∀ i, lo ≤ i → i ≤ x.length → i ∈ List.range' lo (x.length + 1 - lo) := fun i h1 h2 => by
    simp only [List.mem_range'_1]
    omega
  rcases occ_first x y x.length 1 (Nat.le_refl _) (List.range' lo (x.length + 1 - lo)) lo (fun i hi => (List.mem_range'_1.mp hi).1) with ⟨h0, hn⟩ | ⟨pre, a, post, e, h0, ha, hn⟩
  · refine .inl ⟨by rw [h0], fun i hi hA => hn i (inr i hi (Nat.le_trans (Nat.le_add_right _ _) hA.1)) hA⟩
  · refine .inr ⟨a, ?_, ?_, ha, fun k h1 h2 => ?_⟩
    · generalize (forIn (List.range' lo (x.length + 1 - lo)) ((#[] : Array Nat), lo) (occBody x y x.length 1)).run.fst = arr at h0
      have h1 : arr.toList[0]? = some a := by simpa using h0
      match hL : arr.toList with
      | [] => rw [hL] at h1; cases h1
      | b :: t => rw [hL] at h1; simp at h1; rw [h1]
    · exact (List.mem_range'_1.mp (by rw [e]; exact List.mem_append_right _ List.mem_cons_self : a ∈ List.range' lo (x.length + 1 - lo))).1
    · refine hn k ?_
      have hk : k ∈ pre ++ a :: post := by
        rw [← e]
        refine inr k h1 ?_
        have q := ha.1
        omega
      have pw : (pre ++ a :: post).Pairwise (· < ·) := by rw [← e]; exact List.pairwise_lt_range'
      rcases List.mem_append.mp hk with hk | hk
      · exact hk
      · rcases List.mem_cons.mp hk with rfl | hk
        · exact absurd h2 (Nat.lt_irrefl _)
        · have q := (List.pairwise_cons.mp (List.pairwise_append.mp pw).2.1).1 k hk
          omega
def atB (x w : Str) (i : Nat) : Bool := decide (i + w.length ≤ x.length) && Builtin.Str.subAt x w i
theorem atB_iff (x w : Str) (i : Nat) : atB x w i = true ↔ StrLaws.At x w x.length i := by
  unfold atB StrLaws.At
  simp
/-- all places of a word in a text -/
def plc (x w : Str) : List Nat := (List.range (x.length + 1)).filter (atB x w)
theorem filter_more {P : Nat → Bool} {lo m : Nat} (h : lo ≤ m) (hn : ∀ i, lo ≤ i → i < m → P i = false) : (List.range m).filter P = (List.range lo).filter P := by
  induction m with
  | zero => rw [Nat.le_zero.mp h]
  | succ m ih =>
    by_cases e : lo = m + 1
    · rw [e]
    · rw [List.range_succ, List.filter_append, ih (by omega) fun i h1 h2 => hn i h1 (by omega)]
      have q := hn m (by omega) (Nat.lt_succ_self _)
      simp [q]
theorem filter_snoc {P : Nat → Bool} {m : Nat} (h : P m = true) : (List.range (m + 1)).filter P = (List.range m).filter P ++ [m] := by
  rw [List.range_succ, List.filter_append]
  simp [h]
def plcI (x w : Str) : List Int := (plc x w).map Int.ofNat
theorem plc_lt {x w : Str} {i : Nat} (h : i ∈ plc x w) : i ≤ x.length := Nat.le_of_lt_succ (List.mem_range.mp (List.mem_filter.mp h).1)
theorem plc_len (x w : Str) : (plc x w).length ≤ x.length + 1 := Nat.le_trans (List.length_filter_le _ _) (Nat.le_of_eq List.length_range)
theorem plc_showy {x w : Str} (h : x.length ≤ 10000) : Showy (.list ((plcI x w).map PyData.int)) 1 1100000 := by
  refine (Showy.list (k := 0) (n := 101) fun d hd => ?_).mono (Nat.le_refl _) ?_
  · obtain ⟨i, hi, rfl⟩ := List.mem_map.mp hd
    obtain ⟨n, hn, rfl⟩ := List.mem_map.mp hi
    have q := plc_lt hn
    refine Showy.int ?_
    show n < 10 ^ 100
    exact Nat.lt_of_le_of_lt (Nat.le_trans q h) (by decide +kernel)
  · rw [List.length_map]
    unfold plcI
    rw [List.length_map]
    have := plc_len x w
    omega
def spPlaces (K : PySem.W.Frag) : Sp := fun vs H Q _ => ∃ (x w : Str), vs = [.str x, .str w] ∧ x.length ≤ 10000 ∧ w.length ≤ 10000 ∧
  ∀ (a : Addr) (H' : Hp), H a = none → H' a = some (.lst ((plcI x w).map V.int)) → Same H H' → Q (.ref a) H'
/-- the slice of a text at a place -/
theorem cut_at (x w : Str) (k : Nat) (h : k + w.length ≤ x.length) : decide (V.str (cutS x (some (k : Int)) (some ((k : Int) + (w.length : Int)))) = V.str w) = atB x w k := by
  have e : cutS x (some (k : Int)) (some ((k : Int) + (w.length : Int))) = ⟨((x.cps.toList.drop k).take w.length).toArray⟩ := by
    unfold cutS
    rw [show (k : Int) + (w.length : Int) = ((k + w.length : Nat) : Int) by omega, HT.sIx_nat, HT.sIx_nat, Nat.min_eq_left h, Nat.min_eq_left (show k ≤ x.length by omega), show k + w.length - k = w.length by omega]
  rw [e]
  unfold atB
  rw [StrLaws.subAt_eq, decide_eq_true h, Bool.true_and, Bool.eq_iff_iff, decide_eq_true_eq, beq_iff_eq]
  constructor
  · intro q
    have q2 := V.str.inj q
    exact congrArg (fun z : Str => z.cps.toList) q2
  · intro q
    rw [q]
end Vk
set_option Elab.async false
set_option maxRecDepth 100000
set_option linter.all false
namespace Vk
open PySem PySem.Spec PyProof.Rows L2
/-! ## a text some times -/
theorem mulOk {x : Str} {n : Int} (h0 : 0 ≤ n) (h1 : n ≤ 1000000) (h : x.length * n.toNat ≤ 10000000) (hx : x.length ≤ 10000000) : MulOk x n := by
  refine ⟨?_, fun a _ c => ?_, fun _ _ => ?_⟩
  · rw [decide_eq_false (by omega), decide_eq_false (by omega)]
    rfl
  · have hn : 0 < n := by omega
    have q : (10000000 : Int) ≤ (2 ^ 63 - 1) / n := (Int.le_ediv_iff_mul_le hn).mpr (by omega)
    omega
  · unfold Builtin.Str.tooLong sizeLine
    exact decide_eq_false (by omega)
def CMulS (x : Str) (n : Int) : Prop := 0 ≤ n ∧ n ≤ 1000000 ∧ x.length * n.toNat ≤ 10000000 ∧ x.length ≤ 10000000
def rMulS : R2 := fun x y H Q => ∃ (z : Str) (n : Int), x = .str z ∧ y = .int n ∧ CMulS z n ∧ Q (.str (Txt.mul z n)) H
section
variable {X : Cx}
theorem op_mulS : OpR X (binaryOp .Mult) rMulS := by
  intro pins s σ H x y v u Q I rx ry h
  obtain ⟨z, n, rfl, rfl, ⟨h0, h1, h2, h3⟩, q⟩ := h
  obtain ⟨t, rfl⟩ := rx
  obtain ⟨t2, rfl⟩ := ry
  exact SB.mul (mulOk h0 h1 h2 h3) fun t' k => ⟨V.str _, H, I.tok k, ⟨t', rfl⟩, q⟩
end
theorem foldl_cat : ∀ (l : List (Array Nat)) (acc : Array Nat), (l.foldl (· ++ ·) acc).toList = acc.toList ++ (l.map Array.toList).flatten
  | [], acc => by simp
  | a :: r, acc => by
    rw [List.foldl_cons, foldl_cat r]
    simp
theorem mul_list (x : Str) (n : Int) (h : 0 ≤ n) : (Txt.mul x n).cps.toList = (List.replicate n.toNat x.cps.toList).flatten := by
  unfold Txt.mul
  split
  · rw [show n.toNat = 0 by omega]
    rfl
  · split
    · rename_i h1 h2
      rw [Bool.or_eq_true] at h2
      rcases h2 with h2 | h2
      · rw [show n = 1 from eq_of_beq h2]
        simp
      · have e : x.cps.toList = [] := List.eq_nil_of_length_eq_zero (Array.length_toList.trans (eq_of_beq h2))
        rw [e]
        simp
    · show ((List.replicate n.toNat x.cps).foldl (· ++ ·) #[]).toList = _
      rw [foldl_cat, List.map_replicate]
      rfl
theorem len_list (x : Str) : x.length = x.cps.toList.length := Array.length_toList.symm
theorem mul_len (x : Str) (n : Int) (h : 0 ≤ n) : (Txt.mul x n).length = n.toNat * x.length := by
  rw [len_list, mul_list x n h, len_list x]
  simp [List.length_flatten]
/-! ## a def called by keywords alone -/
structure CalK (P : Program) (w : World) (K : PySem.W.Frag) (mg : Str → Option Value) (base : Heap) (CX : CXT) (k : Nat) (x : Str) (sp : Sp) (ks : List Str) (g : {α : Type} → List α → List α) : Prop where
  ex : ∃ (f : Addr) (fd : FuncData) (ps : List Str), FnG P w K mg base CX k f fd ps sp ∧ mg x = some (.ref f) ∧ PySem.W.keepIn K (.ref f) = true ∧
    (∀ (s : Shared) (ws : List Value), K.In s.heap → ws.length = ks.length → BindsTo s fd ⟨[], ks.zip ws⟩ (ps.zip (g ws))) ∧ ∀ (vs : List V) (ws : List Value), Vals vs ws → vs.length = ks.length → Vals (g vs) (g ws)
def tCallW (n : Nat) (sp : Sp) (g : {α : Type} → List α → List α) (E : XK) (t : TA) : TE := fun σ H Q => t σ H fun vs H1 => vs.length = n ∧ sp (g vs) H1 Q E
section
variable {X : Cx} {CX : CXT} {j k : Nat} {sp : Sp} {E : XK} {x : Str} {p pos : Pos} {kws : List Keyword} {tk : TA} {ks : List Str} {g : {α : Type} → List α → List α}
theorem pe_kw (c : CalK X.prog X.w X.K X.mg X.base CX k x sp ks g) (hg : X.A.guards = some []) (hr : Room j X.A) (hk : k ≤ j) (hx : Passes CX X E) (hkw : PK X kws tk) (gl : Gl X x := by rfl)
    (hall : (backToKw pos (keywordEach kws X.env)).all (·.1.isSome) = true := by rfl) (hks : (backToKw pos (keywordEach kws X.env)).filterMap (·.1) = ks := by rfl) (hdb : (x == ("__debug__" : Str)) = false := by decide)
    (hpl : ((backTo pos (starEach [] X.env)).any (·.1) || (backToKw pos (keywordEach kws X.env)).any (·.1.isNone)) = false := by rfl) :
    PE X (.Call (.Name x p) [] kws pos) (tCallW ks.length sp g E tk) := by
  obtain ⟨f, fd, ps, F, hm, kp, hb, hv⟩ := c.ex
  refine ⟨fun pins s σ H Q I h => wpAny_Call_Name_kw (ld_glob I gl hm (PySem.W.callWith_KW0 (h₀ := X.base) I.ok.mod.kin kp hall (thn (hkw.run pos pins s σ H _ I h) fun ws s2 hh => ?_) hpl) hdb)⟩
  obtain ⟨vs, H2, I2, rz, l2, q2⟩ := hh
  refine ⟨I2.kIn, ?_⟩
  rw [hks]
  refine wpAny_call (codeAny_mono (F.run X.A X.stack s2 H2 ⟨[], ks.zip ws⟩ (g ws) (g vs) Q E hg (hr.mono hk) I2.env0 (hb s2 ws I2.kIn (rz.length.symm.trans l2)) (hv vs ws rz l2) q2) (fun res s3 hq => ?_))
  match res, hq with
  | .error e, hq => exact hx pins σ H2 s2 e s3 I2 hq
  | .ok (.ret u), hq => exact I2.after hq
  | .ok .next, hq => exact hq.elim
  | .ok .brk, hq => exact hq.elim
  | .ok .cont, hq => exact hq.elim
end
theorem vals_rev : ∀ {vs : List V} {ws : List Value}, Vals vs ws → Vals vs.reverse ws.reverse
  | _, _, .nil => .nil
  | _, _, .cons r t => by
    rw [List.reverse_cons, List.reverse_cons]
    exact (vals_rev t).append (.cons r .nil)
theorem ints_can (ns : List Int) : PyData.canLay0 (.list (ns.map PyData.int)) = true := ints_canLay ns
/-! ## a def of the text as the head leaves it -/
structure At (K : PySem.W.Frag) (x : Str) (st : Stmt) (f : Addr) (fd : FuncData) : Prop where
  ns : PySem.W.nsIn K mainGlobals x = some (some (.ref f))
  fn : Fun K x x st f fd
theorem at_mk {K : PySem.W.Frag} {x : Str} {st : Stmt} {f : Addr} {oc : Value} {od an : Option Addr} {sl : Array (Option Value)} {kV doc pm cd ct : Value} (a : PySem.W.nsIn K mainGlobals x = some (some (.ref f)))
    (l : K.lookup f = some ⟨oc, od, .func (PySem.W.fnOf x x (defArgs st) (defBody st) (defScope st) .none kV doc pm an cd ct), sl⟩) (c : PySem.W.codeIn K cd x = true) (k : PySem.W.keepIn K (.ref f) = true) :
    At K x st f (PySem.W.fnOf x x (defArgs st) (defBody st) (defScope st) .none kV doc pm an cd ct) := ⟨a, fun_mk l c k⟩
section
variable {K : PySem.W.Frag} {x y qual : Str} {st : Stmt} {f : Addr} {fd : FuncData} {ps ks : List Str} {g : List Value → List Value}
theorem _root_.L2.Fun.kwb (F : Fun K x qual st f fd)
    (h : ∀ (kV doc pm : Value) (an : Option Addr) (cdv ct : Value) (ws : List Value), ws.length = ks.length → bindArgs (PySem.W.fnOf x qual (defArgs st) (defBody st) (defScope st) .none kV doc pm an cdv ct) ⟨[], ks.zip ws⟩ = pure (ps.zip (g ws))) :
    ∀ (s : Shared) (ws : List Value), K.In s.heap → ws.length = ks.length → BindsTo s fd ⟨[], ks.zip ws⟩ (ps.zip (g ws)) := by
  obtain ⟨oc, od, kV, doc, pm, an, cdv, ct, osl, rfl, lk, hcd⟩ := F.ex
  exact fun s ws _ hl => .of_eq (h kV doc pm an cdv ct ws hl)
theorem _root_.L2.Fun.binds1 (F : Fun K x qual st f fd)
    (h : ∀ {kV doc pm : Value} {an : Option Addr} {cdv ct : Value} {v : Value}, bindArgs (PySem.W.fnOf x qual (defArgs st) (defBody st) (defScope st) .none kV doc pm an cdv ct) ⟨[v], []⟩ = pure [(y, v)]) :
    ∀ (s : Shared) (v : Value), BindsTo s fd ⟨[v], []⟩ [(y, v)] := by
  obtain ⟨oc, od, kV, doc, pm, an, cdv, ct, osl, rfl, lk, hcd⟩ := F.ex
  exact fun s v => .of_eq h
end
end Vk
set_option Elab.async false
set_option maxRecDepth 100000
set_option maxHeartbeats 4000000
set_option linter.all false
namespace Vk
open PySem PySem.Spec PyProof.Rows L2
/-! ## for i, c in enumerate(x), x a text -/
/-- the letters of x, each in a new pair -/
def Ites (x : Str) : It :=
  ⟨fun i H => i < x.cps.size, fun i H v H' => ∃ T c, v = .ref T ∧ H T = none ∧ H' = upd H T (.tup [.int (i : Nat), .str ⟨#[c]⟩]) ∧ x.cps[i]? = some c, fun i H => x.cps.size = i⟩
theorem turn_enumS {P : Program} {w : World} {K : PySem.W.Frag} {elts : List Expr} {kk : Nat} {tpos : Pos} (x : Str) (t : Tok) (e it : Addr) :
    Turn P w K (.Tuple elts kk tpos) (Ites x) [e, it] e (fun i h => (∃ old, IsEnum h e it ((i : Nat) : Int) old) ∧ h.IsStrIter it (strIterType x) x t i ∧ e ≠ it) where
  mem := by simp
  obj := fun i h st b hb => by
    obtain ⟨⟨old, he⟩, ⟨o, ho, hc, hd⟩, _⟩ := st
    rcases List.mem_cons.mp hb with z | z
    · exact z ▸ ⟨_, he, fun v q => nomatch q⟩
    · rw [List.mem_singleton] at z
      exact z ▸ ⟨o, ho, fun v q => by rw [hd] at q; cases q⟩
  keep := fun i h h' st k => by
    obtain ⟨⟨old, he⟩, ⟨o, ho, r⟩, rest⟩ := st
    exact ⟨⟨old, k e List.mem_cons_self _ he⟩, ⟨o, k it (List.mem_cons_of_mem _ List.mem_cons_self) o ho, r⟩, rest⟩
  item := by
    intro X hP hw hK hc i pins s σ H E I hf st hg
    subst hP hw hK
    obtain ⟨⟨old, he⟩, hit, hne⟩ := st
    have big1 : e < s.heap.objs.size := Heap.lt_size he
    have big2 : it < s.heap.objs.size := by obtain ⟨_, q, _⟩ := hit; exact Heap.lt_size q
    refine wpAny_pyNext_enum_itemD (Draws.text (A := X.A.in1) (I.ok.hd hc) it x t) he hit hg hne (by simp [hne]) fun u2 h2 tk hu2 ho st2 hT hsz hk => ?_
    obtain ⟨c, u, hcx, rfl⟩ := hu2
    refine ⟨_, rfl, wpAny_letOwnedTupleGo_enum (s := { s with heap := h2, toks := tk + 1 }) ho fun h3 he3 sb => ?_⟩
    have hT3 : h3.get? s.heap.objs.size = some { cls := .type "tuple", data := .seq #[.int i tk, .str ⟨#[c]⟩ u] } := (sb.2 _ (Nat.ne_of_gt big1)).trans hT
    have laid : ObjOk X.prog X.w (upd H s.heap.objs.size (.tup [.int (i : Nat), .str ⟨#[c]⟩])) h3 s.heap.objs.size (.tup [.int (i : Nat), .str ⟨#[c]⟩]) := ⟨(by show 2 ≤ sizeLine; decide), [.int i tk, .str ⟨#[c]⟩ u], .cons ⟨_, rfl⟩ (.cons ⟨_, rfl⟩ .nil), ⟨_, hT3, rfl, _, rfl⟩⟩
    have I1 : Inv X pins σ (upd H s.heap.objs.size (.tup [.int (i : Nat), .str ⟨#[c]⟩])) { s with heap := h3, toks := tk + 1 } :=
      I.turnedNew (ch := [e, it]) (fun b ob hb q => (sb.2 b (fun z => hb (by simp [z]))).trans (hk b ob (fun z => hb (by simp [z])) (fun z => hb (by simp [z])) q)) hf (Nat.le_refl _) laid
    refine ⟨.ref s.heap.objs.size, _, I1, rfl, ⟨_, c, rfl, I.hok.fresh (Nat.le_refl _), rfl, hcx⟩, ⟨⟨.str ⟨#[c]⟩ u, ?_⟩, ?_, hne⟩, fun b hb => ?_⟩
    · rw [show ((i + 1 : Nat) : Int) = (i : Int) + 1 by omega]
      exact he3
    · obtain ⟨o2, q2, r2⟩ := st2
      exact ⟨o2, (sb.2 it (Ne.symm hne)).trans q2, r2⟩
    · have old1 : b < s.heap.objs.size := by
        rcases List.mem_cons.mp hb with z | z
        · exact z ▸ big1
        · rw [List.mem_singleton] at z
          exact z ▸ big2
      exact (upd_ne (Nat.ne_of_lt old1)).trans (hf b hb).1
  done := by
    intro X hP hw hK hc i pins s σ H E I hf st hg
    subst hP hw hK
    obtain ⟨⟨old, he⟩, hit, hne⟩ := st
    obtain ⟨f0, f1, f2, f3, f4, f5⟩ := hf it (List.mem_cons_of_mem _ List.mem_cons_self)
    have le : i = x.cps.size := hg.symm
    exact wpAny_pyNext_enum_endD (Draws.text (A := X.A.in1) (I.ok.hd hc) it x t) he (le ▸ hit) fun h' eb => ⟨rfl, I.turned (t' := s.toks) (fun b o hb q => eb b o hb q) f0 f1 f3 f4 f5⟩
  self := fun A i s Q E st h => let ⟨⟨_, he⟩, _⟩ := st; wpAny_pyIter_enum he h
def iEnumS (ta : TA) : TI := fun σ H R => ta σ H fun vs H1 => ∃ x, vs = [.str x] ∧ R (Ites x) H1
theorem pi_enumS {X : Cx} {e : Expr} {ta : TA} {p pos tpos : Pos} {elts : List Expr} {kk : Nat} (gl : Gl X "enumerate") (hm : X.mg "enumerate" = none) (ha : PA X [e] ta) (hs : starEach [e] X.env = [(false, eval e X.env)] := by rfl) :
    PI X (.Tuple elts kk tpos) (.Call (.Name "enumerate" p) [e] [] pos) (iEnumS ta) := by
  refine ⟨fun pins s σ H R I h => Call_ (ld_blt I gl hm boot_enumerate (PyProof.Rows.callWith_type1 (thn (ha.run pos pins s σ H _ I h) fun us s1 hh => ?_) hs rfl))⟩
  obtain ⟨vs, H1, I1, r1, x, rfl, q⟩ := hh
  obtain ⟨u, rfl, ru⟩ := r1.one
  obtain ⟨t, rfl⟩ := ru
  refine call_enumerate_str fun h2 he hit _ hk => wpAny_pyIter_enum he ?_
  have I2 : Inv X pins σ H1 { s1 with heap := h2 } := I1.kept (t' := s1.toks) hk
  refine ⟨s1.heap.objs.size + 1, [s1.heap.objs.size + 1, s1.heap.objs.size], _, _, H1, rfl, I2, turn_enumS x t (s1.heap.objs.size + 1) s1.heap.objs.size, ⟨⟨.none, he⟩, hit, Nat.succ_ne_self _⟩, fun b hb => ?_, q⟩
  have le : s1.heap.objs.size ≤ b := by
    rcases List.mem_cons.mp hb with z | z
    · rw [z]; exact Nat.le_succ _
    · rw [List.mem_singleton.mp z]; exact Nat.le_refl _
  exact I1.fpOk le (I1.hok.fresh le)
/-! ## loops over these -/
theorem for_enumS {x : Str} {g : TG} {tb : TS} {D : Ends} {σ : L2.St} {H : Hp} (Pv : Nat → L2.St → Hp → Prop) (h0 : Pv 0 σ H)
    (hs : ∀ i c σ H T, x.cps[i]? = some c → H T = none → Pv i σ H → g (.ref T) σ (upd H T (.tup [.int (i : Nat), .str ⟨#[c]⟩])) fun σ2 H2 => tb { D with nx := Pv (i + 1), ct := Pv (i + 1), bk := D.nx } σ2 H2) (hd : ∀ σ H, Pv x.cps.size σ H → D.nx σ H) :
    ∃ W : Nat → Nat → L2.St → Hp → Prop, (∃ m, W 0 m σ H) ∧ ∀ i m σ H, W i m σ H →
      ((Ites x).stop i H ∧ D.nx σ H) ∨ ((Ites x).go i H ∧ ∃ N : L2.St → Hp → Prop, (∀ σ' H', N σ' H' → ∃ m', m' < m ∧ W (i + 1) m' σ' H') ∧ ∀ x1 H', (Ites x).yld i H x1 H' → g x1 σ H' fun σ2 H2 => tb { D with nx := N, ct := N, bk := D.nx } σ2 H2) := by
  refine ⟨fun i m σ H => m = x.cps.size - i ∧ i ≤ x.cps.size ∧ Pv i σ H, ⟨x.cps.size, by simp, Nat.zero_le _, h0⟩, ?_⟩
  rintro i m σ H ⟨rfl, hi, p⟩
  by_cases hlt : i < x.cps.size
  · refine .inr ⟨hlt, Pv (i + 1), fun σ' H' p' => ⟨x.cps.size - (i + 1), by omega, rfl, hlt, p'⟩, ?_⟩
    rintro x1 H' ⟨T, c, rfl, hT, rfl, hc⟩
    exact hs i c σ H T hc hT p
  · have e : i = x.cps.size := by omega
    subst e
    exact .inl ⟨rfl, hd σ H p⟩
theorem for_enumL {K : PySem.W.Frag} {a : Addr} {xs : List V} {g : TG} {tb : TS} {D : Ends} {σ : L2.St} {H : Hp} (Pv : Nat → L2.St → Hp → Prop) (h0 : Pv 0 σ H) (hl : ∀ i σ H, i ≤ xs.length → Pv i σ H → SqL K H a xs)
    (hs : ∀ i v σ H T, xs[i]? = some v → H T = none → Pv i σ H → g (.ref T) σ (upd H T (.tup [.int (i : Nat), v])) fun σ2 H2 => tb { D with nx := Pv (i + 1), ct := Pv (i + 1), bk := D.nx } σ2 H2) (hd : ∀ σ H, Pv xs.length σ H → D.nx σ H) :
    ∃ W : Nat → Nat → L2.St → Hp → Prop, (∃ m, W 0 m σ H) ∧ ∀ i m σ H, W i m σ H →
      ((Ite K a).stop i H ∧ D.nx σ H) ∨ ((Ite K a).go i H ∧ ∃ N : L2.St → Hp → Prop, (∀ σ' H', N σ' H' → ∃ m', m' < m ∧ W (i + 1) m' σ' H') ∧ ∀ x1 H', (Ite K a).yld i H x1 H' → g x1 σ H' fun σ2 H2 => tb { D with nx := N, ct := N, bk := D.nx } σ2 H2) := by
  refine ⟨fun i m σ H => m = xs.length - i ∧ i ≤ xs.length ∧ Pv i σ H, ⟨xs.length, by simp, Nat.zero_le _, h0⟩, ?_⟩
  rintro i m σ H ⟨rfl, hi, p⟩
  have q := hl i σ H hi p
  by_cases hlt : i < xs.length
  · refine .inr ⟨⟨xs, xs[i], q, by simp [hlt]⟩, Pv (i + 1), fun σ' H' p' => ⟨xs.length - (i + 1), by omega, rfl, hlt, p'⟩, ?_⟩
    rintro x1 H' ⟨T, v, rfl, hT, rfl, hv⟩
    exact hs i v σ H T (hv xs q) hT p
  · have e : i = xs.length := by omega
    subst e
    exact .inl ⟨⟨xs, q, Nat.le_refl _⟩, hd σ H p⟩
theorem for_str {x : Str} {g : TG} {tb : TS} {D : Ends} {σ : L2.St} {H : Hp} (Pv : Nat → L2.St → Hp → Prop) (h0 : Pv 0 σ H)
    (hs : ∀ i c σ H, x.cps[i]? = some c → Pv i σ H → g (.str ⟨#[c]⟩) σ H fun σ2 H2 => tb { D with nx := Pv (i + 1), ct := Pv (i + 1), bk := D.nx } σ2 H2) (hd : ∀ σ H, Pv x.cps.size σ H → D.nx σ H) :
    ∃ W : Nat → Nat → L2.St → Hp → Prop, (∃ m, W 0 m σ H) ∧ ∀ i m σ H, W i m σ H →
      ((Its x).stop i H ∧ D.nx σ H) ∨ ((Its x).go i H ∧ ∃ N : L2.St → Hp → Prop, (∀ σ' H', N σ' H' → ∃ m', m' < m ∧ W (i + 1) m' σ' H') ∧ ∀ x1 H', (Its x).yld i H x1 H' → g x1 σ H' fun σ2 H2 => tb { D with nx := N, ct := N, bk := D.nx } σ2 H2) := by
  refine ⟨fun i m σ H => m = x.cps.size - i ∧ i ≤ x.cps.size ∧ Pv i σ H, ⟨x.cps.size, by simp, Nat.zero_le _, h0⟩, ?_⟩
  rintro i m σ H ⟨rfl, hi, p⟩
  by_cases hlt : i < x.cps.size
  · refine .inr ⟨hlt, Pv (i + 1), fun σ' H' p' => ⟨x.cps.size - (i + 1), by omega, rfl, hlt, p'⟩, ?_⟩
    rintro x1 H' ⟨rfl, c, hc, rfl⟩
    exact hs i c σ H' hc p
  · have e : i = x.cps.size := by omega
    subst e
    exact .inl ⟨Nat.le_refl _, hd σ H p⟩
end Vk
set_option Elab.async false
set_option maxRecDepth 100000
set_option linter.all false
namespace Vk
open PySem PySem.Spec PyProof.Rows L2
/-! ## lists whose items stand for items of another list -/
theorem paired_len {α β : Type} {R : α → β → Prop} : ∀ {xs : List α} {ys : List β}, Paired R xs ys → xs.length = ys.length
  | _, _, .nil => rfl
  | _, _, .cons _ t => congrArg (· + 1) (paired_len t)
theorem paired_at {α β : Type} {R : α → β → Prop} : ∀ {xs : List α} {ys : List β} {i : Nat} {x : α}, Paired R xs ys → xs[i]? = some x → ∃ y, ys[i]? = some y ∧ R x y
  | _, _, 0, _, .cons a t, h => by cases h; exact ⟨_, rfl, a⟩
  | _, _, i + 1, _, .cons a t, h => paired_at (i := i) t h
theorem drop_at {α : Type} : ∀ {l : List α} {i : Nat} {x : α}, l[i]? = some x → l.drop i = x :: l.drop (i + 1)
  | a :: l, 0, x, h => by cases h; rfl
  | a :: l, i + 1, x, h => by simpa using drop_at (l := l) (i := i) (x := x) (by simpa using h)
theorem paired_perm {α β : Type} {R : α → β → Prop} {xs ys : List α} (p : ys.Perm xs) : ∀ {rs : List β}, Paired R xs rs → ∃ ls, ls.Perm rs ∧ Paired R ys ls := by
  induction p with
  | nil => exact fun h => ⟨_, .refl _, h⟩
  | cons x p ih =>
    intro rs h
    cases h with
    | cons a t =>
      obtain ⟨ls, q, r⟩ := ih t
      exact ⟨_, q.cons _, .cons a r⟩
  | swap x y l =>
    intro rs h
    cases h with
    | cons a t =>
      cases t with
      | cons b t => exact ⟨_, .swap _ _ _, .cons b (.cons a t)⟩
  | trans p1 p2 ih1 ih2 =>
    intro rs h
    obtain ⟨ls, q, r⟩ := ih2 h
    obtain ⟨ms, q2, r2⟩ := ih1 r
    exact ⟨ms, q2.trans q, r2⟩
theorem paired_app {α β : Type} {R : α → β → Prop} : ∀ {xs : List α} {ys : List β} {us : List α} {vs : List β}, Paired R xs ys → Paired R us vs → Paired R (xs ++ us) (ys ++ vs)
  | _, _, _, _, .nil, b => b
  | _, _, _, _, .cons a t, b => .cons a (paired_app t b)
theorem pg_tupK {X : Cx} {K : PySem.W.Frag} {es : List Expr} {k : Nat} {t : TGs} {n : Nat} {pos : Pos} (hK : X.K = K) (hc : X.calm = true) (h : PGs X es t)
    (hn : (assignEach es X.env).length = n := by rfl) (hst : (assignEach es X.env).findIdx? (·.1) = none := by rfl) : PG X (.Tuple es k pos) (gTup K n t) := hK ▸ pg_tup hc h hn hst
def tTruK (K : PySem.W.Frag) (ta : TE) : TT := fun σ H Q => ta σ H fun x H' => ∃ k, TruV K x H' k ∧ Q k H'
theorem pt_truthK {X : Cx} {K : PySem.W.Frag} {a : Expr} {ta : TE} (hK : X.K = K) (ha : PE X a ta) (he : ∀ whole, isTrue a X.env whole = (do let v ← whole; standAt a.pos; holding [v] (truthy v)) := by intro _; rfl) :
    PT X a (tTruK K ta) := hK ▸ pt_truth ha he
end Vk
set_option Elab.async false
set_option maxRecDepth 100000
set_option maxHeartbeats 4000000
set_option linter.all false
namespace Vk
open PySem PySem.Spec PyProof.Rows L2
/-! ## zip of two texts -/
def hS (h : Heap) (x : Str) (t : Tok) : Heap := h.push { cls := .type (strIterType x), data := .fields #[.str x t, .int 0 0] }
def hS2 (h : Heap) (x y : Str) (t u : Tok) : Heap := hS (hS h x t) y u
def hS3 (h : Heap) (x y : Str) (t u : Tok) : Heap := (hS2 h x y t u).push { cls := .type "tuple", data := .seq #[.ref h.objs.size, .ref (hS h x t).objs.size] }
def hS4 (h : Heap) (x y : Str) (t u : Tok) : Heap := (hS3 h x y t u).push { cls := .type "tuple", data := .seq #[.none, .none] }
def hS5 (h : Heap) (x y : Str) (t u : Tok) : Heap :=
  (hS4 h x y t u).push { cls := .type "zip", data := .fields #[.none, .bool false, .bool false, .ref (hS2 h x y t u).objs.size, .ref (hS3 h x y t u).objs.size] }
theorem zipS_meets (x y : Str) (t u : Tok) : Meets (Builtin.«zip.__new__» ⟨[.type "zip", .str x t, .str y u], []⟩)
    (fun _ R s => R (.ok (.ret (.ref (hS4 s.heap x y t u).objs.size))) { s with heap := hS5 s.heap x y t u }) :=
  .of_wp fun prog w A R s h => by
    obtain ⟨hp, g, d, tk, os⟩ := s
    have isZip := sub_zip
    wp_walk using wpAny_pyIter_strU
    exact ⟨_, rfl, h⟩
theorem call_zipS {prog : Program} {w : World} {A : Around} {E : Value → Shared → Prop} {s : Shared} {x y : Str} {t u : Tok} {Q : Value → Shared → Prop}
    (h : ∀ h', IsZip h' (s.heap.objs.size + 4) (s.heap.objs.size + 2) (s.heap.objs.size + 3) .none → IsPair h' (s.heap.objs.size + 2) (.ref s.heap.objs.size) (.ref (s.heap.objs.size + 1)) →
      IsPair h' (s.heap.objs.size + 3) .none .none → h'.IsStrIter s.heap.objs.size (strIterType x) x t 0 → h'.IsStrIter (s.heap.objs.size + 1) (strIterType y) y u 0 →
      (∀ c o, s.heap.get? c = some o → h'.get? c = some o) → Q (.ref (s.heap.objs.size + 4)) { s with heap := h' }) :
    wpAny (model prog w) A (call (.type "zip") [.str x t, .str y u]) Q E s := by
  refine callType_new F.called_zip (by decide)
    (F.typeCall_zip_2 _ _) (F.newCall_zip_2 _ _)
    (fun o => F.args_object_init_3 o _ _) F.entry_zip_new (zipS_meets x y t u) ?_
  have e1 : (hS s.heap x t).objs.size = s.heap.objs.size + 1 := Heap.size_push ..
  have e2 : (hS2 s.heap x y t u).objs.size = s.heap.objs.size + 2 := by rw [hS2, hS, Heap.size_push, e1]
  have e3 : (hS3 s.heap x y t u).objs.size = s.heap.objs.size + 3 := by rw [hS3, Heap.size_push, e2]
  have e4 : (hS4 s.heap x y t u).objs.size = s.heap.objs.size + 4 := by rw [hS4, Heap.size_push, e3]
  have a5 : (hS5 s.heap x y t u).get? (hS4 s.heap x y t u).objs.size = some _ := Heap.get?_push_size _ rfl
  have a4 : (hS5 s.heap x y t u).get? (hS3 s.heap x y t u).objs.size = some _ := Heap.get?_push_of_some _ (Heap.get?_push_size _ rfl)
  have a3 : (hS5 s.heap x y t u).get? (hS2 s.heap x y t u).objs.size = some _ := Heap.get?_push_of_some _ (Heap.get?_push_of_some _ (Heap.get?_push_size _ rfl))
  have a2 : (hS5 s.heap x y t u).get? (hS s.heap x t).objs.size = some _ := Heap.get?_push_of_some _ (Heap.get?_push_of_some _ (Heap.get?_push_of_some _ (Heap.get?_push_size _ rfl)))
  have up : ∀ c o, s.heap.get? c = some o → (hS5 s.heap x y t u).get? c = some o := fun c o z =>
    Heap.get?_push_of_some _ (Heap.get?_push_of_some _ (Heap.get?_push_of_some _ (Heap.get?_push_of_some _ (Heap.get?_push_of_some _ z))))
  have a1 : (hS5 s.heap x y t u).get? s.heap.objs.size = some _ := Heap.get?_push_of_some _ (Heap.get?_push_of_some _ (Heap.get?_push_of_some _ (Heap.get?_push_of_some _ (Heap.get?_push_size _ rfl))))
  show _ ∧ _
  rw [e2, e3, e4] at a5
  rw [e1, e2] at a3
  rw [e3] at a4
  rw [e1] at a2
  rw [e4]
  exact ⟨⟨_, a5, rfl⟩, h _ a5 a3 a4 ⟨_, a1, rfl, rfl⟩ ⟨_, a2, rfl, rfl⟩ up⟩
/-- two texts, letter beside letter, each in a new pair -/
def Itzs (x y : Str) : It :=
  ⟨fun i _ => i < x.cps.size ∧ i < y.cps.size, fun i H v H' => ∃ T c d, v = .ref T ∧ H T = none ∧ H' = upd H T (.tup [.str ⟨#[c]⟩, .str ⟨#[d]⟩]) ∧ x.cps[i]? = some c ∧ y.cps[i]? = some d,
    fun i _ => x.cps.size = i ∨ y.cps.size = i⟩
theorem turn_zipS {P : Program} {w : World} {K : PySem.W.Frag} {elts : List Expr} {kk : Nat} {tpos : Pos} (x y : Str) (t u : Tok) {z TI TO i1 i2 : Addr} (S : ZipSep2 z TI TO i1 i2 [i1] [i2]) :
    Turn P w K (.Tuple elts kk tpos) (Itzs x y) [z, TI, TO, i1, i2] z (fun i h => IsZip h z TI TO .none ∧ IsPair h TI (.ref i1) (.ref i2) ∧ (∃ a b, IsPair h TO a b) ∧ h.IsStrIter i1 (strIterType x) x t i ∧ h.IsStrIter i2 (strIterType y) y u i ∧ i ≤ x.cps.size ∧ i ≤ y.cps.size) where
  mem := by simp
  obj := fun i h st c hc => by
    obtain ⟨hz, hTI, ⟨a, b, hTO⟩, ⟨o1, e1, _, d1⟩, ⟨o2, e2, _, d2⟩, _⟩ := st
    simp only [List.mem_cons, List.not_mem_nil, or_false] at hc
    rcases hc with rfl | rfl | rfl | rfl | rfl
    · exact ⟨_, hz, fun v q => nomatch q⟩
    · exact ⟨_, hTI, fun v q => nomatch q⟩
    · exact ⟨_, hTO, fun v q => nomatch q⟩
    · exact ⟨o1, e1, fun v q => by rw [d1] at q; cases q⟩
    · exact ⟨o2, e2, fun v q => by rw [d2] at q; cases q⟩
  keep := fun i h h' st k => by
    obtain ⟨hz, hTI, ⟨a, b, hTO⟩, ⟨o1, e1, r1⟩, ⟨o2, e2, r2⟩, le⟩ := st
    exact ⟨k z (by simp) _ hz, k TI (by simp) _ hTI, ⟨a, b, k TO (by simp) _ hTO⟩, ⟨o1, k i1 (by simp) o1 e1, r1⟩, ⟨o2, k i2 (by simp) o2 e2, r2⟩, le⟩
  item := by
    intro X hP hw hK hc i pins s σ H E I hf st hg
    subst hP hw hK
    obtain ⟨hz, hTI, ⟨a, b, hTO⟩, h1, h2, le1, le2⟩ := st
    obtain ⟨lt1, lt2⟩ := hg
    have big : ∀ c, c ∈ [z, TI, TO, i1, i2] → c < s.heap.objs.size := fun c hcm => by
      simp only [List.mem_cons, List.not_mem_nil, or_false] at hcm
      rcases hcm with rfl | rfl | rfl | rfl | rfl
      · exact Heap.lt_size hz
      · exact Heap.lt_size hTI
      · exact Heap.lt_size hTO
      · obtain ⟨_, e, _⟩ := h1; exact Heap.lt_size e
      · obtain ⟨_, e, _⟩ := h2; exact Heap.lt_size e
    refine wpAny_pyNext_zipD2_item S (Draws.text (A := X.A.in1) (I.ok.hd hc) i1 x t) (Draws.text (A := X.A.in1) (I.ok.hd hc) i2 y u) hz hTI hTO h1 h2 lt1 lt2 fun v1 v2 h' tk p1 p2 z' TO' st1 st2 hT hsz hk => ?_
    obtain ⟨c, tc, hcx, rfl⟩ := p1
    obtain ⟨d, td, hdy, rfl⟩ := p2
    have zb := big z (by simp)
    refine ⟨_, rfl, wpAny_letOwnedTupleGo_zip (s := { s with heap := h', toks := tk }) z' fun h'' z'' sb => ?_⟩
    have hT2 : h''.get? s.heap.objs.size = some { cls := .type "tuple", data := .seq #[.str ⟨#[c]⟩ tc, .str ⟨#[d]⟩ td] } := (sb.2 _ (Nat.ne_of_gt zb)).trans hT
    have laid : ObjOk X.prog X.w (upd H s.heap.objs.size (.tup [.str ⟨#[c]⟩, .str ⟨#[d]⟩])) h'' s.heap.objs.size (.tup [.str ⟨#[c]⟩, .str ⟨#[d]⟩]) :=
      ⟨(by show 2 ≤ sizeLine; decide), [.str ⟨#[c]⟩ tc, .str ⟨#[d]⟩ td], .cons ⟨_, rfl⟩ (.cons ⟨_, rfl⟩ .nil), ⟨_, hT2, rfl, _, rfl⟩⟩
    have I1 : Inv X pins σ (upd H s.heap.objs.size (.tup [.str ⟨#[c]⟩, .str ⟨#[d]⟩])) { s with heap := h'', toks := tk } :=
      I.turnedNew (ch := [z, TI, TO, i1, i2]) (fun b o hb q => (sb.2 b (fun q' => hb (by simp [q']))).trans
        (hk b o (fun q' => hb (by simp [q'])) (fun q' => hb (by simp [q'])) (fun q' => hb (by simp [q'])) (fun q' => hb (by simp [q'])) q)) hf (Nat.le_refl _) laid
    obtain ⟨q1, f1, r1⟩ := st1
    obtain ⟨q2, f2, r2⟩ := st2
    refine ⟨.ref s.heap.objs.size, _, I1, rfl, ⟨_, c, d, rfl, I.hok.fresh (Nat.le_refl _), rfl, hcx, hdy⟩, ⟨z'', ?_, ⟨.str ⟨#[c]⟩ tc, .str ⟨#[d]⟩ td, (sb.2 _ S.TOz).trans TO'⟩, ⟨q1, ?_, r1⟩, ⟨q2, ?_, r2⟩, by omega, by omega⟩, fun b hb => ?_⟩
    · exact (sb.2 _ S.TIz).trans (hk _ _ S.TIz S.TITO S.TIi1 S.TIi2 hTI)
    · exact (sb.2 _ (fun e => S.zi1 e.symm)).trans f1
    · exact (sb.2 _ (fun e => S.zi2 e.symm)).trans f2
    · exact (upd_ne (Nat.ne_of_lt (big b hb))).trans (hf b hb).1
  done := by
    intro X hP hw hK hc i pins s σ H E I hf st hg
    subst hP hw hK
    obtain ⟨hz, hTI, ⟨a, b, hTO⟩, h1, h2, le1, le2⟩ := st
    refine wpAny_pyNext_zipD2_end S (Draws.text (A := X.A.in1) (I.ok.hd hc) i1 x t) (Draws.text (A := X.A.in1) (I.ok.hd hc) i2 y u) hz hTI hTO h1 h2 le1 le2 ?_ fun h' tk hk => ⟨rfl, I.turnedL (t' := tk) (ch := [z, TI, TO, i1, i2]) (fun b o hb q =>
      hk b o (fun q' => hb (by simp [q'])) (fun q' => hb (by simp [q'])) (fun q' => hb (by simp [q'])) (fun q' => hb (by simp [q'])) q) hf⟩
    rcases hg with e | e
    · exact .inl e.symm
    · exact .inr e.symm
  self := fun A i s Q E st h => wpAny_pyIter_zip st.1 h
def iZipS (ta : TA) : TI := fun σ H R => ta σ H fun vs H1 => ∃ x y, vs = [.str x, .str y] ∧ R (Itzs x y) H1
theorem pi_zipS {X : Cx} {e e2 : Expr} {ta : TA} {p pos tpos : Pos} {elts : List Expr} {kk : Nat} (gl : Gl X "zip") (hm : X.mg "zip" = none) (ha : PA X [e, e2] ta)
    (hs : starEach [e, e2] X.env = (false, eval e X.env) :: starEach [e2] X.env := by rfl) (hpl : (backTo pos (starEach [e2] X.env)).any (·.1) = false := by rfl) :
    PI X (.Tuple elts kk tpos) (.Call (.Name "zip" p) [e, e2] [] pos) (iZipS ta) := by
  refine ⟨fun pins s σ H R I h => Call_ (ld_blt I gl hm boot_zip (callWith_type1 (thn (ha.run pos pins s σ H _ I h) fun us s1 hh => ?_) hs hpl))⟩
  obtain ⟨vs, H1, I1, r1, x, y, rfl, q⟩ := hh
  obtain ⟨u1, u2, rfl, ⟨t, rfl⟩, ⟨u, rfl⟩⟩ := vals2 r1
  refine call_zipS fun h' hz hTI hTO h1 h2 hk => wpAny_pyIter_zip hz ?_
  have I2 : Inv X pins σ H1 { s1 with heap := h' } := I1.kept (t' := s1.toks) hk
  have S : ZipSep2 (s1.heap.objs.size + 4) (s1.heap.objs.size + 2) (s1.heap.objs.size + 3) s1.heap.objs.size (s1.heap.objs.size + 1) [s1.heap.objs.size] [s1.heap.objs.size + 1] := by
    constructor <;> simp
  refine ⟨s1.heap.objs.size + 4, [s1.heap.objs.size + 4, s1.heap.objs.size + 2, s1.heap.objs.size + 3, s1.heap.objs.size, s1.heap.objs.size + 1], _, _, H1, rfl, I2, turn_zipS x y t u S, ⟨hz, hTI, ⟨_, _, hTO⟩, h1, h2, Nat.zero_le _, Nat.zero_le _⟩, fun b hb => ?_, q⟩
  have le : s1.heap.objs.size ≤ b := by
    have hb2 : b = s1.heap.objs.size + 4 ∨ b = s1.heap.objs.size + 2 ∨ b = s1.heap.objs.size + 3 ∨ b = s1.heap.objs.size ∨ b = s1.heap.objs.size + 1 := by simpa using hb
    rcases hb2 with e | e | e | e | e
    · exact e ▸ Nat.le_add_right _ _
    · exact e ▸ Nat.le_add_right _ _
    · exact e ▸ Nat.le_add_right _ _
    · exact e ▸ Nat.le_refl _
    · exact e ▸ Nat.le_add_right _ _
  exact I1.fpOk le (I1.hok.fresh le)
/-- a loop over two texts; it may end early -/
theorem for_zipS {x y : Str} {g : TG} {tb : TS} {D : Ends} {σ : L2.St} {H : Hp} (Pv : Nat → L2.St → Hp → Prop) (h0 : Pv 0 σ H)
    (hs : ∀ i c d σ H T, x.cps[i]? = some c → y.cps[i]? = some d → H T = none → Pv i σ H → g (.ref T) σ (upd H T (.tup [.str ⟨#[c]⟩, .str ⟨#[d]⟩])) fun σ2 H2 => tb { D with nx := Pv (i + 1), ct := Pv (i + 1), bk := D.nx } σ2 H2)
    (hd : ∀ i σ H, (x.cps.size = i ∨ y.cps.size = i) → i ≤ x.cps.size → i ≤ y.cps.size → Pv i σ H → D.nx σ H) :
    ∃ W : Nat → Nat → L2.St → Hp → Prop, (∃ m, W 0 m σ H) ∧ ∀ i m σ H, W i m σ H →
      ((Itzs x y).stop i H ∧ D.nx σ H) ∨ ((Itzs x y).go i H ∧ ∃ N : L2.St → Hp → Prop, (∀ σ' H', N σ' H' → ∃ m', m' < m ∧ W (i + 1) m' σ' H') ∧ ∀ x1 H', (Itzs x y).yld i H x1 H' → g x1 σ H' fun σ2 H2 => tb { D with nx := N, ct := N, bk := D.nx } σ2 H2) := by
  refine ⟨fun i m σ H => m = x.cps.size - i ∧ i ≤ x.cps.size ∧ i ≤ y.cps.size ∧ Pv i σ H, ⟨x.cps.size, by simp, Nat.zero_le _, Nat.zero_le _, h0⟩, ?_⟩
  rintro i m σ H ⟨rfl, hi, hj, p⟩
  by_cases h : x.cps.size = i ∨ y.cps.size = i
  · exact .inl ⟨h, hd i σ H h hi hj p⟩
  · have l1 : i < x.cps.size := by omega
    have l2 : i < y.cps.size := by omega
    refine .inr ⟨⟨l1, l2⟩, Pv (i + 1), fun σ' H' p' => ⟨x.cps.size - (i + 1), by omega, rfl, l1, l2, p'⟩, ?_⟩
    rintro x1 H' ⟨T, c, d, rfl, hT, rfl, hc, hd2⟩
    exact hs i c d σ H T hc hd2 hT p
end Vk
set_option Elab.async false
set_option maxRecDepth 100000
set_option maxHeartbeats 4000000
set_option linter.all false
namespace PySem
namespace VkX
open PySem.W PySem.Calls PyProof.Rows Builtin Builtin.ObjectAttr PySem.HandSPX
/-! ## own exception classes straight below one of the four -/
structure ExB (B newId initId : String) (tl : List Value) : Prop where
  F : ExcBaseFacts B newId initId tl
  pass : ∀ self : Value, refuseLoop self "__setattr__" tl = pure ()
  obj : tl.contains (.type "object") = true
  refs : tl.all (fun v => match v with | .type _ => true | _ => false) = true
theorem exB_value : ExB "ValueError" "ValueError.__new__" "ValueError.__init__" [.type "ValueError", .type "Exception", .type "BaseException", .type "object"] := ⟨F.excBase_ValueError, fun _ => by kernel_rfl, by decide +kernel, rfl⟩
theorem exB_lookup : ExB "LookupError" "LookupError.__new__" "LookupError.__init__" [.type "LookupError", .type "Exception", .type "BaseException", .type "object"] := ⟨F.excBase_LookupError, fun _ => by kernel_rfl, by decide +kernel, rfl⟩
theorem exB_overflow : ExB "OverflowError" "OverflowError.__new__" "OverflowError.__init__" [.type "OverflowError", .type "ArithmeticError", .type "Exception", .type "BaseException", .type "object"] := ⟨F.excBase_OverflowError, fun _ => by kernel_rfl, by decide +kernel, rfl⟩
theorem exB_runtime : ExB "RuntimeError" "RuntimeError.__new__" "RuntimeError.__init__" [.type "RuntimeError", .type "Exception", .type "BaseException", .type "object"] := ⟨F.excBase_RuntimeError, fun _ => by kernel_rfl, by decide +kernel, rfl⟩
section
variable {M : Model} {A : Around} {E : Value → Shared → Prop} {h : Heap} {g : Array GenState} {d : Drawn} {t : Nat} {os : OsState}
variable {nm q : Str} {C N : Addr} {bs bm : List Value} {hdct : Bool} {sn : List Str} {sub : List Value} {ab : Bool} {col : Option Bool} {dd : Option Addr} {k0 k1 k2 k3 k5 : Option Value} {B newId initId : String}
theorem check_newK (F : ExcBaseFacts B newId initId bm) {rest : List Value} {kw : List (Str × Value)} {Q : Unit → Shared → Prop} (hC : h.get? C = some (excClassObj nm q C N bs bm hdct sn sub ab col dd k0 k1 k2 k3 k5 newId))
    (hq : Q () ⟨h, g, d, t, os⟩) : wpAny M A (checkBuiltinCall newId ⟨.ref C :: rest, kw⟩) Q E ⟨h, g, d, t, os⟩ := by
  have inB : (Value.ref C :: bm).contains (.type B) = true := by rw [List.contains_cons, F.hasB, Bool.or_true]
  have star := F.noStar
  simp only [checkBuiltinCall, F.newKind, F.newSplit, F.newRow]
  repeat (first | refine wpAny_loadPart_at hC ?_ | (refine wpAny_isSubtype_exc hC ?_; rw [inB]) | refine wpAny_staticBase_exc hC ?_ | refine wpAny_madeBy_exc hC ?_ | simp only [bne_self_eq_false, Bool.false_eq_true, if_false] | wp_step)
  exact hq
end
section
variable {prog : Program} {w : World} {A : Around} {E : Value → Shared → Prop} {R : Result → Shared → Prop} {h : Heap} {g : Array GenState} {d : Drawn} {t : Nat} {os : OsState}
variable {nm q : Str} {C N : Addr} {bs bm : List Value} {hdct : Bool} {sn : List Str} {sub : List Value} {ab : Bool} {col : Option Bool} {dd : Option Addr} {k0 k1 k2 k3 k5 : Option Value} {B newId initId : String}
theorem new_ownK (F : ExcBaseFacts B newId initId bm) {rest : List Value} {kw : List (Str × Value)} (hC : h.get? C = some (excClassObj nm q C N bs bm hdct sn sub ab col dd k0 k1 k2 k3 k5 newId))
    (hq : R (.ok (.ret (.ref (h.objs.size + 1)))) ⟨(h.push (W.kdv_tup rest)).push (excO C h.objs.size), g, d, t, os⟩) (hrest : rest.length ≤ sizeLine) :
    codeAny (model prog w) A (.builtin newId ⟨.ref C :: rest, kw⟩) R ⟨h, g, d, t, os⟩ := by
  have fends := F.ends
  have cB : (Value.ref C :: bm).contains (.type B) = true := by rw [List.contains_cons, F.hasB, Bool.or_true]
  have cA : (Value.ref C :: bm).contains (.type "AttributeError") = false := by rw [List.contains_cons, F.noAttr]; rfl
  have cN : (Value.ref C :: bm).contains (.type "NameError") = false := by rw [List.contains_cons, F.noName]; rfl
  refine codeAny_builtinAt F.entry ?_
  unfold Builtin.«BaseException.__new__»
  refine wpAt_bind (show wpAt _ _ _ (stack >>= _) _ _ _ from wpAt_bind (wpAt_stack fun p below => wpAt_of_wpAny ?_))
  wp_walk
  refine wpAt_of_wpAny ?_
  rw [F.owner]
  repeat (first | with_reducible refine wpAny_madeHere_exc F.canon hC ?_ | with_reducible refine wpAny_loadPart_at hC ?_ | (with_reducible refine wpAny_isSubtype_exc hC ?_; first | rw [cB] | rw [cA] | rw [cN]) | wp_step)
  exact (show R _ _ by rw [Heap.size_push]; exact hq)
theorem check_callK {M : Model} {rest : List Value} {kw : List (Str × Value)} {Q : Unit → Shared → Prop} (hC : h.get? C = some (excClassObj nm q C N bs bm hdct sn sub ab col dd k0 k1 k2 k3 k5 newId)) (hq : Q () ⟨h, g, d, t, os⟩) : wpAny M A (checkBuiltinCall "type.__call__" ⟨.ref C :: rest, kw⟩) Q E ⟨h, g, d, t, os⟩ := by
  have own := tc_sub
  have typed : (⟨h, g, d, t, os⟩ : Shared).TypeIs (.ref C) "type" := ⟨_, hC, rfl⟩
  simp only [checkBuiltinCall, tc_kind, tc_split]
  repeat (any_goals (first | assumption | with_reducible refine wpAny_loadPart_at hC ?_ | with_reducible refine wpAny_onRaise ?_ | with_reducible refine wpAny_map ?_ | wp_step))
theorem type_callK (F : ExcBaseFacts B newId initId bm) {rest : List Value} {kw : List (Str × Value)} {fI : Addr} {Q : Fin → Shared → Prop} (hC : h.get? C = some (excClassObj nm q C N bs bm hdct sn sub ab col dd k0 k1 k2 k3 k5 newId))
    (hi : W.Looks (model prog w) h (typeLookup (.ref C) "__init__") (some (.ref fI))) (hb : ∀ self, W.Looks (model prog w) h (bindSpecial (.ref fI) self) (.ref fI, [self])) (hrest : rest.length ≤ sizeLine)
    (hq : codeAny (model prog w) A (.call (.ref fI) ⟨.ref (h.objs.size + 1) :: rest, kw⟩)
      (fun r s' => match r with | .ok (.ret v) => v = .none ∧ Q (.done (.ret (.ref (h.objs.size + 1)))) s' | .ok _ => False | .error e => E e s')
      ⟨(h.push (W.kdv_tup rest)).push (excO C h.objs.size), g, d, t, os⟩) :
    wpAny (model prog w) A (Builtin.«type.__call__» ⟨.ref C :: rest, kw⟩) Q E ⟨h, g, d, t, os⟩ := by
  repeat (first | with_reducible refine wpAny_loadPart_at hC ?_ | with_reducible refine wpAny_madeBy_exc hC ?_ | wp_step)
  refine codeAny_call_builtin_code (Code.quiet_builtin _ F.quiet) (check_newK F hC (new_ownK F hC (show wpAny _ _ _ _ _ _ from ?_) hrest))
  have kp : ∀ b o, h.get? b = some o → ((h.push (W.kdv_tup rest)).push (excO C h.objs.size)).get? b = some o := fun b o e => Heap.get?_push_of_some _ (Heap.get?_push_of_some _ e)
  have hC1 := kp _ _ hC
  have made : ((h.push (W.kdv_tup rest)).push (excO C h.objs.size)).get? (h.objs.size + 1) = some (excO C h.objs.size) := by heap_get
  have self1 : (Value.ref C :: bm).contains (.ref C) = true := by simp
  have looked := hi.keeps kp
  have bound := (hb (.ref (h.objs.size + 1))).keeps kp
  unfold isInstance
  repeat (first | with_reducible refine wpAny_loadPart_at made ?_ | (with_reducible refine wpAny_isSubtype_exc hC1 ?_; rw [self1]) | wp_step)
  refine (show wpAny _ _ (typeLookup (.ref C) _) _ _ _ from looked.at (wpAny_holding (wpAny_bind (bound.at (wpAny_bind (wpAny_call (codeAny_mono hq fun res s2 z => ?_)))))))
  match res, z with
  | .error e, z => exact z
  | .ok (.ret v), z =>
    obtain ⟨rfl, z⟩ := z
    first
      | exact wpAny_pure (wpAny_pure z)
      | (wp_walk; exact z)
  | .ok .next, z => exact z.elim
  | .ok .brk, z => exact z.elim
  | .ok .cont, z => exact z.elim
theorem call_ownK (F : ExcBaseFacts B newId initId bm) {rest : List Value} {kw : List (Str × Value)} {fI : Addr} (hC : h.get? C = some (excClassObj nm q C N bs bm hdct sn sub ab col dd k0 k1 k2 k3 k5 newId))
    (hi : W.Looks (model prog w) h (typeLookup (.ref C) "__init__") (some (.ref fI))) (hb : ∀ self, W.Looks (model prog w) h (bindSpecial (.ref fI) self) (.ref fI, [self])) (hrest : rest.length ≤ sizeLine)
    (hq : codeAny (model prog w) (A.under (.builtin "type.__call__" ⟨.ref C :: rest, kw⟩)) (.call (.ref fI) ⟨.ref (h.objs.size + 1) :: rest, kw⟩) (W.InitBack (h.objs.size + 1) R)
      ⟨(h.push (W.kdv_tup rest)).push (excO C h.objs.size), g, d, t, os⟩) :
    codeAny (model prog w) A (.call (.ref C) ⟨rest, kw⟩) R ⟨h, g, d, t, os⟩ := by
  have l1 := tc_lookup
  have l2 := tc_bind (.ref C)
  have hTy : (⟨h, g, d, t, os⟩ : Shared).TypeIs (.ref C) "type" := ⟨_, hC, rfl⟩
  refine codeAny_of_tree (show wpAny _ _ (callAny (.ref C) _) _ _ _ from ?_)
  repeat (any_goals (first | assumption | with_reducible refine wpAny_loadPart_at hC ?_ | wp_step))
  refine ⟨rfl, codeAny_call_builtin_at (Code.quiet_builtin _ (by decide +kernel)) entry_typeCall (check_callK hC (type_callK F hC hi hb hrest (codeAny_mono hq fun res s2 z => ?_)))⟩
  match res, z with
  | .error e, z => exact z
  | .ok (.ret v), z => exact z
  | .ok .next, z => exact z.elim
  | .ok .brk, z => exact z.elim
  | .ok .cont, z => exact z.elim
end
end VkX
end PySem
set_option Elab.async false
set_option maxRecDepth 100000
set_option maxHeartbeats 4000000
set_option linter.all false
namespace PySem
namespace VkX
open PySem.W PySem.Calls PyProof.Rows Builtin Builtin.ObjectAttr PySem.HandSPX
section
variable {prog : Program} {w : World} {A : Around} {E : Value → Shared → Prop} {R : Result → Shared → Prop} {hp : Heap} {g : Array GenState} {d : Drawn} {t : Nat} {os : OsState}
/-- object.__setattr__ on an exception of an own class, up to the store into its own dict -/
theorem osa_way {K : Frag} {name : Str} {tk : Tok} {v : Value} {x C : Addr} {ox : Obj} {od : Option Obj} {cd : ClassData} {B newId initId : String} {tl : List Value} (hB : ExB B newId initId tl)
    (X : K.In hp) (I : InstAt hp x ox C od) (hcd : clsIn K C = some cd) (hm : cd.mro = .ref C :: tl) (ha : findIn K (.ref C) name = some none)
    (hq : wpAny (model prog w) (A.under (.builtin "object.__setattr__" ⟨[.ref x, .str name tk, v], []⟩)) (storeInOwnDict (.ref x) (.ref C) (.str name tk) name v false)
      (fun fin s2 => match fin with | .done f => R (.ok f) s2 | .again c2 => c2.quiet = true ∧ codeAny (model prog w) A c2 R s2) (fun e s2 => R (.error e) s2) ⟨hp, g, d, t, os⟩) :
    codeAny (model prog w) A (.call (.builtin "object.__setattr__") ⟨[.ref x, .str name tk, v], []⟩) R ⟨hp, g, d, t, os⟩ := by
  have slot := F.store_object
  have some1 : cd.mro.isEmpty = false := by rw [hm]; rfl
  have obj1 : cd.mro.contains (.type "object") = true := by rw [hm, List.contains_cons, hB.obj, Bool.or_true]
  have within : Looks (model prog w) hp (isInstance (.ref x) (.type "object")) true := I.type.andThen (looks_mroIn X (by unfold mroIn; rw [hcd, Option.bind_some, if_neg (by rw [some1]; decide), obj1]))
  refine codeAny_call_builtin slot.slot.plain slot.entry (@check_slot (model prog w) _ _ ⟨hp, g, d, t, os⟩ "object.__setattr__" "object" "__setattr__" (.ref x) [.str name tk, v] [] _ slot.kind slot.split within (slot.args (.ref x) (.str name tk) v) ?_)
  have line : Looks (model prog w) hp (mroOf (.ref C)) cd.mro := (looks_clsIn X hcd).andThen .now
  rw [osa_eq, refuse_eq]
  refine wpAny_bind (wpAny_bind (I.type.at (wpAny_bind (line.at ?_))))
  rw [hm, refuseLoop_ref, hB.pass]
  exact wpAny_pure (wpAny_bind (I.type.at (wpAny_bind ((looks_findIn X ha).at (wpAny_bind ((show Looks (model prog w) hp (storeTaker? none) none from .now).at hq))))))
theorem osa_first {K : Frag} {name : Str} {tk : Tok} {v : Value} {x C : Addr} {fv : Array Value} {cd : ClassData} {B newId initId : String} {tl : List Value} (hB : ExB B newId initId tl)
    (X : K.In hp) (hx : hp.get? x = some { cls := .ref C, data := .fields fv }) (hcd : clsIn K C = some cd) (hm : cd.mro = .ref C :: tl) (hd : cd.hasDict = true) (ha : findIn K (.ref C) name = some none)
    (hq : ∀ h2 tk2 dx, (∀ b o, b ≠ x → hp.get? b = some o → h2.get? b = some o) → hp.objs.size ≤ dx → dx ≠ x → h2.get? x = some { cls := .ref C, dict := some dx, data := .fields fv } →
      h2.Ns1 dx (fun y => if y = name then some v else none) → R (.ok (.ret .none)) ⟨h2, g, d, tk2, os⟩) :
    codeAny (model prog w) A (.call (.builtin "object.__setattr__") ⟨[.ref x, .str name tk, v], []⟩) R ⟨hp, g, d, t, os⟩ := by
  refine osa_way hB X (ox := { cls := .ref C, data := .fields fv }) (od := none) ⟨hx, rfl, rfl, trivial⟩ hcd hm ha ?_
  have far : x ≠ hp.objs.size := Nat.ne_of_lt (Heap.lt_size hx)
  have whole : Looks (model prog w) hp (classData C) cd := looks_clsIn X hcd
  obtain ⟨c1, c2, c3, c4, c5, c6, c7, c8, c9, c10, c11⟩ := cd
  cases (show c6 = true from hd)
  unfold storeInOwnDict ownDictForStores
  repeat (first | with_reducible refine store_in_new ?_ ?_ | with_reducible refine wpAny_loadPart_at hx ?_ | with_reducible refine whole.at ?_ | wp_step)
  · exact ⟨_, #[], _, (Heap.get?_update_ne _ _ _ _ far.symm).trans (Heap.get?_push_at rfl rfl), rfl, fun e he => absurd he (by simp), fun _ => rfl⟩
  · intro h2 tk2 ns same
    have there : (hp.push { cls := .type "dict", data := .dict #[] }).get? x = some { cls := .ref C, data := .fields fv } := Heap.get?_push_of_some _ hx
    exact hq h2 tk2 hp.objs.size (fun b o hb ho => (same.2 b (Nat.ne_of_lt (Heap.lt_size ho))).trans ((Heap.get?_update_ne _ _ _ _ hb).trans (Heap.get?_push_of_some _ ho))) (Nat.le_refl _) far.symm
      ((same.2 x far).trans (Heap.get?_update_self _ there rfl)) ns
theorem osa_next {K : Frag} {name : Str} {tk : Tok} {v : Value} {x C dx : Addr} {fv : Array Value} {cd : ClassData} {m0 : Str → Option Value} {nl : List Str} {B newId initId : String} {tl : List Value} (hB : ExB B newId initId tl)
    (X : K.In hp) (hx : hp.get? x = some { cls := .ref C, dict := some dx, data := .fields fv }) (hns : hp.Ns1 dx m0) (hw : Within m0 nl) (hz : nl.length ≤ 1000) (hcd : clsIn K C = some cd) (hm : cd.mro = .ref C :: tl) (hd : cd.hasDict = true) (ha : findIn K (.ref C) name = some none)
    (hq : ∀ h2 tk2, (∀ b o, b ≠ dx → hp.get? b = some o → h2.get? b = some o) → h2.Ns1 dx (fun y => if y = name then some v else m0 y) → R (.ok (.ret .none)) ⟨h2, g, d, tk2, os⟩) :
    codeAny (model prog w) A (.call (.builtin "object.__setattr__") ⟨[.ref x, .str name tk, v], []⟩) R ⟨hp, g, d, t, os⟩ := by
  obtain ⟨oD, esD, epD, hoD, hdD, _⟩ := hns.count hw
  refine osa_way hB X (ox := { cls := .ref C, dict := some dx, data := .fields fv }) (od := some oD) ⟨hx, rfl, rfl, hoD⟩ hcd hm ha ?_
  have whole : Looks (model prog w) hp (classData C) cd := looks_clsIn X hcd
  obtain ⟨c1, c2, c3, c4, c5, c6, c7, c8, c9, c10, c11⟩ := cd
  cases (show c6 = true from hd)
  unfold storeInOwnDict ownDictForStores
  repeat (first | with_reducible refine PySem.OEX.store_in_old hns hw hz ?_ | with_reducible refine wpAny_loadPart_at hx ?_ | with_reducible refine whole.at ?_ | wp_step)
  intro h2 tk2 ns same
  exact hq h2 tk2 (fun b o hb ho => (same.2 b hb).trans ho) ns
end
end VkX
end PySem
namespace Vk
open L2 PySem PySem.Spec PyProof.Rows PySem.VkX
/-- what the written part says of an own exception class over one of the four -/
structure OexK (K : PySem.W.Frag) (C : Addr) : Prop where
  cls : ∃ B newId initId tl nm q N bs sn sub ab col dd k0 k1 k2 k3 k5, ExB B newId initId tl ∧ K.lookup C = some (excClassObj nm q C N bs tl true sn sub ab col dd k0 k1 k2 k3 k5 newId)
  sa : PySem.W.findIn K (.ref C) "__setattr__" = some (some (.builtin "object.__setattr__"))
  kC : PySem.W.keepIn K (.ref C) = true
  xf : XfC K C
  ic : ExcC K C
section
variable {X : Cx} {pins : List (Addr × Obj)} {σ : L2.St} {H : Hp} {s : Shared} {a C dx : Addr} {f : Str} {y : V} {u : Value} {fs : List (Str × V)} {Q : Unit → Shared → Prop} {E : Value → Shared → Prop} {A : Around}
theorem kst_first (T : OexK X.K C) (I : Inv X pins σ H s) (e : H a = some (exo a C none)) (hno : PySem.W.findIn X.K (.ref C) f = some none) (ry : RelV y u)
    (h : ∀ dx s2, H dx = none → dx ≠ a → Inv X pins σ (upd (upd H dx (exd dx [(f, y)])) a (exo a C (some dx))) s2 → Q () s2) : wpAny (model X.prog X.w) A (setAttr (.ref a) f u) Q E s := by
  obtain ⟨B, newId, initId, tl, nm, q, N, bs, sn, sub, ab, col, dd, k0, k1, k2, k3, k5, hB, hC⟩ := T.cls
  have hcl : PySem.W.clsIn X.K C = some { name := nm, bases := bs, mro := .ref C :: tl, ns := N, qualname := q, hasDict := true, slotNames := sn, subclasses := sub, abstract := ab, collection := col, hasDel := false } := by unfold PySem.W.clsIn; rw [hC] <;> rfl
  obtain ⟨t1, ho⟩ := exo_at I.hok e
  obtain ⟨hp, g, d, t, os⟩ := s
  refine PySem.W.set_plain I.kIn (ox := { cls := .ref C, dict := none, data := .fields #[.ref t1, .none, .none, .none, .bool false, .none] }) (od := none) ⟨ho, rfl, rfl, trivial⟩ T.sa ?_
  refine osa_first hB I.kIn ho hcl rfl rfl hno fun h2 tk2 dx kept low apart put ns => ?_
  have free1 : H dx = none := I.hok.fresh low
  have old1 : ∀ {b : Addr} {o : Obj}, hp.get? b = some o → b ≠ dx := fun z => Nat.ne_of_lt (Nat.lt_of_lt_of_le (Heap.lt_size z) low)
  have not1 : ∀ {b : Addr}, H b = none → b ≠ a := fun n z => nomatch (z ▸ n).symm.trans e
  have un1 : Un X.fs [] H (upd (upd H dx (exd dx [(f, y)])) a (exo a C (some dx))) hp h2 := {
    keep := fun b o z n _ _ => kept b o (not1 n) z
    slot := fun b o z n _ _ => ⟨o.slots, kept b o (not1 n) z⟩
    free := fun b o z n _ => (upd_ne (not1 n)).trans ((upd_ne (old1 z)).trans n)
    there := fun b o z _ => by
      by_cases hb : b = a
      · exact ⟨_, hb ▸ put⟩
      · exact ⟨o, kept b o hb z⟩
    tups := fun b xs z => (upd_ne (at_ne e z exo_tup)).trans ((upd_ne (ne_of_none z free1)).trans z)
    frzs := fun b o v z => (upd_ne (at_ne e z exo_frz)).trans ((upd_ne (ne_of_none z free1)).trans z)
    tbls := fun b ps z => ⟨#[], by rw [upd_ne (at_ne e z exo_tbl), upd_ne (ne_of_none z free1), z]; simp⟩ }
  refine h dx _ free1 apart (I.un (t' := tk2) un1 fun b o z => ?_)
  by_cases hb : b = a
  · subst hb
    rw [upd_same] at z
    cases z
    exact exo_ok put
  · rw [upd_ne hb] at z
    by_cases hd : b = dx
    · subst hd
      rw [upd_same] at z
      cases z
      exact exd_ok ns (relO_put (fs := []) ry fun g => True.intro)
    · rw [upd_ne hd] at z
      refine (I.hok b o z).stay (fun c v hc r => kept c v ?_ r) (fun c hc => (upd_ne (at_ne e hc exo_own)).trans ((upd_ne (ne_of_none hc free1)).trans hc)) (fun c xs hc => (upd_ne (at_ne e hc exo_tup)).trans ((upd_ne (ne_of_none hc free1)).trans hc))
      exact hc.elim (fun z => z ▸ hb) (fun z => at_ne e z exo_own)
theorem kst_next (T : OexK X.K C) (I : Inv X pins σ H s) (e : H a = some (exo a C (some dx))) (ed : H dx = some (exd dx fs)) (hl : fs.length ≤ 900) (hno : PySem.W.findIn X.K (.ref C) f = some none) (ry : RelV y u)
    (h : ∀ s2, Inv X pins σ (upd H dx (exd dx ((f, y) :: fs))) s2 → Q () s2) : wpAny (model X.prog X.w) A (setAttr (.ref a) f u) Q E s := by
  obtain ⟨B, newId, initId, tl, nm, q, N, bs, sn, sub, ab, col, dd, k0, k1, k2, k3, k5, hB, hC⟩ := T.cls
  have hcl : PySem.W.clsIn X.K C = some { name := nm, bases := bs, mro := .ref C :: tl, ns := N, qualname := q, hasDict := true, slotNames := sn, subclasses := sub, abstract := ab, collection := col, hasDel := false } := by unfold PySem.W.clsIn; rw [hC] <;> rfl
  obtain ⟨t1, ho⟩ := exo_at I.hok e
  obtain ⟨mA, hns, rel⟩ := exd_at I.hok ed
  have hw := within_of rel
  obtain ⟨hp, g, d, t, os⟩ := s
  obtain ⟨oD, _, _, hoD, _, _⟩ := hns.count hw
  refine PySem.W.set_plain I.kIn (ox := { cls := .ref C, dict := some dx, data := .fields #[.ref t1, .none, .none, .none, .bool false, .none] }) (od := some oD) ⟨ho, rfl, rfl, hoD⟩ T.sa ?_
  refine osa_next hB I.kIn ho hns hw (by rw [List.length_map]; omega) hcl rfl rfl hno fun h2 tk2 kept ns => ?_
  exact h _ (I.write (t' := tk2) (x := dx) (e := dx) (o := exd dx ((f, y) :: fs)) (by rw [ed]; exact True.intro) (.inl rfl) kept (match ns with | ⟨o, _, _, z, _⟩ => ⟨o, z⟩) (exd_ok ns (relO_put ry rel)))
end
/-- self.f = e on such an exception -/
def tOsk (K : PySem.W.Frag) (f : Str) (to te : TE) : TS := fun D σ H => te σ H fun y H1 => to σ H1 fun x H2 => ∃ a C : Addr, x = .ref a ∧ OexK K C ∧ PySem.W.findIn K (.ref C) f = some none ∧
  ((H2 a = some (exo a C none) ∧ ∀ dx, H2 dx = none → dx ≠ a → D.nx σ (upd (upd H2 dx (exd dx [(f, y)])) a (exo a C (some dx)))) ∨
    ∃ (dx : Addr) (fs : List (Str × V)), H2 a = some (exo a C (some dx)) ∧ H2 dx = some (exd dx fs) ∧ fs.length ≤ 900 ∧ D.nx σ (upd H2 dx (exd dx ((f, y) :: fs))))
/-- x.f, x such an exception -/
def tXk (K : PySem.W.Frag) (f : Str) (te : TE) : TE := fun σ H Q => te σ H fun x H1 => ∃ (a C d : Addr) (fs : List (Str × V)) (v : V), x = .ref a ∧ OexK K C ∧ PySem.W.findIn K (.ref C) f = some none ∧ H1 a = some (exo a C (some d)) ∧ H1 d = some (exd d fs) ∧ fs.lookup f = some v ∧ Q v H1
section
variable {X : Cx} {o e : Expr} {es : List Expr} {to te : TE} {ta : TA} {f : Str} {p p' p1 p2 pos : Pos}
theorem ps_osk (ho : PE X o to) (he : PE X e te) (hs : swapsWith e (some (.Attribute o f p')) pos.line X.env = pure false := by rfl) : PS X (.Assign [.Attribute o f p'] e pos) (tOsk X.K f to te) := by
  refine ⟨fun pins s σ H D I h => plainObj_wpAny_Assign_Attribute (thn (he.run pins s σ H _ I h) fun v s1 ⟨y, H1, I1, r1, q1⟩ => thn (ho.run pins s1 σ H1 _ I1 q1) fun u s2 ⟨x, H2, I2, r2, a, C, ex, T, hno, q⟩ => ?_) hs⟩
  subst ex
  obtain rfl : u = Value.ref a := r2
  exact q.elim (fun z => kst_first T I2 z.1 hno r1 fun dx s3 n ne J => ⟨σ, _, J, z.2 dx n ne⟩) (fun ⟨dx, fs, ea, ed, hl, z⟩ => kst_next T I2 ea ed hl hno r1 fun s3 J => ⟨σ, _, J, z⟩)
theorem pe_xk (he : PE X e te) (hb : attributeBase e f X.env (eval e X.env) = eval e X.env := by rfl) : PE X (.Attribute e f pos) (tXk X.K f te) := by
  refine ⟨fun pins s σ H Q I h => attr_of hb (thn (he.run pins s σ H _ I h) fun u s1 hh => ?_)⟩
  obtain ⟨x, H1, I1, rx, a, C, d, fs, v, ex, T, hno, ea, ed, l, q⟩ := hh
  subst ex
  obtain rfl : u = Value.ref a := rx
  obtain ⟨t1, ho⟩ := exo_at I1.hok ea
  obtain ⟨mA, hns, hr⟩ := exd_at I1.hok ed
  obtain ⟨od, hd, hl⟩ := lookIn_ns hns
  obtain ⟨u, hu, ru⟩ := RelO.some_of (v := v) (o := mA f) (l ▸ hr f)
  have J : PySem.W.InstAt s1.heap a { cls := .ref C, dict := some d, data := .fields #[.ref t1, .none, .none, .none, .bool false, .none] } C (some od) := ⟨ho, rfl, rfl, hd⟩
  exact HandSPX.exc_get I1.kIn J T.xf.ga T.xf.gg T.xf.exC (PySem.W.findObj_own T.xf.hdC hno rfl (by rw [hl, hu])) (handed_of ru) ⟨v, H1, I1.tok _, ru, q⟩
end
end Vk
set_option Elab.async false
set_option maxRecDepth 100000
set_option maxHeartbeats 4000000
set_option linter.all false
namespace Vk
open L2 PySem PySem.Spec PyProof.Rows PySem.VkX
/-- an exception of the class at C, with these fields, the last one stored first -/
def ExV (H : Hp) (a C : Addr) (fs : List (Str × V)) : Prop := (fs = [] ∧ H a = some (exo a C none)) ∨ ∃ d, H a = some (exo a C (some d)) ∧ H d = some (exd d fs)
theorem ExV.inst {X : Cx} {pins : List (Addr × Obj)} {σ : L2.St} {H : Hp} {s : Shared} {a C : Addr} {fs : List (Str × V)} (I : Inv X pins σ H s) (e : ExV H a C fs) : ∃ ox od, PySem.W.InstAt s.heap a ox C od := by
  rcases e with ⟨_, e⟩ | ⟨d, e, ed⟩
  · obtain ⟨t1, ho⟩ := exo_at I.hok e
    exact ⟨{ cls := .ref C, dict := none, data := .fields #[.ref t1, .none, .none, .none, .bool false, .none] }, none, ho, rfl, rfl, trivial⟩
  · obtain ⟨t1, ho⟩ := exo_at I.hok e
    obtain ⟨mA, hns, _⟩ := exd_at I.hok ed
    obtain ⟨od, hd, _⟩ := lookIn_ns hns
    exact ⟨{ cls := .ref C, dict := some d, data := .fields #[.ref t1, .none, .none, .none, .bool false, .none] }, some od, ho, rfl, rfl, hd⟩
/-- isinstance(e, c), e such an exception -/
def rIsX (K : PySem.W.Frag) : List V → Hp → VK → Prop := fun xs H Q => ∃ (a C : Addr) (fs : List (Str × V)) (c : V) (cv : Value) (b : Bool), xs = [.ref a, c] ∧ OexK K C ∧ ExV H a C fs ∧ ClsV c cv ∧ PySem.W.kitOne K (.ref C) cv = some b ∧ Q (.bl b) H
theorem call_isX {X : Cx} : CallR X (.builtin "isinstance") (rIsX X.K) := by
  intro pins s σ H xs us Q I r h
  obtain ⟨a, C, fs, c, cv, b, rfl, T, ev, k, e, q⟩ := h
  obtain ⟨u1, u2, rfl, r1, r2⟩ := vals2 r
  cases (show u1 = Value.ref a from r1)
  have same := k.eq r2
  subst same
  obtain ⟨ox, od, J⟩ := ev.inst I
  obtain ⟨B, newId, initId, tl, nm, q1, N, bs, sn, sub, ab, col, dd, k0, k1, k2, k3, k5, hB, hC⟩ := T.cls
  have hcl : (PySem.W.clsIn X.K C).isSome = true := by unfold PySem.W.clsIn; rw [hC] <;> rfl
  exact PySem.W.kia_one (PySem.W.kitx_exc hcl T.ic.hg T.ic.hk T.ic.hs T.ic.ha T.ic.hn T.ic.ht T.ic.hm) I.kIn J e (fun z => nomatch z) fun tk => ⟨.bl b, H, I.tok tk, rfl, q⟩
/-! ## making one -/
/-- __init__(self, f1, ..): the fields stored in their order -/
def spIni (C : Addr) (fsn : List Str) : Sp := fun vs H Q E => ∃ a ws, vs = .ref a :: ws ∧ ws.length = fsn.length ∧ H a = some (exo a C none) ∧
  (fsn = [] → Q .non H) ∧ (fsn ≠ [] → ∀ d, H d = none → d ≠ a → Q .non (upd (upd H d (exd d (fsn.zip ws).reverse)) a (exo a C (some d))))
structure ClsI (P : Program) (w : World) (K : PySem.W.Frag) (mg : Str → Option Value) (base : Heap) (k : Nat) (x : Str) (C : Addr) (fsn : List Str) : Prop where
  T : OexK K C
  hm : mg x = some (.ref C)
  no : ∀ f ∈ fsn, PySem.W.findIn K (.ref C) f = some none
  ex : ∃ (fI : Addr) (fd : FuncData), PySem.W.findIn K (.ref C) "__init__" = some (some (.ref fI)) ∧ PySem.W.typeIn K (.ref fI) = some (.type "function") ∧ FnG P w K mg base CX0 k fI fd (("self" : Str) :: fsn) (spIni C fsn) ∧ Binds K fd (("self" : Str) :: fsn) [] ∧
    (∀ (s : Shared) (v : Value) (ws : List Value), K.In s.heap → ws.length = fsn.length → BindsTo s fd ⟨[v], fsn.reverse.zip ws⟩ ((("self" : Str) :: fsn).zip (v :: ws.reverse)))
/-- the exception that was made of H: at a, and its dict -/
def Made (C : Addr) (fsn : List Str) (vs : List V) (H : Hp) (Q : VK) : Prop := ∀ a, H a = none → (fsn = [] → Q (.ref a) (upd H a (exo a C none))) ∧
  (fsn ≠ [] → ∀ d, H d = none → d ≠ a → Q (.ref a) (upd (upd H d (exd d (fsn.zip vs).reverse)) a (exo a C (some d))))
theorem upd_over {H : Hp} {a d : Addr} {o1 o2 o3 : HO} (h : d ≠ a) : upd (upd (upd H a o1) d o2) a o3 = upd (upd H d o2) a o3 := by
  funext b
  by_cases hb : b = a
  · subst hb; rw [upd_same, upd_same]
  · rw [upd_ne hb, upd_ne hb]
    by_cases hd : b = d
    · subst hd; rw [upd_same, upd_same]
    · rw [upd_ne hd, upd_ne hd, upd_ne hb]
section
variable {X : Cx} {j k : Nat} {x : Str} {C : Addr} {fsn : List Str} {p pos : Pos} {e : Expr} {es : List Expr} {t : TA}
theorem make_run {pins : List (Addr × Obj)} {σ : L2.St} {H : Hp} {s : Shared} {Q : VK} {us : List Value} {kw : List (Str × Value)} {vs : List V} {zs : List Value} (c : ClsI X.prog X.w X.K X.mg X.base k x C fsn) (hg : X.A.guards = some []) (hr : Room (k + 1) X.A) (hx : Passes CX0 X (fun _ _ _ => False))
    (I : Inv X pins σ H s) (hus : us.length ≤ sizeLine) (hl : vs.length = fsn.length) (r : Vals vs zs) (q : Made C fsn vs H Q)
    (hb : ∀ fI fd, PySem.W.findIn X.K (.ref C) "__init__" = some (some (.ref fI)) → Binds X.K fd (("self" : Str) :: fsn) [] → (∀ (s : Shared) (v : Value) (ws : List Value), X.K.In s.heap → ws.length = fsn.length → BindsTo s fd ⟨[v], fsn.reverse.zip ws⟩ ((("self" : Str) :: fsn).zip (v :: ws.reverse))) →
      ∀ s2 : Shared, X.K.In s2.heap → ∀ a : Addr, BindsTo s2 fd ⟨.ref a :: us, kw⟩ ((("self" : Str) :: fsn).zip (.ref a :: zs))) :
    codeAny (model X.prog X.w) X.A (.call (.ref C) ⟨us, kw⟩) (fun r s2 => match r with | .ok (.ret v) => EP X pins σ Q v s2 | .ok _ => False | .error e => X.xe e s2) s := by
  obtain ⟨fI, fd, iC, tI, F, hbn, hbk⟩ := c.ex
  obtain ⟨B, newId, initId, tl, nm, q1, N, bs, sn, sub, ab, col, dd, k0, k1, k2, k3, k5, hB, hC⟩ := c.T.cls
  obtain ⟨hp, g, dr, tk, os⟩ := s
  have big : hp.objs.size ≤ hp.objs.size + 1 := Nat.le_succ _
  have new1 : H (hp.objs.size + 1) = none := I.hok.fresh big
  have hq := q (hp.objs.size + 1) new1
  have kept : ∀ b o, hp.get? b = some o → ((hp.push (PySem.W.kdv_tup us)).push (PySem.HandSPX.excO C hp.objs.size)).get? b = some o := fun b o z => Heap.get?_push_of_some _ (Heap.get?_push_of_some _ z)
  have put : ((hp.push (PySem.W.kdv_tup us)).push (PySem.HandSPX.excO C hp.objs.size)).get? (hp.objs.size + 1) = some (PySem.HandSPX.excO C hp.objs.size) := by heap_get
  have I2 : Inv X pins σ (upd H (hp.objs.size + 1) (exo (hp.objs.size + 1) C none)) ⟨(hp.push (PySem.W.kdv_tup us)).push (PySem.HandSPX.excO C hp.objs.size), g, dr, tk, os⟩ :=
    I.laid (t' := tk) (a := hp.objs.size + 1) (o := exo (hp.objs.size + 1) C none) kept big (exo_ok put)
  have sp1 : spIni C fsn (V.ref (hp.objs.size + 1) :: vs) (upd H (hp.objs.size + 1) (exo (hp.objs.size + 1) C none)) (fun v H2 => v = .non ∧ Q (.ref (hp.objs.size + 1)) H2) (fun _ _ _ => False) := by
    refine ⟨_, vs, rfl, hl, upd_same, fun z => ⟨rfl, hq.1 z⟩, fun z d hd ne => ⟨rfl, ?_⟩⟩
    rw [upd_ne ne] at hd
    rw [upd_over ne]
    exact hq.2 z d hd ne
  refine call_ownK hB.F (I.kIn _ _ hC) (PySem.W.looks_findIn I.kIn iC) (fun self => PySem.W.bind_fn I.kIn self tI) hus
    (codeAny_mono (F.run _ X.stack _ _ _ (Value.ref (hp.objs.size + 1) :: zs) (V.ref (hp.objs.size + 1) :: vs) _ (fun _ _ _ => False) ?_ (hr.make C us kw) (I2.env0.make C us kw) (hb fI fd iC hbn hbk _ I2.kIn _) (.cons rfl r) sp1) fun res s3 hz => ?_)
  · first
      | exact hg
      | (simpa [Around.under, Code.isGuard, guardIds] using hg)
  · match res, hz with
    | .error er, hz => exact hx pins σ _ _ er s3 I2 hz
    | .ok (.ret u), hz =>
      obtain ⟨v, H2, I3, rv, ev, q3⟩ := I2.after hz
      subst ev
      exact ⟨rv, V.ref (hp.objs.size + 1), H2, I3, rfl, q3⟩
    | .ok .next, hz => exact hz.elim
    | .ok .brk, hz => exact hz.elim
    | .ok .cont, hz => exact hz.elim
def tMk (C : Addr) (fsn : List Str) (t : TA) : TE := fun σ H Q => t σ H fun vs H1 => vs.length = fsn.length ∧ Made C fsn vs H1 Q
def tMkW (C : Addr) (fsn : List Str) (t : TA) : TE := fun σ H Q => t σ H fun vs H1 => vs.length = fsn.length ∧ Made C fsn vs.reverse H1 Q
theorem few_len {n : Nat} (h : n ≤ 1000) : n ≤ sizeLine := Nat.le_trans h (by rw [sizeLine_eq]; decide)
theorem pe_mk (c : ClsI X.prog X.w X.K X.mg X.base k x C fsn) (hg : X.A.guards = some []) (hr : Room j X.A) (hk : k + 1 ≤ j) (hx : Passes CX0 X (fun _ _ _ => False)) (ha : PA X (e :: es) t) (hn : fsn.length ≤ 1000 := by decide) (gl : Gl X x := by rfl)
    (hdb : (x == ("__debug__" : Str)) = false := by decide) (he : starEach (e :: es) X.env = (false, eval e X.env) :: starEach es X.env := by rfl) (hpl : (backTo pos (starEach es X.env)).any (·.1) = false := by rfl) :
    PE X (.Call (.Name x p) (e :: es) [] pos) (tMk C fsn t) := by
  refine ⟨fun pins s σ H Q I h => wpAny_Call_Name_kw (ld_glob I gl c.hm (PySem.W.callWith_K (h₀ := X.base) I.ok.mod.kin c.T.kC (thn (ha.run pos pins s σ H _ I h) fun us s1 hh => ?_) he hpl) hdb)⟩
  obtain ⟨vs, H1, I1, r, hl, q⟩ := hh
  refine ⟨I1.kIn, wpAny_call (codeAny_mono (make_run c hg (hr.mono hk) hx I1 (few_len (show us.length ≤ 1000 by rw [← r.length, hl]; exact hn)) hl r q fun fI fd _ hbn _ s2 K2 a => ?_) fun res s2 z => ?_)⟩
  · have b := hbn s2 (.ref a :: us) K2 (by simpa using (r.length.symm.trans hl))
    rw [List.append_nil] at b
    exact b
  · match res, z with
    | .error er, z => exact z
    | .ok (.ret u), z => exact z
    | .ok .next, z => exact z.elim
    | .ok .brk, z => exact z.elim
    | .ok .cont, z => exact z.elim
theorem pe_mk0 (c : ClsI X.prog X.w X.K X.mg X.base k x C []) (hg : X.A.guards = some []) (hr : Room j X.A) (hk : k + 1 ≤ j) (hx : Passes CX0 X (fun _ _ _ => False)) (gl : Gl X x := by rfl)
    (hdb : (x == ("__debug__" : Str)) = false := by decide) : PE X (.Call (.Name x p) [] [] pos) (tMk C [] tNil) := by
  refine ⟨fun pins s σ H Q I h => wpAny_Call_Name_kw (ld_glob I gl c.hm (PySem.W.callWith_K0 I.kIn c.T.kC (wpAny_call (codeAny_mono (make_run (vs := []) c hg (hr.mono hk) hx I (few_len (by decide)) rfl .nil h.2 fun fI fd _ hbn _ s2 K2 a => ?_) fun res s2 z => ?_))) hdb)⟩
  · have b := hbn s2 [.ref a] K2 rfl
    rw [List.append_nil] at b
    exact b
  · match res, z with
    | .error er, z => exact z
    | .ok (.ret u), z => exact z
    | .ok .next, z => exact z.elim
    | .ok .brk, z => exact z.elim
    | .ok .cont, z => exact z.elim
theorem vals_back : ∀ {vs : List V} {ws : List Value}, Vals vs ws → Vals vs.reverse ws.reverse := fun r => vals_rev r
theorem pe_mkW {kws : List Keyword} {tk : TA} (c : ClsI X.prog X.w X.K X.mg X.base k x C fsn) (hg : X.A.guards = some []) (hr : Room j X.A) (hk : k + 1 ≤ j) (hx : Passes CX0 X (fun _ _ _ => False)) (hkw : PK X kws tk) (gl : Gl X x := by rfl)
    (hall : (backToKw pos (keywordEach kws X.env)).all (·.1.isSome) = true := by rfl) (hks : (backToKw pos (keywordEach kws X.env)).filterMap (·.1) = fsn.reverse := by rfl) (hdb : (x == ("__debug__" : Str)) = false := by decide)
    (hpl : ((backTo pos (starEach [] X.env)).any (·.1) || (backToKw pos (keywordEach kws X.env)).any (·.1.isNone)) = false := by rfl) :
    PE X (.Call (.Name x p) [] kws pos) (tMkW C fsn tk) := by
  refine ⟨fun pins s σ H Q I h => wpAny_Call_Name_kw (ld_glob I gl c.hm (PySem.W.callWith_KW0 (h₀ := X.base) I.ok.mod.kin c.T.kC hall (thn (hkw.run pos pins s σ H _ I h) fun ws s2 hh => ?_) hpl) hdb)⟩
  obtain ⟨vs, H2, I2, rz, l2, q2⟩ := hh
  refine ⟨I2.kIn, ?_⟩
  rw [hks]
  refine wpAny_call (codeAny_mono (make_run (us := []) (vs := vs.reverse) (zs := ws.reverse) c hg (hr.mono hk) hx I2 (few_len (by decide)) (by rw [List.length_reverse]; exact l2) (vals_back rz) q2 fun fI fd _ _ hbk s3 K3 a => hbk s3 _ ws K3 (rz.length.symm.trans l2)) fun res s3 z => ?_)
  match res, z with
  | .error er, z => exact z
  | .ok (.ret u), z => exact z
  | .ok .next, z => exact z.elim
  | .ok .brk, z => exact z.elim
  | .ok .cont, z => exact z.elim
end
end Vk
set_option Elab.async false
set_option maxRecDepth 100000
set_option maxHeartbeats 4000000
set_option linter.all false
namespace Vk
open L2 PySem PySem.Spec PyProof.Rows PySem.VkX
/-! ## several except clauses, with a name or without -/
abbrev Sui := Addr → Value → Option Addr → TS
inductive Clz
  | only (c : Value) (ts : Sui)
  | named (c : Value) (i : Nat) (ts : Sui)
/-- the ends of a suite whose name lies in slot i: the name is gone behind it -/
def gone (D : Ends) (i : Nat) : Ends := { nx := fun σ H => D.nx (σ.set i none) H, rt := D.rt, bk := fun σ H => D.bk (σ.set i none) H, ct := fun σ H => D.ct (σ.set i none) H }
def wEach (K : PySem.W.Frag) (W0 : WX) (D : Ends) : List Clz → WX
  | [] => W0
  | .only c ts :: r => fun cls d σ H => ∃ b, PySem.W.exmOne K cls c = some b ∧ (b = true → ∀ a, H a = none → ts a cls d D σ H) ∧ (b = false → wEach K W0 D r cls d σ H)
  | .named c i ts :: r => fun cls d σ H => ∃ b, PySem.W.exmOne K cls c = some b ∧ (b = true → ∀ a, H a = none → ts a cls d (gone D i) (σ.set i (some (.ref a))) H) ∧ (b = false → wEach K W0 D r cls d σ H)
def SuiOk (X : Cx) (ss : List Stmt) (ts : Sui) : Prop := ∀ (a : Addr) (oe : Obj) (cls : Value) (d : Option Addr) (pn : List (Addr × Obj)), Zc cls d oe → (∃ vs, oe.data = .fields vs) → PSs (X.suite a ((a, oe) :: pn)) ss (ts a cls d)
inductive ClzOk (X : Cx) : List ExceptHandler → List Clz → Prop
  | nil : ClzOk X [] []
  | only {x : Str} {c : Value} {ts : Sui} {s0 : Stmt} {ss : List Stmt} {p1 p2 : Pos} {hs : List ExceptHandler} {l : List Clz} (hc : Names X x c) (su : SuiOk X (s0 :: ss) ts) (r : ClzOk X hs l) : ClzOk X (.ExceptHandler (some (.Name x p1)) none (s0 :: ss) p2 :: hs) (.only c ts :: l)
  | named {x n : Str} {c : Value} {i : Nat} {ts : Sui} {s0 : Stmt} {ss : List Stmt} {p1 p2 : Pos} {hs : List ExceptHandler} {l : List Clz} (hi : X.N[i]? = some n) (hl : X.env.kindOf n = some .local) (hc : Names X x c) (su : SuiOk X (s0 :: ss) ts) (r : ClzOk X hs l) :
      ClzOk X (.ExceptHandler (some (.Name x p1)) (some n) (s0 :: ss) p2 :: hs) (.named c i ts :: l)
section
variable {X : Cx} {body : List Stmt} {e0 : ExceptHandler} {es : List ExceptHandler} {l : List Clz} {pos : Pos} {tb : WX → TS} {W0 : WX}
theorem ps_try_each (hs : X.stack = X.env :: X.outer) (hf : X.env.frame = some X.env.locals) (hN : X.N.Nodup) (tk : Takes X W0)
    (hb : ∀ (W : WX) (pn : List (Addr × Obj)) (xe : Value → Shared → Prop), Takes (X.tr pn xe) W → PassesOwn (model X.prog X.w) X.A X.env xe → PSs (X.tr pn xe) body (tb W))
    (hh : ClzOk X (e0 :: es) l) : PS X (.Try body (e0 :: es) [] [] pos) (fun D σ H => tb (wEach X.K W0 D l) D σ H) := by
  constructor
  intro pins s σ H D I h
  have fine := I.ok
  have frames : X.A.frames = some (X.env :: X.outer) := fine.frames.trans (by rw [hs])
  let caught : Value → Shared → Prop := fun e t1 => wpAny (model X.prog X.w) X.A (noteFrame e X.env) (fun _ t2 => wpAny (model X.prog X.w) X.A (setFlight e none) (fun _ t3 => wpAny (model X.prog X.w) X.A (handleBy e X.env (e0 :: es)) (SP X pins D) X.xe t3) X.xe t2) X.xe t1
  have taken : Takes (X.tr (X.pn ++ pins) caught) (wEach X.K W0 D l) := by
    rintro u t1 ⟨a, B, sI, pins1, σ1, H1, cls, d, rfl, J0, ground, up, sky, na, os, ag, wish⟩
    have J : Inv X pins σ1 H1 sI := J0.ofTry fine
    have sky1 : Sky B (X.env :: X.outer) a (Zc cls d) X.env.locals t1.heap := hs ▸ sky
    show wpAny (model X.prog X.w) X.A (noteFrame (.ref a) X.env) _ _ _
    refine Sky.land Zc.steady frames hf sky1 fun h3 fl3 up3 => ?_
    have J3 : Inv X pins σ1 H1 { t1 with heap := h3 } := J.landed ground fl3.1 (up.trans up3) os ag
    obtain ⟨o3, v3, at3, z3, dat3⟩ := fl3.there
    have apart : a ∉ frs (X.env :: X.outer) := by
      intro hm
      obtain ⟨_, o, eo, plain⟩ := fl3.2.2.1.mem hm
      rw [at3] at eo
      cases eo
      exact plain _ dat3
    have notLoc : a ≠ X.env.locals := fun z => apart (List.mem_filterMap.mpr ⟨X.env, List.mem_cons_self, hf.trans (congrArg some z.symm)⟩)
    have notFs : a ∉ X.fs := fun hm => match List.mem_filterMap.mp hm with | ⟨e, he, q⟩ => apart (List.mem_filterMap.mpr ⟨e, List.mem_cons_of_mem _ he, q⟩)
    have S3 := J3.suite at3 dat3 na notLoc notFs
    have typed : PySem.W.Looks (model X.prog X.w) h3 (typeOf (.ref a)) cls := fun A Q E s k q => wpAny_typeOf_ref (k _ _ at3) (z3.1.symm ▸ q)
    have asked : ∀ {x : Str} {c : Value} {p1 : Pos} {Q : Value → Shared → Prop} {E : Value → Shared → Prop}, Names X x c → Q c { t1 with heap := h3 } → wpAny (model X.prog X.w) (X.A.mark (some (.ref a))) (eval (.Name x p1) X.env) Q E { t1 with heap := h3 } := by
      rintro x c p1 Q E ⟨g1, g2, g3⟩ q
      rcases g3 with g3 | ⟨g3, g4, g5⟩
      · exact ld_glob (X := X.suite a ((a, o3) :: (X.pn ++ pins))) S3 g1 g3 q g2
      · exact ld_blt (X := X.suite a ((a, o3) :: (X.pn ++ pins))) S3 g1 g3 g4 q g5 g2
    have walk : ∀ {hs1 : List ExceptHandler} {l1 : List Clz}, ClzOk X hs1 l1 → wEach X.K W0 D l1 cls d σ1 H1 → wpAny (model X.prog X.w) X.A (handleBy (.ref a) X.env hs1) (SP X pins D) X.xe { t1 with heap := h3 } := by
      intro hs1 l1 ok1
      induction ok1 with
      | nil =>
        intro w
        refine wpAny_handleBy_nil ?_
        obtain ⟨_, _, _, oe, vs, tr, _, _, he, _, hd, first1, _⟩ := id fl3
        unfold PySem.passOn
        refine wpAny_bind (wpAny_field he hd first1 ?_)
        rw [if_neg (show ¬ ((Value.ref tr == Value.none) = true) from by simp)]
        have out : wpAny (model X.prog X.w) X.A (setFlight (.ref a) X.env.frame) (fun _ t4 => wpAny (model X.prog X.w) X.A (throw (.ref a) : Sem Flow) (SP X pins D) X.xe t4) X.xe { t1 with heap := h3 } := by
          rw [hf]
          exact HandSPX.setFlight_upZ fl3 fun h4 held up4 => wpAny_throw (tk _ _ ⟨a, B, sI, pins, σ1, H1, cls, d, rfl, J, ground, (up.trans up3).trans up4, .inr (.inr (hs.symm ▸ held)), na, os, ag, w⟩)
        first
          | exact wpAny_bind (wpAny_pure (wpAny_bind out))
          | exact wpAny_bind out
      | only hc su r ih =>
        rintro ⟨b, m, yes, no⟩
        refine wpAny_handleBy_cons (codeAny_handlers_test (asked hc ((PySem.W.exm_one (M := model X.prog X.w) J3.kIn typed m).here ?_))) (by intro q; cases q)
        cases b with
        | false => exact ih (no rfl)
        | true =>
          refine codeAny_handlers_suite (HandSPX.lands_againZ fl3 fun h4 fl4 up4 => ?_)
          have J4 : Inv X pins σ1 H1 { t1 with heap := h4 } := J.landed ground fl4.1 ((up.trans up3).trans up4) os ag
          obtain ⟨o4, v4, at4, z4, dat4⟩ := fl4.there
          have S4 := J4.suite at4 dat4 na notLoc notFs
          refine wpAny_mono ((su a o4 cls d (X.pn ++ pins) z4 ⟨_, dat4⟩).run [] _ _ H1 _ S4 (yes rfl a na)) (fun f t6 sp => ?_) (fun _ _ z => z.elim)
          match f, sp with
          | .next, ⟨σ6, H6, S6, q6⟩ => exact ⟨_, _, S6.unsuite fine, q6⟩
          | .brk, ⟨σ6, H6, S6, q6⟩ => exact ⟨_, _, S6.unsuite fine, q6⟩
          | .cont, ⟨σ6, H6, S6, q6⟩ => exact ⟨_, _, S6.unsuite fine, q6⟩
          | .ret u, ⟨v6, σ6, H6, S6, r6, q6⟩ => exact ⟨_, _, _, S6.unsuite fine, r6, q6⟩
      | @named x n c i ts s0 ss p1 p2 hs2 l2 hi hl hc su r ih =>
        rintro ⟨b, m, yes, no⟩
        refine wpAny_handleBy_cons (codeAny_handlers_test (asked hc ((PySem.W.exm_one (M := model X.prog X.w) J3.kIn typed m).here ?_))) (by intro q; cases q)
        cases b with
        | false => exact ih (no rfl)
        | true =>
          refine codeAny_handlers_suite_as (HandSPX.lands_againZ fl3 fun h4 fl4 up4 => ?_)
          have J4 : Inv X pins σ1 H1 { t1 with heap := h4 } := J.landed ground fl4.1 ((up.trans up3).trans up4) os ag
          obtain ⟨o4, v4, at4, z4, dat4⟩ := fl4.there
          have S4 := J4.suite at4 dat4 na notLoc notFs
          refine store_ok (X := X.suite a ((a, o4) :: (X.pn ++ pins))) (v := .ref a) S4 hN hi (.inl hl) rfl (fun t5 S5 => ?_) (.inr hl)
          refine wpAny_mono ((su a o4 cls d (X.pn ++ pins) z4 ⟨_, dat4⟩).run [] t5 _ H1 _ S5 (yes rfl a na)) (fun f t6 sp => ?_) (fun _ _ z => z.elim)
          have drop1 : ∀ {σ6 : L2.St} {H6 : Hp} {Q : Shared → Prop}, Inv (X.suite a ((a, o4) :: (X.pn ++ pins))) [] σ6 H6 t6 → (∀ t7, Inv X pins (σ6.set i none) H6 t7 → Q t7) → wpAny (model X.prog X.w) X.A (do bindName X.env n .none; unbindBehindTheSuite X.env n p2) (fun _ t7 => Q t7) X.xe t6 := fun S6 hq => gone_ok (S6.unsuite fine) hN hi hl hq
          match f, sp with
          | .next, ⟨σ6, H6, S6, q6⟩ => exact drop1 S6 fun t7 J7 => ⟨_, _, J7, q6⟩
          | .brk, ⟨σ6, H6, S6, q6⟩ => exact drop1 S6 fun t7 J7 => ⟨_, _, J7, q6⟩
          | .cont, ⟨σ6, H6, S6, q6⟩ => exact drop1 S6 fun t7 J7 => ⟨_, _, J7, q6⟩
          | .ret u, ⟨v6, σ6, H6, S6, r6, q6⟩ => exact drop1 S6 fun t7 J7 => ⟨_, _, _, J7, r6, q6⟩
    exact walk hh wish
  refine wpAny_Try_except (wpAny_mono ((hb (wEach X.K W0 D l) (X.pn ++ pins) caught taken PassesOwn.looking).run [] s σ H D (I.toTry _) h) (fun f t1 sp => ?_) (fun e t1 he => he))
  match f, sp with
  | .next, ⟨σ1, H1, J, q⟩ => exact wpAny_execs_nil ⟨σ1, H1, J.ofTry fine, q⟩
  | .brk, ⟨σ1, H1, J, q⟩ => exact ⟨σ1, H1, J.ofTry fine, q⟩
  | .cont, ⟨σ1, H1, J, q⟩ => exact ⟨σ1, H1, J.ofTry fine, q⟩
  | .ret u, ⟨v, σ1, H1, J, r, q⟩ => exact ⟨v, σ1, H1, J.ofTry fine, r, q⟩
end
end Vk
set_option Elab.async false
set_option maxRecDepth 100000
set_option maxHeartbeats 4000000
set_option linter.all false
namespace Vk
open L2 PySem PySem.Spec PyProof.Rows PySem.VkX
/-! ## C(e, ..) to be raised -/
theorem oex_type {K : PySem.W.Frag} {C : Addr} (T : OexK K C) : PySem.W.typeIn K (.ref C) = some (.type "type") := by
  obtain ⟨B, newId, initId, tl, nm, q1, N, bs, sn, sub, ab, col, dd, k0, k1, k2, k3, k5, hB, hC⟩ := T.cls
  show (K.lookup C).map (·.cls) = _
  rw [hC] <;> rfl
def tMkE (C : Addr) (fsn : List Str) (ta : TA) : L2.St → Hp → XK → Prop := fun σ H Q => ta σ H fun vs H1 => vs.length = fsn.length ∧ ∀ d, H1 d = none → Q (.ref C) (some d) (upd H1 d (.xd (fsn.zip vs).reverse))
theorem let_go {H : Hp} {a d : Addr} {o1 o2 o3 : HO} (n : H a = none) (ne : d ≠ a) : upd (del (upd (upd H d o1) a o2) a) d o3 = upd H d o3 := by
  funext b
  by_cases hd : b = d
  · subst hd; rw [upd_same, upd_same]
  · rw [upd_ne hd, upd_ne hd]
    by_cases ha : b = a
    · subst ha; rw [del_same, n]
    · rw [del_ne ha, upd_ne ha, upd_ne hd]
section
variable {X : Cx} {j k : Nat} {x : Str} {C : Addr} {fsn : List Str} {p pos : Pos} {e : Expr} {es : List Expr} {t : TA}
theorem pmk_k (c : ClsI X.prog X.w X.K X.mg X.base k x C fsn) (hg : X.A.guards = some []) (hr : Room j X.A) (hk : k + 1 ≤ j) (hx : Passes CX0 X (fun _ _ _ => False)) (ha : PA X (e :: es) t) (hn : fsn.length ≤ 1000 := by decide) (h0 : fsn ≠ [] := by decide) (gl : Gl X x := by rfl)
    (hdb : (x == ("__debug__" : Str)) = false := by decide) (he : starEach (e :: es) X.env = (false, eval e X.env) :: starEach es X.env := by rfl) (hpl : (backTo pos (starEach es X.env)).any (·.1) = false := by rfl) :
    PMk X (.Call (.Name x p) (e :: es) [] pos) (tMkE C fsn t) := by
  intro pins s σ H Q I h
  refine wpAny_Call_Name_kw (ld_glob I gl c.hm (PySem.W.callWith_K (h₀ := X.base) I.ok.mod.kin c.T.kC (thn (ha.run pos pins s σ H _ I h) fun us s1 hh => ?_) he hpl) hdb)
  obtain ⟨vs, H1, I1, r, hl, q⟩ := hh
  refine ⟨I1.kIn, ?_⟩
  show wpAny _ _ (call (.ref C) us) _ _ _
  have hus : us.length ≤ sizeLine := few_len (by rw [← r.length, hl]; exact hn)
  obtain ⟨fI, fd, iC, tI, F, hbn, hbk⟩ := c.ex
  obtain ⟨B, newId, initId, tl, nm, q1, N, bs, sn, sub, ab, col, dd, k0, k1, k2, k3, k5, hB, hC⟩ := c.T.cls
  obtain ⟨hp, g, dr, tk, os⟩ := s1
  have big : hp.objs.size ≤ hp.objs.size + 1 := Nat.le_succ _
  have new1 : H1 (hp.objs.size + 1) = none := I1.hok.fresh big
  have kept : ∀ b o, hp.get? b = some o → ((hp.push (PySem.W.kdv_tup us)).push (PySem.HandSPX.excO C hp.objs.size)).get? b = some o := fun b o z => Heap.get?_push_of_some _ (Heap.get?_push_of_some _ z)
  have put : ((hp.push (PySem.W.kdv_tup us)).push (PySem.HandSPX.excO C hp.objs.size)).get? (hp.objs.size + 1) = some (PySem.HandSPX.excO C hp.objs.size) := by heap_get
  have I2 : Inv X pins σ (upd H1 (hp.objs.size + 1) (exo (hp.objs.size + 1) C none)) ⟨(hp.push (PySem.W.kdv_tup us)).push (PySem.HandSPX.excO C hp.objs.size), g, dr, tk, os⟩ :=
    I1.laid (t' := tk) (a := hp.objs.size + 1) (o := exo (hp.objs.size + 1) C none) kept big (exo_ok put)
  have sp1 : spIni C fsn (V.ref (hp.objs.size + 1) :: vs) (upd H1 (hp.objs.size + 1) (exo (hp.objs.size + 1) C none))
      (fun v H2 => v = .non ∧ ∃ d, H1 d = none ∧ d ≠ hp.objs.size + 1 ∧ H2 = upd (upd H1 d (exd d (fsn.zip vs).reverse)) (hp.objs.size + 1) (exo (hp.objs.size + 1) C (some d))) (fun _ _ _ => False) := by
    refine ⟨_, vs, rfl, hl, upd_same, fun z => absurd z h0, fun z d hd ne => ⟨rfl, d, ?_, ne, upd_over ne⟩⟩
    rw [upd_ne ne] at hd
    exact hd
  have bound := hbn ⟨(hp.push (PySem.W.kdv_tup us)).push (PySem.HandSPX.excO C hp.objs.size), g, dr, tk, os⟩ (.ref (hp.objs.size + 1) :: us) I2.kIn (by simpa using (r.length.symm.trans hl))
  rw [List.append_nil] at bound
  refine wpAny_call (call_ownK hB.F (I1.kIn _ _ hC) (PySem.W.looks_findIn I1.kIn iC) (fun self => PySem.W.bind_fn I1.kIn self tI) hus
    (codeAny_mono (F.run _ X.stack _ _ _ (Value.ref (hp.objs.size + 1) :: us) (V.ref (hp.objs.size + 1) :: vs) _ (fun _ _ _ => False) ?_ ((hr.mono hk).make C us []) (I2.env0.make C us []) bound (.cons rfl r) sp1) fun res s3 hz => ?_))
  · first
      | exact hg
      | (simpa [Around.under, Code.isGuard, guardIds] using hg)
  · match res, hz with
    | .error er, hz => exact hx pins σ _ _ er s3 I2 hz
    | .ok (.ret u), hz =>
      obtain ⟨v, H2, os2, bare2, un2, hok2, rv, ev, d, hd1, ne, eH⟩ := hz
      subst ev
      subst eH
      obtain ⟨h2, g2, d2, t2, osx⟩ := s3
      refine ⟨rv, mk_end (raises_own c.T.xf.exC (oex_type c.T)) I1 big kept un2 hok2 os2 bare2 upd_same ((upd_ne ne).trans upd_same) hd1 ?_⟩
      rw [let_go new1 ne]
      exact q d hd1
    | .ok .next, hz => exact hz.elim
    | .ok .brk, hz => exact hz.elim
    | .ok .cont, hz => exact hz.elim
end
/-- what such a class answers to a clause -/
theorem exm_own {K : PySem.W.Frag} {C D : Addr} {b : Bool} (T : OexK K D) (h : PySem.W.subIn K (.ref C) (.ref D) = some b) : PySem.W.exmOne K (.ref C) (.ref D) = some b := PySem.W.exm_ref T.xf.exC T.xf.hdC (oex_type T) h
end Vk
set_option Elab.async false
set_option maxRecDepth 100000
set_option maxHeartbeats 4000000
set_option linter.all false
namespace Vk
open L2 PySem PySem.Spec PyProof.Rows PySem.VkX
/-! ## instances of own classes whose __init__ may raise, made by position and by all keywords in the other order -/
structure MakI (P : Program) (w : World) (K : PySem.W.Frag) (mg : Str → Option Value) (base : Heap) (CX : CXT) (k : Nat) (x : Str) (C : Addr) (fsn : List Str) (sp : Sp) : Prop where
  hm : mg x = some (.ref C)
  ex : ∃ (fI : Addr) (fd : FuncData), L2.Mk K C fI ∧ FnG P w K mg base CX k fI fd (("self" : Str) :: fsn) sp ∧ Binds K fd (("self" : Str) :: fsn) [] ∧
    (∀ (s : Shared) (v : Value) (ws : List Value), K.In s.heap → ws.length = fsn.length → BindsTo s fd ⟨[v], fsn.reverse.zip ws⟩ ((("self" : Str) :: fsn).zip (v :: ws.reverse)))
def Born (C : Addr) (sp : Sp) (vs : List V) (H : Hp) (Q : VK) (E : XK) : Prop := ∀ a dx, H a = none → H dx = none → dx ≠ a → sp (.ref a :: vs) (upd (upd H dx (.own a)) a (.ins C dx [])) (fun v H2 => v = .non ∧ Q (.ref a) H2) E
section
variable {X : Cx} {CX : CXT} {E : XK} {j k : Nat} {x : Str} {C : Addr} {fsn : List Str} {sp : Sp} {p pos : Pos} {e : Expr} {es : List Expr} {t : TA}
theorem born_run {pins : List (Addr × Obj)} {σ : L2.St} {H : Hp} {s : Shared} {Q : VK} {us : List Value} {kw : List (Str × Value)} {vs : List V} {zs : List Value} {fI : Addr} {fd : FuncData} (M : L2.Mk X.K C fI) (F : FnG X.prog X.w X.K X.mg X.base CX k fI fd (("self" : Str) :: fsn) sp)
    (hg : X.A.guards = some []) (hr : Room (k + 1) X.A) (hx : Passes CX X E) (I : Inv X pins σ H s) (r : Vals vs zs) (q : Born C sp vs H Q E)
    (hb : ∀ s2 : Shared, X.K.In s2.heap → ∀ a : Addr, BindsTo s2 fd ⟨.ref a :: us, kw⟩ ((("self" : Str) :: fsn).zip (.ref a :: zs))) : wpAny (model X.prog X.w) X.A (call (.ref C) us kw) (EP X pins σ Q) X.xe s := by
  have I2 := Inv.made (C := C) I
  have asked := q (s.heap.objs.size + 1) s.heap.objs.size (I.hok.fresh (Nat.le_succ _)) (I.hok.fresh (Nat.le_refl _)) (Nat.ne_of_lt (Nat.lt_succ_self _))
  refine wpAny_call (make_map (f := fI) I.kIn M.makes M.init (beq_iff_eq.mp M.fn) (codeAny_mono (F.run _ X.stack _ _ _ (Value.ref (s.heap.objs.size + 1) :: zs) (V.ref (s.heap.objs.size + 1) :: vs) _ E ?_ (hr.make C us kw) (I2.env0.make C us kw) (hb _ I2.kIn _) (.cons rfl r) asked) fun res s3 hz => ?_))
  · first
      | exact hg
      | (simpa [Around.under, Code.isGuard, guardIds] using hg)
  · match res, hz with
    | .error er, hz => exact hx pins σ _ _ er s3 I2 hz
    | .ok (.ret u), hz =>
      obtain ⟨v, H2, I3, rv, ev, q3⟩ := I2.after hz
      subst ev
      exact ⟨rv, V.ref (s.heap.objs.size + 1), H2, I3, rfl, q3⟩
    | .ok .next, hz => exact hz.elim
    | .ok .brk, hz => exact hz.elim
    | .ok .cont, hz => exact hz.elim
def tIns (C : Addr) (n : Nat) (sp : Sp) (E : XK) (t : TA) : TE := fun σ H Q => t σ H fun vs H1 => vs.length = n ∧ Born C sp vs H1 Q E
def tInsW (C : Addr) (n : Nat) (sp : Sp) (E : XK) (t : TA) : TE := fun σ H Q => t σ H fun vs H1 => vs.length = n ∧ Born C sp vs.reverse H1 Q E
theorem pe_ins (c : MakI X.prog X.w X.K X.mg X.base CX k x C fsn sp) (hg : X.A.guards = some []) (hr : Room j X.A) (hk : k + 1 ≤ j) (hx : Passes CX X E) (ha : PA X (e :: es) t) (gl : Gl X x := by rfl)
    (hdb : (x == ("__debug__" : Str)) = false := by decide) (he : starEach (e :: es) X.env = (false, eval e X.env) :: starEach es X.env := by rfl) (hpl : (backTo pos (starEach es X.env)).any (·.1) = false := by rfl) :
    PE X (.Call (.Name x p) (e :: es) [] pos) (tIns C fsn.length sp E t) := by
  obtain ⟨fI, fd, M, F, hb, hbk⟩ := c.ex
  refine ⟨fun pins s σ H Q I h => wpAny_Call_Name_kw (ld_glob I gl c.hm (PySem.W.callWith_K (h₀ := X.base) I.ok.mod.kin M.kp (thn (ha.run pos pins s σ H _ I h) fun us s1 hh => ?_) he hpl) hdb)⟩
  obtain ⟨vs, H1, I1, r, hl, q⟩ := hh
  refine ⟨I1.kIn, born_run (us := us) (kw := []) M F hg (hr.mono hk) hx I1 r q fun s2 K2 a => ?_⟩
  have b := hb s2 (.ref a :: us) K2 (by simpa using (r.length.symm.trans hl))
  rw [List.append_nil] at b
  exact b
theorem pe_insW {kws : List Keyword} {tk : TA} (c : MakI X.prog X.w X.K X.mg X.base CX k x C fsn sp) (hg : X.A.guards = some []) (hr : Room j X.A) (hk : k + 1 ≤ j) (hx : Passes CX X E) (hkw : PK X kws tk) (gl : Gl X x := by rfl)
    (hall : (backToKw pos (keywordEach kws X.env)).all (·.1.isSome) = true := by rfl) (hks : (backToKw pos (keywordEach kws X.env)).filterMap (·.1) = fsn.reverse := by rfl) (hdb : (x == ("__debug__" : Str)) = false := by decide)
    (hpl : ((backTo pos (starEach [] X.env)).any (·.1) || (backToKw pos (keywordEach kws X.env)).any (·.1.isNone)) = false := by rfl) :
    PE X (.Call (.Name x p) [] kws pos) (tInsW C fsn.length sp E tk) := by
  obtain ⟨fI, fd, M, F, hb, hbk⟩ := c.ex
  refine ⟨fun pins s σ H Q I h => wpAny_Call_Name_kw (ld_glob I gl c.hm (PySem.W.callWith_KW0 (h₀ := X.base) I.ok.mod.kin M.kp hall (thn (hkw.run pos pins s σ H _ I h) fun ws s2 hh => ?_) hpl) hdb)⟩
  obtain ⟨vs, H2, I2, rz, l2, q2⟩ := hh
  refine ⟨I2.kIn, ?_⟩
  rw [hks]
  exact born_run (us := []) (zs := ws.reverse) M F hg (hr.mono hk) hx I2 (vals_back rz) q2 fun s3 K3 a => hbk s3 _ ws K3 (rz.length.symm.trans l2)
end
end Vk
set_option Elab.async false
set_option maxRecDepth 100000
set_option maxHeartbeats 4000000
set_option linter.all false
namespace Vk
open L2 PySem PySem.Spec PyProof.Rows PySem.VkX LamX NdefX
/-! ## a lambda as a value: made in a def, kept in lists, handed to a def that calls it -/
structure LF where
  qual : Str
  params : Arguments
  body : Expr
  scope : Scope
  cl : List (Str × Addr)
  c : Addr
def LF.nf (F : LF) : NF := ⟨"<lambda>", F.qual, F.params, [], F.scope, F.cl, F.c⟩
def LamO (f : Addr) (F : LF) : HO := .ext fun h => ∃ pm ctv : Value, h.get? f = some (PySem.W.kla_obj "<lambda>" F.qual F.params F.body F.scope F.cl pm F.c ctv)
theorem lamO_ne {f : Addr} {F : LF} (ps : Array Value) : LamO f F ≠ .tbl ps := fun z => by
  unfold LamO at z
  cases z
theorem lamO_at {P : Program} {w : World} {H : Hp} {h : Heap} {f : Addr} {F : LF} (ok : HOk P w H h) (e : H f = some (LamO f F)) : ∃ pm ctv : Value, h.get? f = some (PySem.W.kla_obj "<lambda>" F.qual F.params F.body F.scope F.cl pm F.c ctv) := (ok f _ e).1
section
variable {X : Cx} {pins : List (Addr × Obj)} {σ : L2.St} {H : Hp} {s : Shared}
theorem inv_lam {F : LF} {t' : Nat} {pm ctv : Value} (I : Inv X pins σ H s) :
    Inv X pins σ (upd H s.heap.objs.size (LamO s.heap.objs.size F)) { s with heap := s.heap.push (PySem.W.kla_obj "<lambda>" F.qual F.params F.body F.scope F.cl pm F.c ctv), toks := t' } := by
  have at1 : (s.heap.push (PySem.W.kla_obj "<lambda>" F.qual F.params F.body F.scope F.cl pm F.c ctv)).get? s.heap.objs.size = some (PySem.W.kla_obj "<lambda>" F.qual F.params F.body F.scope F.cl pm F.c ctv) := Heap.get?_push_size _ rfl
  exact I.laid (a := s.heap.objs.size) (fun b u q => Heap.get?_push_of_some _ q) (Nat.le_refl _) ⟨⟨pm, ctv, at1⟩, ⟨_, at1⟩, fun h1 h2 ⟨p, t, z⟩ stays => ⟨p, t, stays _ z⟩⟩
/-- the maker's table and code object, T the tables -/
theorem lam_new {T : List (Addr × Str)} {c P : Addr} {params : Arguments} {body : Expr} {scope : Scope} {pos : Pos} {E : Value → Shared → Prop} {Q : Value → Shared → Prop} (I : Inv X pins σ H s) (tb : TabB X.base X.mg c P) (code : X.env.code = .ref c)
    (mem : (P, X.env.qual ++ "<lambda>") ∈ T) (one : ∀ p ∈ T, p.1 = P → p.2 = X.env.qual ++ "<lambda>") (tabs : Tabs T H) (dflt : defaultsOf params X.env = ([], [])) (free : ∀ y ∈ scope.names, y.2 = .free → ∃ c, X.env.cells.lookup y.1 = some c)
    (k : ∀ (f c' : Addr) (H1 : Hp) (s' : Shared), Inv X pins σ H1 s' → ExtN H H1 → (∀ b, H1 b = none → H b = none) → Tabs T H1 → H f = none → H1 f = some (LamO f ⟨X.env.qual ++ "<lambda>", params, body, scope, cloFrom X.env.cells scope.names [], c'⟩) → H1 c' = some (CodeO c' (X.env.qual ++ "<lambda>")) → Q (.ref f) s') :
    wpAny (model X.prog X.w) X.A (eval (.Lambda params body scope pos) X.env) Q E s := by
  obtain ⟨ps, tP, trip, told⟩ := tabs _ mem
  have lies : s.heap.get? P = some { cls := .none, data := .fields ps } := I.hok P _ tP
  have blt : s.heap.BuiltinsAt X.mg P := tb.bm.keeps I.bk
  refine PySem.W.kla_eval dflt ?_
  match among : codeAmong pos ps.toList with
  | some cv =>
    obtain ⟨c', rfl, is⟩ := told pos cv among
    refine PySem.W.kla_makeFunctionHit (mg := X.mg) (c := c) (P := P) (ps := ps) (closure_ok free) I.ok.glob (I.mod.glob.keeps I.bk) code (tb.code.keeps I.bk) lies trip among blt fun ctv h' tk grown big => ?_
    have I1 : Inv X pins σ H { s with heap := h', toks := tk } := I.kept grown
    have new1 : H h'.objs.size = none := I1.hok.fresh (Nat.le_refl _)
    refine k h'.objs.size c' _ _ (inv_lam (F := ⟨X.env.qual ++ "<lambda>", params, body, scope, cloFrom X.env.cells scope.names [], c'⟩) (t' := tk) (pm := (X.mg "__name__").getD .none) (ctv := ctv) I1) (fun b o e n => ?_) (fun b e => upd_none e) (tabs.ext fun b o e => ?_) new1 upd_same ?_
    · rw [upd_ne (ne_of_none e new1)]; exact e
    · rw [upd_ne (ne_of_none e new1)]; exact e
    · rw [upd_ne (ne_of_none is new1)]; exact is
  | none =>
    refine PySem.W.kla_makeFunction (mg := X.mg) (c := c) (P := P) (ps := ps) (closure_ok free) I.ok.glob (I.mod.glob.keeps I.bk) code (tb.code.keeps I.bk) lies trip among tb.gP blt fun c' ctv h' tk grown low high rec2 put => ?_
    obtain ⟨c2, oc, vs, t, ec, hoc, hd, hv⟩ := rec2
    cases ec
    have newC : H c' = none := I.hok.fresh low
    have I1 := inv_table (t' := tk) (more := #[rawInt pos.line, rawInt pos.col, .ref c']) (h' := h') I tP (fun b o hb e => grown b o hb e) put low ⟨oc, vs, t, hoc, hd, hv⟩
    have out1 : ExtN H (upd (upd H P (.tbl (ps ++ #[rawInt pos.line, rawInt pos.col, .ref c']))) c' (CodeO c' (X.env.qual ++ "<lambda>"))) := fun b o e n => by
      have hb : b ≠ P := fun z => n ps (Option.some.inj (e.symm.trans (z ▸ tP)))
      rw [upd_ne (ne_of_none e newC), upd_ne hb]
      exact e
    have tabs1 : Tabs T (upd (upd H P (.tbl (ps ++ #[rawInt pos.line, rawInt pos.col, .ref c']))) c' (CodeO c' (X.env.qual ++ "<lambda>"))) := fun p hp => by
      by_cases hb : p.1 = P
      · rw [one p hp hb, hb]
        have whole : (ps ++ #[rawInt pos.line, rawInt pos.col, .ref c']).toList = ps.toList ++ [rawInt pos.line, rawInt pos.col, .ref c'] := by simp
        refine ⟨_, by rw [upd_ne (ne_of_none tP newC), upd_same], by rw [whole]; exact PySem.TriplesOk_snoc _ _ _ _ trip, fun p' cv hcv => ?_⟩
        rw [whole] at hcv
        rcases among_app _ trip hcv with z | z
        · obtain ⟨c0, e1, e2⟩ := told p' cv z
          exact ⟨c0, e1, out1 _ _ e2 codeO_ne⟩
        · exact ⟨c', z, upd_same⟩
      · obtain ⟨ps', a1, a2, a3⟩ := tabs p hp
        refine ⟨ps', by rw [upd_ne (ne_of_none a1 newC), upd_ne hb]; exact a1, a2, fun p' cv hcv => ?_⟩
        obtain ⟨c0, e1, e2⟩ := a3 p' cv hcv
        exact ⟨c0, e1, out1 _ _ e2 codeO_ne⟩
    have newF := I1.hok.fresh (Nat.le_refl _)
    have newF0 : H h'.objs.size = none := upd_none (upd_none newF)
    refine k h'.objs.size c' _ _ (inv_lam (F := ⟨X.env.qual ++ "<lambda>", params, body, scope, cloFrom X.env.cells scope.names [], c'⟩) (t' := tk) (pm := (X.mg "__name__").getD .none) (ctv := ctv) I1) (fun b o e n => ?_) (fun b e => upd_none (upd_none (upd_none e))) (tabs1.ext fun b o e => ?_) newF0 upd_same ?_
    · have e1 := out1 b o e n
      rw [upd_ne (ne_of_none e1 newF)]; exact e1
    · rw [upd_ne (ne_of_none e newF)]; exact e
    · rw [upd_ne (Nat.ne_of_lt high)]; exact upd_same
end
def tLamV (T : List (Addr × Str)) (mk : Addr → LF) : TE := fun σ H Q => Tabs T H ∧ ∀ (f c' : Addr) (H1 : Hp), ExtN H H1 → (∀ b, H1 b = none → H b = none) → Tabs T H1 → H f = none → H1 f = some (LamO f (mk c')) → H1 c' = some (CodeO c' (mk c').qual) → Q (.ref f) H1
section
variable {X : Cx}
theorem pe_lamv {T : List (Addr × Str)} {c P : Addr} {params : Arguments} {body : Expr} {scope : Scope} {pos : Pos} (tb : TabB X.base X.mg c P) (code : X.env.code = .ref c) (mem : (P, X.env.qual ++ "<lambda>") ∈ T) (one : ∀ p ∈ T, p.1 = P → p.2 = X.env.qual ++ "<lambda>")
    (dflt : defaultsOf params X.env = ([], [])) (free : ∀ y ∈ scope.names, y.2 = .free → X.env.scope.names.lookup y.1 = some .cell ∨ X.env.scope.names.lookup y.1 = some .free) :
    PE X (.Lambda params body scope pos) (tLamV T fun c' => ⟨X.env.qual ++ "<lambda>", params, body, scope, cloFrom X.env.cells scope.names [], c'⟩) := by
  refine ⟨fun pins s σ H Q I h => lam_new I tb code mem one h.1 dflt (fun y hy e => I.ok.has y.1 (free y hy e)) fun f c' H1 s' I1 x1 b1 t1 n1 f1 c1 => ?_⟩
  exact ⟨.ref f, H1, I1, rfl, h.2 f c' H1 x1 b1 t1 n1 f1 c1⟩
end
/-! ### what it does -/
abbrev SpL := List (Option V) → Hp → VK → XK → Prop
structure LamK (P : Program) (w : World) (K : PySem.W.Frag) (mg : Str → Option Value) (base : Heap) (k : Nat) (F : LF) (fr : List Str) (sp : SpL) : Prop where
  run : ∀ (A : Around) (outer : List Env) (s : Shared) (H : Hp) (f : Addr) (ws : List (Option V)) (Q : VK) (E : XK), A.guards = some [] → Room k A → Env0 P w K mg base A outer s H → H f = some (LamO f F) → H F.c = some (CodeO F.c F.qual) → CellsAt F.cl fr ws s.heap H → sp ws H Q E →
    codeAny (model P w) A (.call (.ref f) ⟨[], []⟩) (CR (L2.CX P w) outer P w H s Q E) s
section
variable {P : Program} {w : World} {K : PySem.W.Frag} {mg : Str → Option Value} {base : Heap} {N fr : List Str} {F : LF} {k j : Nat} {sp : SpL}
theorem LamK.mono (l : LamK P w K mg base j F fr sp) (h : j ≤ k) : LamK P w K mg base k F fr sp := ⟨fun A outer s H f ws Q E hg hr => l.run A outer s H f ws Q E hg (hr.mono h)⟩
theorem lamk_of (S : NScope N [] fr F.scope) (hb : ∀ pm ctv : Value, bindArgs (PySem.W.kla_fn "<lambda>" F.qual F.params F.body F.scope F.cl pm (.ref F.c) ctv) ⟨[], []⟩ = pure [])
    (body : ∀ (A : Around) (outer : List Env) (s : Shared) (H : Hp) (f : Addr) (ws : List (Option V)) (Q : VK) (E : XK), A.guards = some [] → Room k (A.deeper (envF F.nf f s.heap.objs.size)) → ws.length = fr.length → sp ws H Q E →
      ∃ t, PE (ncx (L2.CX P w) P w K mg base N F.nf f A outer s H E) F.body t ∧ t (startF N [] ws) H Q) : LamK P w K mg base (k + 1) F fr sp := by
  refine ⟨fun A outer s H f ws Q E hg hr e0 hf hc C hsp => ?_⟩
  have lim : s.heap.NoLimit := e0.mod.nolimit.keeps fun b o e => (e0.bs b o e).1
  obtain ⟨pm, ctv, ho⟩ := lamO_at e0.hok hf
  refine PySem.W.kla_callFunE hr.depth ho rfl S.co S.gen rfl (codeO_at e0.hok hc) ?_
  rw [hb pm ctv]
  refine wpAny_pure (wpAny_newFunctionEnv S.nocell (fun y hy => absurd hy (List.not_mem_nil (a := y))) (fun h1 hns hsb => ⟨lim.fresh _ hsb, ?_⟩) S.kind)
  have kp : ∀ b o, s.heap.get? b = some o → h1.get? b = some o := fun b o e => hsb.extBut b o (Nat.ne_of_lt (Heap.lt_size e)) (Heap.get?_push_of_some _ e)
  obtain ⟨t, ht, hq⟩ := body A outer s H f ws Q E hg (hr.deeper _) C.len hsp
  have I : Inv (ncx (L2.CX P w) P w K mg base N F.nf f A outer s H E) [] (startF N [] ws) H { s with heap := h1, toks := s.toks + ([] : List (Str × Value)).length } := inv_startN (ps := []) (us := []) (vs := []) S hr.hd e0 rfl .nil C hns kp
  refine PySem.W.kla_codeExpr (wpAny_mono (ht.run [] _ _ H Q I hq) (fun v s' hv => ?_) fun e s' hv => hv)
  obtain ⟨v1, H1, J, rv, q⟩ := hv
  exact ⟨v1, H1, J.os, J.bare, J.base, J.hok, rv, q⟩
end
/-! ### called by the def that got it -/
theorem cells_later {X : Cx} {pins : List (Addr × Obj)} {σ : L2.St} {H : Hp} {s : Shared} {cl : List (Str × Addr)} {fr : List Str} {ws : List (Option V)} (C : CellsAt cl fr ws X.s_0.heap X.H_0) (hx : X.ex = []) (I : Inv X pins σ H s) : CellsAt cl fr ws s.heap H := by
  have out : ∀ c : Addr, c ∉ X.ex := fun c z => by
    rw [hx] at z
    exact absurd z (List.not_mem_nil (a := c))
  have same : ∀ y c, cl.lookup y = some c → ∀ v, X.s_0.heap.IsCell c v → s.heap.IsCell c v := fun y c e v ⟨o, ho, hd⟩ => by
    obtain ⟨sl, z⟩ := I.base.any ho (C.all y c e).1 (out c)
    exact ⟨_, z, hd⟩
  refine ⟨C.len, fun y c e => ?_, C.inj, fun i y e => ?_⟩
  · obtain ⟨n, v, z⟩ := C.all y c e
    have z2 := same y c e v z
    obtain ⟨o, ho, _⟩ := z
    exact ⟨I.base.free c o ho n (out c), v, z2⟩
  · obtain ⟨c, hc, hv⟩ := C.has i y e
    refine ⟨c, hc, fun v ev => ?_⟩
    obtain ⟨u, r, z⟩ := hv v ev
    exact ⟨u, r, same y c hc _ z⟩
section
variable {X : Cx} {F : LF} {fr : List Str} {ws : List (Option V)} {i j k : Nat} {x : Str} {sp : SpL} {E : XK} {p pos : Pos} {f0 : Addr}
/-- x(), x a name that holds the lambda -/
theorem pe_lamact (C : CellsAt F.cl fr ws X.s_0.heap X.H_0) (hx0 : X.ex = []) (L : LamK X.prog X.w X.K X.mg X.base k F fr sp) (hg : X.A.guards = some []) (hr : Room j X.A) (hk : k ≤ j) (hx : Passes (L2.CX X.prog X.w) X E) (hN : X.N[i]? = some x) (hv : Vis X.env.scope x)
    (hd : (x == ("__debug__" : Str)) = false := by decide) (hcd : (x == ("__classdict__" : Str)) = false := by decide) :
    PE X (.Call (.Name x p) [] [] pos) (fun σ H Q => σ[i]? = some (some (.ref f0)) ∧ H f0 = some (LamO f0 F) ∧ H F.c = some (CodeO F.c F.qual) ∧ sp ws H Q E) := by
  refine ⟨fun pins s σ H Q I h => ?_⟩
  obtain ⟨hs, hf, hc, hsp⟩ := h
  refine wpAny_Call_Name_kw (thn ((pe_var (pos := p) hN hv hd hcd).run pins s σ H (fun v H1 => v = .ref f0 ∧ H1 = H) I ⟨.ref f0, hs, rfl, rfl⟩) fun u s1 ⟨v, H1, I1, r1, q1⟩ => ?_)
  obtain ⟨ev, eH⟩ := q1
  subst ev
  subst eH
  obtain rfl : u = Value.ref f0 := r1
  obtain ⟨pm, ctv, ho⟩ := lamO_at I1.hok hf
  refine PySem.W.callWith_F0 ⟨_, _, _, _, ho⟩ (wpAny_call (codeAny_mono (L.run X.A X.stack s1 H1 f0 ws Q E hg (hr.mono hk) I1.env0 hf hc (cells_later C hx0 I1) hsp) fun r s2 hq => ?_))
  match r, hq with
  | .error e, hq => exact hx pins σ H1 s1 e s2 I1 hq
  | .ok (.ret u), hq => exact I1.after hq
  | .ok .next, hq => exact hq.elim
  | .ok .brk, hq => exact hq.elim
  | .ok .cont, hq => exact hq.elim
end
/-! ### defs whose promise speaks of the cells that the heap holds -/
structure FnH (P : Program) (w : World) (K : PySem.W.Frag) (mg : Str → Option Value) (base : Heap) (CX : CXT) (k : Nat) (f : Addr) (fd : FuncData) (ps : List Str) (sp : Heap → Sp) : Prop where
  len : ∀ h vs H Q E, sp h vs H Q E → vs.length = ps.length
  run : ∀ (A : Around) (outer : List Env) (s : Shared) (H : Hp) (args : Args) (us : List Value) (vs : List V) (Q : VK) (E : XK), A.guards = some [] → Room k A → Env0 P w K mg base A outer s H → BindsTo s fd args (ps.zip us) → Vals vs us → sp s.heap vs H Q E →
    codeAny (model P w) A (.call (.ref f) args) (CR CX outer P w H s Q E) s
theorem okH {P : Program} {w : World} {K : PySem.W.Frag} {mg : Str → Option Value} {base : Heap} {CX : CXT} {x qual : Str} {st : Stmt} {f : Addr} {fd : FuncData} {N ps : List Str} {k : Nat} {sp : Heap → Sp} (F : Fun K x qual st f fd) (S : FnScope N ps (defScope st)) (hlen : ∀ h vs H Q E, sp h vs H Q E → vs.length = ps.length)
    (hbody : ∀ (cdv : Value) (A : Around) (outer : List Env) (s : Shared) (H : Hp) (vs : List V) (Q : VK) (E : XK), A.guards = some [] → Room k (A.deeper (envOfC qual (defScope st) s.heap.objs.size f cdv)) → sp s.heap vs H Q E →
      ∃ t, PSs (cxOf CX P w K mg base N qual (defScope st) f cdv A outer s H E) (defBody st) t ∧ t { nx := fun _ H' => Q .non H', rt := Q } (start N vs) H) : FnH P w K mg base CX (k + 1) f fd ps sp := by
  refine ⟨hlen, fun A outer s H args us vs Q E hg hr e0 hb r hsp => ?_⟩
  obtain ⟨oc, od, kV, doc, pm, an, cdv, ct, osl, rfl, lk, hcd⟩ := F.ex
  exact run_ofS lk hcd S hr e0 hb r (hlen _ _ _ _ _ hsp) fun hr2 => hbody cdv A outer s H vs Q E hg hr2 hsp
structure CalH (P : Program) (w : World) (K : PySem.W.Frag) (mg : Str → Option Value) (base : Heap) (CX : CXT) (k : Nat) (x : Str) (sp : Heap → Sp) : Prop where
  ex : ∃ (f : Addr) (fd : FuncData) (ps : List Str), FnH P w K mg base CX k f fd ps sp ∧ mg x = some (.ref f) ∧ PySem.W.keepIn K (.ref f) = true ∧ Binds K fd ps []
/-- x(e, ..): rd says of the values and the names what the call asks -/
def tCallH (rd : L2.St → List V → Hp → VK → Prop) (t : TA) : TE := fun σ H Q => t σ H fun vs H1 => rd σ vs H1 Q
section
variable {X : Cx} {CX : CXT} {j k : Nat} {x : Str} {sp : Heap → Sp} {E : XK} {p pos : Pos} {e : Expr} {es : List Expr} {t : TA} {rd : L2.St → List V → Hp → VK → Prop}
theorem pe_cH (c : CalH X.prog X.w X.K X.mg X.base CX k x sp) (hg : X.A.guards = some []) (hr : Room j X.A) (hk : k ≤ j) (hx : Passes CX X E) (ha : PA X (e :: es) t)
    (asks : ∀ (pins : List (Addr × Obj)) (s : Shared) (σ : L2.St) (H : Hp) (vs : List V) (Q : VK), Inv X pins σ H s → rd σ vs H Q → sp s.heap vs H Q E) (gl : Gl X x := by rfl)
    (hdb : (x == ("__debug__" : Str)) = false := by decide) (he : starEach (e :: es) X.env = (false, eval e X.env) :: starEach es X.env := by rfl) (hpl : (backTo pos (starEach es X.env)).any (·.1) = false := by rfl) :
    PE X (.Call (.Name x p) (e :: es) [] pos) (tCallH rd t) := by
  obtain ⟨f, fd, ps, F, hm, kp, hb⟩ := c.ex
  refine ⟨fun pins s σ H Q I h => wpAny_Call_Name_kw (ld_glob I gl hm (PySem.W.callWith_K (h₀ := X.base) I.ok.mod.kin kp (thn (ha.run pos pins s σ H _ I h) fun us s1 hh => ?_) he hpl) hdb)⟩
  obtain ⟨vs, H1, I1, r, q⟩ := hh
  have q := asks pins s1 σ H1 vs Q I1 q
  have hl : us.length = ps.length := r.length.symm.trans (F.len _ _ _ _ _ q)
  have b := hb s1 us I1.kIn ((congrArg List.length (List.append_nil us)).trans hl)
  rw [List.append_nil] at b
  refine ⟨I1.kIn, wpAny_call (codeAny_mono (F.run X.A X.stack s1 H1 ⟨us, []⟩ us vs Q E hg (hr.mono hk) I1.env0 b r q) (fun res s2 hq => ?_))⟩
  match res, hq with
  | .error e, hq => exact hx pins σ H1 s1 e s2 I1 hq
  | .ok (.ret u), hq => exact I1.after hq
  | .ok .next, hq => exact hq.elim
  | .ok .brk, hq => exact hq.elim
  | .ok .cont, hq => exact hq.elim
end
/-! ### isinstance(e, T) of a caught exception that has fields -/
theorem call_isEd {X : Cx} {a C : Addr} {cls : Value} {d : Option Addr} {oe : Obj} {pn : List (Addr × Obj)} (T : OexK X.K C) (hz : Zc cls d oe) (hf : ∃ vs, oe.data = .fields vs) :
    CallR (X.suite a ((a, oe) :: pn)) (.builtin "isinstance") (fun xs H Q => ∃ (c : V) (cv : Value) (b : Bool) (dd : Addr) (fs : List (Str × V)), xs = [.ref a, c] ∧ cls = .ref C ∧ d = some dd ∧ H dd = some (.xd fs) ∧ (∀ u, RelV c u → u = cv) ∧ PySem.W.kitOne X.K (.ref C) cv = some b ∧ Q (.bl b) H) := by
  intro pins s σ H xs us Q I r h
  obtain ⟨c, cv, b, dd, fs, rfl, rfl, rfl, ed, hc, e, q⟩ := h
  obtain ⟨u1, u2, rfl, r1, r2⟩ := vals2 r
  cases (show u1 = Value.ref a from r1)
  cases hc u2 r2
  obtain ⟨ha, _⟩ := I.pin (a, oe) (List.mem_append_left _ List.mem_cons_self)
  obtain ⟨vs, hd⟩ := hf
  obtain ⟨mA, hns, hr⟩ := (show ObjOk X.prog X.w H s.heap dd (.xd fs) from I.hok dd _ ed)
  obtain ⟨od, ho, hl⟩ := lookIn_ns hns
  have J : PySem.W.InstAt s.heap a oe C (some od) := ⟨ha, hz.1, by unfold PySem.W.notCls; rw [hd] <;> rfl, by rw [hz.2]; exact ho⟩
  obtain ⟨B, newId, initId, tl, nm, q1, N, bs, sn, sub, ab, col, dd2, k0, k1, k2, k3, k5, hB, hC⟩ := T.cls
  have hcl : (PySem.W.clsIn X.K C).isSome = true := by unfold PySem.W.clsIn; rw [hC] <;> rfl
  exact PySem.W.kia_one (PySem.W.kitx_exc hcl T.ic.hg T.ic.hk T.ic.hs T.ic.ha T.ic.hn T.ic.ht T.ic.hm) I.kIn J e (fun z => nomatch z) fun tk => ⟨.bl b, H, I.tok tk, rfl, q⟩
theorem passes_len {X : Cx} {W : WX} {E : XK} (tk : Takes X W) (hW : ∀ cls d σ H, σ.length = X.N.length → E cls d H → W cls d σ H) : Passes (L2.CX X.prog X.w) X E := fun _ σ _ _ e s' I c => tk e s' (XE.of_call I (fun cls d H' h => hW cls d σ H' I.len h) c)
/-- try: return x() of a lambda that x holds -/
def tTryLam (f : Addr) (F : LF) (ws : List (Option V)) (sp : SpL) (n : Nat) : WX → TS := fun W D σ H => ∃ E : XK, (∀ cls d (σ' : L2.St) H', σ'.length = n → E cls d H' → W cls d σ' H') ∧ σ[0]? = some (some (.ref f)) ∧ H f = some (LamO f F) ∧ H F.c = some (CodeO F.c F.qual) ∧ sp ws H D.rt E
theorem pss_tryLam {X : Cx} {W : WX} {pn : List (Addr × Obj)} {xe : Value → Shared → Prop} {f : Addr} {F : LF} {fr : List Str} {ws : List (Option V)} {sp : SpL} {j k n : Nat} {x : Str} {p1 p2 p3 : Pos} (tk : Takes (X.tr pn xe) W) (C : CellsAt F.cl fr ws X.s_0.heap X.H_0) (hx0 : X.ex = [])
    (L : LamK X.prog X.w X.K X.mg X.base k F fr sp) (hg : X.A.guards = some []) (hr : Room j X.A) (hk : k ≤ j) (hl : X.N.length = n) (hN : X.N[0]? = some x) (hv : Vis X.env.scope x) (hd : (x == ("__debug__" : Str)) = false := by decide) (hcd : (x == ("__classdict__" : Str)) = false := by decide) :
    PSs (X.tr pn xe) [.Return (some (.Call (.Name x p1) [] [] p2)) p3] (tTryLam f F ws sp n W) := by
  refine ⟨fun pins s σ H D I h => ?_⟩
  obtain ⟨E, hW, h1, h2, h3, h4⟩ := h
  exact (pss_one (ps_ret (pe_lamact (X := X.tr pn xe) (f0 := f) C hx0 L hg hr hk (passes_len tk fun cls d σ' H' le => hW cls d σ' H' (le.trans hl)) hN hv hd hcd))).run pins s σ H D I ⟨h1, h2, h3, h4⟩
/-! ### a def whose code object is known -/
structure FunC (K : PySem.W.Frag) (x qual : Str) (st : Stmt) (f : Addr) (fd : FuncData) (c : Addr) : Prop where
  ex : ∃ (oc : Value) (od : Option Addr) (kV doc pm : Value) (an : Option Addr) (ct : Value) (sl : Array (Option Value)), fd = PySem.W.fnOf x qual (defArgs st) (defBody st) (defScope st) .none kV doc pm an (.ref c) ct ∧ K.lookup f = some ⟨oc, od, .func fd, sl⟩ ∧ PySem.W.codeIn K (.ref c) qual = true
  kp : PySem.W.keepIn K (.ref f) = true
theorem FunC.fn {K : PySem.W.Frag} {x qual : Str} {st : Stmt} {f c : Addr} {fd : FuncData} (F : FunC K x qual st f fd c) : Fun K x qual st f fd := by
  obtain ⟨oc, od, kV, doc, pm, an, ct, sl, e, l, hc⟩ := F.ex
  exact ⟨⟨oc, od, kV, doc, pm, an, .ref c, ct, sl, e, l, hc⟩, F.kp⟩
theorem okC0 {P : Program} {w : World} {K : PySem.W.Frag} {mg : Str → Option Value} {base : Heap} {x qual : Str} {st : Stmt} {f c : Addr} {fd : FuncData} {N ps : List Str} {k : Nat} {sp : Sp} (F : FunC K x qual st f fd c) (S : FnScope N ps (defScope st)) (hlen : ∀ vs H Q E, sp vs H Q E → vs.length = ps.length)
    (hbody : ∀ (A : Around) (outer : List Env) (s : Shared) (H : Hp) (vs : List V) (Q : VK) (E : XK), A.guards = some [] → Room k (A.deeper (envOfC qual (defScope st) s.heap.objs.size f (.ref c))) → sp vs H Q E →
      ∃ t, PSs (cxOf CX0 P w K mg base N qual (defScope st) f (.ref c) A outer s H E).nox (defBody st) t ∧ t { nx := fun _ H' => Q .non H', rt := Q } (start N vs) H) : FnG P w K mg base CX0 (k + 1) f fd ps sp := by
  refine ⟨hlen, fun A outer s H args us vs Q E hg hr e0 hb r hsp => ?_⟩
  obtain ⟨oc, od, kV, doc, pm, an, ct, sl, rfl, lk, hcd⟩ := F.ex
  refine run_ofS lk hcd S hr e0 hb r (hlen _ _ _ _ hsp) fun hr2 => ?_
  obtain ⟨t, ht, hq⟩ := hbody A outer s H vs Q E hg hr2 hsp
  exact ⟨t, ht.nox, hq⟩
end Vk
set_option Elab.async false
set_option maxRecDepth 100000
set_option maxHeartbeats 4000000
set_option linter.all false
namespace Vk
open PySem PySem.Spec PyProof.Rows L2
/-! ## x[::-1], x a text -/
theorem back_idx (n : Nat) : Builtin.Str.strSliceIndices none none (-1) n = (List.range n).reverse := by
  rw [← PySem.W.krv_range, ← PySem.W.krv_sliceRange]
  rfl
/-- read from the end -/
def backS (z : Str) : Str := ⟨z.cps.toList.reverse.toArray⟩
def tRevS (te : TE) : TE := fun σ H Q => te σ H fun x H1 => ∃ z, x = .str z ∧ z.length ≤ sizeLine ∧ Q (.str (backS z)) H1
theorem pe_revS {X : Cx} {e : Expr} {te : TE} {k : Nat} {p1 p2 p3 pos : Pos} (he : PE X e te) : PE X (.Subscript e (.Slice none none (some (.UnaryOp .USub (.Constant (.int 1) k p1) p2)) p3) pos) (tRevS te) := by
  refine ⟨fun pins s σ H Q I h => ?_⟩
  refine Subscript_ (thn (he.run pins s σ H _ I h) fun v s1 ⟨x, H1, I1, r1, q1⟩ => ?_)
  obtain ⟨z, rfl, hz, q⟩ := q1
  obtain ⟨t, rfl⟩ := r1
  have step : PO X (some (.UnaryOp .USub (.Constant (.int 1) k p1) p2)) (tPart (tUn (rU fun i => .int (-i)) (tC (.int 1)))) := po_some (pe_un un_neg pe_int)
  refine wpAny_Slice (thn (po_none.run pins s1 σ H1 (fun o H2 => o = none ∧ H2 = H1) I1 ⟨rfl, rfl⟩) fun vl s2 ⟨l, H2, I2, pl, el, e2⟩ => ?_)
  subst el e2
  refine thn (po_none.run pins s2 σ H2 (fun o H3 => o = none ∧ H3 = H2) I2 ⟨rfl, rfl⟩) fun vu s3 ⟨u, H3, I3, pu, eu, e3⟩ => ?_
  subst eu e3
  refine thn (step.run pins s3 σ H3 (fun o H4 => o = some (-1) ∧ H4 = H3) I3 ⟨1, rfl, -1, rfl, rfl, rfl⟩) fun vs s4 ⟨o, H4, I4, ps, eo, e4⟩ => ?_
  subst eo e4
  have I5 : Inv X pins σ H4 { s4 with heap := s4.heap.push { cls := .type "slice", data := .fields #[vl, vu, vs] } } := I4.kept (t' := s4.toks) fun b ob q => Heap.get?_push_of_some _ q
  obtain ⟨pl1, rfl, el⟩ := IsPart.raw pl
  obtain ⟨pu1, rfl, eu⟩ := IsPart.raw pu
  obtain ⟨ps1, rfl, es⟩ := IsPart.raw ps
  match pl1, pu1, ps1, el, eu, es with
  | none, none, some (m, tm), _, _, es =>
    have em : m = -1 := Option.some.inj es
    subst em
    refine tail_any (ops := [.str z t, .ref s4.heap.objs.size]) (typeIs_str _ _ _) F.slot_str_getitem.lookup ?_ (by with_unfolding_all rfl)
    refine wpAny_getItem_str_slice (l := none) (u := none) (st := some (-1, tm)) ⟨_, Heap.get?_push_size _ rfl, rfl, rfl⟩ rfl ?_
    have e : (⟨((Builtin.Str.strSliceIndices none none (-1) z.length).filterMap (z.cps[·]?)).toArray⟩ : Str) = backS z := by
      rw [back_idx, List.filterMap_reverse]
      unfold backS
      exact congrArg (fun l : List Nat => (⟨l.reverse.toArray⟩ : Str)) (PySem.W.krv_all z.cps)
    show Made.post (Made.str ⟨((Builtin.Str.strSliceIndices none none (-1) z.length).filterMap (z.cps[·]?)).toArray⟩) (EP X pins σ Q) _
    rw [e]
    have hl : (backS z).length ≤ sizeLine := by
      show (z.cps.toList.reverse.toArray).size ≤ sizeLine
      rw [List.size_toArray, List.length_reverse, Array.length_toList]
      exact hz
    exact ⟨hl, .str _, H4, I5.tok _, ⟨_, rfl⟩, q⟩
end Vk
set_option Elab.async false
set_option maxRecDepth 100000
set_option maxHeartbeats 4000000
set_option linter.all false
namespace Vk
open L2 PySem PySem.Spec PyProof.Rows PySem.VkX LamX NdefX
/-! ## a lambda of one parameter that raises nothing -/
structure LamK1 (P : Program) (w : World) (K : PySem.W.Frag) (mg : Str → Option Value) (base : Heap) (k : Nat) (F : LF) (sp : V → Hp → VK → Prop) : Prop where
  run : ∀ (A : Around) (outer : List Env) (s : Shared) (H : Hp) (f : Addr) (v : V) (u : Value) (Q : VK), A.guards = some [] → Room k A → Env0 P w K mg base A outer s H → H f = some (LamO f F) → H F.c = some (CodeO F.c F.qual) → L2.RelV v u → sp v H Q →
    codeAny (model P w) A (.call (.ref f) ⟨[u], []⟩) (CR CX0 outer P w H s Q E0) s
section
variable {P : Program} {w : World} {K : PySem.W.Frag} {mg : Str → Option Value} {base : Heap} {N : List Str} {F : LF} {k : Nat} {sp : V → Hp → VK → Prop} {p : Str}
theorem lamk1_of (S : NScope N [p] [] F.scope) (hcl : F.cl = []) (hb : ∀ pm ctv u : Value, bindArgs (PySem.W.kla_fn "<lambda>" F.qual F.params F.body F.scope F.cl pm (.ref F.c) ctv) ⟨[u], []⟩ = pure [(p, u)])
    (body : ∀ (A : Around) (outer : List Env) (s : Shared) (H : Hp) (f : Addr) (v : V) (Q : VK), A.guards = some [] → Room k (A.deeper (envF F.nf f s.heap.objs.size)) → sp v H Q →
      ∃ t, PE (ncx CX0 P w K mg base N F.nf f A outer s H E0) F.body t ∧ t (startF N [v] []) H Q) : LamK1 P w K mg base (k + 1) F sp := by
  refine ⟨fun A outer s H f v u Q hg hr e0 hf hc rv hsp => ?_⟩
  have lim : s.heap.NoLimit := e0.mod.nolimit.keeps fun b o e => (e0.bs b o e).1
  obtain ⟨pm, ctv, ho⟩ := lamO_at e0.hok hf
  refine PySem.W.kla_callFunE hr.depth ho rfl S.co S.gen rfl (codeO_at e0.hok hc) ?_
  rw [hb pm ctv u]
  refine wpAny_pure (wpAny_newFunctionEnv S.nocell (fun y hy => ?_) (fun h1 hns hsb => ⟨lim.fresh _ hsb, ?_⟩) S.kind)
  · rw [List.mem_singleton.mp hy]
    exact S.par p List.mem_cons_self
  have kp : ∀ b o, s.heap.get? b = some o → h1.get? b = some o := fun b o e => hsb.extBut b o (Nat.ne_of_lt (Heap.lt_size e)) (Heap.get?_push_of_some _ e)
  obtain ⟨t, ht, hq⟩ := body A outer s H f v Q hg (hr.deeper _) hsp
  have C : CellsAt F.nf.cl [] [] s.heap H := by
    show CellsAt F.cl [] [] s.heap H
    rw [hcl]
    exact ⟨rfl, fun y c e => (nomatch e), fun x y c e _ => (nomatch e), fun i y e => (nomatch e)⟩
  have I : Inv (ncx CX0 P w K mg base N F.nf f A outer s H E0) [] (startF N [v] []) H { s with heap := h1, toks := s.toks + ([(p, u)] : List (Str × Value)).length } := inv_startN (ps := [p]) (us := [u]) (vs := [v]) S hr.hd e0 rfl (.cons rv .nil) C hns kp
  refine PySem.W.kla_codeExpr (wpAny_mono (ht.run [] _ _ H Q I hq) (fun z s' hv => ?_) fun e s' hv => hv)
  obtain ⟨v1, H1, J, rz, q⟩ := hv
  exact ⟨v1, H1, J.os, J.bare, J.base, J.hok, rz, q⟩
end
/-! ## the first of those whose number is least -/
theorem argBest_le (g : Nat → Int) : ∀ m, argBest (fun i j => decide (g i < g j)) m ≤ m ∧ (∀ i, i ≤ m → g (argBest (fun i j => decide (g i < g j)) m) ≤ g i) ∧ ∀ i, i < argBest (fun i j => decide (g i < g j)) m → g (argBest (fun i j => decide (g i < g j)) m) < g i
  | 0 => ⟨Nat.le_refl _, fun i hi => by rw [Nat.le_zero.mp hi]; exact Int.le_refl _, fun i hi => absurd hi (Nat.not_lt_zero _)⟩
  | m + 1 => by
    obtain ⟨h1, h2, h3⟩ := argBest_le g m
    rw [argBest]
    by_cases c : g (m + 1) < g (argBest (fun i j => decide (g i < g j)) m)
    · rw [if_pos (decide_eq_true c)]
      refine ⟨Nat.le_refl _, fun i hi => ?_, fun i hi => Int.lt_of_lt_of_le c (h2 i (by omega))⟩
      by_cases e : i = m + 1
      · rw [e]; exact Int.le_refl _
      · exact Int.le_trans (Int.le_of_lt c) (h2 i (by omega))
    · rw [if_neg (by simpa using c)]
      refine ⟨Nat.le_succ_of_le h1, fun i hi => ?_, h3⟩
      by_cases e : i = m + 1
      · rw [e]; omega
      · exact h2 i (by omega)
/-! ## min(xs, key=f) -/
def rMinLam (K : PySem.W.Frag) (F : LF) (sp : V → Hp → VK → Prop) : List V → List V → Hp → VK → Prop := fun xs zs H Q => ∃ (l f : Addr) (items : List V) (kv : V → Int), xs = [.ref l] ∧ zs = [.ref f] ∧ SqL K H l items ∧ (∀ v ∈ items, ∃ t, v = V.ref t) ∧ items ≠ [] ∧ H f = some (LamO f F) ∧ H F.c = some (CodeO F.c F.qual) ∧
  (∀ v ∈ items, ∀ Q' : VK, Q' (.int (kv v)) H → sp v H Q') ∧ ∀ (i : Nat) v, items[i]? = some v → (∀ (i' : Nat) v', items[i']? = some v' → kv v ≤ kv v') → (∀ (i' : Nat) v', i' < i → items[i']? = some v' → kv v < kv v') → Q v H
theorem refs_one {xs : List V} (h : ∀ v ∈ xs, ∃ t, v = V.ref t) : ∀ {us ws : List Value}, Vals xs us → Vals xs ws → us = ws := by
  induction xs with
  | nil => intro us ws a b; cases a; cases b; rfl
  | cons v xs ih =>
    intro us ws a b
    cases a with
    | cons a1 a2 =>
      cases b with
      | cons b1 b2 =>
        obtain ⟨t, rfl⟩ := h v List.mem_cons_self
        cases a1
        cases b1
        rw [ih (fun v hv => h v (List.mem_cons_of_mem _ hv)) a2 b2]
theorem cr_minLam {X : Cx} {F : LF} {sp : V → Hp → VK → Prop} {j k : Nat} (L : LamK1 X.prog X.w X.K X.mg X.base k F sp) (hg : X.A.guards = some []) (hr : Room j X.A) (hk : k + 1 ≤ j) (hca : X.calm = true) :
    CallRK X (.builtin "min") [Str.ofString "key"] (rMinLam X.K F sp) := by
  intro pins s σ H xs zs us ws Q I rx rz h
  obtain ⟨l, f, items, kv, rfl, rfl, hS, href, hne, hf, hc, hsp, hQ⟩ := h
  obtain ⟨u, rfl, ru⟩ := rx.one
  obtain ⟨u2, rfl, ru2⟩ := rz.one
  cases ru
  cases ru2
  obtain ⟨its, rv, pl, hz⟩ := I.list hS
  have rlen := rv.length
  have hgi : X.A.in1.guards = some [] := hg
  have hri : Room k X.A.in1 := (hr.mono hk).in1
  refine call_min_walkK (wpAny_pyIter_list pl.isList ?_)
  have hit0 : (s.heap.push { cls := .type "list_iterator", data := .fields #[.ref l, .int 0 0] }).IsListIter s.heap.objs.size l 0 := ⟨_, Heap.get?_push_size _ rfl, rfl, rfl⟩
  have llt := pl.lt
  have hli : l ≠ s.heap.objs.size := Nat.ne_of_lt llt
  have I0 : Inv X pins σ H { s with heap := s.heap.push { cls := .type "list_iterator", data := .fields #[.ref l, .int 0 0] } } := I.kept (t' := s.toks) fun b o q => Heap.get?_push_of_some _ q
  have Hi : H s.heap.objs.size = none := I.hok.fresh (Nat.le_refl _)
  have fpI : FpOk X pins H s.heap.objs.size := I.fpOk (Nat.le_refl _) Hi
  have HS : H (s.heap.objs.size + 1) = none := I.hok.fresh (Nat.le_succ _)
  have fpS : FpOk X pins H (s.heap.objs.size + 1) := I.fpOk (Nat.le_succ _) HS
  have W := (Walks.list (prog := X.prog) (w := X.w) (A := X.A.in1) (I.ok.hd hca) s.heap.objs.size l hli its.toArray).toS
  let kn : Nat → Int := fun i => (items[i]?.map kv).getD 0
  refine ⟨_, _, _, _, _, _, _, fun s' => Inv X pins σ H s', fun i k _ => ∃ t, k = Value.int (kn i) t, fun i j => decide (kn i < kn j), rfl, W, ⟨hit0, ?_⟩, ?_, ?_, ?_, I0, ?_⟩
  · exact Heap.IsList.push pl.isList _
  · intro b hb
    have e : (s.heap.push { cls := .type "list_iterator", data := .fields #[.ref l, .int 0 0] }).objs.size = s.heap.objs.size + 1 := Heap.size_push ..
    show b < (s.heap.push { cls := .type "list_iterator", data := .fields #[.ref l, .int 0 0] }).objs.size
    rw [e]
    rcases List.mem_cons.mp hb with z | z
    · exact z ▸ Nat.lt_succ_self _
    · rw [List.mem_singleton.mp z]
      exact Nat.lt_succ_of_lt llt
  · rw [List.size_toArray, ← rlen]
    exact List.length_pos_iff.mpr hne
  · have eS : (s.heap.push { cls := .type "list_iterator", data := .fields #[.ref l, .int 0 0] }).objs.size = s.heap.objs.size + 1 := Heap.size_push ..
    have two : ∀ b ∈ [s.heap.objs.size + 1, s.heap.objs.size], FpOk X pins H b := fun b hb => by
      rcases List.mem_cons.mp hb with z | z
      · exact z ▸ fpS
      · rw [List.mem_singleton.mp z]
        exact fpI
    have offS : ∀ {s1 : Shared} {b : Addr}, Inv X pins σ H s1 → FpOk X pins H b → b ∉ frs X.stack := fun J fp z => by
      rcases List.mem_cons.mp (J.stkSub _ z) with e | e
      · exact fp.2.1 e
      · exact fp.2.2.1 e
    show KeyRun X.prog X.w X.A.in1 (.ref f) .Lt (s.heap.push { cls := .type "list_iterator", data := .fields #[.ref l, .int 0 0] }).objs.size _ _ _ _ _ _ _ _
    rw [eS]
    refine ⟨fun s1 s2 J m => ?_, fun _ _ _ _ z _ => z, fun i v s1 o Q1 E1 hi hv J st hS1 cont => ?_, fun i i' ki kj s1 Q1 E1 J a b q => ?_⟩
    · obtain ⟨hh, g, d, t, os⟩ := s2
      obtain rfl : g = s1.gens := m.gens
      obtain rfl : d = s1.drawn := m.drawn
      obtain rfl : os = s1.os := m.os
      exact J.turnedL (t' := t) (ch := [s.heap.objs.size + 1, s.heap.objs.size]) (fun b o hb e => m.heap b o hb e) two
    · have hil : i < items.length := by
        rw [List.size_toArray] at hi
        omega
      obtain ⟨u, hu, ru⟩ := rv.get (List.getElem?_eq_getElem hil)
      have eu : u = v := by
        rw [List.getElem?_toArray] at hv
        exact Option.some.inj (hu.symm.trans hv)
      subst eu
      have hx : items[i] ∈ items := List.getElem_mem hil
      refine wpAny_call (codeAny_mono (L.run X.A.in1 X.stack s1 H f items[i] u (fun r H1 => r = .int (kv items[i]) ∧ H1 = H) hgi hri J.env0.in1 hf hc ru (hsp _ hx _ ⟨rfl, rfl⟩)) fun res s2 hq => ?_)
      match res, hq with
      | .error e, hq => exact hq.elim
      | .ok .next, hq => exact hq.elim
      | .ok .brk, hq => exact hq.elim
      | .ok .cont, hq => exact hq.elim
      | .ok (.ret z), hq =>
        obtain ⟨_, _, _, _, un, _, _, _⟩ := id hq
        obtain ⟨r, H2, J2, rz2, er, eH⟩ := J.after hq
        subst er eH
        obtain ⟨tz, rfl⟩ := rz2
        have keep : ∀ b, FpOk X pins H2 b → ∀ ob, s1.heap.get? b = some ob → s2.heap.get? b = some ob := fun b fb ob e => un.keep b ob e fb.1 (offS J fb) (by simp)
        obtain ⟨⟨oi, hoi, ri⟩, _⟩ := st
        obtain ⟨its2, rv2, pl2, _⟩ := J2.list hS
        have e2 := refs_one href rv2 rv
        subst e2
        refine cont _ s2 J2 ⟨⟨oi, keep _ fpI _ hoi, ri⟩, pl2.isList⟩ (keep _ fpS _ hS1) ⟨tz, ?_⟩ fun _ _ z => z
        show Value.int (kv items[i]) tz = Value.int ((items[i]?.map kv).getD 0) tz
        rw [List.getElem?_eq_getElem hil]
        rfl
    · obtain ⟨ta, rfl⟩ := a
      obtain ⟨tb, rfl⟩ := b
      exact lt_int q
  · intro v s' hv J
    have hn : 0 < items.length := List.length_pos_iff.mpr hne
    obtain ⟨a1, a2, a3⟩ := argBest_le kn (its.toArray.size - 1)
    generalize hm : argBest (fun i j => decide (kn i < kn j)) (its.toArray.size - 1) = m at a1 a2 a3 hv
    rw [List.size_toArray] at a1 a2
    have hml : m < items.length := by omega
    obtain ⟨u, hu, ru⟩ := rv.get (List.getElem?_eq_getElem hml)
    have eu : u = v := by
      rw [List.getElem?_toArray] at hv
      exact Option.some.inj (hu.symm.trans hv)
    subst eu
    have kn_at : ∀ (i : Nat) (v : V), items[i]? = some v → kn i = kv v := fun i v e => by
      show ((items[i]?.map kv).getD 0) = _
      rw [e]
      rfl
    have km := kn_at m _ (List.getElem?_eq_getElem hml)
    refine ⟨items[m], H, J, ru, hQ m _ (List.getElem?_eq_getElem hml) (fun i' v' e => ?_) fun i' v' hi e => ?_⟩
    · have := a2 i' (by have := (List.getElem?_eq_some_iff.mp e).1; omega)
      rw [km, kn_at _ _ e] at this
      exact this
    · have := a3 i' hi
      rw [km, kn_at _ _ e] at this
      exact this
end Vk
set_option Elab.async false
set_option maxRecDepth 100000
set_option maxHeartbeats 4000000
set_option linter.all false
namespace Vk
open L2 PySem PySem.Spec PyProof.Rows
/-! ## min of a list of tuples -/
theorem argBest_same {b1 b2 : Nat → Nat → Bool} : ∀ m, (∀ i j, i ≤ m → j ≤ m → b1 i j = b2 i j) → argBest b1 m = argBest b2 m ∧ argBest b1 m ≤ m
  | 0, _ => ⟨rfl, Nat.le_refl _⟩
  | m + 1, h => by
    obtain ⟨e, le⟩ := argBest_same m fun i j hi hj => h i j (by omega) (by omega)
    rw [argBest, argBest, ← e, h (m + 1) _ (Nat.le_refl _) (by omega)]
    refine ⟨rfl, ?_⟩
    split <;> omega
def rMinD (K : PySem.W.Frag) : List V → Hp → VK → Prop := fun vs H Q => ∃ (a : Addr) (xs : List V) (ds : List PyData) (g : Nat → Int), vs = [V.ref a] ∧ SqL K H a xs ∧ DpAll K H xs ds ∧ PySem.W.AlikeAll ds ∧ PyData.depthAll ds ≤ 20 ∧ 0 < ds.length ∧
  (∀ i j, i < ds.length → j < ds.length → PySem.W.dataLt (ds.getD i .none) (ds.getD j .none) = decide (g i < g j)) ∧ ∀ (i : Nat) v, xs[i]? = some v → (∀ j, j < ds.length → g i ≤ g j) → Q v H
theorem dpAll_len {K : PySem.W.Frag} {H : Hp} : ∀ {xs : List V} {ds : List PyData}, DpAll K H xs ds → xs.length = ds.length
  | _, _, .nil => rfl
  | _, _, .cons _ t => congrArg (· + 1) (dpAll_len t)
theorem cr_minD {X : Cx} (hca : X.calm = true) (hu : X.A.units + 64 < cLine) : CallR X (.builtin "min") (rMinD X.K) := by
  intro pins s σ H vs us Q I r h
  obtain ⟨a, xs, ds, g, rfl, hS, hd, ha, hdep, hpos, hlt, hQ⟩ := h
  obtain ⟨u, rfl, ru⟩ := r.one
  cases ru
  obtain ⟨its, rv, pl, _⟩ := I.list hS
  have rlen := rv.length
  have dlen := dpAll_len hd
  obtain ⟨as, hr⟩ := Dp.readsAll I ds xs its hd rv
  have hr2 : ReadsAll s.heap its.toArray.toList ds as := by simpa using hr
  refine call_min_walkH (PySem.W.iter_listW (A := X.A.in1) (I.ok.hd hca) pl.isList fun s2 e W st hfp hw hk => ?_)
  have hn : 0 < its.toArray.size := by rw [List.size_toArray]; omega
  refine ⟨_, _, _, _, _, _, _, s.heap, _, rfl, W, st, hfp, hn, hw, hk, PySem.W.cmpIn_lt (A := X.A.in1) hr2 ha (by show X.A.units + 1 + _ < _; omega), fun v s' hP m => ?_⟩
  obtain ⟨h', tk, rfl, hk'⟩ := PySem.W.moved_old e rfl m
  have I2 : Inv X pins σ H { s with heap := h', toks := tk } := I.kept hk'
  have es : its.toArray.size - 1 = ds.length - 1 := by rw [List.size_toArray]; omega
  rw [es] at hP
  obtain ⟨eb, le⟩ := argBest_same (b1 := fun i j => PySem.W.dataLt (ds.getD i .none) (ds.getD j .none)) (b2 := fun i j => decide (g i < g j)) (ds.length - 1) fun i j hi hj => hlt i j (by omega) (by omega)
  obtain ⟨_, a2, _⟩ := argBest_le g (ds.length - 1)
  rw [← eb] at a2
  generalize argBest (fun i j => PySem.W.dataLt (ds.getD i .none) (ds.getD j .none)) (ds.length - 1) = m0 at hP a2 le
  have hml : m0 < xs.length := by omega
  obtain ⟨u, hu, ru⟩ := rv.get (List.getElem?_eq_getElem hml)
  have eu : u = v := by
    rw [List.getElem?_toArray] at hP
    exact Option.some.inj (hu.symm.trans hP)
  subst eu
  exact ⟨xs[m0], H, I2, ru, hQ m0 _ (List.getElem?_eq_getElem hml) fun j hj => a2 j (by omega)⟩
/-- rows of three numbers and a text -/
def qD (q : Int × Int × Int × Str) : PyData := .tuple [.int q.1, .int q.2.1, .int q.2.2.1, .str q.2.2.2]
theorem q_lt {p q : Int × Int × Int × Str} (h : p.1 = q.1 → p.2.1 = q.2.1 → p = q) : PySem.W.dataLt (qD p) (qD q) = decide (p.1 < q.1 ∨ p.1 = q.1 ∧ p.2.1 < q.2.1) := by
  obtain ⟨c, a, b, w⟩ := p
  obtain ⟨c', a', b', w'⟩ := q
  unfold PySem.W.dataLt qD
  simp only [PySem.W.keyToks, PySem.W.keyToksAll, List.cons_append, List.nil_append, List.append_nil]
  simp only at h
  have one : ∀ x y : Int, PyProof.Rows.lexLt itemOrd [Sum.inl x] [Sum.inl y] = decide (x < y) := fun x y => by
    show (decide (x < y) || (!decide (y < x) && false)) = _
    simp
  by_cases e1 : c = c'
  · by_cases e2 : a = a'
    · have e3 := h e1 e2
      simp only [Prod.mk.injEq] at e3
      obtain ⟨_, _, rfl, rfl⟩ := e3
      subst e1 e2
      rw [decide_eq_false (by omega)]
      have z := PySem.W.lex_pre [Sum.inl 1, Sum.inl c, Sum.inl 1, Sum.inl a, Sum.inl 1, Sum.inl b, Sum.inl 1, Sum.inr w.cps.toList, Sum.inl 0] [] []
      exact z
    · subst e1
      refine (PySem.W.lex_pre [Sum.inl 1, Sum.inl c, Sum.inl 1] (Sum.inl a :: _) (Sum.inl a' :: _)).trans ?_
      rw [PySem.W.lex_atom (fun z => e2 (Sum.inl.inj z)), one]
      refine decide_eq_decide.mpr ⟨fun z => .inr ⟨rfl, z⟩, fun z => ?_⟩
      rcases z with z | z
      · omega
      · exact z.2
  · refine (PySem.W.lex_pre [Sum.inl 1] (Sum.inl c :: _) (Sum.inl c' :: _)).trans ?_
    rw [PySem.W.lex_atom (fun z => e1 (Sum.inl.inj z)), one]
    refine decide_eq_decide.mpr ⟨fun z => .inl z, fun z => ?_⟩
    rcases z with z | z
    · exact z
    · exact absurd z.1 e1
end Vk
set_option Elab.async false
set_option maxRecDepth 100000
set_option maxHeartbeats 4000000
set_option linter.all false
namespace Vk
open PySem PySem.Spec PyProof.Rows L2
theorem fewL {n : Nat} (h : n ≤ 100000) : n < sizeLine := Nat.lt_of_le_of_lt h (by rw [sizeLine_eq]; decide)
theorem pair_mono {α β : Type} {R S : α → β → Prop} (h : ∀ a b, R a b → S a b) : ∀ {xs : List α} {ys : List β}, Paired R xs ys → Paired S xs ys
  | _, _, .nil => .nil
  | _, _, .cons a t => .cons (h _ _ a) (pair_mono h t)
theorem none_up {H H1 : Hp} {a : Addr} (s : Same H H1) (h : H1 a = none) : H a = none := by
  match e : H a with
  | none => rfl
  | some o => exact nomatch (s _ _ e).symm.trans h
theorem upd_list {H : Hp} {l : Addr} {xs : List V} {o : HO} (h : H l = some (.lst xs)) (u : Addr) (ws : List V) (hu : H u = some (.tup ws)) : (upd H l o) u = some (.tup ws) := by
  rw [upd_ne (fun e => by rw [e, h] at hu; cases hu)]
  exact hu
theorem upd_out {H H1 : Hp} {l : Addr} {o : HO} (hl : H l = none) (s : Same H H1) : Same H (upd H1 l o) := fun b o2 h => by
  rw [upd_ne (ne_of_none h hl)]
  exact s _ _ h
/-- letter i of x -/
def ltr (x : Str) (i : Nat) : Nat := x.cps.toList.getD i 0
theorem ltr_at {x : Str} {i c : Nat} (h : x.cps[i]? = some c) : ltr x i = c := by
  unfold ltr
  rw [List.getD_eq_getElem?_getD, Array.getElem?_toList, h]
  rfl
theorem ones_eq (a b : Nat) : decide (OneS a = OneS b) = decide (a = b) := by
  by_cases h : a = b
  · subst h; rw [decide_eq_true rfl, decide_eq_true rfl]
  · rw [decide_eq_false h, decide_eq_false fun e => h ?_]
    have q := V.str.inj e
    have q2 := congrArg (fun z : Str => z.cps.toList) q
    simpa using q2
theorem paired_back {α β : Type} {R : α → β → Prop} : ∀ {xs : List α} {ys : List β} {y : β}, Paired R xs ys → y ∈ ys → ∃ x, x ∈ xs ∧ R x y
  | _, _, _, .cons (a := x) a t, h => by
    rcases List.mem_cons.mp h with rfl | h
    · exact ⟨_, List.mem_cons_self, a⟩
    · obtain ⟨z, m, e⟩ := paired_back t h
      exact ⟨z, List.mem_cons_of_mem _ m, e⟩
theorem paired_mem {α β : Type} {R : α → β → Prop} : ∀ {xs : List α} {ys : List β} {x : α}, Paired R xs ys → x ∈ xs → ∃ y, y ∈ ys ∧ R x y
  | _, _, _, .cons a t, h => by
    rcases List.mem_cons.mp h with rfl | h
    · exact ⟨_, List.mem_cons_self, a⟩
    · obtain ⟨z, m, e⟩ := paired_mem t h
      exact ⟨z, List.mem_cons_of_mem _ m, e⟩
theorem cut_ab {x : Str} {a b : Nat} (h1 : a ≤ b) (h2 : b ≤ x.length) : cutS x (some (a : Int)) (some (b : Int)) = ⟨((x.cps.toList.drop a).take (b - a)).toArray⟩ := by
  unfold cutS
  rw [HT.sIx_nat, HT.sIx_nat, Nat.min_eq_left h2, Nat.min_eq_left (Nat.le_trans h1 h2)]
theorem cut_len {x : Str} {a b : Nat} (h1 : a ≤ b) (h2 : b ≤ x.length) : (cutS x (some (a : Int)) (some (b : Int))).length = b - a := by
  rw [cut_ab h1 h2]
  show (List.toArray _).size = _
  have : x.cps.toList.length = x.length := Array.length_toList
  rw [List.size_toArray, List.length_take, List.length_drop]
  omega
theorem cut_ltr {x : Str} {a b t : Nat} (h1 : a ≤ b) (h2 : b ≤ x.length) (ht : t < b - a) : ltr (cutS x (some (a : Int)) (some (b : Int))) t = ltr x (a + t) := by
  rw [cut_ab h1 h2]
  unfold ltr
  show (List.getD (List.take _ _) t 0) = _
  rw [List.getD_eq_getElem?_getD, List.getD_eq_getElem?_getD, List.getElem?_take, if_pos ht, List.getElem?_drop]
theorem depthAll_const : ∀ (ds : List PyData) (n : Nat), (∀ d ∈ ds, d.depth ≤ n) → PyData.depthAll ds ≤ n
  | [], _, _ => Nat.zero_le _
  | d :: r, n, h => Nat.max_le.mpr ⟨h d List.mem_cons_self, depthAll_const r n fun e he => h e (List.mem_cons_of_mem _ he)⟩
theorem canAll_of : ∀ (ds : List PyData), (∀ d ∈ ds, PyData.canLay0 d = true) → PyData.canLayAll0 ds = true
  | [], _ => rfl
  | d :: r, h => by
    show (PyData.canLay0 d && PyData.canLayAll0 r) = true
    rw [h d List.mem_cons_self, canAll_of r fun e he => h e (List.mem_cons_of_mem _ he)]
    rfl
theorem shaped_list {ds : List PyData} {n : Nat} (h1 : ∀ d ∈ ds, PyData.canLay0 d = true) (h2 : ∀ d ∈ ds, d.depth ≤ n) (hn : n ≤ 20) : SeqAt.shaped (.list ds) = true := by
  unfold SeqAt.shaped
  have e1 : PyData.canLay0 (.list ds) = true := canAll_of ds h1
  have e2 : PyData.depth (.list ds) ≤ 21 := Nat.succ_le_succ (Nat.le_trans (depthAll_const ds n h2) hn)
  rw [e1]
  simp
  omega
theorem or_both {c : Bool} {T B R : Prop} (h1 : c = true → R → T) (h2 : c = false → R → B) (h : R) : if c = true then T else B := by
  cases c with
  | true => exact h1 rfl h
  | false => exact h2 rfl h
theorem and_cut {c : Bool} {A R : Prop} (h : R) (h2 : c = true → R → A) : if c = true then A else R := by
  cases c with
  | true => exact h2 rfl h
  | false => exact h
theorem ite_meet {c : Bool} {T1 T2 : (V → Hp → Prop) → Prop} {C : V → Hp → Prop} (G : V → Hp → Prop) (h : ∀ v H, G v H → C v H) (h1 : c = true → ∀ C' : V → Hp → Prop, (∀ v H, G v H → C' v H) → T1 C') (h2 : c = false → ∀ C' : V → Hp → Prop, (∀ v H, G v H → C' v H) → T2 C') : if c = true then T1 C else T2 C := by
  cases c with
  | true => exact h1 rfl C h
  | false => exact h2 rfl C h
theorem plc_asc (x w : Str) : (plc x w).Pairwise (· < ·) := List.pairwise_lt_range.filter _
theorem plc_ltr {x w : Str} {k : Nat} : k ∈ plc x w ↔ k + w.length ≤ x.length ∧ ∀ t, t < w.length → ltr x (k + t) = ltr w t := by
  unfold plc atB
  rw [List.mem_filter, List.mem_range, Bool.and_eq_true, decide_eq_true_eq, StrLaws.subAt_eq, beq_iff_eq]
  constructor
  · rintro ⟨_, h1, h2⟩
    refine ⟨h1, fun t ht => ?_⟩
    unfold ltr
    rw [← h2, List.getD_eq_getElem?_getD, List.getD_eq_getElem?_getD, List.getElem?_take, if_pos ht, List.getElem?_drop]
  · rintro ⟨h1, h2⟩
    refine ⟨by omega, h1, List.ext_getElem? fun t => ?_⟩
    have lw : w.cps.toList.length = w.length := Array.length_toList
    have lx : x.cps.toList.length = x.length := Array.length_toList
    by_cases ht : t < w.length
    · have q := h2 t ht
      unfold ltr at q
      rw [List.getD_eq_getElem?_getD, List.getD_eq_getElem?_getD, List.getElem?_eq_getElem (by omega : k + t < x.cps.toList.length), List.getElem?_eq_getElem (by omega : t < w.cps.toList.length)] at q
      rw [List.getElem?_take, if_pos ht, List.getElem?_drop, List.getElem?_eq_getElem (by omega : k + t < x.cps.toList.length), List.getElem?_eq_getElem (by omega : t < w.cps.toList.length)]
      exact congrArg some q
    · rw [List.getElem?_take, if_neg ht, List.getElem?_eq_none (by omega)]
theorem atI_end {xs : List V} {n : Nat} {v : V} (h : xs[n]? = some v) (hl : xs.length = n + 1) : atI xs (-1) = some v := by
  have e : xs = xs.take n ++ [v] := by
    have := List.take_append_drop n xs
    rw [drop_at h, List.drop_of_length_le (by omega)] at this
    exact this.symm
  rw [e]
  exact atI_last _ _
/-- pairs of numbers -/
def PrN (H : Hp) : List V → List (Nat × Nat) → Prop := Paired (fun v (p : Nat × Nat) => ∃ t, v = V.ref t ∧ H t = some (.tup [.int (p.1 : Nat), .int (p.2 : Nat)]))
theorem PrN.keep {H H1 : Hp} {xs : List V} {ps : List (Nat × Nat)} (h : PrN H xs ps) (s : Same H H1) : PrN H1 xs ps := pair_mono (fun v p ⟨t, e, ht⟩ => ⟨t, e, s _ _ ht⟩) h
theorem PrN.keepT {H H1 : Hp} {xs : List V} {ps : List (Nat × Nat)} (h : PrN H xs ps) (s : ∀ u ws, H u = some (.tup ws) → H1 u = some (.tup ws)) : PrN H1 xs ps := pair_mono (fun v p ⟨t, e, ht⟩ => ⟨t, e, s _ _ ht⟩) h
theorem at_ltr {x : Str} {i : Nat} (h : i < x.length) : atI x.cps.toList ((i : Nat) : Int) = some (ltr x i) := by
  refine atI_nat ?_
  unfold ltr
  have h2 : i < x.cps.toList.length := by rw [Array.length_toList]; exact h
  rw [List.getD_eq_getElem?_getD, List.getElem?_eq_getElem h2]
  rfl
def pD (p : Nat × Nat) : PyData := .tuple [.int (p.1 : Nat), .int (p.2 : Nat)]
theorem prs_dp {K : PySem.W.Frag} {H : Hp} : ∀ {xs : List V} {rs : List (Nat × Nat)}, PrN H xs rs → DpAll K H xs (rs.map pD)
  | _, _, .nil => .nil
  | _, _, .cons a t => .cons (by
      obtain ⟨u, rfl, h⟩ := a
      exact .tup (SqT.of h) (.cons (.int _) (.cons (.int _) .nil))) (prs_dp t)
theorem pDs_shaped (rs : List (Nat × Nat)) : SeqAt.shaped (.list (rs.map pD)) = true := by
  refine shaped_list (n := 1) (fun d hd => ?_) (fun d hd => ?_) (by decide)
  · obtain ⟨r, _, rfl⟩ := List.mem_map.mp hd
    rfl
  · obtain ⟨r, _, rfl⟩ := List.mem_map.mp hd
    exact Nat.le_of_eq rfl
theorem pDs_nil (rs : List (Nat × Nat)) : PyData.eqv (.list (rs.map pD)) (.list []) = rs.isEmpty := by
  match rs with
  | [] => rfl
  | r :: t => rfl
theorem pDs_can (rs : List (Nat × Nat)) : PyData.canLay0 (.list (rs.map pD)) = true := canAll_of _ fun d hd => by
  obtain ⟨r, _, rfl⟩ := List.mem_map.mp hd
  rfl
/-! ## windows -/
/-- the letters from a to b stand at another place, too -/
def Tw (X : Nat → Nat) (n a b : Nat) : Prop := ∃ k, k ≠ a ∧ k + (b - a) ≤ n ∧ ∀ t, t < b - a → X (k + t) = X (a + t)
theorem Tw.less {X : Nat → Nat} {n a b a' b' : Nat} (h : Tw X n a b) (h1 : a ≤ a') (h2 : a' ≤ b') (h3 : b' ≤ b) : Tw X n a' b' := by
  obtain ⟨k, k1, k2, k3⟩ := h
  refine ⟨k + (a' - a), by omega, by omega, fun t ht => ?_⟩
  have := k3 (a' - a + t) (by omega)
  rw [show k + (a' - a) + t = k + (a' - a + t) by omega, this, show a + (a' - a + t) = a' + t by omega]
def twB (x : Str) (a b : Nat) : Bool := decide (2 ≤ (plc x (cutS x (some (a : Int)) (some (b : Int)))).length)
theorem plc_own {x : Str} {a b : Nat} (h1 : a ≤ b) (h2 : b ≤ x.length) : a ∈ plc x (cutS x (some (a : Int)) (some (b : Int))) :=
  plc_ltr.mpr ⟨by rw [cut_len h1 h2]; omega, fun t ht => by
    rw [cut_len h1 h2] at ht
    exact (cut_ltr h1 h2 ht).symm⟩
theorem two_of {l : List Nat} {a : Nat} (nd : l.Pairwise (· < ·)) (ha : a ∈ l) : 2 ≤ l.length ↔ ∃ k ∈ l, k ≠ a := by
  constructor
  · intro h
    match l, nd, h with
    | x :: y :: r, nd, _ =>
      have lt := (List.pairwise_cons.mp nd).1 y List.mem_cons_self
      by_cases e : x = a
      · exact ⟨y, List.mem_cons_of_mem _ List.mem_cons_self, by omega⟩
      · exact ⟨x, List.mem_cons_self, e⟩
  · rintro ⟨k, hk, hne⟩
    match l, ha, hk with
    | [x], ha, hk => exact absurd ((List.mem_singleton.mp hk).trans (List.mem_singleton.mp ha).symm) hne
    | x :: y :: r, _, _ => show 2 ≤ r.length + 1 + 1; omega
theorem twB_iff {x : Str} {a b : Nat} (h1 : a ≤ b) (h2 : b ≤ x.length) : twB x a b = true ↔ Tw (ltr x) x.length a b := by
  unfold twB
  rw [decide_eq_true_eq, two_of (plc_asc _ _) (plc_own h1 h2)]
  constructor
  · rintro ⟨k, hk, hne⟩
    obtain ⟨k1, k2⟩ := plc_ltr.mp hk
    rw [cut_len h1 h2] at k1 k2
    exact ⟨k, hne, k1, fun t ht => (k2 t ht).trans (cut_ltr h1 h2 ht)⟩
  · rintro ⟨k, hne, k1, k2⟩
    refine ⟨k, plc_ltr.mpr ⟨by rw [cut_len h1 h2]; exact k1, fun t ht => ?_⟩, hne⟩
    rw [cut_len h1 h2] at ht
    rw [k2 t ht, cut_ltr h1 h2 ht]
theorem plc_one {x : Str} {a b : Nat} (h1 : a ≤ b) (h2 : b ≤ x.length) : (plc x (cutS x (some (a : Int)) (some (b : Int)))).length = 1 ↔ twB x a b = false := by
  have h := plc_own h1 h2
  have : 0 < (plc x (cutS x (some (a : Int)) (some (b : Int)))).length := List.length_pos_of_mem h
  unfold twB
  rw [decide_eq_false_iff_not]
  omega
/-- the least end of a window from a that stands once; behind the text if there is none -/
def lendF (x : Str) (a : Nat) : Nat → Nat → Nat
  | 0, e => e
  | f + 1, e => if e ≤ x.length ∧ twB x a e = true then lendF x a f (e + 1) else e
theorem lendF_spec {x : Str} {a : Nat} : ∀ (f e : Nat), a < e → x.length + 1 ≤ e + f → (∀ b, a < b → b < e → b ≤ x.length → twB x a b = true) →
    e ≤ lendF x a f e ∧ (∀ b, a < b → b < lendF x a f e → b ≤ x.length → twB x a b = true) ∧ (lendF x a f e ≤ x.length → twB x a (lendF x a f e) = false) ∧ (e ≤ x.length + 1 → lendF x a f e ≤ x.length + 1)
  | 0, e, h0, h1, h2 => ⟨Nat.le_refl _, h2, fun h => by rw [lendF] at h; omega, fun h => h⟩
  | f + 1, e, h0, h1, h2 => by
    rw [lendF]
    split
    · rename_i c
      obtain ⟨s1, s2, s3, s4⟩ := lendF_spec (x := x) (a := a) f (e + 1) (by omega) (by omega) fun b b1 b2 b3 => by
        by_cases be : b = e
        · rw [be]; exact c.2
        · exact h2 b b1 (by omega) b3
      exact ⟨by omega, s2, s3, fun _ => s4 (by omega)⟩
    · rename_i c
      refine ⟨Nat.le_refl _, h2, fun h => ?_, fun h => h⟩
      cases e2 : twB x a e with
      | false => rfl
      | true => exact absurd ⟨h, e2⟩ c
theorem lendF_step {x : Str} {a f e : Nat} (h : e ≤ x.length ∧ twB x a e = true) : lendF x a (f + 1) e = lendF x a f (e + 1) := by rw [lendF, if_pos h]
theorem lendF_stop {x : Str} {a f e : Nat} (h : ¬ (e ≤ x.length ∧ twB x a e = true)) : lendF x a f e = e := by
  cases f with
  | zero => rfl
  | succ f => rw [lendF, if_neg h]
/-- e is the least end from a -/
structure Lend (x : Str) (a e : Nat) : Prop where
  gt : a < e
  le : e ≤ x.length + 1
  twice : ∀ b, a < b → b < e → b ≤ x.length → twB x a b = true
  once : e ≤ x.length → twB x a e = false
theorem Lend.more {x : Str} {a e : Nat} (h : Lend x a e) {b : Nat} (h1 : e ≤ b) (h2 : b ≤ x.length) : twB x a b = false := by
  have g := h.gt
  cases e2 : twB x a b with
  | false => rfl
  | true =>
    have t := (twB_iff (by omega) h2).mp e2
    have := (twB_iff (by omega) (by omega)).mpr (t.less (Nat.le_refl _) (by omega) h1)
    rw [h.once (by omega)] at this
    cases this
theorem Lend.iff {x : Str} {a e : Nat} (h : Lend x a e) {b : Nat} (h1 : a < b) (h2 : b ≤ x.length) : twB x a b = false ↔ e ≤ b := by
  constructor
  · intro z
    refine Nat.le_of_not_lt fun q => ?_
    rw [h.twice b h1 q h2] at z
    cases z
  · intro z
    exact h.more z h2
theorem Lend.next {x : Str} {a e : Nat} (h : Lend x a e) : ∀ b, a + 1 < b → b < max e (a + 2) → b ≤ x.length → twB x (a + 1) b = true := by
  intro b b1 b2 b3
  have t := (twB_iff (by omega) b3).mp (h.twice b (by omega) (by omega) b3)
  exact (twB_iff (by omega) b3).mpr (t.less (by omega) (by omega) (Nat.le_refl _))
/-! ## one part -/
/-- how many letters are alike at the beginnings -/
structure Ahead (X Y : Nat → Nat) (n m c : Nat) : Prop where
  le1 : c ≤ n
  le2 : c ≤ m
  same : ∀ t, t < c → X t = Y t
  stop : c = n ∨ c = m ∨ X c ≠ Y c
theorem Ahead.iff {X Y : Nat → Nat} {n m c : Nat} (h : Ahead X Y n m c) {a : Nat} (h1 : a ≤ n) (h2 : a ≤ m) : a ≤ c ↔ ∀ t, t < a → X t = Y t := by
  constructor
  · intro z t ht
    exact h.same t (by omega)
  · intro z
    refine Nat.le_of_not_lt fun q => ?_
    rcases h.stop with e | e | e
    · omega
    · omega
    · exact e (z c q)
/-- from a to b the letters of x may be given up for letters of y -/
structure Fz (x y : Str) (a b : Nat) : Prop where
  lt : a < b
  le : b ≤ x.length
  room : a + x.length ≤ y.length + b
  pre : ∀ t, t < a → ltr x t = ltr y t
  suf : ∀ t, b ≤ t → t < x.length → ltr x t = ltr y (t + y.length - x.length)
  once : twB x a b = false
def newOf (x y : Str) (a b : Nat) : Str := cutS y (some (a : Int)) (some ((y.length + b : Nat) - (x.length : Nat) : Int))
/-- what is told of two texts -/
def IsSgl (x y : Str) (d : PyData) : Prop := (x = y ∧ d = .tuple []) ∨ (x ≠ y ∧ (∀ a b, ¬ Fz x y a b) ∧ d = .none) ∨
  (x ≠ y ∧ ∃ a b, Fz x y a b ∧ (∀ a' b', Fz x y a' b' → b - a < b' - a' ∨ b - a = b' - a' ∧ a ≤ a') ∧ d = .tuple [.tuple [.int (a : Nat), .int (b : Nat), .str (newOf x y a b)]])
theorem IsSgl.one {x y : Str} {d e : PyData} (h : IsSgl x y d) (h2 : IsSgl x y e) : d = e := by
  rcases h with ⟨h1, rfl⟩ | ⟨h1, h3, rfl⟩ | ⟨h1, a, b, h3, h4, rfl⟩
  · rcases h2 with ⟨_, rfl⟩ | ⟨q, _⟩ | ⟨q, _⟩
    · rfl
    · exact absurd h1 q
    · exact absurd h1 q
  · rcases h2 with ⟨q, _⟩ | ⟨_, _, rfl⟩ | ⟨_, a, b, q, _⟩
    · exact absurd q h1
    · rfl
    · exact absurd q (h3 a b)
  · rcases h2 with ⟨q, _⟩ | ⟨_, q, _⟩ | ⟨_, a2, b2, q3, q4, rfl⟩
    · exact absurd q h1
    · exact absurd h3 (q a b)
    · have z1 := h4 a2 b2 q3
      have z2 := q4 a b h3
      have l1 := h3.lt
      have l2 := q3.lt
      have ea : a = a2 := by omega
      subst ea
      have eb : b = b2 := by omega
      subst eb
      rfl
theorem ends_one {w : Str} {c : Nat} : Txt.endswith w ⟨#[c]⟩ = decide (0 < w.length ∧ ltr w (w.length - 1) = c) := by
  have lw : w.cps.toList.length = w.length := Array.length_toList
  unfold Txt.endswith
  rw [Bool.eq_iff_iff, Bool.and_eq_true, decide_eq_true_eq, StrLaws.subAt_eq, beq_iff_eq, decide_eq_true_eq]
  show (0 + 1 ≤ w.length ∧ (w.cps.toList.drop (w.length - 1)).take 1 = [c]) ↔ _
  constructor
  · rintro ⟨h1, h2⟩
    refine ⟨by omega, ?_⟩
    have e := congrArg (fun l : List Nat => l.getD 0 0) h2
    simp only [List.getD_eq_getElem?_getD, List.getElem?_take, List.getElem?_drop] at e
    unfold ltr
    simpa [List.getD_eq_getElem?_getD] using e
  · rintro ⟨h1, h2⟩
    refine ⟨by omega, ?_⟩
    unfold ltr at h2
    rw [List.drop_eq_getElem_cons (by omega), List.take_succ_cons, List.take_zero]
    rw [List.getD_eq_getElem?_getD, List.getElem?_eq_getElem (by omega)] at h2
    rw [← h2]
    rfl
theorem starts_one {w : Str} {c : Nat} : Txt.startswith w ⟨#[c]⟩ = decide (0 < w.length ∧ ltr w 0 = c) := by
  have lw : w.cps.toList.length = w.length := Array.length_toList
  unfold Txt.startswith
  rw [Bool.eq_iff_iff, Bool.and_eq_true, decide_eq_true_eq, StrLaws.subAt_eq, beq_iff_eq, decide_eq_true_eq]
  show (0 + 1 ≤ w.length ∧ (w.cps.toList.drop 0).take 1 = [c]) ↔ _
  constructor
  · rintro ⟨h1, h2⟩
    refine ⟨by omega, ?_⟩
    have e := congrArg (fun l : List Nat => l.getD 0 0) h2
    simp only [List.getD_eq_getElem?_getD, List.getElem?_take, List.getElem?_drop] at e
    unfold ltr
    simpa [List.getD_eq_getElem?_getD] using e
  · rintro ⟨h1, h2⟩
    refine ⟨by omega, ?_⟩
    unfold ltr at h2
    rw [List.drop_eq_getElem_cons (by omega), List.take_succ_cons, List.take_zero]
    rw [List.getD_eq_getElem?_getD, List.getElem?_eq_getElem (by omega)] at h2
    rw [← h2]
    rfl
/-! ## a part made narrower -/
def less1 (w : Str) : Str := cutS w none (some (-1))
def more1 (w : Str) : Str := cutS w (some 1) none
theorem less1_list (w : Str) : (less1 w).cps.toList = w.cps.toList.take (w.length - 1) := by
  show ((w.cps.toList.drop (HT.sIx w.length 0 none)).take (HT.sIx w.length w.length (some (-1)) - HT.sIx w.length 0 none)).toArray.toList = _
  have e : HT.sIx w.length w.length (some (-1)) = w.length - 1 := by
    unfold HT.sIx
    simp
    omega
  rw [HT.sIx_none, e]
  simp
theorem more1_list (w : Str) : (more1 w).cps.toList = w.cps.toList.drop 1 := by
  have lw : w.cps.toList.length = w.length := Array.length_toList
  show ((w.cps.toList.drop (HT.sIx w.length 0 (some 1))).take (HT.sIx w.length w.length none - HT.sIx w.length 0 (some 1))).toArray.toList = _
  have e : HT.sIx w.length 0 (some ((1 : Nat) : Int)) = min 1 w.length := HT.sIx_nat ..
  have e' : HT.sIx w.length 0 (some (1 : Int)) = min 1 w.length := e
  rw [HT.sIx_none, e']
  rw [List.take_of_length_le (by rw [List.length_drop]; omega)]
  by_cases h : w.length = 0
  · have : w.cps.toList = [] := List.eq_nil_of_length_eq_zero (by omega)
    rw [this]
    simp
  · rw [Nat.min_eq_left (by omega)]
theorem less1_len {w : Str} : (less1 w).length = w.length - 1 := by
  rw [len_list, less1_list, List.length_take, ← len_list]
  omega
theorem more1_len {w : Str} : (more1 w).length = w.length - 1 := by
  rw [len_list, more1_list, List.length_drop, ← len_list]
/-- from the end -/
def okE (x : Str) (a b : Nat) (w : Str) : Prop := 1 < b - a ∧ 0 < w.length ∧ ltr w (w.length - 1) = ltr x (b - 1) ∧ twB x a (b - 1) = false
instance {x : Str} {a b : Nat} {w : Str} : Decidable (okE x a b w) := by unfold okE; infer_instance
def thinE (x : Str) (a : Nat) : Nat → Nat → Str → Nat × Str
  | 0, b, w => (b, w)
  | f + 1, b, w => if okE x a b w then thinE x a f (b - 1) (less1 w) else (b, w)
/-- from the beginning -/
def okB (x : Str) (b a : Nat) (w : Str) : Prop := 1 < b - a ∧ 0 < w.length ∧ ltr w 0 = ltr x a ∧ twB x (a + 1) b = false
instance {x : Str} {a b : Nat} {w : Str} : Decidable (okB x b a w) := by unfold okB; infer_instance
def thinB (x : Str) (b : Nat) : Nat → Nat → Str → Nat × Str
  | 0, a, w => (a, w)
  | f + 1, a, w => if okB x b a w then thinB x b f (a + 1) (more1 w) else (a, w)
def thinM (x : Str) (r : Nat × Nat × Str) : Nat × Nat × Str :=
  let e := thinE x r.1 r.2.1 r.2.1 r.2.2
  let g := thinB x e.1 e.1 r.1 e.2
  (g.1, e.1, g.2)
theorem thinE_go {x : Str} {a f b : Nat} {w : Str} (h : okE x a b w) : thinE x a (f + 1) b w = thinE x a f (b - 1) (less1 w) := by rw [thinE, if_pos h]
theorem thinE_no {x : Str} {a f b : Nat} {w : Str} (h : ¬ okE x a b w) : thinE x a f b w = (b, w) := by
  cases f with
  | zero => rfl
  | succ f => rw [thinE, if_neg h]
theorem thinB_go {x : Str} {a f b : Nat} {w : Str} (h : okB x b a w) : thinB x b (f + 1) a w = thinB x b f (a + 1) (more1 w) := by rw [thinB, if_pos h]
theorem thinB_no {x : Str} {a f b : Nat} {w : Str} (h : ¬ okB x b a w) : thinB x b f a w = (a, w) := by
  cases f with
  | zero => rfl
  | succ f => rw [thinB, if_neg h]
theorem backS_len {x : Str} : (backS x).length = x.length := by
  show (x.cps.toList.reverse.toArray).size = _
  rw [List.size_toArray, List.length_reverse, Array.length_toList]
  rfl
theorem backS_ltr {x : Str} {t : Nat} (h : t < x.length) : ltr (backS x) t = ltr x (x.length - 1 - t) := by
  have lx : x.cps.toList.length = x.length := Array.length_toList
  unfold ltr backS
  show (x.cps.toList.reverse.toArray.toList).getD t 0 = _
  rw [List.toList_toArray, List.getD_eq_getElem?_getD, List.getD_eq_getElem?_getD, List.getElem?_reverse (by omega), lx]
theorem fz_iff {x y : Str} {ca cb a b e : Nat} (ha : Ahead (ltr x) (ltr y) x.length y.length ca) (hb : Ahead (ltr (backS x)) (ltr (backS y)) x.length y.length cb) (L : Lend x a e) :
    Fz x y a b ↔ a ≤ ca ∧ e ≤ b ∧ x.length ≤ b + cb ∧ a + x.length ≤ y.length + b ∧ b ≤ x.length := by
  have g := L.gt
  constructor
  · intro h
    have h1 := h.lt
    have h2 := h.le
    have h3 := h.room
    refine ⟨(ha.iff (by omega) (by omega)).mpr h.pre, (L.iff h1 h2).mp h.once, ?_, h3, h2⟩
    have q := (hb.iff (a := x.length - b) (by omega) (by omega)).mpr fun t ht => by
      rw [backS_ltr (by omega), backS_ltr (by omega), h.suf (x.length - 1 - t) (by omega) (by omega), show x.length - 1 - t + y.length - x.length = y.length - 1 - t by omega]
    omega
  · rintro ⟨h1, h2, h3, h4, h5⟩
    refine ⟨by omega, h5, h4, (ha.iff (by omega) (by omega)).mp h1, fun t t1 t2 => ?_, L.more h2 h5⟩
    have q := (hb.iff (a := x.length - b) (by omega) (by omega)).mp (by omega) (x.length - 1 - t) (by omega)
    rw [backS_ltr (by omega), backS_ltr (by omega), show x.length - 1 - (x.length - 1 - t) = t by omega, show y.length - 1 - (x.length - 1 - t) = t + y.length - x.length by omega] at q
    exact q
/-- the end of the shortest window from a -/
def mEnd (x y : Str) (cb a e : Nat) : Nat := max (max e (x.length - cb)) (a + x.length - y.length)
theorem fz_m {x y : Str} {ca cb a b e : Nat} (ha : Ahead (ltr x) (ltr y) x.length y.length ca) (hb : Ahead (ltr (backS x)) (ltr (backS y)) x.length y.length cb) (L : Lend x a e) :
    Fz x y a b ↔ a ≤ ca ∧ mEnd x y cb a e ≤ b ∧ b ≤ x.length := by
  rw [fz_iff ha hb L]
  unfold mEnd
  omega
theorem fz_own {x y : Str} {ca cb a e : Nat} (ha : Ahead (ltr x) (ltr y) x.length y.length ca) (hb : Ahead (ltr (backS x)) (ltr (backS y)) x.length y.length cb) (L : Lend x a e) (h1 : a ≤ ca) (h2 : e ≤ x.length) : Fz x y a (mEnd x y cb a e) := by
  refine (fz_m ha hb L).mpr ⟨h1, Nat.le_refl _, ?_⟩
  have := ha.le2
  unfold mEnd
  omega
theorem fz_none {x y : Str} {i e a b : Nat} (L : Lend x i e) (h : x.length < e) (hi : i ≤ a) : ¬ Fz x y a b := fun f => by
  have h1 := f.lt
  have h2 := f.le
  have t := (twB_iff (by omega) h2).mp (L.twice b (by omega) (by omega) h2)
  have := (twB_iff (by omega) h2).mpr (t.less hi (by omega) (Nat.le_refl _))
  rw [f.once] at this
  cases this
theorem cutV_take {xs : List V} {k : Nat} : cutV xs none (some (k : Int)) = xs.take k := by
  unfold cutV
  rw [HT.sIx_none, HT.sIx_nat]
  simp
/-- parts, one behind the other -/
def OkR (n : Nat) : Nat → List (Nat × Nat × Str) → Prop
  | _, [] => True
  | p, r :: rs => p ≤ r.1 ∧ r.1 < r.2.1 ∧ r.2.1 ≤ n ∧ OkR n r.2.1 rs
def endR : Nat → List (Nat × Nat × Str) → Nat
  | p, [] => p
  | _, r :: rs => endR r.2.1 rs
theorem okR_snoc {n : Nat} {r : Nat × Nat × Str} : ∀ {p : Nat} {rs : List (Nat × Nat × Str)}, OkR n p rs → endR p rs ≤ r.1 → r.1 < r.2.1 → r.2.1 ≤ n → OkR n p (rs ++ [r])
  | p, [], _, h1, h2, h3 => ⟨h1, h2, h3, trivial⟩
  | p, s :: rs, h, h1, h2, h3 => ⟨h.1, h.2.1, h.2.2.1, okR_snoc h.2.2.2 h1 h2 h3⟩
theorem endR_snoc {r : Nat × Nat × Str} : ∀ {p : Nat} {rs : List (Nat × Nat × Str)}, endR p (rs ++ [r]) = r.2.1
  | p, [] => rfl
  | p, s :: rs => endR_snoc (rs := rs)
theorem okR_all {n : Nat} : ∀ {p : Nat} {rs : List (Nat × Nat × Str)}, OkR n p rs → ∀ r ∈ rs, p ≤ r.1 ∧ r.1 < r.2.1 ∧ r.2.1 ≤ n
  | p, s :: rs, h, r, hr => by
    rcases List.mem_cons.mp hr with rfl | hr
    · exact ⟨h.1, h.2.1, h.2.2.1⟩
    · have := okR_all h.2.2.2 r hr
      have := h.1
      have := h.2.1
      omega
theorem cut_to {x : Str} {a : Nat} : (cutS x none (some (a : Int))).cps.toList = x.cps.toList.take a := by
  show ((x.cps.toList.drop (HT.sIx x.length 0 none)).take (HT.sIx x.length x.length (some (a : Int)) - HT.sIx x.length 0 none)).toArray.toList = _
  have lx : x.cps.toList.length = x.length := Array.length_toList
  rw [HT.sIx_none, HT.sIx_nat, Nat.sub_zero, List.drop_zero, List.toList_toArray]
  by_cases h : a ≤ x.length
  · rw [Nat.min_eq_left h]
  · rw [Nat.min_eq_right (by omega), List.take_of_length_le (by omega), List.take_of_length_le (by omega)]
theorem cut_from {x : Str} {a : Nat} : (cutS x (some (a : Int)) none).cps.toList = x.cps.toList.drop a := by
  show ((x.cps.toList.drop (HT.sIx x.length 0 (some (a : Int)))).take (HT.sIx x.length x.length none - HT.sIx x.length 0 (some (a : Int)))).toArray.toList = _
  have lx : x.cps.toList.length = x.length := Array.length_toList
  rw [HT.sIx_none, HT.sIx_nat, List.toList_toArray]
  by_cases h : a ≤ x.length
  · rw [Nat.min_eq_left h, List.take_of_length_le (by rw [List.length_drop]; omega)]
  · rw [Nat.min_eq_right (by omega), Nat.sub_self, List.take_zero, List.drop_of_length_le (by omega)]
theorem cut_mid {x : Str} {a b : Nat} (h1 : a ≤ b) (h2 : b ≤ x.length) : (cutS x (some (a : Int)) (some (b : Int))).cps.toList = (x.cps.toList.drop a).take (b - a) := by
  rw [cut_ab h1 h2]
theorem app_list (x y : Str) : (x ++ y).cps.toList = x.cps.toList ++ y.cps.toList := by
  show (x.cps ++ y.cps).toList = _
  exact Array.toList_append
theorem str_ext {x y : Str} (h : x.cps.toList = y.cps.toList) : x = y := PySem.W.str_of_cps h
theorem take_eq_iff {x y : Str} {a : Nat} (h1 : a ≤ x.length) (h2 : a ≤ y.length) : x.cps.toList.take a = y.cps.toList.take a ↔ ∀ t, t < a → ltr x t = ltr y t := by
  have lx : x.cps.toList.length = x.length := Array.length_toList
  have ly : y.cps.toList.length = y.length := Array.length_toList
  unfold ltr
  constructor
  · intro h t ht
    have e := congrArg (fun l : List Nat => l[t]?) h
    simp only [List.getElem?_take, ht, if_true] at e
    rw [List.getD_eq_getElem?_getD, List.getD_eq_getElem?_getD, e]
  · intro h
    refine List.ext_getElem? fun t => ?_
    rw [List.getElem?_take, List.getElem?_take]
    by_cases ht : t < a
    · rw [if_pos ht, if_pos ht]
      have e := h t ht
      rw [List.getD_eq_getElem?_getD, List.getD_eq_getElem?_getD, List.getElem?_eq_getElem (by omega), List.getElem?_eq_getElem (by omega)] at e
      rw [List.getElem?_eq_getElem (by omega), List.getElem?_eq_getElem (by omega)]
      exact congrArg some e
    · rw [if_neg ht, if_neg ht]
theorem drop_eq_iff {x y : Str} {b r : Nat} (hb : b ≤ x.length) (hr : r + x.length = y.length + b) : x.cps.toList.drop b = y.cps.toList.drop r ↔ ∀ t, b ≤ t → t < x.length → ltr x t = ltr y (t + y.length - x.length) := by
  have lx : x.cps.toList.length = x.length := Array.length_toList
  have ly : y.cps.toList.length = y.length := Array.length_toList
  unfold ltr
  constructor
  · intro h t t1 t2
    have e := congrArg (fun l : List Nat => l[t - b]?) h
    simp only [List.getElem?_drop] at e
    rw [show b + (t - b) = t by omega, show r + (t - b) = t + y.length - x.length by omega] at e
    rw [List.getD_eq_getElem?_getD, List.getD_eq_getElem?_getD, e]
  · intro h
    refine List.ext_getElem? fun t => ?_
    rw [List.getElem?_drop, List.getElem?_drop]
    by_cases ht : b + t < x.length
    · have e := h (b + t) (by omega) ht
      rw [show b + t + y.length - x.length = r + t by omega, List.getD_eq_getElem?_getD, List.getD_eq_getElem?_getD, List.getElem?_eq_getElem (by omega), List.getElem?_eq_getElem (by omega)] at e
      rw [List.getElem?_eq_getElem (by omega), List.getElem?_eq_getElem (by omega)]
      exact congrArg some e
    · rw [List.getElem?_eq_none (by omega), List.getElem?_eq_none (by omega)]
theorem cat_iff {x y : Str} {a b r : Nat} (h1 : a < b) (h2 : b ≤ x.length) (hr : r + x.length = y.length + b) (h3 : a ≤ r) :
    cutS x none (some (a : Int)) ++ cutS y (some (a : Int)) (some (r : Int)) ++ cutS x (some (b : Int)) none = y ↔ (∀ t, t < a → ltr x t = ltr y t) ∧ ∀ t, b ≤ t → t < x.length → ltr x t = ltr y (t + y.length - x.length) := by
  have lx : x.cps.toList.length = x.length := Array.length_toList
  have ly : y.cps.toList.length = y.length := Array.length_toList
  have hy : y.cps.toList = y.cps.toList.take a ++ ((y.cps.toList.drop a).take (r - a) ++ y.cps.toList.drop r) := by
    have e1 : y.cps.toList.drop r = (y.cps.toList.drop a).drop (r - a) := by rw [List.drop_drop, show a + (r - a) = r by omega]
    rw [e1, List.take_append_drop, List.take_append_drop]
  have hl : (cutS x none (some (a : Int)) ++ cutS y (some (a : Int)) (some (r : Int)) ++ cutS x (some (b : Int)) none).cps.toList = x.cps.toList.take a ++ ((y.cps.toList.drop a).take (r - a) ++ x.cps.toList.drop b) := by
    rw [app_list, app_list, cut_to, cut_from, cut_mid h3 (by omega), List.append_assoc]
  rw [← take_eq_iff (by omega) (by omega), ← drop_eq_iff h2 hr]
  constructor
  · intro h
    have e := (hl.symm.trans (congrArg (fun z : Str => z.cps.toList) h)).trans hy
    obtain ⟨e1, e2⟩ := List.append_inj e (by rw [List.length_take, List.length_take]; omega)
    exact ⟨e1, List.append_cancel_left e2⟩
  · rintro ⟨e1, e2⟩
    refine str_ext ?_
    rw [hl, e1, e2, ← hy]
/-- what the law looks at -/
def fzB (x y : Str) (p : Nat × Nat) : Bool := decide (p.1 + x.length ≤ y.length + p.2) && (decide (cutS x none (some (p.1 : Int)) ++ newOf x y p.1 p.2 ++ cutS x (some (p.2 : Int)) none = y) && decide (p.1 < p.2 ∧ twB x p.1 p.2 = false))
theorem fzB_iff {x y : Str} {a b : Nat} (h1 : a < b) (h2 : b ≤ x.length) : fzB x y (a, b) = true ↔ Fz x y a b := by
  unfold fzB newOf
  rw [Bool.and_eq_true, Bool.and_eq_true, decide_eq_true_eq, decide_eq_true_eq, decide_eq_true_eq]
  show (a + x.length ≤ y.length + b ∧ _) ↔ _
  constructor
  · rintro ⟨g1, g2, g3⟩
    have er : (((y.length + b : Nat) : Int) - ((x.length : Nat) : Int)) = ((y.length + b - x.length : Nat) : Int) := by omega
    simp only at g2
    rw [er] at g2
    obtain ⟨g4, g5⟩ := (cat_iff h1 h2 (by omega) (by omega)).mp g2
    exact ⟨h1, h2, g1, g4, g5, g3.2⟩
  · intro f
    have g1 := f.room
    have er : (((y.length + b : Nat) : Int) - ((x.length : Nat) : Int)) = ((y.length + b - x.length : Nat) : Int) := by omega
    refine ⟨g1, ?_, h1, f.once⟩
    simp only
    rw [er]
    exact (cat_iff h1 h2 (by omega) (by omega)).mpr ⟨f.pre, f.suf⟩
/-! ## texts that may be shown -/
theorem ok_letters {x : Str} (h : ∀ c ∈ x.cps.toList, c ∈ letS.cps.toList) : PyData.strOk x = true := by
  have all : ∀ c ∈ letS.cps.toList, c < 0x110000 := by decide +kernel
  show x.cps.all (· < 0x110000) = true
  rw [Array.all_eq_true_iff_forall_mem]
  intro c hc
  simpa using all c (h c (by simpa using hc))
theorem ok_word {z x : Str} {a b : Nat} (fz : Few z) (w : Word z a b x) : PyData.strOk x = true := ok_letters fun c hc => fz.2.2 c (w.2.2 c hc)
theorem ok_one {z : Str} {c : Nat} (fz : Few z) (h : c ∈ z.cps.toList) : PyData.strOk (⟨#[c]⟩ : Str) = true := ok_letters fun d hd => by
  have e : d ∈ [c] := hd
  rw [List.mem_singleton.mp e]
  exact fz.2.2 c h
theorem cutS_ok {x : Str} (h : PyData.strOk x = true) (a b : Option Int) : PyData.strOk (cutS x a b) = true := by
  have e : x.cps.all (· < 0x110000) = true := h
  rw [Array.all_eq_true_iff_forall_mem] at e
  show (cutS x a b).cps.all (· < 0x110000) = true
  rw [Array.all_eq_true_iff_forall_mem]
  intro c hc
  have hc2 : c ∈ ((x.cps.toList.drop (HT.sIx x.length 0 a)).take (HT.sIx x.length x.length b - HT.sIx x.length 0 a)) := by
    have : c ∈ (List.toArray ((x.cps.toList.drop (HT.sIx x.length 0 a)).take (HT.sIx x.length x.length b - HT.sIx x.length 0 a))) := hc
    simpa using this
  exact e c (by simpa using List.mem_of_mem_drop (List.mem_of_mem_take hc2))
theorem more_list {z y : Str} : (z ++ y).cps.toList = z.cps.toList ++ y.cps.toList := by
  show (z.cps ++ y.cps).toList = _
  simp
theorem ok_more {z y : Str} (h1 : PyData.strOk z = true) (h2 : PyData.strOk y = true) : PyData.strOk (z ++ y) = true := by
  have e1 : z.cps.all (· < 0x110000) = true := h1
  have e2 : y.cps.all (· < 0x110000) = true := h2
  show (z ++ y).cps.all (· < 0x110000) = true
  rw [Array.all_eq_true_iff_forall_mem] at e1 e2 ⊢
  intro c hc
  have hc2 : c ∈ z.cps.toList ++ y.cps.toList := by
    rw [← more_list]
    simpa using hc
  rcases List.mem_append.mp hc2 with h | h
  · exact e1 c (by simpa using h)
  · exact e2 c (by simpa using h)
theorem ok_none : PyData.strOk ("" : Str) = true := by decide +kernel
end Vk
set_option Elab.async false
set_option maxRecDepth 100000
set_option linter.all false
set_option maxHeartbeats 4000000
namespace Vk
open PySem PySem.Spec PyProof.Rows L2
def top (i : Nat) : Stmt := PySem.Challenge.pw_anchoredits_k65_single_and_thinned_excha.main.body.getD i (.Pass ⟨0, 0, 0, 0⟩)
structure Txt (mg : Str → Option Value) : Prop where
  len : mg "len" = none
  list : mg "list" = none
  int : mg "int" = none
  abs : mg "abs" = none
  range : mg "range" = none
  min : mg "min" = none
  repr : mg "repr" = none
  max : mg "max" = none
  sum : mg "sum" = none
  tuple : mg "tuple" = none
  zip : mg "zip" = none
  enumerate : mg "enumerate" = none
section
variable {P : Program} {w : World} {K : PySem.W.Frag} {mg : Str → Option Value} {base : Heap}
theorem find_two {x w : Str} : (∃ z : Int, Txt.find x w = z ∧ ∃ y : Int, Txt.find3 x w (z + 1) = y ∧ (decide (0 ≤ y) = decide (2 ≤ (plc x w).length))) := by
  have nd := plc_asc x w
  have mem : ∀ i, StrLaws.At x w x.length i ↔ i ∈ plc x w := fun i => by
    unfold plc
    rw [List.mem_filter, List.mem_range, atB_iff]
    exact ⟨fun h => ⟨by have := h.1; omega, h⟩, fun h => h.2⟩
  have ef : ∀ i : Nat, Txt.find3 x w ((i : Nat) : Int) = (match Builtin.Str.occurrences x w i x.length 1 with | i :: _ => (i : Int) | [] => -1) := fun i => by
    unfold Txt.find3
    rw [show fromIndex x.length ((i : Nat) : Int) = i by unfold fromIndex; rw [if_neg (by omega)]; omega]
    cases Builtin.Str.occurrences x w i x.length 1 <;> rfl
  have key : ∀ i : Nat, i ≤ x.length + 1 → (Txt.find3 x w ((i : Nat) : Int) = -1 ∧ ∀ k, i ≤ k → ¬ StrLaws.At x w x.length k) ∨ ∃ j : Nat, Txt.find3 x w ((i : Nat) : Int) = (j : Int) ∧ i ≤ j ∧ StrLaws.At x w x.length j ∧ ∀ k, i ≤ k → k < j → ¬ StrLaws.At x w x.length k := fun i hi => by
    rw [ef]
    exact find_from x w i hi
  have f0 : (Txt.find x w = -1 ∧ ∀ k, 0 ≤ k → ¬ StrLaws.At x w x.length k) ∨ ∃ j : Nat, Txt.find x w = (j : Int) ∧ 0 ≤ j ∧ StrLaws.At x w x.length j ∧ ∀ k, 0 ≤ k → k < j → ¬ StrLaws.At x w x.length k := find_from x w 0 (Nat.zero_le _)
  refine ⟨_, rfl, _, rfl, ?_⟩
  rcases f0 with ⟨h1, h2⟩ | ⟨i, h1, h2, h3, h4⟩
  · have en : plc x w = [] := List.eq_nil_iff_forall_not_mem.mpr fun k hk => h2 k (Nat.zero_le _) ((mem k).mpr hk)
    have k0 := key 0 (Nat.zero_le _)
    rw [h1, en]
    rcases k0 with ⟨g1, _⟩ | ⟨j, _, _, g3, _⟩
    · rw [show ((-1 : Int) + 1) = ((0 : Nat) : Int) by rfl, g1]
      decide
    · exact absurd g3 (h2 j (Nat.zero_le _))
  · have il : i ≤ x.length := by have := h3.1; omega
    have hi := (mem i).mp h3
    rw [h1, show ((i : Int) + 1) = ((i + 1 : Nat) : Int) by omega, decide_eq_decide, two_of nd hi]
    rcases key (i + 1) (by omega) with ⟨g1, g2⟩ | ⟨j, g1, g2, g3, g4⟩
    · rw [g1]
      constructor
      · intro h; omega
      · rintro ⟨k, hk, hne⟩
        have hk2 := (mem k).mpr hk
        by_cases lt : k < i
        · exact absurd hk2 (h4 k (Nat.zero_le _) lt)
        · exact absurd hk2 (g2 k (by omega))
    · rw [g1]
      exact ⟨fun _ => ⟨j, (mem j).mp g3, by omega⟩, fun _ => by omega⟩
def spTwice : Sp := fun vs H Q _ => ∃ x w, vs = [.str x, .str w] ∧ Q (.bl (decide (2 ≤ (plc x w).length))) H
abbrev s_stands_twice : Stmt := top 1
theorem sc_stands_twice : FnScope ["text", "word"] ["text", "word"] (defScope s_stands_twice) := ⟨rfl, rfl, rfl, by decide +kernel, rfl, by decide +kernel, by decide +kernel⟩
theorem b_stands_twice {f : Addr} {fd : FuncData} (F : Fun K "stands_twice" "stands_twice" s_stands_twice f fd) (T : Txt mg) : FnG P w K mg base CX0 1 f fd ["text", "word"] spTwice := by
  refine okG0 F sc_stands_twice (fun vs H Q E h => ?_) (fun cdv A outer s H vs Q E hg hr h => ?_)
  · obtain ⟨x, w, rfl, _⟩ := h
    rfl
  · have hu := hu_of hr
    have hu64 := hr.units
    obtain ⟨x, w, rfl, k⟩ := h
    refine ⟨_, (pss_one (ps_ret (pe_cmpR op_ge (pe_bm PySem.F.plainAttrs_str PySem.F.slot_str_find PySem.F.type_str_find mt_find3 (pv 0) (pa_cons (pv 1) (pa_cons (pe_op op_add (pe_bm PySem.F.plainAttrs_str PySem.F.slot_str_find PySem.F.type_str_find mt_find (pv 0) (pa_cons (pv 1) pa_nil)) pe_int) pa_nil))) pe_int (nomark _)))), ?_⟩
    obtain ⟨z, e1, y, e2, e3⟩ := @find_two x w
    refine ⟨_, rfl, rfl, _, rfl, _, rfl, rfl, _, rfl, x, w, rfl, rfl, ?_⟩
    rw [e1]
    refine ⟨_, _, rfl, rfl, x, w, _, rfl, rfl, ?_⟩
    rw [e2]
    refine ⟨_, _, rfl, rfl, ?_⟩
    show Q (V.bl (decide (0 ≤ y))) H
    rw [e3]
    exact k

def spOnce : Sp := fun vs H Q _ => ∃ x w, vs = [.str x, .str w] ∧ Q (.bl (decide ((plc x w).length = 1))) H
theorem in_plc {x w : Str} : (!(Builtin.Str.occurrences x w 0 x.length 1).isEmpty) = decide (1 ≤ (plc x w).length) := by
  rw [Bool.eq_iff_iff, PySem.StrLaws.found_iff, decide_eq_true_eq]
  constructor
  · rintro ⟨i, h1, h2⟩
    refine List.length_pos_of_mem (a := i) ?_
    unfold plc atB
    rw [List.mem_filter, List.mem_range, Bool.and_eq_true, decide_eq_true_eq]
    exact ⟨by omega, h1, h2⟩
  · intro h
    obtain ⟨i, hi⟩ := List.exists_mem_of_length_pos h
    unfold plc atB at hi
    rw [List.mem_filter, List.mem_range, Bool.and_eq_true, decide_eq_true_eq] at hi
    exact ⟨i, hi.2.1, hi.2.2⟩
abbrev s_stands_once : Stmt := top 2
theorem sc_stands_once : FnScope ["text", "word"] ["text", "word"] (defScope s_stands_once) := ⟨rfl, rfl, rfl, by decide +kernel, rfl, by decide +kernel, by decide +kernel⟩
theorem b_stands_once {f : Addr} {fd : FuncData} (F : Fun K "stands_once" "stands_once" s_stands_once f fd) (T : Txt mg) (c_stands_twice : CalG P w K mg base CX0 1 "stands_twice" spTwice) : FnG P w K mg base CX0 2 f fd ["text", "word"] spOnce := by
  refine okG0 F sc_stands_once (fun vs H Q E h => ?_) (fun cdv A outer s H vs Q E hg hr h => ?_)
  · obtain ⟨x, w, rfl, _⟩ := h
    rfl
  · have hu := hu_of hr
    have hu64 := hr.units
    obtain ⟨x, w, rfl, k⟩ := h
    have hr1 : Room 1 _ := hr
    refine ⟨_, (pss_one (ps_ret (pe_and (pe_cmpR op_in_str (pv 1) (pv 0) (by rfl)) (pe_one (pe_not (pe_cG c_stands_twice hg hr (by decide) pass0 (pa_cons (pv 0) (pa_cons (pv 1) pa_nil)))))))), ?_⟩
    refine ⟨_, rfl, _, rfl, w, x, rfl, rfl, _, rfl, ?_⟩
    rw [in_plc]
    by_cases c : 1 ≤ (plc x w).length
    · rw [decide_eq_true c]
      refine iteT ?_
      refine ⟨_, rfl, _, rfl, x, w, rfl, _, rfl, ?_⟩
      have e : (!decide (2 ≤ (plc x w).length)) = decide ((plc x w).length = 1) := by
        rw [← decide_not]
        exact decide_eq_decide.mpr (by omega)
      rw [e]
      exact k
    · rw [decide_eq_false c]
      refine iteF ?_
      rw [decide_eq_false (show ¬ (plc x w).length = 1 by omega)] at k
      exact k

/-- what stands for an end -/
def endV (x : Str) (e : Nat) : V := if e ≤ x.length then .int (e : Nat) else .non
def spEnds : Sp := fun vs H Q _ => ∃ x, vs = [.str x] ∧ x.length ≤ 100 ∧ ∀ (a : Addr) (es : List Nat) H', H a = none → H' a = some (.lst (es.map (endV x))) → es.length = x.length → (∀ i e, es[i]? = some e → Lend x i e) → Same H H' → Q (.ref a) H'
abbrev s_least_ends : Stmt := top 4
theorem sc_least_ends : FnScope ["text", "told", "end", "begin"] ["text"] (defScope s_least_ends) := ⟨rfl, rfl, rfl, by decide +kernel, rfl, by decide +kernel, by decide +kernel⟩
theorem b_least_ends {f : Addr} {fd : FuncData} (F : Fun K "least_ends" "least_ends" s_least_ends f fd) (T : Txt mg) (c_stands_twice : CalG P w K mg base CX0 1 "stands_twice" spTwice) : FnG P w K mg base CX0 2 f fd ["text"] spEnds := by
  refine okG0 F sc_least_ends (fun vs H Q E h => ?_) (fun cdv A outer s H vs Q E hg hr h => ?_)
  · obtain ⟨x, rfl, _⟩ := h
    rfl
  · have hu := hu_of hr
    have hu64 := hr.units
    obtain ⟨x, rfl, hx, k⟩ := h
    have hr1 : Room 1 _ := hr
    have xl : x.length ≤ sizeLine := Nat.le_of_lt (fewL (by omega))
    refine ⟨_, (pss_cons (ps_set (i := 1) sc_least_ends.nd rfl (Or.inl rfl) (pe_lst pa_nil))
      (pss_cons (ps_set (i := 2) sc_least_ends.nd rfl (Or.inl rfl) pe_int)
      (pss_cons (ps_for PassesOwn.never rfl (pi_range1 rfl T.range (pa_cons (pe_callB call_len (by rfl) T.len (by decide +kernel) (pa_cons (pv 0) pa_nil)) pa_nil)) (pg_name (i := 3) sc_least_ends.nd rfl (Or.inl rfl)) (pss_cons (ps_set (i := 2) sc_least_ends.nd rfl (Or.inl rfl) (pe_callB (call_max2 rfl) (by rfl) T.max (by decide +kernel) (pa_cons (pv 2) (pa_cons (pe_op op_add (pv 3) pe_int) pa_nil))))
      (pss_cons (ps_while PassesOwn.never (PW.pt (pw_and (pt_cmpR op_le (pv 2) (pe_callB call_len (by rfl) T.len (by decide +kernel) (pa_cons (pv 0) pa_nil)) (nomark _)) (pw_and1 (pt_val (pe_cG c_stands_twice hg hr (by decide) pass0 (pa_cons (pv 0) (pa_cons (pe_slice sl_str (pv 0) (po_some (pv 3)) (po_some (pv 2))) pa_nil))))))) (pss_one (ps_aug (i := 2) sc_least_ends.nd rfl (Or.inl rfl) pe_int ip_add)))
      (pss_one (ps_expr (pe_bm PySem.F.plainAttrs_list PySem.F.slot_list_append PySem.F.type_list_append mt_append (pv 1) (pa_cons (pe_ifExp (pt_cmpR op_le (pv 2) (pe_callB call_len (by rfl) T.len (by decide +kernel) (pa_cons (pv 0) pa_nil)) (nomark _)) (pv 2) pe_non) pa_nil)))))))
      (pss_one (ps_ret (pv 1)))))), ?_⟩
    refine ⟨by show 0 ≤ sizeLine; decide, fun a ha => ?_⟩
    have sa := same_new (o := .lst []) ha
    refine ⟨_, rfl, _, _, rfl, ⟨xl, rfl⟩, _, rfl, by omega, by omega, ?_⟩
    refine for_range (lo := 0) (n := ((x.length : Nat) : Int).toNat) (fun i σ H' => ∃ (o3 : Option V) (e0 : Nat) (es : List Nat), σ = [some (.str x), some (.ref a), some (.int (e0 : Nat)), o3] ∧ H' a = some (.lst (es.map (endV x))) ∧ es.length = i ∧ (∀ j e, es[j]? = some e → Lend x j e) ∧ Same H H' ∧ ((i = 0 ∧ e0 = 0) ∨ (1 ≤ i ∧ Lend x (i - 1) e0))) ?_ ?_ ?_
    · exact ⟨_, 0, [], rfl, upd_same, rfl, (fun j e h => by cases h), sa, .inl ⟨rfl, rfl⟩⟩
    · rintro i σ H2 hi ⟨o3, e0, es, rfl, ha2, el, le, s2, h0⟩
      have hi1 : i < x.length := by omega
      rw [Int.zero_add]
      refine ⟨_, rfl, _, rfl, _, _, rfl, rfl, _, _, rfl, ?_⟩
      have em : (if ((i : Nat) : Int) + 1 > ((e0 : Nat) : Int) then ((i : Nat) : Int) + 1 else ((e0 : Nat) : Int)) = ((max e0 (i + 1) : Nat) : Int) := by split <;> omega
      rw [em]
      have hm1 : i < max e0 (i + 1) := by omega
      have hm2 : max e0 (i + 1) ≤ x.length + 1 := by
        rcases h0 with h0 | h0
        · omega
        · have := h0.2.le; omega
      have tw0 : ∀ b, i < b → b < max e0 (i + 1) → b ≤ x.length → twB x i b = true := fun b b1 b2 b3 => by
        rcases h0 with h0 | h0
        · omega
        · have q := h0.2.next b
          rw [show i - 1 + 1 = i by omega, show i - 1 + 2 = i + 1 by omega] at q
          exact q b1 b2 b3
      obtain ⟨r1, r2, r3, r4⟩ := lendF_spec (x := x) (a := i) (x.length + 1) (max e0 (i + 1)) hm1 (by omega) tw0
      have L : Lend x i (lendF x i (x.length + 1) (max e0 (i + 1))) := ⟨by omega, r4 hm2, r2, r3⟩
      generalize hR : lendF x i (x.length + 1) (max e0 (i + 1)) = R at L
      clear r1 r2 r3 r4
      refine ⟨fun m σ H' => ∃ e f, σ = [some (.str x), some (.ref a), some (.int (e : Nat)), some (.int (i : Nat))] ∧ H' = H2 ∧ lendF x i f e = R ∧ x.length + 1 ≤ e + f ∧ i < e ∧ m = x.length + 1 - e, ⟨_, _, _, rfl, rfl, hR, by omega, hm1, rfl⟩, ?_⟩
      rintro m σ H3 ⟨e, f, rfl, rfl, eR, ef, ie, rfl⟩
      refine ⟨_, rfl, _, rfl, _, _, rfl, ⟨xl, rfl⟩, _, _, rfl, rfl, _, rfl, ?_⟩
      by_cases cond : e ≤ x.length ∧ twB x i e = true
      · rw [decide_eq_true (show ((e : Nat) : Int) ≤ ((x.length : Nat) : Int) by omega)]
        refine iteT ⟨_, rfl, _, rfl, _, rfl, _, rfl, _, rfl, _, rfl, x, rfl, xl, x, _, rfl, _, rfl, ?_⟩
        rw [show decide (2 ≤ (plc x (cutS x (some ((i : Nat) : Int)) (some ((e : Nat) : Int)))).length) = twB x i e from rfl, cond.2]
        refine iteT ⟨fun σ' H' => σ' = [some (.str x), some (.ref a), some (.int ((e + 1 : Nat) : Int)), some (.int (i : Nat))] ∧ H' = H3, ?_, ?_⟩
        · rintro σ' H' ⟨rfl, rfl⟩
          cases f with
          | zero => omega
          | succ f => exact ⟨_, (by omega : x.length + 1 - (e + 1) < x.length + 1 - e), e + 1, f, rfl, rfl, (lendF_step cond).symm.trans eR, by omega, by omega, rfl⟩
        · exact ⟨_, rfl, _, _, rfl, rfl, rfl, rfl⟩
      · have eq : e = R := by rw [← eR, lendF_stop cond]
        refine' or_both (R := ?oR) ?oa ?ob ?oc
        case oa =>
          intro hc hR
          refine ⟨_, rfl, _, rfl, _, rfl, _, rfl, _, rfl, _, rfl, x, rfl, xl, x, _, rfl, _, rfl, ?_⟩
          have el2 : e ≤ x.length := Int.ofNat_le.mp (of_decide_eq_true hc)
          rw [show decide (2 ≤ (plc x (cutS x (some ((i : Nat) : Int)) (some ((e : Nat) : Int)))).length) = twB x i e from rfl]
          cases q : twB x i e with
          | true => exact absurd ⟨el2, q⟩ cond
          | false =>
            refine iteF ?_
            exact hR
        case ob =>
          intro hc hR
          exact hR
        case oc =>
          subst eq
          refine ⟨_, rfl, .inl ⟨rfl, _, SqL.of ha2⟩, _, rfl, _, rfl, _, _, rfl, ⟨xl, rfl⟩, _, _, rfl, rfl, _, rfl, ?_⟩
          have snoc : ∀ v, v = endV x e → es.map (endV x) ++ [v] = (es ++ [e]).map (endV x) := fun v hv => by rw [List.map_append, hv]; rfl
          have fin : ∀ j e', (es ++ [e])[j]? = some e' → Lend x j e' := fun j e' h => by
            by_cases hj : j < es.length
            · rw [List.getElem?_append_left hj] at h
              exact le j e' h
            · have ej : j = i := by
                have := (List.getElem?_eq_some_iff.mp h).1
                rw [List.length_append, List.length_singleton] at this
                omega
              subst ej
              rw [List.getElem?_append_right (by omega), el, Nat.sub_self] at h
              cases h
              exact L
          by_cases c : e ≤ x.length
          · rw [decide_eq_true (show ((e : Nat) : Int) ≤ ((x.length : Nat) : Int) by omega)]
            refine iteT ⟨_, rfl, a, _, _, rfl, rfl, ha2, fewL (by rw [List.length_map]; omega), _, e, es ++ [e], rfl, ?_, by rw [List.length_append, el]; rfl, fin, upd_out ha s2, .inr ⟨by omega, L⟩⟩
            rw [upd_same, snoc _ (by unfold endV; rw [if_pos c])]
          · rw [decide_eq_false (show ¬ ((e : Nat) : Int) ≤ ((x.length : Nat) : Int) by omega)]
            refine iteF ⟨a, _, _, rfl, rfl, ha2, fewL (by rw [List.length_map]; omega), _, e, es ++ [e], rfl, ?_, by rw [List.length_append, el]; rfl, fin, upd_out ha s2, .inr ⟨by omega, L⟩⟩
            rw [upd_same, snoc _ (by unfold endV; rw [if_neg c])]
    · rintro σ H2 ⟨o3, e0, es, rfl, ha2, el, le, s2, h0⟩
      rw [Int.toNat_natCast] at el
      exact ⟨_, rfl, k a es H2 ha ha2 el le s2⟩

end
end Vk
set_option Elab.async false
set_option maxRecDepth 100000
set_option linter.all false
set_option maxHeartbeats 4000000
namespace Vk
open PySem PySem.Spec PyProof.Rows L2
section
variable {P : Program} {w : World} {K : PySem.W.Frag} {mg : Str → Option Value} {base : Heap}
def spAhead : Sp := fun vs H Q _ => ∃ x y, vs = [.str x, .str y] ∧ x.length ≤ 100 ∧ y.length ≤ 100 ∧ ∀ (c : Nat) H', Ahead (ltr x) (ltr y) x.length y.length c → Same H H' → Q (.int (c : Nat)) H'
/-- parts -/
def Rw3 (H : Hp) : List V → List (Nat × Nat × Str) → Prop := Paired (fun v (r : Nat × Nat × Str) => ∃ t, v = V.ref t ∧ H t = some (.tup [.int (r.1 : Nat), .int (r.2.1 : Nat), .str r.2.2]))
theorem Rw3.keep {H H1 : Hp} {xs : List V} {rs : List (Nat × Nat × Str)} (h : Rw3 H xs rs) (s : Same H H1) : Rw3 H1 xs rs := pair_mono (fun v p ⟨t, e, ht⟩ => ⟨t, e, s _ _ ht⟩) h
theorem Rw3.keepT {H H1 : Hp} {xs : List V} {rs : List (Nat × Nat × Str)} (h : Rw3 H xs rs) (s : ∀ u ws, H u = some (.tup ws) → H1 u = some (.tup ws)) : Rw3 H1 xs rs := pair_mono (fun v p ⟨t, e, ht⟩ => ⟨t, e, s _ _ ht⟩) h
def cost1 (r : Nat × Nat × Str) : Int := (r.2.1 : Int) - (r.1 : Int) + (r.2.2.length : Nat) + 0
def spCost : Sp := fun vs H Q _ => ∃ (q : Addr) (xs : List V) (rs : List (Nat × Nat × Str)), vs = [.ref q, .int 0] ∧ H q = some (.tup xs) ∧ Rw3 H xs rs ∧ rs.length ≤ 100 ∧ (∀ r ∈ rs, r.2.2.length ≤ 100) ∧ ∀ H', Same H H' → Q (.int ((rs.map cost1).sum)) H'
def spThin : Sp := fun vs H Q _ => ∃ (x : Str) (a b : Nat) (z : Str), vs = [.str x, .int (a : Nat), .int (b : Nat), .str z] ∧ a < b ∧ b ≤ x.length ∧ x.length ≤ 100 ∧ z.length ≤ 100 ∧ ∀ (t : Addr) H', H t = none → H' t = some (.tup [.int ((thinM x (a, b, z)).1 : Nat), .int ((thinM x (a, b, z)).2.1 : Nat), .str (thinM x (a, b, z)).2.2]) → Same H H' → Q (.ref t) H'
abbrev s_common_length : Stmt := top 7
theorem sc_common_length : FnScope ["one", "other", "length", "left", "right"] ["one", "other"] (defScope s_common_length) := ⟨rfl, rfl, rfl, by decide +kernel, rfl, by decide +kernel, by decide +kernel⟩
theorem b_common_length {f : Addr} {fd : FuncData} (F : Fun K "common_length" "common_length" s_common_length f fd) (T : Txt mg) : FnG P w K mg base CX0 1 f fd ["one", "other"] spAhead := by
  refine okG0 F sc_common_length (fun vs H Q E h => ?_) (fun cdv A outer s H vs Q E hg hr h => ?_)
  · obtain ⟨x, y, rfl, _⟩ := h
    rfl
  · have hu := hu_of hr
    have hu64 := hr.units
    obtain ⟨x, y, rfl, hx, hy, k⟩ := h
    have lx : x.cps.size = x.length := rfl
    have ly : y.cps.size = y.length := rfl
    refine ⟨_, (pss_cons (ps_set (i := 2) sc_common_length.nd rfl (Or.inl rfl) pe_int)
      (pss_cons (ps_for PassesOwn.never rfl (pi_zipS (by rfl) T.zip (pa_cons (pv 0) (pa_cons (pv 1) pa_nil))) (pg_tup rfl (pgs_cons (pg_name (i := 3) sc_common_length.nd rfl (Or.inl rfl)) (pgs_cons (pg_name (i := 4) sc_common_length.nd rfl (Or.inl rfl)) pgs_nil))) (pss_cons (ps_if (pt_cmpR op_ne (pv 3) (pv 4) (nomark _)) (pss_one ps_break) pss_nil)
      (pss_one (ps_aug (i := 2) sc_common_length.nd rfl (Or.inl rfl) pe_int ip_add))))
      (pss_one (ps_ret (pv 2))))), ?_⟩
    refine ⟨_, rfl, _, rfl, x, y, rfl, ?_⟩
    refine for_zipS (fun i σ H' => ∃ o3 o4, σ = [some (.str x), some (.str y), some (.int (i : Nat)), o3, o4] ∧ Same H H' ∧ ∀ t, t < i → ltr x t = ltr y t) ?_ ?_ ?_
    · exact ⟨_, _, rfl, fun _ _ e => e, fun t ht => absurd ht (Nat.not_lt_zero t)⟩
    · rintro i c d σ H2 T hc hd hT ⟨o3, o4, rfl, s2, same⟩
      have sT := same_new (o := .tup [.str ⟨#[c]⟩, .str ⟨#[d]⟩]) hT
      refine ⟨T, _, rfl, SqT.of upd_same, rfl, _, _, rfl, _, _, rfl, rfl, ?_⟩
      refine ⟨_, rfl, _, rfl, rfl, _, rfl, ?_⟩
      have hxc := ltr_at hc
      have hyd := ltr_at hd
      have ix := (Array.getElem?_eq_some_iff.mp hc).1
      have iy := (Array.getElem?_eq_some_iff.mp hd).1
      rw [show decide (V.str ⟨#[c]⟩ = V.str ⟨#[d]⟩) = decide (c = d) from ones_eq c d]
      by_cases e : c = d
      · rw [decide_eq_true e]
        refine iteF ⟨_, rfl, _, _, rfl, rfl, _, _, rfl, s2.trans sT, fun t ht => ?_⟩
        by_cases ti : t = i
        · rw [ti, hxc, hyd, e]
        · exact same t (by omega)
      · rw [decide_eq_false e]
        refine iteT ⟨_, rfl, k i _ ⟨by omega, by omega, same, .inr (.inr ?_)⟩ (s2.trans sT)⟩
        rw [hxc, hyd]
        exact e
    · rintro i σ H2 hend l1 l2 ⟨o3, o4, rfl, s2, same⟩
      exact ⟨_, rfl, k i H2 ⟨l1, l2, same, hend.elim (fun e => .inl e.symm) fun e => .inr (.inl e.symm)⟩ s2⟩

abbrev s_cost_of : Stmt := top 6
theorem sc_cost_of : FnScope ["exchange", "each", "begin", "end", "new"] ["exchange", "each"] (defScope s_cost_of) := ⟨rfl, rfl, rfl, by decide +kernel, rfl, by decide +kernel, by decide +kernel⟩
theorem b_cost_of {f : Addr} {fd : FuncData} (F : Fun K "cost_of" "cost_of" s_cost_of f fd) (T : Txt mg) : FnG P w K mg base CX0 1 f fd ["exchange", "each"] spCost := by
  refine okG0 F sc_cost_of (fun vs H Q E h => ?_) (fun cdv A outer s H vs Q E hg hr h => ?_)
  · obtain ⟨q, xs, rs, rfl, _⟩ := h
    rfl
  · have hu := hu_of hr
    have hu64 := hr.units
    obtain ⟨q, xs, rs, rfl, hq, rw0, hl, hz, k⟩ := h
    have glen := paired_len rw0
    refine ⟨_, (pss_one (ps_ret (pe_callB (cr_sum rfl) (by rfl) T.sum (by decide +kernel) (pa_cons (pe_lc (own := [("begin", 2), ("end", 3), ("new", 4)]) (g := (gTup K 3 (gCons (gName 2) (gCons (gName 3) (gCons (gName 4) gNil))))) (tt := tYes) rfl sc_cost_of.nd (pi_tup (pv 0)) (blkOk_by (own := [("begin", 2), ("end", 3), ("new", 4)]) (N := ["exchange", "each", "begin", "end", "new"]) (sc := defScope s_cost_of) (by decide +kernel)) (fun _ _ _ _ _ => (pg_tupK (K := K) rfl rfl (pgs_cons (pg_name (i := 2) sc_cost_of.nd rfl (Or.inl rfl)) (pgs_cons (pg_name (i := 3) sc_cost_of.nd rfl (Or.inl rfl)) (pgs_cons (pg_name (i := 4) sc_cost_of.nd rfl (Or.inl rfl)) pgs_nil))))) (fun _ _ _ _ _ => pts_nil) (fun _ _ _ _ _ => (pe_op op_add (pe_op op_add (pe_op op_sub (pv 3) (pv 2)) (pe_callB (call_lenK (K := K) rfl) (by rfl) T.len (by decide +kernel) (pa_cons (pv 4) pa_nil))) (pv 1)))) pa_nil)))), ?_⟩
    refine ⟨_, rfl, q, rfl, ⟨_, SqT.of hq⟩, fun D hD => ?_⟩
    have sD := same_new (o := .lst []) hD
    refine lc_tup (K := K) (a := q) (xs := xs) (fun n H' => H' D = some (.lst ((rs.take n).map fun r => V.int (cost1 r))) ∧ Same H H') ?_ ?_ ?_ ?_
    · exact ⟨upd_same, sD⟩
    · rintro n H' _ ⟨_, sm⟩
      exact SqT.of (sm _ _ hq)
    · rintro n v H' hv ⟨hDz, sm⟩
      obtain ⟨r, hr1, t, rfl, ht⟩ := paired_at rw0 hv
      have zl : r.2.2.length ≤ sizeLine := Nat.le_of_lt (fewL (by have := hz r (List.mem_of_getElem? hr1); omega))
      refine ⟨t, _, rfl, SqT.of (sm _ _ ht), rfl, _, _, rfl, _, _, rfl, _, _, rfl, rfl, ?_⟩
      refine ⟨rfl, _, rfl, _, rfl, _, _, rfl, rfl, _, rfl, _, _, rfl, ⟨zl, rfl⟩, _, _, rfl, rfl, _, rfl, _, _, rfl, rfl, ?_⟩
      refine ⟨_, hDz, fewL (by rw [List.length_map, List.length_take]; omega), ?_, upd_out hD sm⟩
      rw [upd_same, List.take_add_one, hr1, Option.toList_some, List.map_append]
      rfl
    · rintro H2 ⟨hD2, s2⟩
      rw [List.take_of_length_le (by omega)] at hD2
      refine ⟨D, rs.map cost1, rfl, SqL.of ?_, k _ s2⟩
      rw [hD2, List.map_map]
      rfl

abbrev s_thin : Stmt := top 9
theorem sc_thin : FnScope ["text", "begin", "end", "new"] ["text", "begin", "end", "new"] (defScope s_thin) := ⟨rfl, rfl, rfl, by decide +kernel, rfl, by decide +kernel, by decide +kernel⟩
theorem b_thin {f : Addr} {fd : FuncData} (F : Fun K "thin" "thin" s_thin f fd) (T : Txt mg) (c_stands_once : CalG P w K mg base CX0 2 "stands_once" spOnce) : FnG P w K mg base CX0 3 f fd ["text", "begin", "end", "new"] spThin := by
  refine okG0 F sc_thin (fun vs H Q E h => ?_) (fun cdv A outer s H vs Q E hg hr h => ?_)
  · obtain ⟨x, a, b, z, rfl, _⟩ := h
    rfl
  · have hu := hu_of hr
    have hu64 := hr.units
    obtain ⟨x, a, b, z, rfl, hab, hb, hx, hz, k⟩ := h
    have hr2 : Room 2 _ := hr
    have xl : x.length ≤ sizeLine := Nat.le_of_lt (fewL (by omega))
    refine ⟨_, (pss_cons (ps_while PassesOwn.never (PW.pt (pw_and (pt_cmpR op_gt (pe_op op_sub (pv 2) (pv 1)) pe_int (nomark _)) (pw_and (pt_val (pe_bm PySem.F.plainAttrs_str PySem.F.slot_str_endswith PySem.F.type_str_endswith mt_endswith (pv 3) (pa_cons (pe_ix ix_seq (pv 0) (pe_op op_sub (pv 2) pe_int) (fun _ _ => rfl)) pa_nil))) (pw_and1 (pt_val (pe_cG c_stands_once hg hr (by decide) pass0 (pa_cons (pv 0) (pa_cons (pe_slice sl_str (pv 0) (po_some (pv 1)) (po_some (pe_op op_sub (pv 2) pe_int))) pa_nil)))))))) (pss_one (ps_par (i := 2) (j := 3) (by rfl) sc_thin.nd rfl rfl (by decide) rfl rfl (pa_cons (pe_op op_sub (pv 2) pe_int) (pa_cons (pe_slice sl_str (pv 3) po_none (po_some (pe_un un_neg pe_int))) pa_nil)) (by rfl))))
      (pss_cons (ps_while PassesOwn.never (PW.pt (pw_and (pt_cmpR op_gt (pe_op op_sub (pv 2) (pv 1)) pe_int (nomark _)) (pw_and (pt_val (pe_bm PySem.F.plainAttrs_str PySem.F.slot_str_startswith PySem.F.type_str_startswith mt_startswith (pv 3) (pa_cons (pe_ix ix_seq (pv 0) (pv 1) (fun _ _ => rfl)) pa_nil))) (pw_and1 (pt_val (pe_cG c_stands_once hg hr (by decide) pass0 (pa_cons (pv 0) (pa_cons (pe_slice sl_str (pv 0) (po_some (pe_op op_add (pv 1) pe_int)) (po_some (pv 2))) pa_nil)))))))) (pss_one (ps_par (i := 1) (j := 3) (by rfl) sc_thin.nd rfl rfl (by decide) rfl rfl (pa_cons (pe_op op_add (pv 1) pe_int) (pa_cons (pe_slice sl_str (pv 3) (po_some pe_int) po_none) pa_nil)) (by rfl))))
      (pss_one (ps_ret (pe_tup (pa_cons (pv 1) (pa_cons (pv 2) (pa_cons (pv 3) pa_nil)))))))), ?_⟩
    generalize hE : thinE x a b b z = R
    refine ⟨fun m σ H' => ∃ (e f : Nat) (w : Str), σ = [some (.str x), some (.int (a : Nat)), some (.int (e : Nat)), some (.str w)] ∧ Same H H' ∧ thinE x a f e w = R ∧ e ≤ f ∧ a < e ∧ e ≤ b ∧ w.length ≤ 100 ∧ m = e, ⟨_, b, b, z, rfl, fun _ _ q => q, hE, Nat.le_refl _, hab, Nat.le_refl _, hz, rfl⟩, ?_⟩
    rintro m σ H1 ⟨e, f, w, rfl, s1, eR, ef, ae, eb, wl, hm⟩
    have wL : w.length ≤ sizeLine := Nat.le_of_lt (fewL (by omega))
    have hat : atI x.cps.toList (((e : Nat) : Int) - 1) = some (ltr x (e - 1)) := by
      rw [show ((e : Nat) : Int) - 1 = ((e - 1 : Nat) : Int) by omega]
      exact at_ltr (by omega)
    have gt1 : ∀ {c : Bool}, decide ((1 : Int) < ((e : Nat) : Int) - ((a : Nat) : Int)) = c → decide (1 < e - a) = c := fun h => by
      rw [← h]
      exact decide_eq_decide.mpr (by omega)
    have one3 : decide ((plc x (cutS x (some ((a : Nat) : Int)) (some (((e : Nat) : Int) - 1)))).length = 1) = !twB x a (e - 1) := by
      rw [show ((e : Nat) : Int) - 1 = ((e - 1 : Nat) : Int) by omega]
      have q := plc_one (x := x) (a := a) (b := e - 1) (by omega) (by omega)
      cases h : twB x a (e - 1) with
      | true =>
        rw [h] at q
        exact decide_eq_false fun z => Bool.noConfusion (q.mp z)
      | false => exact decide_eq_true (q.mpr h)
    refine ⟨_, rfl, _, rfl, _, _, rfl, rfl, _, _, rfl, rfl, _, rfl, ?_⟩
    by_cases ok : okE x a e w
    · obtain ⟨o1, o2, o3, o4⟩ := id ok
      rw [show decide ((1 : Int) < ((e : Nat) : Int) - ((a : Nat) : Int)) = true from decide_eq_true (by omega)]
      refine iteT ⟨_, rfl, rfl, _, rfl, _, rfl, _, _, rfl, rfl, .inr (.inr ⟨x, _, _, rfl, rfl, xl, hat, w, _, rfl, rfl, _, rfl, ?_⟩)⟩
      rw [ends_one, decide_eq_true (And.intro o2 o3)]
      refine iteT ⟨_, rfl, _, rfl, _, rfl, _, rfl, _, rfl, _, _, rfl, rfl, _, rfl, x, rfl, xl, x, _, rfl, _, rfl, ?_⟩
      rw [one3, o4]
      refine iteT ⟨fun σ' H' => σ' = [some (.str x), some (.int (a : Nat)), some (.int ((e - 1 : Nat) : Int)), some (.str (less1 w))] ∧ H' = H1, ?_, ?_⟩
      · rintro σ' H' ⟨rfl, rfl⟩
        cases f with
        | zero => omega
        | succ f => exact ⟨e - 1, by omega, e - 1, f, less1 w, rfl, s1, (thinE_go ok).symm.trans eR, by omega, by omega, by omega, by rw [less1_len]; omega, rfl⟩
      · refine ⟨_, rfl, _, _, rfl, rfl, _, rfl, 1, rfl, -1, rfl, w, rfl, wL, _, _, rfl, ?_, rfl⟩
        have ee : ((e : Nat) : Int) - 1 = ((e - 1 : Nat) : Int) := by omega
        show [some (V.str x), some (V.int (a : Nat)), some (V.int (((e : Nat) : Int) - 1)), some (V.str (less1 w))] = _
        rw [ee]
    · have no3 : decide ((1 : Int) < ((e : Nat) : Int) - ((a : Nat) : Int)) = true → 0 < w.length ∧ ltr w (w.length - 1) = ltr x (e - 1) → (!twB x a (e - 1)) = false := fun h1 h2 => by
        have g1 := of_decide_eq_true (gt1 h1)
        cases h : twB x a (e - 1) with
        | true => rfl
        | false => exact absurd ⟨g1, h2.1, h2.2, h⟩ ok
      have eq : R = (e, w) := by rw [← eR, thinE_no ok]
      refine' or_both (R := ?oR) ?oa ?ob ?oc
      case oa =>
        intro hc hR
        refine ⟨_, rfl, rfl, _, rfl, _, rfl, _, _, rfl, rfl, .inr (.inr ⟨x, _, _, rfl, rfl, xl, hat, w, _, rfl, rfl, _, rfl, ?_⟩)⟩
        rw [ends_one]
        by_cases h2 : 0 < w.length ∧ ltr w (w.length - 1) = ltr x (e - 1)
        · rw [decide_eq_true h2]
          refine iteT ⟨_, rfl, _, rfl, _, rfl, _, rfl, _, rfl, _, _, rfl, rfl, _, rfl, x, rfl, xl, x, _, rfl, _, rfl, ?_⟩
          rw [one3, no3 hc h2]
          refine iteF ?_
          exact hR
        · rw [decide_eq_false h2]
          refine iteF ?_
          exact hR
      case ob =>
        intro hc hR
        exact hR
      case oc =>
        generalize hR2 : thinB x e e a w = R2
        have fin : thinM x (a, b, z) = (R2.1, e, R2.2) := by
          unfold thinM
          simp only
          rw [hE, eq]
          simp only
          rw [hR2]
        refine ⟨fun m σ H' => ∃ (g f : Nat) (w : Str), σ = [some (.str x), some (.int (g : Nat)), some (.int (e : Nat)), some (.str w)] ∧ H' = H1 ∧ thinB x e f g w = R2 ∧ e ≤ f + g ∧ g < e ∧ w.length ≤ 100 ∧ m = e - g, ⟨_, a, e, w, rfl, rfl, hR2, by omega, ae, wl, rfl⟩, ?_⟩
        clear eR ok no3 one3 gt1 hat ef hm eq
        rintro m2 σ H2 ⟨g, f2, w2, rfl, rfl, gR, gf, ge, wl2, hm2⟩
        have wL2 : w2.length ≤ sizeLine := Nat.le_of_lt (fewL (by omega))
        have hat : atI x.cps.toList ((g : Nat) : Int) = some (ltr x g) := at_ltr (by omega)
        have gt1 : ∀ {c : Bool}, decide ((1 : Int) < ((e : Nat) : Int) - ((g : Nat) : Int)) = c → decide (1 < e - g) = c := fun h => by
          rw [← h]
          exact decide_eq_decide.mpr (by omega)
        have one3 : decide ((plc x (cutS x (some (((g : Nat) : Int) + 1)) (some ((e : Nat) : Int)))).length = 1) = !twB x (g + 1) e := by
          rw [show ((g : Nat) : Int) + 1 = ((g + 1 : Nat) : Int) by omega]
          have q := plc_one (x := x) (a := g + 1) (b := e) (by omega) (by omega)
          cases h : twB x (g + 1) e with
          | true =>
            rw [h] at q
            exact decide_eq_false fun z => Bool.noConfusion (q.mp z)
          | false => exact decide_eq_true (q.mpr h)
        refine ⟨_, rfl, _, rfl, _, _, rfl, rfl, _, _, rfl, rfl, _, rfl, ?_⟩
        by_cases ok : okB x e g w2
        · obtain ⟨o1, o2, o3, o4⟩ := id ok
          rw [show decide ((1 : Int) < ((e : Nat) : Int) - ((g : Nat) : Int)) = true from decide_eq_true (by omega)]
          refine iteT ⟨_, rfl, rfl, _, rfl, _, rfl, .inr (.inr ⟨x, _, _, rfl, rfl, xl, hat, w2, _, rfl, rfl, _, rfl, ?_⟩)⟩
          rw [starts_one, decide_eq_true (And.intro o2 o3)]
          refine iteT ⟨_, rfl, _, rfl, _, rfl, _, _, rfl, rfl, _, rfl, _, rfl, _, rfl, x, rfl, xl, x, _, rfl, _, rfl, ?_⟩
          rw [one3, o4]
          refine iteT ⟨fun σ' H' => σ' = [some (.str x), some (.int ((g + 1 : Nat) : Int)), some (.int (e : Nat)), some (.str (more1 w2))] ∧ H' = H2, ?_, ?_⟩
          · rintro σ' H' ⟨rfl, rfl⟩
            cases f2 with
            | zero => omega
            | succ f2 => exact ⟨e - (g + 1), by omega, g + 1, f2, more1 w2, rfl, rfl, (thinB_go ok).symm.trans gR, by omega, by omega, by rw [more1_len]; omega, rfl⟩
          · exact ⟨_, rfl, _, _, rfl, rfl, _, rfl, 1, rfl, w2, rfl, wL2, _, _, rfl, rfl, rfl⟩
        · have no3 : decide ((1 : Int) < ((e : Nat) : Int) - ((g : Nat) : Int)) = true → 0 < w2.length ∧ ltr w2 0 = ltr x g → (!twB x (g + 1) e) = false := fun h1 h2 => by
            have g1 := of_decide_eq_true (gt1 h1)
            cases h : twB x (g + 1) e with
            | true => rfl
            | false => exact absurd ⟨g1, h2.1, h2.2, h⟩ ok
          have eq2 : R2 = (g, w2) := by rw [← gR, thinB_no ok]
          refine' or_both (R := ?pR) ?pa ?pb ?pc
          case pa =>
            intro hc hR
            refine ⟨_, rfl, rfl, _, rfl, _, rfl, .inr (.inr ⟨x, _, _, rfl, rfl, xl, hat, w2, _, rfl, rfl, _, rfl, ?_⟩)⟩
            rw [starts_one]
            by_cases h2 : 0 < w2.length ∧ ltr w2 0 = ltr x g
            · rw [decide_eq_true h2]
              refine iteT ⟨_, rfl, _, rfl, _, rfl, _, _, rfl, rfl, _, rfl, _, rfl, _, rfl, x, rfl, xl, x, _, rfl, _, rfl, ?_⟩
              rw [one3, no3 hc h2]
              refine iteF ?_
              exact hR
            · rw [decide_eq_false h2]
              refine iteF ?_
              exact hR
          case pb =>
            intro hc hR
            exact hR
          case pc =>
            refine ⟨_, rfl, _, rfl, _, rfl, by show 3 ≤ sizeLine; decide, fun t ht => k t _ (none_up s1 ht) ?_ (s1.trans (same_new ht))⟩
            rw [upd_same, fin, eq2]

def thinR (x : Str) (rs : List (Nat × Nat × Str)) : List (Nat × Nat × Str) := (rs.filter fun r => decide (cutS x (some (r.1 : Int)) (some (r.2.1 : Int)) ≠ r.2.2)).map (thinM x)
def spThinned : Sp := fun vs H Q _ => ∃ (x : Str) (q : Addr) (xs : List V) (rs : List (Nat × Nat × Str)), vs = [.str x, .ref q] ∧ x.length ≤ 100 ∧ H q = some (.tup xs) ∧ Rw3 H xs rs ∧ rs.length ≤ 100 ∧ (∀ r ∈ rs, r.1 < r.2.1 ∧ r.2.1 ≤ x.length ∧ r.2.2.length ≤ 100) ∧
  ∀ (t : Addr) ys H', H t = none → H' t = some (.tup ys) → Rw3 H' ys (thinR x rs) → Same H H' → Q (.ref t) H'
abbrev s_thinned : Stmt := top 10
theorem sc_thinned : FnScope ["text", "exchange", "begin", "end", "new"] ["text", "exchange"] (defScope s_thinned) := ⟨rfl, rfl, rfl, by decide +kernel, rfl, by decide +kernel, by decide +kernel⟩
theorem b_thinned {f : Addr} {fd : FuncData} (F : Fun K "thinned" "thinned" s_thinned f fd) (T : Txt mg) (c_thin : CalG P w K mg base CX0 3 "thin" spThin) : FnG P w K mg base CX0 4 f fd ["text", "exchange"] spThinned := by
  refine okG0 F sc_thinned (fun vs H Q E h => ?_) (fun cdv A outer s H vs Q E hg hr h => ?_)
  · obtain ⟨x, q, xs, rs, rfl, _⟩ := h
    rfl
  · have hu := hu_of hr
    have hu64 := hr.units
    obtain ⟨x, q, xs, rs, rfl, hx, hq, rw0, hl, hz, k⟩ := h
    have hr3 : Room 3 _ := hr
    have xl : x.length ≤ sizeLine := Nat.le_of_lt (fewL (by omega))
    have glen := paired_len rw0
    refine ⟨_, (pss_one (ps_ret (pe_callTy call_tuple_of (by rfl) T.tuple (by decide +kernel) (pa_cons (pe_lc (own := [("begin", 2), ("end", 3), ("new", 4)]) (g := (gTup K 3 (gCons (gName 2) (gCons (gName 3) (gCons (gName 4) gNil))))) rfl sc_thinned.nd (pi_tup (pv 1)) (blkOk_by (own := [("begin", 2), ("end", 3), ("new", 4)]) (N := ["text", "exchange", "begin", "end", "new"]) (sc := defScope s_thinned) (by decide +kernel)) (fun _ _ _ _ _ => (pg_tupK (K := K) rfl rfl (pgs_cons (pg_name (i := 2) sc_thinned.nd rfl (Or.inl rfl)) (pgs_cons (pg_name (i := 3) sc_thinned.nd rfl (Or.inl rfl)) (pgs_cons (pg_name (i := 4) sc_thinned.nd rfl (Or.inl rfl)) pgs_nil))))) (fun _ _ _ _ _ => (pts_one (pt_cmpR op_ne (pe_slice sl_str (pv 0) (po_some (pv 2)) (po_some (pv 3))) (pv 4) (nomark _)))) (fun _ _ _ _ _ => (pe_cG c_thin hg hr (by decide) pass0 (pa_cons (pv 0) (pa_cons (pv 2) (pa_cons (pv 3) (pa_cons (pv 4) pa_nil))))))) pa_nil)))), ?_⟩
    refine ⟨_, rfl, q, rfl, ⟨_, SqT.of hq⟩, fun D hD => ?_⟩
    have sD := same_new (o := .lst []) hD
    refine lc_tup (K := K) (a := q) (xs := xs) (fun n H' => ∃ ys, H' D = some (.lst ys) ∧ Rw3 H' ys (thinR x (rs.take n)) ∧ Same H H') ?_ ?_ ?_ ?_
    · exact ⟨[], upd_same, .nil, sD⟩
    · rintro n H' _ ⟨_, _, _, sm⟩
      exact SqT.of (sm _ _ hq)
    · rintro n v H' hv ⟨ys, hDz, ry, sm⟩
      obtain ⟨r, hr1, t, rfl, ht⟩ := paired_at rw0 hv
      have hz1 := hz r (List.mem_of_getElem? hr1)
      have gy := paired_len ry
      have gth : (thinR x (rs.take n)).length ≤ n := by
        unfold thinR
        rw [List.length_map]
        refine Nat.le_trans (List.length_filter_le _ _) ?_
        rw [List.length_take]
        omega
      have hn : n < rs.length := (List.getElem?_eq_some_iff.mp hr1).1
      refine ⟨t, _, rfl, SqT.of (sm _ _ ht), rfl, _, _, rfl, _, _, rfl, _, _, rfl, rfl, ?_⟩
      refine ⟨rfl, _, rfl, _, rfl, _, rfl, _, rfl, _, rfl, x, rfl, xl, _, rfl, rfl, _, rfl, ?_⟩
      have snoc : thinR x (rs.take (n + 1)) = thinR x (rs.take n) ++ (if cutS x (some ((r.1 : Nat) : Int)) (some ((r.2.1 : Nat) : Int)) ≠ r.2.2 then [thinM x r] else []) := by
        unfold thinR
        rw [List.take_add_one, hr1, Option.toList_some, List.filter_append, List.map_append]
        by_cases c : cutS x (some ((r.1 : Nat) : Int)) (some ((r.2.1 : Nat) : Int)) = r.2.2
        · rw [if_neg (fun z => z c)]; simp [c]
        · rw [if_pos c]; simp [c]
      rw [snoc]
      by_cases c : cutS x (some ((r.1 : Nat) : Int)) (some ((r.2.1 : Nat) : Int)) = r.2.2
      · rw [show decide (V.str (cutS x (some ((r.1 : Nat) : Int)) (some ((r.2.1 : Nat) : Int))) = V.str r.2.2) = true from decide_eq_true (by rw [c]), if_neg (fun z => z c), List.append_nil]
        exact iteF ⟨ys, hDz, ry, sm⟩
      · rw [show decide (V.str (cutS x (some ((r.1 : Nat) : Int)) (some ((r.2.1 : Nat) : Int))) = V.str r.2.2) = false from decide_eq_false (fun z => c (V.str.inj z)), if_pos c]
        refine iteT ⟨_, rfl, _, rfl, _, rfl, _, rfl, x, r.1, r.2.1, r.2.2, rfl, hz1.1, hz1.2.1, hx, hz1.2.2, fun u H2 hu hu2 s2 => ?_⟩
        have hD2 := s2 _ _ hDz
        refine ⟨_, hD2, fewL (by omega), ys ++ [.ref u], upd_same, ?_, upd_out hD (sm.trans s2)⟩
        exact Paired.snoc ((ry.keep s2).keepT (upd_list hD2)) ⟨u, rfl, upd_list hD2 _ _ hu2⟩
    · rintro H2 ⟨ys, hD2, ry, s2⟩
      rw [List.take_of_length_le (by omega)] at ry
      exact ⟨D, ys, rfl, .inl ⟨SqL.of hD2, fun t ht => k t ys _ (none_up s2 ht) upd_same (ry.keep (same_new ht)) (s2.trans (same_new ht))⟩⟩

end
end Vk
set_option Elab.async false
set_option maxRecDepth 100000
set_option linter.all false
set_option maxHeartbeats 4000000
namespace Vk
open PySem PySem.Spec PyProof.Rows L2 PySem.VkX LamX NdefX
section
variable {P : Program} {w : World} {K : PySem.W.Frag} {mg : Str → Option Value} {base : Heap}
theorem cr_minLamF {X : Cx} {mk : Addr → LF} {sp : V → Hp → VK → Prop} {j k : Nat} (L : ∀ c', LamK1 X.prog X.w X.K X.mg X.base k (mk c') sp) (hg : X.A.guards = some []) (hr : Room j X.A) (hk : k + 1 ≤ j) (hca : X.calm = true) :
    CallRK X (.builtin "min") [Str.ofString "key"] (fun xs zs H Q => ∃ c', rMinLam X.K (mk c') sp xs zs H Q) := fun pins s σ H xs zs us ws Q I rx rz ⟨c', h⟩ => cr_minLam (L c') hg hr hk hca pins s σ H xs zs us ws Q I rx rz h
def asgV : Stmt → Expr
  | .Assign _ v _ => v
  | _ => .Constant .none 0 ⟨0, 0, 0, 0⟩
def kw0 : Expr → Expr
  | .Call _ _ (k :: _) _ => k.value
  | e => e
def lamPs : Expr → Arguments
  | .Lambda p _ _ _ => p
  | _ => defArgs (top 0)
def lamB : Expr → Expr
  | .Lambda _ b _ _ => b
  | e => e
def lamSc : Expr → Scope
  | .Lambda _ _ s _ => s
  | _ => defScope (top 0)
def lam (e : Expr) (q : Str) (c : Addr) : LF := ⟨q, lamPs e, lamB e, lamSc e, [], c⟩
abbrev nopS : Stmt := .Pass ⟨0, 0, 0, 0⟩
abbrev s_single : Stmt := top 8
abbrev e_l0 : Expr := kw0 (asgV ((defBody s_single).getD 5 nopS))
abbrev qSgl : Str := (envOfC "single" (defScope s_single) 0 0 .none).qual ++ "<lambda>"
theorem free_l0 : ndefB (defScope s_single) (lamSc e_l0) [] = true := by decide +kernel
def spKey : V → Hp → VK → Prop := fun v H Q => ∃ t a b, v = V.ref t ∧ H t = some (.tup [.int a, .int b]) ∧ Q (.int (b - a)) H
theorem lk0 (c : Addr) : LamK1 P w K mg base 1 (lam e_l0 qSgl c) spKey := by
  refine lamk1_of (N := ["window"]) (nscope_by (show nscB _ _ _ (lamSc e_l0) = true by decide +kernel)) rfl (fun _ _ _ => rfl) (fun A outer s H f v Q hg hr h => ?_)
  obtain ⟨t, a, b, rfl, ht, k⟩ := h
  refine ⟨_, pe_op op_sub (pe_ix ix_tup (pv 0) pe_int (fun _ _ => rfl)) (pe_ix ix_tup (pv 0) pe_int (fun _ _ => rfl)), ?_⟩
  exact ⟨_, rfl, t, _, _, _, rfl, rfl, SqT.of ht, rfl, _, rfl, t, _, _, _, rfl, rfl, SqT.of ht, rfl, _, _, rfl, rfl, k⟩
def spSingle (P0 : Addr) (K : PySem.W.Frag) : Sp := fun vs H Q _ => ∃ x y, vs = [.str x, .str y] ∧ x.length ≤ 50 ∧ y.length ≤ 50 ∧ Tabs [(P0, qSgl)] H ∧ ∀ v d H', Dp K H' v d → IsSgl x y d → Tabs [(P0, qSgl)] H' → ExtN H H' → (∀ b, H' b = none → H b = none) → Q v H'
theorem for_enumG {K : PySem.W.Frag} {a : Addr} {xs : List V} {g : TG} {tb : TS} {D : Ends} {σ : L2.St} {H : Hp} (G : L2.St → Hp → Prop) (Pv : Nat → L2.St → Hp → Prop) (h0 : Pv 0 σ H) (hl : ∀ i σ H, i ≤ xs.length → Pv i σ H → SqL K H a xs)
    (hs : ∀ (D' : Ends), (∀ σ H, G σ H → D'.nx σ H) → ∀ i v σ H T, xs[i]? = some v → H T = none → Pv i σ H → g (.ref T) σ (upd H T (.tup [.int (i : Nat), v])) fun σ2 H2 => tb { D' with nx := Pv (i + 1), ct := Pv (i + 1), bk := D'.nx } σ2 H2) (hd : ∀ σ H, Pv xs.length σ H → G σ H) (hG : ∀ σ H, G σ H → D.nx σ H) :
    ∃ W : Nat → Nat → L2.St → Hp → Prop, (∃ m, W 0 m σ H) ∧ ∀ i m σ H, W i m σ H →
      ((Ite K a).stop i H ∧ D.nx σ H) ∨ ((Ite K a).go i H ∧ ∃ N : L2.St → Hp → Prop, (∀ σ' H', N σ' H' → ∃ m', m' < m ∧ W (i + 1) m' σ' H') ∧ ∀ x1 H', (Ite K a).yld i H x1 H' → g x1 σ H' fun σ2 H2 => tb { D with nx := N, ct := N, bk := D.nx } σ2 H2) :=
  for_enumL Pv h0 hl (hs D hG) fun σ H p => hG _ _ (hd σ H p)
theorem nuMax2_int (a b : Int) : nuMax2 (.int a) (.int b) = some (.int (max a b)) := by
  show (some (decide (a < b))).map (fun c => if c = true then V.int b else V.int a) = _
  by_cases h : a < b
  · rw [decide_eq_true h, show max a b = b by omega]; rfl
  · rw [decide_eq_false h, show max a b = a by omega]; rfl
theorem nuMax3_int (a b c : Int) : nuMax3 (.int a) (.int b) (.int c) = some (.int (max (max a b) c)) := by
  show (nuMax2 (.int a) (.int b)).bind (fun m => nuMax2 m (.int c)) = _
  rw [nuMax2_int]
  exact nuMax2_int _ _
theorem same_ext {H H1 : Hp} (s : Same H H1) : ExtN H H1 := fun b o e _ => s b o e
def keyN (H : Hp) : V → Int
  | .ref t => match H t with
    | some (.tup [.int i, .int j]) => j - i
    | _ => 0
  | _ => 0
theorem keyN_at {H : Hp} {v : V} {p : Nat × Nat} (h : ∃ t, v = V.ref t ∧ H t = some (.tup [.int (p.1 : Nat), .int (p.2 : Nat)])) : keyN H v = (p.2 : Int) - (p.1 : Int) := by
  obtain ⟨t, rfl, ht⟩ := h
  unfold keyN
  simp only [ht]
theorem sc_single : FnScope ["one", "other", "ahead", "behind", "windows", "begin", "end"] ["one", "other"] (defScope s_single) := ⟨rfl, rfl, rfl, by decide +kernel, rfl, by decide +kernel, by decide +kernel⟩
theorem b_single {f c P0 : Addr} {fd : FuncData} (F : FunC K "single" "single" s_single f fd c) (T : Txt mg) (tb : TabB base mg c P0) (c_common_length : CalG P w K mg base CX0 1 "common_length" spAhead) (c_least_ends : CalG P w K mg base CX0 2 "least_ends" spEnds) : FnG P w K mg base CX0 3 f fd ["one", "other"] (spSingle P0 K) := by
  refine okC0 F sc_single (fun vs H Q E h => ?_) (fun A outer s H vs Q E hg hr h => ?_)
  · obtain ⟨x, y, rfl, _⟩ := h
    rfl
  · have hu := hu_of hr
    have hu64 := hr.units
    obtain ⟨x, y, rfl, hx, hy, tabs, k⟩ := h
    have hr2 : Room 2 _ := hr
    have xl : x.length ≤ sizeLine := Nat.le_of_lt (fewL (by omega))
    have yl : y.length ≤ sizeLine := Nat.le_of_lt (fewL (by omega))
    refine ⟨_, (pss_cons (ps_if (pt_cmpR op_eq (pv 0) (pv 1) (nomark _)) (pss_one (ps_ret (pe_tup pa_nil))) pss_nil)
      (pss_cons (ps_par (i := 2) (j := 3) (by rfl) sc_single.nd rfl rfl (by decide) rfl rfl (pa_cons (pe_cG c_common_length hg hr (by decide) pass0 (pa_cons (pv 0) (pa_cons (pv 1) pa_nil))) (pa_cons (pe_cG c_common_length hg hr (by decide) pass0 (pa_cons (pe_revS (pv 0)) (pa_cons (pe_revS (pv 1)) pa_nil))) pa_nil)) (by rfl))
      (pss_cons (ps_set (i := 4) sc_single.nd rfl (Or.inl rfl) (pe_lst pa_nil))
      (pss_cons (ps_for PassesOwn.never rfl (pi_enum (by rfl) T.enumerate (pa_cons (pe_cG c_least_ends hg hr (by decide) pass0 (pa_cons (pv 0) pa_nil)) pa_nil)) (pg_tup rfl (pgs_cons (pg_name (i := 5) sc_single.nd rfl (Or.inl rfl)) (pgs_cons (pg_name (i := 6) sc_single.nd rfl (Or.inl rfl)) pgs_nil))) (pss_cons (ps_if (PW.pt (pw_or (pt_cmpR op_gt (pv 5) (pv 2) (nomark _)) (pw_or1 (pt_cmpR op_isN (pv 6) pe_non (nomark _))))) (pss_one ps_break) pss_nil)
      (pss_cons (ps_set (i := 6) sc_single.nd rfl (Or.inl rfl) (pe_callB (call_max3Nu rfl) (by rfl) T.max (by decide +kernel) (pa_cons (pv 6) (pa_cons (pe_op op_sub (pe_callB call_len (by rfl) T.len (by decide +kernel) (pa_cons (pv 0) pa_nil)) (pv 3)) (pa_cons (pe_op op_sub (pe_op op_add (pv 5) (pe_callB call_len (by rfl) T.len (by decide +kernel) (pa_cons (pv 0) pa_nil))) (pe_callB call_len (by rfl) T.len (by decide +kernel) (pa_cons (pv 1) pa_nil))) pa_nil)))))
      (pss_one (ps_expr (pe_bm PySem.F.plainAttrs_list PySem.F.slot_list_append PySem.F.type_list_append mt_append (pv 4) (pa_cons (pe_tup (pa_cons (pv 5) (pa_cons (pv 6) pa_nil))) pa_nil)))))))
      (pss_cons (ps_if (pt_not (pt_truthK (K := K) rfl (pv 4))) (pss_one (ps_ret pe_non)) pss_nil)
      (pss_cons (ps_asg (pe_callBK (cr_minLamF (mk := fun c => lam e_l0 qSgl c) lk0 hg hr (by decide) rfl) (by rfl) T.min (by decide +kernel) (pa_cons (pv 4) pa_nil) (pk_cons (pe_lamv (T := [(P0, qSgl)]) tb rfl List.mem_cons_self (fun p hp _ => by rw [List.mem_singleton.mp hp]; rfl) rfl (ndef_free free_l0)) pk_nil)) (pg_tup rfl (pgs_cons (pg_name (i := 5) sc_single.nd rfl (Or.inl rfl)) (pgs_cons (pg_name (i := 6) sc_single.nd rfl (Or.inl rfl)) pgs_nil))))
      (pss_one (ps_ret (pe_tup (pa_cons (pe_tup (pa_cons (pv 5) (pa_cons (pv 6) (pa_cons (pe_slice sl_str (pv 1) (po_some (pv 5)) (po_some (pe_op op_sub (pe_callB call_len (by rfl) T.len (by decide +kernel) (pa_cons (pv 1) pa_nil)) (pe_op op_sub (pe_callB call_len (by rfl) T.len (by decide +kernel) (pa_cons (pv 0) pa_nil)) (pv 6))))) pa_nil)))) pa_nil)))))))))), ?_⟩
    refine ⟨_, rfl, _, rfl, rfl, _, rfl, ?_⟩
    by_cases hxy : x = y
    · rw [show decide (V.str x = V.str y) = true from decide_eq_true (by rw [hxy])]
      refine iteT ⟨by show 0 ≤ sizeLine; decide, fun t ht => ?_⟩
      have st := same_new (o := .tup []) ht
      exact k _ (.tuple []) _ (.tup (SqT.of upd_same) .nil) (.inl ⟨hxy, rfl⟩) (tabs.ext st) (same_ext st) (fun b hb => none_up st hb)
    rw [show decide (V.str x = V.str y) = false from decide_eq_false (fun z => hxy (V.str.inj z))]
    refine iteF ?_
    refine ⟨_, rfl, _, rfl, x, y, rfl, by omega, by omega, fun ca H1 ahd s1 => ?_⟩
    refine ⟨_, rfl, x, rfl, xl, _, rfl, y, rfl, yl, backS x, backS y, rfl, by rw [backS_len]; omega, by rw [backS_len]; omega, fun cb H2 bhd s2 => ?_⟩
    rw [backS_len, backS_len] at bhd
    refine ⟨_, _, rfl, by show 0 ≤ sizeLine; decide, fun lw hlw => ?_⟩
    have slw := same_new (o := .lst []) hlw
    have s12 := s1.trans s2
    have hlwH := none_up s12 hlw
    refine ⟨_, rfl, x, rfl, by omega, fun el es H3 hel hel1 les les2 s3 => ?_⟩
    have s13 := (s12.trans slw).trans s3
    refine ⟨el, _, rfl, SqL.of hel1, ?_⟩
    have elne : el ≠ lw := fun z => by rw [z, upd_same] at hel; cases hel
    have hlw3 := s3 _ _ (upd_same (H := H2) (a := lw) (o := .lst []))
    refine for_enumG (xs := es.map (endV x)) (fun σ H' => ∃ (I : Nat) (o5 o6 : Option V) (got : List V), σ = [some (.str x), some (.str y), some (.int (ca : Nat)), some (.int (cb : Nat)), some (.ref lw), o5, o6] ∧ Same H H' ∧ H' lw = some (.lst got) ∧ PrN H' got ((List.range I).map fun j => (j, mEnd x y cb j (es.getD j 0))) ∧ (∀ j, j < I → j ≤ ca ∧ es.getD j 0 ≤ x.length) ∧ I ≤ x.length ∧ ∀ a b, Fz x y a b → a < I)
      (fun i σ H' => ∃ (o5 o6 : Option V) (got : List V), σ = [some (.str x), some (.str y), some (.int (ca : Nat)), some (.int (cb : Nat)), some (.ref lw), o5, o6] ∧ Same H H' ∧ H' el = some (.lst (es.map (endV x))) ∧ H' lw = some (.lst got) ∧ PrN H' got ((List.range i).map fun j => (j, mEnd x y cb j (es.getD j 0))) ∧ (∀ j, j < i → j ≤ ca ∧ es.getD j 0 ≤ x.length)) ?_ ?_ ?_ ?_ ?_
    · exact ⟨_, _, [], rfl, s13, hel1, hlw3, .nil, fun j h => absurd h (Nat.not_lt_zero j)⟩
    · rintro i σ H4 _ ⟨o5, o6, got, rfl, s4, hel4, _⟩
      exact SqL.of hel4
    · rintro D' hG i v σ H4 T hv hT ⟨o5, o6, got, rfl, s4, hel4, hg4, pg4, all4⟩
      rw [List.getElem?_map] at hv
      obtain ⟨e, he, rfl⟩ := Option.map_eq_some_iff.mp hv
      have L := les2 i e he
      have hil : i < es.length := (List.getElem?_eq_some_iff.mp he).1
      have ge : es.getD i 0 = e := by rw [List.getD_eq_getElem?_getD, he]; rfl
      have sT := same_new (o := .tup [.int (i : Nat), endV x e]) hT
      refine ⟨T, _, rfl, SqT.of upd_same, rfl, _, _, rfl, _, _, rfl, rfl, ?_⟩
      have s5 := s4.trans sT
      have hel5 := sT _ _ hel4
      have hg5 := sT _ _ hg4
      have pg5 := pg4.keep sT
      have gl := paired_len pg5
      rw [List.length_map, List.length_range] at gl
      generalize upd H4 T (.tup [.int (i : Nat), endV x e]) = H5 at s5 hel5 hg5 pg5 ⊢
      refine ⟨_, rfl, _, rfl, _, _, rfl, rfl, _, rfl, ?_⟩
      by_cases c1 : ca < i
      · rw [show decide (((ca : Nat) : Int) < ((i : Nat) : Int)) = true from decide_eq_true (by omega)]
        refine iteT ?_
        refine hG _ _ ⟨i, _, _, got, rfl, s5, hg5, pg5, all4, by omega, fun a b f => ?_⟩
        have := ((fz_iff ahd bhd (les2 a _ (List.getElem?_eq_getElem (by have := f.lt; have := f.le; omega)))).mp f).1
        omega
      · rw [show decide (((ca : Nat) : Int) < ((i : Nat) : Int)) = false from decide_eq_false (by omega)]
        refine iteF ?_
        refine ⟨_, rfl, rfl, _, rfl, ?_⟩
        by_cases c2 : e ≤ x.length
        · have ev : endV x e = .int (e : Nat) := by unfold endV; rw [if_pos c2]
          rw [ev]
          refine iteF ?_
          have hmax : nuMax3 (.int ((e : Nat) : Int)) (.int (((x.length : Nat) : Int) - ((cb : Nat) : Int))) (.int (((i : Nat) : Int) + ((x.length : Nat) : Int) - ((y.length : Nat) : Int))) = some (.int ((mEnd x y cb i e : Nat) : Int)) := by
            rw [nuMax3_int]
            refine congrArg (fun z : Int => some (V.int z)) ?_
            have g0 := L.gt
            unfold mEnd
            omega
          refine ⟨_, rfl, _, rfl, _, _, rfl, ⟨xl, rfl⟩, _, rfl, _, _, rfl, rfl, _, rfl, _, rfl, _, _, rfl, ⟨xl, rfl⟩, _, _, rfl, rfl, _, rfl, _, _, rfl, ⟨yl, rfl⟩, _, _, rfl, rfl, _, _, _, _, rfl, hmax, ?_⟩
          refine ⟨_, rfl, .inl ⟨rfl, _, SqL.of hg5⟩, _, rfl, _, rfl, by show 2 ≤ sizeLine; decide, fun u hu => ?_⟩
          have su := same_new (o := .tup [.int (i : Nat), .int ((mEnd x y cb i e : Nat) : Int)]) hu
          have hg6 := su _ _ hg5
          refine ⟨lw, _, _, rfl, rfl, hg6, fewL (by omega), _, _, got ++ [.ref u], rfl, upd_out hlwH (s5.trans su), ?_, upd_same, ?_, fun j hj => ?_⟩
          · rw [upd_ne elne]
            exact su _ _ hel5
          · rw [List.range_succ, List.map_append]
            refine Paired.snoc ((pg5.keep su).keepT (upd_list hg6)) ⟨u, rfl, upd_list hg6 _ _ ?_⟩
            show _ = some (HO.tup [.int (i : Nat), .int ((mEnd x y cb i (es.getD i 0) : Nat) : Int)])
            rw [ge]
            exact upd_same
          · by_cases ji : j = i
            · rw [ji, ge]
              exact ⟨by omega, c2⟩
            · exact all4 j (by omega)
        · have ev : endV x e = .non := by unfold endV; rw [if_neg c2]
          rw [ev]
          refine iteT ?_
          exact hG _ _ ⟨i, _, _, got, rfl, s5, hg5, pg5, all4, by omega, fun a b f => Nat.lt_of_not_le fun q => fz_none L (by omega) q f⟩
    · rintro σ H4 ⟨o5, o6, got, rfl, s4, hel4, hg4, pg4, all4⟩
      rw [List.length_map, les] at pg4 all4
      exact ⟨x.length, _, _, got, rfl, s4, hg4, pg4, all4, Nat.le_refl _, fun a b f => by have := f.lt; have := f.le; omega⟩
    · rintro σ H4 ⟨I, o5, o6, got, rfl, s4, hg4, pg4, all4, hI, none4⟩
      have gl := paired_len pg4
      rw [List.length_map, List.length_range] at gl
      refine ⟨_, rfl, !got.isEmpty, .inl ⟨got, SqL.of hg4, rfl⟩, ?_⟩
      by_cases hI0 : I = 0
      · have e0 : got = [] := List.eq_nil_of_length_eq_zero (by omega)
        rw [e0]
        refine iteT ?_
        exact k .non .none H4 .non (.inr (.inl ⟨hxy, fun a b f => by have := none4 a b f; omega, rfl⟩)) (tabs.ext s4) (same_ext s4) (fun b hb => none_up s4 hb)
      have ne0 : got ≠ [] := fun z => hI0 (by rw [← gl, z]; rfl)
      rw [show (!got.isEmpty) = true by cases got with | nil => exact absurd rfl ne0 | cons _ _ => rfl]
      refine iteF ?_
      refine ⟨_, rfl, tabs.ext s4, fun f2 c2 H5 x5 n5 t5 hf2 hf5 hc5 => ?_⟩
      have hg5 := x5 _ _ hg4 (fun _ z => nomatch z)
      have pg5 : PrN H5 got _ := pair_mono (fun v p ⟨t, e, ht⟩ => ⟨t, e, x5 _ _ ht (fun _ z => nomatch z)⟩) pg4
      have at5 : ∀ (i : Nat) (v : V), got[i]? = some v → i < I ∧ ∃ t, v = V.ref t ∧ H5 t = some (.tup [.int (i : Nat), .int (mEnd x y cb i (es.getD i 0) : Nat)]) := fun i v hv => by
        obtain ⟨p, hp, t, e, ht⟩ := paired_at pg5 hv
        rw [List.getElem?_map] at hp
        obtain ⟨j, hj, rfl⟩ := Option.map_eq_some_iff.mp hp
        obtain ⟨h1, h2⟩ := List.getElem?_eq_some_iff.mp hj
        rw [List.length_range] at h1
        rw [List.getElem_range] at h2
        subst h2
        exact ⟨h1, t, e, ht⟩
      have key5 : ∀ (i : Nat) (v : V), got[i]? = some v → keyN H5 v = (mEnd x y cb i (es.getD i 0) : Int) - (i : Int) := fun i v hv => keyN_at (p := (i, mEnd x y cb i (es.getD i 0))) (at5 i v hv).2
      refine ⟨c2, lw, f2, got, keyN H5, rfl, rfl, SqL.of hg5, fun v hv => ?_, ne0, hf5, hc5, fun v hv Q' q => ?_, fun i v hv le lt => ?_⟩
      · obtain ⟨i, hi⟩ := List.mem_iff_getElem?.mp hv
        obtain ⟨_, t, e, _⟩ := at5 i v hi
        exact ⟨t, e⟩
      · obtain ⟨i, hi⟩ := List.mem_iff_getElem?.mp hv
        obtain ⟨_, t, e, ht⟩ := at5 i v hi
        rw [key5 i v hi] at q
        exact ⟨t, _, _, e, ht, q⟩
      · obtain ⟨iI, t, rfl, ht⟩ := at5 i v hv
        have lend : ∀ j, j < I → Lend x j (es.getD j 0) := fun j hj => by
          have hj2 : j < es.length := by omega
          rw [List.getD_eq_getElem?_getD, List.getElem?_eq_getElem hj2]
          exact les2 j _ (List.getElem?_eq_getElem hj2)
        have own := fz_own ahd bhd (lend i iI) (all4 i iI).1 (all4 i iI).2
        have best : ∀ a' b', Fz x y a' b' → mEnd x y cb i (es.getD i 0) - i < b' - a' ∨ mEnd x y cb i (es.getD i 0) - i = b' - a' ∧ i ≤ a' := fun a' b' f => by
          have ha' := none4 a' b' f
          have hm := ((fz_m ahd bhd (lend a' ha')).mp f).2.1
          have own' := fz_own ahd bhd (lend a' ha') (all4 a' ha').1 (all4 a' ha').2
          have l1 := own.lt
          have l2 := own'.lt
          have l3 := f.lt
          obtain ⟨v', hv'⟩ : ∃ v', got[a']? = some v' := ⟨_, List.getElem?_eq_getElem (by omega)⟩
          have k1 := le a' v' hv'
          rw [key5 i _ hv, key5 a' v' hv'] at k1
          by_cases lt' : a' < i
          · have k2 := lt a' v' lt' hv'
            rw [key5 i _ hv, key5 a' v' hv'] at k2
            left
            omega
          · omega
        generalize mEnd x y cb i (es.getD i 0) = M at ht own best
        refine ⟨t, _, rfl, SqT.of ht, rfl, _, _, rfl, _, _, rfl, rfl, ?_⟩
        have l1 := own.le
        refine ⟨_, rfl, _, rfl, _, rfl, _, rfl, _, rfl, _, rfl, _, _, rfl, ⟨yl, rfl⟩, _, rfl, _, _, rfl, ⟨xl, rfl⟩, _, rfl, _, _, rfl, rfl, _, _, rfl, rfl, _, rfl, y, rfl, yl, by show 3 ≤ sizeLine; decide, fun u hu => ?_⟩
        rw [show ((y.length : Nat) : Int) - (((x.length : Nat) : Int) - ((M : Nat) : Int)) = ((y.length + M : Nat) : Int) - ((x.length : Nat) : Int) by omega] at *
        refine ⟨by show 1 ≤ sizeLine; decide, fun u2 hu2 => ?_⟩
        have su := same_new (o := .tup [.int (i : Nat), .int (M : Nat), .str (newOf x y i M)]) hu
        have su2 := same_new (o := .tup [.ref u]) hu2
        have su3 := su.trans su2
        refine k _ (.tuple [.tuple [.int (i : Nat), .int (M : Nat), .str (newOf x y i M)]]) _ ?_ (.inr (.inr ⟨hxy, i, M, own, best, rfl⟩)) (t5.ext su3) (fun b o e n => su3 _ _ (x5 _ _ (s4 _ _ e) n)) (fun b hb => none_up s4 (n5 b (none_up su3 hb)))
        exact .tup (SqT.of upd_same) (.cons (.tup (SqT.of (su2 _ _ upd_same)) (.cons (.int _) (.cons (.int _) (.cons (.str _) .nil)))) .nil)
end
end Vk
set_option Elab.async false
set_option maxRecDepth 100000
set_option linter.all false
set_option maxHeartbeats 4000000
namespace Vk
open PySem PySem.Spec PyProof.Rows L2
section
variable {P : Program} {w : World} {K : PySem.W.Frag} {mg : Str → Option Value} {base : Heap}
abbrev s_ldraw : Stmt := top 13
theorem sc_ldraw : FnScope ["_law_pen_here", "_law_many", "_law_digit", "_law_turn", "_law_cell", "_law_primes", "_law_prime", "_law_drawn"] ["_law_pen_here", "_law_many"] (defScope s_ldraw) := ⟨rfl, rfl, rfl, by decide +kernel, rfl, by decide +kernel, by decide +kernel⟩
theorem b_ldraw {f : Addr} {fd : FuncData} (F : Fun K "_law_draw" "_law_draw" s_ldraw f fd) (T : Txt mg) : FnG P w K mg base CX0 1 f fd ["_law_pen_here", "_law_many"] spDraw := by
  refine okG0 F sc_ldraw (fun vs H Q E h => ?_) (fun cdv A outer s H vs Q E hg hr h => ?_)
  · obtain ⟨p, c, m, T0, rfl, _⟩ := h
    rfl
  · have hu := hu_of hr
    have hu64 := hr.units
    obtain ⟨p, c, m, T0, rfl, m0, m1, ⟨ns, t, l, hp, hc, hn, t0, tT, l0⟩, hT, k⟩ := h
    have ncp : c ≠ p := ne_of hc hp (by intro z; cases z)
    have lenns : (ns.map V.int).length = ns.length := List.length_map _
    refine ⟨_, (pss_cons (ps_if (pt_cmpR op_gt (pe_dget hu (pv 0) pe_str (fun _ _ => rfl)) pe_int (nomark _)) (pss_cons (ps_set (i := 2) sc_ldraw.nd rfl (Or.inl rfl) (pe_op op_mod (pe_callTy call_int1 (by rfl) T.int (by decide +kernel) (pa_cons (pe_dget hu (pv 0) pe_str (fun _ _ => rfl)) pa_nil)) (pv 1)))
      (pss_cons (ps_dput hu (pv 0) pe_str (pe_op op_fdiv (pe_dget hu (pv 0) pe_str (fun _ _ => rfl)) (pv 1)) rfl)
      (pss_one (ps_ret (pv 2))))) pss_nil)
      (pss_cons (ps_set (i := 3) sc_ldraw.nd rfl (Or.inl rfl) (pe_dget hu (pv 0) pe_str (fun _ _ => rfl)))
      (pss_cons (ps_dput hu (pv 0) pe_str (pe_op op_add (pv 3) pe_int) rfl)
      (pss_cons (ps_set (i := 4) sc_ldraw.nd rfl (Or.inl rfl) (pe_op op_add (pe_op op_mul pe_int (pv 3)) pe_int))
      (C8.pss_cut (ps_if (pt_cmpR (op_neD hu64) (pe_dget hu (pv 0) pe_str (fun _ _ => rfl)) (pe_lst pa_nil) (nomark _)) (pss_one (ps_set (i := 4) sc_ldraw.nd rfl (Or.inl rfl) (pe_ix ix_seq (pe_dget hu (pv 0) pe_str (fun _ _ => rfl)) (pe_op op_mod (pe_callTy call_int1 (by rfl) T.int (by decide +kernel) (pa_cons (pv 3) pa_nil)) (pe_callB call_len (by rfl) T.len (by decide +kernel) (pa_cons (pe_dget hu (pv 0) pe_str (fun _ _ => rfl)) pa_nil))) (fun _ _ => rfl)))) pss_nil)
      (C8.pss_cut (ps_if (PW.pt (pw_and (pt_cmpR op_lt (pv 3) (pe_callB call_len (by rfl) T.len (by decide +kernel) (pa_cons (pe_dget hu (pv 0) pe_str (fun _ _ => rfl)) pa_nil)) (nomark _)) (pw_and1 (pt_cmpR op_ge (pe_callB call_abs (by rfl) T.abs (by decide +kernel) (pa_cons (pv 4) pa_nil)) (pe_op op_pow pe_int pe_int) (nomark _))))) (pss_cons (ps_dput hu (pv 0) pe_str (pe_op op_fdiv (pe_op op_sub (pe_callB call_abs (by rfl) T.abs (by decide +kernel) (pa_cons (pv 4) pa_nil)) (pe_op op_pow pe_int pe_int)) (pv 1)) rfl)
      (pss_one (ps_ret (pe_op op_mod (pe_op op_sub (pe_callB call_abs (by rfl) T.abs (by decide +kernel) (pa_cons (pv 4) pa_nil)) (pe_op op_pow pe_int pe_int)) (pv 1))))) pss_nil)
      (pss_cons (ps_set (i := 5) sc_ldraw.nd rfl (Or.inl rfl) (pe_lst (pa_cons pe_int (pa_cons pe_int (pa_cons pe_int (pa_cons pe_int (pa_cons pe_int pa_nil)))))))
      (pss_cons (ps_set (i := 6) sc_ldraw.nd rfl (Or.inl rfl) (pe_ix ix_seq (pv 5) (pe_op op_mod (pe_callTy call_int1 (by rfl) T.int (by decide +kernel) (pa_cons (pv 3) pa_nil)) pe_int) (fun _ _ => rfl)))
      (pss_cons (ps_set (i := 7) sc_ldraw.nd rfl (Or.inl rfl) (pe_op op_mod (pe_callTy call_int1 (by rfl) T.int (by decide +kernel) (pa_cons (pe_op op_add (pe_op op_add (pe_op op_mul (pe_op op_mod (pe_callTy call_int1 (by rfl) T.int (by decide +kernel) (pa_cons (pv 4) pa_nil)) (pv 6)) pe_int) (pe_op op_mul (pv 3) (pe_op op_add (pe_op op_mul pe_int (pv 3)) pe_int))) pe_int) pa_nil)) (pv 6)))
      (pss_cons (ps_set (i := 7) sc_ldraw.nd rfl (Or.inl rfl) (pe_op op_mod (pe_callTy call_int1 (by rfl) T.int (by decide +kernel) (pa_cons (pe_op op_mul (pv 7) (pe_op op_add (pv 7) pe_int)) pa_nil)) (pe_ix ix_seq (pv 5) (pe_op op_mod (pe_callTy call_int1 (by rfl) T.int (by decide +kernel) (pa_cons (pe_op op_add (pv 3) pe_int) pa_nil)) pe_int) (fun _ _ => rfl))))
      (pss_one (ps_ret (pe_op op_mod (pe_callTy call_int1 (by rfl) T.int (by decide +kernel) (pa_cons (pe_op op_fdiv (pe_op op_mod (pe_callTy call_int1 (by rfl) T.int (by decide +kernel) (pa_cons (pe_op op_add (pe_op op_add (pe_op op_mul (pv 7) (pv 7)) (pe_op op_mul pe_int (pv 7))) (pv 3)) pa_nil)) pe_int) pe_int) pa_nil)) (pv 1)))))))))))))), ?_⟩
    refine ⟨_, rfl, p, _, rfl, get_left hp, _, _, rfl, rfl, _, rfl, ?_⟩
    refine ite2 (fun hl => ?_) (fun hl => ?_)
    · refine ⟨_, rfl, p, _, rfl, get_left hp, .inl ⟨_, rfl, ?_⟩⟩
      refine ⟨_, rfl, _, _, rfl, rfl, m0, ?_⟩
      refine ⟨_, rfl, p, _, rfl, get_left hp, _, rfl, _, _, rfl, rfl, ⟨by omega, by omega⟩, ?_⟩
      refine ⟨_, rfl, p, _, rfl, put_left hp, _, rfl, ?_⟩
      refine k _ _ (Int.emod_nonneg _ (by omega)) (Int.emod_lt_of_pos _ m0) ⟨ns, t, _, upd_same, (upd_ne ncp).trans hc, hn, t0, by omega, Int.ediv_nonneg l0 (by omega)⟩ Ext.at
    · refine ⟨_, rfl, p, _, rfl, get_turn hp, ?_⟩
      refine ⟨_, rfl, _, _, rfl, rfl, _, rfl, p, _, rfl, put_turn hp, ?_⟩
      generalize hH1 : upd H p (.dK (penL c (t + 1) l)) = H1
      have hp1 : H1 p = some (.dK (penL c (t + 1) l)) := by rw [← hH1]; exact upd_same
      have hc1 : H1 c = some (.lst (ns.map V.int)) := by rw [← hH1]; exact (upd_ne ncp).trans hc
      have e1 : Ext p H H1 := by rw [← hH1]; exact Ext.at
      refine ⟨_, rfl, _, _, rfl, rfl, .inl ⟨by decide, by decide⟩, _, _, rfl, rfl, ?_⟩
      refine ⟨fun σ' H2 => ∃ z : Int, σ' = [some (.ref p), some (.int m), none, some (.int t), some (.int z), none, none, none] ∧ H2 p = some (.dK (penL c (t + 1) l)) ∧ H2 c = some (.lst (ns.map V.int)) ∧ Ext p H H2, ?_, ?_⟩
      · refine ⟨_, rfl, p, _, rfl, get_cells hp1, by decide, fun b hb => ?_⟩
        have hp2 := up_new (u := .lst []) hp1 hb
        have hc2 := up_new (u := .lst []) hc1 hb
        refine ⟨.list (ns.map .int), .list [], .lst (SqL.of hc2) (ints_dp ns), .lst (SqL.of upd_same) .nil, ints_shaped ns, by decide +kernel, _, rfl, ?_⟩
        rw [ints_ne_nil]
        refine ite2 (fun hne => ?_) (fun _ => ?_)
        · have hpos : 0 < ns.length := by
            cases ns with
            | nil => simp at hne
            | cons a r => exact Nat.succ_pos _
          refine ⟨_, rfl, p, _, rfl, get_cells hp2, _, rfl, .inl ⟨_, rfl, _, rfl, p, _, rfl, get_cells hp2, _, _, rfl, .inl ⟨_, SqL.of hc2, rfl⟩, _, _, rfl, rfl, ?_, ?_⟩⟩
          · rw [lenns]; omega
          · obtain ⟨v, hv, hm⟩ := at_mod (xs := ns.map V.int) (i := t % ((ns.map V.int).length : Int)) (Int.emod_nonneg _ (by rw [lenns]; omega)) (Int.emod_lt_of_pos _ (by rw [lenns]; omega))
            obtain ⟨z, _, rfl⟩ := List.mem_map.mp hm
            refine .inl ⟨_, _, _, _, rfl, rfl, SqL.of hc2, hv, z, rfl, hp2, hc2, e1.set (e1.none_of ?_ hb)⟩
            exact (ne_of_none hp1 hb).symm
        · exact ⟨_, rfl, hp2, hc2, e1.set (e1.none_of (ne_of_none hp1 hb).symm hb)⟩
      · rintro σ2 H2 ⟨z, rfl, hp2, hc2, e2⟩
        refine ⟨fun σ' H3 => σ' = [some (.ref p), some (.int m), none, some (.int t), some (.int z), none, none, none] ∧ H3 = H2, ?_, ?_⟩
        · refine ⟨_, rfl, _, rfl, p, _, rfl, get_cells hp2, _, _, rfl, .inl ⟨_, SqL.of hc2, rfl⟩, _, _, rfl, rfl, _, rfl, ?_⟩
          refine ite2 (fun _ => ?_) (fun _ => ?_)
          · refine ⟨_, rfl, _, rfl, _, _, rfl, rfl, ⟨by decide, by decide, by decide⟩, _, _, rfl, rfl, _, rfl, ?_⟩
            refine ite2 (fun hbig => ?_) (fun _ => ?_)
            · have big := of_decide_eq_true hbig
              refine ⟨_, rfl, _, rfl, _, _, rfl, rfl, ⟨by decide, by decide, by decide⟩, _, _, rfl, rfl, _, rfl, _, _, rfl, rfl, ⟨by omega, by omega⟩, ?_⟩
              refine ⟨_, rfl, p, _, rfl, put_left hp2, ?_⟩
              refine ⟨_, rfl, _, rfl, _, _, rfl, rfl, ⟨by decide, by decide, by decide⟩, _, _, rfl, rfl, _, rfl, _, _, rfl, rfl, m0, ?_⟩
              refine k _ _ (Int.emod_nonneg _ (by omega)) (Int.emod_lt_of_pos _ m0) ⟨ns, t + 1, _, upd_same, (upd_ne ncp).trans hc2, hn, by omega, by omega, Int.ediv_nonneg (by omega) (by omega)⟩ (e2.trans Ext.at)
            · exact ⟨rfl, rfl⟩
          · exact ⟨rfl, rfl⟩
        · rintro σ3 H3 ⟨rfl, rfl⟩
          refine ⟨by decide, fun q hq => ?_⟩
          have hp3 := up_new (u := .lst (primes.map V.int)) hp2 hq
          have hc3 := up_new (u := .lst (primes.map V.int)) hc2 hq
          have e3 : Ext p H (upd H3 q (.lst (primes.map V.int))) := e2.set (e2.none_of (ne_of_none hp2 hq).symm hq)
          have hq3 : (upd H3 q (.lst (primes.map V.int))) q = some (.lst (primes.map V.int)) := upd_same
          have pick : ∀ i : Int, 0 ≤ i → i < 5 → ∃ z : Int, atI (primes.map V.int) i = some (.int z) ∧ 0 < z ∧ z < 2147483648 := fun i h0 h5 => by
            obtain ⟨v, hv, hm⟩ := at_mod (xs := primes.map V.int) h0 h5
            obtain ⟨z, rfl, hz⟩ := primes_in hm
            exact ⟨z, hv, hz⟩
          obtain ⟨a1, ha1, a1p, a1b⟩ := pick (t % 5) (Int.emod_nonneg _ (by decide)) (Int.emod_lt_of_pos _ (by decide))
          obtain ⟨a2, ha2, a2p, a2b⟩ := pick ((t + 2) % 5) (Int.emod_nonneg _ (by decide)) (Int.emod_lt_of_pos _ (by decide))
          refine ⟨_, rfl, _, rfl, .inl ⟨_, rfl, _, _, rfl, rfl, (by show (0 : Int) < 5; decide), .inl ⟨_, _, _, _, rfl, rfl, SqL.of hq3, ha1, ?_⟩⟩⟩
          have b1 := Int.emod_nonneg z (show a1 ≠ 0 by omega)
          have b2 := Int.emod_lt_of_pos z a1p
          refine ⟨_, rfl, .inl ⟨_, rfl, _, rfl, _, _, rfl, rfl, a1p, _, _, rfl, rfl, .inr ⟨by decide, by decide⟩, ?_⟩⟩
          refine ⟨_, rfl, _, rfl, _, _, rfl, rfl, .inl ⟨by decide, by decide⟩, _, _, rfl, rfl, _, _, rfl, rfl, .inl ⟨by omega, by omega⟩, _, _, rfl, rfl, _, _, rfl, rfl, .inl ⟨_, rfl, _, rfl, _, _, rfl, rfl, a1p, ?_⟩⟩
          have d1 := Int.emod_nonneg (z % a1 * 39373 + t * (30011 * t + 8117) + 23) (show a1 ≠ 0 by omega)
          have d2 := Int.emod_lt_of_pos (z % a1 * 39373 + t * (30011 * t + 8117) + 23) a1p
          refine ⟨_, rfl, _, rfl, _, _, rfl, rfl, _, _, rfl, rfl, .inl ⟨by omega, by omega⟩, .inl ⟨_, rfl, _, rfl, _, rfl, _, _, rfl, rfl, .inl ⟨_, rfl, _, _, rfl, rfl, (by show (0 : Int) < 5; decide), .inl ⟨_, _, _, _, rfl, rfl, SqL.of hq3, ha2, _, _, rfl, rfl, a2p, ?_⟩⟩⟩⟩
          have f1 := Int.emod_nonneg (((z % a1 * 39373 + t * (30011 * t + 8117) + 23) % a1) * (((z % a1 * 39373 + t * (30011 * t + 8117) + 23) % a1) + 69621)) (show a2 ≠ 0 by omega)
          have f2 := Int.emod_lt_of_pos (((z % a1 * 39373 + t * (30011 * t + 8117) + 23) % a1) * (((z % a1 * 39373 + t * (30011 * t + 8117) + 23) % a1) + 69621)) a2p
          refine ⟨_, rfl, _, rfl, _, _, rfl, rfl, .inl ⟨by omega, by omega⟩, _, rfl, _, _, rfl, rfl, .inl ⟨by decide, by decide⟩, _, _, rfl, rfl, _, rfl, _, _, rfl, rfl, .inl ⟨_, rfl, _, _, rfl, rfl, (by show (0 : Int) < 2147483549; decide), _, _, rfl, rfl, ⟨by decide, by decide⟩, .inl ⟨_, rfl, _, rfl, _, _, rfl, rfl, m0, ?_⟩⟩⟩
          exact k _ _ (Int.emod_nonneg _ (by omega)) (Int.emod_lt_of_pos _ m0) ⟨ns, t + 1, l, hp3, hc3, hn, by omega, by omega, l0⟩ e3

abbrev s_lpen : Stmt := top 12
theorem sc_lpen : FnScope ["_law_script"] ["_law_script"] (defScope s_lpen) := ⟨rfl, rfl, rfl, by decide +kernel, rfl, by decide +kernel, by decide +kernel⟩
theorem b_lpen {f : Addr} {fd : FuncData} (F : Fun K "_law_pen" "_law_pen" s_lpen f fd) (T : Txt mg) : FnG P w K mg base CX0 1 f fd ["_law_script"] (spPen K) := by
  refine okG0 F sc_lpen (fun vs H Q E h => ?_) (fun cdv A outer s H vs Q E hg hr h => ?_)
  · obtain ⟨a, ns, rfl, _⟩ := h
    rfl
  · have hu := hu_of hr
    have hu64 := hr.units
    obtain ⟨a, ns, rfl, hs, k⟩ := h
    refine ⟨_, (pss_one (ps_ret (pe_disp (pps_cons pe_str (pe_callTy call_list_of (by rfl) T.list (by decide +kernel) (pa_cons (pe_slice sl_list (pv 0) po_none (po_some pe_int)) pa_nil)) (pps_cons pe_str pe_int (pps_cons pe_str pe_int pps_nil))) (by rfl) (by rfl) (fun z => by cases z) (by decide)))), ?_⟩
    intro p hp
    obtain ⟨ms, hms, hml⟩ := cut63 ns
    refine ⟨_, rfl, 63, rfl, a, _, rfl, (same_new hp).seq hs, fun q hq => ?_⟩
    refine ⟨q, _, rfl, .inl (SqL.of upd_same), fun c hc => ?_⟩
    rw [hms] at hc ⊢
    have nqp : p ≠ q := fun e => by rw [← e, upd_same] at hq; cases hq
    have ncp : p ≠ c := fun e => by rw [← e, upd_ne nqp, upd_same] at hc; cases hc
    have hp2 : (upd (upd (upd H p (.dK [])) q (.lst (ms.map V.int))) c (.lst (ms.map V.int))) p = some (.dK []) := by rw [upd_ne ncp, upd_ne nqp, upd_same]
    refine ⟨hp2, penL c 0 0, rfl, (by show 3 ≤ 15; decide), ?_⟩
    rw [pen_made]
    refine k p c _ hp ⟨ms, 0, 0, upd_same, by rw [upd_ne ncp.symm, upd_same], hml, Int.le_refl _, Int.le_refl _, Int.le_refl _⟩ fun b o e => ?_
    rw [upd_ne (ne_of_none e hp), upd_ne ?_, upd_ne ?_, upd_ne (ne_of_none e hp)]
    · exact e
    · rintro rfl
      rw [upd_ne (ne_of_none e hp)] at hq
      rw [hq] at e
      cases e
    · rintro rfl
      by_cases ebq : b = q
      · subst ebq
        rw [upd_ne nqp.symm] at hq
        rw [hq] at e
        cases e
      · rw [upd_ne ebq, upd_ne (ne_of_none e hp)] at hc
        rw [hc] at e
        cases e

abbrev s_lpick : Stmt := top 14
theorem sc_lpick : FnScope ["_law_pen_here", "_law_options"] ["_law_pen_here", "_law_options"] (defScope s_lpick) := ⟨rfl, rfl, rfl, by decide +kernel, rfl, by decide +kernel, by decide +kernel⟩
theorem b_lpick {f : Addr} {fd : FuncData} (F : Fun K "_law_pick" "_law_pick" s_lpick f fd) (T : Txt mg) (c_ldraw : CalG P w K mg base CX0 1 "_law_draw" spDraw) : FnG P w K mg base CX0 2 f fd ["_law_pen_here", "_law_options"] (spPick K) := by
  refine okG0 F sc_lpick (fun vs H Q E h => ?_) (fun cdv A outer s H vs Q E hg hr h => ?_)
  · obtain ⟨p, c, o, xs, T0, rfl, _⟩ := h
    rfl
  · have hu := hu_of hr
    have hu64 := hr.units
    obtain ⟨p, c, o, xs, T0, rfl, ho, hne, hlen, hpen, hT, k⟩ := h
    have hpos : 0 < xs.length := List.length_pos_iff.mpr hne
    have hr1 : Room 1 _ := hr
    refine ⟨_, (pss_one (ps_ret (pe_ix ix_seq (pv 1) (pe_cG c_ldraw hg hr (by decide) pass0 (pa_cons (pv 0) (pa_cons (pe_callB call_len (by rfl) T.len (by decide +kernel) (pa_cons (pv 1) pa_nil)) pa_nil))) (fun _ _ => rfl)))), ?_⟩

    cases ho with
    | str z hz =>
      have e := one_len z
      have hz24 : z.length ≤ sizeLine := Nat.le_trans hz (by decide)
      refine ⟨_, rfl, _, rfl, _, rfl, _, _, rfl, ⟨hz24, rfl⟩, p, c, _, T0, rfl, by omega, by omega, hpen, hT, fun d H' d0 d1 hpen' x => ?_⟩
      obtain ⟨e1, hc, hm⟩ := at_mod (xs := z.cps.toList) d0 (by rw [show (z.cps.toList.length : Int) = (z.length : Int) from congrArg Nat.cast Array.length_toList]; exact d1)
      exact .inr (.inr ⟨z, d, e1, rfl, rfl, hz24, hc, k _ _ (List.mem_map_of_mem (f := OneS) hm) hpen' x⟩)
    | lst hs =>
      refine ⟨_, rfl, _, rfl, _, rfl, _, _, rfl, .inl ⟨_, hs, rfl⟩, p, c, _, T0, rfl, by omega, by omega, hpen, hT, fun d H' d0 d1 hpen' x => ?_⟩
      obtain ⟨v, hv, hm⟩ := at_mod d0 d1
      exact .inl ⟨_, xs, d, v, rfl, rfl, hpen.keepL x hs, hv, k _ _ hm hpen' x⟩
    | tup hs =>
      refine ⟨_, rfl, _, rfl, _, rfl, _, _, rfl, .inr ⟨_, hs, rfl⟩, p, c, _, T0, rfl, by omega, by omega, hpen, hT, fun d H' d0 d1 hpen' x => ?_⟩
      obtain ⟨v, hv, hm⟩ := at_mod d0 d1
      exact .inr (.inl ⟨_, xs, d, v, rfl, rfl, hpen.keepT x hs, hv, k _ _ hm hpen' x⟩)

abbrev s_lsigns : Stmt := top 15
theorem sc_lsigns : FnScope [] [] (defScope s_lsigns) := ⟨rfl, rfl, rfl, by decide +kernel, rfl, by decide +kernel, by decide +kernel⟩
theorem b_lsigns {f : Addr} {fd : FuncData} (F : Fun K "_law_signs" "_law_signs" s_lsigns f fd) (T : Txt mg) : FnG P w K mg base CX0 1 f fd [] spSigns := by
  refine okG0 F sc_lsigns (fun vs H Q E h => ?_) (fun cdv A outer s H vs Q E hg hr h => ?_)
  · obtain ⟨rfl, _⟩ := h
    rfl
  · have hu := hu_of hr
    have hu64 := hr.units
    obtain ⟨rfl, k⟩ := h
    exact ⟨_, (pss_one (ps_ret pe_str)), k⟩

abbrev s_lfew : Stmt := top 16
theorem sc_lfew : FnScope ["_law_pen_here", "_law_some", "_law_rare", "_law_k"] ["_law_pen_here"] (defScope s_lfew) := ⟨rfl, rfl, rfl, by decide +kernel, rfl, by decide +kernel, by decide +kernel⟩
theorem b_lfew {f : Addr} {fd : FuncData} (F : Fun K "_law_few" "_law_few" s_lfew f fd) (T : Txt mg) (c_lpick : CalG P w K mg base CX0 2 "_law_pick" (spPick K)) (t_signs : FnT P w K mg base 1 "_law_signs" letS) : FnG P w K mg base CX0 3 f fd ["_law_pen_here"] spFew := by
  refine okG0 F sc_lfew (fun vs H Q E h => ?_) (fun cdv A outer s H vs Q E hg hr h => ?_)
  · obtain ⟨p, pc, T0, rfl, _⟩ := h
    rfl
  · have hu := hu_of hr
    have hu64 := hr.units
    obtain ⟨p, pc, T0, rfl, hpen, hT, k⟩ := h
    have hr2 : Room 2 _ := hr
    refine ⟨_, (pss_cons (ps_set (i := 1) sc_lfew.nd rfl (Or.inr rfl) (pe_lst (pa_cons (pe_cG c_lpick hg hr (by decide) pass0 (pa_cons (pv 0) (pa_cons (pe_replT t_signs hr (by decide) (by decide +kernel) (by decide +kernel)) pa_nil))) (pa_cons (pe_cG c_lpick hg hr (by decide) pass0 (pa_cons (pv 0) (pa_cons pe_str pa_nil))) (pa_cons (pe_cG c_lpick hg hr (by decide) pass0 (pa_cons (pv 0) (pa_cons pe_str pa_nil))) pa_nil)))))
      (pss_cons (ps_set (i := 2) sc_lfew.nd rfl (Or.inl rfl) (pe_join pe_str (pe_lc (own := [("_law_k", 3)]) (g := gName 3) rfl sc_lfew.nd (pi_range1 rfl T.range (pa_cons pe_int pa_nil)) (blkOk_by (own := [("_law_k", 3)]) (N := ["_law_pen_here", "_law_some", "_law_rare", "_law_k"]) (sc := defScope s_lfew) (by decide +kernel)) (fun _ _ _ _ _ => (pg_name (i := 3) sc_lfew.nd rfl (Or.inl rfl))) (fun _ _ _ _ _ => (pts_one (pt_cmpR (op_notIn_seqK (K := K) rfl) (pe_ix (ix_seqK (K := K) rfl) (pv 1) (pv 3) (fun _ _ => rfl)) (pe_slice (sl_listK (K := K) rfl) (pv 1) po_none (po_some (pv 3))) (by rfl)))) (fun _ _ _ _ _ => (pe_ix (ix_seqK (K := K) rfl) (pv 1) (pv 3) (fun _ _ => rfl))))))
      (pss_one (ps_ret (pe_cG c_lpick hg hr (by decide) pass0 (pa_cons (pv 0) (pa_cons (pe_lst (pa_cons pe_str (pa_cons pe_str (pa_cons pe_str (pa_cons pe_str (pa_cons pe_str (pa_cons pe_str (pa_cons pe_str (pa_cons pe_str (pa_cons pe_str (pa_cons (pv 2) pa_nil))))))))))) pa_nil))))))), ?_⟩
    refine ⟨_, rfl, p, pc, _, _, T0, rfl, .str _ (by rw [noq_len]; decide), opts_ne (by rw [noq_len]; decide), opts_le (by rw [noq_len]; decide), hpen, by omega, fun v1 H1 m1 P1 x1 => ?_⟩
    obtain ⟨c1, rfl, k1⟩ := ones_of m1
    refine ⟨_, rfl, p, pc, _, _, T0 + 1, rfl, .str _ (by decide), opts_ne (by decide), opts_le (by decide), P1, by omega, fun v2 H2 m2 P2 x2 => ?_⟩
    obtain ⟨c2, rfl, k2⟩ := ones_of m2
    refine ⟨_, rfl, p, pc, _, _, T0 + 2, rfl, .str _ (by decide), opts_ne (by decide), opts_le (by decide), P2, by omega, fun v3 H3 m3 P3 x3 => ?_⟩
    obtain ⟨c3, rfl, k3⟩ := ones_of m3
    refine ⟨by show 3 ≤ sizeLine; decide, fun a ha => ?_⟩
    have hin : ∀ c ∈ [c1, c2, c3], c ∈ letS.cps.toList := by
      intro c hc
      simp only [List.mem_cons, List.not_mem_nil, or_false] at hc
      rcases hc with rfl | rfl | rfl
      · exact noq_in k1
      · exact (by decide +kernel : ∀ c ∈ (Str.ofString "yz").cps.toList, c ∈ letS.cps.toList) _ k2
      · exact (by decide +kernel : ∀ c ∈ (Str.ofString "(\n").cps.toList, c ∈ letS.cps.toList) _ k3
    have P4 := P3.new (o := .lst ([c1, c2, c3].map OneS)) ha
    have x4 : Ext p H (upd H3 a (.lst ([c1, c2, c3].map OneS))) := (x1.trans (x2.trans x3)).trans (Ext.new ha)
    have ha4 : (upd H3 a (.lst ([c1, c2, c3].map OneS))) a = some (.lst ([c1, c2, c3].map OneS)) := upd_same
    generalize hxs : ([c1, c2, c3].map OneS : List V) = xs at ha4 P4 x4
    have hxl : xs.length = 3 := by rw [← hxs]; rfl
    have hxf : xs.all flatV = true := by rw [← hxs]; exact ones_flat _
    have hxm : ∀ v ∈ xs, ∃ c, v = OneS c ∧ c ∈ [c1, c2, c3] := by rw [← hxs]; exact fun v hv => one_mem hv
    have ha5 : (upd H3 a (.lst ([c1, c2, c3].map OneS))) = upd H3 a (.lst xs) := by rw [hxs]
    generalize hH4 : upd H3 a (.lst xs) = H4 at ha4 P4 x4 ha5
    refine ⟨⟨_, rfl⟩, ?_⟩
    show (iRng1 (tCons (tC (V.int 3)) tNil)) _ (upd H3 a (.lst ([c1, c2, c3].map OneS))) _
    rw [ha5]
    refine ⟨3, rfl, by decide, by decide, fun D hD => lc_range (lo := 0) (n := 3) (fun i H' => ∃ cs : List Nat, H' D = some (.lst (cs.map OneS)) ∧ cs.length ≤ i ∧ (1 ≤ i → 1 ≤ cs.length) ∧ (∀ c ∈ cs, c ∈ letS.cps.toList) ∧ Same H4 H') ?_ ?_ ?_⟩
    · exact ⟨[], upd_same, Nat.le_refl _, fun h => by omega, fun c hc => absurd hc List.not_mem_nil, same_new hD⟩
    · rintro i H5 hi ⟨cs, hDc, hcl, hc1, hcm, sm⟩
      obtain ⟨v, hv, hvm⟩ := at_mod (xs := xs) (i := 0 + (i : Int)) (by omega) (by rw [hxl]; omega)
      obtain ⟨c, rfl, hcc⟩ := hxm v hvm
      have sa : SqL K H5 a xs := sm.seq (SqL.of ha4)
      refine ⟨rfl, _, rfl, _, rfl, .inl ⟨a, xs, _, _, rfl, rfl, sa, hv, _, rfl, _, rfl, _, rfl, a, xs, rfl, sa, fun q hq => ⟨q, _, rfl, .inl (SqL.of upd_same), rfl, cutV_all hxf, _, rfl, ?_⟩⟩⟩
      have sq : Same H4 (upd H5 q (.lst (cutV xs none (some (0 + (i : Int)))))) := sm.trans (same_new hq)
      have dq := up_new (u := .lst (cutV xs none (some (0 + (i : Int))))) hDc hq
      refine ite2 (fun hb => ?_) (fun hb => ?_)
      · refine ⟨_, rfl, _, rfl, .inl ⟨a, xs, _, _, rfl, rfl, sq.seq (SqL.of ha4), hv, _, dq, by rw [List.length_map]; exact Nat.lt_of_le_of_lt hcl (Nat.lt_trans hi (by decide)), cs ++ [c], ?_, ?_, fun _ => ?_, ?_, ?_⟩⟩
        · rw [upd_same, List.map_append]
          rfl
        · rw [List.length_append]; exact Nat.add_le_add_right hcl 1
        · rw [List.length_append]; exact Nat.le_add_left _ _
        · intro d hd
          rcases List.mem_append.mp hd with hd | hd
          · exact hcm d hd
          · rw [List.mem_singleton.mp hd]
            exact hin c hcc
        · intro b o e
          by_cases hbD : b = D
          · rw [hbD, hD] at e
            cases e
          · exact (upd_ne hbD).trans (sq b o e)
      · refine ⟨cs, dq, Nat.le_succ_of_le hcl, fun _ => ?_, hcm, sq⟩
        by_cases h0 : i = 0
        · subst h0
          refine absurd ?_ hb
          show (if true = true then !inV (OneS c) (cutV xs none (some (0 + ((0 : Nat) : Int)))) else inV (OneS c) (cutV xs none (some (0 + ((0 : Nat) : Int))))) = true
          rw [show (0 : Int) + ((0 : Nat) : Int) = 0 from rfl, cutV_zero]
          rfl
        · exact hc1 (by omega)
    · rintro H5 ⟨cs, hDc, hcl, hc1, hcm, sm⟩
      refine ⟨_, D, cs.map fun c => ⟨#[c]⟩, rfl, rfl, .inl (SqL.of (by rw [ones_map]; exact hDc)), ?_, ?_⟩
      · rw [ones_len]
        show cs.length + _ * 0 ≤ _
        omega
      · rw [join_ones]
        have fz : Few ⟨cs.toArray⟩ := few_ones (hc1 (by decide)) hcl hcm
        have x5 : Ext p H H5 := x4.trans (Ext.same sm)
        have P5 := P4.stay sm
        refine ⟨_, rfl, _, rfl, by show 10 ≤ sizeLine; decide, fun q hq => ?_⟩
        refine ⟨p, pc, _, _, T0 + 3, rfl, .lst (SqL.of upd_same), by simp, by show 10 ≤ 1000; decide, P5.new hq, by omega, fun v H6 hm P6 x6 => ?_⟩
        have fin : ∃ z, v = .str z ∧ Few z := by
          simp only [List.mem_cons, List.not_mem_nil, or_false] at hm
          rcases hm with rfl | rfl | rfl | rfl | rfl | rfl | rfl | rfl | rfl | rfl
          all_goals first
            | exact ⟨_, rfl, fz⟩
            | exact ⟨_, rfl, few_of (by decide +kernel)⟩
        obtain ⟨z, rfl, hz⟩ := fin
        exact k z H6 hz P6 (x5.trans ((Ext.new hq).trans x6))

abbrev s_lword : Stmt := top 17
theorem sc_lword : FnScope ["_law_pen_here", "_law_signs_here", "_law_least", "_law_most_letters", "_law_many", "_law_k"] ["_law_pen_here", "_law_signs_here", "_law_least", "_law_most_letters"] (defScope s_lword) := ⟨rfl, rfl, rfl, by decide +kernel, rfl, by decide +kernel, by decide +kernel⟩
theorem b_lword {f : Addr} {fd : FuncData} (F : Fun K "_law_word" "_law_word" s_lword f fd) (T : Txt mg) (c_ldraw : CalG P w K mg base CX0 1 "_law_draw" spDraw) (c_lpick : CalG P w K mg base CX0 2 "_law_pick" (spPick K)) : FnG P w K mg base CX0 3 f fd ["_law_pen_here", "_law_signs_here", "_law_least", "_law_most_letters"] spWord := by
  refine okG0 F sc_lword (fun vs H Q E h => ?_) (fun cdv A outer s H vs Q E hg hr h => ?_)
  · obtain ⟨p, pc, z, a, b, T0, rfl, _⟩ := h
    rfl
  · have hu := hu_of hr
    have hu64 := hr.units
    obtain ⟨p, pc, z, a, b, T0, rfl, hab, hb, hz1, hz, hpen, hT, k⟩ := h
    have hr2 : Room 2 _ := hr
    refine ⟨_, (pss_cons (ps_set (i := 4) sc_lword.nd rfl (Or.inl rfl) (pe_op op_add (pv 2) (pe_cG c_ldraw hg hr (by decide) pass0 (pa_cons (pv 0) (pa_cons (pe_op op_add (pe_op op_sub (pv 3) (pv 2)) pe_int) pa_nil)))))
      (pss_one (ps_ret (pe_join pe_str (pe_lc (own := [("_law_k", 5)]) (g := gName 5) (tt := tYes) rfl sc_lword.nd (pi_range1 rfl T.range (pa_cons (pv 4) pa_nil)) (blkOk_by (own := [("_law_k", 5)]) (N := ["_law_pen_here", "_law_signs_here", "_law_least", "_law_most_letters", "_law_many", "_law_k"]) (sc := defScope s_lword) (by decide +kernel)) (fun _ _ _ _ _ => (pg_name (i := 5) sc_lword.nd rfl (Or.inl rfl))) (fun _ _ _ _ _ => pts_nil) (fun _ _ _ _ _ => (pe_cG c_lpick hg hr (by decide) pass0 (pa_cons (pv 0) (pa_cons (pv 1) pa_nil))))))))), ?_⟩
    refine ⟨_, rfl, _, rfl, _, rfl, _, rfl, _, _, rfl, rfl, _, _, rfl, rfl, p, pc, _, T0, rfl, by omega, by omega, hpen, by omega, fun d H1 d0 d1 P1 x1 => ?_⟩
    refine ⟨_, _, rfl, rfl, ⟨_, rfl⟩, ?_⟩
    obtain ⟨n, rfl⟩ : ∃ n : Nat, d = (n : Int) := ⟨d.toNat, by omega⟩
    refine ⟨_, rfl, _, rfl, by omega, by omega, fun D hD => ?_⟩
    have en : ((a : Int) + (n : Int)).toNat = a + n := by omega
    have hn : a + n ≤ b := by omega
    obtain ⟨nDp, nDc⟩ := P1.apart hD
    refine lc_range (lo := 0) (n := ((a : Int) + (n : Int)).toNat) (fun i H' => ∃ cs : List Nat, H' D = some (.lst (cs.map OneS)) ∧ cs.length = i ∧ (∀ c ∈ cs, c ∈ z.cps.toList) ∧ Pen H' p pc (T0 + 1 + i) ∧ Ext p H H') ?_ ?_ ?_
    · refine ⟨[], upd_same, rfl, fun c hc => absurd hc List.not_mem_nil, P1.new hD, x1.trans (Ext.new hD)⟩
    · rintro i H2 hi ⟨cs, hDc, hcl, hcm, P2, x2⟩
      rw [en] at hi
      refine ⟨rfl, _, rfl, _, rfl, p, pc, _, _, T0 + 1 + i, rfl, .str z hz, opts_ne hz1, opts_le hz, P2, by omega, fun v H3 hm P3 x3 => ?_⟩
      obtain ⟨c, rfl, hc⟩ := ones_of hm
      have d3 := P2.keepI x3 hDc
      refine ⟨_, d3, by rw [List.length_map, hcl]; exact Nat.lt_of_lt_of_le hi (Nat.le_trans hn (Nat.le_trans hb (by decide))), cs ++ [c], ?_, by rw [List.length_append, hcl]; rfl, ?_, ?_, ?_⟩
      · rw [upd_same, List.map_append]
        rfl
      · intro e he
        rcases List.mem_append.mp he with he | he
        · exact hcm e he
        · rw [List.mem_singleton.mp he]
          exact hc
      · exact P3.set nDp nDc
      · exact fun b o e hb => by
          rw [upd_ne (fun q => by rw [q, x1.none_of nDp hD] at e; cases e)]
          exact x3 b o (x2 b o e hb) hb
    · rintro H2 ⟨cs, hDc, hcl, hcm, P2, x2⟩
      refine ⟨_, D, cs.map fun c => ⟨#[c]⟩, rfl, rfl, .inl (SqL.of (by rw [ones_map]; exact hDc)), ?_, ?_⟩
      · rw [ones_len]
        show cs.length + _ * 0 ≤ _
        omega
      · rw [join_ones]
        rw [en] at hcl P2
        exact k _ H2 ⟨by show a ≤ cs.toArray.size; rw [List.size_toArray]; omega, by show cs.toArray.size ≤ b; rw [List.size_toArray]; omega, by simpa using hcm⟩ (P2.mono (by omega)) x2

abbrev s_lplaces : Stmt := top 18
theorem sc_lplaces : FnScope ["_law_text_here", "_law_was", "_law_size", "_law_k"] ["_law_text_here", "_law_was"] (defScope s_lplaces) := ⟨rfl, rfl, rfl, by decide +kernel, rfl, by decide +kernel, by decide +kernel⟩
theorem b_lplaces {f : Addr} {fd : FuncData} (F : Fun K "_law_places" "_law_places" s_lplaces f fd) (T : Txt mg) : FnG P w K mg base CX0 1 f fd ["_law_text_here", "_law_was"] (spPlaces K) := by
  refine okG0 F sc_lplaces (fun vs H Q E h => ?_) (fun cdv A outer s H vs Q E hg hr h => ?_)
  · obtain ⟨x, wd, rfl, _⟩ := h
    rfl
  · have hu := hu_of hr
    have hu64 := hr.units
    obtain ⟨x, wd, rfl, hx, hw, k⟩ := h
    refine ⟨_, (pss_cons (ps_set (i := 2) sc_lplaces.nd rfl (Or.inr rfl) (pe_callB call_len (by rfl) T.len (by decide +kernel) (pa_cons (pv 1) pa_nil)))
      (pss_one (ps_ret (pe_lc (own := [("_law_k", 3)]) (g := gName 3) rfl sc_lplaces.nd (pi_range1 rfl T.range (pa_cons (pe_op op_add (pe_op op_sub (pe_callB call_len (by rfl) T.len (by decide +kernel) (pa_cons (pv 0) pa_nil)) (pv 2)) pe_int) pa_nil)) (blkOk_by (own := [("_law_k", 3)]) (N := ["_law_text_here", "_law_was", "_law_size", "_law_k"]) (sc := defScope s_lplaces) (by decide +kernel)) (fun _ _ _ _ _ => (pg_name (i := 3) sc_lplaces.nd rfl (Or.inl rfl))) (fun _ _ _ _ _ => (pts_one (pt_cmpR op_eq (pe_slice sl_str (pv 0) (po_some (pv 3)) (po_some (pe_op op_add (pv 3) (pv 2)))) (pv 1) (nomark _)))) (fun _ _ _ _ _ => (pv 3)))))), ?_⟩
    have hx24 : x.length ≤ sizeLine := Nat.le_trans hx (by decide)
    have hw24 : wd.length ≤ sizeLine := Nat.le_trans hw (by decide)
    refine ⟨_, rfl, _, _, rfl, ⟨hw24, rfl⟩, ?_⟩
    refine ⟨_, rfl, _, _, rfl, ⟨hx24, rfl⟩, _, rfl, _, _, rfl, rfl, _, _, rfl, rfl, _, rfl, by omega, by omega, fun D hD => ?_⟩
    refine lc_range (lo := 0) (n := ((x.length : Int) - (wd.length : Int) + 1).toNat) (fun i H' => H' D = some (.lst ((((List.range i).filter (atB x wd)).map Int.ofNat).map V.int)) ∧ Same H H') ?_ ?_ ?_
    · exact ⟨upd_same, same_new hD⟩
    · rintro i H2 hi ⟨hd, sm⟩
      have hi2 : i + wd.length ≤ x.length := by omega
      refine ⟨rfl, _, rfl, _, rfl, _, rfl, _, rfl, _, rfl, _, _, rfl, rfl, _, rfl, x, rfl, hx24, ?_⟩
      refine ⟨_, rfl, rfl, _, rfl, ?_⟩
      have ec := cut_at x wd i hi2
      rw [show (0 : Int) + (i : Int) = (i : Int) by omega, ec]
      cases hb : atB x wd i with
      | true =>
        refine iteT ?_
        have fl : ((((List.range i).filter (atB x wd)).map Int.ofNat).map V.int).length ≤ i := by
          rw [List.length_map, List.length_map]
          exact Nat.le_trans (List.length_filter_le _ _) (Nat.le_of_eq List.length_range)
        refine ⟨_, rfl, _, hd, Nat.lt_of_le_of_lt fl (Nat.lt_of_le_of_lt (show i ≤ 10002 by omega) (by decide)), ?_, ?_⟩
        · rw [upd_same, filter_snoc hb, List.map_append, List.map_append]
          rfl
        · intro b o e
          exact (upd_ne (fun q => by rw [q, hD] at e; cases e)).trans (sm b o e)
      | false =>
        refine iteF ⟨?_, sm⟩
        rw [hd, filter_more (Nat.le_succ i) fun j h1 h2 => by rw [show j = i by omega]; exact hb]
    · rintro H2 ⟨hd, sm⟩
      refine k D H2 hD ?_ sm
      rw [hd]
      unfold plcI plc
      rw [← filter_more (lo := ((x.length : Int) - (wd.length : Int) + 1).toNat) (m := x.length + 1) (by omega) fun j h1 h2 => by
        unfold atB
        rw [decide_eq_false (by omega)]
        rfl]

theorem cut_upto (x : Str) (M : Nat) : (cutS x none (some (M : Int))).length ≤ M := by
  unfold cutS
  show (List.toArray _).size ≤ M
  rw [List.size_toArray, HT.sIx_nat, HT.sIx_none]
  refine Nat.le_trans (List.length_take_le _ _) ?_
  have := Nat.min_le_left M x.length
  omega
def spNtext : Sp := fun vs H Q _ => ∃ p c z M T, vs = [.ref p, .str z, .int (M : Nat)] ∧ Few z ∧ M ≤ 100 ∧ Pen H p c T ∧ T + 1000 < 1000000000 ∧ ∀ (x : Str) (H' : Hp), x.length ≤ M → PyData.strOk x = true → Pen H' p c (T + 100) → Ext p H H' → Q (.str x) H'
abbrev s_lntext : Stmt := top 19
theorem sc_lntext : FnScope ["_law_pen_here", "_law_signs_here", "_law_most_letters", "_law_some", "_law_found", "_law_k"] ["_law_pen_here", "_law_signs_here", "_law_most_letters"] (defScope s_lntext) := ⟨rfl, rfl, rfl, by decide +kernel, rfl, by decide +kernel, by decide +kernel⟩
theorem b_lntext {f : Addr} {fd : FuncData} (F : Fun K "_law_ntext" "_law_ntext" s_lntext f fd) (T : Txt mg) (c_ldraw : CalG P w K mg base CX0 1 "_law_draw" spDraw) (c_lpick : CalG P w K mg base CX0 2 "_law_pick" (spPick K)) (c_lword : CalG P w K mg base CX0 3 "_law_word" spWord) : FnG P w K mg base CX0 4 f fd ["_law_pen_here", "_law_signs_here", "_law_most_letters"] spNtext := by
  refine okG0 F sc_lntext (fun vs H Q E h => ?_) (fun cdv A outer s H vs Q E hg hr h => ?_)
  · obtain ⟨p, pc, z, M, T0, rfl, _⟩ := h
    rfl
  · have hu := hu_of hr
    have hu64 := hr.units
    obtain ⟨p, pc, z, M, T0, rfl, fz, hM, hpen, hT, k⟩ := h
    have hr3 : Room 3 _ := hr
    have z100 : z.length ≤ 1000 := Nat.le_trans fz.2.1 (by decide)
    refine ⟨_, (pss_cons (ps_par (i := 3) (j := 4) (by rfl) sc_lntext.nd rfl rfl (by decide) rfl rfl (pa_cons (pe_lst (pa_cons (pe_cG c_lword hg hr (by decide) pass0 (pa_cons (pv 0) (pa_cons (pv 1) (pa_cons pe_int (pa_cons pe_int pa_nil))))) (pa_cons (pe_cG c_lword hg hr (by decide) pass0 (pa_cons (pv 0) (pa_cons (pv 1) (pa_cons pe_int (pa_cons pe_int pa_nil))))) pa_nil))) (pa_cons pe_str pa_nil)) (by rfl))
      (pss_cons (ps_for PassesOwn.never rfl (pi_range1 rfl T.range (pa_cons (pe_cG c_ldraw hg hr (by decide) pass0 (pa_cons (pv 0) (pa_cons pe_int pa_nil))) pa_nil)) (pg_name (i := 5) sc_lntext.nd rfl (Or.inl rfl)) (pss_one (ps_set (i := 4) sc_lntext.nd rfl (Or.inl rfl) (pe_op op_add_str (pv 4) (pe_cG c_lpick hg hr (by decide) pass0 (pa_cons (pv 0) (pa_cons (pe_op op_cat (pv 3) (pe_lst (pa_cons (pe_cG c_lpick hg hr (by decide) pass0 (pa_cons (pv 0) (pa_cons (pv 1) pa_nil))) pa_nil))) pa_nil)))))))
      (pss_one (ps_ret (pe_slice sl_str (pv 4) po_none (po_some (pv 2))))))), ?_⟩
    refine ⟨_, rfl, _, rfl, p, pc, z, 1, 4, T0, rfl, by decide, by decide, fz.1, z100, hpen, by omega, fun w1 H1 g1 P1 x1 => ?_⟩
    refine ⟨_, rfl, _, rfl, p, pc, z, 1, 3, _, rfl, by decide, by decide, fz.1, z100, P1, by omega, fun w2 H2 g2 P2 x2 => ?_⟩
    refine ⟨by show 2 ≤ sizeLine; decide, fun b hb => ?_⟩
    have sb := same_new (o := .lst [.str w1, .str w2]) hb
    have P3 := P2.stay sb
    have x3 : Ext p H _ := (x1.trans x2).trans (Ext.same sb)
    refine ⟨_, _, rfl, _, rfl, p, pc, 9, _, rfl, by decide, by decide, P3, by omega, fun n H4 n0 n1 P4 x4 => ?_⟩
    have hb4 := P3.keepI x4 upd_same
    refine ⟨_, rfl, by omega, by omega, ?_⟩
    refine for_range (lo := 0) (n := n.toNat) (fun i σ H' => ∃ (o5 : Option V) (f : Str), σ = [some (.ref p), some (.str z), some (.int (M : Nat)), some (.ref b), some (.str f), o5] ∧ (f.length ≤ 100 * i ∧ PyData.strOk f = true) ∧ Pen H' p pc (T0 + 20 + 2 * i) ∧ Ext p H H' ∧ H' b = some (.lst [.str w1, .str w2])) ?_ ?_ ?_
    · exact ⟨_, "", rfl, ⟨by show 0 ≤ _; omega, ok_none⟩, P4.mono (by omega), x3.trans x4, hb4⟩
    · rintro i σ H5 hi ⟨o5, f, rfl, hf, P5, x5, hb5⟩
      have hf1 := hf.1
      refine ⟨_, rfl, _, rfl, _, rfl, _, rfl, _, rfl, p, pc, _, _, _, rfl, .str z z100, opts_ne fz.1, opts_le z100, P5, by omega, fun v H6 hv P6 x6 => ?_⟩
      obtain ⟨cv, rfl, hcv⟩ := ones_of hv
      have hb6 := P5.keepI x6 hb5
      refine ⟨by show 1 ≤ sizeLine; decide, fun q hq => ?_⟩
      have sq := same_new (o := .lst [OneS cv]) hq
      refine ⟨b, q, _, _, rfl, rfl, sq _ _ hb6, upd_same, by show 3 ≤ sizeLine; decide, fun q2 hq2 => ?_⟩
      have sq2 := same_new (o := .lst [.str w1, .str w2, OneS cv]) hq2
      have P7 := (P6.stay sq).stay sq2
      refine ⟨p, pc, _, _, _, rfl, .lst (SqL.of upd_same), (fun z => by cases z), by show 3 ≤ 1000; decide, P7, by omega, fun v H8 hv2 P8 x8 => ?_⟩
      have hb8 := P7.keepI x8 (sq2 _ _ (sq _ _ hb6))
      have ev : ∃ y : Str, v = .str y ∧ y.length ≤ 100 ∧ PyData.strOk y = true := by
        simp only [List.mem_append, List.mem_cons, List.not_mem_nil, or_false] at hv2
        rcases hv2 with (rfl | rfl) | rfl
        · exact ⟨w1, rfl, Nat.le_trans g1.2.1 (by decide), ok_word fz g1⟩
        · exact ⟨w2, rfl, Nat.le_trans g2.2.1 (by decide), ok_word fz g2⟩
        · exact ⟨_, rfl, by show 1 ≤ 100; decide, ok_one fz hcv⟩
      obtain ⟨y, rfl, hy, oy⟩ := ev
      refine ⟨_, _, rfl, rfl, Nat.le_of_lt (fewL (by omega)), _, f ++ y, rfl, ⟨?_, ok_more hf.2 oy⟩, P8.mono (by omega), (x5.trans x6).trans (((Ext.same sq).trans (Ext.same sq2)).trans x8), hb8⟩
      rw [strLen_append]
      omega
    · rintro σ H5 ⟨o5, f, rfl, hf, P5, x5, hb5⟩
      have hf1 := hf.1
      refine ⟨_, rfl, _, rfl, _, rfl, f, rfl, Nat.le_of_lt (fewL (by have : n.toNat ≤ 9 := by omega
                                                                     omega)), k _ _ (cut_upto f M) (cutS_ok hf.2 _ _) (P5.mono (by omega)) x5⟩

/-- a window that stands once -/
def spNonce : Sp := fun vs H Q _ => ∃ (x : Str) (a b : Nat), vs = [.str x, .int (a : Nat), .int (b : Nat)] ∧ x.length ≤ 100 ∧ (a < b → b ≤ x.length) ∧ ∀ H', Same H H' → Q (.bl (decide (a < b ∧ twB x a b = false))) H'
abbrev s_lnonce : Stmt := top 20
theorem sc_lnonce : FnScope ["_law_text_here", "_law_a", "_law_b"] ["_law_text_here", "_law_a", "_law_b"] (defScope s_lnonce) := ⟨rfl, rfl, rfl, by decide +kernel, rfl, by decide +kernel, by decide +kernel⟩
theorem b_lnonce {f : Addr} {fd : FuncData} (F : Fun K "_law_nonce" "_law_nonce" s_lnonce f fd) (T : Txt mg) (c_lplaces : CalG P w K mg base CX0 1 "_law_places" (spPlaces K)) : FnG P w K mg base CX0 2 f fd ["_law_text_here", "_law_a", "_law_b"] spNonce := by
  refine okG0 F sc_lnonce (fun vs H Q E h => ?_) (fun cdv A outer s H vs Q E hg hr h => ?_)
  · obtain ⟨x, a, b, rfl, _⟩ := h
    rfl
  · have hu := hu_of hr
    have hu64 := hr.units
    obtain ⟨x, a, b, rfl, hx, hb, k⟩ := h
    have hr1 : Room 1 _ := hr
    have xl : x.length ≤ sizeLine := Nat.le_of_lt (fewL (by omega))
    refine ⟨_, (pss_one (ps_ret (pe_and (pe_cmpR op_lt (pv 1) (pv 2) (nomark _)) (pe_one (pe_cmpR op_eq (pe_callB call_len (by rfl) T.len (by decide +kernel) (pa_cons (pe_cG c_lplaces hg hr (by decide) pass0 (pa_cons (pv 0) (pa_cons (pe_slice sl_str (pv 0) (po_some (pv 1)) (po_some (pv 2))) pa_nil))) pa_nil)) pe_int (nomark _)))))), ?_⟩
    refine ⟨_, rfl, _, rfl, _, _, rfl, rfl, _, rfl, ?_⟩
    by_cases hab : a < b
    · rw [decide_eq_true (show ((a : Nat) : Int) < ((b : Nat) : Int) by omega)]
      refine iteT ⟨_, rfl, _, rfl, _, rfl, _, rfl, _, rfl, _, rfl, x, rfl, xl, x, _, rfl, by omega, ?_⟩
      refine ⟨Nat.le_trans (cutS_length _ _ _) (by omega), fun lp H1 _ hp s1 => ⟨_, _, rfl, .inl ⟨_, SqL.of hp, rfl⟩, rfl, ?_⟩⟩
      have hl : ((plcI x (cutS x (some ((a : Nat) : Int)) (some ((b : Nat) : Int)))).map V.int).length = (plc x (cutS x (some ((a : Nat) : Int)) (some ((b : Nat) : Int)))).length := by
        unfold plcI
        rw [List.length_map, List.length_map]
      have q := k H1 s1
      have e : decide (V.int ((((plcI x (cutS x (some ((a : Nat) : Int)) (some ((b : Nat) : Int)))).map V.int).length : Nat) : Int) = V.int 1) = decide (a < b ∧ twB x a b = false) := by
        rw [hl]
        refine decide_eq_decide.mpr (Iff.trans ⟨fun z => ?_, fun z => ?_⟩ (Iff.trans (plc_one (Nat.le_of_lt hab) (hb hab)) ⟨fun z => ⟨hab, z⟩, fun z => z.2⟩))
        · have := V.int.inj z
          omega
        · rw [z]
          rfl
      rw [← e] at q
      exact q
    · rw [decide_eq_false (show ¬ ((a : Nat) : Int) < ((b : Nat) : Int) by omega)]
      refine iteF ?_
      have q := k H (fun _ _ e => e)
      rw [decide_eq_false (fun z => hab z.1)] at q
      exact q

def allW (n k : Nat) : List (Nat × Nat) := (List.range k).flatMap fun a => (List.range' (a + 1) (n - a)).map fun b => (a, b)
theorem allW_succ {n k : Nat} : allW n (k + 1) = allW n k ++ (List.range' (k + 1) (n - k)).map fun b => (k, b) := by
  unfold allW
  rw [List.range_succ, List.flatMap_append]
  simp
theorem allW_len {n : Nat} : ∀ {k : Nat}, (allW n k).length ≤ k * n
  | 0 => by simp [allW]
  | k + 1 => by
    have := allW_len (n := n) (k := k)
    rw [allW_succ, List.length_append, List.length_map, List.length_range', Nat.succ_mul]
    omega
theorem allW_mem {n k : Nat} {p : Nat × Nat} (h : p ∈ allW n k) : p.1 < p.2 ∧ p.2 ≤ n := by
  unfold allW at h
  rw [List.mem_flatMap] at h
  obtain ⟨a, ha, h⟩ := h
  obtain ⟨b, hb, rfl⟩ := List.mem_map.mp h
  have := List.mem_range'_1.mp hb
  exact ⟨by show a < b; omega, by show b ≤ n; omega⟩
def spAround : Sp := fun vs H Q _ => ∃ (x : Str), vs = [.str x, .int (x.length : Nat), .int 0] ∧ x.length ≤ 20 ∧ ∀ (a : Addr) xs H', H a = none → H' a = some (.lst xs) → PrN H' xs (allW x.length (x.length + 1)) → Same H H' → Q (.ref a) H'
/-- what stands when the parts are put -/
def putG (x : Str) : Nat → List (Nat × Nat × Str) → Str → Str
  | p, [], acc => acc ++ cutS x (some (p : Int)) none
  | _, r :: rs, acc => putG x r.2.1 rs acc
def putH (x : Str) : Nat → List (Nat × Nat × Str) → Str → Str
  | p, [], acc => acc ++ cutS x (some (p : Int)) none
  | p, r :: rs, acc => putH x r.2.1 rs (acc ++ cutS x (some (p : Int)) (some (r.1 : Int)) ++ r.2.2)
def spPut : Sp := fun vs H Q _ => ∃ (x : Str) (q : Addr) (xs : List V) (rs : List (Nat × Nat × Str)), vs = [.str x, .ref q] ∧ x.length ≤ 100 ∧ H q = some (.tup xs) ∧ Rw3 H xs rs ∧ rs.length ≤ 100 ∧ (∀ r ∈ rs, r.2.2.length ≤ 100) ∧ ∀ H', Same H H' → Q (.str (putH x 0 rs "")) H'
abbrev s_lnaround : Stmt := top 21
theorem sc_lnaround : FnScope ["_law_text_here", "_law_a", "_law_b", "_law_found", "_law_k", "_law_tip"] ["_law_text_here", "_law_a", "_law_b"] (defScope s_lnaround) := ⟨rfl, rfl, rfl, by decide +kernel, rfl, by decide +kernel, by decide +kernel⟩
theorem b_lnaround {f : Addr} {fd : FuncData} (F : Fun K "_law_naround" "_law_naround" s_lnaround f fd) (T : Txt mg) : FnG P w K mg base CX0 1 f fd ["_law_text_here", "_law_a", "_law_b"] spAround := by
  refine okG0 F sc_lnaround (fun vs H Q E h => ?_) (fun cdv A outer s H vs Q E hg hr h => ?_)
  · obtain ⟨x, rfl, _⟩ := h
    rfl
  · have hu := hu_of hr
    have hu64 := hr.units
    obtain ⟨x, rfl, hx, k⟩ := h
    have xl : x.length ≤ sizeLine := Nat.le_of_lt (fewL (by omega))
    refine ⟨_, (pss_cons (ps_set (i := 3) sc_lnaround.nd rfl (Or.inl rfl) (pe_lst pa_nil))
      (pss_cons (ps_for PassesOwn.never rfl (pi_range1 rfl T.range (pa_cons (pe_op op_add (pv 1) pe_int) pa_nil)) (pg_name (i := 4) sc_lnaround.nd rfl (Or.inr rfl)) (pss_one (ps_expr (pe_bm PySem.F.plainAttrs_list PySem.F.slot_list_extend PySem.F.type_list_extend mt_extend (pv 3) (pa_cons (pe_lc (own := [("_law_tip", 5)]) (g := gName 5) (tt := tYes) rfl sc_lnaround.nd (pi_range2 rfl T.range (pa_cons (pe_callB (call_max2 rfl) (by rfl) T.max (by decide +kernel) (pa_cons (pv 2) (pa_cons (pe_op op_add (pv 4) pe_int) pa_nil))) (pa_cons (pe_op op_add (pe_callB call_len (by rfl) T.len (by decide +kernel) (pa_cons (pv 0) pa_nil)) pe_int) pa_nil))) (blkOk_by (own := [("_law_tip", 5)]) (N := ["_law_text_here", "_law_a", "_law_b", "_law_found", "_law_k", "_law_tip"]) (sc := defScope s_lnaround) (by decide +kernel)) (fun _ _ _ _ _ => (pg_name (i := 5) sc_lnaround.nd rfl (Or.inl rfl))) (fun _ _ _ _ _ => pts_nil) (fun _ _ _ _ _ => (pe_tup (pa_cons (pv 4) (pa_cons (pv 5) pa_nil))))) pa_nil)))))
      (pss_one (ps_ret (pv 3))))), ?_⟩
    refine ⟨by show 0 ≤ sizeLine; decide, fun lr hlr => ?_⟩
    have slr := same_new (o := .lst []) hlr
    refine ⟨_, rfl, _, _, rfl, rfl, _, rfl, by omega, by omega, ?_⟩
    refine for_range (lo := 0) (n := (((x.length : Nat) : Int) + 1).toNat) (fun q σ H' => ∃ (o4 o5 : Option V) (xs : List V), σ = [some (.str x), some (.int (x.length : Nat)), some (.int 0), some (.ref lr), o4, o5] ∧ H' lr = some (.lst xs) ∧ PrN H' xs (allW x.length q) ∧ Same H H') ?_ ?_ ?_
    · exact ⟨_, _, [], rfl, upd_same, .nil, slr⟩
    · rintro q σ H9 hq ⟨o8, o9, xs, rfl, hl9, tr9, s9⟩
      have gl := paired_len tr9
      have gr := allW_len (n := x.length) (k := q)
      rw [Int.zero_add]
      refine ⟨_, rfl, .inl ⟨rfl, _, SqL.of hl9⟩, ?_⟩
      refine ⟨_, rfl, _, rfl, _, _, rfl, rfl, _, _, rfl, _, rfl, _, _, rfl, ⟨xl, rfl⟩, _, _, rfl, rfl, _, _, rfl, ?_⟩
      rw [show (if ((q : Nat) : Int) + 1 > 0 then ((q : Nat) : Int) + 1 else 0) = ((q : Nat) : Int) + 1 from if_pos (by omega)]
      refine ⟨⟨by omega, by omega, by omega, by omega⟩, fun D hD => ?_⟩
      have sD := same_new (o := .lst []) hD
      refine lc_range (lo := (q : Int) + 1) (n := (((x.length : Nat) : Int) + 1 - ((q : Int) + 1)).toNat) (fun j H' => ∃ us, H' D = some (.lst us) ∧ PrN H' us ((List.range' (q + 1) j).map fun b => (q, b)) ∧ Same H9 H') ?_ ?_ ?_
      · exact ⟨[], upd_same, .nil, sD⟩
      · rintro j H10 hj ⟨us, hD10, tr10, s10⟩
        have gu := paired_len tr10
        rw [List.length_map, List.length_range'] at gu
        have eb : ((q : Nat) : Int) + 1 + (j : Nat) = ((q + 1 + j : Nat) : Int) := by omega
        rw [eb]
        refine ⟨rfl, _, rfl, _, rfl, by show 2 ≤ sizeLine; decide, fun u hu => ?_⟩
        have su := same_new (o := .tup [.int ((q : Nat) : Int), .int ((q + 1 + j : Nat) : Int)]) hu
        have hDu := su _ _ hD10
        refine ⟨_, hDu, fewL (by omega), us ++ [.ref u], upd_same, ?_, upd_out hD (s10.trans su)⟩
        rw [List.range'_concat, List.map_append, Nat.one_mul]
        exact Paired.snoc ((tr10.keep su).keepT (upd_list hDu)) ⟨u, rfl, upd_list hDu _ _ upd_same⟩
      · rintro H10 ⟨us, hD10, tr10, s10⟩
        have hl10 := s10 _ _ hl9
        have gu := paired_len tr10
        rw [List.length_map, List.length_range'] at gu
        have gq : q * x.length ≤ 20 * 20 := Nat.mul_le_mul (by omega) hx
        refine ⟨lr, D, _, _, rfl, rfl, hl10, hD10, Nat.le_of_lt (fewL (by omega)), ?_⟩
        refine ⟨_, _, xs ++ us, rfl, upd_same, ?_, upd_out hlr (s9.trans s10)⟩
        rw [show (((x.length : Nat) : Int) + 1 - ((q : Int) + 1)).toNat = x.length - q by omega] at tr10
        rw [allW_succ]
        have pp : PrN H10 (xs ++ us) _ := paired_app (tr9.keep s10) tr10
        exact pp.keepT (upd_list hl10)
    · rintro σ H9 ⟨o8, o9, xs, rfl, hl9, tr9, s9⟩
      rw [show (((x.length : Nat) : Int) + 1).toNat = x.length + 1 by omega] at tr9
      exact ⟨_, rfl, k lr xs H9 hlr hl9 tr9 s9⟩

abbrev s_lnput : Stmt := top 22
theorem sc_lnput : FnScope ["_law_text_here", "_law_rows", "_law_found", "_law_behind", "_law_a", "_law_b", "_law_fresh"] ["_law_text_here", "_law_rows"] (defScope s_lnput) := ⟨rfl, rfl, rfl, by decide +kernel, rfl, by decide +kernel, by decide +kernel⟩
theorem b_lnput {f : Addr} {fd : FuncData} (F : Fun K "_law_nput" "_law_nput" s_lnput f fd) (T : Txt mg) : FnG P w K mg base CX0 1 f fd ["_law_text_here", "_law_rows"] spPut := by
  refine okG0 F sc_lnput (fun vs H Q E h => ?_) (fun cdv A outer s H vs Q E hg hr h => ?_)
  · obtain ⟨x, q, xs, rs, rfl, _⟩ := h
    rfl
  · have hu := hu_of hr
    have hu64 := hr.units
    obtain ⟨x, q, xs, rs, rfl, hx, hq, rw0, hl, hz, k⟩ := h
    have xl : x.length ≤ sizeLine := Nat.le_of_lt (fewL (by omega))
    have glen := paired_len rw0
    refine ⟨_, (pss_cons (ps_asg (pe_tup (pa_cons pe_str (pa_cons pe_int pa_nil))) (pg_tup rfl (pgs_cons (pg_name (i := 2) sc_lnput.nd rfl (Or.inl rfl)) (pgs_cons (pg_name (i := 3) sc_lnput.nd rfl (Or.inl rfl)) pgs_nil))))
      (pss_cons (ps_for PassesOwn.never rfl (pi_tup (pv 1)) (pg_tup rfl (pgs_cons (pg_name (i := 4) sc_lnput.nd rfl (Or.inl rfl)) (pgs_cons (pg_name (i := 5) sc_lnput.nd rfl (Or.inl rfl)) (pgs_cons (pg_name (i := 6) sc_lnput.nd rfl (Or.inl rfl)) pgs_nil)))) (pss_cons (ps_set (i := 2) sc_lnput.nd rfl (Or.inl rfl) (pe_op op_add_str (pe_op op_add_str (pv 2) (pe_slice sl_str (pv 0) (po_some (pv 3)) (po_some (pv 4)))) (pv 6)))
      (pss_one (ps_set (i := 3) sc_lnput.nd rfl (Or.inl rfl) (pv 5)))))
      (pss_one (ps_ret (pe_op op_add_str (pv 2) (pe_slice sl_str (pv 0) (po_some (pv 3)) po_none)))))), ?_⟩
    refine ⟨by show 2 ≤ sizeLine; decide, fun t0 ht0 => ?_⟩
    have st0 := same_new (o := .tup [.str "", .int 0]) ht0
    refine ⟨t0, _, rfl, SqT.of upd_same, rfl, _, _, rfl, _, _, rfl, rfl, ?_⟩
    refine ⟨_, rfl, q, rfl, ⟨_, SqT.of (st0 _ _ hq)⟩, ?_⟩
    refine for_tup (xs := xs) (fun i σ H' => ∃ (p : Nat) (acc : Str) (o4 o5 o6 : Option V), σ = [some (.str x), some (.ref q), some (.str acc), some (.int (p : Nat)), o4, o5, o6] ∧ Same H H' ∧ acc.length ≤ 200 * i ∧ putH x p (rs.drop i) acc = putH x 0 rs "") ?_ ?_ ?_ ?_
    · exact ⟨0, "", _, _, _, rfl, st0, Nat.zero_le _, rfl⟩
    · rintro i σ H2 _ ⟨p, acc, o4, o5, o6, rfl, s2, _, _⟩
      exact SqT.of (s2 _ _ hq)
    · rintro i v σ H2 hv ⟨p, acc, o4, o5, o6, rfl, s2, al, he⟩
      obtain ⟨r, hr1, t, rfl, ht⟩ := paired_at rw0 hv
      have hi := (List.getElem?_eq_some_iff.mp hr1).1
      have hz1 := hz r (List.mem_of_getElem? hr1)
      have c1 : (cutS x (some ((p : Nat) : Int)) (some ((r.1 : Nat) : Int))).length ≤ 100 := Nat.le_trans (cutS_length _ _ _) hx
      rw [drop_at hr1] at he
      refine ⟨t, _, rfl, SqT.of (s2 _ _ ht), rfl, _, _, rfl, _, _, rfl, _, _, rfl, rfl, ?_⟩
      refine ⟨_, rfl, _, rfl, _, rfl, _, rfl, _, rfl, _, rfl, x, rfl, xl, _, _, rfl, rfl, Nat.le_of_lt (fewL (by omega)), _, rfl, _, _, rfl, rfl, Nat.le_of_lt (fewL (by rw [strLen_append]; omega)), _, rfl, ?_⟩
      exact ⟨r.2.1, _, _, _, _, rfl, s2, by rw [strLen_append, strLen_append]; omega, he⟩
    · rintro σ H2 ⟨p, acc, o4, o5, o6, rfl, s2, al, he⟩
      rw [List.drop_of_length_le (by omega)] at he
      have c1 : (cutS x (some ((p : Nat) : Int)) none).length ≤ 100 := Nat.le_trans (cutS_length _ _ _) hx
      refine ⟨_, rfl, _, rfl, _, rfl, _, rfl, x, rfl, xl, _, _, rfl, rfl, Nat.le_of_lt (fewL (by omega)), ?_⟩
      have q := k H2 s2
      rw [← he] at q
      exact q

end
end Vk
set_option Elab.async false
set_option maxRecDepth 100000
set_option linter.all false
set_option maxHeartbeats 4000000
namespace Vk
open PySem PySem.Spec PyProof.Rows L2
section
variable {P : Program} {w : World} {K : PySem.W.Frag} {mg : Str → Option Value} {base : Heap}
theorem pen_tup {H H1 : Hp} {p c : Addr} {T : Nat} (q : Pen H p c T) (x : Ext p H H1) : ∀ u ws, H u = some (.tup ws) → H1 u = some (.tup ws) := fun u ws h => x u _ h fun e => by
  obtain ⟨t, l, z⟩ := q.is
  rw [e, z] at h
  cases h
def spDrawn : Sp := fun vs H Q _ => ∃ (p c : Addr) (x z : Str) (T : Nat), vs = [.ref p, .str x, .str z] ∧ x.length ≤ 10 ∧ PyData.strOk x = true ∧ Few z ∧ Pen H p c T ∧ T + 1000 < 1000000000 ∧
  ∀ (q : Addr) xs rs H', H' q = some (.tup xs) → Rw3 H' xs rs → OkR x.length 0 rs → rs.length ≤ 5 → (∀ r ∈ rs, r.2.2.length ≤ 20 ∧ PyData.strOk r.2.2 = true) → Pen H' p c (T + 100) → Ext p H H' → Q (.ref q) H'
abbrev s_lndrawn : Stmt := top 23
theorem sc_lndrawn : FnScope ["_law_pen_here", "_law_text_here", "_law_signs_here", "_law_rows", "_law_behind", "_law_k", "_law_spans", "_law_span", "_law_a", "_law_b", "_law_same", "_law_some"] ["_law_pen_here", "_law_text_here", "_law_signs_here"] (defScope s_lndrawn) := ⟨rfl, rfl, rfl, by decide +kernel, rfl, by decide +kernel, by decide +kernel⟩
theorem b_lndrawn {f : Addr} {fd : FuncData} (F : Fun K "_law_ndrawn" "_law_ndrawn" s_lndrawn f fd) (T : Txt mg) (c_ldraw : CalG P w K mg base CX0 1 "_law_draw" spDraw) (c_lpick : CalG P w K mg base CX0 2 "_law_pick" (spPick K)) (c_lword : CalG P w K mg base CX0 3 "_law_word" spWord) (c_lnonce : CalG P w K mg base CX0 2 "_law_nonce" spNonce) (c_lnaround : CalG P w K mg base CX0 1 "_law_naround" spAround) : FnG P w K mg base CX0 4 f fd ["_law_pen_here", "_law_text_here", "_law_signs_here"] spDrawn := by
  refine okG0 F sc_lndrawn (fun vs H Q E h => ?_) (fun cdv A outer s H vs Q E hg hr h => ?_)
  · obtain ⟨p, pc, x, z, T0, rfl, _⟩ := h
    rfl
  · have hu := hu_of hr
    have hu64 := hr.units
    obtain ⟨p, pc, x, z, T0, rfl, hx, okx, fz, hpen, hT, k⟩ := h
    have hr3 : Room 3 _ := hr
    have xl : x.length ≤ sizeLine := Nat.le_of_lt (fewL (by omega))
    have z100 : z.length ≤ 1000 := Nat.le_trans fz.2.1 (by decide)
    refine ⟨_, (pss_cons (ps_asg (pe_tup (pa_cons (pe_lst pa_nil) (pa_cons pe_int pa_nil))) (pg_tup rfl (pgs_cons (pg_name (i := 3) sc_lndrawn.nd rfl (Or.inl rfl)) (pgs_cons (pg_name (i := 4) sc_lndrawn.nd rfl (Or.inr rfl)) pgs_nil))))
      (pss_cons (ps_for PassesOwn.never rfl (pi_range1 rfl T.range (pa_cons (pe_cG c_ldraw hg hr (by decide) pass0 (pa_cons (pv 0) (pa_cons pe_int pa_nil))) pa_nil)) (pg_name (i := 5) sc_lndrawn.nd rfl (Or.inl rfl)) (pss_cons (ps_setLc (i := 6) (own := [("_law_span", 7)]) (g := gName 7) rfl sc_lndrawn.nd rfl rfl (sw_true rfl rfl rfl (by decide +kernel)) (pi_list (pe_cG c_lnaround hg hr (by decide) pass0 (pa_cons (pv 1) (pa_cons (pe_callB call_len (by rfl) T.len (by decide +kernel) (pa_cons (pv 1) pa_nil)) (pa_cons pe_int pa_nil))))) (blkOk_by (own := [("_law_span", 7)]) (N := ["_law_pen_here", "_law_text_here", "_law_signs_here", "_law_rows", "_law_behind", "_law_k", "_law_spans", "_law_span", "_law_a", "_law_b", "_law_same", "_law_some"]) (sc := defScope s_lndrawn) (by decide +kernel)) (fun _ _ _ _ _ => (pg_name (i := 7) sc_lndrawn.nd rfl (Or.inl rfl))) (fun _ _ _ _ _ => (pts_one (pt_cmpR op_ge (pe_ix (ix_tupK (K := K) rfl) (pv 7) pe_int (fun _ _ => rfl)) (pv 4) (nomark _)))) (fun _ _ _ _ _ => (pv 7)))
      (pss_cons (ps_setLc (i := 6) (own := [("_law_span", 7)]) (g := gName 7) rfl sc_lndrawn.nd rfl rfl (sw_true rfl rfl rfl (by decide +kernel)) (pi_list (pv 6)) (blkOk_by (own := [("_law_span", 7)]) (N := ["_law_pen_here", "_law_text_here", "_law_signs_here", "_law_rows", "_law_behind", "_law_k", "_law_spans", "_law_span", "_law_a", "_law_b", "_law_same", "_law_some"]) (sc := defScope s_lndrawn) (by decide +kernel)) (fun _ _ _ _ _ => (pg_name (i := 7) sc_lndrawn.nd rfl (Or.inl rfl))) (fun _ _ _ _ _ => (pts_one (pt_val (pe_cG c_lnonce hg hr (by decide) pass0 (pa_cons (pv 1) (pa_cons (pe_ix (ix_tupK (K := K) rfl) (pv 7) pe_int (fun _ _ => rfl)) (pa_cons (pe_ix (ix_tupK (K := K) rfl) (pv 7) pe_int (fun _ _ => rfl)) pa_nil))))))) (fun _ _ _ _ _ => (pv 7)))
      (pss_one (ps_if (pt_cmpR (op_neD hu64) (pv 6) (pe_lst pa_nil) (nomark _)) (pss_cons (ps_asg (pe_cG c_lpick hg hr (by decide) pass0 (pa_cons (pv 0) (pa_cons (pe_slice sl_list (pv 6) po_none (po_some (pe_op op_add pe_int (pe_cG c_ldraw hg hr (by decide) pass0 (pa_cons (pv 0) (pa_cons (pe_callB call_len (by rfl) T.len (by decide +kernel) (pa_cons (pv 6) pa_nil)) pa_nil)))))) pa_nil))) (pg_tup rfl (pgs_cons (pg_name (i := 8) sc_lndrawn.nd rfl (Or.inl rfl)) (pgs_cons (pg_name (i := 9) sc_lndrawn.nd rfl (Or.inl rfl)) pgs_nil))))
      (pss_cons (ps_set (i := 10) sc_lndrawn.nd rfl (Or.inl rfl) (pe_slice sl_str (pv 1) (po_some (pv 8)) (po_some (pv 9))))
      (pss_cons (ps_set (i := 11) sc_lndrawn.nd rfl (Or.inl rfl) (pe_lst (pa_cons (pe_cG c_lword hg hr (by decide) pass0 (pa_cons (pv 0) (pa_cons (pv 2) (pa_cons pe_int (pa_cons pe_int pa_nil))))) (pa_cons (pv 10) (pa_cons (pe_op op_add_str (pe_slice sl_str (pv 10) po_none (po_some pe_int)) (pe_slice sl_str (pv 10) (po_some pe_int) po_none)) (pa_cons (pe_op op_add_str (pe_slice sl_str (pv 10) (po_some pe_int) po_none) pe_str) pa_nil))))))
      (pss_cons (ps_expr (pe_bm PySem.F.plainAttrs_list PySem.F.slot_list_append PySem.F.type_list_append mt_append (pv 3) (pa_cons (pe_tup (pa_cons (pv 8) (pa_cons (pv 9) (pa_cons (pe_cG c_lpick hg hr (by decide) pass0 (pa_cons (pv 0) (pa_cons (pv 11) pa_nil))) pa_nil)))) pa_nil)))
      (pss_one (ps_set (i := 4) sc_lndrawn.nd rfl (Or.inr rfl) (pv 9))))))) pss_nil)))))
      (pss_one (ps_ret (pe_callTy call_tuple_of (by rfl) T.tuple (by decide +kernel) (pa_cons (pv 3) pa_nil)))))), ?_⟩
    refine ⟨by show 0 ≤ sizeLine; decide, fun lr hlr => ?_⟩
    have slr := same_new (o := .lst []) hlr
    refine ⟨by show 2 ≤ sizeLine; decide, fun t0 ht0 => ?_⟩
    have st0 := same_new (o := .tup [.ref lr, .int 0]) ht0
    have P1 := (hpen.stay slr).stay st0
    refine ⟨t0, _, rfl, SqT.of upd_same, rfl, _, _, rfl, _, _, rfl, rfl, ?_⟩
    refine ⟨_, rfl, p, pc, 5, _, rfl, by decide, by decide, P1, by omega, fun n H2 n0 n1 P2 x2 => ?_⟩
    have hl2 := P1.keepI x2 (st0 _ _ upd_same)
    have x02 : Ext p H H2 := ((Ext.same slr).trans (Ext.same st0)).trans x2
    refine ⟨_, rfl, by omega, by omega, ?_⟩
    refine for_range (lo := 0) (n := n.toNat) (fun i σ H' => ∃ (be : Nat) (xs : List V) (rs : List (Nat × Nat × Str)) (o5 o6 o7 o8 o9 o10 o11 : Option V), σ = [some (.ref p), some (.str x), some (.str z), some (.ref lr), some (.int (be : Nat)), o5, o6, o7, o8, o9, o10, o11] ∧ H' lr = some (.lst xs) ∧ Rw3 H' xs rs ∧ OkR x.length 0 rs ∧ endR 0 rs = be ∧ rs.length ≤ i ∧ (∀ r ∈ rs, r.2.2.length ≤ 20 ∧ PyData.strOk r.2.2 = true) ∧ Pen H' p pc (T0 + 1 + 19 * i) ∧ Ext p H H') ?_ ?_ ?_
    · exact ⟨0, [], [], _, _, _, _, _, _, _, rfl, hl2, .nil, trivial, rfl, Nat.le_refl _, (fun r h => by cases h), P2, x02⟩
    · rintro i σ H3 hi ⟨be, xs, rs, o5, o6, o7, o8, o9, o10, o11, rfl, hl3, rw3, ok3, en3, le3, w3, P3, x3⟩
      refine ⟨_, rfl, _, rfl, _, _, rfl, ⟨xl, rfl⟩, x, rfl, by omega, fun la xa H4 hla hla4 pa s4 => ?_⟩
      refine ⟨la, rfl, ⟨_, SqL.of hla4⟩, fun D hD => ?_⟩
      have sD := same_new (o := .lst []) hD
      have ga := allW_len (n := x.length) (k := x.length + 1)
      have ga2 : (x.length + 1) * x.length ≤ 11 * 10 := Nat.mul_le_mul (by omega) hx
      have gxa := paired_len pa
      have P4 := P3.stay s4
      have hl4 := s4 _ _ hl3
      refine lc_list (K := K) (a := la) (xs := xa) (fun n H' => ∃ us ws, H' D = some (.lst us) ∧ PrN H' us ws ∧ (∀ r ∈ ws, be ≤ r.1 ∧ r.1 < r.2 ∧ r.2 ≤ x.length) ∧ ws.length ≤ n ∧ Same H4 H') ?_ ?_ ?_ ?_
      · exact ⟨[], [], upd_same, .nil, (fun r h => by cases h), Nat.le_refl _, sD⟩
      · rintro n H' _ ⟨_, _, _, _, _, _, sm⟩
        exact SqL.of (sm _ _ hla4)
      · rintro n v H' hv ⟨us, ws, hDz, pu, ok, le, sm⟩
        obtain ⟨r, hr1, t, rfl, ht⟩ := paired_at pa hv
        have hn := (List.getElem?_eq_some_iff.mp hr1).1
        have hw := allW_mem (List.mem_of_getElem? hr1)
        have gu := paired_len pu
        refine ⟨rfl, _, rfl, t, _, _, _, rfl, rfl, SqT.of (sm _ _ ht), rfl, _, rfl, _, _, rfl, rfl, _, rfl, ?_⟩
        by_cases c : be ≤ r.1
        · rw [decide_eq_true (show ((be : Nat) : Int) ≤ ((r.1 : Nat) : Int) by omega)]
          refine iteT ⟨_, rfl, _, hDz, fewL (by omega), us ++ [.ref t], ws ++ [r], upd_same, Paired.snoc (pu.keepT (upd_list hDz)) ⟨t, rfl, upd_list hDz _ _ (sm _ _ ht)⟩, fun r' h' => ?_, by rw [List.length_append]; exact Nat.add_le_add_right le 1, upd_out hD sm⟩
          rcases List.mem_append.mp h' with h' | h'
          · exact ok r' h'
          · rw [List.mem_singleton.mp h']
            exact ⟨c, hw.1, hw.2⟩
        · rw [decide_eq_false (show ¬ ((be : Nat) : Int) ≤ ((r.1 : Nat) : Int) by omega)]
          exact iteF ⟨us, ws, hDz, pu, ok, by omega, sm⟩
      rintro H5 ⟨us, ws, hD5, pu, ok5, le5, s5⟩
      have P5 := P4.stay s5
      have hl5 := s5 _ _ hl4
      have gu := paired_len pu
      -- those that stand once
      refine ⟨_, rfl, D, rfl, ⟨_, SqL.of hD5⟩, fun D2 hD2 => ?_⟩
      have sD2 := same_new (o := .lst []) hD2
      refine lc_list (K := K) (a := D) (xs := us) (fun n H' => ∃ us' ws', H' D2 = some (.lst us') ∧ PrN H' us' ws' ∧ (∀ r ∈ ws', be ≤ r.1 ∧ r.1 < r.2 ∧ r.2 ≤ x.length) ∧ ws'.length ≤ n ∧ Same H5 H') ?_ ?_ ?_ ?_
      · exact ⟨[], [], upd_same, .nil, (fun r h => by cases h), Nat.le_refl _, sD2⟩
      · rintro n H' _ ⟨_, _, _, _, _, _, sm⟩
        exact SqL.of (sm _ _ hD5)
      · rintro n v H' hv ⟨us', ws', hDz, pu', ok', le', sm⟩
        obtain ⟨r, hr1, t, rfl, ht⟩ := paired_at pu hv
        have hn := (List.getElem?_eq_some_iff.mp hr1).1
        have hw := ok5 r (List.mem_of_getElem? hr1)
        have gu' := paired_len pu'
        refine ⟨rfl, _, rfl, _, rfl, t, _, _, _, rfl, rfl, SqT.of (sm _ _ ht), rfl, _, rfl, t, _, _, _, rfl, rfl, SqT.of (sm _ _ ht), rfl, x, r.1, r.2, rfl, by omega, fun _ => hw.2.2, fun H'' s'' => ⟨_, rfl, ?_⟩⟩
        have hDz2 := s'' _ _ hDz
        have pu2 := pu'.keep s''
        have sm2 := sm.trans s''
        by_cases c : r.1 < r.2 ∧ twB x r.1 r.2 = false
        · rw [decide_eq_true c]
          refine iteT ⟨_, rfl, _, hDz2, fewL (by omega), us' ++ [.ref t], ws' ++ [r], upd_same, Paired.snoc (pu2.keepT (upd_list hDz2)) ⟨t, rfl, upd_list hDz2 _ _ (sm2 _ _ ht)⟩, fun r' h' => ?_, by rw [List.length_append]; exact Nat.add_le_add_right le' 1, upd_out hD2 sm2⟩
          rcases List.mem_append.mp h' with h' | h'
          · exact ok' r' h'
          · rw [List.mem_singleton.mp h']
            exact hw
        · rw [decide_eq_false c]
          exact iteF ⟨us', ws', hDz2, pu2, ok', by omega, sm2⟩
      rintro H6 ⟨us6, ws6, hD6, pu6, ok6, le6, s6⟩
      have P6 := P5.stay s6
      have hl6 := s6 _ _ hl5
      have rw6 := ((rw3.keep s4).keep s5).keep s6
      have gu6 := paired_len pu6
      refine ⟨_, rfl, by show 0 ≤ sizeLine; decide, fun qe hqe => ?_⟩
      have sqe := same_new (o := .lst []) hqe
      refine ⟨_, _, .lst (SqL.of (sqe _ _ hD6)) (prs_dp (pu6.keep sqe)), .lst (SqL.of upd_same) .nil, pDs_shaped _, by decide, _, rfl, ?_⟩
      rw [pDs_nil]
      have P7 := P6.stay sqe
      have hl7 := sqe _ _ hl6
      have rw7 := rw6.keep sqe
      have pu7 := pu6.keep sqe
      have hD7 := sqe _ _ hD6
      have x7 : Ext p H _ := x3.trans ((Ext.same (((s4.trans s5).trans s6))).trans (Ext.same sqe))
      generalize upd H6 qe (.lst []) = H7 at P7 hl7 rw7 pu7 hD7 x7 ⊢
      have lxs := paired_len rw7
      by_cases ne : ws6 = []
      · rw [ne]
        exact iteF ⟨be, xs, rs, _, _, _, _, _, _, _, rfl, hl7, rw7, ok3, en3, by omega, w3, P7.mono (by omega), x7⟩
      rw [show ws6.isEmpty = false by cases ws6 with | nil => exact absurd rfl ne | cons _ _ => rfl]
      have upos : 0 < us6.length := by rw [gu6]; exact List.length_pos_iff.mpr ne
      refine iteT ?_
      refine ⟨_, rfl, _, rfl, _, rfl, _, rfl, _, _, rfl, .inl ⟨_, SqL.of hD7, rfl⟩, p, pc, _, _, rfl, by omega, by omega, P7, by omega, fun d H8 d0 d1 P8 x8 => ?_⟩
      have hD8 := P7.keepI x8 hD7
      have ed : (1 : Int) + d = ((1 + d.toNat : Nat) : Int) := by omega
      refine ⟨_, _, rfl, rfl, _, rfl, D2, us6, rfl, SqL.of hD8, fun q hq => ?_⟩
      rw [ed, cutV_take]
      have sq := same_new (o := .lst (us6.take (1 + d.toNat))) hq
      have P9 := P8.stay sq
      have ltk : (us6.take (1 + d.toNat)).length ≤ us6.length := List.length_take_le' _ _
      refine ⟨p, pc, _, _, _, rfl, .lst (SqL.of upd_same), (fun z => by
        have := congrArg List.length z
        rw [List.length_take, List.length_nil] at this
        omega), by omega, P9, by omega, fun v H10 hv P10 x10 => ?_⟩
      have hv6 := List.mem_of_mem_take hv
      obtain ⟨r, hr6, t, rfl, ht7⟩ := paired_mem pu7 hv6
      have hw := ok6 r hr6
      have tt : ∀ u ws, H7 u = some (.tup ws) → H10 u = some (.tup ws) := fun u ws h => pen_tup P9 x10 u ws (sq _ _ (pen_tup P7 x8 u ws h))
      have hl10 := P9.keepI x10 (sq _ _ (P7.keepI x8 hl7))
      have rw10 := rw7.keepT tt
      have xx10 : Ext p H H10 := (x7.trans x8).trans ((Ext.same sq).trans x10)
      refine ⟨t, _, rfl, SqT.of (tt _ _ ht7), rfl, _, _, rfl, _, _, rfl, rfl, ?_⟩
      refine ⟨_, rfl, _, rfl, _, rfl, _, rfl, _, rfl, x, rfl, xl, ?_⟩
      have lcs : (cutS x (some ((r.1 : Nat) : Int)) (some ((r.2 : Nat) : Int))).length ≤ 10 := Nat.le_trans (cutS_length _ _ _) hx
      have okcs := cutS_ok okx (some ((r.1 : Nat) : Int)) (some ((r.2 : Nat) : Int))
      generalize cutS x (some ((r.1 : Nat) : Int)) (some ((r.2 : Nat) : Int)) = cs at lcs okcs
      have csL : cs.length ≤ sizeLine := Nat.le_of_lt (fewL (by omega))
      refine ⟨_, rfl, _, rfl, p, pc, z, 0, 3, _, rfl, by decide, by decide, fz.1, z100, P10, by omega, fun w1 H11 ww P11 x11 => ?_⟩
      have w1l : w1.length ≤ 3 := ww.2.1
      have c1 : (cutS cs none (some 1)).length ≤ 10 := Nat.le_trans (cutS_length _ _ _) lcs
      have c2 : (cutS cs (some 2) none).length ≤ 10 := Nat.le_trans (cutS_length _ _ _) lcs
      have c3 : (cutS cs (some 1) none).length ≤ 10 := Nat.le_trans (cutS_length _ _ _) lcs
      have q1 : (Str.ofString "q").length = 1 := rfl
      refine ⟨_, rfl, _, rfl, 1, rfl, cs, rfl, csL, _, rfl, 2, rfl, cs, rfl, csL, _, _, rfl, rfl, Nat.le_of_lt (fewL (by omega)), _, rfl, 1, rfl, cs, rfl, csL, _, _, rfl, rfl, Nat.le_of_lt (fewL (by omega)), by show 4 ≤ sizeLine; decide, fun b hb => ?_⟩
      have sb := same_new (o := .lst [.str w1, .str cs, .str (cutS cs none (some 1) ++ cutS cs (some 2) none), .str (cutS cs (some 1) none ++ Str.ofString "q")]) hb
      have P12 := P11.stay sb
      have hl12 := sb _ _ (P10.keepI x11 hl10)
      have rw12 := (rw10.keepT (pen_tup P10 x11)).keep sb
      refine ⟨_, rfl, .inl ⟨rfl, _, SqL.of hl12⟩, _, rfl, _, rfl, _, rfl, _, rfl, p, pc, _, _, _, rfl, .lst (SqL.of upd_same), (fun z => by cases z), by show 4 ≤ 1000; decide, P12, by omega, fun v H13 hv2 P13 x13 => ?_⟩
      have ev : ∃ y : Str, v = .str y ∧ y.length ≤ 20 ∧ PyData.strOk y = true := by
        simp only [List.mem_cons, List.not_mem_nil, or_false] at hv2
        rcases hv2 with rfl | rfl | rfl | rfl
        · exact ⟨w1, rfl, by omega, ok_word fz ww⟩
        · exact ⟨cs, rfl, by omega, okcs⟩
        · exact ⟨_, rfl, by rw [strLen_append]; omega, ok_more (cutS_ok okcs _ _) (cutS_ok okcs _ _)⟩
        · exact ⟨_, rfl, by rw [strLen_append]; omega, ok_more (cutS_ok okcs _ _) (by decide +kernel)⟩
      obtain ⟨y, rfl, hy⟩ := ev
      refine ⟨by show 3 ≤ sizeLine; decide, fun u hu => ?_⟩
      have su := same_new (o := .tup [.int (r.1 : Nat), .int (r.2 : Nat), .str y]) hu
      have hl14 := su _ _ (P12.keepI x13 hl12)
      have rw14 := (rw12.keepT (pen_tup P12 x13)).keep su
      have P14 := P13.stay su
      refine ⟨lr, _, _, rfl, rfl, hl14, fewL (by omega), ?_⟩
      have ap := hpen.apart hlr
      have xx14 : Ext p H _ := (((xx10.trans x11).trans (Ext.same sb)).trans x13).trans (Ext.same su)
      refine ⟨_, rfl, r.2, xs ++ [.ref u], rs ++ [(r.1, r.2, y)], _, _, _, _, _, _, _, rfl, upd_same, ?_, okR_snoc ok3 (by rw [en3]; exact hw.1) hw.2.1 hw.2.2, endR_snoc, ?_, fun r' h' => ?_, (P14.set ap.1 ap.2).mono (by omega), xx14.set hlr⟩
      · exact Paired.snoc (rw14.keepT (upd_list hl14)) ⟨u, rfl, upd_list hl14 _ _ upd_same⟩
      · rw [List.length_append]
        exact Nat.add_le_add_right le3 1
      · rcases List.mem_append.mp h' with h' | h'
        · exact w3 r' h'
        · rw [List.mem_singleton.mp h']
          exact hy
    · rintro σ H3 ⟨be, xs, rs, o5, o6, o7, o8, o9, o10, o11, rfl, hl3, rw3, ok3, en3, le3, w3, P3, x3⟩
      refine ⟨_, rfl, lr, xs, rfl, .inl ⟨SqL.of hl3, fun q hq => ?_⟩⟩
      have sq := same_new (o := .tup xs) hq
      exact k q xs rs _ upd_same (rw3.keep sq) ok3 (by omega) w3 ((P3.stay sq).mono (by omega)) (x3.trans (Ext.same sq))

end
end Vk
set_option Elab.async false
set_option maxRecDepth 100000
set_option linter.all false
set_option maxHeartbeats 4000000
namespace Vk
open PySem PySem.Spec PyProof.Rows L2
section
variable {P : Program} {w : World} {K : PySem.W.Frag} {mg : Str → Option Value} {base : Heap}
theorem strE0 {x : Str} : decide (V.str x = V.str "") = decide (x.length = 0) := by
  by_cases h : x.length = 0
  · rw [decide_eq_true h]
    refine decide_eq_true ?_
    have : x = "" := by
      obtain ⟨c⟩ := x
      have : c = #[] := Array.eq_empty_of_size_eq_zero h
      rw [this]
      rfl
    rw [this]
  · rw [decide_eq_false h]
    refine decide_eq_false fun e => h ?_
    rw [V.str.inj e]
    rfl
theorem or_bothH {c : Bool} {T B : Prop} (R : Hp → Prop) (G : Hp → Prop) (h : ∀ H, G H → R H) (h1 : c = true → (∀ H, G H → R H) → T) (h2 : c = false → (∀ H, G H → R H) → B) : if c = true then T else B := by
  cases c with
  | true => exact h1 rfl h
  | false => exact h2 rfl h
theorem at_last {w : Str} (h : 0 < w.length) : atI w.cps.toList (-1) = some (ltr w (w.length - 1)) := by
  have lw : w.cps.toList.length = w.length := Array.length_toList
  have hv : w.cps.toList[w.length - 1]? = some (ltr w (w.length - 1)) := by
    unfold ltr
    rw [List.getD_eq_getElem?_getD, List.getElem?_eq_getElem (by omega)]
    rfl
  have e : w.cps.toList = w.cps.toList.take (w.length - 1) ++ [ltr w (w.length - 1)] := by
    have := List.take_append_drop (w.length - 1) w.cps.toList
    rw [drop_at hv, List.drop_of_length_le (by omega)] at this
    exact this.symm
  rw [e]
  exact atI_last _ _
theorem at_first {w : Str} (h : 0 < w.length) : atI w.cps.toList 0 = some (ltr w 0) := at_ltr (i := 0) h
abbrev s_lnthin : Stmt := top 25
theorem sc_lnthin : FnScope ["_law_here", "_law_a", "_law_b", "_law_fresh"] ["_law_here", "_law_a", "_law_b", "_law_fresh"] (defScope s_lnthin) := ⟨rfl, rfl, rfl, by decide +kernel, rfl, by decide +kernel, by decide +kernel⟩
theorem b_lnthin {f : Addr} {fd : FuncData} (F : Fun K "_law_nthin" "_law_nthin" s_lnthin f fd) (T : Txt mg) (c_lnonce : CalG P w K mg base CX0 2 "_law_nonce" spNonce) : FnG P w K mg base CX0 3 f fd ["_law_here", "_law_a", "_law_b", "_law_fresh"] spThin := by
  refine okG0 F sc_lnthin (fun vs H Q E h => ?_) (fun cdv A outer s H vs Q E hg hr h => ?_)
  · obtain ⟨x, a, b, z, rfl, _⟩ := h
    rfl
  · have hu := hu_of hr
    have hu64 := hr.units
    obtain ⟨x, a, b, z, rfl, hab, hb, hx, hz, k⟩ := h
    have hr2 : Room 2 _ := hr
    have xl : x.length ≤ sizeLine := Nat.le_of_lt (fewL (by omega))
    refine ⟨_, (pss_cons (ps_while PassesOwn.never (PW.pt (pw_and (pt_cmpR op_ne (pv 3) pe_str (nomark _)) (pw_and (pt_cmpR op_gt (pe_op op_sub (pv 2) (pv 1)) pe_int (nomark _)) (pw_and (pt_cmpR op_eq (pe_ix ix_seq (pv 0) (pe_op op_sub (pv 2) pe_int) (fun _ _ => rfl)) (pe_ix ix_seq (pv 3) (pe_un un_neg pe_int) (fun _ _ => rfl)) (nomark _)) (pw_and1 (pt_val (pe_cG c_lnonce hg hr (by decide) pass0 (pa_cons (pv 0) (pa_cons (pv 1) (pa_cons (pe_op op_sub (pv 2) pe_int) pa_nil)))))))))) (pss_one (ps_par (i := 2) (j := 3) (by rfl) sc_lnthin.nd rfl rfl (by decide) rfl rfl (pa_cons (pe_op op_sub (pv 2) pe_int) (pa_cons (pe_slice sl_str (pv 3) po_none (po_some (pe_un un_neg pe_int))) pa_nil)) (by rfl))))
      (pss_cons (ps_while PassesOwn.never (PW.pt (pw_and (pt_cmpR op_ne (pv 3) pe_str (nomark _)) (pw_and (pt_cmpR op_gt (pe_op op_sub (pv 2) (pv 1)) pe_int (nomark _)) (pw_and (pt_cmpR op_eq (pe_ix ix_seq (pv 0) (pv 1) (fun _ _ => rfl)) (pe_ix ix_seq (pv 3) pe_int (fun _ _ => rfl)) (nomark _)) (pw_and1 (pt_val (pe_cG c_lnonce hg hr (by decide) pass0 (pa_cons (pv 0) (pa_cons (pe_op op_add (pv 1) pe_int) (pa_cons (pv 2) pa_nil)))))))))) (pss_one (ps_par (i := 1) (j := 3) (by rfl) sc_lnthin.nd rfl rfl (by decide) rfl rfl (pa_cons (pe_op op_add (pv 1) pe_int) (pa_cons (pe_slice sl_str (pv 3) (po_some pe_int) po_none) pa_nil)) (by rfl))))
      (pss_one (ps_ret (pe_tup (pa_cons (pv 1) (pa_cons (pv 2) (pa_cons (pv 3) pa_nil)))))))), ?_⟩
    generalize hE : thinE x a b b z = R
    refine ⟨fun m σ H' => ∃ (e f : Nat) (w : Str), σ = [some (.str x), some (.int (a : Nat)), some (.int (e : Nat)), some (.str w)] ∧ Same H H' ∧ thinE x a f e w = R ∧ e ≤ f ∧ a < e ∧ e ≤ b ∧ w.length ≤ 100 ∧ m = e, ⟨_, b, b, z, rfl, fun _ _ q => q, hE, Nat.le_refl _, hab, Nat.le_refl _, hz, rfl⟩, ?_⟩
    rintro m σ H1 ⟨e, f, w, rfl, s1, eR, ef, ae, eb, wl, hm⟩
    have wL : w.length ≤ sizeLine := Nat.le_of_lt (fewL (by omega))
    have hat : atI x.cps.toList (((e : Nat) : Int) - 1) = some (ltr x (e - 1)) := by
      rw [show ((e : Nat) : Int) - 1 = ((e - 1 : Nat) : Int) by omega]
      exact at_ltr (by omega)
    have ei : ((e : Nat) : Int) - 1 = ((e - 1 : Nat) : Int) := by omega
    have ile : e - 1 ≤ x.length := by omega
    have gt1 : decide ((1 : Int) < ((e : Nat) : Int) - ((a : Nat) : Int)) = decide (1 < e - a) := decide_eq_decide.mpr (by omega)
    refine ⟨_, rfl, rfl, _, rfl, ?_⟩
    rw [strE0]
    by_cases ok : okE x a e w
    · obtain ⟨o1, o2, o3, o4⟩ := id ok
      rw [decide_eq_false (show ¬ w.length = 0 by omega)]
      refine iteT ⟨_, rfl, _, rfl, _, _, rfl, rfl, _, _, rfl, rfl, _, rfl, ?_⟩
      rw [gt1, decide_eq_true o1]
      refine iteT ⟨_, rfl, _, rfl, _, _, rfl, rfl, .inr (.inr ⟨x, _, _, rfl, rfl, xl, hat, ?_⟩)⟩
      refine ⟨_, rfl, 1, rfl, .inr (.inr ⟨w, _, _, rfl, rfl, wL, at_last o2, rfl, _, rfl, ?_⟩)⟩
      rw [show decide (V.str ⟨#[ltr x (e - 1)]⟩ = V.str ⟨#[ltr w (w.length - 1)]⟩) = decide (ltr x (e - 1) = ltr w (w.length - 1)) from ones_eq _ _, decide_eq_true o3.symm]
      refine iteT ⟨_, rfl, _, rfl, _, rfl, _, _, rfl, rfl, x, a, e - 1, (by show [V.str x, V.int (a : Nat), V.int (((e : Nat) : Int) - 1)] = _; rw [ei]), hx, fun _ => ile, fun H2 s2 => ⟨_, rfl, ?_⟩⟩
      rw [decide_eq_true (show a < e - 1 ∧ twB x a (e - 1) = false from ⟨by omega, o4⟩)]
      refine iteT ⟨fun σ' H' => σ' = [some (.str x), some (.int (a : Nat)), some (.int ((e - 1 : Nat) : Int)), some (.str (less1 w))] ∧ H' = H2, ?_, ?_⟩
      · rintro σ' H' ⟨rfl, rfl⟩
        cases f with
        | zero => omega
        | succ f => exact ⟨e - 1, by omega, e - 1, f, less1 w, rfl, s1.trans s2, (thinE_go ok).symm.trans eR, by omega, by omega, by omega, by rw [less1_len]; omega, rfl⟩
      · refine ⟨_, rfl, _, _, rfl, rfl, _, rfl, 1, rfl, -1, rfl, w, rfl, wL, _, _, rfl, ?_, rfl⟩
        show [some (V.str x), some (V.int (a : Nat)), some (V.int (((e : Nat) : Int) - 1)), some (V.str (less1 w))] = _
        rw [ei]
    · have eq : R = (e, w) := by rw [← eR, thinE_no ok]
      have no4 : 1 < e - a → 0 < w.length → ltr x (e - 1) = ltr w (w.length - 1) → ¬ (a < e - 1 ∧ twB x a (e - 1) = false) := fun h1 h2 h3 h4 => ok ⟨h1, h2, h3.symm, h4.2⟩
      have wpos : ¬ w.length = 0 → 0 < w.length := Nat.pos_of_ne_zero
      refine' or_bothH ?oR (fun H' => Same H1 H') ?oc ?oa ?ob
      case oa =>
        intro hc hR
        have w0 : ¬ w.length = 0 := of_decide_eq_false (by simpa using hc)
        refine ⟨_, rfl, _, rfl, _, _, rfl, rfl, _, _, rfl, rfl, _, rfl, ?_⟩
        rw [gt1]
        by_cases h1 : 1 < e - a
        · rw [decide_eq_true h1]
          refine iteT ⟨_, rfl, _, rfl, _, _, rfl, rfl, .inr (.inr ⟨x, _, _, rfl, rfl, xl, hat, ?_⟩)⟩
          refine ⟨_, rfl, 1, rfl, .inr (.inr ⟨w, _, _, rfl, rfl, wL, at_last (wpos w0), rfl, _, rfl, ?_⟩)⟩
          rw [show decide (V.str ⟨#[ltr x (e - 1)]⟩ = V.str ⟨#[ltr w (w.length - 1)]⟩) = decide (ltr x (e - 1) = ltr w (w.length - 1)) from ones_eq _ _]
          by_cases h3 : ltr x (e - 1) = ltr w (w.length - 1)
          · rw [decide_eq_true h3]
            refine iteT ⟨_, rfl, _, rfl, _, rfl, _, _, rfl, rfl, x, a, e - 1, (by show [V.str x, V.int (a : Nat), V.int (((e : Nat) : Int) - 1)] = _; rw [ei]), hx, fun _ => ile, fun H2 s2 => ⟨_, rfl, ?_⟩⟩
            rw [decide_eq_false (no4 h1 (wpos w0) h3)]
            refine iteF ?_
            exact hR H2 s2
          · rw [decide_eq_false h3]
            refine iteF ?_
            exact hR H1 (fun _ _ q => q)
        · rw [decide_eq_false h1]
          refine iteF ?_
          exact hR H1 (fun _ _ q => q)
      case ob =>
        intro hc hR
        exact hR H1 (fun _ _ q => q)
      case oc =>
        intro H3 s3
        generalize hR2 : thinB x e e a w = R2
        have fin : thinM x (a, b, z) = (R2.1, e, R2.2) := by
          unfold thinM
          simp only
          rw [hE, eq]
          simp only
          rw [hR2]
        have s13 := s1.trans s3
        refine ⟨fun m σ H' => ∃ (g f : Nat) (w : Str), σ = [some (.str x), some (.int (g : Nat)), some (.int (e : Nat)), some (.str w)] ∧ Same H H' ∧ thinB x e f g w = R2 ∧ e ≤ f + g ∧ g < e ∧ w.length ≤ 100 ∧ m = e - g, ⟨_, a, e, w, rfl, s13, hR2, by omega, ae, wl, rfl⟩, ?_⟩
        clear eR ok no4 wpos gt1 hat ef hm eq
        rintro m2 σ H4 ⟨g, f2, w2, rfl, s4, gR, gf, ge, wl2, hm2⟩
        have wL2 : w2.length ≤ sizeLine := Nat.le_of_lt (fewL (by omega))
        have hat : atI x.cps.toList ((g : Nat) : Int) = some (ltr x g) := at_ltr (by omega)
        have gi : ((g : Nat) : Int) + 1 = ((g + 1 : Nat) : Int) := by omega
        have elx : e ≤ x.length := by omega
        have gt1 : decide ((1 : Int) < ((e : Nat) : Int) - ((g : Nat) : Int)) = decide (1 < e - g) := decide_eq_decide.mpr (by omega)
        have wpos : ¬ w2.length = 0 → 0 < w2.length := Nat.pos_of_ne_zero
        refine ⟨_, rfl, rfl, _, rfl, ?_⟩
        rw [strE0]
        by_cases ok : okB x e g w2
        · obtain ⟨o1, o2, o3, o4⟩ := id ok
          rw [decide_eq_false (show ¬ w2.length = 0 by omega)]
          refine iteT ⟨_, rfl, _, rfl, _, _, rfl, rfl, _, _, rfl, rfl, _, rfl, ?_⟩
          rw [gt1, decide_eq_true o1]
          refine iteT ⟨_, rfl, _, rfl, .inr (.inr ⟨x, _, _, rfl, rfl, xl, hat, ?_⟩)⟩
          refine ⟨_, rfl, .inr (.inr ⟨w2, _, _, rfl, rfl, wL2, at_first o2, rfl, _, rfl, ?_⟩)⟩
          rw [show decide (V.str ⟨#[ltr x g]⟩ = V.str ⟨#[ltr w2 0]⟩) = decide (ltr x g = ltr w2 0) from ones_eq _ _, decide_eq_true o3.symm]
          refine iteT ⟨_, rfl, _, rfl, _, _, rfl, rfl, _, rfl, x, g + 1, e, (by show [V.str x, V.int (((g : Nat) : Int) + 1), V.int (e : Nat)] = _; rw [gi]), hx, fun _ => elx, fun H5 s5 => ⟨_, rfl, ?_⟩⟩
          rw [decide_eq_true (show g + 1 < e ∧ twB x (g + 1) e = false from ⟨by omega, o4⟩)]
          refine iteT ⟨fun σ' H' => σ' = [some (.str x), some (.int ((g + 1 : Nat) : Int)), some (.int (e : Nat)), some (.str (more1 w2))] ∧ H' = H5, ?_, ?_⟩
          · rintro σ' H' ⟨rfl, rfl⟩
            cases f2 with
            | zero => omega
            | succ f2 => exact ⟨e - (g + 1), by omega, g + 1, f2, more1 w2, rfl, s4.trans s5, (thinB_go ok).symm.trans gR, by omega, by omega, by rw [more1_len]; omega, rfl⟩
          · exact ⟨_, rfl, _, _, rfl, rfl, _, rfl, 1, rfl, w2, rfl, wL2, _, _, rfl, rfl, rfl⟩
        · have eq2 : R2 = (g, w2) := by rw [← gR, thinB_no ok]
          have no4 : 1 < e - g → 0 < w2.length → ltr x g = ltr w2 0 → ¬ (g + 1 < e ∧ twB x (g + 1) e = false) := fun h1 h2 h3 h4 => ok ⟨h1, h2, h3.symm, h4.2⟩
          refine' or_bothH ?pR (fun H' => Same H4 H') ?pc ?pa ?pb
          case pa =>
            intro hc hR
            have w0 : ¬ w2.length = 0 := of_decide_eq_false (by simpa using hc)
            refine ⟨_, rfl, _, rfl, _, _, rfl, rfl, _, _, rfl, rfl, _, rfl, ?_⟩
            rw [gt1]
            by_cases h1 : 1 < e - g
            · rw [decide_eq_true h1]
              refine iteT ⟨_, rfl, _, rfl, .inr (.inr ⟨x, _, _, rfl, rfl, xl, hat, ?_⟩)⟩
              refine ⟨_, rfl, .inr (.inr ⟨w2, _, _, rfl, rfl, wL2, at_first (wpos w0), rfl, _, rfl, ?_⟩)⟩
              rw [show decide (V.str ⟨#[ltr x g]⟩ = V.str ⟨#[ltr w2 0]⟩) = decide (ltr x g = ltr w2 0) from ones_eq _ _]
              by_cases h3 : ltr x g = ltr w2 0
              · rw [decide_eq_true h3]
                refine iteT ⟨_, rfl, _, rfl, _, _, rfl, rfl, _, rfl, x, g + 1, e, (by show [V.str x, V.int (((g : Nat) : Int) + 1), V.int (e : Nat)] = _; rw [gi]), hx, fun _ => elx, fun H5 s5 => ⟨_, rfl, ?_⟩⟩
                rw [decide_eq_false (no4 h1 (wpos w0) h3)]
                refine iteF ?_
                exact hR H5 s5
              · rw [decide_eq_false h3]
                refine iteF ?_
                exact hR H4 (fun _ _ q => q)
            · rw [decide_eq_false h1]
              refine iteF ?_
              exact hR H4 (fun _ _ q => q)
          case pb =>
            intro hc hR
            exact hR H4 (fun _ _ q => q)
          case pc =>
            intro H6 s6
            have s46 := s4.trans s6
            refine ⟨_, rfl, _, rfl, _, rfl, by show 3 ≤ sizeLine; decide, fun t ht => k t _ (none_up s46 ht) ?_ (s46.trans (same_new ht))⟩
            rw [upd_same, fin, eq2]

end
end Vk
set_option Elab.async false
set_option maxRecDepth 100000
set_option linter.all false
set_option maxHeartbeats 4000000
namespace Vk
open PySem PySem.Spec PyProof.Rows L2
section
variable {P : Program} {w : World} {K : PySem.W.Frag} {mg : Str → Option Value} {base : Heap}
/-- a row of the law -/
def rowQ (x y : Str) (p : Nat × Nat) : Int × Int × Int × Str := ((p.2 : Int) - (p.1 : Int) + (((y.length + p.2 : Nat) : Int) - ((x.length : Nat) : Int)) - (p.1 : Int), (p.1 : Int), (p.2 : Int), newOf x y p.1 p.2)
def qV (q : Int × Int × Int × Str) : List V := [.int q.1, .int q.2.1, .int q.2.2.1, .str q.2.2.2]
def RwQ (x y : Str) (H : Hp) : List V → List (Nat × Nat) → Prop := Paired (fun v (p : Nat × Nat) => ∃ t, v = V.ref t ∧ H t = some (.tup (qV (rowQ x y p))))
theorem RwQ.keep {x y : Str} {H H1 : Hp} {xs : List V} {rs : List (Nat × Nat)} (h : RwQ x y H xs rs) (s : Same H H1) : RwQ x y H1 xs rs := pair_mono (fun v p ⟨t, e, ht⟩ => ⟨t, e, s _ _ ht⟩) h
theorem RwQ.keepT {x y : Str} {H H1 : Hp} {xs : List V} {rs : List (Nat × Nat)} (h : RwQ x y H xs rs) (s : ∀ u ws, H u = some (.tup ws) → H1 u = some (.tup ws)) : RwQ x y H1 xs rs := pair_mono (fun v p ⟨t, e, ht⟩ => ⟨t, e, s _ _ ht⟩) h
theorem rwQ_dp {K : PySem.W.Frag} {x y : Str} {H : Hp} : ∀ {xs : List V} {rs : List (Nat × Nat)}, RwQ x y H xs rs → DpAll K H xs (rs.map fun p => qD (rowQ x y p))
  | _, _, .nil => .nil
  | _, _, .cons a t => .cons (by
      obtain ⟨u, rfl, h⟩ := a
      exact .tup (SqT.of h) (.cons (.int _) (.cons (.int _) (.cons (.int _) (.cons (.str _) .nil))))) (rwQ_dp t)
theorem allW_in {n k a b : Nat} (h1 : a < k) (h2 : a < b) (h3 : b ≤ n) : (a, b) ∈ allW n k := by
  unfold allW
  rw [List.mem_flatMap]
  exact ⟨a, List.mem_range.mpr h1, List.mem_map.mpr ⟨b, List.mem_range'_1.mpr ⟨by omega, by omega⟩, rfl⟩⟩
theorem rs_nil (rs : List (Nat × Nat)) (x y : Str) : PyData.eqv (.list (rs.map fun p => qD (rowQ x y p))) (.list []) = rs.isEmpty := by
  match rs with
  | [] => rfl
  | r :: t => rfl
theorem rs_shaped (rs : List (Nat × Nat)) (x : Str) {y : Str} (oy : PyData.strOk y = true) : SeqAt.shaped (.list (rs.map fun p => qD (rowQ x y p))) = true := by
  refine shaped_list (n := 1) (fun d hd => ?_) (fun d hd => ?_) (by decide)
  · obtain ⟨r, _, rfl⟩ := List.mem_map.mp hd
    have e : PyData.strOk (newOf x y r.1 r.2) = true := cutS_ok oy _ _
    show (true && (true && (true && (PyData.strOk (newOf x y r.1 r.2) && true)))) = true
    rw [e]
    rfl
  · obtain ⟨r, _, rfl⟩ := List.mem_map.mp hd
    exact Nat.le_of_eq rfl
theorem rowQ_one {x y : Str} {p q : Nat × Nat} (h1 : (rowQ x y p).1 = (rowQ x y q).1) (h2 : (rowQ x y p).2.1 = (rowQ x y q).2.1) : rowQ x y p = rowQ x y q := by
  obtain ⟨a, b⟩ := p
  obtain ⟨c, d⟩ := q
  have h3 : (a : Int) = (c : Int) := h2
  have h4 : (b : Int) - (a : Int) + (((y.length + b : Nat) : Int) - ((x.length : Nat) : Int)) - (a : Int) = (d : Int) - (c : Int) + (((y.length + d : Nat) : Int) - ((x.length : Nat) : Int)) - (c : Int) := h1
  have e1 : a = c := by omega
  have e2 : b = d := by omega
  rw [e1, e2]
def spNsgl (K : PySem.W.Frag) : Sp := fun vs H Q _ => ∃ x y, vs = [.str x, .str y] ∧ x.length ≤ 50 ∧ y.length ≤ 50 ∧ PyData.strOk y = true ∧ ∀ v d H', Dp K H' v d → IsSgl x y d → Same H H' → Q v H'
abbrev s_lnsingle : Stmt := top 24
theorem sc_lnsingle : FnScope ["_law_left", "_law_right", "_law_found", "_law_a", "_law_b", "_law_rest"] ["_law_left", "_law_right"] (defScope s_lnsingle) := ⟨rfl, rfl, rfl, by decide +kernel, rfl, by decide +kernel, by decide +kernel⟩
theorem b_lnsingle {f : Addr} {fd : FuncData} (F : Fun K "_law_nsingle" "_law_nsingle" s_lnsingle f fd) (T : Txt mg) (c_lnonce : CalG P w K mg base CX0 2 "_law_nonce" spNonce) : FnG P w K mg base CX0 3 f fd ["_law_left", "_law_right"] (spNsgl K) := by
  refine okG0 F sc_lnsingle (fun vs H Q E h => ?_) (fun cdv A outer s H vs Q E hg hr h => ?_)
  · obtain ⟨x, y, rfl, _⟩ := h
    rfl
  · have hu := hu_of hr
    have hu64 := hr.units
    obtain ⟨x, y, rfl, hx, hy, oy, k⟩ := h
    have hr2 : Room 2 _ := hr
    have xl : x.length ≤ sizeLine := Nat.le_of_lt (fewL (by omega))
    have yl : y.length ≤ sizeLine := Nat.le_of_lt (fewL (by omega))
    refine ⟨_, (pss_cons (ps_if (pt_cmpR op_eq (pv 0) (pv 1) (nomark _)) (pss_one (ps_ret (pe_tup pa_nil))) pss_nil)
      (pss_cons (ps_set (i := 2) sc_lnsingle.nd rfl (Or.inl rfl) (pe_lst pa_nil))
      (pss_cons (ps_for PassesOwn.never rfl (pi_range1 rfl T.range (pa_cons (pe_callB call_len (by rfl) T.len (by decide +kernel) (pa_cons (pv 0) pa_nil)) pa_nil)) (pg_name (i := 3) sc_lnsingle.nd rfl (Or.inl rfl)) (pss_one (ps_for PassesOwn.never rfl (pi_range2 rfl T.range (pa_cons (pe_op op_add (pv 3) pe_int) (pa_cons (pe_op op_add (pe_callB call_len (by rfl) T.len (by decide +kernel) (pa_cons (pv 0) pa_nil)) pe_int) pa_nil))) (pg_name (i := 4) sc_lnsingle.nd rfl (Or.inl rfl)) (pss_cons (ps_set (i := 5) sc_lnsingle.nd rfl (Or.inl rfl) (pe_op op_add (pe_op op_sub (pe_callB call_len (by rfl) T.len (by decide +kernel) (pa_cons (pv 1) pa_nil)) (pe_callB call_len (by rfl) T.len (by decide +kernel) (pa_cons (pv 0) pa_nil))) (pv 4)))
      (pss_one (ps_if (PW.pt (pw_and (pt_cmpR op_ge (pv 5) (pv 3) (nomark _)) (pw_and (pt_cmpR op_eq (pe_op op_add_str (pe_op op_add_str (pe_slice sl_str (pv 0) po_none (po_some (pv 3))) (pe_slice sl_str (pv 1) (po_some (pv 3)) (po_some (pv 5)))) (pe_slice sl_str (pv 0) (po_some (pv 4)) po_none)) (pv 1) (nomark _)) (pw_and1 (pt_val (pe_cG c_lnonce hg hr (by decide) pass0 (pa_cons (pv 0) (pa_cons (pv 3) (pa_cons (pv 4) pa_nil))))))))) (pss_one (ps_expr (pe_bm PySem.F.plainAttrs_list PySem.F.slot_list_append PySem.F.type_list_append mt_append (pv 2) (pa_cons (pe_tup (pa_cons (pe_op op_sub (pe_op op_add (pe_op op_sub (pv 4) (pv 3)) (pv 5)) (pv 3)) (pa_cons (pv 3) (pa_cons (pv 4) (pa_cons (pe_slice sl_str (pv 1) (po_some (pv 3)) (po_some (pv 5))) pa_nil))))) pa_nil)))) pss_nil))))))
      (pss_one (ps_ret (pe_ifExp (pt_cmpR (op_eqD hu64) (pv 2) (pe_lst pa_nil) (nomark _)) pe_non (pe_tup (pa_cons (pe_slice sl_tup (pe_callB (cr_minD rfl hu64) (by rfl) T.min (by decide +kernel) (pa_cons (pv 2) pa_nil)) (po_some pe_int) po_none) pa_nil)))))))), ?_⟩
    refine ⟨_, rfl, _, rfl, rfl, _, rfl, ?_⟩
    by_cases hxy : x = y
    · rw [show decide (V.str x = V.str y) = true from decide_eq_true (by rw [hxy])]
      refine iteT ⟨by show 0 ≤ sizeLine; decide, fun t ht => ?_⟩
      exact k _ (.tuple []) _ (.tup (SqT.of upd_same) .nil) (.inl ⟨hxy, rfl⟩) (same_new ht)
    rw [show decide (V.str x = V.str y) = false from decide_eq_false (fun z => hxy (V.str.inj z))]
    refine iteF ?_
    refine ⟨by show 0 ≤ sizeLine; decide, fun lf hlf => ?_⟩
    have slf := same_new (o := .lst []) hlf
    refine ⟨_, rfl, _, _, rfl, ⟨xl, rfl⟩, _, rfl, by omega, by omega, ?_⟩
    refine for_range (lo := 0) (n := ((x.length : Nat) : Int).toNat) (fun i σ H' => ∃ (o3 o4 o5 : Option V) (xs : List V), σ = [some (.str x), some (.str y), some (.ref lf), o3, o4, o5] ∧ H' lf = some (.lst xs) ∧ RwQ x y H' xs ((allW x.length i).filter (fzB x y)) ∧ Same H H') ?_ ?_ ?_
    · exact ⟨_, _, _, [], rfl, upd_same, .nil, slf⟩
    · rintro i σ H2 hi ⟨o3, o4, o5, xs, rfl, hl2, rq2, s2⟩
      have hi1 : i < x.length := by omega
      rw [Int.zero_add]
      refine ⟨_, rfl, _, _, rfl, rfl, _, rfl, _, _, rfl, ⟨xl, rfl⟩, _, _, rfl, rfl, _, _, rfl, ⟨by omega, by omega, by omega, by omega⟩, ?_⟩
      refine for_range (lo := (i : Int) + 1) (n := (((x.length : Nat) : Int) + 1 - ((i : Int) + 1)).toNat) (fun j σ H' => ∃ (o4 o5 : Option V) (xs : List V), σ = [some (.str x), some (.str y), some (.ref lf), some (.int (i : Nat)), o4, o5] ∧ H' lf = some (.lst xs) ∧ RwQ x y H' xs (((allW x.length i) ++ (List.range' (i + 1) j).map fun b => (i, b)).filter (fzB x y)) ∧ Same H H') ?_ ?_ ?_
      · exact ⟨_, _, xs, rfl, hl2, by rw [List.range'_zero, List.map_nil, List.append_nil]; exact rq2, s2⟩
      · rintro j σ H3 hj ⟨o4, o5, ys, rfl, hl3, rq3, s3⟩
        have hb2 : i + 1 + j ≤ x.length := by omega
        have hab : i < i + 1 + j := by omega
        have gl := paired_len rq3
        have gf := List.length_filter_le (fzB x y) (allW x.length i ++ (List.range' (i + 1) j).map fun b => (i, b))
        rw [List.length_append, List.length_map, List.length_range'] at gf
        have ga := allW_len (n := x.length) (k := i)
        have gi : i * x.length ≤ 50 * 50 := Nat.mul_le_mul (by omega) hx
        have snoc : ((allW x.length i) ++ (List.range' (i + 1) (j + 1)).map fun b => (i, b)).filter (fzB x y) = ((allW x.length i) ++ (List.range' (i + 1) j).map fun b => (i, b)).filter (fzB x y) ++ (if fzB x y (i, i + 1 + j) = true then [(i, i + 1 + j)] else []) := by
          rw [List.range'_concat, List.map_append, ← List.append_assoc, List.filter_append, Nat.one_mul]
          cases h : fzB x y (i, i + 1 + j) with
          | true => rw [if_pos rfl]; simp [h]
          | false => rw [if_neg Bool.false_ne_true]; simp [h]
        have eb : ((i : Nat) : Int) + 1 + ((j : Nat) : Int) = ((i + 1 + j : Nat) : Int) := by omega
        rw [eb]
        generalize i + 1 + j = b at hb2 hab snoc ⊢
        have fz0 : fzB x y (i, b) = (decide (i + x.length ≤ y.length + b) && (decide (cutS x none (some ((i : Nat) : Int)) ++ newOf x y i b ++ cutS x (some ((b : Nat) : Int)) none = y) && decide (i < b ∧ twB x i b = false))) := rfl
        rw [snoc]
        have er : ((y.length : Nat) : Int) - ((x.length : Nat) : Int) + ((b : Nat) : Int) = ((y.length + b : Nat) : Int) - ((x.length : Nat) : Int) := by omega
        refine ⟨_, rfl, _, _, rfl, ⟨yl, rfl⟩, _, rfl, _, _, rfl, ⟨xl, rfl⟩, _, _, rfl, rfl, _, rfl, _, _, rfl, rfl, ?_⟩
        dsimp only
        rw [er]
        refine ⟨_, rfl, _, rfl, _, _, rfl, rfl, _, rfl, ?_⟩
        rw [show decide (((i : Nat) : Int) ≤ ((y.length + b : Nat) : Int) - ((x.length : Nat) : Int)) = decide (i + x.length ≤ y.length + b) from decide_eq_decide.mpr (by omega)]
        by_cases t1 : i + x.length ≤ y.length + b
        · rw [decide_eq_true t1]
          have c1 : (cutS x none (some ((i : Nat) : Int))).length ≤ 50 := Nat.le_trans (cutS_length _ _ _) hx
          have c2 : (newOf x y i b).length ≤ 50 := Nat.le_trans (cutS_length _ _ _) hy
          have c3 : (cutS x (some ((b : Nat) : Int)) none).length ≤ 50 := Nat.le_trans (cutS_length _ _ _) hx
          refine iteT ⟨_, rfl, _, rfl, _, rfl, x, rfl, xl, _, rfl, _, rfl, _, rfl, _, rfl, _, rfl, y, rfl, yl, ?_⟩
          rw [show cutS y (some ((i : Nat) : Int)) (some (((y.length + b : Nat) : Int) - ((x.length : Nat) : Int))) = newOf x y i b from rfl]
          refine ⟨_, _, rfl, rfl, Nat.le_of_lt (fewL (by omega)), _, rfl, _, rfl, _, rfl, x, rfl, xl, _, _, rfl, rfl, Nat.le_of_lt (fewL (by rw [strLen_append]; omega)), _, rfl, rfl, _, rfl, ?_⟩
          by_cases t2 : cutS x none (some ((i : Nat) : Int)) ++ newOf x y i b ++ cutS x (some ((b : Nat) : Int)) none = y
          · rw [show decide (V.str (cutS x none (some ((i : Nat) : Int)) ++ newOf x y i b ++ cutS x (some ((b : Nat) : Int)) none) = V.str y) = true from decide_eq_true (by rw [t2])]
            refine iteT ⟨_, rfl, _, rfl, _, rfl, x, i, b, rfl, by omega, fun _ => hb2, fun H4 s4 => ⟨_, rfl, ?_⟩⟩
            have hl4 := s4 _ _ hl3
            have rq4 := rq3.keep s4
            by_cases t3 : i < b ∧ twB x i b = false
            · rw [decide_eq_true t3]
              have f1 : fzB x y (i, b) = true := by rw [fz0, decide_eq_true t1, decide_eq_true t2, decide_eq_true t3]; rfl
              rw [if_pos f1]
              refine iteT ⟨_, rfl, .inl ⟨rfl, _, SqL.of hl4⟩, _, rfl, _, rfl, _, _, rfl, rfl, _, rfl, _, _, rfl, rfl, _, rfl, _, _, rfl, rfl, _, rfl, _, rfl, _, rfl, _, rfl, _, rfl, _, rfl, _, rfl, y, rfl, yl, by show 4 ≤ sizeLine; decide, fun u hu => ?_⟩
              have su := same_new (o := .tup (qV (rowQ x y (i, b)))) hu
              have hl5 := su _ _ hl4
              refine ⟨lf, _, _, rfl, rfl, hl5, fewL (by omega), _, _, ys ++ [.ref u], rfl, upd_same, ?_, upd_out hlf ((s3.trans s4).trans su)⟩
              exact Paired.snoc ((rq4.keep su).keepT (upd_list hl5)) ⟨u, rfl, upd_list hl5 _ _ upd_same⟩
            · rw [decide_eq_false t3]
              have f1 : ¬ fzB x y (i, b) = true := by rw [fz0, decide_eq_false t3, Bool.and_false, Bool.and_false]; exact Bool.false_ne_true
              rw [if_neg f1, List.append_nil]
              exact iteF ⟨_, _, ys, rfl, hl4, rq4, s3.trans s4⟩
          · rw [show decide (V.str (cutS x none (some ((i : Nat) : Int)) ++ newOf x y i b ++ cutS x (some ((b : Nat) : Int)) none) = V.str y) = false from decide_eq_false (fun z => t2 (V.str.inj z))]
            have f1 : ¬ fzB x y (i, b) = true := by rw [fz0, decide_eq_false t2, Bool.false_and, Bool.and_false]; exact Bool.false_ne_true
            rw [if_neg f1, List.append_nil]
            exact iteF ⟨_, _, ys, rfl, hl3, rq3, s3⟩
        · rw [decide_eq_false t1]
          have f1 : ¬ fzB x y (i, b) = true := by rw [fz0, decide_eq_false t1, Bool.false_and]; exact Bool.false_ne_true
          rw [if_neg f1, List.append_nil]
          exact iteF ⟨_, _, ys, rfl, hl3, rq3, s3⟩
      · rintro σ H3 ⟨o4, o5, ys, rfl, hl3, rq3, s3⟩
        rw [show (((x.length : Nat) : Int) + 1 - ((i : Int) + 1)).toNat = x.length - i by omega, ← allW_succ] at rq3
        exact ⟨_, _, _, ys, rfl, hl3, rq3, s3⟩
    · rintro σ H2 ⟨o3, o4, o5, xs, rfl, hl2, rq2, s2⟩
      rw [Int.toNat_natCast] at rq2
      have mem : ∀ p, p ∈ (allW x.length x.length).filter (fzB x y) → Fz x y p.1 p.2 := fun p hp => by
        obtain ⟨h1, h2⟩ := List.mem_filter.mp hp
        have h3 := allW_mem h1
        exact (fzB_iff h3.1 h3.2).mp h2
      have back : ∀ a b, Fz x y a b → (a, b) ∈ (allW x.length x.length).filter (fzB x y) := fun a b f => by
        have h1 := f.lt
        have h2 := f.le
        exact List.mem_filter.mpr ⟨allW_in (by omega) h1 h2, (fzB_iff h1 h2).mpr f⟩
      generalize (allW x.length x.length).filter (fzB x y) = rs at rq2 mem back
      have gl := paired_len rq2
      refine ⟨_, rfl, by show 0 ≤ sizeLine; decide, fun q hq => ?_⟩
      have sq := same_new (o := .lst []) hq
      have hl3 := sq _ _ hl2
      have rq3 := rq2.keep sq
      have s3 := s2.trans sq
      refine ⟨_, _, .lst (SqL.of hl3) (rwQ_dp rq3), .lst (SqL.of upd_same) .nil, rs_shaped rs x oy, by decide, _, rfl, ?_⟩
      rw [rs_nil]
      generalize upd H2 q (.lst []) = H3 at hl3 rq3 s3 ⊢
      by_cases e0 : rs = []
      · rw [e0]
        refine iteT ?_
        refine k .non .none H3 .non (.inr (.inl ⟨hxy, fun a b f => ?_, rfl⟩)) s3
        have := back a b f
        rw [e0] at this
        cases this
      rw [show rs.isEmpty = false by cases rs with | nil => exact absurd rfl e0 | cons _ _ => rfl]
      refine iteF ?_
      have dl : (rs.map fun p => qD (rowQ x y p)).length = rs.length := List.length_map _
      have dat : ∀ i, i < rs.length → (rs.map fun p => qD (rowQ x y p)).getD i .none = qD (rowQ x y (rs.getD i (0, 0))) := fun i hi => by
        rw [List.getD_eq_getElem?_getD, List.getElem?_map, List.getD_eq_getElem?_getD, List.getElem?_eq_getElem hi]
        rfl
      have rat : ∀ i, i < rs.length → rs.getD i (0, 0) ∈ rs := fun i hi => by
        rw [List.getD_eq_getElem?_getD, List.getElem?_eq_getElem hi]
        exact List.getElem_mem hi
      refine ⟨_, rfl, lf, xs, rs.map (fun p => qD (rowQ x y p)), fun i => (rowQ x y (rs.getD i (0, 0))).1 * 1000 + ((rs.getD i (0, 0)).1 : Int), rfl, SqL.of hl3, rwQ_dp rq3, ⟨fun d hd e he => ?_, fun d hd => ?_⟩, ?_, ?_, fun i j hi hj => ?_, fun i v hv hle => ?_⟩
      · obtain ⟨r, _, rfl⟩ := List.mem_map.mp hd
        obtain ⟨r', _, rfl⟩ := List.mem_map.mp he
        rfl
      · obtain ⟨r, _, rfl⟩ := List.mem_map.mp hd
        exact fun z => nomatch z
      · refine Nat.le_trans (depthAll_const _ 1 fun d hd => ?_) (by decide)
        obtain ⟨r, _, rfl⟩ := List.mem_map.mp hd
        exact Nat.le_of_eq rfl
      · rw [dl]
        exact List.length_pos_iff.mpr e0
      · rw [dl] at hi hj
        rw [dat i hi, dat j hj, q_lt rowQ_one]
        have mi := mem _ (rat i hi)
        have mj := mem _ (rat j hj)
        have li := mi.lt
        have li2 := mi.le
        have lj := mj.lt
        have lj2 := mj.le
        refine decide_eq_decide.mpr ?_
        show _ ∨ _ ∧ ((rs.getD i (0, 0)).1 : Int) < ((rs.getD j (0, 0)).1 : Int) ↔ (rowQ x y (rs.getD i (0, 0))).1 * 1000 + ((rs.getD i (0, 0)).1 : Int) < (rowQ x y (rs.getD j (0, 0))).1 * 1000 + ((rs.getD j (0, 0)).1 : Int)
        omega
      · obtain ⟨p, hp, t, rfl, ht⟩ := paired_at rq3 hv
        have hi := (List.getElem?_eq_some_iff.mp hp).1
        have ep : rs.getD i (0, 0) = p := by rw [List.getD_eq_getElem?_getD, hp]; rfl
        have fp := mem p (List.mem_of_getElem? hp)
        obtain ⟨a, b⟩ := p
        have best : ∀ a' b', Fz x y a' b' → b - a < b' - a' ∨ b - a = b' - a' ∧ a ≤ a' := fun a' b' f => by
          obtain ⟨j, hj⟩ := List.mem_iff_getElem?.mp (back a' b' f)
          have hj2 := (List.getElem?_eq_some_iff.mp hj).1
          have ej : rs.getD j (0, 0) = (a', b') := by rw [List.getD_eq_getElem?_getD, hj]; rfl
          have q := hle j (by rw [dl]; exact hj2)
          simp only [ep, ej] at q
          have q2 : ((b : Int) - (a : Int) + (((y.length + b : Nat) : Int) - ((x.length : Nat) : Int)) - (a : Int)) * 1000 + (a : Int) ≤ ((b' : Int) - (a' : Int) + (((y.length + b' : Nat) : Int) - ((x.length : Nat) : Int)) - (a' : Int)) * 1000 + (a' : Int) := q
          have l1 := fp.lt
          have l2 := fp.le
          have l3 := f.lt
          have l4 := f.le
          simp only at l1 l2
          omega
        refine ⟨1, rfl, t, _, rfl, SqT.of ht, (by rintro ⟨h, _⟩; exact absurd (show HT.sIx 4 0 (some 1) = 0 from h) (by decide)), fun tc htc => ?_⟩
        have stc := same_new (o := .tup (cutV (qV (rowQ x y (a, b))) (some 1) none)) htc
        refine ⟨by show 1 ≤ sizeLine; decide, fun u2 hu2 => ?_⟩
        have su2 := same_new (o := .tup [.ref tc]) hu2
        exact k _ (.tuple [.tuple [.int (a : Nat), .int (b : Nat), .str (newOf x y a b)]]) _ (.tup (SqT.of upd_same) (.cons (.tup (SqT.of (xs := [.int (a : Nat), .int (b : Nat), .str (newOf x y a b)]) (su2 _ _ upd_same)) (.cons (.int _) (.cons (.int _) (.cons (.str _) .nil)))) .nil)) (.inr (.inr ⟨hxy, a, b, fp, best, rfl⟩)) ((s3.trans stc).trans su2)

end
end Vk
set_option Elab.async false
set_option maxRecDepth 100000
set_option linter.all false
set_option maxHeartbeats 4000000
namespace Vk
open PySem PySem.Spec PyProof.Rows L2
/-! ## what becomes of a part that is made narrower -/
theorem lst_at {w : Str} {i : Nat} (h : i < w.length) : w.cps.toList[i]? = some (ltr w i) := by
  have lw : w.cps.toList.length = w.length := Array.length_toList
  unfold ltr
  rw [List.getD_eq_getElem?_getD, List.getElem?_eq_getElem (by omega)]
  rfl
theorem less_cat {w : Str} (h : 0 < w.length) : (less1 w).cps.toList ++ [ltr w (w.length - 1)] = w.cps.toList := by
  have lw : w.cps.toList.length = w.length := Array.length_toList
  rw [less1_list]
  have e := List.take_add_one (l := w.cps.toList) (i := w.length - 1)
  rw [lst_at (by omega), Option.toList_some, show w.length - 1 + 1 = w.length by omega, List.take_of_length_le (by omega)] at e
  exact e.symm
theorem more_cat {w : Str} (h : 0 < w.length) : ltr w 0 :: (more1 w).cps.toList = w.cps.toList := by
  rw [more1_list]
  exact (drop_at (lst_at h)).symm
theorem more_ltr {w : Str} {t : Nat} : ltr (more1 w) t = ltr w (t + 1) := by
  unfold ltr
  rw [more1_list, List.getD_eq_getElem?_getD, List.getD_eq_getElem?_getD, List.getElem?_drop, Nat.add_comm 1 t]
def putL (L : List Nat) : Nat → List (Nat × Nat × Str) → List Nat
  | p, [] => L.drop p
  | p, r :: rs => (L.drop p).take (r.1 - p) ++ (r.2.2.cps.toList ++ putL L r.2.1 rs)
theorem putH_list {x : Str} : ∀ {p : Nat} {rs : List (Nat × Nat × Str)} {acc : Str}, OkR x.length p rs → (putH x p rs acc).cps.toList = acc.cps.toList ++ putL x.cps.toList p rs
  | p, [], acc, _ => by
    show (acc ++ cutS x (some (p : Int)) none).cps.toList = _
    rw [app_list, cut_from]
    rfl
  | p, r :: rs, acc, h => by
    show (putH x r.2.1 rs (acc ++ cutS x (some (p : Int)) (some (r.1 : Int)) ++ r.2.2)).cps.toList = _
    have h1 := h.1
    have h2 := h.2.1
    have h3 := h.2.2.1
    rw [putH_list h.2.2.2, app_list, app_list, cut_mid h1 (by omega), List.append_assoc, List.append_assoc]
    rfl
theorem drop_cut {L : List Nat} {k b : Nat} (h : k ≤ b) : L.drop k = (L.drop k).take (b - k) ++ L.drop b := by
  have e := (List.take_append_drop (b - k) (L.drop k)).symm
  rw [List.drop_drop, show k + (b - k) = b by omega] at e
  exact e
theorem cut_cut {L : List Nat} {k b a : Nat} (h : k ≤ b) (h2 : b ≤ a) : (L.drop k).take (a - k) = (L.drop k).take (b - k) ++ (L.drop b).take (a - b) := by
  rw [show a - k = (b - k) + (a - b) by omega, List.take_add, List.drop_drop, show k + (b - k) = b by omega]
theorem OkR.mono {n k b : Nat} {rs : List (Nat × Nat × Str)} (h : OkR n b rs) (l : k ≤ b) : OkR n k rs := by
  cases rs with
  | nil => trivial
  | cons r t => exact ⟨Nat.le_trans l h.1, h.2⟩
theorem putL_shift {L : List Nat} {n k b : Nat} {rs : List (Nat × Nat × Str)} (h : k ≤ b) (ok : OkR n b rs) : putL L k rs = (L.drop k).take (b - k) ++ putL L b rs := by
  cases rs with
  | nil => exact drop_cut h
  | cons r t =>
    show (L.drop k).take (r.1 - k) ++ _ = _ ++ ((L.drop b).take (r.1 - b) ++ _)
    rw [cut_cut h ok.1, List.append_assoc]
theorem cut_one {x : Str} {i : Nat} (h : i < x.length) : (x.cps.toList.drop i).take 1 = [ltr x i] := by
  rw [drop_at (lst_at h)]
  rfl
/-- r2 is r made narrower -/
structure Nar (x : Str) (r r2 : Nat × Nat × Str) : Prop where
  ge : r.1 ≤ r2.1
  lt : r2.1 < r2.2.1
  le : r2.2.1 ≤ r.2.1
  len : r2.2.2.length ≤ r.2.2.length
  ok : PyData.strOk r.2.2 = true → PyData.strOk r2.2.2 = true
  ne : cutS x (some (r2.1 : Int)) (some (r2.2.1 : Int)) = r2.2.2 → cutS x (some (r.1 : Int)) (some (r.2.1 : Int)) = r.2.2
  put : ∀ k t, k ≤ r.1 → OkR x.length r.2.1 t → putL x.cps.toList k (r2 :: t) = putL x.cps.toList k (r :: t)
theorem Nar.own {x : Str} {r : Nat × Nat × Str} (h : r.1 < r.2.1) : Nar x r r := ⟨Nat.le_refl _, h, Nat.le_refl _, Nat.le_refl _, id, id, fun _ _ _ _ => rfl⟩
theorem Nar.trans {x : Str} {r r2 r3 : Nat × Nat × Str} (h : Nar x r r2) (g : Nar x r2 r3) : Nar x r r3 :=
  ⟨Nat.le_trans h.ge g.ge, g.lt, Nat.le_trans g.le h.le, Nat.le_trans g.len h.len, fun z => g.ok (h.ok z), fun z => h.ne (g.ne z), fun k t h1 h2 => (g.put k t (Nat.le_trans h1 h.ge) (h2.mono h.le)).trans (h.put k t h1 h2)⟩
theorem nar_E {x : Str} {a b : Nat} {w : Str} (hb : b ≤ x.length) (h : okE x a b w) : Nar x (a, b, w) (a, b - 1, less1 w) := by
  obtain ⟨h1, h2, h3, _⟩ := h
  have hab : a + 1 < b := by omega
  have ll : (less1 w).length ≤ w.length := by rw [less1_len]; omega
  refine ⟨Nat.le_refl _, by show a < b - 1; omega, by show b - 1 ≤ b; omega, ll, fun z => cutS_ok z _ _, fun z => ?_, fun k t hk ok => ?_⟩
  · refine str_ext ?_
    have z2 := congrArg (fun s : Str => s.cps.toList) z
    have z3 : (cutS x (some (a : Int)) (some ((b - 1 : Nat) : Int))).cps.toList = (less1 w).cps.toList := z2
    rw [cut_mid (by omega) (by omega)] at z3
    show (cutS x (some (a : Int)) (some (b : Int))).cps.toList = w.cps.toList
    rw [cut_mid (by omega) (by omega)]
    show (x.cps.toList.drop a).take (b - a) = w.cps.toList
    rw [cut_cut (by omega : a ≤ b - 1) (by omega : b - 1 ≤ b), z3, show b - (b - 1) = 1 by omega, cut_one (by omega), ← h3]
    exact less_cat h2
  · show _ ++ ((less1 w).cps.toList ++ putL _ (b - 1) t) = _ ++ (w.cps.toList ++ putL _ b t)
    rw [putL_shift (k := b - 1) (by omega : b - 1 ≤ b) ok, show b - (b - 1) = 1 by omega, cut_one (by omega), ← h3, ← List.append_assoc (less1 w).cps.toList, less_cat h2]
theorem nar_B {x : Str} {a b : Nat} {w : Str} (hb : b ≤ x.length) (h : okB x b a w) : Nar x (a, b, w) (a + 1, b, more1 w) := by
  obtain ⟨h1, h2, h3, _⟩ := h
  have hab : a + 1 < b := by omega
  have ll : (more1 w).length ≤ w.length := by rw [more1_len]; omega
  refine ⟨by show a ≤ a + 1; omega, hab, Nat.le_refl _, ll, fun z => cutS_ok z _ _, fun z => ?_, fun k t hk ok => ?_⟩
  · refine str_ext ?_
    have z2 := congrArg (fun s : Str => s.cps.toList) z
    have z3 : (cutS x (some ((a + 1 : Nat) : Int)) (some (b : Int))).cps.toList = (more1 w).cps.toList := z2
    rw [cut_mid (by omega) hb] at z3
    show (cutS x (some (a : Int)) (some (b : Int))).cps.toList = w.cps.toList
    rw [cut_mid (by omega) hb]
    show (x.cps.toList.drop a).take (b - a) = w.cps.toList
    rw [cut_cut (by omega : a ≤ a + 1) (by omega : a + 1 ≤ b), z3, show a + 1 - a = 1 by omega, cut_one (by omega), ← h3]
    exact more_cat h2
  · have hk2 : k ≤ a := hk
    show (x.cps.toList.drop k).take (a + 1 - k) ++ ((more1 w).cps.toList ++ putL _ b t) = (x.cps.toList.drop k).take (a - k) ++ (w.cps.toList ++ putL _ b t)
    rw [cut_cut hk2 (by omega : a ≤ a + 1), show a + 1 - a = 1 by omega, cut_one (by omega), ← h3, List.append_assoc, ← more_cat h2]
    rfl
theorem thinE_nar {x : Str} {a : Nat} : ∀ (f b : Nat) (w : Str), a < b → b ≤ x.length → Nar x (a, b, w) (a, (thinE x a f b w).1, (thinE x a f b w).2)
  | 0, b, w, h1, h2 => Nar.own h1
  | f + 1, b, w, h1, h2 => by
    by_cases h : okE x a b w
    · rw [thinE_go h]
      exact (nar_E h2 h).trans (thinE_nar f (b - 1) (less1 w) (by have := h.1; omega) (by omega))
    · rw [thinE_no h]
      exact Nar.own h1
theorem thinB_nar {x : Str} {b : Nat} (hb : b ≤ x.length) : ∀ (f a : Nat) (w : Str), a < b → Nar x (a, b, w) ((thinB x b f a w).1, b, (thinB x b f a w).2)
  | 0, a, w, h1 => Nar.own h1
  | f + 1, a, w, h1 => by
    by_cases h : okB x b a w
    · rw [thinB_go h]
      exact (nar_B hb h).trans (thinB_nar hb f (a + 1) (more1 w) (by have := h.1; omega))
    · rw [thinB_no h]
      exact Nar.own h1
theorem thinM_nar {x : Str} {r : Nat × Nat × Str} (h1 : r.1 < r.2.1) (h2 : r.2.1 ≤ x.length) : Nar x r (thinM x r) := by
  have e := thinE_nar (x := x) (a := r.1) r.2.1 r.2.1 r.2.2 h1 h2
  have l : (thinE x r.1 r.2.1 r.2.1 r.2.2).1 ≤ x.length := Nat.le_trans e.le h2
  exact e.trans (thinB_nar l _ r.1 _ e.lt)
theorem thinE_end {x : Str} {a : Nat} : ∀ (f b : Nat) (w : Str), b - a ≤ f → ¬ okE x a (thinE x a f b w).1 (thinE x a f b w).2
  | 0, b, w, h => fun z => by
    have : 1 < b - a := z.1
    omega
  | f + 1, b, w, h => by
    by_cases g : okE x a b w
    · rw [thinE_go g]
      exact thinE_end f _ _ (by omega)
    · rw [thinE_no g]
      exact g
theorem thinB_end {x : Str} {b : Nat} : ∀ (f a : Nat) (w : Str), b - a ≤ f → ¬ okB x b (thinB x b f a w).1 (thinB x b f a w).2
  | 0, a, w, h => fun z => by
    have : 1 < b - a := z.1
    omega
  | f + 1, a, w, h => by
    by_cases g : okB x b a w
    · rw [thinB_go g]
      exact thinB_end f _ _ (by omega)
    · rw [thinB_no g]
      exact g
theorem thinB_keep {x : Str} {b : Nat} (hb : b ≤ x.length) : ∀ (f a : Nat) (w : Str), ¬ okE x a b w → ¬ okE x (thinB x b f a w).1 b (thinB x b f a w).2
  | 0, a, w, h => h
  | f + 1, a, w, h => by
    by_cases g : okB x b a w
    · rw [thinB_go g]
      refine thinB_keep hb f _ _ fun z => h ?_
      obtain ⟨z1, z2, z3, z4⟩ := z
      rw [more1_len] at z2 z3
      rw [more_ltr, show w.length - 1 - 1 + 1 = w.length - 1 by omega] at z3
      refine ⟨by omega, by omega, z3, ?_⟩
      cases e : twB x a (b - 1) with
      | false => rfl
      | true =>
        have t := (twB_iff (by omega) (by omega)).mp e
        have t2 := (twB_iff (x := x) (a := a + 1) (b := b - 1) (by omega) (by omega)).mpr (t.less (by omega) (by omega) (Nat.le_refl _))
        rw [z4] at t2
        cases t2
    · rw [thinB_no g]
      exact h
theorem thinM_idem {x : Str} {r : Nat × Nat × Str} (h1 : r.1 < r.2.1) (h2 : r.2.1 ≤ x.length) : thinM x (thinM x r) = thinM x r := by
  have e := thinE_nar (x := x) (a := r.1) r.2.1 r.2.1 r.2.2 h1 h2
  have l : (thinE x r.1 r.2.1 r.2.1 r.2.2).1 ≤ x.length := Nat.le_trans e.le h2
  have n1 := thinE_end (x := x) (a := r.1) r.2.1 r.2.1 r.2.2 (by omega)
  have em : thinM x r = ((thinB x (thinE x r.1 r.2.1 r.2.1 r.2.2).1 (thinE x r.1 r.2.1 r.2.1 r.2.2).1 r.1 (thinE x r.1 r.2.1 r.2.1 r.2.2).2).1, (thinE x r.1 r.2.1 r.2.1 r.2.2).1, (thinB x (thinE x r.1 r.2.1 r.2.1 r.2.2).1 (thinE x r.1 r.2.1 r.2.1 r.2.2).1 r.1 (thinE x r.1 r.2.1 r.2.1 r.2.2).2).2) := rfl
  rw [em]
  generalize (thinE x r.1 r.2.1 r.2.1 r.2.2).1 = b at l n1
  generalize (thinE x r.1 r.2.1 r.2.1 r.2.2).2 = w at n1
  have n2 := thinB_end (x := x) (b := b) b r.1 w (by omega)
  have n3 := thinB_keep l b r.1 w n1
  generalize (thinB x b b r.1 w).1 = a at n2 n3
  generalize (thinB x b b r.1 w).2 = u at n2 n3
  show ((thinB x (thinE x a b b u).1 (thinE x a b b u).1 a (thinE x a b b u).2).1, (thinE x a b b u).1, (thinB x (thinE x a b b u).1 (thinE x a b b u).1 a (thinE x a b b u).2).2) = _
  rw [thinE_no n3]
  simp only
  rw [thinB_no n2]
theorem thinR_go {x : Str} {r : Nat × Nat × Str} {t : List (Nat × Nat × Str)} (h : cutS x (some (r.1 : Int)) (some (r.2.1 : Int)) ≠ r.2.2) : thinR x (r :: t) = thinM x r :: thinR x t := by
  unfold thinR
  rw [List.filter_cons_of_pos (by simpa using h), List.map_cons]
theorem thinR_no {x : Str} {r : Nat × Nat × Str} {t : List (Nat × Nat × Str)} (h : cutS x (some (r.1 : Int)) (some (r.2.1 : Int)) = r.2.2) : thinR x (r :: t) = thinR x t := by
  unfold thinR
  rw [List.filter_cons_of_neg (by simpa using h)]
theorem okR_thin {x : Str} : ∀ {k : Nat} {rs : List (Nat × Nat × Str)}, OkR x.length k rs → OkR x.length k (thinR x rs)
  | k, [], _ => trivial
  | k, r :: t, h => by
    by_cases c : cutS x (some (r.1 : Int)) (some (r.2.1 : Int)) = r.2.2
    · rw [thinR_no c]
      exact okR_thin (h.2.2.2.mono (Nat.le_trans h.1 (Nat.le_of_lt h.2.1)))
    · rw [thinR_go c]
      have m := thinM_nar h.2.1 h.2.2.1
      exact ⟨Nat.le_trans h.1 m.ge, m.lt, Nat.le_trans m.le h.2.2.1, okR_thin (h.2.2.2.mono m.le)⟩
theorem putL_thin {x : Str} : ∀ {k : Nat} {rs : List (Nat × Nat × Str)}, OkR x.length k rs → putL x.cps.toList k (thinR x rs) = putL x.cps.toList k rs
  | k, [], _ => rfl
  | k, r :: t, h => by
    have h1 := h.1
    have h2 := h.2.1
    have h3 := h.2.2.1
    have ih := putL_thin h.2.2.2
    have ot := okR_thin h.2.2.2
    by_cases c : cutS x (some (r.1 : Int)) (some (r.2.1 : Int)) = r.2.2
    · rw [thinR_no c, putL_shift (by omega : k ≤ r.2.1) ot, ih]
      show _ = (x.cps.toList.drop k).take (r.1 - k) ++ (r.2.2.cps.toList ++ _)
      rw [← c, cut_mid (by omega) h3, cut_cut h1 (by omega : r.1 ≤ r.2.1), List.append_assoc]
    · rw [thinR_go c, (thinM_nar h2 h3).put k _ h1 ot]
      show _ ++ (_ ++ _) = _ ++ (_ ++ _)
      rw [ih]
theorem putH_thin {x : Str} {rs : List (Nat × Nat × Str)} (h : OkR x.length 0 rs) : putH x 0 (thinR x rs) "" = putH x 0 rs "" := by
  refine str_ext ?_
  rw [putH_list h, putH_list (okR_thin h), putL_thin h]
theorem thinR_idem {x : Str} : ∀ {k : Nat} {rs : List (Nat × Nat × Str)}, OkR x.length k rs → thinR x (thinR x rs) = thinR x rs
  | k, [], _ => rfl
  | k, r :: t, h => by
    have ih := thinR_idem h.2.2.2
    by_cases c : cutS x (some (r.1 : Int)) (some (r.2.1 : Int)) = r.2.2
    · rw [thinR_no c]
      exact ih
    · have m := thinM_nar h.2.1 h.2.2.1
      rw [thinR_go c, thinR_go (fun z => c (m.ne z)), ih, thinM_idem h.2.1 h.2.2.1]
theorem cost_thin {x : Str} : ∀ {k : Nat} {rs : List (Nat × Nat × Str)}, OkR x.length k rs → ((thinR x rs).map cost1).sum ≤ (rs.map cost1).sum
  | k, [], _ => Int.le_refl _
  | k, r :: t, h => by
    have ih := cost_thin h.2.2.2
    have h2 := h.2.1
    have e : cost1 r = (r.2.1 : Int) - (r.1 : Int) + (r.2.2.length : Nat) + 0 := rfl
    rw [List.map_cons, List.sum_cons]
    by_cases c : cutS x (some (r.1 : Int)) (some (r.2.1 : Int)) = r.2.2
    · rw [thinR_no c]
      omega
    · have m := thinM_nar h.2.1 h.2.2.1
      rw [thinR_go c, List.map_cons, List.sum_cons]
      have e2 : cost1 (thinM x r) = ((thinM x r).2.1 : Int) - ((thinM x r).1 : Int) + ((thinM x r).2.2.length : Nat) + 0 := rfl
      have m1 := m.ge
      have m2 := m.le
      have m3 := m.len
      omega
theorem thinR_len {x : Str} {rs : List (Nat × Nat × Str)} : (thinR x rs).length ≤ rs.length := by
  unfold thinR
  rw [List.length_map]
  exact List.length_filter_le _ _
theorem okR_mem {n : Nat} : ∀ {k : Nat} {rs : List (Nat × Nat × Str)}, OkR n k rs → ∀ r ∈ rs, r.1 < r.2.1 ∧ r.2.1 ≤ n
  | k, [], _, r, h => by cases h
  | k, r :: t, h, s, hs => by
    rcases List.mem_cons.mp hs with rfl | hs
    · exact ⟨h.2.1, h.2.2.1⟩
    · exact okR_mem h.2.2.2 s hs
theorem thinR_news {x : Str} {rs : List (Nat × Nat × Str)} (ok : ∀ r ∈ rs, r.1 < r.2.1 ∧ r.2.1 ≤ x.length) (h : ∀ r ∈ rs, r.2.2.length ≤ 20 ∧ PyData.strOk r.2.2 = true) : ∀ r ∈ thinR x rs, r.2.2.length ≤ 20 ∧ PyData.strOk r.2.2 = true := by
  intro r hr
  unfold thinR at hr
  obtain ⟨q, hq, rfl⟩ := List.mem_map.mp hr
  have hq2 := (List.mem_filter.mp hq).1
  have m := thinM_nar (ok q hq2).1 (ok q hq2).2
  exact ⟨Nat.le_trans m.len (h q hq2).1, m.ok (h q hq2).2⟩
end Vk
set_option Elab.async false
set_option maxRecDepth 100000
set_option linter.all false
set_option maxHeartbeats 4000000
namespace Vk
open PySem PySem.Spec PyProof.Rows L2 LamX NdefX
section
variable {P : Program} {w : World} {K : PySem.W.Frag} {mg : Str → Option Value} {base : Heap}
/-- a def of the module whose last parameters have values of their own -/
structure CalD (P : Program) (w : World) (K : PySem.W.Frag) (mg : Str → Option Value) (base : Heap) (CX : CXT) (k : Nat) (x : Str) (sp : Sp) (dv : List V) : Prop where
  ex : ∃ (f : Addr) (fd : FuncData) (ps : List Str) (ds : List Value), FnG P w K mg base CX k f fd ps sp ∧ mg x = some (.ref f) ∧ PySem.W.keepIn K (.ref f) = true ∧ Vals dv ds ∧ Binds K fd ps ds
section
variable {X : Cx} {CX : CXT} {j k : Nat} {sp : Sp} {E : XK} {x : Str} {p pos : Pos} {e : Expr} {es : List Expr} {t : TA} {dv : List V}
theorem pe_cD (c : CalD X.prog X.w X.K X.mg X.base CX k x sp dv) (hg : X.A.guards = some []) (hr : Room j X.A) (hk : k ≤ j) (hx : Passes CX X E) (ha : PA X (e :: es) t) (gl : Gl X x := by rfl)
    (hdb : (x == ("__debug__" : Str)) = false := by decide) (he : starEach (e :: es) X.env = (false, eval e X.env) :: starEach es X.env := by rfl) (hpl : (backTo pos (starEach es X.env)).any (·.1) = false := by rfl) :
    PE X (.Call (.Name x p) (e :: es) [] pos) (tCall sp dv E t) := by
  obtain ⟨f, fd, ps, ds, F, hm, kp, rd, hb⟩ := c.ex
  refine ⟨fun pins s σ H Q I h => wpAny_Call_Name_kw (ld_glob I gl hm (PySem.W.callWith_K (h₀ := X.base) I.ok.mod.kin kp (thn (ha.run pos pins s σ H _ I h) fun us s1 hh => ?_) he hpl) hdb)⟩
  obtain ⟨vs, H1, I1, r, q⟩ := hh
  have rr : Vals (vs ++ dv) (us ++ ds) := r.append rd
  have hl : (us ++ ds).length = ps.length := rr.length.symm.trans (F.len _ _ _ _ q)
  refine ⟨I1.kIn, wpAny_call (codeAny_mono (F.run X.A X.stack s1 H1 ⟨us, []⟩ (us ++ ds) (vs ++ dv) Q E hg (hr.mono hk) I1.env0 (hb s1 us I1.kIn hl) rr q) (fun res s2 hq => ?_))⟩
  match res, hq with
  | .error e, hq => exact hx pins σ H1 s1 e s2 I1 hq
  | .ok (.ret u), hq => exact I1.after hq
  | .ok .next, hq => exact hq.elim
  | .ok .brk, hq => exact hq.elim
  | .ok .cont, hq => exact hq.elim
end
theorem tabs_pen {T : List (Addr × Str)} {H H' : Hp} {p c : Addr} {U : Nat} (t : Tabs T H) (q : Pen H p c U) (x : Ext p H H') : Tabs T H' := fun r hr => by
  obtain ⟨tn, l, hp⟩ := q.is
  have nl : ∀ g u, H g = some u → (∀ k, u ≠ .dK k) → H' g = some u := fun g u e n => x _ _ e (fun z => by
    rw [z, hp] at e
    exact n _ (Option.some.inj e).symm)
  obtain ⟨ps, h1, h2, h3⟩ := t r hr
  refine ⟨ps, nl _ _ h1 (fun _ z => nomatch z), h2, fun pos cv e => ?_⟩
  obtain ⟨c, e1, e2⟩ := h3 pos cv e
  exact ⟨c, e1, nl _ _ e2 (fun xs z => by unfold CodeO at z; cases z)⟩
theorem pen_extN {H H' : Hp} {p c : Addr} {U : Nat} (q : Pen H p c U) (x : ExtN H H') : Pen H' p c U := by
  obtain ⟨ns, t, l, h1, h2, r⟩ := q.ex
  exact ⟨ns, t, l, x _ _ h1 (fun _ z => nomatch z), x _ _ h2 (fun _ z => nomatch z), r⟩
theorem sqT_keep {K : PySem.W.Frag} {H H' : Hp} {a : Addr} {xs : List V} (h : SqT K H a xs) (e : Same H H') : SqT K H' a xs :=
  h.elim (fun h => .inl (h.elim (fun h => .inl (e _ _ h)) fun ⟨o, h⟩ => .inr ⟨o, e _ _ h⟩)) fun h => .inr h
/-- a part as data -/
def rowD (r : Nat × Nat × Str) : PyData := .tuple [.int (r.1 : Nat), .int (r.2.1 : Nat), .str r.2.2]
theorem rw3_dp {K : PySem.W.Frag} {H : Hp} : ∀ {xs : List V} {rs : List (Nat × Nat × Str)}, Rw3 H xs rs → DpAll K H xs (rs.map rowD)
  | _, _, .nil => .nil
  | _, _, .cons a t => .cons (by
      obtain ⟨u, rfl, h⟩ := a
      exact .tup (SqT.of h) (.cons (.int _) (.cons (.int _) (.cons (.str _) .nil)))) (rw3_dp t)
theorem showy_str {y : Str} {n : Nat} (h : y.length ≤ n) (ok : PyData.strOk y = true) : Showy (.str y) 0 (10 * n + 2) := by
  refine ⟨by simp [PyData.showable], by simp [PyData.hasDict], by simp [PyData.depth], ?_⟩
  have h2 : y.cps.all (· < 0x110000) = true := ok
  rw [Array.all_eq_true_iff_forall_mem] at h2
  have q := StrLaws.reprText_len y (fun c hc => by
    have := h2 c (by simpa using hc)
    have : c < 0x110000 := by simpa using this
    exact Nat.lt_trans this (by decide))
  show (reprText y).length ≤ 10 * n + 2
  omega
theorem rowD_showy {r : Nat × Nat × Str} (h1 : r.1 ≤ 100) (h2 : r.2.1 ≤ 100) (h3 : r.2.2.length ≤ 60) (ok : PyData.strOk r.2.2 = true) : Showy (rowD r) 1 2000 := by
  have si : ∀ {j : Nat}, j ≤ 100 → Showy (.int (j : Nat)) 0 602 := fun {j} h => (Showy.int (show ((j : Nat) : Int).natAbs < 10 ^ 100 from Nat.lt_of_le_of_lt h (by decide +kernel))).mono (Nat.le_refl _) (by decide)
  refine (Showy.tuple (k := 0) (n := 602) fun d hd => ?_).mono (Nat.le_refl _) (by show 3 * (602 + 2) + 2 ≤ 2000; decide)
  simp only [List.mem_cons, List.not_mem_nil, or_false] at hd
  rcases hd with rfl | rfl | rfl
  · exact si h1
  · exact si h2
  · exact showy_str h3 ok
theorem rows_showy {rs : List (Nat × Nat × Str)} (hl : rs.length ≤ 100) (h : ∀ r ∈ rs, r.1 ≤ 100 ∧ r.2.1 ≤ 100 ∧ r.2.2.length ≤ 60 ∧ PyData.strOk r.2.2 = true) : Showy (.tuple (rs.map rowD)) 2 210000 := by
  refine (Showy.tuple (k := 1) (n := 2000) fun d hd => ?_).mono (Nat.le_refl _) (by rw [List.length_map]; omega)
  obtain ⟨r, hr, rfl⟩ := List.mem_map.mp hd
  have q := h r hr
  exact rowD_showy q.1 q.2.1 q.2.2.1 q.2.2.2
theorem sgl_showy {x y : Str} {d : PyData} (h : IsSgl x y d) (hx : x.length ≤ 50) (hy : y.length ≤ 50) (ok : PyData.strOk y = true) : Showy d 2 210000 := by
  rcases h with ⟨_, rfl⟩ | ⟨_, _, rfl⟩ | ⟨_, a, b, f, _, rfl⟩
  · exact (Showy.tuple (k := 0) (n := 0) fun d hd => absurd hd List.not_mem_nil).mono (by decide) (by decide)
  · exact ⟨rfl, rfl, by decide, by decide +kernel⟩
  · have l1 := f.lt
    have l2 := f.le
    refine rows_showy (rs := [(a, b, newOf x y a b)]) (by show 1 ≤ 100; decide) fun r hr => ?_
    rw [List.mem_singleton.mp hr]
    exact ⟨by show a ≤ 100; omega, by show b ≤ 100; omega, Nat.le_trans (cutS_length _ _ _) (by omega), cutS_ok ok _ _⟩
def spLaw (P0 : Addr) (K : PySem.W.Frag) : Sp := fun vs H Q _ => ∃ (a : Addr) (ns : List Int), vs = [.ref a] ∧ SqL K H a (ns.map V.int) ∧ ns.length ≤ 63 ∧ H P0 = some (.tbl #[]) ∧ ∀ H', Q (.bl true) H'
abbrev s_law : Stmt := top 26
theorem sc_law : FnScope ["_law_script", "_law_pen_here", "_law_turn", "_law_signs_here", "_law_here", "_law_at", "_law_away", "_law_rows", "_law_due", "_law_a", "_law_b", "_law_fresh", "_law_told"] ["_law_script"] (defScope s_law) := ⟨rfl, rfl, rfl, by decide +kernel, rfl, by decide +kernel, by decide +kernel⟩
theorem b_law {f P0 : Addr} {fd : FuncData} (F : Fun K "law" "law" s_law f fd) (T : Txt mg) (c_lpen : CalG P w K mg base CX0 1 "_law_pen" (spPen K)) (c_lfew : CalG P w K mg base CX0 3 "_law_few" spFew) (c_ldraw : CalG P w K mg base CX0 1 "_law_draw" spDraw) (c_lword : CalG P w K mg base CX0 3 "_law_word" spWord) (c_lpick : CalG P w K mg base CX0 2 "_law_pick" (spPick K)) (c_lntext : CalG P w K mg base CX0 4 "_law_ntext" spNtext) (c_lndrawn : CalG P w K mg base CX0 4 "_law_ndrawn" spDrawn) (c_lnsingle : CalG P w K mg base CX0 3 "_law_nsingle" (spNsgl K)) (c_lnthin : CalG P w K mg base CX0 3 "_law_nthin" spThin) (c_lnput : CalG P w K mg base CX0 1 "_law_nput" spPut) (c_single : CalG P w K mg base CX0 3 "single" (spSingle P0 K)) (c_thinned : CalG P w K mg base CX0 4 "thinned" spThinned) (k_single : CalK P w K mg base CX0 3 "single" (spSingle P0 K) ["other", "one"] List.reverse) (k_thinned : CalK P w K mg base CX0 4 "thinned" spThinned ["exchange", "text"] List.reverse) (d_cost_of : CalD P w K mg base CX0 1 "cost_of" spCost [.int 0]) : FnG P w K mg base CX0 5 f fd ["_law_script"] (spLaw P0 K) := by
  refine okG0 F sc_law (fun vs H Q E h => ?_) (fun cdv A outer s H vs Q E hg hr h => ?_)
  · obtain ⟨a, ns, rfl, _⟩ := h
    rfl
  · have hu := hu_of hr
    have hu64 := hr.units
    obtain ⟨a, ns, rfl, hS, hlen, hP0, k⟩ := h
    refine ⟨_, (pss_cons (ps_set (i := 1) sc_law.nd rfl (Or.inl rfl) (pe_cG c_lpen hg hr (by decide) pass0 (pa_cons (pv 0) pa_nil)))
      (pss_cons (ps_for PassesOwn.never rfl (pi_range1 rfl T.range (pa_cons (pe_op op_add pe_int (pe_callB (call_min2 rfl) (by rfl) T.min (by decide +kernel) (pa_cons pe_int (pa_cons (pe_callB call_len (by rfl) T.len (by decide +kernel) (pa_cons (pv 0) pa_nil)) pa_nil)))) pa_nil)) (pg_name (i := 2) sc_law.nd rfl (Or.inl rfl)) (pss_cons (ps_set (i := 3) sc_law.nd rfl (Or.inl rfl) (pe_cG c_lfew hg hr (by decide) pass0 (pa_cons (pv 1) pa_nil)))
      (pss_cons (ps_set (i := 4) sc_law.nd rfl (Or.inr rfl) (pe_cG c_lntext hg hr (by decide) pass0 (pa_cons (pv 1) (pa_cons (pv 3) (pa_cons pe_int pa_nil)))))
      (pss_cons (ps_set (i := 5) sc_law.nd rfl (Or.inl rfl) (pe_cG c_ldraw hg hr (by decide) pass0 (pa_cons (pv 1) (pa_cons (pe_op op_add (pe_callB call_len (by rfl) T.len (by decide +kernel) (pa_cons (pv 4) pa_nil)) pe_int) pa_nil))))
      (pss_cons (ps_set (i := 6) sc_law.nd rfl (Or.inl rfl) (pe_op op_add_str (pe_op op_add_str (pe_slice sl_str (pv 4) po_none (po_some (pv 5))) (pe_cG c_lword hg hr (by decide) pass0 (pa_cons (pv 1) (pa_cons (pv 3) (pa_cons pe_int (pa_cons pe_int pa_nil)))))) (pe_slice sl_str (pv 4) (po_some (pe_op op_add (pv 5) (pe_cG c_ldraw hg hr (by decide) pass0 (pa_cons (pv 1) (pa_cons pe_int pa_nil))))) po_none)))
      (pss_cons (ps_set (i := 6) sc_law.nd rfl (Or.inl rfl) (pe_cG c_lpick hg hr (by decide) pass0 (pa_cons (pv 1) (pa_cons (pe_lst (pa_cons (pv 6) (pa_cons (pv 6) (pa_cons (pv 6) (pa_cons (pe_cG c_lntext hg hr (by decide) pass0 (pa_cons (pv 1) (pa_cons (pv 3) (pa_cons pe_int pa_nil)))) (pa_cons (pv 4) (pa_cons pe_str pa_nil))))))) pa_nil))))
      (pss_cons (ps_if (pt_cmpR op_ne (pe_callB (Vk.call_reprD hg hu64) (by rfl) T.repr (by decide +kernel) (pa_cons (pe_kw k_single hg hr (by decide) pass0 (pk_cons (pv 6) (pk_cons (pv 4) pk_nil))) pa_nil)) (pe_callB (Vk.call_reprD hg hu64) (by rfl) T.repr (by decide +kernel) (pa_cons (pe_cG c_lnsingle hg hr (by decide) pass0 (pa_cons (pv 4) (pa_cons (pv 6) pa_nil))) pa_nil)) (nomark _)) (pss_one (ps_ret pe_bl)) pss_nil)
      (pss_cons (ps_set (i := 7) sc_law.nd rfl (Or.inl rfl) (pe_cG c_lndrawn hg hr (by decide) pass0 (pa_cons (pv 1) (pa_cons (pv 4) (pa_cons (pv 3) pa_nil)))))
      (pss_cons (ps_set (i := 8) sc_law.nd rfl (Or.inl rfl) (pe_callTy call_tuple_of (by rfl) T.tuple (by decide +kernel) (pa_cons (pe_lc (own := [("_law_a", 9), ("_law_b", 10), ("_law_fresh", 11)]) (g := (gTup K 3 (gCons (gName 9) (gCons (gName 10) (gCons (gName 11) gNil))))) rfl sc_law.nd (pi_tup (pv 7)) (blkOk_by (own := [("_law_a", 9), ("_law_b", 10), ("_law_fresh", 11)]) (N := ["_law_script", "_law_pen_here", "_law_turn", "_law_signs_here", "_law_here", "_law_at", "_law_away", "_law_rows", "_law_due", "_law_a", "_law_b", "_law_fresh", "_law_told"]) (sc := defScope s_law) (by decide +kernel)) (fun _ _ _ _ _ => (pg_tupK (K := K) rfl rfl (pgs_cons (pg_name (i := 9) sc_law.nd rfl (Or.inl rfl)) (pgs_cons (pg_name (i := 10) sc_law.nd rfl (Or.inl rfl)) (pgs_cons (pg_name (i := 11) sc_law.nd rfl (Or.inl rfl)) pgs_nil))))) (fun _ _ _ _ _ => (pts_one (pt_cmpR op_ne (pe_slice sl_str (pv 4) (po_some (pv 9)) (po_some (pv 10))) (pv 11) (nomark _)))) (fun _ _ _ _ _ => (pe_cG c_lnthin hg hr (by decide) pass0 (pa_cons (pv 4) (pa_cons (pv 9) (pa_cons (pv 10) (pa_cons (pv 11) pa_nil))))))) pa_nil)))
      (pss_cons (ps_set (i := 12) sc_law.nd rfl (Or.inl rfl) (pe_kw k_thinned hg hr (by decide) pass0 (pk_cons (pv 7) (pk_cons (pv 4) pk_nil))))
      (pss_cons (ps_if (PW.pt (pw_or (pt_cmpR op_ne (pe_callB (Vk.call_reprD hg hu64) (by rfl) T.repr (by decide +kernel) (pa_cons (pv 12) pa_nil)) (pe_callB (Vk.call_reprD hg hu64) (by rfl) T.repr (by decide +kernel) (pa_cons (pv 8) pa_nil)) (nomark _)) (pw_or1 (pt_cmpR op_ne (pe_cG c_lnput hg hr (by decide) pass0 (pa_cons (pv 4) (pa_cons (pv 12) pa_nil))) (pe_cG c_lnput hg hr (by decide) pass0 (pa_cons (pv 4) (pa_cons (pv 7) pa_nil))) (nomark _))))) (pss_one (ps_ret pe_bl)) pss_nil)
      (pss_one (ps_if (PW.pt (pw_or (pt_cmpR op_gt (pe_cD d_cost_of hg hr (by decide) pass0 (pa_cons (pv 12) pa_nil)) (pe_cD d_cost_of hg hr (by decide) pass0 (pa_cons (pv 7) pa_nil)) (nomark _)) (pw_or1 (pt_cmpR op_ne (pe_callB (Vk.call_reprD hg hu64) (by rfl) T.repr (by decide +kernel) (pa_cons (pe_cG c_thinned hg hr (by decide) pass0 (pa_cons (pv 4) (pa_cons (pv 12) pa_nil))) pa_nil)) (pe_callB (Vk.call_reprD hg hu64) (by rfl) T.repr (by decide +kernel) (pa_cons (pv 12) pa_nil)) (nomark _))))) (pss_one (ps_ret pe_bl)) pss_nil)))))))))))))
      (pss_one (ps_ret (pe_and (pe_cmpR op_isN (pe_cG c_single hg hr (by decide) pass0 (pa_cons pe_str (pa_cons pe_str pa_nil))) pe_non (nomark _)) (pe_and (pe_cmpR (op_eqD hu64) (pe_cG c_single hg hr (by decide) pass0 (pa_cons pe_str (pa_cons pe_str pa_nil))) (pe_tup pa_nil) (nomark _)) (pe_one (pe_cmpR (op_eqD hu64) (pe_cG c_thinned hg hr (by decide) pass0 (pa_cons pe_str (pa_cons (pe_tup pa_nil) pa_nil))) (pe_tup pa_nil) (nomark _))))))))), ?_⟩
    refine ⟨_, rfl, a, ns, rfl, hS, fun p pc H1 hp0 Pn0 s1 => ?_⟩
    have T1 : Tabs [(P0, qSgl)] H1 := fun r hr => by
      rw [List.mem_singleton.mp hr]
      exact TabS.nil (s1 _ _ hP0)
    refine ⟨_, rfl, _, _, rfl, .inl ⟨_, s1.seq hS, rfl⟩, _, _, rfl, _, _, rfl, rfl, _, rfl, ?_, ?_, ?_⟩
    · split <;> omega
    · split <;> omega
    refine for_range (lo := 0) (fun i σ H' => ∃ o2 o3 o4 o5 o6 o7 o8 o9 o10 o11 o12 : Option V, σ = [some (.ref a), some (.ref p), o2, o3, o4, o5, o6, o7, o8, o9, o10, o11, o12] ∧ Pen H' p pc (400 * i) ∧ Tabs [(P0, qSgl)] H') ?_ ?_ ?_
    · exact ⟨_, _, _, _, _, _, _, _, _, _, _, rfl, Pn0, T1⟩
    · rintro i σ H2 hi ⟨o2, o3, o4, o5, o6, o7, o8, o9, o10, o11, o12, rfl, P2, T2⟩
      have hi16 : i ≤ 16 := by
        revert hi
        split <;> omega
      refine ⟨_, rfl, p, pc, 400 * i, rfl, P2, by omega, fun sg H3 fsg P3 x3 => ?_⟩
      have T3 := tabs_pen T2 P2 x3
      refine ⟨_, rfl, _, rfl, p, pc, sg, 9, _, rfl, fsg, by decide, P3, by omega, fun x H4 hx okx P4 x4 => ?_⟩
      have T4 := tabs_pen T3 P3 x4
      have xl : x.length ≤ sizeLine := Nat.le_trans hx (by decide)
      refine ⟨_, rfl, _, rfl, _, _, rfl, ⟨xl, rfl⟩, _, _, rfl, rfl, p, pc, _, _, rfl, by omega, by omega, P4, by omega, fun at0 H5 a0 a1 P5 x5 => ?_⟩
      have T5 := tabs_pen T4 P4 x5
      -- the other text
      refine ⟨_, rfl, _, rfl, _, rfl, x, rfl, xl, ?_⟩
      refine ⟨_, rfl, _, rfl, p, pc, sg, 0, 2, _, rfl, by decide, by decide, fsg.1, Nat.le_trans fsg.2.1 (by decide), P5, by omega, fun w1 H6 ww P6 x6 => ?_⟩
      have T6 := tabs_pen T5 P5 x6
      have w1l : w1.length ≤ 2 := ww.2.1
      have c1l : (cutS x none (some at0)).length ≤ 9 := Nat.le_trans (cutS_length _ _ _) hx
      have c1o := cutS_ok okx none (some at0)
      generalize cutS x none (some at0) = c1 at c1l c1o
      refine ⟨_, _, rfl, rfl, Nat.le_of_lt (fewL (by omega)), ?_⟩
      refine ⟨_, rfl, _, rfl, _, rfl, p, pc, 3, _, rfl, by decide, by decide, P6, by omega, fun d H7 d0 d1 P7 x7 => ?_⟩
      have T7 := tabs_pen T6 P6 x7
      refine ⟨_, _, rfl, rfl, _, rfl, x, rfl, xl, ?_⟩
      have c2l : (cutS x (some (at0 + d)) none).length ≤ 9 := Nat.le_trans (cutS_length _ _ _) hx
      have c2o := cutS_ok okx (some (at0 + d)) none
      generalize cutS x (some (at0 + d)) none = c2 at c2l c2o
      refine ⟨_, _, rfl, rfl, Nat.le_of_lt (fewL (by rw [strLen_append]; omega)), ?_⟩
      have ma : (c1 ++ w1 ++ c2).length ≤ 20 := by rw [strLen_append, strLen_append]; omega
      have mo : PyData.strOk (c1 ++ w1 ++ c2) = true := ok_more (ok_more c1o (ok_word fsg ww)) c2o
      generalize c1 ++ w1 ++ c2 = m at ma mo
      refine ⟨_, rfl, _, rfl, _, rfl, _, rfl, _, rfl, _, rfl, p, pc, sg, 9, _, rfl, fsg, by decide, P7, by omega, fun z H8 hz okz P8 x8 => ?_⟩
      have T8 := tabs_pen T7 P7 x8
      refine ⟨_, rfl, by show 6 ≤ sizeLine; decide, fun b hb => ?_⟩
      have sb := same_new (o := .lst [.str m, .str m, .str m, .str z, .str x, .str ""]) hb
      have P9 := P8.stay sb
      have T9 := T8.ext sb
      refine ⟨p, pc, _, _, _, rfl, .lst (SqL.of upd_same), (fun z => by cases z), by show 6 ≤ 1000; decide, P9, by omega, fun v H10 hv P10 x10 => ?_⟩
      have T10 := tabs_pen T9 P9 x10
      have ev : ∃ y : Str, v = .str y ∧ y.length ≤ 20 ∧ PyData.strOk y = true := by
        simp only [List.mem_cons, List.not_mem_nil, or_false] at hv
        rcases hv with rfl | rfl | rfl | rfl | rfl | rfl
        · exact ⟨_, rfl, ma, mo⟩
        · exact ⟨_, rfl, ma, mo⟩
        · exact ⟨_, rfl, ma, mo⟩
        · exact ⟨_, rfl, by omega, okz⟩
        · exact ⟨_, rfl, by omega, okx⟩
        · exact ⟨_, rfl, by decide, ok_none⟩
      obtain ⟨y, rfl, hy, oky⟩ := ev
      have yl : y.length ≤ sizeLine := Nat.le_trans hy (by decide)
      -- single
      refine ⟨_, rfl, _, rfl, rfl, x, y, rfl, by omega, by omega, T10, fun v1 d1 H11 dp1 sg1 T11 e11 n11 => ?_⟩
      have sh := sgl_showy sg1 (by omega) (by omega) oky
      have P11 := pen_extN P10 e11
      refine ⟨_, _, rfl, dp1, sh.sh, sh.nd, Nat.le_trans sh.dp (by decide), Nat.le_trans sh.ln (by decide), ?_⟩
      refine ⟨_, rfl, _, rfl, x, y, rfl, by omega, by omega, oky, fun v2 d2 H12 dp2 sg2 s12 => ?_⟩
      have ed : d1 = d2 := sg1.one sg2
      subst ed
      refine ⟨_, _, rfl, dp2, sh.sh, sh.nd, Nat.le_trans sh.dp (by decide), Nat.le_trans sh.ln (by decide), rfl, _, rfl, ?_⟩
      refine iteNS rfl ?_
      have P12 := P11.stay s12
      have T12 := T11.ext s12
      clear sh sg1 sg2 dp1 dp2 e11 n11
      -- parts
      refine ⟨_, rfl, _, rfl, _, rfl, p, pc, x, sg, _, rfl, by omega, okx, fsg, P12, by omega, fun q xs rs H13 hq rw0 okr l5 w20 P13 x13 => ?_⟩
      have T13 := tabs_pen T12 P12 x13
      have okm := okR_mem okr
      have glen := paired_len rw0
      have hz1 : ∀ r ∈ rs, r.1 < r.2.1 ∧ r.2.1 ≤ x.length ∧ r.2.2.length ≤ 100 := fun r hr => ⟨(okm r hr).1, (okm r hr).2, Nat.le_trans (w20 r hr).1 (by decide)⟩
      have th20 := thinR_news okm w20
      have tlen := thinR_len (x := x) (rs := rs)
      have okt := okR_thin okr
      have okmt := okR_mem okt
      -- what is due
      refine ⟨_, rfl, q, rfl, ⟨_, SqT.of hq⟩, fun D hD => ?_⟩
      have sD := same_new (o := .lst []) hD
      refine lc_tup (K := K) (a := q) (xs := xs) (fun n H' => ∃ ys, H' D = some (.lst ys) ∧ Rw3 H' ys (thinR x (rs.take n)) ∧ Same H13 H') ?_ ?_ ?_ ?_
      · exact ⟨[], upd_same, .nil, sD⟩
      · rintro n H' _ ⟨_, _, _, sm⟩
        exact SqT.of (sm _ _ hq)
      · rintro n v H' hv ⟨ys, hDz, ry, sm⟩
        obtain ⟨r, hr1, t, rfl, ht⟩ := paired_at rw0 hv
        have hz2 := hz1 r (List.mem_of_getElem? hr1)
        have gy := paired_len ry
        have gth : (thinR x (rs.take n)).length ≤ n := by
          unfold thinR
          rw [List.length_map]
          refine Nat.le_trans (List.length_filter_le _ _) ?_
          rw [List.length_take]
          omega
        have hn : n < rs.length := (List.getElem?_eq_some_iff.mp hr1).1
        refine ⟨t, _, rfl, SqT.of (sm _ _ ht), rfl, _, _, rfl, _, _, rfl, _, _, rfl, rfl, ?_⟩
        refine ⟨rfl, _, rfl, _, rfl, _, rfl, _, rfl, _, rfl, x, rfl, xl, _, rfl, rfl, _, rfl, ?_⟩
        have snoc : thinR x (rs.take (n + 1)) = thinR x (rs.take n) ++ (if cutS x (some ((r.1 : Nat) : Int)) (some ((r.2.1 : Nat) : Int)) ≠ r.2.2 then [thinM x r] else []) := by
          unfold thinR
          rw [List.take_add_one, hr1, Option.toList_some, List.filter_append, List.map_append]
          by_cases c : cutS x (some ((r.1 : Nat) : Int)) (some ((r.2.1 : Nat) : Int)) = r.2.2
          · rw [if_neg (fun z => z c)]; simp [c]
          · rw [if_pos c]; simp [c]
        rw [snoc]
        by_cases c : cutS x (some ((r.1 : Nat) : Int)) (some ((r.2.1 : Nat) : Int)) = r.2.2
        · rw [show decide (V.str (cutS x (some ((r.1 : Nat) : Int)) (some ((r.2.1 : Nat) : Int))) = V.str r.2.2) = true from decide_eq_true (by rw [c]), if_neg (fun z => z c), List.append_nil]
          exact iteF ⟨ys, hDz, ry, sm⟩
        · rw [show decide (V.str (cutS x (some ((r.1 : Nat) : Int)) (some ((r.2.1 : Nat) : Int))) = V.str r.2.2) = false from decide_eq_false (fun z => c (V.str.inj z)), if_pos c]
          refine iteT ⟨_, rfl, _, rfl, _, rfl, _, rfl, x, r.1, r.2.1, r.2.2, rfl, hz2.1, hz2.2.1, by omega, hz2.2.2, fun u H2 hu hu2 s2 => ?_⟩
          have hD2 := s2 _ _ hDz
          refine ⟨_, hD2, fewL (by omega), ys ++ [.ref u], upd_same, ?_, upd_out hD (sm.trans s2)⟩
          exact Paired.snoc ((ry.keep s2).keepT (upd_list hD2)) ⟨u, rfl, upd_list hD2 _ _ hu2⟩
      rintro H14 ⟨ys, hD2, ry, s14⟩
      rw [List.take_of_length_le (by omega)] at ry
      refine ⟨D, ys, rfl, .inl ⟨SqL.of hD2, fun t1 ht1 => ?_⟩⟩
      have st1 := same_new (o := .tup ys) ht1
      have s15 := s14.trans st1
      have ry15 := ry.keep st1
      have hq15 := s15 _ _ hq
      have rw15 := rw0.keep s15
      have h15 : (upd H14 t1 (.tup ys)) t1 = some (.tup ys) := upd_same
      generalize upd H14 t1 (.tup ys) = H15 at s15 ry15 hq15 rw15 h15
      -- thinned
      refine ⟨_, rfl, _, rfl, rfl, x, q, xs, rs, rfl, by omega, hq15, rw15, by omega, hz1, fun t2 ys2 H16 _ h16 ry16 s16 => ?_⟩
      have sh : Showy (.tuple ((thinR x rs).map rowD)) 2 210000 := rows_showy (by omega) fun r hr => by
        have q1 := okmt r hr
        have q2 := th20 r hr
        exact ⟨by omega, by omega, by omega, q2.2⟩
      have hz3 : ∀ r ∈ thinR x rs, r.1 < r.2.1 ∧ r.2.1 ≤ x.length ∧ r.2.2.length ≤ 100 := fun r hr => ⟨(okmt r hr).1, (okmt r hr).2, Nat.le_trans (th20 r hr).1 (by decide)⟩
      refine ⟨_, rfl, _, _, rfl, .tup (SqT.of h16) (rw3_dp ry16), sh.sh, sh.nd, Nat.le_trans sh.dp (by decide), Nat.le_trans sh.ln (by decide), ?_⟩
      refine ⟨_, rfl, _, _, rfl, .tup (SqT.of (s16 _ _ h15)) (rw3_dp (ry15.keep s16)), sh.sh, sh.nd, Nat.le_trans sh.dp (by decide), Nat.le_trans sh.ln (by decide), rfl, _, rfl, ?_⟩
      refine iteNS rfl ?_
      refine ⟨_, rfl, _, rfl, x, t2, ys2, thinR x rs, rfl, by omega, h16, ry16, by omega, fun r hr => (hz3 r hr).2.2, fun H17 s17 => ?_⟩
      refine ⟨_, rfl, _, rfl, x, q, xs, rs, rfl, by omega, s17 _ _ (s16 _ _ hq15), (rw15.keep s16).keep s17, by omega, fun r hr => (hz1 r hr).2.2, fun H18 s18 => ?_⟩
      rw [putH_thin okr]
      refine ⟨rfl, _, rfl, ?_⟩
      refine iteNS rfl ?_
      have sC := s17.trans s18
      -- what it costs
      refine ⟨_, rfl, t2, ys2, thinR x rs, rfl, sC _ _ h16, ry16.keep sC, by omega, fun r hr => (hz3 r hr).2.2, fun H19 s19 => ?_⟩
      refine ⟨_, rfl, q, xs, rs, rfl, s19 _ _ (sC _ _ (s16 _ _ hq15)), ((rw15.keep s16).keep sC).keep s19, by omega, fun r hr => (hz1 r hr).2.2, fun H20 s20 => ?_⟩
      have sE := s19.trans s20
      refine ⟨_, _, rfl, rfl, _, rfl, ?_⟩
      rw [show decide ((rs.map cost1).sum < ((thinR x rs).map cost1).sum) = false from decide_eq_false (by have := cost_thin okr; omega)]
      refine iteF ?_
      have h20 := sE _ _ (sC _ _ h16)
      have ry20 := (ry16.keep sC).keep sE
      refine ⟨_, rfl, _, rfl, x, t2, ys2, thinR x rs, rfl, by omega, h20, ry20, by omega, hz3, fun t3 ys3 H21 _ h21 ry21 s21 => ?_⟩
      rw [thinR_idem okr] at ry21
      refine ⟨_, _, rfl, .tup (SqT.of h21) (rw3_dp ry21), sh.sh, sh.nd, Nat.le_trans sh.dp (by decide), Nat.le_trans sh.ln (by decide), ?_⟩
      refine ⟨_, rfl, _, _, rfl, .tup (SqT.of (s21 _ _ h20)) (rw3_dp (ry20.keep s21)), sh.sh, sh.nd, Nat.le_trans sh.dp (by decide), Nat.le_trans sh.ln (by decide), rfl, _, rfl, ?_⟩
      refine iteNS rfl ?_
      have sF := (s15.trans s16).trans ((sC.trans sE).trans s21)
      exact ⟨_, _, _, _, _, _, _, _, _, _, _, rfl, (P13.stay sF).mono (by omega), T13.ext sF⟩
    · rintro σ H2 ⟨o2, o3, o4, o5, o6, o7, o8, o9, o10, o11, o12, rfl, P2, T2⟩
      refine ⟨"", "a", rfl, by decide, by decide, T2, fun v1 d1 H3 dp1 sg1 T3 e3 n3 => ?_⟩
      have e1 : d1 = .none := by
        rcases sg1 with ⟨h, _⟩ | ⟨_, _, h⟩ | ⟨_, a, b, f, _⟩
        · exact absurd h (by decide)
        · exact h
        · have l1 := f.lt
          have l2 : b ≤ 0 := f.le
          omega
      subst e1
      cases dp1
      refine ⟨rfl, _, rfl, iteT ?_⟩
      refine ⟨"", "", rfl, by decide, by decide, T3, fun v2 d2 H4 dp2 sg2 T4 e4 n4 => ?_⟩
      have e2 : d2 = .tuple [] := by
        rcases sg2 with ⟨_, h⟩ | ⟨h, _⟩ | ⟨h, _⟩
        · exact h
        · exact absurd rfl h
        · exact absurd rfl h
      subst e2
      obtain ⟨a2, rfl, h2⟩ : ∃ a2, v2 = V.ref a2 ∧ SqT K H4 a2 [] := by
        cases dp2 with
        | tup h1 h2 =>
          cases h2
          exact ⟨_, rfl, h1⟩
      refine ⟨by show 0 ≤ sizeLine; decide, fun q hq => ?_⟩
      have sq := same_new (o := .tup []) hq
      refine ⟨_, _, .tup (sqT_keep h2 sq) .nil, .tup (SqT.of upd_same) .nil, by decide +kernel, by decide +kernel, _, rfl, iteT ?_⟩
      refine ⟨by show 0 ≤ sizeLine; decide, fun q2 hq2 => ?_⟩
      refine ⟨"ab", q2, [], [], rfl, by decide, upd_same, .nil, by decide, (fun r hr => nomatch hr), fun t ys H5 _ ht ry s5 => ?_⟩
      have ey : ys = [] := by
        have := paired_len ry
        exact List.length_eq_zero_iff.mp this
      subst ey
      refine ⟨by show 0 ≤ sizeLine; decide, fun q3 hq3 => ?_⟩
      refine ⟨_, _, .tup (SqT.of (same_new hq3 _ _ ht)) .nil, .tup (SqT.of upd_same) .nil, by decide +kernel, by decide +kernel, ?_⟩
      exact k _

end
end Vk
set_option Elab.async false
set_option maxRecDepth 100000
set_option maxHeartbeats 4000000
set_option linter.all false
namespace Vk
open PySem PySem.Spec PyProof.Rows L2 LamX
/-! ## the law's own call, one def of the text makes lambdas (its code object c, its table P) -/
theorem lawGT {P : Program} {w : World} {K : PySem.W.Frag} {mg mb : Str → Option Value} {CX : CXT} {k : Nat} {fa a c tP : Addr} {fd : FuncData} {x : Str} {sp : Sp} {s1 : Shared} {vs : List Value} {ns : List Int}
    (KX : K.In s1.heap) (gns : s1.heap.Ns mainGlobals mg) (bns : s1.heap.Ns builtinsNs mb) (bbt : ∀ x : Str, x ≠ "__name__" → mb x = bootBuiltins x) (nolim : s1.heap.NoLimit) (gens0 : s1.gens = #[])
    (tabAt : s1.heap.get? tP = some { cls := .none, data := .fields #[] }) (tabK : K.lookup tP = none) (code : PySem.W.CodeHd s1.heap c tP)
    (bmain : ∃ (bm : Addr) (ob : Obj), mg "__builtins__" = some (.ref bm) ∧ bm ≠ builtinsNs ∧ s1.heap.get? bm = some ob ∧ ob.cls = .type "module" ∧ ob.dict = some builtinsNs ∧ ob.data = .plain)
    (scr : s1.heap.get? a = some { cls := .type "list", data := .seq vs.toArray }) (hints : IntsAre vs ns) (short : ns.length ≤ sizeLine) (room : Room k callerA)
    (F : ∀ base : Heap, K.In base → base.Ns mainGlobals mg → TabB base mg c tP → FnG P w K mg base CX k fa fd [x] sp) (bind1 : ∀ (s : Shared) (u : Value), BindsTo s fd ⟨[u], []⟩ [(x, u)])
    (prom : ∀ H : Hp, H tP = some (.tbl #[]) → SqL K H a (ns.map V.int) → sp [.ref a] H (fun v _ => v = .bl true) fun _ _ _ => False)
    (noX : ∀ H e s2, CX [] H s1 (fun _ _ _ => False) e s2 → False) :
    codeAny (model P w) callerA (.call (.ref fa) ⟨[.ref a], []⟩) (fun r s2 => r = .ok (.ret (.bool true)) ∧ OldK s1.heap s2.heap ∧ s2.os = s1.os ∧ AllBare s2.gens) s1 := by
  have rel := vals_ints hints
  have aP : a ≠ tP := fun z => by
    rw [z, tabAt] at scr
    cases scr
  have main : ∀ H : Hp, H tP = some (.tbl #[]) → (∀ b u, H b = some u → b = tP ∨ (b = a ∧ ∃ ob xs, u = .frz ob (.lst xs))) → SqL K H a (ns.map V.int) → HOk P w H s1.heap → (∀ u, H a = some u → K.lookup a = none) →
      codeAny (model P w) callerA (.call (.ref fa) ⟨[.ref a], []⟩) (fun r s2 => r = .ok (.ret (.bool true)) ∧ OldK s1.heap s2.heap ∧ s2.os = s1.os ∧ AllBare s2.gens) s1 := by
    intro H hP only seq ok un1
    have apart : ∀ {b : Addr} {o : Obj}, s1.heap.get? b = some o → (∀ ws n, o.data ≠ .seq ws n) → o.data ≠ .fields #[] → H b = none := by
      intro b o e n1 n2
      match q : H b with
      | none => rfl
      | some u =>
        rcases only b u q with rfl | ⟨rfl, _⟩
        · rw [tabAt] at e
          cases e
          exact absurd rfl n2
        · rw [scr] at e
          cases e
          exact absurd rfl (n1 _ _)
    have nsAt : ∀ {b : Addr} {m : Str → Option Value}, s1.heap.Ns b m → (hidT s1.heap H).Ns b m := by
      rintro b m ⟨o, es, ep, e, d, r⟩
      exact ⟨o, es, ep, hidT_get e (apart e (fun ws n z => nomatch d.symm.trans z) (fun z => nomatch d.symm.trans z)), d, r⟩
    have inK : K.In (hidT s1.heap H) := by
      intro b o e
      refine hidT_get (KX b o e) ?_
      match q : H b with
      | none => rfl
      | some u =>
        rcases only b u q with rfl | ⟨rfl, _⟩
        · exact nomatch tabK.symm.trans e
        · exact nomatch (un1 u q).symm.trans e
    have limAt : (hidT s1.heap H).NoLimit := match nolim with | ⟨mc, h1, h2⟩ => ⟨mc, nsAt h1, h2⟩
    have mod1 : Mod K mg (hidT s1.heap H) := ⟨inK, nsAt gns, ⟨mb, nsAt bns, bbt⟩, limAt⟩
    have tb : TabB (hidT s1.heap H) mg c tP := by
      refine ⟨?_, ?_, fun z => ?_⟩
      · obtain ⟨o, us, file, tf, flags, tg, inF, text, tt, e1, r1, r2, r3, r⟩ := code
        refine ⟨o, us, file, tf, flags, tg, inF, text, tt, hidT_get e1 (apart e1 (fun ws n z => nomatch r2.symm.trans z) (fun z => ?_)), r1, r2, r3, r⟩
        have z2 := r2.symm.trans z
        cases z2
        simp at r3
      · obtain ⟨bm, ob, b1, b2, b3, b4, b5, b6⟩ := bmain
        refine ⟨bm, ob, b1, b2, fun q => ?_, fun q => ?_, hidT_get b3 (apart b3 (fun ws n z => nomatch b6.symm.trans z) (fun z => nomatch b6.symm.trans z)), b4, b5, b6⟩
        · obtain ⟨o, es, ep, e, hd, _⟩ := gns
          rw [q, e] at b3
          cases b3
          exact nomatch hd.symm.trans b6
        · rw [q, tabAt] at b3
          cases b3
          cases b6
      · obtain ⟨o, es, ep, e, hd, _⟩ := gns
        rw [z, tabAt] at e
        cases e
        cases hd
    have start0 : Env0 P w K mg (hidT s1.heap H) callerA [] s1 H := ⟨rfl, mod1, fun b o => of_hidT, Nat.le_of_eq (hidT_size s1.heap H), trivial, (fun b hb => absurd hb (List.not_mem_nil (a := b))), ok, AllBare.of_eq gens0⟩
    refine codeAny_mono ((F _ inK (nsAt gns) tb).run callerA [] s1 H ⟨[.ref a], []⟩ [.ref a] [.ref a] _ _ rfl room start0 (bind1 s1 (.ref a)) (.cons rfl .nil) (prom H hP seq)) ?_
    intro res s2 h
    match res, h with
    | .error e, h => exact (noX H e s2 h).elim
    | .ok .next, h => exact h.elim
    | .ok .brk, h => exact h.elim
    | .ok .cont, h => exact h.elim
    | .ok (.ret u), ⟨v, H2, os, bare, un, ok2, r2, (hv : v = .bl true)⟩ =>
      cases hv
      have hu : u = Value.bool true := r2
      cases hu
      obtain ⟨more, grown⟩ := un.tbls tP #[] hP
      have tab2 : s2.heap.get? tP = some { cls := .none, data := .fields (#[] ++ more) } := ok2 tP _ grown
      have rest : ∀ b o, b ≠ tP → s1.heap.get? b = some o → s2.heap.get? b = some o := by
        intro b o nb e
        match q : H b with
        | none => exact un.keep b o e q (fun z => nomatch z) (fun z => nomatch z)
        | some u =>
          rcases only b u q with rfl | ⟨rfl, ob, xs, rfl⟩
          · exact absurd rfl nb
          · have c1 := (ok b _ q).1
            have c2 := (ok2 b _ (un.frzs b ob _ q)).1
            exact c2.trans (c1.symm.trans e)
      refine ⟨rfl, ⟨fun b o e => ?_, fun b o e => ?_⟩, os, bare⟩
      · by_cases hb : b = tP
        · subst hb
          have e2 := tabAt.symm.trans e
          cases e2
          exact .inr (.inl ⟨(code.tab tabAt).isCodeTable, rfl, #[], more, rfl, tab2⟩)
        · exact .inl (rest b o hb e)
      · by_cases hb : b = tP
        · exact ⟨_, hb ▸ tab2⟩
        · exact ⟨o, rest b o hb e⟩
  match hk : K.lookup a with
  | some o =>
    have e := (KX a o hk).symm.trans scr
    cases e
    refine main (fun b => if b = tP then some (.tbl #[]) else none) (if_pos rfl) (fun b u z => ?_) (Or.inr ⟨_, vs.toArray, _, hk, rfl, rfl, rfl, ?_, ?_⟩) (fun b u z => ?_) (fun u z => nomatch (if_neg aP).symm.trans z)
    · by_cases hb : b = tP
      · exact .inl hb
      · exact nomatch (if_neg hb).symm.trans z
    · rw [List.size_toArray, hints.length]
      exact short
    · simpa using rel
    · by_cases hb : b = tP
      · subst hb
        have z2 := (if_pos rfl).symm.trans z
        cases z2
        exact tabAt
      · exact nomatch (if_neg hb).symm.trans z
  | none =>
    refine main (fun b => if b = a then some (.frz { cls := .type "list", data := .seq vs.toArray } (.lst (ns.map V.int))) else if b = tP then some (.tbl #[]) else none) ((if_neg aP.symm).trans (if_pos rfl)) (fun b u z => ?_) (Or.inl (Or.inr ⟨_, if_pos rfl⟩)) (fun b u z => ?_) (fun _ _ => hk)
    · by_cases ha : b = a
      · exact .inr ⟨ha, _, _, (Option.some.inj ((if_pos ha).symm.trans z)).symm⟩
      · by_cases hb : b = tP
        · exact .inl hb
        · exact nomatch ((if_neg ha).trans (if_neg hb)).symm.trans z
    · by_cases ha : b = a
      · subst ha
        have z1 := (if_pos rfl).symm.trans z
        cases z1
        exact ⟨scr, (by rw [List.length_map]; exact short), vs, _, rel, scr⟩
      · have z := (if_neg ha).symm.trans z
        by_cases hb : b = tP
        · subst hb
          have z2 := (if_pos rfl).symm.trans z
          cases z2
          exact tabAt
        · exact nomatch (if_neg hb).symm.trans z
theorem walkXT {l : PySem.W.OpenLaw} {n k : Nat} {q : Program} {loose : List Str} {XP : (Str → Option Value) → Heap → Prop} {YP : World → Heap → Prop} {d : DefRec} {K : Params → PySem.W.Frag} {CX : CXT} {sp : Addr → PySem.W.Frag → Sp} {x : Str}
    (hn : l.most = some n) (hn2 : n ≤ sizeLine) (hdf : d.params.defaults = []) (hr : Room k callerA) (hY : ∀ (w : World) (h : Heap), YP w h → (K w.params).In h)
    (F : ∀ (w : World) (mg : Str → Option Value) (fa : Addr) (h : Heap), (K w.params).In h → (∃ s0 mb, PySem.W.Ground q loose [] XP w s0 mg mb h) → mg d.name = some (.ref fa) →
      ∃ (fd : FuncData) (c tP : Addr), h.get? tP = some { cls := .none, data := .fields #[] } ∧ (K w.params).lookup tP = none ∧ PySem.W.CodeHd h c tP ∧ (∀ (s : Shared) (u : Value), BindsTo s fd ⟨[u], []⟩ [(x, u)]) ∧
        ∀ base : Heap, (K w.params).In base → base.Ns mainGlobals mg → TabB base mg c tP → FnG l.prog w (K w.params) mg base CX k fa fd [x] (sp tP (K w.params)))
    (hsp : ∀ (tP : Addr) (K : PySem.W.Frag) (H : Hp) (a : Addr) (ns : List Int), ns.length ≤ n → H tP = some (.tbl #[]) → SqL K H a (ns.map V.int) → sp tP K [.ref a] H (fun v _ => v = .bl true) fun _ _ _ => False)
    (noX : ∀ (H : Hp) (s : Shared) (e : Value) (s2 : Shared), CX [] H s (fun _ _ _ => False) e s2 → False) : PySem.W.WalkO q loose XP YP l.row.toRowW d [] (fun f vs => PySem.call f vs) := by
  refine Att.attach_call hn hdf ?_
  intro w s0 s1 mg mb fa o pm cd doc a vs ns G Y _ _ _ hmg scr hints hlen gens0
  obtain ⟨fd, c, tP, t1, t2, t3, hb, hF⟩ := F w mg fa _ (hY w _ Y) ⟨s0, mb, G⟩ hmg
  exact lawGT (hY w _ Y) G.T.g G.T.b G.T.builtins G.T.nolimit gens0 t1 t2 t3 G.T.bmain scr hints (Nat.le_trans hlen hn2) hr hF hb (fun H h1 h2 => hsp tP _ H a ns hlen h1 h2) (fun H => noX H s1)
theorem const_i {p : Program} {loose : List Str} {mean : ExcName → Option Value} {mg mb : Str → Option Value} {h : Heap} (T : PyProof.Rows.Top p loose mean mg mb h) {x : Str} {i : Int} (e : PyProof.Rows.valOf p x = some (.int i)) : ∃ u, mg x = some u ∧ RelV (.int i) u := by
  obtain ⟨v, hv, r⟩ := T.const x _ e
  cases r h with
  | int i t => exact ⟨_, hv, ⟨t, rfl⟩⟩
theorem const_s {p : Program} {loose : List Str} {mean : ExcName → Option Value} {mg mb : Str → Option Value} {h : Heap} (T : PyProof.Rows.Top p loose mean mg mb h) {x z : Str} (e : PyProof.Rows.valOf p x = some (.str z)) : ∃ u, mg x = some u ∧ RelV (.str z) u := by
  obtain ⟨v, hv, r⟩ := T.const x _ e
  cases r h with
  | str i t => exact ⟨_, hv, ⟨t, rfl⟩⟩
/-- the table of a def's code object -/
theorem tab_at {p : Program} {loose : List Str} {mean : ExcName → Option Value} {mg mb : Str → Option Value} {h : Heap} {K : PySem.W.Frag} {x : Str} {c tP : Addr} (T : PyProof.Rows.Top p loose mean mg mb h) (X : K.In h) (hr : ((PyProof.Rows.recsOf p).find? (fun e => e.name == x)).isSome = true) (ht : PySem.W.tabIn K x = some (c, tP)) (no : PySem.W.noTabs K = true) :
    h.get? tP = some { cls := .none, data := .fields #[] } ∧ K.lookup tP = none ∧ PySem.W.CodeHd h c tP := by
  obtain ⟨d, hd⟩ := Option.isSome_iff_exists.mp hr
  obtain ⟨h1, h2⟩ := PySem.W.tab_of T X hd ht
  refine ⟨h2, ?_, h1⟩
  match q : K.lookup tP with
  | none => rfl
  | some o =>
    have e := (X _ _ q).symm.trans h2
    cases e
    have z := List.all_eq_true.mp no _ (PySem.W.mem_of_lookupK q)
    exact nomatch (show false = true from z)
end Vk
set_option Elab.async false
set_option maxRecDepth 100000
set_option linter.all false
set_option maxHeartbeats 4000000
namespace Vk
open PySem PySem.Spec PyProof.Rows L2 LamX NdefX
theorem makC_mk {K : PySem.W.Frag} {x qual : Str} {st : Stmt} {f c : Addr} {oc : Value} {od an : Option Addr} {sl : Array (Option Value)} {kV doc pm ct : Value}
    (l : K.lookup f = some ⟨oc, od, .func (PySem.W.fnOf x qual (defArgs st) (defBody st) (defScope st) .none kV doc pm an (.ref c) ct), sl⟩) (h : PySem.W.codeIn K (.ref c) qual = true) (k : PySem.W.keepIn K (.ref f) = true) :
    FunC K x qual st f (PySem.W.fnOf x qual (defArgs st) (defBody st) (defScope st) .none kV doc pm an (.ref c) ct) c := ⟨⟨oc, od, kV, doc, pm, an, ct, sl, rfl, l, h⟩, k⟩
theorem tab_mk {K : PySem.W.Frag} {x : Str} {f c P : Addr} {oc o2 v0 v1 v2 v3 v4 v5 v6 v7 v8 v9 v10 : Value} {od d2 : Option Addr} {fd : FuncData} {sl s2 : Array (Option Value)} {rest : List Value} (a : PySem.W.nsIn K mainGlobals x = some (some (.ref f))) (l : K.lookup f = some ⟨oc, od, .func fd, sl⟩) (hc : fd.code = .ref c)
    (l2 : K.lookup c = some ⟨o2, d2, .fields (List.toArray (v0 :: v1 :: v2 :: v3 :: v4 :: v5 :: v6 :: v7 :: v8 :: v9 :: v10 :: .ref P :: rest)), s2⟩) : PySem.W.tabIn K x = some (c, P) := by
  unfold PySem.W.tabIn
  rw [a]
  dsimp only
  rw [l]
  dsimp only
  rw [hc]
  dsimp only
  rw [l2]
  rfl
/-- a def with one value of its own for a parameter that is named -/
theorem fund_mk {K : PySem.W.Frag} {x y : Str} {st : Stmt} {f D : Addr} {oc : Value} {od an : Option Addr} {sl : Array (Option Value)} {doc pm cd ct : Value} {i : Int} {tk : Tok}
    (l : K.lookup f = some ⟨oc, od, .func (PySem.W.fnOf x x (defArgs st) (defBody st) (defScope st) .none (.ref D) doc pm an cd ct), sl⟩) (c : PySem.W.codeIn K cd x = true) (k : PySem.W.keepIn K (.ref f) = true)
    (e : PySem.W.nsIn K D y = some (some (.int i tk))) : L2.FunD K x x (defArgs st) (defBody st) (defScope st) [] [(y, .int i)] f (PySem.W.fnOf x x (defArgs st) (defBody st) (defScope st) .none (.ref D) doc pm an cd ct) :=
  ⟨⟨oc, od, .none, .ref D, doc, pm, an, cd, ct, sl, rfl, l, c, .inl ⟨rfl, rfl⟩, .inr ⟨D, rfl, fun q hq => by
    rw [List.mem_singleton.mp hq]
    exact ⟨_, e, tk, rfl⟩⟩⟩, k⟩
structure AtD (K : PySem.W.Frag) (x y : Str) (i : Int) (st : Stmt) (f : Addr) (fd : FuncData) : Prop where
  ns : PySem.W.nsIn K mainGlobals x = some (some (.ref f))
  fn : Fun K x x st f fd
  fd : L2.FunD K x x (defArgs st) (defBody st) (defScope st) [] [(y, .int i)] f fd
theorem atd_mk {K : PySem.W.Frag} {x y : Str} {st : Stmt} {f D : Addr} {oc : Value} {od an : Option Addr} {sl : Array (Option Value)} {doc pm cd ct : Value} {i : Int} {tk : Tok}
    (a : PySem.W.nsIn K mainGlobals x = some (some (.ref f)))
    (l : K.lookup f = some ⟨oc, od, .func (PySem.W.fnOf x x (defArgs st) (defBody st) (defScope st) .none (.ref D) doc pm an cd ct), sl⟩) (c : PySem.W.codeIn K cd x = true) (k : PySem.W.keepIn K (.ref f) = true)
    (e : PySem.W.nsIn K D y = some (some (.int i tk))) : AtD K x y i st f (PySem.W.fnOf x x (defArgs st) (defBody st) (defScope st) .none (.ref D) doc pm an cd ct) := ⟨a, L2.fun_mk l c k, fund_mk l c k e⟩
theorem all {l : PySem.W.OpenLaw} {w : World} {K : PySem.W.Frag} {h : Heap} {mg : Str → Option Value} {fa : Addr} (X : K.In h) (G : h.Ns mainGlobals mg) (hfa : mg "law" = some (.ref fa))
    (d_stands_twice : ∃ (f : Addr) (fd : FuncData), At K "stands_twice" s_stands_twice f fd)
    (d_stands_once : ∃ (f : Addr) (fd : FuncData), At K "stands_once" s_stands_once f fd)
    (d_least_ends : ∃ (f : Addr) (fd : FuncData), At K "least_ends" s_least_ends f fd)
    (d_common_length : ∃ (f : Addr) (fd : FuncData), At K "common_length" s_common_length f fd)
    (d_cost_of : ∃ (f : Addr) (fd : FuncData), AtD K "cost_of" "each" 0 s_cost_of f fd)
    (d_thin : ∃ (f : Addr) (fd : FuncData), At K "thin" s_thin f fd)
    (d_thinned : ∃ (f : Addr) (fd : FuncData), At K "thinned" s_thinned f fd)
    (d_ldraw : ∃ (f : Addr) (fd : FuncData), At K "_law_draw" s_ldraw f fd)
    (d_lpen : ∃ (f : Addr) (fd : FuncData), At K "_law_pen" s_lpen f fd)
    (d_lpick : ∃ (f : Addr) (fd : FuncData), At K "_law_pick" s_lpick f fd)
    (d_lsigns : ∃ (f : Addr) (fd : FuncData), At K "_law_signs" s_lsigns f fd)
    (d_lfew : ∃ (f : Addr) (fd : FuncData), At K "_law_few" s_lfew f fd)
    (d_lword : ∃ (f : Addr) (fd : FuncData), At K "_law_word" s_lword f fd)
    (d_lplaces : ∃ (f : Addr) (fd : FuncData), At K "_law_places" s_lplaces f fd)
    (d_lntext : ∃ (f : Addr) (fd : FuncData), At K "_law_ntext" s_lntext f fd)
    (d_lnonce : ∃ (f : Addr) (fd : FuncData), At K "_law_nonce" s_lnonce f fd)
    (d_lnaround : ∃ (f : Addr) (fd : FuncData), At K "_law_naround" s_lnaround f fd)
    (d_lnput : ∃ (f : Addr) (fd : FuncData), At K "_law_nput" s_lnput f fd)
    (d_lndrawn : ∃ (f : Addr) (fd : FuncData), At K "_law_ndrawn" s_lndrawn f fd)
    (d_lnsingle : ∃ (f : Addr) (fd : FuncData), At K "_law_nsingle" s_lnsingle f fd)
    (d_lnthin : ∃ (f : Addr) (fd : FuncData), At K "_law_nthin" s_lnthin f fd)
    (d_law : ∃ (f : Addr) (fd : FuncData), At K "law" s_law f fd)
    (d_single : ∃ (f c tP : Addr) (fd : FuncData), PySem.W.nsIn K mainGlobals "single" = some (some (.ref f)) ∧ FunC K "single" "single" s_single f fd c ∧ PySem.W.tabIn K "single" = some (c, tP))
    (z_len : PySem.W.nsIn K mainGlobals "len" = some none)
    (z_list : PySem.W.nsIn K mainGlobals "list" = some none)
    (z_int : PySem.W.nsIn K mainGlobals "int" = some none)
    (z_abs : PySem.W.nsIn K mainGlobals "abs" = some none)
    (z_range : PySem.W.nsIn K mainGlobals "range" = some none)
    (z_min : PySem.W.nsIn K mainGlobals "min" = some none)
    (z_repr : PySem.W.nsIn K mainGlobals "repr" = some none)
    (z_max : PySem.W.nsIn K mainGlobals "max" = some none)
    (z_sum : PySem.W.nsIn K mainGlobals "sum" = some none)
    (z_tuple : PySem.W.nsIn K mainGlobals "tuple" = some none)
    (z_zip : PySem.W.nsIn K mainGlobals "zip" = some none)
    (z_enumerate : PySem.W.nsIn K mainGlobals "enumerate" = some none)
    (tb : ∀ c tP : Addr, PySem.W.tabIn K "single" = some (c, tP) → h.get? tP = some { cls := .none, data := .fields #[] } ∧ K.lookup tP = none ∧ PySem.W.CodeHd h c tP)
    : ∃ (fd : FuncData) (c tP : Addr), h.get? tP = some { cls := .none, data := .fields #[] } ∧ K.lookup tP = none ∧ PySem.W.CodeHd h c tP ∧ (∀ (s : Shared) (v : Value), BindsTo s fd ⟨[v], []⟩ [("_law_script", v)]) ∧ ∀ base : Heap, K.In base → base.Ns mainGlobals mg → TabB base mg c tP → FnG l.prog w K mg base CX0 5 fa fd ["_law_script"] (spLaw tP K) := by
  obtain ⟨f_stands_twice, fd_stands_twice, A_stands_twice⟩ := d_stands_twice
  have m_stands_twice := PySem.W.mg_of X G A_stands_twice.ns
  obtain ⟨f_stands_once, fd_stands_once, A_stands_once⟩ := d_stands_once
  have m_stands_once := PySem.W.mg_of X G A_stands_once.ns
  obtain ⟨f_least_ends, fd_least_ends, A_least_ends⟩ := d_least_ends
  have m_least_ends := PySem.W.mg_of X G A_least_ends.ns
  obtain ⟨f_common_length, fd_common_length, A_common_length⟩ := d_common_length
  have m_common_length := PySem.W.mg_of X G A_common_length.ns
  obtain ⟨f_cost_of, fd_cost_of, A_cost_of⟩ := d_cost_of
  have m_cost_of := PySem.W.mg_of X G A_cost_of.ns
  obtain ⟨f_thin, fd_thin, A_thin⟩ := d_thin
  have m_thin := PySem.W.mg_of X G A_thin.ns
  obtain ⟨f_thinned, fd_thinned, A_thinned⟩ := d_thinned
  have m_thinned := PySem.W.mg_of X G A_thinned.ns
  obtain ⟨f_ldraw, fd_ldraw, A_ldraw⟩ := d_ldraw
  have m_ldraw := PySem.W.mg_of X G A_ldraw.ns
  obtain ⟨f_lpen, fd_lpen, A_lpen⟩ := d_lpen
  have m_lpen := PySem.W.mg_of X G A_lpen.ns
  obtain ⟨f_lpick, fd_lpick, A_lpick⟩ := d_lpick
  have m_lpick := PySem.W.mg_of X G A_lpick.ns
  obtain ⟨f_lsigns, fd_lsigns, A_lsigns⟩ := d_lsigns
  have m_lsigns := PySem.W.mg_of X G A_lsigns.ns
  obtain ⟨f_lfew, fd_lfew, A_lfew⟩ := d_lfew
  have m_lfew := PySem.W.mg_of X G A_lfew.ns
  obtain ⟨f_lword, fd_lword, A_lword⟩ := d_lword
  have m_lword := PySem.W.mg_of X G A_lword.ns
  obtain ⟨f_lplaces, fd_lplaces, A_lplaces⟩ := d_lplaces
  have m_lplaces := PySem.W.mg_of X G A_lplaces.ns
  obtain ⟨f_lntext, fd_lntext, A_lntext⟩ := d_lntext
  have m_lntext := PySem.W.mg_of X G A_lntext.ns
  obtain ⟨f_lnonce, fd_lnonce, A_lnonce⟩ := d_lnonce
  have m_lnonce := PySem.W.mg_of X G A_lnonce.ns
  obtain ⟨f_lnaround, fd_lnaround, A_lnaround⟩ := d_lnaround
  have m_lnaround := PySem.W.mg_of X G A_lnaround.ns
  obtain ⟨f_lnput, fd_lnput, A_lnput⟩ := d_lnput
  have m_lnput := PySem.W.mg_of X G A_lnput.ns
  obtain ⟨f_lndrawn, fd_lndrawn, A_lndrawn⟩ := d_lndrawn
  have m_lndrawn := PySem.W.mg_of X G A_lndrawn.ns
  obtain ⟨f_lnsingle, fd_lnsingle, A_lnsingle⟩ := d_lnsingle
  have m_lnsingle := PySem.W.mg_of X G A_lnsingle.ns
  obtain ⟨f_lnthin, fd_lnthin, A_lnthin⟩ := d_lnthin
  have m_lnthin := PySem.W.mg_of X G A_lnthin.ns
  obtain ⟨f_law, fd_law, A_law⟩ := d_law
  have m_law := PySem.W.mg_of X G A_law.ns
  obtain ⟨f_single, c_sg, tP, fd_single, q_single, F_single, w_single⟩ := d_single
  have m_single := PySem.W.mg_of X G q_single
  have e := hfa.symm.trans m_law
  cases e
  have T : Txt mg := ⟨PySem.W.mg_none_of X G z_len, PySem.W.mg_none_of X G z_list, PySem.W.mg_none_of X G z_int, PySem.W.mg_none_of X G z_abs, PySem.W.mg_none_of X G z_range, PySem.W.mg_none_of X G z_min, PySem.W.mg_none_of X G z_repr, PySem.W.mg_none_of X G z_max, PySem.W.mg_none_of X G z_sum, PySem.W.mg_none_of X G z_tuple, PySem.W.mg_none_of X G z_zip, PySem.W.mg_none_of X G z_enumerate⟩
  have bd_stands_twice : Binds K fd_stands_twice ["text", "word"] [] := A_stands_twice.fn.binds (ps := ["text", "word"]) fun _ _ _ _ _ _ us hl => match us, hl with | [_, _], _ => rfl
  have bd_stands_once : Binds K fd_stands_once ["text", "word"] [] := A_stands_once.fn.binds (ps := ["text", "word"]) fun _ _ _ _ _ _ us hl => match us, hl with | [_, _], _ => rfl
  have bd_least_ends : Binds K fd_least_ends ["text"] [] := A_least_ends.fn.binds (ps := ["text"]) fun _ _ _ _ _ _ us hl => match us, hl with | [_], _ => rfl
  have bd_common_length : Binds K fd_common_length ["one", "other"] [] := A_common_length.fn.binds (ps := ["one", "other"]) fun _ _ _ _ _ _ us hl => match us, hl with | [_, _], _ => rfl
  have bd_thin : Binds K fd_thin ["text", "begin", "end", "new"] [] := A_thin.fn.binds (ps := ["text", "begin", "end", "new"]) fun _ _ _ _ _ _ us hl => match us, hl with | [_, _, _, _], _ => rfl
  have bd_thinned : Binds K fd_thinned ["text", "exchange"] [] := A_thinned.fn.binds (ps := ["text", "exchange"]) fun _ _ _ _ _ _ us hl => match us, hl with | [_, _], _ => rfl
  have bd_ldraw : Binds K fd_ldraw ["_law_pen_here", "_law_many"] [] := A_ldraw.fn.binds (ps := ["_law_pen_here", "_law_many"]) fun _ _ _ _ _ _ us hl => match us, hl with | [_, _], _ => rfl
  have bd_lpen : Binds K fd_lpen ["_law_script"] [] := A_lpen.fn.binds (ps := ["_law_script"]) fun _ _ _ _ _ _ us hl => match us, hl with | [_], _ => rfl
  have bd_lpick : Binds K fd_lpick ["_law_pen_here", "_law_options"] [] := A_lpick.fn.binds (ps := ["_law_pen_here", "_law_options"]) fun _ _ _ _ _ _ us hl => match us, hl with | [_, _], _ => rfl
  have bd_lsigns : Binds K fd_lsigns [] [] := A_lsigns.fn.binds (ps := []) fun _ _ _ _ _ _ us hl => match us, hl with | [], _ => rfl
  have bd_lfew : Binds K fd_lfew ["_law_pen_here"] [] := A_lfew.fn.binds (ps := ["_law_pen_here"]) fun _ _ _ _ _ _ us hl => match us, hl with | [_], _ => rfl
  have bd_lword : Binds K fd_lword ["_law_pen_here", "_law_signs_here", "_law_least", "_law_most_letters"] [] := A_lword.fn.binds (ps := ["_law_pen_here", "_law_signs_here", "_law_least", "_law_most_letters"]) fun _ _ _ _ _ _ us hl => match us, hl with | [_, _, _, _], _ => rfl
  have bd_lplaces : Binds K fd_lplaces ["_law_text_here", "_law_was"] [] := A_lplaces.fn.binds (ps := ["_law_text_here", "_law_was"]) fun _ _ _ _ _ _ us hl => match us, hl with | [_, _], _ => rfl
  have bd_lntext : Binds K fd_lntext ["_law_pen_here", "_law_signs_here", "_law_most_letters"] [] := A_lntext.fn.binds (ps := ["_law_pen_here", "_law_signs_here", "_law_most_letters"]) fun _ _ _ _ _ _ us hl => match us, hl with | [_, _, _], _ => rfl
  have bd_lnonce : Binds K fd_lnonce ["_law_text_here", "_law_a", "_law_b"] [] := A_lnonce.fn.binds (ps := ["_law_text_here", "_law_a", "_law_b"]) fun _ _ _ _ _ _ us hl => match us, hl with | [_, _, _], _ => rfl
  have bd_lnaround : Binds K fd_lnaround ["_law_text_here", "_law_a", "_law_b"] [] := A_lnaround.fn.binds (ps := ["_law_text_here", "_law_a", "_law_b"]) fun _ _ _ _ _ _ us hl => match us, hl with | [_, _, _], _ => rfl
  have bd_lnput : Binds K fd_lnput ["_law_text_here", "_law_rows"] [] := A_lnput.fn.binds (ps := ["_law_text_here", "_law_rows"]) fun _ _ _ _ _ _ us hl => match us, hl with | [_, _], _ => rfl
  have bd_lndrawn : Binds K fd_lndrawn ["_law_pen_here", "_law_text_here", "_law_signs_here"] [] := A_lndrawn.fn.binds (ps := ["_law_pen_here", "_law_text_here", "_law_signs_here"]) fun _ _ _ _ _ _ us hl => match us, hl with | [_, _, _], _ => rfl
  have bd_lnsingle : Binds K fd_lnsingle ["_law_left", "_law_right"] [] := A_lnsingle.fn.binds (ps := ["_law_left", "_law_right"]) fun _ _ _ _ _ _ us hl => match us, hl with | [_, _], _ => rfl
  have bd_lnthin : Binds K fd_lnthin ["_law_here", "_law_a", "_law_b", "_law_fresh"] [] := A_lnthin.fn.binds (ps := ["_law_here", "_law_a", "_law_b", "_law_fresh"]) fun _ _ _ _ _ _ us hl => match us, hl with | [_, _, _, _], _ => rfl
  have bd_single : Binds K fd_single ["one", "other"] [] := F_single.fn.binds (ps := ["one", "other"]) fun _ _ _ _ _ _ us hl => match us, hl with | [_, _], _ => rfl
  have bd_cost_of : ∃ ds, Vals [V.int 0] ds ∧ Binds K fd_cost_of ["exchange", "each"] ds := A_cost_of.fd.binds0 (ps := ["exchange", "each"]) 1 (fun z => nomatch z) rfl fun D doc pm an cdv ct us ks h1 h2 => match us, ks, h1, h2 with
    | [u], [v], _, _ => ⟨_, _, _, _, _, _, rfl, rfl, rfl⟩
  obtain ⟨tb1, tb2, tb3⟩ := tb _ _ w_single
  refine ⟨fd_law, c_sg, tP, tb1, tb2, tb3, fun s v => A_law.fn.binds1 rfl s v, fun base _ _ tab => ?_⟩
  have c_stands_twice : CalG l.prog w K mg base CX0 1 "stands_twice" spTwice := ⟨f_stands_twice, fd_stands_twice, _, b_stands_twice A_stands_twice.fn T, m_stands_twice, A_stands_twice.fn.kp, bd_stands_twice⟩
  have c_stands_once : CalG l.prog w K mg base CX0 2 "stands_once" spOnce := ⟨f_stands_once, fd_stands_once, _, b_stands_once A_stands_once.fn T c_stands_twice, m_stands_once, A_stands_once.fn.kp, bd_stands_once⟩
  have c_least_ends : CalG l.prog w K mg base CX0 2 "least_ends" spEnds := ⟨f_least_ends, fd_least_ends, _, b_least_ends A_least_ends.fn T c_stands_twice, m_least_ends, A_least_ends.fn.kp, bd_least_ends⟩
  have c_common_length : CalG l.prog w K mg base CX0 1 "common_length" spAhead := ⟨f_common_length, fd_common_length, _, b_common_length A_common_length.fn T, m_common_length, A_common_length.fn.kp, bd_common_length⟩
  obtain ⟨ds_cost_of, rd_cost_of, bd_cost_of⟩ := bd_cost_of
  have d_cost_of : CalD l.prog w K mg base CX0 1 "cost_of" spCost [.int 0] := ⟨f_cost_of, fd_cost_of, _, ds_cost_of, b_cost_of A_cost_of.fn T, m_cost_of, A_cost_of.fn.kp, rd_cost_of, bd_cost_of⟩
  have c_thin : CalG l.prog w K mg base CX0 3 "thin" spThin := ⟨f_thin, fd_thin, _, b_thin A_thin.fn T c_stands_once, m_thin, A_thin.fn.kp, bd_thin⟩
  have c_thinned : CalG l.prog w K mg base CX0 4 "thinned" spThinned := ⟨f_thinned, fd_thinned, _, b_thinned A_thinned.fn T c_thin, m_thinned, A_thinned.fn.kp, bd_thinned⟩
  have c_ldraw : CalG l.prog w K mg base CX0 1 "_law_draw" spDraw := ⟨f_ldraw, fd_ldraw, _, b_ldraw A_ldraw.fn T, m_ldraw, A_ldraw.fn.kp, bd_ldraw⟩
  have c_lpen : CalG l.prog w K mg base CX0 1 "_law_pen" (spPen K) := ⟨f_lpen, fd_lpen, _, b_lpen A_lpen.fn T, m_lpen, A_lpen.fn.kp, bd_lpen⟩
  have c_lpick : CalG l.prog w K mg base CX0 2 "_law_pick" (spPick K) := ⟨f_lpick, fd_lpick, _, b_lpick A_lpick.fn T c_ldraw, m_lpick, A_lpick.fn.kp, bd_lpick⟩
  have c_lsigns : CalG l.prog w K mg base CX0 1 "_law_signs" spSigns := ⟨f_lsigns, fd_lsigns, _, b_lsigns A_lsigns.fn T, m_lsigns, A_lsigns.fn.kp, bd_lsigns⟩
  have t_signs : FnT l.prog w K mg base 1 "_law_signs" letS := okT A_lsigns.fn sc_lsigns m_lsigns bd_lsigns rfl
  have c_lfew : CalG l.prog w K mg base CX0 3 "_law_few" spFew := ⟨f_lfew, fd_lfew, _, b_lfew A_lfew.fn T c_lpick t_signs, m_lfew, A_lfew.fn.kp, bd_lfew⟩
  have c_lword : CalG l.prog w K mg base CX0 3 "_law_word" spWord := ⟨f_lword, fd_lword, _, b_lword A_lword.fn T c_ldraw c_lpick, m_lword, A_lword.fn.kp, bd_lword⟩
  have c_lplaces : CalG l.prog w K mg base CX0 1 "_law_places" (spPlaces K) := ⟨f_lplaces, fd_lplaces, _, b_lplaces A_lplaces.fn T, m_lplaces, A_lplaces.fn.kp, bd_lplaces⟩
  have c_lntext : CalG l.prog w K mg base CX0 4 "_law_ntext" spNtext := ⟨f_lntext, fd_lntext, _, b_lntext A_lntext.fn T c_ldraw c_lpick c_lword, m_lntext, A_lntext.fn.kp, bd_lntext⟩
  have c_lnonce : CalG l.prog w K mg base CX0 2 "_law_nonce" spNonce := ⟨f_lnonce, fd_lnonce, _, b_lnonce A_lnonce.fn T c_lplaces, m_lnonce, A_lnonce.fn.kp, bd_lnonce⟩
  have c_lnaround : CalG l.prog w K mg base CX0 1 "_law_naround" spAround := ⟨f_lnaround, fd_lnaround, _, b_lnaround A_lnaround.fn T, m_lnaround, A_lnaround.fn.kp, bd_lnaround⟩
  have c_lnput : CalG l.prog w K mg base CX0 1 "_law_nput" spPut := ⟨f_lnput, fd_lnput, _, b_lnput A_lnput.fn T, m_lnput, A_lnput.fn.kp, bd_lnput⟩
  have c_lndrawn : CalG l.prog w K mg base CX0 4 "_law_ndrawn" spDrawn := ⟨f_lndrawn, fd_lndrawn, _, b_lndrawn A_lndrawn.fn T c_ldraw c_lpick c_lword c_lnonce c_lnaround, m_lndrawn, A_lndrawn.fn.kp, bd_lndrawn⟩
  have c_lnsingle : CalG l.prog w K mg base CX0 3 "_law_nsingle" (spNsgl K) := ⟨f_lnsingle, fd_lnsingle, _, b_lnsingle A_lnsingle.fn T c_lnonce, m_lnsingle, A_lnsingle.fn.kp, bd_lnsingle⟩
  have c_lnthin : CalG l.prog w K mg base CX0 3 "_law_nthin" spThin := ⟨f_lnthin, fd_lnthin, _, b_lnthin A_lnthin.fn T c_lnonce, m_lnthin, A_lnthin.fn.kp, bd_lnthin⟩
  have b_sg := b_single (P := l.prog) (w := w) F_single T tab c_common_length c_least_ends
  have c_single : CalG l.prog w K mg base CX0 3 "single" (spSingle tP K) := ⟨f_single, fd_single, _, b_sg, m_single, F_single.kp, bd_single⟩
  have k_single : CalK l.prog w K mg base CX0 3 "single" (spSingle tP K) ["other", "one"] List.reverse := ⟨f_single, fd_single, ["one", "other"], b_sg, m_single, F_single.kp, F_single.fn.kwb fun _ _ _ _ _ _ us hl => match us, hl with | [_, _], _ => rfl, fun _ _ r _ => vals_rev r⟩
  have k_thinned : CalK l.prog w K mg base CX0 4 "thinned" spThinned ["exchange", "text"] List.reverse := ⟨f_thinned, fd_thinned, ["text", "exchange"], b_thinned A_thinned.fn T c_thin, m_thinned, A_thinned.fn.kp, A_thinned.fn.kwb fun _ _ _ _ _ _ us hl => match us, hl with | [_, _], _ => rfl, fun _ _ r _ => vals_rev r⟩
  exact b_law A_law.fn T c_lpen c_lfew c_ldraw c_lword c_lpick c_lntext c_lndrawn c_lnsingle c_lnthin c_lnput c_single c_thinned k_single k_thinned d_cost_of
end Vk
set_option Elab.async false
set_option maxRecDepth 100000
set_option linter.all false
open PySem PySem.W PyProof.Rows
set_option maxRecDepth 100000 in
set_option maxHeartbeats 0 in
theorem PySem.Challenge.cw_anchoredits_k65_single_and_thinned_excha_holds : PySem.Challenge.rw_anchoredits_k65_single_and_thinned_excha.Holds := by
  w_on; o_law; k_headL; (case hw => w_witness2)
  k_fill
  refine Vk.walkXT (l := PySem.Challenge.rw_anchoredits_k65_single_and_thinned_excha) (n := 63) (k := 5) (x := "_law_script") (CX := L2.CX0) (sp := Vk.spLaw) rfl (by decide) rfl ⟨rfl, by decide, by decide⟩ (fun w h Y => PySem.W.kIn_of Y) ?F (fun P0 K H a ns hl hP hS => ⟨a, ns, rfl, hS, hl, hP, fun _ => rfl⟩) (fun _ _ _ _ z => z)
  case F =>
    intro w mg fa h KX Gr hmg
    obtain ⟨s0, mb, Gr⟩ := Gr
    refine' Vk.all KX Gr.T.g hmg ?d_stands_twice ?d_stands_once ?d_least_ends ?d_common_length ?d_cost_of ?d_thin ?d_thinned ?d_ldraw ?d_lpen ?d_lpick ?d_lsigns ?d_lfew ?d_lword ?d_lplaces ?d_lntext ?d_lnonce ?d_lnaround ?d_lnput ?d_lndrawn ?d_lnsingle ?d_lnthin ?d_law ?d_single ?z_len ?z_list ?z_int ?z_abs ?z_range ?z_min ?z_repr ?z_max ?z_sum ?z_tuple ?z_zip ?z_enumerate ?tb
    (case d_stands_twice => as_aux_lemma => (refine' ⟨_, _, Vk.at_mk ?a ?l ?c ?k⟩; (case a => k_is); (case l => k_is); (case c => k_is); (case k => k_is)))
    (case d_stands_once => as_aux_lemma => (refine' ⟨_, _, Vk.at_mk ?a ?l ?c ?k⟩; (case a => k_is); (case l => k_is); (case c => k_is); (case k => k_is)))
    (case d_least_ends => as_aux_lemma => (refine' ⟨_, _, Vk.at_mk ?a ?l ?c ?k⟩; (case a => k_is); (case l => k_is); (case c => k_is); (case k => k_is)))
    (case d_common_length => as_aux_lemma => (refine' ⟨_, _, Vk.at_mk ?a ?l ?c ?k⟩; (case a => k_is); (case l => k_is); (case c => k_is); (case k => k_is)))
    (case d_cost_of => as_aux_lemma => (refine' ⟨_, _, Vk.atd_mk ?a ?l ?c ?k ?e⟩; (case a => k_is); (case l => k_is); (case c => k_is); (case k => k_is); (case e => k_is)))
    (case d_thin => as_aux_lemma => (refine' ⟨_, _, Vk.at_mk ?a ?l ?c ?k⟩; (case a => k_is); (case l => k_is); (case c => k_is); (case k => k_is)))
    (case d_thinned => as_aux_lemma => (refine' ⟨_, _, Vk.at_mk ?a ?l ?c ?k⟩; (case a => k_is); (case l => k_is); (case c => k_is); (case k => k_is)))
    (case d_ldraw => as_aux_lemma => (refine' ⟨_, _, Vk.at_mk ?a ?l ?c ?k⟩; (case a => k_is); (case l => k_is); (case c => k_is); (case k => k_is)))
    (case d_lpen => as_aux_lemma => (refine' ⟨_, _, Vk.at_mk ?a ?l ?c ?k⟩; (case a => k_is); (case l => k_is); (case c => k_is); (case k => k_is)))
    (case d_lpick => as_aux_lemma => (refine' ⟨_, _, Vk.at_mk ?a ?l ?c ?k⟩; (case a => k_is); (case l => k_is); (case c => k_is); (case k => k_is)))
    (case d_lsigns => as_aux_lemma => (refine' ⟨_, _, Vk.at_mk ?a ?l ?c ?k⟩; (case a => k_is); (case l => k_is); (case c => k_is); (case k => k_is)))
    (case d_lfew => as_aux_lemma => (refine' ⟨_, _, Vk.at_mk ?a ?l ?c ?k⟩; (case a => k_is); (case l => k_is); (case c => k_is); (case k => k_is)))
    (case d_lword => as_aux_lemma => (refine' ⟨_, _, Vk.at_mk ?a ?l ?c ?k⟩; (case a => k_is); (case l => k_is); (case c => k_is); (case k => k_is)))
    (case d_lplaces => as_aux_lemma => (refine' ⟨_, _, Vk.at_mk ?a ?l ?c ?k⟩; (case a => k_is); (case l => k_is); (case c => k_is); (case k => k_is)))
    (case d_lntext => as_aux_lemma => (refine' ⟨_, _, Vk.at_mk ?a ?l ?c ?k⟩; (case a => k_is); (case l => k_is); (case c => k_is); (case k => k_is)))
    (case d_lnonce => as_aux_lemma => (refine' ⟨_, _, Vk.at_mk ?a ?l ?c ?k⟩; (case a => k_is); (case l => k_is); (case c => k_is); (case k => k_is)))
    (case d_lnaround => as_aux_lemma => (refine' ⟨_, _, Vk.at_mk ?a ?l ?c ?k⟩; (case a => k_is); (case l => k_is); (case c => k_is); (case k => k_is)))
    (case d_lnput => as_aux_lemma => (refine' ⟨_, _, Vk.at_mk ?a ?l ?c ?k⟩; (case a => k_is); (case l => k_is); (case c => k_is); (case k => k_is)))
    (case d_lndrawn => as_aux_lemma => (refine' ⟨_, _, Vk.at_mk ?a ?l ?c ?k⟩; (case a => k_is); (case l => k_is); (case c => k_is); (case k => k_is)))
    (case d_lnsingle => as_aux_lemma => (refine' ⟨_, _, Vk.at_mk ?a ?l ?c ?k⟩; (case a => k_is); (case l => k_is); (case c => k_is); (case k => k_is)))
    (case d_lnthin => as_aux_lemma => (refine' ⟨_, _, Vk.at_mk ?a ?l ?c ?k⟩; (case a => k_is); (case l => k_is); (case c => k_is); (case k => k_is)))
    (case d_law => as_aux_lemma => (refine' ⟨_, _, Vk.at_mk ?a ?l ?c ?k⟩; (case a => k_is); (case l => k_is); (case c => k_is); (case k => k_is)))
    (case d_single => as_aux_lemma => (refine' ⟨_, _, _, _, ?a, Vk.makC_mk ?l ?c ?k, Vk.tab_mk ?a2 ?l2 ?zq ?t⟩; (case a => k_is); (case l => k_is); (case c => k_is); (case k => k_is); (case a2 => k_is); (case l2 => k_is); (case zq => exact rfl); (case t => k_is)))
    (case z_len => k_is)
    (case z_list => k_is)
    (case z_int => k_is)
    (case z_abs => k_is)
    (case z_range => k_is)
    (case z_min => k_is)
    (case z_repr => k_is)
    (case z_max => k_is)
    (case z_sum => k_is)
    (case z_tuple => k_is)
    (case z_zip => k_is)
    (case z_enumerate => k_is)
    (case tb => (intro c tP ht; refine' Vk.tab_at Gr.T KX ?i ht ?n; (case i => first | kernel_rfl | decide +kernel); (case n => first | kernel_rfl | k_is)))
#print axioms PySem.Challenge.cw_anchoredits_k65_single_and_thinned_excha_holds
