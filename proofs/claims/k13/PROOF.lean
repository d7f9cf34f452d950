import PyProof.Rows.All
import Wide.All
import OpenK.AllK
import Wide.FinOn
import HandS.Base
import HandS.Call
import HandS.List
import HandS.Comp
import HandS.Ends
import HandS.Text
import HandS.Words
import HandS.StrMore
import HandS.ForMost
import HandS.Codes
import HandS.Replace
import HandS.FStrTup
import PyProof.StrBlock2
import HandS.Exc
import HandS.ExcInit
import HandS.ExcIs
import HandS.ExcField
import KE.KExcIs
import HandS.IsInst
import HandS.Zip
import PySem.Challenge.RW_anchoredits_k13_errors_and_limits
import KE.OsRunLaw
set_option Elab.async false
set_option maxRecDepth 100000
set_option linter.all false
namespace Vk
open PySem PySem.Spec PyProof.Rows L2
/-! ## defs that may show values: no guard is under way -/
structure FnG (P : Program) (w : World) (K : PySem.W.Frag) (mg : Str → Option Value) (base : Heap) (CX : CXT) (k : Nat) (f : Addr) (fd : FuncData) (ps : List Str) (sp : Sp) : Prop where
  len : ∀ vs H Q E, sp vs H Q E → vs.length = ps.length
  run : ∀ (A : Around) (outer : List Env) (s : Shared) (H : Hp) (args : Args) (us : List Value) (vs : List V) (Q : VK) (E : XK), A.guards = some [] → Room k A → Env0 P w K mg base A outer s H → BindsTo s fd args (ps.zip us) → Vals vs us → sp vs H Q E →
    codeAny (model P w) A (.call (.ref f) args) (CR CX outer P w H s Q E) s
theorem FnG.of {P : Program} {w : World} {K : PySem.W.Frag} {mg : Str → Option Value} {base : Heap} {CX : CXT} {k : Nat} {f : Addr} {fd : FuncData} {ps : List Str} {sp : Sp} (F : FnOk P w K mg base CX k f fd ps sp) : FnG P w K mg base CX k f fd ps sp :=
  ⟨F.len, fun A outer s H args us vs Q E _ => F.run A outer s H args us vs Q E⟩
section
variable {P : Program} {w : World} {K : PySem.W.Frag} {mg : Str → Option Value} {base : Heap}
theorem okG {CX : CXT} {x qual : Str} {st : Stmt} {f : Addr} {fd : FuncData} {N ps : List Str} {k : Nat} {sp : Sp} (F : Fun K x qual st f fd) (S : FnScope N ps (defScope st)) (hlen : ∀ vs H Q E, sp vs H Q E → vs.length = ps.length)
    (hbody : ∀ (cdv : Value) (A : Around) (outer : List Env) (s : Shared) (H : Hp) (vs : List V) (Q : VK) (E : XK), A.guards = some [] → Room k (A.deeper (envOfC qual (defScope st) s.heap.objs.size f cdv)) → sp vs H Q E →
      ∃ t, PSs (cxOf CX P w K mg base N qual (defScope st) f cdv A outer s H E) (defBody st) t ∧ t { nx := fun _ H' => Q .non H', rt := Q } (start N vs) H) : FnG P w K mg base CX (k + 1) f fd ps sp := by
  obtain ⟨oc, od, kV, doc, pm, an, cdv, ct, osl, rfl, lk, hcd⟩ := F.ex
  refine ⟨hlen, fun A outer s H args us vs Q E hg hr e0 hb r hsp => ?_⟩
  have hvl := hlen _ _ _ _ hsp
  have KX := e0.mod.kin.keeps (fun b o e => (e0.bs b o e).1 : ∀ b o, base.get? b = some o → s.heap.get? b = some o)
  have noLim := e0.mod.nolimit.keeps (fun b o e => (e0.bs b o e).1 : ∀ b o, base.get? b = some o → s.heap.get? b = some o)
  have kinds : ∀ y ∈ ps.zip us, (defScope st).names.lookup y.1 = some .local ∨ ((defScope st).names.lookup y.1 = some .cell ∧ ((cellsFrom (s.heap.objs.size + 1) (defScope st).names []).lookup y.1).isSome = true) := by
    rintro ⟨n, v⟩ hy
    have hy1 := (List.of_mem_zip hy).1
    cases S.par n hy1 with
    | inl q => exact Or.inl q
    | inr q => exact Or.inr (And.intro q (PySem.W.cellsFrom_some _ _ _ (Or.inl q)))
  refine codeAny_call_function hr.depth (KX f _ lk) rfl S.co S.gen rfl (PySem.W.codeRec_of KX hcd) (hb _ _ _ _ (wpAny_newFunctionEnv_cells S.kind kinds fun env he s1 x => ?_))
  cases he
  refine And.intro (noLim.keeps x.toInCall.keep) (codeAny_func ?_)
  obtain ⟨t, ht, hq⟩ := hbody cdv A outer s H vs Q E hg (hr.deeper _) hsp
  have I0 := inv_start (CX := CX) (E := E) S hr.hd e0 hvl r x
  refine wpAny_mono (ht.run [] s1 (start N vs) H _ I0 hq) (fun fl s2 hs => ?_) (fun e s2 hs => hs)
  have close : ∀ {σ2 : L2.St} {H2 : Hp} {v : V} {u : Value}, Inv (cxOf CX P w K mg base N qual (defScope st) f cdv A outer s H E) [] σ2 H2 s2 → RelV v u → Q v H2 → CE outer P w H s Q u s2 := by
    intro σ2 H2 v u J rv q
    exact ⟨v, H2, And.intro J.os (And.intro J.bare (And.intro J.base (And.intro J.hok (And.intro rv q))))⟩
  match fl, hs with
  | .ret u, ⟨v, σ2, H2, J, rv, q⟩ => exact close J rv q
  | .next, ⟨σ2, H2, J, q⟩ => exact close (v := V.non) (u := Value.none) J rfl q
  | .brk, ⟨_, _, _, q⟩ => exact q.elim
  | .cont, ⟨_, _, _, q⟩ => exact q.elim
end
section
variable {P : Program} {w : World} {K : PySem.W.Frag} {mg : Str → Option Value} {base : Heap}
theorem okG0 {x qual : Str} {st : Stmt} {f : Addr} {fd : FuncData} {N ps : List Str} {k : Nat} {sp : Sp} (F : Fun K x qual st f fd) (S : FnScope N ps (defScope st)) (hlen : ∀ vs H Q E, sp vs H Q E → vs.length = ps.length)
    (hbody : ∀ (cdv : Value) (A : Around) (outer : List Env) (s : Shared) (H : Hp) (vs : List V) (Q : VK) (E : XK), A.guards = some [] → Room k (A.deeper (envOfC qual (defScope st) s.heap.objs.size f cdv)) → sp vs H Q E →
      ∃ t, PSs (cxOf CX0 P w K mg base N qual (defScope st) f cdv A outer s H E).nox (defBody st) t ∧ t { nx := fun _ H' => Q .non H', rt := Q } (start N vs) H) : FnG P w K mg base CX0 (k + 1) f fd ps sp :=
  okG F S hlen fun cdv A outer s H vs Q E hg hr hsp => match hbody cdv A outer s H vs Q E hg hr hsp with | ⟨t, h, q⟩ => ⟨t, h.nox, q⟩
end
/-- a def of the module by its name -/
structure CalG (P : Program) (w : World) (K : PySem.W.Frag) (mg : Str → Option Value) (base : Heap) (CX : CXT) (k : Nat) (x : Str) (sp : Sp) : Prop where
  ex : ∃ (f : Addr) (fd : FuncData) (ps : List Str), FnG P w K mg base CX k f fd ps sp ∧ mg x = some (.ref f) ∧ PySem.W.keepIn K (.ref f) = true ∧ Binds K fd ps []
section
variable {X : Cx} {CX : CXT} {j k : Nat} {f : Addr} {fd : FuncData} {ps : List Str} {sp : Sp} {E : XK} {x : Str} {p pos : Pos} {e : Expr} {es : List Expr} {t : TA}
theorem run_fnG {pins : List (Addr × Obj)} {σ : L2.St} {H : Hp} {s : Shared} {Q : VK} {us : List Value} {vs : List V} (F : FnG X.prog X.w X.K X.mg X.base CX k f fd ps sp) (hg : X.A.guards = some []) (hr : Room k X.A) (hb : Binds X.K fd ps []) (hx : Passes CX X E)
    (I : Inv X pins σ H s) (r : Vals vs us) (h : sp vs H Q E) : wpAny (model X.prog X.w) X.A (call (.ref f) us) (EP X pins σ Q) X.xe s := by
  have hl : us.length = ps.length := r.length.symm.trans (F.len _ _ _ _ h)
  have b := hb s us I.kIn ((congrArg List.length (List.append_nil us)).trans hl)
  rw [List.append_nil] at b
  refine wpAny_call (codeAny_mono (F.run X.A X.stack s H ⟨us, []⟩ us vs Q E hg hr I.env0 b r h) (fun res s2 hq => ?_))
  match res, hq with
  | .error e, hq => exact hx pins σ H s e s2 I hq
  | .ok (.ret u), hq => exact I.after hq
  | .ok .next, hq => exact hq.elim
  | .ok .brk, hq => exact hq.elim
  | .ok .cont, hq => exact hq.elim
theorem pe_cG (c : CalG X.prog X.w X.K X.mg X.base CX k x sp) (hg : X.A.guards = some []) (hr : Room j X.A) (hk : k ≤ j) (hx : Passes CX X E) (ha : PA X (e :: es) t) (gl : Gl X x := by rfl)
    (hdb : (x == ("__debug__" : Str)) = false := by decide) (he : starEach (e :: es) X.env = (false, eval e X.env) :: starEach es X.env := by rfl) (hpl : (backTo pos (starEach es X.env)).any (·.1) = false := by rfl) :
    PE X (.Call (.Name x p) (e :: es) [] pos) (tCall sp [] E t) := by
  obtain ⟨f, fd, ps, F, hm, kp, hb⟩ := c.ex
  refine ⟨fun pins s σ H Q I h => wpAny_Call_Name_kw (ld_glob I gl hm (PySem.W.callWith_K (h₀ := X.base) I.ok.mod.kin kp (thn (ha.run pos pins s σ H _ I h) fun us s1 hh => ?_) he hpl) hdb)⟩
  obtain ⟨vs, H1, I1, r, q⟩ := hh
  rw [List.append_nil] at q
  exact ⟨I1.kIn, run_fnG F hg (hr.mono hk) hb hx I1 r q⟩
theorem pe_cG0 (c : CalG X.prog X.w X.K X.mg X.base CX k x sp) (hg : X.A.guards = some []) (hr : Room j X.A) (hk : k ≤ j) (hx : Passes CX X E) (gl : Gl X x := by rfl)
    (hdb : (x == ("__debug__" : Str)) = false := by decide) : PE X (.Call (.Name x p) [] [] pos) (tCall sp [] E tNil) := by
  obtain ⟨f, fd, ps, F, hm, kp, hb⟩ := c.ex
  exact ⟨fun pins s σ H Q I h => wpAny_Call_Name_kw (ld_glob I gl hm (PySem.W.callWith_K0 I.kIn kp (run_fnG (us := []) F hg (hr.mono hk) hb hx I .nil h)) hdb)⟩
end
/-! ## repr -/
section
variable {X : Cx}
theorem call_reprD (hg : X.A.guards = some []) (hu : X.A.units + 64 < cLine) : CallR X (.builtin "repr") (fun xs H Q => ∃ x d, xs = [x] ∧ Dp X.K H x d ∧ d.showable = true ∧ d.hasDict = false ∧ d.depth ≤ 60 ∧ d.shown.length ≤ sizeLine ∧ Q (.str d.shown) H) := by
  intro pins s σ H xs us Q I r h
  obtain ⟨x, d, rfl, hd, hs, hn, hdp, hz, q⟩ := h
  cases r with
  | cons r1 r2 =>
  cases r2
  obtain ⟨as, rd⟩ := Dp.reads I d x _ hd r1
  cases hd with
  | non => cases r1; exact PySem.P.repr_of_none ⟨V.str _, H, I.tok _, ⟨_, rfl⟩, q⟩
  | bl b => cases r1; exact PySem.P.repr_of_bool ⟨V.str _, H, I.tok _, ⟨_, rfl⟩, q⟩
  | int i =>
    obtain ⟨t, rfl⟩ := r1
    exact PySem.P.repr_of_int (of_decide_eq_true hs) ⟨V.str _, H, I.tok _, ⟨_, rfl⟩, q⟩
  | str z =>
    obtain ⟨t, rfl⟩ := r1
    exact PySem.P.repr_of_str ⟨V.str _, H, I.tok _, ⟨_, rfl⟩, q⟩ hz
  | lst h1 h2 =>
    cases r1
    exact repr_of_reads' rd hs (PyData.noDict_hsm hn) hg (by omega) (fun _ _ e => e) (fun h' u tk hk => ⟨V.str _, H, I.kept hk, ⟨u, rfl⟩, q⟩) hz
  | tup h1 h2 =>
    cases r1
    exact repr_of_reads' rd hs (PyData.noDict_hsm hn) hg (by omega) (fun _ _ e => e) (fun h' u tk hk => ⟨V.str _, H, I.kept hk, ⟨u, rfl⟩, q⟩) hz
end
/-! ## the law's own call -/
theorem lawG {P : Program} {w : World} {K : PySem.W.Frag} {mg mb : Str → Option Value} {CX : CXT} {k : Nat} {fa a : Addr} {fd : FuncData} {x : Str} {sp : Sp} {s1 : Shared} {vs : List Value} {ns : List Int}
    (KX : K.In s1.heap) (gns : s1.heap.Ns mainGlobals mg) (bns : s1.heap.Ns builtinsNs mb) (bbt : ∀ x : Str, x ≠ "__name__" → mb x = bootBuiltins x) (nolim : s1.heap.NoLimit) (gens0 : s1.gens = #[])
    (scr : s1.heap.get? a = some { cls := .type "list", data := .seq vs.toArray }) (hints : IntsAre vs ns) (short : ns.length ≤ sizeLine) (room : Room k callerA)
    (F : ∀ base : Heap, K.In base → base.Ns mainGlobals mg → FnG P w K mg base CX k fa fd [x] sp) (bind1 : ∀ (s : Shared) (u : Value), BindsTo s fd ⟨[u], []⟩ [(x, u)])
    (prom : ∀ H : Hp, Only H → SqL K H a (ns.map V.int) → sp [.ref a] H (fun v _ => v = .bl true) fun _ _ _ => False)
    (noX : ∀ H e s2, CX [] H s1 (fun _ _ _ => False) e s2 → False) :
    codeAny (model P w) callerA (.call (.ref fa) ⟨[.ref a], []⟩) (fun r s2 => r = .ok (.ret (.bool true)) ∧ OldK s1.heap s2.heap ∧ s2.os = s1.os ∧ AllBare s2.gens) s1 := by
  have rel := vals_ints hints
  have main : ∀ H : Hp, Only H → SqL K H a (ns.map V.int) → HOk P w H s1.heap → (∀ b u, H b = some u → b = a) → (∀ u, H a = some u → K.lookup a = none) →
      codeAny (model P w) callerA (.call (.ref fa) ⟨[.ref a], []⟩) (fun r s2 => r = .ok (.ret (.bool true)) ∧ OldK s1.heap s2.heap ∧ s2.os = s1.os ∧ AllBare s2.gens) s1 := by
    intro H only seq ok at1 un1
    have dictFree : ∀ {b : Addr} {o : Obj} {es : Array DictEntry} {ep : Nat}, s1.heap.get? b = some o → o.data = .dict es ep → H b = none := by
      intro b o es ep e d
      match q : H b with
      | none => rfl
      | some u =>
        have eb := at1 b u q
        subst eb
        rw [scr] at e
        cases e
        exact nomatch (show Data.seq vs.toArray _ = Data.dict es ep from d)
    have nsAt : ∀ {b : Addr} {m : Str → Option Value}, s1.heap.Ns b m → (hidT s1.heap H).Ns b m := by
      rintro b m ⟨o, es, ep, e, d, r⟩
      exact ⟨o, es, ep, hidT_get e (dictFree e d), d, r⟩
    have inK : K.In (hidT s1.heap H) := by
      intro b o e
      refine hidT_get (KX b o e) ?_
      match q : H b with
      | none => rfl
      | some u =>
        have eb := at1 b u q
        subst eb
        exact nomatch (un1 u q).symm.trans e
    have limAt : (hidT s1.heap H).NoLimit := match nolim with | ⟨mc, h1, h2⟩ => ⟨mc, nsAt h1, h2⟩
    have mod1 : Mod K mg (hidT s1.heap H) := ⟨inK, nsAt gns, ⟨mb, nsAt bns, bbt⟩, limAt⟩
    have start0 : Env0 P w K mg (hidT s1.heap H) callerA [] s1 H := ⟨rfl, mod1, fun b o => of_hidT, Nat.le_of_eq (hidT_size s1.heap H), trivial, (fun b hb => absurd hb (List.not_mem_nil (a := b))), ok, AllBare.of_eq gens0⟩
    refine codeAny_mono ((F _ inK (nsAt gns)).run callerA [] s1 H ⟨[.ref a], []⟩ [.ref a] [.ref a] _ _ rfl room start0 (bind1 s1 (.ref a)) (.cons rfl .nil) (prom H only seq)) ?_
    intro res s2 h
    match res, h with
    | .error e, h => exact (noX H e s2 h).elim
    | .ok .next, h => exact h.elim
    | .ok .brk, h => exact h.elim
    | .ok .cont, h => exact h.elim
    | .ok (.ret u), ⟨v, H2, os, bare, un, ok2, r2, (hv : v = .bl true)⟩ =>
      cases hv
      have hu : u = Value.bool true := r2
      cases hu
      refine ⟨rfl, OldK.of_keep ?_, os, bare⟩
      intro b o e
      match q : H b with
      | none => exact un.keep b o e q (fun z => nomatch z) (fun z => nomatch z)
      | some u =>
        cases only b with
        | inl z => exact nomatch z.symm.trans q
        | inr z =>
          obtain ⟨ob, xs, z⟩ := z
          have c1 := (ok b _ z).1
          have c2 := (ok2 b _ (un.frzs b ob _ z)).1
          exact c2.trans (c1.symm.trans e)
  match hk : K.lookup a with
  | some o =>
    have e := (KX a o hk).symm.trans scr
    cases e
    refine main (fun _ => none) (fun _ => Or.inl rfl) (Or.inr ⟨_, vs.toArray, _, hk, rfl, rfl, rfl, ?_, ?_⟩) (fun b u z => nomatch (show (none : Option HO) = some u from z)) (fun b u z => nomatch (show (none : Option HO) = some u from z)) (fun u z => nomatch (show (none : Option HO) = some u from z))
    · rw [List.size_toArray, hints.length]
      exact short
    · simpa using rel
  | none =>
    refine main (fun b => if b = a then some (.frz { cls := .type "list", data := .seq vs.toArray } (.lst (ns.map V.int))) else none) ?_ (Or.inl (Or.inr ⟨_, if_pos rfl⟩)) ?_ ?_ (fun _ _ => hk)
    · intro b
      by_cases hb : b = a
      · exact Or.inr ⟨_, _, if_pos hb⟩
      · exact Or.inl (if_neg hb)
    · intro b u z
      by_cases hb : b = a
      · subst hb
        have z1 := (if_pos rfl).symm.trans z
        cases z1
        exact ⟨scr, (by rw [List.length_map]; exact short), vs, _, rel, scr⟩
      · exact nomatch (if_neg hb).symm.trans z
    · intro b u z
      by_cases hb : b = a
      · exact hb
      · exact nomatch (if_neg hb).symm.trans z
theorem walkG {l : PySem.W.OpenLaw} {n k : Nat} {q : Program} {loose : List Str} {XP : (Str → Option Value) → Heap → Prop} {YP : World → Heap → Prop} {d : DefRec} {K : Params → PySem.W.Frag} {CX : CXT} {sp : PySem.W.Frag → Sp} {x : Str}
    (hn : l.most = some n) (hn2 : n ≤ sizeLine) (hdf : d.params.defaults = []) (hr : Room k callerA) (hY : ∀ (w : World) (h : Heap), YP w h → (K w.params).In h)
    (F : ∀ (w : World) (mg : Str → Option Value) (fa : Addr) (h : Heap), (K w.params).In h → h.Ns mainGlobals mg → mg d.name = some (.ref fa) →
      ∃ fd : FuncData, (∀ (s : Shared) (u : Value), BindsTo s fd ⟨[u], []⟩ [(x, u)]) ∧ ∀ base : Heap, (K w.params).In base → base.Ns mainGlobals mg → FnG l.prog w (K w.params) mg base CX k fa fd [x] (sp (K w.params)))
    (hsp : ∀ (K : PySem.W.Frag) (H : Hp) (a : Addr) (ns : List Int), ns.length ≤ n → Only H → SqL K H a (ns.map V.int) → sp K [.ref a] H (fun v _ => v = .bl true) fun _ _ _ => False)
    (noX : ∀ (H : Hp) (s : Shared) (e : Value) (s2 : Shared), CX [] H s (fun _ _ _ => False) e s2 → False) : PySem.W.WalkO q loose XP YP l.row.toRowW d [] (fun f vs => PySem.call f vs) := by
  refine Att.attach_call hn hdf ?_
  intro w s0 s1 mg mb fa o pm cd doc a vs ns G Y _ _ _ hmg scr hints hlen gens0
  obtain ⟨fd, hb, hF⟩ := F w mg fa _ (hY w _ Y) G.T.g hmg
  exact lawG (hY w _ Y) G.T.g G.T.b G.T.builtins G.T.nolimit gens0 scr hints (Nat.le_trans hlen hn2) hr hF hb (fun H h1 h2 => hsp _ H a ns hlen h1 h2) (fun H => noX H s1)
end Vk
set_option Elab.async false
set_option maxRecDepth 100000
set_option linter.all false
namespace Vk
open PySem PySem.Spec PyProof.Rows L2
/-! ## what stays -/
/-- all that was tracked stays, but what stands at p -/
def Ext (p : Addr) (H H' : Hp) : Prop := ∀ b o, H b = some o → b ≠ p → H' b = some o
theorem Ext.rfl {p : Addr} {H : Hp} : Ext p H H := fun _ _ h _ => h
theorem Ext.trans {p : Addr} {H H1 H2 : Hp} (a : Ext p H H1) (b : Ext p H1 H2) : Ext p H H2 := fun c o h n => b c o (a c o h n) n
theorem Ext.same {p : Addr} {H H1 : Hp} (a : Same H H1) : Ext p H H1 := fun c o h _ => a c o h
theorem Ext.at {p : Addr} {H : Hp} {o : HO} : Ext p H (upd H p o) := fun c u h n => (upd_ne n).trans h
theorem same_new {H : Hp} {a : Addr} {o : HO} (h : H a = none) : Same H (upd H a o) := fun c u e => (upd_ne (ne_of_none e h)).trans e
theorem Ext.new {p a : Addr} {H : Hp} {o : HO} (h : H a = none) : Ext p H (upd H a o) := .same (same_new h)
theorem Ext.set {p a : Addr} {H H1 : Hp} {o : HO} (x : Ext p H H1) (h : H a = none) : Ext p H (upd H1 a o) := fun c u e n => (upd_ne (ne_of_none e h)).trans (x c u e n)
theorem Ext.none_of {p a : Addr} {H H1 : Hp} (x : Ext p H H1) (hp : a ≠ p) (h : H1 a = none) : H a = none := by
  match q : H a with
  | none => rfl
  | some o => exact nomatch (x a o q hp).symm.trans h
theorem Ext.seqL {K : PySem.W.Frag} {p a : Addr} {H H1 : Hp} {xs : List V} (x : Ext p H H1) (hp : a ≠ p) (h : SqL K H a xs) : SqL K H1 a xs := by
  match h with
  | .inl (.inl e) => exact .inl (.inl (x _ _ e hp))
  | .inl (.inr ⟨o, e⟩) => exact .inl (.inr ⟨o, x _ _ e hp⟩)
  | .inr e => exact .inr e
theorem Ext.seqT {K : PySem.W.Frag} {p a : Addr} {H H1 : Hp} {xs : List V} (x : Ext p H H1) (hp : a ≠ p) (h : SqT K H a xs) : SqT K H1 a xs := by
  match h with
  | .inl (.inl e) => exact .inl (.inl (x _ _ e hp))
  | .inl (.inr ⟨o, e⟩) => exact .inl (.inr ⟨o, x _ _ e hp⟩)
  | .inr e => exact .inr e
theorem up_new {H : Hp} {a b : Addr} {o u : HO} (h : H a = some o) (hb : H b = none) : upd H b u a = some o := same_new hb a o h
/-! ## the pen -/
def penL (c : Addr) (t l : Int) : List (Key × V) := [(.inr "cells", .ref c), (.inr "turn", .int t), (.inr "left", .int l)]
theorem k_ct : ¬ ((Str.ofString "cells") = Str.ofString "turn") := by decide +kernel
theorem k_cl : ¬ ((Str.ofString "cells") = Str.ofString "left") := by decide +kernel
theorem k_tl : ¬ ((Str.ofString "turn") = Str.ofString "left") := by decide +kernel
theorem k_lt : ¬ ((Str.ofString "left") = Str.ofString "turn") := by decide +kernel
theorem pen_cells (c : Addr) (t l : Int) : valV (penL c t l) (Sum.inr "cells" : Key) = some (.ref c) := valV_pos rfl
theorem pen_turn (c : Addr) (t l : Int) : valV (penL c t l) (Sum.inr "turn" : Key) = some (.int t) := (valV_neg (fun e => k_ct (Sum.inr.inj e))).trans (valV_pos rfl)
theorem pen_left (c : Addr) (t l : Int) : valV (penL c t l) (Sum.inr "left" : Key) = some (.int l) := (valV_neg (fun e => k_cl (Sum.inr.inj e))).trans ((valV_neg (fun e => k_tl (Sum.inr.inj e))).trans (valV_pos rfl))
theorem pen_put_turn (c : Addr) (t l u : Int) : putK (penL c t l) (Sum.inr "turn" : Key) (.int u) = penL c u l := by
  unfold putK
  rw [valV_any, pen_turn]
  simp [penL, k_ct, k_lt]
theorem pen_put_left (c : Addr) (t l u : Int) : putK (penL c t l) (Sum.inr "left" : Key) (.int u) = penL c t u := by
  unfold putK
  rw [valV_any, pen_left]
  simp [penL, k_cl, k_tl]
theorem pen_made (c : Addr) (t l : Int) : mergeK [] (penL c t l) = penL c t l := by
  simp [mergeK, penL, putK, k_ct, k_cl, k_tl]
structure Pen (H : Hp) (p c : Addr) (T : Nat) : Prop where
  ex : ∃ (ns : List Int) (t l : Int), H p = some (.dK (penL c t l)) ∧ H c = some (.lst (ns.map V.int)) ∧ ns.length ≤ 63 ∧ 0 ≤ t ∧ t ≤ T ∧ 0 ≤ l
section
variable {H H1 : Hp} {p c a : Addr} {T U : Nat} {o : HO} {xs : List V}
theorem Pen.mono (x : Pen H p c T) (h : T ≤ U) : Pen H p c U := by
  obtain ⟨ns, t, l, h1, h2, h3, h4, h5, h6⟩ := x.ex
  exact ⟨ns, t, l, h1, h2, h3, h4, by omega, h6⟩
theorem Pen.stay (x : Pen H p c T) (s : Same H H1) : Pen H1 p c T := by
  obtain ⟨ns, t, l, h1, h2, r⟩ := x.ex
  exact ⟨ns, t, l, s _ _ h1, s _ _ h2, r⟩
theorem Pen.new (x : Pen H p c T) (h : H a = none) : Pen (upd H a o) p c T := x.stay (same_new h)
theorem Pen.is (x : Pen H p c T) : ∃ t l, H p = some (.dK (penL c t l)) := by
  obtain ⟨ns, t, l, h1, _⟩ := x.ex
  exact ⟨t, l, h1⟩
theorem Pen.ne (x : Pen H p c T) (h : H a = some (.lst xs)) : a ≠ p := by
  obtain ⟨t, l, h1⟩ := x.is
  exact ne_of h h1 (by intro z; cases z)
/-- another thing is changed -/
theorem Pen.set (x : Pen H p c T) (h1 : a ≠ p) (h2 : a ≠ c) : Pen (upd H a o) p c T := by
  obtain ⟨ns, t, l, g1, g2, r⟩ := x.ex
  exact ⟨ns, t, l, (upd_ne h1.symm).trans g1, (upd_ne h2.symm).trans g2, r⟩
/-- a thing that was not there when the pen stood is neither the pen nor its cells -/
theorem Pen.apart (x : Pen H p c T) (h : H a = none) : a ≠ p ∧ a ≠ c := by
  obtain ⟨ns, t, l, g1, g2, r⟩ := x.ex
  exact ⟨(ne_of_none g1 h).symm, (ne_of_none g2 h).symm⟩
end
/-- draw's promise -/
def spDraw : Sp := fun vs H Q _ => ∃ (p c : Addr) (m : Int) (T : Nat), vs = [.ref p, .int m] ∧ 0 < m ∧ m < 1073741824 ∧ Pen H p c T ∧ T < 1000000000 ∧
  ∀ (d : Int) (H' : Hp), 0 ≤ d → d < m → Pen H' p c (T + 1) → Ext p H H' → Q (.int d) H'
def spPen (K : PySem.W.Frag) : Sp := fun vs H Q _ => ∃ (a : Addr) (ns : List Int), vs = [.ref a] ∧ SqL K H a (ns.map V.int) ∧
  ∀ (p c : Addr) (H' : Hp), H p = none → Pen H' p c 0 → Same H H' → Q (.ref p) H'
/-! ## draws' small facts -/
theorem ints_dp {K : PySem.W.Frag} {H : Hp} : ∀ ns : List Int, DpAll K H (ns.map V.int) (ns.map PyData.int)
  | [] => .nil
  | n :: ns => .cons (.int n) (ints_dp ns)
theorem ints_canLay : ∀ ns : List Int, PyData.canLayAll0 (ns.map PyData.int) = true
  | [] => rfl
  | n :: ns => by
    show (PyData.canLay0 (.int n) && PyData.canLayAll0 (ns.map PyData.int)) = true
    rw [ints_canLay ns]
    rfl
theorem ints_depth : ∀ ns : List Int, PyData.depthAll (ns.map PyData.int) = 0
  | [] => rfl
  | n :: ns => by
    show max (PyData.depth (.int n)) (PyData.depthAll (ns.map PyData.int)) = 0
    rw [ints_depth ns]
    rfl
theorem ints_shaped (ns : List Int) : SeqAt.shaped (.list (ns.map PyData.int)) = true := by
  have h1 : PyData.canLay0 (.list (ns.map PyData.int)) = true := ints_canLay ns
  have h2 : PyData.depth (.list (ns.map PyData.int)) = 1 := by
    show PyData.depthAll (ns.map PyData.int) + 1 = 1
    rw [ints_depth]
  unfold SeqAt.shaped
  rw [h1, h2]
  rfl
theorem ints_ne_nil (ns : List Int) : PyData.eqv (.list (ns.map PyData.int)) (.list []) = ns.isEmpty := by
  match ns with
  | [] => rfl
  | n :: r => rfl
theorem get_left {H : Hp} {p c : Addr} {t l : Int} (h : H p = some (.dK (penL c t l))) : DGet H p (.str "left") (some (.int l)) := pen_left c t l ▸ DGet.k (k := Sum.inr "left") h
theorem get_turn {H : Hp} {p c : Addr} {t l : Int} (h : H p = some (.dK (penL c t l))) : DGet H p (.str "turn") (some (.int t)) := pen_turn c t l ▸ DGet.k (k := Sum.inr "turn") h
theorem get_cells {H : Hp} {p c : Addr} {t l : Int} (h : H p = some (.dK (penL c t l))) : DGet H p (.str "cells") (some (.ref c)) := pen_cells c t l ▸ DGet.k (k := Sum.inr "cells") h
theorem put_left {H : Hp} {p c : Addr} {t l u : Int} (h : H p = some (.dK (penL c t l))) : DPut H p (.str "left") (.int u) (upd H p (.dK (penL c t u))) := pen_put_left c t l u ▸ DPut.k (k := Sum.inr "left") h (by show 3 < sizeLine; decide)
theorem put_turn {H : Hp} {p c : Addr} {t l u : Int} (h : H p = some (.dK (penL c t l))) : DPut H p (.str "turn") (.int u) (upd H p (.dK (penL c u l))) := pen_put_turn c t l u ▸ DPut.k (k := Sum.inr "turn") h (by show 3 < sizeLine; decide)
theorem at_mod {α : Type} {xs : List α} {i : Int} (h0 : 0 ≤ i) (h : i < (xs.length : Int)) : ∃ v, atI xs i = some v ∧ v ∈ xs := by
  have hj : i.toNat < xs.length := by omega
  refine ⟨xs[i.toNat], ?_, List.getElem_mem hj⟩
  have e : i = (i.toNat : Int) := by omega
  have q := atI_nat (List.getElem?_eq_getElem hj)
  rw [← e] at q
  exact q
def primes : List Int := [2147483629, 2147483647, 2147483587, 2147483563, 2147483579]
theorem primes_in {v : V} (h : v ∈ primes.map V.int) : ∃ i : Int, v = .int i ∧ 0 < i ∧ i < 2147483648 := by
  obtain ⟨i, hi, e⟩ := List.mem_map.mp h
  refine ⟨i, e.symm, ?_⟩
  have q : ∀ j ∈ primes, 0 < j ∧ j < 2147483648 := by decide
  exact q i hi
end Vk
set_option Elab.async false
set_option maxRecDepth 100000
set_option linter.all false
namespace Vk
open PySem PySem.Spec PyProof.Rows L2
/-! ## a def that returns one written text, and a replace of what it returns (a token is out behind it) -/
structure FnT (P : Program) (w : World) (K : PySem.W.Frag) (mg : Str → Option Value) (base : Heap) (k : Nat) (x : Str) (z : Str) : Prop where
  ex : ∃ f : Addr, mg x = some (.ref f) ∧ PySem.W.keepIn K (.ref f) = true ∧ ∀ (A : Around) (outer : List Env) (s : Shared) (H : Hp) (Q : VK), Room k A → Env0 P w K mg base A outer s H → Q (.str z) H →
    codeAny (model P w) A (.call (.ref f) ⟨[], []⟩) (fun r s2 => 1 ≤ s2.toks ∧ CR CX0 outer P w H s Q E0 r s2) s
section
variable {P : Program} {w : World} {K : PySem.W.Frag} {mg : Str → Option Value} {base : Heap}
theorem okT {x : Str} {st : Stmt} {f : Addr} {fd : FuncData} {z : Str} {j : Nat} {p1 p2 : Pos} (F : Fun K x x st f fd) (S : FnScope [] [] (defScope st)) (hm : mg x = some (.ref f)) (hb : Binds K fd [] [])
    (body : defBody st = [.Return (some (.Constant (.str z) j p1)) p2]) : FnT P w K mg base 1 x z := by
  refine ⟨f, hm, F.kp, ?_⟩
  obtain ⟨oc, od, kV, doc, pm, an, cdv, ct, osl, rfl, lk, hcd⟩ := F.ex
  intro A outer s H Q hr e0 hsp
  have KX := e0.mod.kin.keeps (fun b o e => (e0.bs b o e).1 : ∀ b o, base.get? b = some o → s.heap.get? b = some o)
  have noLim := e0.mod.nolimit.keeps (fun b o e => (e0.bs b o e).1 : ∀ b o, base.get? b = some o → s.heap.get? b = some o)
  refine codeAny_call_function hr.depth (KX f _ lk) rfl S.co S.gen rfl (PySem.W.codeRec_of KX hcd) (hb s [] KX rfl _ _ _ _ (wpAny_newFunctionEnv_cells S.kind (fun y hy => absurd hy (List.not_mem_nil (a := y))) fun env he s1 x0 => ?_))
  cases he
  refine And.intro (noLim.keeps x0.toInCall.keep) (codeAny_func ?_)
  have I0 := inv_start (P := P) (CX := CX0) (E := E0) (us := []) (vs := []) S hr.hd e0 rfl .nil x0
  show wpAny _ _ (execs (defBody st) _) _ _ s1
  rw [body]
  refine wpAny_execs_cons (wpAny_Return_some (Calls.Constant_str ?_))
  exact ⟨Nat.succ_pos _, .str z, H, I0.os, I0.bare, (I0.tok (s1.toks + 1)).base, (I0.tok (s1.toks + 1)).hok, ⟨_, rfl⟩, hsp⟩
end
section
variable {X : Cx} {j k : Nat} {x z y v : Str} {q q2 apos pos c0 c1 : Pos} {j0 j1 : Nat}
theorem pe_replT (c : FnT X.prog X.w X.K X.mg X.base k x z) (hr : Room j X.A) (hk : k ≤ j) (hz : z.length + (z.length + 1) * v.length ≤ 16777216) (hyz : (y == v) = false) (gl : Gl X x := by rfl) (hdb : (x == ("__debug__" : Str)) = false := by decide)
    (hst : starEach [.Constant (.str y) j0 c0, .Constant (.str v) j1 c1] X.env = [(false, eval (.Constant (.str y) j0 c0) X.env), (false, eval (.Constant (.str v) j1 c1) X.env)] := by rfl)
    (hbase : attributeBase (.Call (.Name x q) [] [] q2) "replace" X.env (eval (.Call (.Name x q) [] [] q2) X.env) = eval (.Call (.Name x q) [] [] q2) X.env := by rfl) (hline : (apos.endLine == pos.line) = true := by rfl) :
    PE X (.Call (.Attribute (.Call (.Name x q) [] [] q2) "replace" apos) [.Constant (.str y) j0 c0, .Constant (.str v) j1 c1] [] pos) (fun σ H Q => Q (.str (Txt.replace z y v)) H) := by
  obtain ⟨f, hm, kp, run⟩ := c.ex
  refine ⟨fun pins s σ H Q I h => PySem.Call_method2 (Q := EP X pins σ Q) hbase hst hline (wpAny_mono (Q := fun u s1 => 1 ≤ s1.toks ∧ EP X pins σ (fun w H1 => w = .str z ∧ H1 = H) u s1) ?_ ?_ (fun _ _ e => e))⟩
  · refine wpAny_Call_Name_kw (ld_glob I gl hm (PySem.W.callWith_K0 I.kIn kp (wpAny_call (codeAny_mono (run X.A X.stack s H (fun w H1 => w = .str z ∧ H1 = H) (hr.mono hk) I.env0 ⟨rfl, rfl⟩) fun res s2 hq => ?_))) hdb)
    match res, hq with
    | .error e, hq => exact hq.2.elim
    | .ok (.ret u), hq => exact ⟨hq.1, I.after hq.2⟩
    | .ok .next, hq => exact hq.2.elim
    | .ok .brk, hq => exact hq.2.elim
    | .ok .cont, hq => exact hq.2.elim
  · rintro u s1 ⟨ht, w, H1, I1, r1, rfl, rfl⟩
    obtain ⟨tx, rfl⟩ := r1
    refine ⟨"str", _, PySem.F.plainAttrs_str, PySem.F.slot_str_replace, PySem.F.type_str_replace, typeIs_str _ _ _, (fun _ e => nomatch e), Calls.callWith_builtin rfl (Calls.evalArgs_plain (Calls.spliced_cons (Calls.Constant_str (Calls.spliced_cons (Calls.Constant_str (Calls.spliced_nil ?_))))))⟩
    exact PySem.SC.replace (Nat.ne_of_gt ht) (Nat.succ_ne_zero _) (by show s1.toks ≠ s1.toks + 1; omega) hyz hz fun t' kk => ⟨V.str _, _, I1.tok kk, ⟨t', rfl⟩, h⟩
end
/-! ## options to pick from -/
def OneS (c : Nat) : V := .str ⟨#[c]⟩
inductive Opts (K : PySem.W.Frag) (H : Hp) : V → List V → Prop
  | str (z : Str) (h : z.length ≤ 1000) : Opts K H (.str z) (z.cps.toList.map OneS)
  | lst {a : Addr} {xs : List V} (h : SqL K H a xs) : Opts K H (.ref a) xs
  | tup {a : Addr} {xs : List V} (h : SqT K H a xs) : Opts K H (.ref a) xs
theorem Ext.sqL {K : PySem.W.Frag} {p a : Addr} {H H1 : Hp} {xs : List V} {kvs : List (Key × V)} (x : Ext p H H1) (hp : H p = some (.dK kvs)) (h : SqL K H a xs) : SqL K H1 a xs := by
  match h with
  | .inl (.inl e) => exact .inl (.inl (x _ _ e (ne_of e hp (by intro z; cases z))))
  | .inl (.inr ⟨o, e⟩) => exact .inl (.inr ⟨o, x _ _ e (ne_of e hp (by intro z; cases z))⟩)
  | .inr e => exact .inr e
theorem Ext.sqT {K : PySem.W.Frag} {p a : Addr} {H H1 : Hp} {xs : List V} {kvs : List (Key × V)} (x : Ext p H H1) (hp : H p = some (.dK kvs)) (h : SqT K H a xs) : SqT K H1 a xs := by
  match h with
  | .inl (.inl e) => exact .inl (.inl (x _ _ e (ne_of e hp (by intro z; cases z))))
  | .inl (.inr ⟨o, e⟩) => exact .inl (.inr ⟨o, x _ _ e (ne_of e hp (by intro z; cases z))⟩)
  | .inr e => exact .inr e
theorem Ext.is {p a : Addr} {H H1 : Hp} {xs : List V} {kvs : List (Key × V)} (x : Ext p H H1) (hp : H p = some (.dK kvs)) (h : H a = some (.lst xs)) : H1 a = some (.lst xs) := x _ _ h (ne_of h hp (by intro z; cases z))
theorem Ext.isT {p a : Addr} {H H1 : Hp} {xs : List V} {kvs : List (Key × V)} (x : Ext p H H1) (hp : H p = some (.dK kvs)) (h : H a = some (.tup xs)) : H1 a = some (.tup xs) := x _ _ h (ne_of h hp (by intro z; cases z))
theorem Pen.keepL {K : PySem.W.Frag} {p c a : Addr} {T : Nat} {H H1 : Hp} {xs : List V} (q : Pen H p c T) (x : Ext p H H1) (h : SqL K H a xs) : SqL K H1 a xs := by
  obtain ⟨t, l, hp⟩ := q.is
  exact x.sqL hp h
theorem Pen.keepT {K : PySem.W.Frag} {p c a : Addr} {T : Nat} {H H1 : Hp} {xs : List V} (q : Pen H p c T) (x : Ext p H H1) (h : SqT K H a xs) : SqT K H1 a xs := by
  obtain ⟨t, l, hp⟩ := q.is
  exact x.sqT hp h
theorem Pen.keepI {p c a : Addr} {T : Nat} {H H1 : Hp} {xs : List V} (q : Pen H p c T) (x : Ext p H H1) (h : H a = some (.lst xs)) : H1 a = some (.lst xs) := by
  obtain ⟨t, l, hp⟩ := q.is
  exact x.is hp h
def spPick (K : PySem.W.Frag) : Sp := fun vs H Q _ => ∃ (p c : Addr) (o : V) (xs : List V) (T : Nat), vs = [.ref p, o] ∧ Opts K H o xs ∧ xs ≠ [] ∧ xs.length ≤ 1000 ∧ Pen H p c T ∧ T < 1000000000 ∧
  ∀ (v : V) (H' : Hp), v ∈ xs → Pen H' p c (T + 1) → Ext p H H' → Q v H'
def letS : Str := "\n !\"#$&'()*+,-./0123456789:;<=>?@ABCDEFGHIJKLMNOPQRSTUVWXYZ[\\]^_`abcdefghijklmnopqrstuvwxyz{|}~"
def spSigns : Sp := fun vs H Q _ => vs = [] ∧ Q (.str letS) H
/-- what few gives: one to three letters -/
def Few (z : Str) : Prop := 1 ≤ z.length ∧ z.length ≤ 3 ∧ ∀ c ∈ z.cps.toList, c ∈ letS.cps.toList
def spFew : Sp := fun vs H Q _ => ∃ (p c : Addr) (T : Nat), vs = [.ref p] ∧ Pen H p c T ∧ T + 4 < 1000000000 ∧ ∀ (z : Str) (H' : Hp), Few z → Pen H' p c (T + 4) → Ext p H H' → Q (.str z) H'
/-- a word of the letters of z, a to b of them -/
def Word (z : Str) (a b : Nat) (x : Str) : Prop := a ≤ x.length ∧ x.length ≤ b ∧ ∀ c ∈ x.cps.toList, c ∈ z.cps.toList
def spWord : Sp := fun vs H Q _ => ∃ (p c : Addr) (z : Str) (a b T : Nat), vs = [.ref p, .str z, .int a, .int b] ∧ a ≤ b ∧ b ≤ 100 ∧ 1 ≤ z.length ∧ z.length ≤ 1000 ∧ Pen H p c T ∧ T + 200 < 1000000000 ∧
  ∀ (x : Str) (H' : Hp), Word z a b x → Pen H' p c (T + b + 1) → Ext p H H' → Q (.str x) H'
theorem cut63 (ns : List Int) : ∃ ms : List Int, cutV (ns.map V.int) none (some 63) = ms.map V.int ∧ ms.length ≤ 63 := by
  refine ⟨ns.take 63, ?_, List.length_take_le _ _⟩
  unfold cutV
  rw [HT.sIx_none, show (63 : Int) = ((63 : Nat) : Int) from rfl, HT.sIx_nat, List.drop_zero, Nat.sub_zero, List.map_take, Nat.min_comm, ← List.take_take]
  exact List.take_of_length_le (by rw [List.length_take]; omega)
theorem one_len (z : Str) : (z.cps.toList.map OneS).length = z.length := by
  rw [List.length_map]
  exact Array.length_toList
theorem join_nil : ∀ ls : List (List Nat), TL.joinL [] ls = ls.flatten
  | [] => rfl
  | [p] => by simp [TL.joinL]
  | p :: q :: r => by
    show p ++ ([] ++ TL.joinL [] (q :: r)) = _
    rw [List.nil_append, join_nil (q :: r)]
    rfl
theorem join_ones (cs : List Nat) : Txt.join "" (cs.map fun c => (⟨#[c]⟩ : Str)) = ⟨cs.toArray⟩ := by
  rw [TL.join_eq]
  refine TL.ext_tl ?_
  rw [TL.tl_join]
  refine (join_nil _).trans ?_
  show (List.map TL.tl (cs.map fun c => (⟨#[c]⟩ : Str))).flatten = cs
  rw [List.map_map]
  induction cs with
  | nil => rfl
  | cons c r ih => exact congrArg (c :: ·) ih
theorem ones_len (cs : List Nat) : ((cs.map fun c => (⟨#[c]⟩ : Str)).map (·.length)).sum = cs.length := by
  induction cs with
  | nil => rfl
  | cons c r ih =>
    rw [List.map_cons, List.map_cons, List.sum_cons, ih, List.length_cons]
    show 1 + r.length = r.length + 1
    omega
theorem ones_map (cs : List Nat) : (cs.map fun c => (⟨#[c]⟩ : Str)).map V.str = cs.map OneS := List.map_map
theorem noq_list : (Txt.replace letS "q" "").cps.toList = letS.cps.toList.filter (· != 113) := replace_strikes letS 113
theorem noq_len : (Txt.replace letS "q" "").length = 94 := by
  rw [show (Txt.replace letS "q" "").length = (Txt.replace letS "q" "").cps.toList.length from Array.length_toList.symm, noq_list]
  decide +kernel
theorem noq_in {c : Nat} (h : c ∈ (Txt.replace letS "q" "").cps.toList) : c ∈ letS.cps.toList := by
  rw [noq_list] at h
  exact (List.mem_filter.mp h).1
theorem ones_of {z : Str} {v : V} (h : v ∈ z.cps.toList.map OneS) : ∃ c, v = OneS c ∧ c ∈ z.cps.toList := by
  obtain ⟨c, hc, e⟩ := List.mem_map.mp h
  exact ⟨c, e.symm, hc⟩
theorem opts_ne {z : Str} (h : 1 ≤ z.length) : z.cps.toList.map OneS ≠ [] := fun e => by
  have q := one_len z
  rw [e] at q
  simp at q
  omega
theorem opts_le {z : Str} {n : Nat} (h : z.length ≤ n) : (z.cps.toList.map OneS).length ≤ n := by
  rw [one_len]
  exact h
/-- the fixed choices of few are few -/
theorem few_of {z : Str} (h : (decide (1 ≤ z.length) && decide (z.length ≤ 3) && z.cps.toList.all fun c => decide (c ∈ letS.cps.toList)) = true) : Few z := by
  simp only [Bool.and_eq_true, decide_eq_true_eq, List.all_eq_true] at h
  exact ⟨h.1.1, h.1.2, h.2⟩
theorem few_ones {cs : List Nat} (h1 : 1 ≤ cs.length) (h3 : cs.length ≤ 3) (h : ∀ c ∈ cs, c ∈ letS.cps.toList) : Few ⟨cs.toArray⟩ := ⟨by simpa [Str.length] using h1, by simpa [Str.length] using h3, by simpa using h⟩
/-! ## rules whose written part is named (within a comprehension's block) -/
section
variable {X : Cx} {K : PySem.W.Frag}
theorem ix_seqK (h : X.K = K) : IxR X (rIx K) := h ▸ ix_seq
theorem ix_listK (h : X.K = K) : IxR X (rIxL K) := h ▸ ix_list
theorem ix_tupK (h : X.K = K) : IxR X (rIxT K) := h ▸ ix_tup
theorem op_in_seqK (h : X.K = K) : OpR X (compareOp .In) (rIn K false) := h ▸ op_in_seq
theorem op_notIn_seqK (h : X.K = K) : OpR X (compareOp .NotIn) (rIn K true) := h ▸ op_notIn_seq
theorem sl_listK (h : X.K = K) : SlR X (rSlL K) := h ▸ sl_list
theorem sl_tupK (h : X.K = K) : SlR X (rSlT K) := h ▸ sl_tup
theorem call_lenK (h : X.K = K) : CallR X (.builtin "len") (fun xs H Q => ∃ x n, xs = [x] ∧ LenV K x H n ∧ Q (.int n) H) := h ▸ call_len
theorem op_eqDK (h : X.K = K) (hu : X.A.units + 64 < cLine) : OpR X (compareOp .Eq) (rEqD K) := h ▸ op_eqD hu
theorem op_neDK (h : X.K = K) (hu : X.A.units + 64 < cLine) : OpR X (compareOp .NotEq) (rNeD K) := h ▸ op_neD hu
end
theorem cutV_mem {xs : List V} {lo hi : Option Int} {v : V} (h : v ∈ cutV xs lo hi) : v ∈ xs := List.mem_of_mem_drop (List.mem_of_mem_take h)
theorem cutV_all {xs : List V} {lo hi : Option Int} {f : V → Bool} (h : xs.all f = true) : (cutV xs lo hi).all f = true := List.all_eq_true.mpr fun v hv => List.all_eq_true.mp h v (cutV_mem hv)
theorem ones_flat (cs : List Nat) : (cs.map OneS).all flatV = true := List.all_eq_true.mpr fun v hv => by
  obtain ⟨c, _, rfl⟩ := List.mem_map.mp hv
  rfl
theorem cutV_zero (xs : List V) : cutV xs none (some 0) = [] := by
  unfold cutV
  rw [HT.sIx_none, show (0 : Int) = ((0 : Nat) : Int) from rfl, HT.sIx_nat]
  simp
theorem one_mem {cs : List Nat} {v : V} (h : v ∈ cs.map OneS) : ∃ c, v = OneS c ∧ c ∈ cs := by
  obtain ⟨c, hc, e⟩ := List.mem_map.mp h
  exact ⟨c, e.symm, hc⟩
end Vk
set_option Elab.async false
set_option maxRecDepth 100000
set_option linter.all false
namespace Vk
open PySem PySem.Spec PyProof.Rows L2
/-! ## how long what is shown may be -/
theorem listText_le : ∀ ts : List Str, (listText ts).length ≤ piled ts + 2
  | [] => by decide +kernel
  | t :: r => by
    have h := textFrom_length_pos r 1 (("[" : Str) ++ (if (0 : Nat) > 0 then ", " else "" : String) ++ t) (Nat.succ_pos 0)
    have e : (listText (t :: r)).length = (textFrom 1 (("[" : Str) ++ (if (0 : Nat) > 0 then ", " else "" : String) ++ t) r).length + 1 := strLen_append _ _
    rw [e, h, strLen_append, strLen_append, piled_cons]
    show 1 + 0 + t.length + piled r + 1 ≤ _
    omega
theorem piled_le {ts : List Str} {n : Nat} (h : ∀ t ∈ ts, t.length ≤ n) : piled ts ≤ ts.length * (n + 2) := by
  induction ts with
  | nil => exact Nat.zero_le _
  | cons t r ih =>
    have h1 := h t List.mem_cons_self
    have h2 := ih fun u hu => h u (List.mem_cons_of_mem _ hu)
    rw [piled_cons, List.length_cons, Nat.succ_mul]
    omega
theorem shownAll_map : ∀ ds : List PyData, PyData.shownAll ds = ds.map PyData.shown
  | [] => rfl
  | d :: r => congrArg (d.shown :: ·) (shownAll_map r)
theorem showableAll_iff : ∀ {ds : List PyData}, (∀ d ∈ ds, d.showable = true) → PyData.showableAll ds = true
  | [], _ => rfl
  | d :: r, h => by
    show (d.showable && PyData.showableAll r) = true
    rw [h d List.mem_cons_self, showableAll_iff fun e he => h e (List.mem_cons_of_mem _ he)]
    rfl
theorem hasDictAll_of : ∀ {ds : List PyData}, (∀ d ∈ ds, d.hasDict = false) → PyData.hasDictAll ds = false
  | [], _ => rfl
  | d :: r, h => by
    show (d.hasDict || PyData.hasDictAll r) = false
    rw [h d List.mem_cons_self, hasDictAll_of fun e he => h e (List.mem_cons_of_mem _ he)]
    rfl
theorem depthAll_le : ∀ {ds : List PyData} {n : Nat}, (∀ d ∈ ds, d.depth ≤ n) → PyData.depthAll ds ≤ n
  | [], _, _ => Nat.zero_le _
  | d :: r, n, h => Nat.max_le.mpr ⟨h d List.mem_cons_self, depthAll_le fun e he => h e (List.mem_cons_of_mem _ he)⟩
/-- d may be shown, in at most n signs, at most k deep -/
structure Showy (d : PyData) (k n : Nat) : Prop where
  sh : d.showable = true
  nd : d.hasDict = false
  dp : d.depth ≤ k
  ln : d.shown.length ≤ n
theorem Showy.list {ds : List PyData} {k n : Nat} (h : ∀ d ∈ ds, Showy d k n) : Showy (.list ds) (k + 1) (ds.length * (n + 2) + 2) := by
  refine ⟨showableAll_iff fun d hd => (h d hd).sh, hasDictAll_of fun d hd => (h d hd).nd, Nat.succ_le_succ (depthAll_le fun d hd => (h d hd).dp), ?_⟩
  show (listText (PyData.shownAll ds)).length ≤ _
  rw [shownAll_map]
  have h1 := listText_le (ds.map PyData.shown)
  have h2 := piled_le (ts := ds.map PyData.shown) (n := n) fun t ht => by
    obtain ⟨d, hd, rfl⟩ := List.mem_map.mp ht
    exact (h d hd).ln
  rw [List.length_map] at h2
  omega
theorem Showy.tuple {ds : List PyData} {k n : Nat} (h : ∀ d ∈ ds, Showy d k n) : Showy (.tuple ds) (k + 1) (ds.length * (n + 2) + 2) := by
  refine ⟨showableAll_iff fun d hd => (h d hd).sh, hasDictAll_of fun d hd => (h d hd).nd, Nat.succ_le_succ (depthAll_le fun d hd => (h d hd).dp), ?_⟩
  show (tupleText (PyData.shownAll ds)).length ≤ _
  rw [shownAll_map]
  have h1 := fmt_text (ds.map PyData.shown)
  have h2 := piled_le (ts := ds.map PyData.shown) (n := n) fun t ht => by
    obtain ⟨d, hd, rfl⟩ := List.mem_map.mp ht
    exact (h d hd).ln
  rw [List.length_map] at h2
  omega
theorem Showy.int {i : Int} (h : i.natAbs < 10 ^ 100) : Showy (.int i) 0 101 := by
  have hl : i.natAbs.log2 < 1920 := by
    by_cases h0 : i.natAbs = 0
    · rw [h0]; decide
    · exact (Nat.log2_lt h0).mpr (Nat.lt_of_lt_of_le h (by decide +kernel))
  refine ⟨decide_eq_true hl, rfl, Nat.le_refl _, ?_⟩
  show (Str.ofString (toString i)).length ≤ 101
  rw [PySem.ofString_length]
  exact int_text_length_le10 (k := 100) (by decide) h
theorem Showy.mono {d : PyData} {k k' n n' : Nat} (h : Showy d k n) (h1 : k ≤ k') (h2 : n ≤ n') : Showy d k' n' := ⟨h.sh, h.nd, Nat.le_trans h.dp h1, Nat.le_trans h.ln h2⟩
/-! ## places of words -/
open StrLaws in
theorem find_from (x y : Str) (lo : Nat) (hlo : lo ≤ x.length + 1) :
    ((match Builtin.Str.occurrences x y lo x.length 1 with | i :: _ => (i : Int) | [] => -1) = -1 ∧ ∀ i, lo ≤ i → ¬ At x y x.length i) ∨
    ∃ i : Nat, (match Builtin.Str.occurrences x y lo x.length 1 with | i :: _ => (i : Int) | [] => -1) = (i : Int) ∧ lo ≤ i ∧ At x y x.length i ∧ ∀ k, lo ≤ k → k < i → ¬ At x y x.length k := by
  rw [occ_eq]
  have inr : ∀ i, lo ≤ i → i ≤ x.length → i ∈ List.range' lo (x.length + 1 - lo) := fun i h1 h2 => by
    simp only [List.mem_range'_1]
    omega
  rcases occ_first x y x.length 1 (Nat.le_refl _) (List.range' lo (x.length + 1 - lo)) lo (fun i hi => (List.mem_range'_1.mp hi).1) with ⟨h0, hn⟩ | ⟨pre, a, post, e, h0, ha, hn⟩
  · refine .inl ⟨by rw [h0], fun i hi hA => hn i (inr i hi (Nat.le_trans (Nat.le_add_right _ _) hA.1)) hA⟩
  · refine .inr ⟨a, ?_, ?_, ha, fun k h1 h2 => ?_⟩
    · generalize (forIn (List.range' lo (x.length + 1 - lo)) ((#[] : Array Nat), lo) (occBody x y x.length 1)).run.fst = arr at h0
      have h1 : arr.toList[0]? = some a := by simpa using h0
      match hL : arr.toList with
      | [] => rw [hL] at h1; cases h1
      | b :: t => rw [hL] at h1; simp at h1; rw [h1]
    · exact (List.mem_range'_1.mp (by rw [e]; exact List.mem_append_right _ List.mem_cons_self : a ∈ List.range' lo (x.length + 1 - lo))).1
    · refine hn k ?_
      have hk : k ∈ pre ++ a :: post := by
        rw [← e]
        refine inr k h1 ?_
        have q := ha.1
        omega
      have pw : (pre ++ a :: post).Pairwise (· < ·) := by rw [← e]; exact List.pairwise_lt_range'
      rcases List.mem_append.mp hk with hk | hk
      · exact hk
      · rcases List.mem_cons.mp hk with rfl | hk
        · exact absurd h2 (Nat.lt_irrefl _)
        · have q := (List.pairwise_cons.mp (List.pairwise_append.mp pw).2.1).1 k hk
          omega
def atB (x w : Str) (i : Nat) : Bool := decide (i + w.length ≤ x.length) && Builtin.Str.subAt x w i
theorem atB_iff (x w : Str) (i : Nat) : atB x w i = true ↔ StrLaws.At x w x.length i := by
  unfold atB StrLaws.At
  simp
/-- all places of a word in a text -/
def plc (x w : Str) : List Nat := (List.range (x.length + 1)).filter (atB x w)
theorem filter_more {P : Nat → Bool} {lo m : Nat} (h : lo ≤ m) (hn : ∀ i, lo ≤ i → i < m → P i = false) : (List.range m).filter P = (List.range lo).filter P := by
  induction m with
  | zero => rw [Nat.le_zero.mp h]
  | succ m ih =>
    by_cases e : lo = m + 1
    · rw [e]
    · rw [List.range_succ, List.filter_append, ih (by omega) fun i h1 h2 => hn i h1 (by omega)]
      have q := hn m (by omega) (Nat.lt_succ_self _)
      simp [q]
theorem filter_snoc {P : Nat → Bool} {m : Nat} (h : P m = true) : (List.range (m + 1)).filter P = (List.range m).filter P ++ [m] := by
  rw [List.range_succ, List.filter_append]
  simp [h]
def plcI (x w : Str) : List Int := (plc x w).map Int.ofNat
theorem plc_lt {x w : Str} {i : Nat} (h : i ∈ plc x w) : i ≤ x.length := Nat.le_of_lt_succ (List.mem_range.mp (List.mem_filter.mp h).1)
theorem plc_len (x w : Str) : (plc x w).length ≤ x.length + 1 := Nat.le_trans (List.length_filter_le _ _) (Nat.le_of_eq List.length_range)
theorem plc_showy {x w : Str} (h : x.length ≤ 10000) : Showy (.list ((plcI x w).map PyData.int)) 1 1100000 := by
  refine (Showy.list (k := 0) (n := 101) fun d hd => ?_).mono (Nat.le_refl _) ?_
  · obtain ⟨i, hi, rfl⟩ := List.mem_map.mp hd
    obtain ⟨n, hn, rfl⟩ := List.mem_map.mp hi
    have q := plc_lt hn
    refine Showy.int ?_
    show n < 10 ^ 100
    exact Nat.lt_of_le_of_lt (Nat.le_trans q h) (by decide +kernel)
  · rw [List.length_map]
    unfold plcI
    rw [List.length_map]
    have := plc_len x w
    omega
def spPlaces (K : PySem.W.Frag) : Sp := fun vs H Q _ => ∃ (x w : Str), vs = [.str x, .str w] ∧ x.length ≤ 10000 ∧ w.length ≤ 10000 ∧
  ∀ (a : Addr) (H' : Hp), H a = none → H' a = some (.lst ((plcI x w).map V.int)) → Same H H' → Q (.ref a) H'
/-- the slice of a text at a place -/
theorem cut_at (x w : Str) (k : Nat) (h : k + w.length ≤ x.length) : decide (V.str (cutS x (some (k : Int)) (some ((k : Int) + (w.length : Int)))) = V.str w) = atB x w k := by
  have e : cutS x (some (k : Int)) (some ((k : Int) + (w.length : Int))) = ⟨((x.cps.toList.drop k).take w.length).toArray⟩ := by
    unfold cutS
    rw [show (k : Int) + (w.length : Int) = ((k + w.length : Nat) : Int) by omega, HT.sIx_nat, HT.sIx_nat, Nat.min_eq_left h, Nat.min_eq_left (show k ≤ x.length by omega), show k + w.length - k = w.length by omega]
  rw [e]
  unfold atB
  rw [StrLaws.subAt_eq, decide_eq_true h, Bool.true_and, Bool.eq_iff_iff, decide_eq_true_eq, beq_iff_eq]
  constructor
  · intro q
    have q2 := V.str.inj q
    exact congrArg (fun z : Str => z.cps.toList) q2
  · intro q
    rw [q]
end Vk
set_option Elab.async false
set_option maxRecDepth 100000
set_option linter.all false
namespace Vk
open PySem PySem.Spec PyProof.Rows L2
/-! ## a text some times -/
theorem mulOk {x : Str} {n : Int} (h0 : 0 ≤ n) (h1 : n ≤ 1000000) (h : x.length * n.toNat ≤ 10000000) (hx : x.length ≤ 10000000) : MulOk x n := by
  refine ⟨?_, fun a _ c => ?_, fun _ _ => ?_⟩
  · rw [decide_eq_false (by omega), decide_eq_false (by omega)]
    rfl
  · have hn : 0 < n := by omega
    have q : (10000000 : Int) ≤ (2 ^ 63 - 1) / n := (Int.le_ediv_iff_mul_le hn).mpr (by omega)
    omega
  · unfold Builtin.Str.tooLong sizeLine
    exact decide_eq_false (by omega)
def CMulS (x : Str) (n : Int) : Prop := 0 ≤ n ∧ n ≤ 1000000 ∧ x.length * n.toNat ≤ 10000000 ∧ x.length ≤ 10000000
def rMulS : R2 := fun x y H Q => ∃ (z : Str) (n : Int), x = .str z ∧ y = .int n ∧ CMulS z n ∧ Q (.str (Txt.mul z n)) H
section
variable {X : Cx}
theorem op_mulS : OpR X (binaryOp .Mult) rMulS := by
  intro pins s σ H x y v u Q I rx ry h
  obtain ⟨z, n, rfl, rfl, ⟨h0, h1, h2, h3⟩, q⟩ := h
  obtain ⟨t, rfl⟩ := rx
  obtain ⟨t2, rfl⟩ := ry
  exact SB.mul (mulOk h0 h1 h2 h3) fun t' k => ⟨V.str _, H, I.tok k, ⟨t', rfl⟩, q⟩
end
theorem foldl_cat : ∀ (l : List (Array Nat)) (acc : Array Nat), (l.foldl (· ++ ·) acc).toList = acc.toList ++ (l.map Array.toList).flatten
  | [], acc => by simp
  | a :: r, acc => by
    rw [List.foldl_cons, foldl_cat r]
    simp
theorem mul_list (x : Str) (n : Int) (h : 0 ≤ n) : (Txt.mul x n).cps.toList = (List.replicate n.toNat x.cps.toList).flatten := by
  unfold Txt.mul
  split
  · rw [show n.toNat = 0 by omega]
    rfl
  · split
    · rename_i h1 h2
      rw [Bool.or_eq_true] at h2
      rcases h2 with h2 | h2
      · rw [show n = 1 from eq_of_beq h2]
        simp
      · have e : x.cps.toList = [] := List.eq_nil_of_length_eq_zero (Array.length_toList.trans (eq_of_beq h2))
        rw [e]
        simp
    · show ((List.replicate n.toNat x.cps).foldl (· ++ ·) #[]).toList = _
      rw [foldl_cat, List.map_replicate]
      rfl
theorem len_list (x : Str) : x.length = x.cps.toList.length := Array.length_toList.symm
theorem mul_len (x : Str) (n : Int) (h : 0 ≤ n) : (Txt.mul x n).length = n.toNat * x.length := by
  rw [len_list, mul_list x n h, len_list x]
  simp [List.length_flatten]
/-! ## a def called by keywords alone -/
structure CalK (P : Program) (w : World) (K : PySem.W.Frag) (mg : Str → Option Value) (base : Heap) (CX : CXT) (k : Nat) (x : Str) (sp : Sp) (ks : List Str) (g : {α : Type} → List α → List α) : Prop where
  ex : ∃ (f : Addr) (fd : FuncData) (ps : List Str), FnG P w K mg base CX k f fd ps sp ∧ mg x = some (.ref f) ∧ PySem.W.keepIn K (.ref f) = true ∧
    (∀ (s : Shared) (ws : List Value), K.In s.heap → ws.length = ks.length → BindsTo s fd ⟨[], ks.zip ws⟩ (ps.zip (g ws))) ∧ ∀ (vs : List V) (ws : List Value), Vals vs ws → vs.length = ks.length → Vals (g vs) (g ws)
def tCallW (n : Nat) (sp : Sp) (g : {α : Type} → List α → List α) (E : XK) (t : TA) : TE := fun σ H Q => t σ H fun vs H1 => vs.length = n ∧ sp (g vs) H1 Q E
section
variable {X : Cx} {CX : CXT} {j k : Nat} {sp : Sp} {E : XK} {x : Str} {p pos : Pos} {kws : List Keyword} {tk : TA} {ks : List Str} {g : {α : Type} → List α → List α}
theorem pe_kw (c : CalK X.prog X.w X.K X.mg X.base CX k x sp ks g) (hg : X.A.guards = some []) (hr : Room j X.A) (hk : k ≤ j) (hx : Passes CX X E) (hkw : PK X kws tk) (gl : Gl X x := by rfl)
    (hall : (backToKw pos (keywordEach kws X.env)).all (·.1.isSome) = true := by rfl) (hks : (backToKw pos (keywordEach kws X.env)).filterMap (·.1) = ks := by rfl) (hdb : (x == ("__debug__" : Str)) = false := by decide)
    (hpl : ((backTo pos (starEach [] X.env)).any (·.1) || (backToKw pos (keywordEach kws X.env)).any (·.1.isNone)) = false := by rfl) :
    PE X (.Call (.Name x p) [] kws pos) (tCallW ks.length sp g E tk) := by
  obtain ⟨f, fd, ps, F, hm, kp, hb, hv⟩ := c.ex
  refine ⟨fun pins s σ H Q I h => wpAny_Call_Name_kw (ld_glob I gl hm (PySem.W.callWith_KW0 (h₀ := X.base) I.ok.mod.kin kp hall (thn (hkw.run pos pins s σ H _ I h) fun ws s2 hh => ?_) hpl) hdb)⟩
  obtain ⟨vs, H2, I2, rz, l2, q2⟩ := hh
  refine ⟨I2.kIn, ?_⟩
  rw [hks]
  refine wpAny_call (codeAny_mono (F.run X.A X.stack s2 H2 ⟨[], ks.zip ws⟩ (g ws) (g vs) Q E hg (hr.mono hk) I2.env0 (hb s2 ws I2.kIn (rz.length.symm.trans l2)) (hv vs ws rz l2) q2) (fun res s3 hq => ?_))
  match res, hq with
  | .error e, hq => exact hx pins σ H2 s2 e s3 I2 hq
  | .ok (.ret u), hq => exact I2.after hq
  | .ok .next, hq => exact hq.elim
  | .ok .brk, hq => exact hq.elim
  | .ok .cont, hq => exact hq.elim
end
theorem vals_rev : ∀ {vs : List V} {ws : List Value}, Vals vs ws → Vals vs.reverse ws.reverse
  | _, _, .nil => .nil
  | _, _, .cons r t => by
    rw [List.reverse_cons, List.reverse_cons]
    exact (vals_rev t).append (.cons r .nil)
theorem ints_can (ns : List Int) : PyData.canLay0 (.list (ns.map PyData.int)) = true := ints_canLay ns
/-! ## a def of the text as the head leaves it -/
structure At (K : PySem.W.Frag) (x : Str) (st : Stmt) (f : Addr) (fd : FuncData) : Prop where
  ns : PySem.W.nsIn K mainGlobals x = some (some (.ref f))
  fn : Fun K x x st f fd
theorem at_mk {K : PySem.W.Frag} {x : Str} {st : Stmt} {f : Addr} {oc : Value} {od an : Option Addr} {sl : Array (Option Value)} {kV doc pm cd ct : Value} (a : PySem.W.nsIn K mainGlobals x = some (some (.ref f)))
    (l : K.lookup f = some ⟨oc, od, .func (PySem.W.fnOf x x (defArgs st) (defBody st) (defScope st) .none kV doc pm an cd ct), sl⟩) (c : PySem.W.codeIn K cd x = true) (k : PySem.W.keepIn K (.ref f) = true) :
    At K x st f (PySem.W.fnOf x x (defArgs st) (defBody st) (defScope st) .none kV doc pm an cd ct) := ⟨a, fun_mk l c k⟩
section
variable {K : PySem.W.Frag} {x y qual : Str} {st : Stmt} {f : Addr} {fd : FuncData} {ps ks : List Str} {g : List Value → List Value}
theorem _root_.L2.Fun.kwb (F : Fun K x qual st f fd)
    (h : ∀ (kV doc pm : Value) (an : Option Addr) (cdv ct : Value) (ws : List Value), ws.length = ks.length → bindArgs (PySem.W.fnOf x qual (defArgs st) (defBody st) (defScope st) .none kV doc pm an cdv ct) ⟨[], ks.zip ws⟩ = pure (ps.zip (g ws))) :
    ∀ (s : Shared) (ws : List Value), K.In s.heap → ws.length = ks.length → BindsTo s fd ⟨[], ks.zip ws⟩ (ps.zip (g ws)) := by
  obtain ⟨oc, od, kV, doc, pm, an, cdv, ct, osl, rfl, lk, hcd⟩ := F.ex
  exact fun s ws _ hl => .of_eq (h kV doc pm an cdv ct ws hl)
theorem _root_.L2.Fun.binds1 (F : Fun K x qual st f fd)
    (h : ∀ {kV doc pm : Value} {an : Option Addr} {cdv ct : Value} {v : Value}, bindArgs (PySem.W.fnOf x qual (defArgs st) (defBody st) (defScope st) .none kV doc pm an cdv ct) ⟨[v], []⟩ = pure [(y, v)]) :
    ∀ (s : Shared) (v : Value), BindsTo s fd ⟨[v], []⟩ [(y, v)] := by
  obtain ⟨oc, od, kV, doc, pm, an, cdv, ct, osl, rfl, lk, hcd⟩ := F.ex
  exact fun s v => .of_eq h
end
end Vk
set_option Elab.async false
set_option maxRecDepth 100000
set_option maxHeartbeats 4000000
set_option linter.all false
namespace PySem
namespace VkX
open PySem.W PySem.Calls PyProof.Rows Builtin Builtin.ObjectAttr PySem.HandSPX
/-! ## own exception classes straight below one of the four -/
structure ExB (B newId initId : String) (tl : List Value) : Prop where
  F : ExcBaseFacts B newId initId tl
  pass : ∀ self : Value, refuseLoop self "__setattr__" tl = pure ()
  obj : tl.contains (.type "object") = true
  refs : tl.all (fun v => match v with | .type _ => true | _ => false) = true
theorem exB_value : ExB "ValueError" "ValueError.__new__" "ValueError.__init__" [.type "ValueError", .type "Exception", .type "BaseException", .type "object"] := ⟨F.excBase_ValueError, fun _ => by kernel_rfl, by decide +kernel, rfl⟩
theorem exB_lookup : ExB "LookupError" "LookupError.__new__" "LookupError.__init__" [.type "LookupError", .type "Exception", .type "BaseException", .type "object"] := ⟨F.excBase_LookupError, fun _ => by kernel_rfl, by decide +kernel, rfl⟩
theorem exB_overflow : ExB "OverflowError" "OverflowError.__new__" "OverflowError.__init__" [.type "OverflowError", .type "ArithmeticError", .type "Exception", .type "BaseException", .type "object"] := ⟨F.excBase_OverflowError, fun _ => by kernel_rfl, by decide +kernel, rfl⟩
theorem exB_runtime : ExB "RuntimeError" "RuntimeError.__new__" "RuntimeError.__init__" [.type "RuntimeError", .type "Exception", .type "BaseException", .type "object"] := ⟨F.excBase_RuntimeError, fun _ => by kernel_rfl, by decide +kernel, rfl⟩
section
variable {M : Model} {A : Around} {E : Value → Shared → Prop} {h : Heap} {g : Array GenState} {d : Drawn} {t : Nat} {os : OsState}
variable {nm q : Str} {C N : Addr} {bs bm : List Value} {hdct : Bool} {sn : List Str} {sub : List Value} {ab : Bool} {col : Option Bool} {dd : Option Addr} {k0 k1 k2 k3 k5 : Option Value} {B newId initId : String}
theorem check_newK (F : ExcBaseFacts B newId initId bm) {rest : List Value} {kw : List (Str × Value)} {Q : Unit → Shared → Prop} (hC : h.get? C = some (excClassObj nm q C N bs bm hdct sn sub ab col dd k0 k1 k2 k3 k5 newId))
    (hq : Q () ⟨h, g, d, t, os⟩) : wpAny M A (checkBuiltinCall newId ⟨.ref C :: rest, kw⟩) Q E ⟨h, g, d, t, os⟩ := by
  have inB : (Value.ref C :: bm).contains (.type B) = true := by rw [List.contains_cons, F.hasB, Bool.or_true]
  have star := F.noStar
  simp only [checkBuiltinCall, F.newKind, F.newSplit, F.newRow]
  repeat (first | refine wpAny_loadPart_at hC ?_ | (refine wpAny_isSubtype_exc hC ?_; rw [inB]) | refine wpAny_staticBase_exc hC ?_ | refine wpAny_madeBy_exc hC ?_ | simp only [bne_self_eq_false, Bool.false_eq_true, if_false] | wp_step)
  exact hq
end
section
variable {prog : Program} {w : World} {A : Around} {E : Value → Shared → Prop} {R : Result → Shared → Prop} {h : Heap} {g : Array GenState} {d : Drawn} {t : Nat} {os : OsState}
variable {nm q : Str} {C N : Addr} {bs bm : List Value} {hdct : Bool} {sn : List Str} {sub : List Value} {ab : Bool} {col : Option Bool} {dd : Option Addr} {k0 k1 k2 k3 k5 : Option Value} {B newId initId : String}
theorem new_ownK (F : ExcBaseFacts B newId initId bm) {rest : List Value} {kw : List (Str × Value)} (hC : h.get? C = some (excClassObj nm q C N bs bm hdct sn sub ab col dd k0 k1 k2 k3 k5 newId))
    (hq : R (.ok (.ret (.ref (h.objs.size + 1)))) ⟨(h.push (W.kdv_tup rest)).push (excO C h.objs.size), g, d, t, os⟩) (hrest : rest.length ≤ sizeLine) :
    codeAny (model prog w) A (.builtin newId ⟨.ref C :: rest, kw⟩) R ⟨h, g, d, t, os⟩ := by
  have fends := F.ends
  have cB : (Value.ref C :: bm).contains (.type B) = true := by rw [List.contains_cons, F.hasB, Bool.or_true]
  have cA : (Value.ref C :: bm).contains (.type "AttributeError") = false := by rw [List.contains_cons, F.noAttr]; rfl
  have cN : (Value.ref C :: bm).contains (.type "NameError") = false := by rw [List.contains_cons, F.noName]; rfl
  refine codeAny_builtinAt F.entry ?_
  unfold Builtin.«BaseException.__new__»
  refine wpAt_bind (show wpAt _ _ _ (stack >>= _) _ _ _ from wpAt_bind (wpAt_stack fun p below => wpAt_of_wpAny ?_))
  wp_walk
  refine wpAt_of_wpAny ?_
  rw [F.owner]
  repeat (first | with_reducible refine wpAny_madeHere_exc F.canon hC ?_ | with_reducible refine wpAny_loadPart_at hC ?_ | (with_reducible refine wpAny_isSubtype_exc hC ?_; first | rw [cB] | rw [cA] | rw [cN]) | wp_step)
  exact (show R _ _ by rw [Heap.size_push]; exact hq)
theorem check_callK {M : Model} {rest : List Value} {kw : List (Str × Value)} {Q : Unit → Shared → Prop} (hC : h.get? C = some (excClassObj nm q C N bs bm hdct sn sub ab col dd k0 k1 k2 k3 k5 newId)) (hq : Q () ⟨h, g, d, t, os⟩) : wpAny M A (checkBuiltinCall "type.__call__" ⟨.ref C :: rest, kw⟩) Q E ⟨h, g, d, t, os⟩ := by
  have own := tc_sub
  have typed : (⟨h, g, d, t, os⟩ : Shared).TypeIs (.ref C) "type" := ⟨_, hC, rfl⟩
  simp only [checkBuiltinCall, tc_kind, tc_split]
  repeat (any_goals (first | assumption | with_reducible refine wpAny_loadPart_at hC ?_ | with_reducible refine wpAny_onRaise ?_ | with_reducible refine wpAny_map ?_ | wp_step))
theorem type_callK (F : ExcBaseFacts B newId initId bm) {rest : List Value} {kw : List (Str × Value)} {fI : Addr} {Q : Fin → Shared → Prop} (hC : h.get? C = some (excClassObj nm q C N bs bm hdct sn sub ab col dd k0 k1 k2 k3 k5 newId))
    (hi : W.Looks (model prog w) h (typeLookup (.ref C) "__init__") (some (.ref fI))) (hb : ∀ self, W.Looks (model prog w) h (bindSpecial (.ref fI) self) (.ref fI, [self])) (hrest : rest.length ≤ sizeLine)
    (hq : codeAny (model prog w) A (.call (.ref fI) ⟨.ref (h.objs.size + 1) :: rest, kw⟩)
      (fun r s' => match r with | .ok (.ret v) => v = .none ∧ Q (.done (.ret (.ref (h.objs.size + 1)))) s' | .ok _ => False | .error e => E e s')
      ⟨(h.push (W.kdv_tup rest)).push (excO C h.objs.size), g, d, t, os⟩) :
    wpAny (model prog w) A (Builtin.«type.__call__» ⟨.ref C :: rest, kw⟩) Q E ⟨h, g, d, t, os⟩ := by
  repeat (first | with_reducible refine wpAny_loadPart_at hC ?_ | with_reducible refine wpAny_madeBy_exc hC ?_ | wp_step)
  refine codeAny_call_builtin_code (Code.quiet_builtin _ F.quiet) (check_newK F hC (new_ownK F hC (show wpAny _ _ _ _ _ _ from ?_) hrest))
  have kp : ∀ b o, h.get? b = some o → ((h.push (W.kdv_tup rest)).push (excO C h.objs.size)).get? b = some o := fun b o e => Heap.get?_push_of_some _ (Heap.get?_push_of_some _ e)
  have hC1 := kp _ _ hC
  have made : ((h.push (W.kdv_tup rest)).push (excO C h.objs.size)).get? (h.objs.size + 1) = some (excO C h.objs.size) := by heap_get
  have self1 : (Value.ref C :: bm).contains (.ref C) = true := by simp
  have looked := hi.keeps kp
  have bound := (hb (.ref (h.objs.size + 1))).keeps kp
  unfold isInstance
  repeat (first | with_reducible refine wpAny_loadPart_at made ?_ | (with_reducible refine wpAny_isSubtype_exc hC1 ?_; rw [self1]) | wp_step)
  refine (show wpAny _ _ (typeLookup (.ref C) _) _ _ _ from looked.at (wpAny_holding (wpAny_bind (bound.at (wpAny_bind (wpAny_call (codeAny_mono hq fun res s2 z => ?_)))))))
  match res, z with
  | .error e, z => exact z
  | .ok (.ret v), z =>
    obtain ⟨rfl, z⟩ := z
    first
      | exact wpAny_pure (wpAny_pure z)
      | (wp_walk; exact z)
  | .ok .next, z => exact z.elim
  | .ok .brk, z => exact z.elim
  | .ok .cont, z => exact z.elim
theorem call_ownK (F : ExcBaseFacts B newId initId bm) {rest : List Value} {kw : List (Str × Value)} {fI : Addr} (hC : h.get? C = some (excClassObj nm q C N bs bm hdct sn sub ab col dd k0 k1 k2 k3 k5 newId))
    (hi : W.Looks (model prog w) h (typeLookup (.ref C) "__init__") (some (.ref fI))) (hb : ∀ self, W.Looks (model prog w) h (bindSpecial (.ref fI) self) (.ref fI, [self])) (hrest : rest.length ≤ sizeLine)
    (hq : codeAny (model prog w) (A.under (.builtin "type.__call__" ⟨.ref C :: rest, kw⟩)) (.call (.ref fI) ⟨.ref (h.objs.size + 1) :: rest, kw⟩) (W.InitBack (h.objs.size + 1) R)
      ⟨(h.push (W.kdv_tup rest)).push (excO C h.objs.size), g, d, t, os⟩) :
    codeAny (model prog w) A (.call (.ref C) ⟨rest, kw⟩) R ⟨h, g, d, t, os⟩ := by
  have l1 := tc_lookup
  have l2 := tc_bind (.ref C)
  have hTy : (⟨h, g, d, t, os⟩ : Shared).TypeIs (.ref C) "type" := ⟨_, hC, rfl⟩
  refine codeAny_of_tree (show wpAny _ _ (callAny (.ref C) _) _ _ _ from ?_)
  repeat (any_goals (first | assumption | with_reducible refine wpAny_loadPart_at hC ?_ | wp_step))
  refine ⟨rfl, codeAny_call_builtin_at (Code.quiet_builtin _ (by decide +kernel)) entry_typeCall (check_callK hC (type_callK F hC hi hb hrest (codeAny_mono hq fun res s2 z => ?_)))⟩
  match res, z with
  | .error e, z => exact z
  | .ok (.ret v), z => exact z
  | .ok .next, z => exact z.elim
  | .ok .brk, z => exact z.elim
  | .ok .cont, z => exact z.elim
end
end VkX
end PySem
set_option Elab.async false
set_option maxRecDepth 100000
set_option maxHeartbeats 4000000
set_option linter.all false
namespace PySem
namespace VkX
open PySem.W PySem.Calls PyProof.Rows Builtin Builtin.ObjectAttr PySem.HandSPX
section
variable {prog : Program} {w : World} {A : Around} {E : Value → Shared → Prop} {R : Result → Shared → Prop} {hp : Heap} {g : Array GenState} {d : Drawn} {t : Nat} {os : OsState}
/-- object.__setattr__ on an exception of an own class, up to the store into its own dict -/
theorem osa_way {K : Frag} {name : Str} {tk : Tok} {v : Value} {x C : Addr} {ox : Obj} {od : Option Obj} {cd : ClassData} {B newId initId : String} {tl : List Value} (hB : ExB B newId initId tl)
    (X : K.In hp) (I : InstAt hp x ox C od) (hcd : clsIn K C = some cd) (hm : cd.mro = .ref C :: tl) (ha : findIn K (.ref C) name = some none)
    (hq : wpAny (model prog w) (A.under (.builtin "object.__setattr__" ⟨[.ref x, .str name tk, v], []⟩)) (storeInOwnDict (.ref x) (.ref C) (.str name tk) name v false)
      (fun fin s2 => match fin with | .done f => R (.ok f) s2 | .again c2 => c2.quiet = true ∧ codeAny (model prog w) A c2 R s2) (fun e s2 => R (.error e) s2) ⟨hp, g, d, t, os⟩) :
    codeAny (model prog w) A (.call (.builtin "object.__setattr__") ⟨[.ref x, .str name tk, v], []⟩) R ⟨hp, g, d, t, os⟩ := by
  have slot := F.store_object
  have some1 : cd.mro.isEmpty = false := by rw [hm]; rfl
  have obj1 : cd.mro.contains (.type "object") = true := by rw [hm, List.contains_cons, hB.obj, Bool.or_true]
  have within : Looks (model prog w) hp (isInstance (.ref x) (.type "object")) true := I.type.andThen (looks_mroIn X (by unfold mroIn; rw [hcd, Option.bind_some, if_neg (by rw [some1]; decide), obj1]))
  refine codeAny_call_builtin slot.slot.plain slot.entry (@check_slot (model prog w) _ _ ⟨hp, g, d, t, os⟩ "object.__setattr__" "object" "__setattr__" (.ref x) [.str name tk, v] [] _ slot.kind slot.split within (slot.args (.ref x) (.str name tk) v) ?_)
  have line : Looks (model prog w) hp (mroOf (.ref C)) cd.mro := (looks_clsIn X hcd).andThen .now
  rw [osa_eq, refuse_eq]
  refine wpAny_bind (wpAny_bind (I.type.at (wpAny_bind (line.at ?_))))
  rw [hm, refuseLoop_ref, hB.pass]
  exact wpAny_pure (wpAny_bind (I.type.at (wpAny_bind ((looks_findIn X ha).at (wpAny_bind ((show Looks (model prog w) hp (storeTaker? none) none from .now).at hq))))))
theorem osa_first {K : Frag} {name : Str} {tk : Tok} {v : Value} {x C : Addr} {fv : Array Value} {cd : ClassData} {B newId initId : String} {tl : List Value} (hB : ExB B newId initId tl)
    (X : K.In hp) (hx : hp.get? x = some { cls := .ref C, data := .fields fv }) (hcd : clsIn K C = some cd) (hm : cd.mro = .ref C :: tl) (hd : cd.hasDict = true) (ha : findIn K (.ref C) name = some none)
    (hq : ∀ h2 tk2 dx, (∀ b o, b ≠ x → hp.get? b = some o → h2.get? b = some o) → hp.objs.size ≤ dx → dx ≠ x → h2.get? x = some { cls := .ref C, dict := some dx, data := .fields fv } →
      h2.Ns1 dx (fun y => if y = name then some v else none) → R (.ok (.ret .none)) ⟨h2, g, d, tk2, os⟩) :
    codeAny (model prog w) A (.call (.builtin "object.__setattr__") ⟨[.ref x, .str name tk, v], []⟩) R ⟨hp, g, d, t, os⟩ := by
  refine osa_way hB X (ox := { cls := .ref C, data := .fields fv }) (od := none) ⟨hx, rfl, rfl, trivial⟩ hcd hm ha ?_
  have far : x ≠ hp.objs.size := Nat.ne_of_lt (Heap.lt_size hx)
  have whole : Looks (model prog w) hp (classData C) cd := looks_clsIn X hcd
  obtain ⟨c1, c2, c3, c4, c5, c6, c7, c8, c9, c10, c11⟩ := cd
  cases (show c6 = true from hd)
  unfold storeInOwnDict ownDictForStores
  repeat (first | with_reducible refine store_in_new ?_ ?_ | with_reducible refine wpAny_loadPart_at hx ?_ | with_reducible refine whole.at ?_ | wp_step)
  · exact ⟨_, #[], _, (Heap.get?_update_ne _ _ _ _ far.symm).trans (Heap.get?_push_at rfl rfl), rfl, fun e he => absurd he (by simp), fun _ => rfl⟩
  · intro h2 tk2 ns same
    have there : (hp.push { cls := .type "dict", data := .dict #[] }).get? x = some { cls := .ref C, data := .fields fv } := Heap.get?_push_of_some _ hx
    exact hq h2 tk2 hp.objs.size (fun b o hb ho => (same.2 b (Nat.ne_of_lt (Heap.lt_size ho))).trans ((Heap.get?_update_ne _ _ _ _ hb).trans (Heap.get?_push_of_some _ ho))) (Nat.le_refl _) far.symm
      ((same.2 x far).trans (Heap.get?_update_self _ there rfl)) ns
theorem osa_next {K : Frag} {name : Str} {tk : Tok} {v : Value} {x C dx : Addr} {fv : Array Value} {cd : ClassData} {m0 : Str → Option Value} {nl : List Str} {B newId initId : String} {tl : List Value} (hB : ExB B newId initId tl)
    (X : K.In hp) (hx : hp.get? x = some { cls := .ref C, dict := some dx, data := .fields fv }) (hns : hp.Ns1 dx m0) (hw : Within m0 nl) (hz : nl.length ≤ 1000) (hcd : clsIn K C = some cd) (hm : cd.mro = .ref C :: tl) (hd : cd.hasDict = true) (ha : findIn K (.ref C) name = some none)
    (hq : ∀ h2 tk2, (∀ b o, b ≠ dx → hp.get? b = some o → h2.get? b = some o) → h2.Ns1 dx (fun y => if y = name then some v else m0 y) → R (.ok (.ret .none)) ⟨h2, g, d, tk2, os⟩) :
    codeAny (model prog w) A (.call (.builtin "object.__setattr__") ⟨[.ref x, .str name tk, v], []⟩) R ⟨hp, g, d, t, os⟩ := by
  obtain ⟨oD, esD, epD, hoD, hdD, _⟩ := hns.count hw
  refine osa_way hB X (ox := { cls := .ref C, dict := some dx, data := .fields fv }) (od := some oD) ⟨hx, rfl, rfl, hoD⟩ hcd hm ha ?_
  have whole : Looks (model prog w) hp (classData C) cd := looks_clsIn X hcd
  obtain ⟨c1, c2, c3, c4, c5, c6, c7, c8, c9, c10, c11⟩ := cd
  cases (show c6 = true from hd)
  unfold storeInOwnDict ownDictForStores
  repeat (first | with_reducible refine PySem.OEX.store_in_old hns hw hz ?_ | with_reducible refine wpAny_loadPart_at hx ?_ | with_reducible refine whole.at ?_ | wp_step)
  intro h2 tk2 ns same
  exact hq h2 tk2 (fun b o hb ho => (same.2 b hb).trans ho) ns
end
end VkX
end PySem
namespace Vk
open L2 PySem PySem.Spec PyProof.Rows PySem.VkX
/-- what the written part says of an own exception class over one of the four -/
structure OexK (K : PySem.W.Frag) (C : Addr) : Prop where
  cls : ∃ B newId initId tl nm q N bs sn sub ab col dd k0 k1 k2 k3 k5, ExB B newId initId tl ∧ K.lookup C = some (excClassObj nm q C N bs tl true sn sub ab col dd k0 k1 k2 k3 k5 newId)
  sa : PySem.W.findIn K (.ref C) "__setattr__" = some (some (.builtin "object.__setattr__"))
  kC : PySem.W.keepIn K (.ref C) = true
  xf : XfC K C
  ic : ExcC K C
section
variable {X : Cx} {pins : List (Addr × Obj)} {σ : L2.St} {H : Hp} {s : Shared} {a C dx : Addr} {f : Str} {y : V} {u : Value} {fs : List (Str × V)} {Q : Unit → Shared → Prop} {E : Value → Shared → Prop} {A : Around}
theorem kst_first (T : OexK X.K C) (I : Inv X pins σ H s) (e : H a = some (exo a C none)) (hno : PySem.W.findIn X.K (.ref C) f = some none) (ry : RelV y u)
    (h : ∀ dx s2, H dx = none → dx ≠ a → Inv X pins σ (upd (upd H dx (exd dx [(f, y)])) a (exo a C (some dx))) s2 → Q () s2) : wpAny (model X.prog X.w) A (setAttr (.ref a) f u) Q E s := by
  obtain ⟨B, newId, initId, tl, nm, q, N, bs, sn, sub, ab, col, dd, k0, k1, k2, k3, k5, hB, hC⟩ := T.cls
  have hcl : PySem.W.clsIn X.K C = some { name := nm, bases := bs, mro := .ref C :: tl, ns := N, qualname := q, hasDict := true, slotNames := sn, subclasses := sub, abstract := ab, collection := col, hasDel := false } := by unfold PySem.W.clsIn; rw [hC] <;> rfl
  obtain ⟨t1, ho⟩ := exo_at I.hok e
  obtain ⟨hp, g, d, t, os⟩ := s
  refine PySem.W.set_plain I.kIn (ox := { cls := .ref C, dict := none, data := .fields #[.ref t1, .none, .none, .none, .bool false, .none] }) (od := none) ⟨ho, rfl, rfl, trivial⟩ T.sa ?_
  refine osa_first hB I.kIn ho hcl rfl rfl hno fun h2 tk2 dx kept low apart put ns => ?_
  have free1 : H dx = none := I.hok.fresh low
  have old1 : ∀ {b : Addr} {o : Obj}, hp.get? b = some o → b ≠ dx := fun z => Nat.ne_of_lt (Nat.lt_of_lt_of_le (Heap.lt_size z) low)
  have not1 : ∀ {b : Addr}, H b = none → b ≠ a := fun n z => nomatch (z ▸ n).symm.trans e
  have un1 : Un X.fs [] H (upd (upd H dx (exd dx [(f, y)])) a (exo a C (some dx))) hp h2 := {
    keep := fun b o z n _ _ => kept b o (not1 n) z
    slot := fun b o z n _ _ => ⟨o.slots, kept b o (not1 n) z⟩
    free := fun b o z n _ => (upd_ne (not1 n)).trans ((upd_ne (old1 z)).trans n)
    there := fun b o z _ => by
      by_cases hb : b = a
      · exact ⟨_, hb ▸ put⟩
      · exact ⟨o, kept b o hb z⟩
    tups := fun b xs z => (upd_ne (at_ne e z exo_tup)).trans ((upd_ne (ne_of_none z free1)).trans z)
    frzs := fun b o v z => (upd_ne (at_ne e z exo_frz)).trans ((upd_ne (ne_of_none z free1)).trans z)
    tbls := fun b ps z => ⟨#[], by rw [upd_ne (at_ne e z exo_tbl), upd_ne (ne_of_none z free1), z]; simp⟩ }
  refine h dx _ free1 apart (I.un (t' := tk2) un1 fun b o z => ?_)
  by_cases hb : b = a
  · subst hb
    rw [upd_same] at z
    cases z
    exact exo_ok put
  · rw [upd_ne hb] at z
    by_cases hd : b = dx
    · subst hd
      rw [upd_same] at z
      cases z
      exact exd_ok ns (relO_put (fs := []) ry fun g => True.intro)
    · rw [upd_ne hd] at z
      refine (I.hok b o z).stay (fun c v hc r => kept c v ?_ r) (fun c hc => (upd_ne (at_ne e hc exo_own)).trans ((upd_ne (ne_of_none hc free1)).trans hc)) (fun c xs hc => (upd_ne (at_ne e hc exo_tup)).trans ((upd_ne (ne_of_none hc free1)).trans hc))
      exact hc.elim (fun z => z ▸ hb) (fun z => at_ne e z exo_own)
theorem kst_next (T : OexK X.K C) (I : Inv X pins σ H s) (e : H a = some (exo a C (some dx))) (ed : H dx = some (exd dx fs)) (hl : fs.length ≤ 900) (hno : PySem.W.findIn X.K (.ref C) f = some none) (ry : RelV y u)
    (h : ∀ s2, Inv X pins σ (upd H dx (exd dx ((f, y) :: fs))) s2 → Q () s2) : wpAny (model X.prog X.w) A (setAttr (.ref a) f u) Q E s := by
  obtain ⟨B, newId, initId, tl, nm, q, N, bs, sn, sub, ab, col, dd, k0, k1, k2, k3, k5, hB, hC⟩ := T.cls
  have hcl : PySem.W.clsIn X.K C = some { name := nm, bases := bs, mro := .ref C :: tl, ns := N, qualname := q, hasDict := true, slotNames := sn, subclasses := sub, abstract := ab, collection := col, hasDel := false } := by unfold PySem.W.clsIn; rw [hC] <;> rfl
  obtain ⟨t1, ho⟩ := exo_at I.hok e
  obtain ⟨mA, hns, rel⟩ := exd_at I.hok ed
  have hw := within_of rel
  obtain ⟨hp, g, d, t, os⟩ := s
  obtain ⟨oD, _, _, hoD, _, _⟩ := hns.count hw
  refine PySem.W.set_plain I.kIn (ox := { cls := .ref C, dict := some dx, data := .fields #[.ref t1, .none, .none, .none, .bool false, .none] }) (od := some oD) ⟨ho, rfl, rfl, hoD⟩ T.sa ?_
  refine osa_next hB I.kIn ho hns hw (by rw [List.length_map]; omega) hcl rfl rfl hno fun h2 tk2 kept ns => ?_
  exact h _ (I.write (t' := tk2) (x := dx) (e := dx) (o := exd dx ((f, y) :: fs)) (by rw [ed]; exact True.intro) (.inl rfl) kept (match ns with | ⟨o, _, _, z, _⟩ => ⟨o, z⟩) (exd_ok ns (relO_put ry rel)))
end
/-- self.f = e on such an exception -/
def tOsk (K : PySem.W.Frag) (f : Str) (to te : TE) : TS := fun D σ H => te σ H fun y H1 => to σ H1 fun x H2 => ∃ a C : Addr, x = .ref a ∧ OexK K C ∧ PySem.W.findIn K (.ref C) f = some none ∧
  ((H2 a = some (exo a C none) ∧ ∀ dx, H2 dx = none → dx ≠ a → D.nx σ (upd (upd H2 dx (exd dx [(f, y)])) a (exo a C (some dx)))) ∨
    ∃ (dx : Addr) (fs : List (Str × V)), H2 a = some (exo a C (some dx)) ∧ H2 dx = some (exd dx fs) ∧ fs.length ≤ 900 ∧ D.nx σ (upd H2 dx (exd dx ((f, y) :: fs))))
/-- x.f, x such an exception -/
def tXk (K : PySem.W.Frag) (f : Str) (te : TE) : TE := fun σ H Q => te σ H fun x H1 => ∃ (a C d : Addr) (fs : List (Str × V)) (v : V), x = .ref a ∧ OexK K C ∧ PySem.W.findIn K (.ref C) f = some none ∧ H1 a = some (exo a C (some d)) ∧ H1 d = some (exd d fs) ∧ fs.lookup f = some v ∧ Q v H1
section
variable {X : Cx} {o e : Expr} {es : List Expr} {to te : TE} {ta : TA} {f : Str} {p p' p1 p2 pos : Pos}
theorem ps_osk (ho : PE X o to) (he : PE X e te) (hs : swapsWith e (some (.Attribute o f p')) pos.line X.env = pure false := by rfl) : PS X (.Assign [.Attribute o f p'] e pos) (tOsk X.K f to te) := by
  refine ⟨fun pins s σ H D I h => plainObj_wpAny_Assign_Attribute (thn (he.run pins s σ H _ I h) fun v s1 ⟨y, H1, I1, r1, q1⟩ => thn (ho.run pins s1 σ H1 _ I1 q1) fun u s2 ⟨x, H2, I2, r2, a, C, ex, T, hno, q⟩ => ?_) hs⟩
  subst ex
  obtain rfl : u = Value.ref a := r2
  exact q.elim (fun z => kst_first T I2 z.1 hno r1 fun dx s3 n ne J => ⟨σ, _, J, z.2 dx n ne⟩) (fun ⟨dx, fs, ea, ed, hl, z⟩ => kst_next T I2 ea ed hl hno r1 fun s3 J => ⟨σ, _, J, z⟩)
theorem pe_xk (he : PE X e te) (hb : attributeBase e f X.env (eval e X.env) = eval e X.env := by rfl) : PE X (.Attribute e f pos) (tXk X.K f te) := by
  refine ⟨fun pins s σ H Q I h => attr_of hb (thn (he.run pins s σ H _ I h) fun u s1 hh => ?_)⟩
  obtain ⟨x, H1, I1, rx, a, C, d, fs, v, ex, T, hno, ea, ed, l, q⟩ := hh
  subst ex
  obtain rfl : u = Value.ref a := rx
  obtain ⟨t1, ho⟩ := exo_at I1.hok ea
  obtain ⟨mA, hns, hr⟩ := exd_at I1.hok ed
  obtain ⟨od, hd, hl⟩ := lookIn_ns hns
  obtain ⟨u, hu, ru⟩ := RelO.some_of (v := v) (o := mA f) (l ▸ hr f)
  have J : PySem.W.InstAt s1.heap a { cls := .ref C, dict := some d, data := .fields #[.ref t1, .none, .none, .none, .bool false, .none] } C (some od) := ⟨ho, rfl, rfl, hd⟩
  exact HandSPX.exc_get I1.kIn J T.xf.ga T.xf.gg T.xf.exC (PySem.W.findObj_own T.xf.hdC hno rfl (by rw [hl, hu])) (handed_of ru) ⟨v, H1, I1.tok _, ru, q⟩
end
end Vk
set_option Elab.async false
set_option maxRecDepth 100000
set_option maxHeartbeats 4000000
set_option linter.all false
namespace Vk
open L2 PySem PySem.Spec PyProof.Rows PySem.VkX
/-- an exception of the class at C, with these fields, the last one stored first -/
def ExV (H : Hp) (a C : Addr) (fs : List (Str × V)) : Prop := (fs = [] ∧ H a = some (exo a C none)) ∨ ∃ d, H a = some (exo a C (some d)) ∧ H d = some (exd d fs)
theorem ExV.inst {X : Cx} {pins : List (Addr × Obj)} {σ : L2.St} {H : Hp} {s : Shared} {a C : Addr} {fs : List (Str × V)} (I : Inv X pins σ H s) (e : ExV H a C fs) : ∃ ox od, PySem.W.InstAt s.heap a ox C od := by
  rcases e with ⟨_, e⟩ | ⟨d, e, ed⟩
  · obtain ⟨t1, ho⟩ := exo_at I.hok e
    exact ⟨{ cls := .ref C, dict := none, data := .fields #[.ref t1, .none, .none, .none, .bool false, .none] }, none, ho, rfl, rfl, trivial⟩
  · obtain ⟨t1, ho⟩ := exo_at I.hok e
    obtain ⟨mA, hns, _⟩ := exd_at I.hok ed
    obtain ⟨od, hd, _⟩ := lookIn_ns hns
    exact ⟨{ cls := .ref C, dict := some d, data := .fields #[.ref t1, .none, .none, .none, .bool false, .none] }, some od, ho, rfl, rfl, hd⟩
/-- isinstance(e, c), e such an exception -/
def rIsX (K : PySem.W.Frag) : List V → Hp → VK → Prop := fun xs H Q => ∃ (a C : Addr) (fs : List (Str × V)) (c : V) (cv : Value) (b : Bool), xs = [.ref a, c] ∧ OexK K C ∧ ExV H a C fs ∧ ClsV c cv ∧ PySem.W.kitOne K (.ref C) cv = some b ∧ Q (.bl b) H
theorem call_isX {X : Cx} : CallR X (.builtin "isinstance") (rIsX X.K) := by
  intro pins s σ H xs us Q I r h
  obtain ⟨a, C, fs, c, cv, b, rfl, T, ev, k, e, q⟩ := h
  obtain ⟨u1, u2, rfl, r1, r2⟩ := vals2 r
  cases (show u1 = Value.ref a from r1)
  have same := k.eq r2
  subst same
  obtain ⟨ox, od, J⟩ := ev.inst I
  obtain ⟨B, newId, initId, tl, nm, q1, N, bs, sn, sub, ab, col, dd, k0, k1, k2, k3, k5, hB, hC⟩ := T.cls
  have hcl : (PySem.W.clsIn X.K C).isSome = true := by unfold PySem.W.clsIn; rw [hC] <;> rfl
  exact PySem.W.kia_one (PySem.W.kitx_exc hcl T.ic.hg T.ic.hk T.ic.hs T.ic.ha T.ic.hn T.ic.ht T.ic.hm) I.kIn J e (fun z => nomatch z) fun tk => ⟨.bl b, H, I.tok tk, rfl, q⟩
/-! ## making one -/
/-- __init__(self, f1, ..): the fields stored in their order -/
def spIni (C : Addr) (fsn : List Str) : Sp := fun vs H Q E => ∃ a ws, vs = .ref a :: ws ∧ ws.length = fsn.length ∧ H a = some (exo a C none) ∧
  (fsn = [] → Q .non H) ∧ (fsn ≠ [] → ∀ d, H d = none → d ≠ a → Q .non (upd (upd H d (exd d (fsn.zip ws).reverse)) a (exo a C (some d))))
structure ClsI (P : Program) (w : World) (K : PySem.W.Frag) (mg : Str → Option Value) (base : Heap) (k : Nat) (x : Str) (C : Addr) (fsn : List Str) : Prop where
  T : OexK K C
  hm : mg x = some (.ref C)
  no : ∀ f ∈ fsn, PySem.W.findIn K (.ref C) f = some none
  ex : ∃ (fI : Addr) (fd : FuncData), PySem.W.findIn K (.ref C) "__init__" = some (some (.ref fI)) ∧ PySem.W.typeIn K (.ref fI) = some (.type "function") ∧ FnG P w K mg base CX0 k fI fd (("self" : Str) :: fsn) (spIni C fsn) ∧ Binds K fd (("self" : Str) :: fsn) [] ∧
    (∀ (s : Shared) (v : Value) (ws : List Value), K.In s.heap → ws.length = fsn.length → BindsTo s fd ⟨[v], fsn.reverse.zip ws⟩ ((("self" : Str) :: fsn).zip (v :: ws.reverse)))
/-- the exception that was made of H: at a, and its dict -/
def Made (C : Addr) (fsn : List Str) (vs : List V) (H : Hp) (Q : VK) : Prop := ∀ a, H a = none → (fsn = [] → Q (.ref a) (upd H a (exo a C none))) ∧
  (fsn ≠ [] → ∀ d, H d = none → d ≠ a → Q (.ref a) (upd (upd H d (exd d (fsn.zip vs).reverse)) a (exo a C (some d))))
theorem upd_over {H : Hp} {a d : Addr} {o1 o2 o3 : HO} (h : d ≠ a) : upd (upd (upd H a o1) d o2) a o3 = upd (upd H d o2) a o3 := by
  funext b
  by_cases hb : b = a
  · subst hb; rw [upd_same, upd_same]
  · rw [upd_ne hb, upd_ne hb]
    by_cases hd : b = d
    · subst hd; rw [upd_same, upd_same]
    · rw [upd_ne hd, upd_ne hd, upd_ne hb]
section
variable {X : Cx} {j k : Nat} {x : Str} {C : Addr} {fsn : List Str} {p pos : Pos} {e : Expr} {es : List Expr} {t : TA}
theorem make_run {pins : List (Addr × Obj)} {σ : L2.St} {H : Hp} {s : Shared} {Q : VK} {us : List Value} {kw : List (Str × Value)} {vs : List V} {zs : List Value} (c : ClsI X.prog X.w X.K X.mg X.base k x C fsn) (hg : X.A.guards = some []) (hr : Room (k + 1) X.A) (hx : Passes CX0 X (fun _ _ _ => False))
    (I : Inv X pins σ H s) (hus : us.length ≤ sizeLine) (hl : vs.length = fsn.length) (r : Vals vs zs) (q : Made C fsn vs H Q)
    (hb : ∀ fI fd, PySem.W.findIn X.K (.ref C) "__init__" = some (some (.ref fI)) → Binds X.K fd (("self" : Str) :: fsn) [] → (∀ (s : Shared) (v : Value) (ws : List Value), X.K.In s.heap → ws.length = fsn.length → BindsTo s fd ⟨[v], fsn.reverse.zip ws⟩ ((("self" : Str) :: fsn).zip (v :: ws.reverse))) →
      ∀ s2 : Shared, X.K.In s2.heap → ∀ a : Addr, BindsTo s2 fd ⟨.ref a :: us, kw⟩ ((("self" : Str) :: fsn).zip (.ref a :: zs))) :
    codeAny (model X.prog X.w) X.A (.call (.ref C) ⟨us, kw⟩) (fun r s2 => match r with | .ok (.ret v) => EP X pins σ Q v s2 | .ok _ => False | .error e => X.xe e s2) s := by
  obtain ⟨fI, fd, iC, tI, F, hbn, hbk⟩ := c.ex
  obtain ⟨B, newId, initId, tl, nm, q1, N, bs, sn, sub, ab, col, dd, k0, k1, k2, k3, k5, hB, hC⟩ := c.T.cls
  obtain ⟨hp, g, dr, tk, os⟩ := s
  have big : hp.objs.size ≤ hp.objs.size + 1 := Nat.le_succ _
  have new1 : H (hp.objs.size + 1) = none := I.hok.fresh big
  have hq := q (hp.objs.size + 1) new1
  have kept : ∀ b o, hp.get? b = some o → ((hp.push (PySem.W.kdv_tup us)).push (PySem.HandSPX.excO C hp.objs.size)).get? b = some o := fun b o z => Heap.get?_push_of_some _ (Heap.get?_push_of_some _ z)
  have put : ((hp.push (PySem.W.kdv_tup us)).push (PySem.HandSPX.excO C hp.objs.size)).get? (hp.objs.size + 1) = some (PySem.HandSPX.excO C hp.objs.size) := by heap_get
  have I2 : Inv X pins σ (upd H (hp.objs.size + 1) (exo (hp.objs.size + 1) C none)) ⟨(hp.push (PySem.W.kdv_tup us)).push (PySem.HandSPX.excO C hp.objs.size), g, dr, tk, os⟩ :=
    I.laid (t' := tk) (a := hp.objs.size + 1) (o := exo (hp.objs.size + 1) C none) kept big (exo_ok put)
  have sp1 : spIni C fsn (V.ref (hp.objs.size + 1) :: vs) (upd H (hp.objs.size + 1) (exo (hp.objs.size + 1) C none)) (fun v H2 => v = .non ∧ Q (.ref (hp.objs.size + 1)) H2) (fun _ _ _ => False) := by
    refine ⟨_, vs, rfl, hl, upd_same, fun z => ⟨rfl, hq.1 z⟩, fun z d hd ne => ⟨rfl, ?_⟩⟩
    rw [upd_ne ne] at hd
    rw [upd_over ne]
    exact hq.2 z d hd ne
  refine call_ownK hB.F (I.kIn _ _ hC) (PySem.W.looks_findIn I.kIn iC) (fun self => PySem.W.bind_fn I.kIn self tI) hus
    (codeAny_mono (F.run _ X.stack _ _ _ (Value.ref (hp.objs.size + 1) :: zs) (V.ref (hp.objs.size + 1) :: vs) _ (fun _ _ _ => False) ?_ (hr.make C us kw) (I2.env0.make C us kw) (hb fI fd iC hbn hbk _ I2.kIn _) (.cons rfl r) sp1) fun res s3 hz => ?_)
  · first
      | exact hg
      | (simpa [Around.under, Code.isGuard, guardIds] using hg)
  · match res, hz with
    | .error er, hz => exact hx pins σ _ _ er s3 I2 hz
    | .ok (.ret u), hz =>
      obtain ⟨v, H2, I3, rv, ev, q3⟩ := I2.after hz
      subst ev
      exact ⟨rv, V.ref (hp.objs.size + 1), H2, I3, rfl, q3⟩
    | .ok .next, hz => exact hz.elim
    | .ok .brk, hz => exact hz.elim
    | .ok .cont, hz => exact hz.elim
def tMk (C : Addr) (fsn : List Str) (t : TA) : TE := fun σ H Q => t σ H fun vs H1 => vs.length = fsn.length ∧ Made C fsn vs H1 Q
def tMkW (C : Addr) (fsn : List Str) (t : TA) : TE := fun σ H Q => t σ H fun vs H1 => vs.length = fsn.length ∧ Made C fsn vs.reverse H1 Q
theorem few_len {n : Nat} (h : n ≤ 1000) : n ≤ sizeLine := Nat.le_trans h (by rw [sizeLine_eq]; decide)
theorem pe_mk (c : ClsI X.prog X.w X.K X.mg X.base k x C fsn) (hg : X.A.guards = some []) (hr : Room j X.A) (hk : k + 1 ≤ j) (hx : Passes CX0 X (fun _ _ _ => False)) (ha : PA X (e :: es) t) (hn : fsn.length ≤ 1000 := by decide) (gl : Gl X x := by rfl)
    (hdb : (x == ("__debug__" : Str)) = false := by decide) (he : starEach (e :: es) X.env = (false, eval e X.env) :: starEach es X.env := by rfl) (hpl : (backTo pos (starEach es X.env)).any (·.1) = false := by rfl) :
    PE X (.Call (.Name x p) (e :: es) [] pos) (tMk C fsn t) := by
  refine ⟨fun pins s σ H Q I h => wpAny_Call_Name_kw (ld_glob I gl c.hm (PySem.W.callWith_K (h₀ := X.base) I.ok.mod.kin c.T.kC (thn (ha.run pos pins s σ H _ I h) fun us s1 hh => ?_) he hpl) hdb)⟩
  obtain ⟨vs, H1, I1, r, hl, q⟩ := hh
  refine ⟨I1.kIn, wpAny_call (codeAny_mono (make_run c hg (hr.mono hk) hx I1 (few_len (show us.length ≤ 1000 by rw [← r.length, hl]; exact hn)) hl r q fun fI fd _ hbn _ s2 K2 a => ?_) fun res s2 z => ?_)⟩
  · have b := hbn s2 (.ref a :: us) K2 (by simpa using (r.length.symm.trans hl))
    rw [List.append_nil] at b
    exact b
  · match res, z with
    | .error er, z => exact z
    | .ok (.ret u), z => exact z
    | .ok .next, z => exact z.elim
    | .ok .brk, z => exact z.elim
    | .ok .cont, z => exact z.elim
theorem pe_mk0 (c : ClsI X.prog X.w X.K X.mg X.base k x C []) (hg : X.A.guards = some []) (hr : Room j X.A) (hk : k + 1 ≤ j) (hx : Passes CX0 X (fun _ _ _ => False)) (gl : Gl X x := by rfl)
    (hdb : (x == ("__debug__" : Str)) = false := by decide) : PE X (.Call (.Name x p) [] [] pos) (tMk C [] tNil) := by
  refine ⟨fun pins s σ H Q I h => wpAny_Call_Name_kw (ld_glob I gl c.hm (PySem.W.callWith_K0 I.kIn c.T.kC (wpAny_call (codeAny_mono (make_run (vs := []) c hg (hr.mono hk) hx I (few_len (by decide)) rfl .nil h.2 fun fI fd _ hbn _ s2 K2 a => ?_) fun res s2 z => ?_))) hdb)⟩
  · have b := hbn s2 [.ref a] K2 rfl
    rw [List.append_nil] at b
    exact b
  · match res, z with
    | .error er, z => exact z
    | .ok (.ret u), z => exact z
    | .ok .next, z => exact z.elim
    | .ok .brk, z => exact z.elim
    | .ok .cont, z => exact z.elim
theorem vals_back : ∀ {vs : List V} {ws : List Value}, Vals vs ws → Vals vs.reverse ws.reverse := fun r => vals_rev r
theorem pe_mkW {kws : List Keyword} {tk : TA} (c : ClsI X.prog X.w X.K X.mg X.base k x C fsn) (hg : X.A.guards = some []) (hr : Room j X.A) (hk : k + 1 ≤ j) (hx : Passes CX0 X (fun _ _ _ => False)) (hkw : PK X kws tk) (gl : Gl X x := by rfl)
    (hall : (backToKw pos (keywordEach kws X.env)).all (·.1.isSome) = true := by rfl) (hks : (backToKw pos (keywordEach kws X.env)).filterMap (·.1) = fsn.reverse := by rfl) (hdb : (x == ("__debug__" : Str)) = false := by decide)
    (hpl : ((backTo pos (starEach [] X.env)).any (·.1) || (backToKw pos (keywordEach kws X.env)).any (·.1.isNone)) = false := by rfl) :
    PE X (.Call (.Name x p) [] kws pos) (tMkW C fsn tk) := by
  refine ⟨fun pins s σ H Q I h => wpAny_Call_Name_kw (ld_glob I gl c.hm (PySem.W.callWith_KW0 (h₀ := X.base) I.ok.mod.kin c.T.kC hall (thn (hkw.run pos pins s σ H _ I h) fun ws s2 hh => ?_) hpl) hdb)⟩
  obtain ⟨vs, H2, I2, rz, l2, q2⟩ := hh
  refine ⟨I2.kIn, ?_⟩
  rw [hks]
  refine wpAny_call (codeAny_mono (make_run (us := []) (vs := vs.reverse) (zs := ws.reverse) c hg (hr.mono hk) hx I2 (few_len (by decide)) (by rw [List.length_reverse]; exact l2) (vals_back rz) q2 fun fI fd _ _ hbk s3 K3 a => hbk s3 _ ws K3 (rz.length.symm.trans l2)) fun res s3 z => ?_)
  match res, z with
  | .error er, z => exact z
  | .ok (.ret u), z => exact z
  | .ok .next, z => exact z.elim
  | .ok .brk, z => exact z.elim
  | .ok .cont, z => exact z.elim
end
end Vk
set_option Elab.async false
set_option maxRecDepth 100000
set_option maxHeartbeats 4000000
set_option linter.all false
namespace Vk
open L2 PySem PySem.Spec PyProof.Rows PySem.VkX
/-- the j-th statement of a class -/
def mtd (st : Stmt) (j : Nat) : Stmt := match st with
  | .ClassDef _ _ _ b _ _ _ _ _ _ _ => b.getD j (.Pass ⟨0, 0, 0, 0⟩)
  | _ => .Pass ⟨0, 0, 0, 0⟩
theorem no0 {P : Str → Prop} : ∀ f ∈ ([] : List Str), P f := fun _ h => nomatch h
theorem no1 {P : Str → Prop} {a : Str} (h : P a) : ∀ f ∈ ([a] : List Str), P f := fun f z => by
  rw [List.mem_singleton] at z
  exact z ▸ h
theorem no2 {P : Str → Prop} {a b : Str} (h : P a) (h2 : P b) : ∀ f ∈ ([a, b] : List Str), P f := fun f z => by
  rcases List.mem_cons.mp z with z | z
  · exact z ▸ h
  · rw [List.mem_singleton] at z
    exact z ▸ h2
/-- the class at C has the name x and these classes behind it -/
def ClsN (K : PySem.W.Frag) (C : Addr) (x : Str) (tl : List Value) : Prop := ∃ newId q N bs sn sub ab col dd k0 k1 k2 k3 k5, K.lookup C = some (excClassObj x q C N bs tl true sn sub ab col dd k0 k1 k2 k3 k5 newId)
structure ExcTxt (K : PySem.W.Frag) (x qual : Str) (st : Stmt) (C fI : Addr) (fd : FuncData) (fsn : List Str) (tl : List Value) : Prop where
  cn : ClsN K C x tl
  ns : PySem.W.nsIn K mainGlobals x = some (some (.ref C))
  T : OexK K C
  iC : PySem.W.findIn K (.ref C) "__init__" = some (some (.ref fI))
  tI : PySem.W.typeIn K (.ref fI) = some (.type "function")
  no : ∀ f ∈ fsn, PySem.W.findIn K (.ref C) f = some none
  fn : Fun K "__init__" qual st fI fd
theorem exc_mk {K : PySem.W.Frag} {x qual : Str} {st : Stmt} {C fI : Addr} {fsn : List Str} {B newId initId : String} {tl : List Value} {q : Str} {N : Addr} {bs : List Value} {sn : List Str} {sub : List Value} {ab : Bool} {col : Option Bool} {dd : Option Addr} {k0 k1 k2 k3 k5 : Option Value}
    {oc : Value} {od an : Option Addr} {sl : Array (Option Value)} {kV doc pm cd ct : Value} (hB : ExB B newId initId tl) (ns : PySem.W.nsIn K mainGlobals x = some (some (.ref C))) (iC : PySem.W.findIn K (.ref C) "__init__" = some (some (.ref fI)))
    (cls : K.lookup C = some (excClassObj x q C N bs tl true sn sub ab col dd k0 k1 k2 k3 k5 newId)) (sa : PySem.W.findIn K (.ref C) "__setattr__" = some (some (.builtin "object.__setattr__"))) (kC : PySem.W.keepIn K (.ref C) = true)
    (ga : PySem.W.findIn K (.ref C) "__getattribute__" = some (some (.builtin "BaseException.__getattribute__"))) (gg : PySem.W.findIn K (.ref C) "__getattr__" = some none) (ex : PySem.W.subIn K (.ref C) (.type "BaseException") = some true) (hd : PySem.W.hasDictIn K C = true)
    (ha : PySem.W.findIn K (.ref C) "__class__" = some (some (.builtin "object.__class__"))) (hn : PySem.W.specialIn K (.builtin "object.__class__") "__get__" = some (some (.builtin "getset_descriptor.__get__"))) (ht : PySem.W.takesIn K (.builtin "object.__class__") = some true)
    (hm : PySem.W.mroIn K C (.type "object") = some true) (tI : PySem.W.typeIn K (.ref fI) = some (.type "function")) (kI : PySem.W.keepIn K (.ref fI) = true) (no : ∀ f ∈ fsn, PySem.W.findIn K (.ref C) f = some none)
    (l : K.lookup fI = some ⟨oc, od, .func (PySem.W.fnOf "__init__" qual (defArgs st) (defBody st) (defScope st) .none kV doc pm an cd ct), sl⟩) (c : PySem.W.codeIn K cd qual = true) :
    ExcTxt K x qual st C fI (PySem.W.fnOf "__init__" qual (defArgs st) (defBody st) (defScope st) .none kV doc pm an cd ct) fsn tl := by
  exact ⟨⟨newId, q, N, bs, sn, sub, ab, col, dd, k0, k1, k2, k3, k5, cls⟩, ns, ⟨⟨B, newId, initId, tl, x, q, N, bs, sn, sub, ab, col, dd, k0, k1, k2, k3, k5, hB, cls⟩, sa, kC, ⟨ga, gg, ex, hd⟩, ⟨ga, gg, ex, hd, ha, hn, ht, hm⟩⟩, iC, tI, no, fun_mk l c kI⟩
section
variable {P : Program} {w : World} {K : PySem.W.Frag} {mg : Str → Option Value} {base h : Heap} {x qual f f2 : Str} {st : Stmt} {C fI : Addr} {fd : FuncData} {p1 p2 p3 p4 q1 q2 q3 q4 : Pos}
theorem ClsI.of0 {tl : List Value} (G : ExcTxt K x qual st C fI fd [] tl) (KX : K.In h) (Gn : h.Ns mainGlobals mg) (F : FnG P w K mg base CX0 1 fI fd [("self" : Str)] (spIni C []))
    (hb : ∀ (kV doc pm : Value) (an : Option Addr) (cdv ct v : Value), bindArgs (PySem.W.fnOf "__init__" qual (defArgs st) (defBody st) (defScope st) .none kV doc pm an cdv ct) ⟨[v], []⟩ = pure [(("self" : Str), v)]) : ClsI P w K mg base 1 x C [] where
  T := G.T
  hm := PySem.W.mg_of KX Gn G.ns
  no := G.no
  ex := ⟨fI, fd, G.iC, G.tI, F, G.fn.binds fun kV doc pm an cdv ct us hl => match us, hl with | [v], _ => hb kV doc pm an cdv ct v, fun s v ws KI hl => by
    cases ws with
    | cons _ _ => cases hl
    | nil =>
      obtain ⟨oc, od, kV, doc, pm, an, cdv, ct, osl, rfl, lk, hcd⟩ := G.fn.ex
      exact .of_eq (hb kV doc pm an cdv ct v)⟩
theorem ClsI.of1 {tl : List Value} (G : ExcTxt K x qual st C fI fd [f] tl) (KX : K.In h) (Gn : h.Ns mainGlobals mg) (F : FnG P w K mg base CX0 1 fI fd [("self" : Str), f] (spIni C [f]))
    (hb : ∀ (kV doc pm : Value) (an : Option Addr) (cdv ct v y : Value), bindArgs (PySem.W.fnOf "__init__" qual (defArgs st) (defBody st) (defScope st) .none kV doc pm an cdv ct) ⟨[v, y], []⟩ = pure [(("self" : Str), v), (f, y)])
    (hk : ∀ (kV doc pm : Value) (an : Option Addr) (cdv ct v y : Value), bindArgs (PySem.W.fnOf "__init__" qual (defArgs st) (defBody st) (defScope st) .none kV doc pm an cdv ct) ⟨[v], [((f : Str), y)]⟩ = pure [(("self" : Str), v), (f, y)]) : ClsI P w K mg base 1 x C [f] where
  T := G.T
  hm := PySem.W.mg_of KX Gn G.ns
  no := G.no
  ex := ⟨fI, fd, G.iC, G.tI, F, G.fn.binds fun kV doc pm an cdv ct us hl => match us, hl with | [v, y], _ => hb kV doc pm an cdv ct v y, fun s v ws KI hl => by
    match ws, hl with
    | [y], _ =>
      obtain ⟨oc, od, kV, doc, pm, an, cdv, ct, osl, rfl, lk, hcd⟩ := G.fn.ex
      exact .of_eq (hk kV doc pm an cdv ct v y)⟩
theorem ClsI.of2 {tl : List Value} (G : ExcTxt K x qual st C fI fd [f, f2] tl) (KX : K.In h) (Gn : h.Ns mainGlobals mg) (F : FnG P w K mg base CX0 1 fI fd [("self" : Str), f, f2] (spIni C [f, f2]))
    (hb : ∀ (kV doc pm : Value) (an : Option Addr) (cdv ct v y z : Value), bindArgs (PySem.W.fnOf "__init__" qual (defArgs st) (defBody st) (defScope st) .none kV doc pm an cdv ct) ⟨[v, y, z], []⟩ = pure [(("self" : Str), v), (f, y), (f2, z)])
    (hk : ∀ (kV doc pm : Value) (an : Option Addr) (cdv ct v y z : Value), bindArgs (PySem.W.fnOf "__init__" qual (defArgs st) (defBody st) (defScope st) .none kV doc pm an cdv ct) ⟨[v], [(f2, z), (f, y)]⟩ = pure [(("self" : Str), v), (f, y), (f2, z)]) : ClsI P w K mg base 1 x C [f, f2] where
  T := G.T
  hm := PySem.W.mg_of KX Gn G.ns
  no := G.no
  ex := ⟨fI, fd, G.iC, G.tI, F, G.fn.binds fun kV doc pm an cdv ct us hl => match us, hl with | [v, y, z], _ => hb kV doc pm an cdv ct v y z, fun s v ws KI hl => by
    match ws, hl with
    | [z, y], _ =>
      obtain ⟨oc, od, kV, doc, pm, an, cdv, ct, osl, rfl, lk, hcd⟩ := G.fn.ex
      exact .of_eq (hk kV doc pm an cdv ct v y z)⟩
end
end Vk
namespace Vk
open L2 PySem PySem.Spec PyProof.Rows PySem.VkX
theorem two_upd {H : Hp} {a d : Addr} {o1 o2 o3 : HO} (h : d ≠ a) : upd (upd (upd H d o1) a o2) d o3 = upd (upd H d o3) a o2 := by
  funext b
  by_cases hb : b = d
  · subst hb; rw [upd_same, upd_ne h, upd_same]
  · rw [upd_ne hb]
    by_cases ha : b = a
    · subst ha; rw [upd_same, upd_same]
    · rw [upd_ne ha, upd_ne ha, upd_ne hb, upd_ne hb]
end Vk
set_option Elab.async false
set_option maxRecDepth 100000
set_option maxHeartbeats 4000000
set_option linter.all false
namespace Vk
open L2 PySem PySem.Spec PyProof.Rows PySem.VkX
/-! ## values that are shown, dicts among them -/
inductive Atm : V → PyData → Prop
  | non : Atm .non .none
  | bl (b : Bool) : Atm (.bl b) (.bool b)
  | int (i : Int) : Atm (.int i) (.int i)
  | str (x : Str) : Atm (.str x) (.str x)
def kvS (ps : List (Str × Str)) : List (Key × V) := ps.map fun p => (Sum.inr p.1, V.str p.2)
def kvD (ps : List (Str × Str)) : List (PyData × PyData) := ps.map fun p => (.str p.1, .str p.2)
/-- one level deep -/
inductive Th (H : Hp) : V → PyData → Prop
  | atm {v : V} {d : PyData} : Atm v d → Th H v d
  | lst {a : Addr} {xs : List V} {ds : List PyData} : H a = some (.lst xs) → Paired Atm xs ds → Th H (.ref a) (.list ds)
  | tup {a : Addr} {xs : List V} {ds : List PyData} : H a = some (.tup xs) → Paired Atm xs ds → Th H (.ref a) (.tuple ds)
  | dct {a : Addr} {ps : List (Str × Str)} : H a = some (.dK (kvS ps)) → Th H (.ref a) (.dict (kvD ps))
theorem Th.keep {H H' : Hp} {v : V} {d : PyData} (h : Th H v d) (k : ∀ a o, H a = some o → H' a = some o) : Th H' v d := by
  cases h with
  | atm h => exact .atm h
  | lst e h => exact .lst (k _ _ e) h
  | tup e h => exact .tup (k _ _ e) h
  | dct e => exact .dct (k _ _ e)
section
variable {X : Cx} {pins : List (Addr × Obj)} {σ : L2.St} {H : Hp} {s : Shared}
theorem Atm.reads {h : Heap} {v : V} {u : Value} {d : PyData} (a : Atm v d) (r : RelV v u) : Reads h u d [] ∧ d.hasDict = false := by
  cases a with
  | non => cases r; exact ⟨Reads.none, by simp only [PyData.hasDict]⟩
  | bl b => cases r; exact ⟨Reads.bool b, by simp only [PyData.hasDict]⟩
  | int i => obtain ⟨t, rfl⟩ := r; exact ⟨Reads.int i t, by simp only [PyData.hasDict]⟩
  | str x => obtain ⟨t, rfl⟩ := r; exact ⟨Reads.str x t, by simp only [PyData.hasDict]⟩
theorem atms_reads {h : Heap} : ∀ {vs : List V} {ds : List PyData} {us : List Value}, Paired Atm vs ds → Vals vs us → ReadsAll h us ds [] ∧ PyData.hasDictAll ds = false
  | _, _, _, .nil, .nil => ⟨ReadsAll.nil, by simp only [PyData.hasDictAll]⟩
  | _, _, _, .cons a t, .cons r rs => by
    obtain ⟨h1, n1⟩ := a.reads (h := h) r
    obtain ⟨h2, n2⟩ := atms_reads (h := h) t rs
    exact ⟨ReadsAll.cons h1 h2, by simp only [PyData.hasDictAll, n1, n2, Bool.or_false]⟩
theorem strs_read {P : Program} {w : World} {h : Heap} : ∀ {ps : List (Str × Str)} {vs : List (Key × Value)} {es : List DictEntry}, KV (kvS ps) vs → Pairs (mixKind P w) es vs →
    ReadsAll h (es.map (·.key)) ((kvD ps).map (·.1)) [] ∧ ReadsAll h (es.map (·.val)) ((kvD ps).map (·.2)) []
  | [], _, _, .nil, .nil => ⟨ReadsAll.nil, ReadsAll.nil⟩
  | p :: ps, _, _, .cons a t, .cons k v r => by
    obtain ⟨h1, h2⟩ := strs_read (P := P) (w := w) (h := h) (ps := ps) t r
    obtain ⟨e1, e2⟩ := a
    rw [mixKind_is, ← e1] at k
    obtain ⟨y, ey⟩ := (show ∃ y, _ = Value.str p.2 y from e2)
    rcases keyIs_shape k with ⟨i, t, z, _⟩ | ⟨x, t, z, z2⟩
    · cases z
    · cases z
      refine ⟨?_, ?_⟩
      · have q := ReadsAll.cons (Reads.str (h := h) p.1 t) h1
        rw [← z2] at q
        exact q
      · have q := ReadsAll.cons (Reads.str (h := h) p.2 y) h2
        rw [← ey, ← v] at q
        exact q
theorem Th.reads (I : Inv X pins σ H s) {v : V} {u : Value} {d : PyData} (h : Th H v d) (r : RelV v u) : ∃ as, Reads s.heap u d as ∧ (d.hasDict = true → sysModules ∉ as) := by
  cases h with
  | atm a =>
    obtain ⟨h1, n⟩ := a.reads (h := s.heap) r
    exact ⟨_, h1, fun z => nomatch n.symm.trans z⟩
  | lst e a =>
    cases r
    obtain ⟨its, rv, ⟨o, n, ho, hc, _, hd⟩, _⟩ := I.list (SqL.of e)
    obtain ⟨h1, n1⟩ := atms_reads (h := s.heap) a rv
    exact ⟨_, Reads.list ho hc hd h1, fun z => by simp only [PyData.hasDict, n1] at z; cases z⟩
  | tup e a =>
    cases r
    obtain ⟨its, rv, ⟨o, ho, hc, n, hd⟩, _⟩ := I.tuple (SqT.of e)
    obtain ⟨h1, n1⟩ := atms_reads (h := s.heap) a rv
    exact ⟨_, Reads.tuple ho hc hd h1, fun z => by simp only [PyData.hasDict, n1] at z; cases z⟩
  | @dct a ps e =>
    cases r
    obtain ⟨_, ne, vs, kv, o, es, ep, ho, ex, hd, _, pr, _⟩ := (show ObjOk X.prog X.w H s.heap a (.dK (kvS ps)) from I.hok a _ e)
    obtain ⟨h1, h2⟩ := strs_read (h := s.heap) kv pr
    refine ⟨_, Reads.dict ho ex.1 hd h1 h2, fun _ hm => ?_⟩
    have z : sysModules = a := by simpa using hm
    rw [← z] at ne
    exact absurd ne (by decide)
/-- what is handed to repr -/
def Shw (H : Hp) (x : V) (d : PyData) : Prop := Th H x d ∨ ∃ q y e, x = .ref q ∧ H q = some (.lst [y, y]) ∧ q ≠ sysModules ∧ Th H y e ∧ d = .list [e, e]
theorem Shw.reads (I : Inv X pins σ H s) {v : V} {u : Value} {d : PyData} (h : Shw H v d) (r : RelV v u) : ∃ as, Reads s.heap u d as ∧ (d.hasDict = true → sysModules ∉ as) := by
  rcases h with h | ⟨q, y, d, rfl, e, ne, t, rfl⟩
  · exact h.reads I r
  · cases r
    obtain ⟨its, rv, ⟨o, n, ho, hc, _, hd⟩, _⟩ := I.list (SqL.of e)
    cases rv with
    | cons r1 rv =>
      cases rv with
      | cons r2 rv =>
        cases rv
        obtain ⟨as, h1, n1⟩ := t.reads I r1
        obtain ⟨bs, h2, n2⟩ := t.reads I r2
        refine ⟨_, Reads.list ho hc hd (ReadsAll.cons h1 (ReadsAll.cons h2 ReadsAll.nil)), fun z => ?_⟩
        simp only [PyData.hasDict, PyData.hasDictAll, Bool.or_false, Bool.or_self] at z
        have m1 := n1 z
        have m2 := n2 z
        simp only [List.append_nil, List.mem_cons, List.mem_append, not_or]
        exact ⟨fun w => ne w.symm, m1, m2⟩
end
section
variable {X : Cx} {es : List Expr} {pos : Pos} {t : TA}
theorem call_reprT (hg : X.A.guards = some []) (hu : X.A.units + 64 < cLine) : CallR X (.builtin "repr") (fun xs H Q => ∃ x d, xs = [x] ∧ Shw H x d ∧ d.showable = true ∧ d.depth ≤ 60 ∧ d.shown.length ≤ sizeLine ∧ Q (.str d.shown) H) := by
  intro pins s σ H xs us Q I r h
  obtain ⟨x, d, rfl, hd, hs, hdp, hz, q⟩ := h
  cases r with
  | cons r1 r2 =>
  cases r2
  obtain ⟨as, rd, nm⟩ := hd.reads I r1
  have far : ∀ {a : Addr}, Reads s.heap (.ref a) d as → wpAny (model X.prog X.w) X.A (call (.builtin "repr") [.ref a]) (EP X pins σ Q) X.xe s := fun rd => repr_of_reads' rd hs nm hg (by omega) (fun _ _ e => e) (fun h2 u tk hk => ⟨V.str _, H, I.kept hk, ⟨u, rfl⟩, q⟩) hz
  rcases hd with h | ⟨p, y, e, rfl, _⟩
  · cases h with
    | atm a =>
      cases a with
      | non => cases r1; exact PySem.P.repr_of_none ⟨V.str _, H, I.tok _, ⟨_, rfl⟩, q⟩
      | bl b => cases r1; exact PySem.P.repr_of_bool ⟨V.str _, H, I.tok _, ⟨_, rfl⟩, q⟩
      | int i =>
        obtain ⟨t, rfl⟩ := r1
        exact PySem.P.repr_of_int (of_decide_eq_true hs) ⟨V.str _, H, I.tok _, ⟨_, rfl⟩, q⟩
      | str z =>
        obtain ⟨t, rfl⟩ := r1
        exact PySem.P.repr_of_str ⟨V.str _, H, I.tok _, ⟨_, rfl⟩, q⟩ hz
    | lst e h => cases r1; exact far rd
    | tup e h => cases r1; exact far rd
    | dct e => cases r1; exact far rd
  · cases r1; exact far rd
/-- [e, ..]: the new list does not stand where the modules do -/
def tLs1 (t : TA) : TE := fun σ H Q => t σ H fun xs H1 => xs.length ≤ sizeLine ∧ ∀ p, H1 p = none → p ≠ sysModules → Q (.ref p) (upd H1 p (.lst xs))
theorem pe_ls1 (h : PA X es t) : PE X (.List es pos) (tLs1 t) := by
  refine ⟨fun pins s σ H Q I hq => wpAny_List_spliced (thn (h.run pos pins s σ H _ I hq) fun us s1 ⟨xs, H1, I1, r, z, q⟩ => ⟨r.length ▸ z, ?_⟩)⟩
  have free1 : H1 s1.heap.objs.size = none := I1.hok.fresh (Nat.le_refl _)
  obtain ⟨o, _, _, ho, _⟩ := I1.mod.glob
  have big : mainGlobals < s1.heap.objs.size := Heap.lt_size (I1.bk _ _ ho)
  have ne : s1.heap.objs.size ≠ sysModules := fun z => by
    rw [z] at big
    exact absurd big (by decide)
  exact ⟨.ref s1.heap.objs.size, _, I1.laid (t' := s1.toks) (o := .lst xs) (fun b u e => Heap.get?_push_of_some _ e) (Nat.le_refl _) ⟨z, us, 0, r, Heap.get?_push_size _ rfl⟩, rfl, q _ free1 ne⟩
end
end Vk
set_option Elab.async false
set_option maxRecDepth 100000
set_option maxHeartbeats 4000000
set_option linter.all false
namespace Vk
open L2 PySem PySem.Spec PyProof.Rows PySem.VkX
/-! ## isinstance among own exception classes -/
section
variable {K : PySem.W.Frag} {C D : Addr} {x y : Str} {tl tl2 : List Value}
theorem ClsN.cls (c : ClsN K C x tl) : ∃ cd, PySem.W.clsIn K C = some cd ∧ cd.name = x ∧ cd.mro = .ref C :: tl ∧ PySem.W.typeIn K (.ref C) = some (.type "type") := by
  obtain ⟨newId, q, N, bs, sn, sub, ab, col, dd, k0, k1, k2, k3, k5, e⟩ := c
  refine ⟨{ name := x, bases := bs, mro := .ref C :: tl, ns := N, qualname := q, hasDict := true, slotNames := sn, subclasses := sub, abstract := ab, collection := col, hasDel := false }, ?_, rfl, rfl, ?_⟩
  · unfold PySem.W.clsIn; rw [e] <;> rfl
  · show (K.lookup C).map (·.cls) = _
    rw [e] <;> rfl
theorem ClsN.inj (c : ClsN K C x tl) (d : ClsN K D y tl2) : (C == D) = true → x = y := by
  intro h
  have e : C = D := by simpa using h
  subst e
  obtain ⟨cd, h1, h2, _⟩ := c.cls
  obtain ⟨ce, g1, g2, _⟩ := d.cls
  cases h1.symm.trans g1
  exact h2.symm.trans g2
/-- what stands at a name is one class -/
structure One (K : PySem.W.Frag) (C : Addr) (x : Str) (tl : List Value) : Prop where
  cn : ClsN K C x tl
  ns : PySem.W.nsIn K mainGlobals x = some (some (.ref C))
  rf : tl.all (fun v => match v with | .type _ => true | _ => false) = true
theorem notIn_types {l : List Value} (h : l.all (fun v => match v with | .type _ => true | _ => false) = true) : l.contains (.ref D) = false := by
  induction l with
  | nil => rfl
  | cons a r ih =>
    rw [List.all_cons, Bool.and_eq_true] at h
    rw [List.contains_cons, ih h.2, Bool.or_false]
    cases a <;> first | rfl | (exact absurd h.1 (by simp)) | simp
theorem kit_one (c : One K C x tl) (d : One K D y tl2) : PySem.W.kitOne K (.ref C) (.ref D) = some (x == y) := by
  obtain ⟨cd, h1, h2, h3, h4⟩ := c.cn.cls
  obtain ⟨ce, g1, g2, g3, g4⟩ := d.cn.cls
  unfold PySem.W.kitOne
  by_cases e : C = D
  · subst e
    have exy : x = y := c.cn.inj d.cn (by simp)
    rw [if_pos (by simp), exy]
    simp
  · have ne : ¬ ((Value.ref C == Value.ref D) = true) := by simpa using e
    have nxy : (x == y) = false := by
      rw [beq_eq_false_iff_ne]
      rintro rfl
      have z := c.ns.symm.trans d.ns
      cases z
      exact e rfl
    rw [if_neg ne, nxy]
    show (if ((PySem.W.clsIn K D).isSome && PySem.W.typeIn K (.ref D) == some (.type "type")) = true then PySem.W.subIn K (.ref C) (.ref D) else none) = some false
    rw [if_pos (by rw [g1, g4]; simp)]
    show PySem.W.mroIn K C (.ref D) = some false
    unfold PySem.W.mroIn
    rw [h1, Option.bind_some, h3, if_neg (by simp), List.contains_cons, notIn_types c.rf]
    have ne2 : (Value.ref D == Value.ref C) = false := by
      rw [beq_eq_false_iff_ne]
      rintro z
      exact e (Value.ref.inj z).symm
    rw [ne2]
    rfl
theorem kit_type {T : String} (c : One K C x tl) (hT : PySem.W.kitMeta T = true) : PySem.W.kitOne K (.ref C) (.type T) = some (tl.contains (.type T)) := by
  obtain ⟨cd, h1, h2, h3, h4⟩ := c.cn.cls
  unfold PySem.W.kitOne
  have far : ¬ ((Value.ref C == Value.type T) = true) := fun z => nomatch (beq_iff_eq.mp z)
  rw [if_neg far]
  show (if PySem.W.kitMeta T = true then PySem.W.subIn K (.ref C) (.type T) else none) = _
  rw [if_pos hT]
  show PySem.W.mroIn K C (.type T) = _
  unfold PySem.W.mroIn
  rw [h1, Option.bind_some, h3, if_neg (by simp), List.contains_cons]
  have ne : (Value.type T == Value.ref C) = false := beq_eq_false_iff_ne.mpr (fun z => nomatch z)
  rw [ne, Bool.false_or]
end
/-! ## list.count -/
theorem count_eqU {x : V} : ∀ {xs : List V} {us : List Value}, Vals xs us → xs.all flatV = true → us.countP (eqU x) = xs.countP fun y => eqV y x
  | _, _, .nil, _ => rfl
  | _, _, .cons r t, f => by
    rw [List.all_cons, Bool.and_eq_true] at f
    rw [List.countP_cons, List.countP_cons, count_eqU t f.2, eqU_of r f.1]
theorem mt_countL {X : Cx} : MtR X "list.count" (fun x vs H Q => ∃ a ys y, x = .ref a ∧ vs = [y] ∧ SqL X.K H a ys ∧ flatV y = true ∧ ys.all flatV = true ∧ Q (.int (ys.countP fun z => eqV z y : Nat)) H) := by
  intro pins s σ H x xs v us Q I rx rxs h
  obtain ⟨a, ys, y, rfl, rfl, hs, fy, fys, q⟩ := h
  cases rx
  cases rxs with
  | cons ry rt =>
    rename_i uy ut
    cases rt
    obtain ⟨its, rv, ⟨⟨cls, dd, data, sl⟩, n, ho, hc, hdn, hd⟩, hlen⟩ := I.list hs
    simp only at hc hd
    subst hc hd
    refine call_meets PySem.F.slot_list_count ⟨_, ho, rfl⟩ PySem.F.entry_list_count (PySem.F.args_list_count_2 _ _) (SeqAt.list_countAt a its.toArray n dd sl uy (eqU y)) ⟨ho, fun w hw => mem_eqAt ry fy rv fys w (by simpa using hw), ?_⟩
    have e : its.toArray.toList.countP (eqU y) = ys.countP fun z => eqV z y := by rw [← count_eqU rv fys]
    rw [e]
    exact ⟨.int _, H, I.tok _, ⟨_, rfl⟩, q⟩
/-! ## a comprehension over zip of two lists of one length -/
theorem lc_zip {K : PySem.W.Frag} {a b : Addr} {xs ys : List V} {g : TG} {tt : TT} {te : TE} {vs : List Nat} {σ : L2.St} {H1 : Hp} {D : Addr} {Qd : Hp → Prop} (len : xs.length = ys.length) (Pv : Nat → Hp → Prop) (h0 : Pv 0 (upd H1 D (.lst []))) (hl : ∀ i H, Pv i H → SqL K H a xs ∧ SqL K H b ys)
    (hs : ∀ i x y T H, xs[i]? = some x → ys[i]? = some y → Pv i H → H T = none → g (.ref T) (wipe σ vs) (upd H T (.tup [x, y])) fun σ2 H2 => wipe σ2 vs = wipe σ vs ∧ tt σ2 H2 fun c H3 =>
      if c = true then te σ2 H3 fun z H4 => ∃ acc, H4 D = some (.lst acc) ∧ acc.length < sizeLine ∧ Pv (i + 1) (upd H4 D (.lst (acc ++ [z]))) else Pv (i + 1) H3) (hd : ∀ H, Pv xs.length H → Qd H) :
    ∃ W : Nat → Nat → Hp → Prop, (∃ m, W 0 m (upd H1 D (.lst []))) ∧ ∀ i m H, W i m H →
      ((Itz K a b).stop i H ∧ Qd H) ∨ ((Itz K a b).go i H ∧ ∃ Nx : Hp → Prop, (∀ H', Nx H' → ∃ m', m' < m ∧ W (i + 1) m' H') ∧ ∀ x H', (Itz K a b).yld i H x H' → g x (wipe σ vs) H' fun σ2 H2 => wipe σ2 vs = wipe σ vs ∧ tt σ2 H2 fun c H3 =>
        if c = true then te σ2 H3 fun z H4 => ∃ acc, H4 D = some (.lst acc) ∧ acc.length < sizeLine ∧ Nx (upd H4 D (.lst (acc ++ [z]))) else Nx H3) := by
  refine ⟨fun i m H => m = xs.length - i ∧ i ≤ xs.length ∧ Pv i H, ⟨xs.length, rfl, Nat.zero_le _, h0⟩, ?_⟩
  rintro i m H ⟨rfl, hi, p⟩
  obtain ⟨qx, qy⟩ := hl i H p
  by_cases lt : i < xs.length
  · have fx : xs[i]? = some xs[i] := List.getElem?_eq_getElem lt
    have fy : ys[i]? = some (ys[i]'(len ▸ lt)) := List.getElem?_eq_getElem (len ▸ lt)
    refine .inr ⟨⟨xs, ys, _, _, qx, qy, fx, fy⟩, Pv (i + 1), fun H2 p2 => ⟨xs.length - (i + 1), by omega, rfl, lt, p2⟩, fun v H2 w => ?_⟩
    obtain ⟨T, x2, y2, rfl, hT, rfl, f1, f2⟩ := w
    exact hs i x2 y2 T H (f1 xs qx) (f2 ys qy) p hT
  · have e : i = xs.length := by omega
    subst e
    exact .inl ⟨⟨xs, ys, qx, qy, Or.inl (Nat.le_refl _)⟩, hd H p⟩
end Vk
set_option Elab.async false
set_option maxRecDepth 100000
set_option maxHeartbeats 4000000
set_option linter.all false
namespace Vk
open L2 PySem PySem.Spec PyProof.Rows PySem.VkX
/-! ## what is laid, told by what it shows -/
theorem Same.rfl {H : Hp} : Same H H := fun _ _ h => h
theorem Same.trans {H H1 H2 : Hp} (a : Same H H1) (b : Same H1 H2) : Same H H2 := fun c o h => b c o (a c o h)
def MkA (t : TE) (d : PyData) : Prop := ∃ v, Atm v d ∧ ∀ σ H Q, Q v H → t σ H Q
def MkAs (t : TA) (ds : List PyData) : Prop := ∃ vs, Paired Atm vs ds ∧ ∀ σ H Q, Q vs H → t σ H Q
def Mk (t : TE) (d : PyData) : Prop := ∀ σ H Q, (∀ v H', Same H H' → Th H' v d → Q v H') → t σ H Q
def Mks (t : TA) (ds : List PyData) : Prop := ∀ σ H Q, (∀ vs H', Same H H' → Paired (Th H') vs ds → Q vs H') → t σ H Q
section
variable {t te : TE} {ta : TA} {d : PyData} {ds : List PyData}
theorem ma_non : MkA (tC .non) .none := ⟨_, .non, fun _ _ _ q => q⟩
theorem ma_bl {b : Bool} : MkA (tC (.bl b)) (.bool b) := ⟨_, .bl b, fun _ _ _ q => q⟩
theorem ma_int {i : Int} : MkA (tC (.int i)) (.int i) := ⟨_, .int i, fun _ _ _ q => q⟩
theorem ma_str {x : Str} : MkA (tC (.str x)) (.str x) := ⟨_, .str x, fun _ _ _ q => q⟩
theorem ma_neg {i : Int} : MkA (tUn (rU fun i => V.int (-i)) (tC (.int i))) (.int (-i)) := ⟨_, .int (-i), fun _ _ _ q => ⟨i, rfl, q⟩⟩
theorem ma_pow {i j : Int} (h : CPow i j) : MkA (tOp (rI CPow fun i j => V.int (i ^ j.toNat)) (tC (.int i)) (tC (.int j))) (.int (i ^ j.toNat)) := ⟨_, .int _, fun _ _ _ q => ⟨i, j, rfl, rfl, h, q⟩⟩
theorem ma_mul {z : Str} {n : Int} (h : CMulS z n) : MkA (tOp rMulS (tC (.str z)) (tC (.int n))) (.str (Txt.mul z n)) := ⟨_, .str _, fun _ _ _ q => ⟨z, n, rfl, rfl, h, q⟩⟩
theorem mas_nil : MkAs tNil [] := ⟨[], .nil, fun _ _ _ q => q⟩
theorem mas_cons (a : MkA te d) (b : MkAs ta ds) : MkAs (tCons te ta) (d :: ds) := by
  obtain ⟨v, h1, h2⟩ := a
  obtain ⟨vs, g1, g2⟩ := b
  exact ⟨v :: vs, .cons h1 g1, fun σ H Q q => h2 σ H _ (g2 σ H _ q)⟩
theorem mk_atm (a : MkA te d) : Mk te d := by
  obtain ⟨v, h1, h2⟩ := a
  exact fun σ H Q q => h2 σ H Q (q v H Same.rfl (.atm h1))
theorem paired_len {α β : Type} {R : α → β → Prop} : ∀ {xs : List α} {ys : List β}, Paired R xs ys → xs.length = ys.length
  | _, _, .nil => rfl
  | _, _, .cons _ t => congrArg (· + 1) (paired_len t)
theorem mk_tup (a : MkAs ta ds) (hl : ds.length ≤ 1000) : Mk (tTup ta) (.tuple ds) := by
  obtain ⟨vs, g1, g2⟩ := a
  exact fun σ H Q q => g2 σ H _ ⟨few_len ((paired_len g1).symm ▸ hl), fun p hp => q _ _ (same_new hp) (.tup upd_same g1)⟩
theorem mk_lst (a : MkAs ta ds) (hl : ds.length ≤ 1000) : Mk (tLst ta) (.list ds) := by
  obtain ⟨vs, g1, g2⟩ := a
  exact fun σ H Q q => g2 σ H _ ⟨few_len ((paired_len g1).symm ▸ hl), fun p hp => q _ _ (same_new hp) (.lst upd_same g1)⟩
theorem mk_dnew : Mk tDNewK (.dict (kvD [])) := fun σ H Q q p hp => q _ _ (same_new hp) (.dct upd_same)
theorem mk_disp {a b : Str} : Mk (tDisp [(tC (.str a), tC (.str b))]) (.dict (kvD [(a, b)])) := by
  intro σ H Q q p hp
  refine ⟨upd_same, [(Sum.inr a, V.str b)], rfl, by show 1 ≤ 15; decide, ?_⟩
  refine q _ _ (fun c o h => ?_) (.dct (ps := [(a, b)]) upd_same)
  rw [upd_ne (ne_of_none h hp), upd_ne (ne_of_none h hp)]
  exact h
theorem mks_nil : Mks tNil [] := fun σ H Q q => q [] H Same.rfl .nil
theorem ths_keep {H H' : Hp} (k : Same H H') : ∀ {vs : List V} {ds : List PyData}, Paired (Th H) vs ds → Paired (Th H') vs ds
  | _, _, .nil => .nil
  | _, _, .cons a t => .cons (a.keep k) (ths_keep k t)
theorem mks_cons (a : Mk te d) (b : Mks ta ds) : Mks (tCons te ta) (d :: ds) := fun σ H Q q => a σ H _ fun v H1 s1 t1 => b σ H1 _ fun vs H2 s2 t2 => q _ _ (s1.trans s2) (.cons (t1.keep s2) t2)
/-- a list of such values -/
theorem mk_many (a : Mks ta ds) (hl : ds.length ≤ 1000) {σ : L2.St} {H : Hp} {Q : VK} (q : ∀ p xs H', Same H H' → H' p = some (.lst xs) → Paired (Th H') xs ds → Q (.ref p) H') : tLst ta σ H Q :=
  a σ H _ fun vs H1 s1 t1 => ⟨few_len ((paired_len t1).symm ▸ hl), fun p hp => q p vs _ (s1.trans (same_new hp)) upd_same (ths_keep (same_new hp) t1)⟩
theorem paired_app {α β : Type} {R : α → β → Prop} : ∀ {xs : List α} {ys : List β} {us : List α} {vs : List β}, Paired R xs ys → Paired R us vs → Paired R (xs ++ us) (ys ++ vs)
  | _, _, _, _, .nil, b => b
  | _, _, _, _, .cons a t, b => .cons a (paired_app t b)
theorem paired_mem {α β : Type} {R : α → β → Prop} : ∀ {xs : List α} {ys : List β} {x : α}, Paired R xs ys → x ∈ xs → ∃ y, y ∈ ys ∧ R x y
  | _, _, _, .cons a t, h => by
    rcases List.mem_cons.mp h with rfl | h
    · exact ⟨_, List.mem_cons_self, a⟩
    · obtain ⟨y, h1, h2⟩ := paired_mem t h
      exact ⟨y, List.mem_cons_of_mem _ h1, h2⟩
theorem sqL_same {H : Hp} {p : Addr} {xs : List V} {K : PySem.W.Frag} (h : H p = some (.lst xs)) : SqL K H p xs := SqL.of h
end
/-- nothing of such a value is the pen -/
theorem Th.ext {H H' : Hp} {p c : Addr} {T : Nat} {v : V} {d : PyData} (h : Th H v d) (hp : Pen H p c T) (x : Ext p H H') : Th H' v d := by
  obtain ⟨ns, t, l, hpp, _⟩ := hp.ex
  cases h with
  | atm a => exact .atm a
  | lst e a => exact .lst (x _ _ e (fun z => by rw [z, hpp] at e; cases e)) a
  | tup e a => exact .tup (x _ _ e (fun z => by rw [z, hpp] at e; cases e)) a
  | @dct a ps e =>
    refine .dct (x _ _ e (fun z => ?_))
    rw [z, hpp] at e
    have e2 : penL c t l = kvS ps := HO.dK.inj (Option.some.inj e)
    match ps, e2 with
    | [], e2 => cases e2
    | q :: r, e2 =>
      have z := congrArg (fun l => (l.head?).map (·.2)) e2
      cases z
end Vk
namespace Vk
open L2 PySem PySem.Spec PyProof.Rows PySem.VkX
theorem seq_asg {te : TE} {g : TG} {u : TS} {D : Ends} {σ : L2.St} {H : Hp} (h : te σ H fun v H1 => g v σ H1 (u D)) : tSeq (tAsg te g) u D σ H := h
end Vk
namespace Vk
open L2 PySem PySem.Spec PyProof.Rows PySem.VkX
def okB (d : PyData) : Bool := d.showable && decide (d.depth ≤ 60) && decide (d.shown.length ≤ 1000) && (PyData.list [d, d]).showable && decide ((PyData.list [d, d]).depth ≤ 60) && decide ((PyData.list [d, d]).shown.length ≤ 10000)
end Vk
set_option Elab.async false
set_option maxRecDepth 100000
set_option linter.all false
namespace Vk
open PySem PySem.Spec PyProof.Rows L2
def top (i : Nat) : Stmt := PySem.Challenge.pw_anchoredits_k13_errors_and_limits.main.body.getD i (.Pass ⟨0, 0, 0, 0⟩)
structure Txt (mg : Str → Option Value) : Prop where
  len : mg "len" = none
  list : mg "list" = none
  int : mg "int" = none
  abs : mg "abs" = none
  range : mg "range" = none
  min : mg "min" = none
  repr : mg "repr" = none
  isinstance : mg "isinstance" = none
  zip : mg "zip" = none
  ValueError : mg "ValueError" = none
  LookupError : mg "LookupError" = none
  OverflowError : mg "OverflowError" = none
  RuntimeError : mg "RuntimeError" = none
abbrev tlV : List Value := [.type "ValueError", .type "Exception", .type "BaseException", .type "object"]
abbrev tlL : List Value := [.type "LookupError", .type "Exception", .type "BaseException", .type "object"]
abbrev tlO : List Value := [.type "OverflowError", .type "ArithmeticError", .type "Exception", .type "BaseException", .type "object"]
abbrev tlR : List Value := [.type "RuntimeError", .type "Exception", .type "BaseException", .type "object"]
section
variable {P : Program} {w : World} {K : PySem.W.Frag} {mg : Str → Option Value} {base : Heap}
abbrev m_InvalidOld : Stmt := mtd (top 1) 0
theorem sc_InvalidOld : FnScope ["self", "value"] ["self", "value"] (defScope m_InvalidOld) := ⟨rfl, rfl, rfl, by decide +kernel, rfl, by decide +kernel, by decide +kernel⟩
theorem b_InvalidOld {f C : Addr} {fd : FuncData} (F : Fun K "__init__" "InvalidOld.__init__" m_InvalidOld f fd) (T : OexK K C) (no : ∀ f ∈ (["value"] : List Str), PySem.W.findIn K (.ref C) f = some none) : FnG P w K mg base CX0 1 f fd ["self", "value"] (spIni C ["value"]) := by
  refine okG0 F sc_InvalidOld (fun vs H Q E h => ?_) (fun cdv A outer s H vs Q E hg hr h => ?_)
  · obtain ⟨a, ws, rfl, hl, _⟩ := h
    rw [List.length_cons, hl]
    rfl
  · obtain ⟨a, ws, rfl, hl, ha, k0, k⟩ := h
    match ws, hl with
    | [y], _ => exact ⟨_, (pss_one (ps_osk (pv 0) (pv 1))), _, rfl, _, rfl, a, C, rfl, T, no _ (by simp), .inl ⟨ha, fun dx n ne => k (by simp) dx n ne⟩⟩
theorem c_InvalidOld {h : Heap} {f C : Addr} {fd : FuncData} {tl : List Value} (KX : K.In h) (G : h.Ns mainGlobals mg) (E : ExcTxt K "InvalidOld" "InvalidOld.__init__" m_InvalidOld C f fd ["value"] tl) : ClsI P w K mg base 1 "InvalidOld" C ["value"] :=
  .of1 E KX G (b_InvalidOld E.fn E.T E.no) (fun _ _ _ _ _ _ _ _ => rfl) (fun _ _ _ _ _ _ _ _ => rfl)
abbrev m_InvalidNew : Stmt := mtd (top 2) 0
theorem sc_InvalidNew : FnScope ["self", "value"] ["self", "value"] (defScope m_InvalidNew) := ⟨rfl, rfl, rfl, by decide +kernel, rfl, by decide +kernel, by decide +kernel⟩
theorem b_InvalidNew {f C : Addr} {fd : FuncData} (F : Fun K "__init__" "InvalidNew.__init__" m_InvalidNew f fd) (T : OexK K C) (no : ∀ f ∈ (["value"] : List Str), PySem.W.findIn K (.ref C) f = some none) : FnG P w K mg base CX0 1 f fd ["self", "value"] (spIni C ["value"]) := by
  refine okG0 F sc_InvalidNew (fun vs H Q E h => ?_) (fun cdv A outer s H vs Q E hg hr h => ?_)
  · obtain ⟨a, ws, rfl, hl, _⟩ := h
    rw [List.length_cons, hl]
    rfl
  · obtain ⟨a, ws, rfl, hl, ha, k0, k⟩ := h
    match ws, hl with
    | [y], _ => exact ⟨_, (pss_one (ps_osk (pv 0) (pv 1))), _, rfl, _, rfl, a, C, rfl, T, no _ (by simp), .inl ⟨ha, fun dx n ne => k (by simp) dx n ne⟩⟩
theorem c_InvalidNew {h : Heap} {f C : Addr} {fd : FuncData} {tl : List Value} (KX : K.In h) (G : h.Ns mainGlobals mg) (E : ExcTxt K "InvalidNew" "InvalidNew.__init__" m_InvalidNew C f fd ["value"] tl) : ClsI P w K mg base 1 "InvalidNew" C ["value"] :=
  .of1 E KX G (b_InvalidNew E.fn E.T E.no) (fun _ _ _ _ _ _ _ _ => rfl) (fun _ _ _ _ _ _ _ _ => rfl)
abbrev m_InvalidText : Stmt := mtd (top 3) 0
theorem sc_InvalidText : FnScope ["self", "value"] ["self", "value"] (defScope m_InvalidText) := ⟨rfl, rfl, rfl, by decide +kernel, rfl, by decide +kernel, by decide +kernel⟩
theorem b_InvalidText {f C : Addr} {fd : FuncData} (F : Fun K "__init__" "InvalidText.__init__" m_InvalidText f fd) (T : OexK K C) (no : ∀ f ∈ (["value"] : List Str), PySem.W.findIn K (.ref C) f = some none) : FnG P w K mg base CX0 1 f fd ["self", "value"] (spIni C ["value"]) := by
  refine okG0 F sc_InvalidText (fun vs H Q E h => ?_) (fun cdv A outer s H vs Q E hg hr h => ?_)
  · obtain ⟨a, ws, rfl, hl, _⟩ := h
    rw [List.length_cons, hl]
    rfl
  · obtain ⟨a, ws, rfl, hl, ha, k0, k⟩ := h
    match ws, hl with
    | [y], _ => exact ⟨_, (pss_one (ps_osk (pv 0) (pv 1))), _, rfl, _, rfl, a, C, rfl, T, no _ (by simp), .inl ⟨ha, fun dx n ne => k (by simp) dx n ne⟩⟩
theorem c_InvalidText {h : Heap} {f C : Addr} {fd : FuncData} {tl : List Value} (KX : K.In h) (G : h.Ns mainGlobals mg) (E : ExcTxt K "InvalidText" "InvalidText.__init__" m_InvalidText C f fd ["value"] tl) : ClsI P w K mg base 1 "InvalidText" C ["value"] :=
  .of1 E KX G (b_InvalidText E.fn E.T E.no) (fun _ _ _ _ _ _ _ _ => rfl) (fun _ _ _ _ _ _ _ _ => rfl)
abbrev m_InvalidTable : Stmt := mtd (top 4) 0
theorem sc_InvalidTable : FnScope ["self", "value"] ["self", "value"] (defScope m_InvalidTable) := ⟨rfl, rfl, rfl, by decide +kernel, rfl, by decide +kernel, by decide +kernel⟩
theorem b_InvalidTable {f C : Addr} {fd : FuncData} (F : Fun K "__init__" "InvalidTable.__init__" m_InvalidTable f fd) (T : OexK K C) (no : ∀ f ∈ (["value"] : List Str), PySem.W.findIn K (.ref C) f = some none) : FnG P w K mg base CX0 1 f fd ["self", "value"] (spIni C ["value"]) := by
  refine okG0 F sc_InvalidTable (fun vs H Q E h => ?_) (fun cdv A outer s H vs Q E hg hr h => ?_)
  · obtain ⟨a, ws, rfl, hl, _⟩ := h
    rw [List.length_cons, hl]
    rfl
  · obtain ⟨a, ws, rfl, hl, ha, k0, k⟩ := h
    match ws, hl with
    | [y], _ => exact ⟨_, (pss_one (ps_osk (pv 0) (pv 1))), _, rfl, _, rfl, a, C, rfl, T, no _ (by simp), .inl ⟨ha, fun dx n ne => k (by simp) dx n ne⟩⟩
theorem c_InvalidTable {h : Heap} {f C : Addr} {fd : FuncData} {tl : List Value} (KX : K.In h) (G : h.Ns mainGlobals mg) (E : ExcTxt K "InvalidTable" "InvalidTable.__init__" m_InvalidTable C f fd ["value"] tl) : ClsI P w K mg base 1 "InvalidTable" C ["value"] :=
  .of1 E KX G (b_InvalidTable E.fn E.T E.no) (fun _ _ _ _ _ _ _ _ => rfl) (fun _ _ _ _ _ _ _ _ => rfl)
abbrev m_InvalidCount : Stmt := mtd (top 5) 0
theorem sc_InvalidCount : FnScope ["self", "value"] ["self", "value"] (defScope m_InvalidCount) := ⟨rfl, rfl, rfl, by decide +kernel, rfl, by decide +kernel, by decide +kernel⟩
theorem b_InvalidCount {f C : Addr} {fd : FuncData} (F : Fun K "__init__" "InvalidCount.__init__" m_InvalidCount f fd) (T : OexK K C) (no : ∀ f ∈ (["value"] : List Str), PySem.W.findIn K (.ref C) f = some none) : FnG P w K mg base CX0 1 f fd ["self", "value"] (spIni C ["value"]) := by
  refine okG0 F sc_InvalidCount (fun vs H Q E h => ?_) (fun cdv A outer s H vs Q E hg hr h => ?_)
  · obtain ⟨a, ws, rfl, hl, _⟩ := h
    rw [List.length_cons, hl]
    rfl
  · obtain ⟨a, ws, rfl, hl, ha, k0, k⟩ := h
    match ws, hl with
    | [y], _ => exact ⟨_, (pss_one (ps_osk (pv 0) (pv 1))), _, rfl, _, rfl, a, C, rfl, T, no _ (by simp), .inl ⟨ha, fun dx n ne => k (by simp) dx n ne⟩⟩
theorem c_InvalidCount {h : Heap} {f C : Addr} {fd : FuncData} {tl : List Value} (KX : K.In h) (G : h.Ns mainGlobals mg) (E : ExcTxt K "InvalidCount" "InvalidCount.__init__" m_InvalidCount C f fd ["value"] tl) : ClsI P w K mg base 1 "InvalidCount" C ["value"] :=
  .of1 E KX G (b_InvalidCount E.fn E.T E.no) (fun _ _ _ _ _ _ _ _ => rfl) (fun _ _ _ _ _ _ _ _ => rfl)
abbrev m_InvalidSpot : Stmt := mtd (top 6) 0
theorem sc_InvalidSpot : FnScope ["self", "value"] ["self", "value"] (defScope m_InvalidSpot) := ⟨rfl, rfl, rfl, by decide +kernel, rfl, by decide +kernel, by decide +kernel⟩
theorem b_InvalidSpot {f C : Addr} {fd : FuncData} (F : Fun K "__init__" "InvalidSpot.__init__" m_InvalidSpot f fd) (T : OexK K C) (no : ∀ f ∈ (["value"] : List Str), PySem.W.findIn K (.ref C) f = some none) : FnG P w K mg base CX0 1 f fd ["self", "value"] (spIni C ["value"]) := by
  refine okG0 F sc_InvalidSpot (fun vs H Q E h => ?_) (fun cdv A outer s H vs Q E hg hr h => ?_)
  · obtain ⟨a, ws, rfl, hl, _⟩ := h
    rw [List.length_cons, hl]
    rfl
  · obtain ⟨a, ws, rfl, hl, ha, k0, k⟩ := h
    match ws, hl with
    | [y], _ => exact ⟨_, (pss_one (ps_osk (pv 0) (pv 1))), _, rfl, _, rfl, a, C, rfl, T, no _ (by simp), .inl ⟨ha, fun dx n ne => k (by simp) dx n ne⟩⟩
theorem c_InvalidSpot {h : Heap} {f C : Addr} {fd : FuncData} {tl : List Value} (KX : K.In h) (G : h.Ns mainGlobals mg) (E : ExcTxt K "InvalidSpot" "InvalidSpot.__init__" m_InvalidSpot C f fd ["value"] tl) : ClsI P w K mg base 1 "InvalidSpot" C ["value"] :=
  .of1 E KX G (b_InvalidSpot E.fn E.T E.no) (fun _ _ _ _ _ _ _ _ => rfl) (fun _ _ _ _ _ _ _ _ => rfl)
abbrev m_InvalidHand : Stmt := mtd (top 7) 0
theorem sc_InvalidHand : FnScope ["self", "value"] ["self", "value"] (defScope m_InvalidHand) := ⟨rfl, rfl, rfl, by decide +kernel, rfl, by decide +kernel, by decide +kernel⟩
theorem b_InvalidHand {f C : Addr} {fd : FuncData} (F : Fun K "__init__" "InvalidHand.__init__" m_InvalidHand f fd) (T : OexK K C) (no : ∀ f ∈ (["value"] : List Str), PySem.W.findIn K (.ref C) f = some none) : FnG P w K mg base CX0 1 f fd ["self", "value"] (spIni C ["value"]) := by
  refine okG0 F sc_InvalidHand (fun vs H Q E h => ?_) (fun cdv A outer s H vs Q E hg hr h => ?_)
  · obtain ⟨a, ws, rfl, hl, _⟩ := h
    rw [List.length_cons, hl]
    rfl
  · obtain ⟨a, ws, rfl, hl, ha, k0, k⟩ := h
    match ws, hl with
    | [y], _ => exact ⟨_, (pss_one (ps_osk (pv 0) (pv 1))), _, rfl, _, rfl, a, C, rfl, T, no _ (by simp), .inl ⟨ha, fun dx n ne => k (by simp) dx n ne⟩⟩
theorem c_InvalidHand {h : Heap} {f C : Addr} {fd : FuncData} {tl : List Value} (KX : K.In h) (G : h.Ns mainGlobals mg) (E : ExcTxt K "InvalidHand" "InvalidHand.__init__" m_InvalidHand C f fd ["value"] tl) : ClsI P w K mg base 1 "InvalidHand" C ["value"] :=
  .of1 E KX G (b_InvalidHand E.fn E.T E.no) (fun _ _ _ _ _ _ _ _ => rfl) (fun _ _ _ _ _ _ _ _ => rfl)
abbrev m_InvalidFiles : Stmt := mtd (top 8) 0
theorem sc_InvalidFiles : FnScope ["self", "value"] ["self", "value"] (defScope m_InvalidFiles) := ⟨rfl, rfl, rfl, by decide +kernel, rfl, by decide +kernel, by decide +kernel⟩
theorem b_InvalidFiles {f C : Addr} {fd : FuncData} (F : Fun K "__init__" "InvalidFiles.__init__" m_InvalidFiles f fd) (T : OexK K C) (no : ∀ f ∈ (["value"] : List Str), PySem.W.findIn K (.ref C) f = some none) : FnG P w K mg base CX0 1 f fd ["self", "value"] (spIni C ["value"]) := by
  refine okG0 F sc_InvalidFiles (fun vs H Q E h => ?_) (fun cdv A outer s H vs Q E hg hr h => ?_)
  · obtain ⟨a, ws, rfl, hl, _⟩ := h
    rw [List.length_cons, hl]
    rfl
  · obtain ⟨a, ws, rfl, hl, ha, k0, k⟩ := h
    match ws, hl with
    | [y], _ => exact ⟨_, (pss_one (ps_osk (pv 0) (pv 1))), _, rfl, _, rfl, a, C, rfl, T, no _ (by simp), .inl ⟨ha, fun dx n ne => k (by simp) dx n ne⟩⟩
theorem c_InvalidFiles {h : Heap} {f C : Addr} {fd : FuncData} {tl : List Value} (KX : K.In h) (G : h.Ns mainGlobals mg) (E : ExcTxt K "InvalidFiles" "InvalidFiles.__init__" m_InvalidFiles C f fd ["value"] tl) : ClsI P w K mg base 1 "InvalidFiles" C ["value"] :=
  .of1 E KX G (b_InvalidFiles E.fn E.T E.no) (fun _ _ _ _ _ _ _ _ => rfl) (fun _ _ _ _ _ _ _ _ => rfl)
abbrev m_InvalidName : Stmt := mtd (top 9) 0
theorem sc_InvalidName : FnScope ["self", "value"] ["self", "value"] (defScope m_InvalidName) := ⟨rfl, rfl, rfl, by decide +kernel, rfl, by decide +kernel, by decide +kernel⟩
theorem b_InvalidName {f C : Addr} {fd : FuncData} (F : Fun K "__init__" "InvalidName.__init__" m_InvalidName f fd) (T : OexK K C) (no : ∀ f ∈ (["value"] : List Str), PySem.W.findIn K (.ref C) f = some none) : FnG P w K mg base CX0 1 f fd ["self", "value"] (spIni C ["value"]) := by
  refine okG0 F sc_InvalidName (fun vs H Q E h => ?_) (fun cdv A outer s H vs Q E hg hr h => ?_)
  · obtain ⟨a, ws, rfl, hl, _⟩ := h
    rw [List.length_cons, hl]
    rfl
  · obtain ⟨a, ws, rfl, hl, ha, k0, k⟩ := h
    match ws, hl with
    | [y], _ => exact ⟨_, (pss_one (ps_osk (pv 0) (pv 1))), _, rfl, _, rfl, a, C, rfl, T, no _ (by simp), .inl ⟨ha, fun dx n ne => k (by simp) dx n ne⟩⟩
theorem c_InvalidName {h : Heap} {f C : Addr} {fd : FuncData} {tl : List Value} (KX : K.In h) (G : h.Ns mainGlobals mg) (E : ExcTxt K "InvalidName" "InvalidName.__init__" m_InvalidName C f fd ["value"] tl) : ClsI P w K mg base 1 "InvalidName" C ["value"] :=
  .of1 E KX G (b_InvalidName E.fn E.T E.no) (fun _ _ _ _ _ _ _ _ => rfl) (fun _ _ _ _ _ _ _ _ => rfl)
abbrev m_InvalidPart : Stmt := mtd (top 10) 0
theorem sc_InvalidPart : FnScope ["self", "index"] ["self", "index"] (defScope m_InvalidPart) := ⟨rfl, rfl, rfl, by decide +kernel, rfl, by decide +kernel, by decide +kernel⟩
theorem b_InvalidPart {f C : Addr} {fd : FuncData} (F : Fun K "__init__" "InvalidPart.__init__" m_InvalidPart f fd) (T : OexK K C) (no : ∀ f ∈ (["index"] : List Str), PySem.W.findIn K (.ref C) f = some none) : FnG P w K mg base CX0 1 f fd ["self", "index"] (spIni C ["index"]) := by
  refine okG0 F sc_InvalidPart (fun vs H Q E h => ?_) (fun cdv A outer s H vs Q E hg hr h => ?_)
  · obtain ⟨a, ws, rfl, hl, _⟩ := h
    rw [List.length_cons, hl]
    rfl
  · obtain ⟨a, ws, rfl, hl, ha, k0, k⟩ := h
    match ws, hl with
    | [y], _ => exact ⟨_, (pss_one (ps_osk (pv 0) (pv 1))), _, rfl, _, rfl, a, C, rfl, T, no _ (by simp), .inl ⟨ha, fun dx n ne => k (by simp) dx n ne⟩⟩
theorem c_InvalidPart {h : Heap} {f C : Addr} {fd : FuncData} {tl : List Value} (KX : K.In h) (G : h.Ns mainGlobals mg) (E : ExcTxt K "InvalidPart" "InvalidPart.__init__" m_InvalidPart C f fd ["index"] tl) : ClsI P w K mg base 1 "InvalidPart" C ["index"] :=
  .of1 E KX G (b_InvalidPart E.fn E.T E.no) (fun _ _ _ _ _ _ _ _ => rfl) (fun _ _ _ _ _ _ _ _ => rfl)
abbrev m_InvalidEdit : Stmt := mtd (top 11) 0
theorem sc_InvalidEdit : FnScope ["self", "index"] ["self", "index"] (defScope m_InvalidEdit) := ⟨rfl, rfl, rfl, by decide +kernel, rfl, by decide +kernel, by decide +kernel⟩
theorem b_InvalidEdit {f C : Addr} {fd : FuncData} (F : Fun K "__init__" "InvalidEdit.__init__" m_InvalidEdit f fd) (T : OexK K C) (no : ∀ f ∈ (["index"] : List Str), PySem.W.findIn K (.ref C) f = some none) : FnG P w K mg base CX0 1 f fd ["self", "index"] (spIni C ["index"]) := by
  refine okG0 F sc_InvalidEdit (fun vs H Q E h => ?_) (fun cdv A outer s H vs Q E hg hr h => ?_)
  · obtain ⟨a, ws, rfl, hl, _⟩ := h
    rw [List.length_cons, hl]
    rfl
  · obtain ⟨a, ws, rfl, hl, ha, k0, k⟩ := h
    match ws, hl with
    | [y], _ => exact ⟨_, (pss_one (ps_osk (pv 0) (pv 1))), _, rfl, _, rfl, a, C, rfl, T, no _ (by simp), .inl ⟨ha, fun dx n ne => k (by simp) dx n ne⟩⟩
theorem c_InvalidEdit {h : Heap} {f C : Addr} {fd : FuncData} {tl : List Value} (KX : K.In h) (G : h.Ns mainGlobals mg) (E : ExcTxt K "InvalidEdit" "InvalidEdit.__init__" m_InvalidEdit C f fd ["index"] tl) : ClsI P w K mg base 1 "InvalidEdit" C ["index"] :=
  .of1 E KX G (b_InvalidEdit E.fn E.T E.no) (fun _ _ _ _ _ _ _ _ => rfl) (fun _ _ _ _ _ _ _ _ => rfl)
abbrev m_InvalidChange : Stmt := mtd (top 12) 0
theorem sc_InvalidChange : FnScope ["self", "index"] ["self", "index"] (defScope m_InvalidChange) := ⟨rfl, rfl, rfl, by decide +kernel, rfl, by decide +kernel, by decide +kernel⟩
theorem b_InvalidChange {f C : Addr} {fd : FuncData} (F : Fun K "__init__" "InvalidChange.__init__" m_InvalidChange f fd) (T : OexK K C) (no : ∀ f ∈ (["index"] : List Str), PySem.W.findIn K (.ref C) f = some none) : FnG P w K mg base CX0 1 f fd ["self", "index"] (spIni C ["index"]) := by
  refine okG0 F sc_InvalidChange (fun vs H Q E h => ?_) (fun cdv A outer s H vs Q E hg hr h => ?_)
  · obtain ⟨a, ws, rfl, hl, _⟩ := h
    rw [List.length_cons, hl]
    rfl
  · obtain ⟨a, ws, rfl, hl, ha, k0, k⟩ := h
    match ws, hl with
    | [y], _ => exact ⟨_, (pss_one (ps_osk (pv 0) (pv 1))), _, rfl, _, rfl, a, C, rfl, T, no _ (by simp), .inl ⟨ha, fun dx n ne => k (by simp) dx n ne⟩⟩
theorem c_InvalidChange {h : Heap} {f C : Addr} {fd : FuncData} {tl : List Value} (KX : K.In h) (G : h.Ns mainGlobals mg) (E : ExcTxt K "InvalidChange" "InvalidChange.__init__" m_InvalidChange C f fd ["index"] tl) : ClsI P w K mg base 1 "InvalidChange" C ["index"] :=
  .of1 E KX G (b_InvalidChange E.fn E.T E.no) (fun _ _ _ _ _ _ _ _ => rfl) (fun _ _ _ _ _ _ _ _ => rfl)
abbrev m_InvalidProgram : Stmt := mtd (top 13) 0
theorem sc_InvalidProgram : FnScope ["self", "index"] ["self", "index"] (defScope m_InvalidProgram) := ⟨rfl, rfl, rfl, by decide +kernel, rfl, by decide +kernel, by decide +kernel⟩
theorem b_InvalidProgram {f C : Addr} {fd : FuncData} (F : Fun K "__init__" "InvalidProgram.__init__" m_InvalidProgram f fd) (T : OexK K C) (no : ∀ f ∈ (["index"] : List Str), PySem.W.findIn K (.ref C) f = some none) : FnG P w K mg base CX0 1 f fd ["self", "index"] (spIni C ["index"]) := by
  refine okG0 F sc_InvalidProgram (fun vs H Q E h => ?_) (fun cdv A outer s H vs Q E hg hr h => ?_)
  · obtain ⟨a, ws, rfl, hl, _⟩ := h
    rw [List.length_cons, hl]
    rfl
  · obtain ⟨a, ws, rfl, hl, ha, k0, k⟩ := h
    match ws, hl with
    | [y], _ => exact ⟨_, (pss_one (ps_osk (pv 0) (pv 1))), _, rfl, _, rfl, a, C, rfl, T, no _ (by simp), .inl ⟨ha, fun dx n ne => k (by simp) dx n ne⟩⟩
theorem c_InvalidProgram {h : Heap} {f C : Addr} {fd : FuncData} {tl : List Value} (KX : K.In h) (G : h.Ns mainGlobals mg) (E : ExcTxt K "InvalidProgram" "InvalidProgram.__init__" m_InvalidProgram C f fd ["index"] tl) : ClsI P w K mg base 1 "InvalidProgram" C ["index"] :=
  .of1 E KX G (b_InvalidProgram E.fn E.T E.no) (fun _ _ _ _ _ _ _ _ => rfl) (fun _ _ _ _ _ _ _ _ => rfl)
abbrev m_InvalidRun : Stmt := mtd (top 14) 0
theorem sc_InvalidRun : FnScope ["self", "index"] ["self", "index"] (defScope m_InvalidRun) := ⟨rfl, rfl, rfl, by decide +kernel, rfl, by decide +kernel, by decide +kernel⟩
theorem b_InvalidRun {f C : Addr} {fd : FuncData} (F : Fun K "__init__" "InvalidRun.__init__" m_InvalidRun f fd) (T : OexK K C) (no : ∀ f ∈ (["index"] : List Str), PySem.W.findIn K (.ref C) f = some none) : FnG P w K mg base CX0 1 f fd ["self", "index"] (spIni C ["index"]) := by
  refine okG0 F sc_InvalidRun (fun vs H Q E h => ?_) (fun cdv A outer s H vs Q E hg hr h => ?_)
  · obtain ⟨a, ws, rfl, hl, _⟩ := h
    rw [List.length_cons, hl]
    rfl
  · obtain ⟨a, ws, rfl, hl, ha, k0, k⟩ := h
    match ws, hl with
    | [y], _ => exact ⟨_, (pss_one (ps_osk (pv 0) (pv 1))), _, rfl, _, rfl, a, C, rfl, T, no _ (by simp), .inl ⟨ha, fun dx n ne => k (by simp) dx n ne⟩⟩
theorem c_InvalidRun {h : Heap} {f C : Addr} {fd : FuncData} {tl : List Value} (KX : K.In h) (G : h.Ns mainGlobals mg) (E : ExcTxt K "InvalidRun" "InvalidRun.__init__" m_InvalidRun C f fd ["index"] tl) : ClsI P w K mg base 1 "InvalidRun" C ["index"] :=
  .of1 E KX G (b_InvalidRun E.fn E.T E.no) (fun _ _ _ _ _ _ _ _ => rfl) (fun _ _ _ _ _ _ _ _ => rfl)
abbrev m_NoExchange : Stmt := mtd (top 15) 0
theorem sc_NoExchange : FnScope ["self", "index"] ["self", "index"] (defScope m_NoExchange) := ⟨rfl, rfl, rfl, by decide +kernel, rfl, by decide +kernel, by decide +kernel⟩
theorem b_NoExchange {f C : Addr} {fd : FuncData} (F : Fun K "__init__" "NoExchange.__init__" m_NoExchange f fd) (T : OexK K C) (no : ∀ f ∈ (["index"] : List Str), PySem.W.findIn K (.ref C) f = some none) : FnG P w K mg base CX0 1 f fd ["self", "index"] (spIni C ["index"]) := by
  refine okG0 F sc_NoExchange (fun vs H Q E h => ?_) (fun cdv A outer s H vs Q E hg hr h => ?_)
  · obtain ⟨a, ws, rfl, hl, _⟩ := h
    rw [List.length_cons, hl]
    rfl
  · obtain ⟨a, ws, rfl, hl, ha, k0, k⟩ := h
    match ws, hl with
    | [y], _ => exact ⟨_, (pss_one (ps_osk (pv 0) (pv 1))), _, rfl, _, rfl, a, C, rfl, T, no _ (by simp), .inl ⟨ha, fun dx n ne => k (by simp) dx n ne⟩⟩
theorem c_NoExchange {h : Heap} {f C : Addr} {fd : FuncData} {tl : List Value} (KX : K.In h) (G : h.Ns mainGlobals mg) (E : ExcTxt K "NoExchange" "NoExchange.__init__" m_NoExchange C f fd ["index"] tl) : ClsI P w K mg base 1 "NoExchange" C ["index"] :=
  .of1 E KX G (b_NoExchange E.fn E.T E.no) (fun _ _ _ _ _ _ _ _ => rfl) (fun _ _ _ _ _ _ _ _ => rfl)
abbrev m_NoMirror : Stmt := mtd (top 16) 0
theorem sc_NoMirror : FnScope ["self", "index"] ["self", "index"] (defScope m_NoMirror) := ⟨rfl, rfl, rfl, by decide +kernel, rfl, by decide +kernel, by decide +kernel⟩
theorem b_NoMirror {f C : Addr} {fd : FuncData} (F : Fun K "__init__" "NoMirror.__init__" m_NoMirror f fd) (T : OexK K C) (no : ∀ f ∈ (["index"] : List Str), PySem.W.findIn K (.ref C) f = some none) : FnG P w K mg base CX0 1 f fd ["self", "index"] (spIni C ["index"]) := by
  refine okG0 F sc_NoMirror (fun vs H Q E h => ?_) (fun cdv A outer s H vs Q E hg hr h => ?_)
  · obtain ⟨a, ws, rfl, hl, _⟩ := h
    rw [List.length_cons, hl]
    rfl
  · obtain ⟨a, ws, rfl, hl, ha, k0, k⟩ := h
    match ws, hl with
    | [y], _ => exact ⟨_, (pss_one (ps_osk (pv 0) (pv 1))), _, rfl, _, rfl, a, C, rfl, T, no _ (by simp), .inl ⟨ha, fun dx n ne => k (by simp) dx n ne⟩⟩
theorem c_NoMirror {h : Heap} {f C : Addr} {fd : FuncData} {tl : List Value} (KX : K.In h) (G : h.Ns mainGlobals mg) (E : ExcTxt K "NoMirror" "NoMirror.__init__" m_NoMirror C f fd ["index"] tl) : ClsI P w K mg base 1 "NoMirror" C ["index"] :=
  .of1 E KX G (b_NoMirror E.fn E.T E.no) (fun _ _ _ _ _ _ _ _ => rfl) (fun _ _ _ _ _ _ _ _ => rfl)
abbrev m_NoBack : Stmt := mtd (top 17) 0
theorem sc_NoBack : FnScope ["self", "index"] ["self", "index"] (defScope m_NoBack) := ⟨rfl, rfl, rfl, by decide +kernel, rfl, by decide +kernel, by decide +kernel⟩
theorem b_NoBack {f C : Addr} {fd : FuncData} (F : Fun K "__init__" "NoBack.__init__" m_NoBack f fd) (T : OexK K C) (no : ∀ f ∈ (["index"] : List Str), PySem.W.findIn K (.ref C) f = some none) : FnG P w K mg base CX0 1 f fd ["self", "index"] (spIni C ["index"]) := by
  refine okG0 F sc_NoBack (fun vs H Q E h => ?_) (fun cdv A outer s H vs Q E hg hr h => ?_)
  · obtain ⟨a, ws, rfl, hl, _⟩ := h
    rw [List.length_cons, hl]
    rfl
  · obtain ⟨a, ws, rfl, hl, ha, k0, k⟩ := h
    match ws, hl with
    | [y], _ => exact ⟨_, (pss_one (ps_osk (pv 0) (pv 1))), _, rfl, _, rfl, a, C, rfl, T, no _ (by simp), .inl ⟨ha, fun dx n ne => k (by simp) dx n ne⟩⟩
theorem c_NoBack {h : Heap} {f C : Addr} {fd : FuncData} {tl : List Value} (KX : K.In h) (G : h.Ns mainGlobals mg) (E : ExcTxt K "NoBack" "NoBack.__init__" m_NoBack C f fd ["index"] tl) : ClsI P w K mg base 1 "NoBack" C ["index"] :=
  .of1 E KX G (b_NoBack E.fn E.T E.no) (fun _ _ _ _ _ _ _ _ => rfl) (fun _ _ _ _ _ _ _ _ => rfl)
abbrev m_Unbounded : Stmt := mtd (top 18) 0
theorem sc_Unbounded : FnScope ["self", "index"] ["self", "index"] (defScope m_Unbounded) := ⟨rfl, rfl, rfl, by decide +kernel, rfl, by decide +kernel, by decide +kernel⟩
theorem b_Unbounded {f C : Addr} {fd : FuncData} (F : Fun K "__init__" "Unbounded.__init__" m_Unbounded f fd) (T : OexK K C) (no : ∀ f ∈ (["index"] : List Str), PySem.W.findIn K (.ref C) f = some none) : FnG P w K mg base CX0 1 f fd ["self", "index"] (spIni C ["index"]) := by
  refine okG0 F sc_Unbounded (fun vs H Q E h => ?_) (fun cdv A outer s H vs Q E hg hr h => ?_)
  · obtain ⟨a, ws, rfl, hl, _⟩ := h
    rw [List.length_cons, hl]
    rfl
  · obtain ⟨a, ws, rfl, hl, ha, k0, k⟩ := h
    match ws, hl with
    | [y], _ => exact ⟨_, (pss_one (ps_osk (pv 0) (pv 1))), _, rfl, _, rfl, a, C, rfl, T, no _ (by simp), .inl ⟨ha, fun dx n ne => k (by simp) dx n ne⟩⟩
theorem c_Unbounded {h : Heap} {f C : Addr} {fd : FuncData} {tl : List Value} (KX : K.In h) (G : h.Ns mainGlobals mg) (E : ExcTxt K "Unbounded" "Unbounded.__init__" m_Unbounded C f fd ["index"] tl) : ClsI P w K mg base 1 "Unbounded" C ["index"] :=
  .of1 E KX G (b_Unbounded E.fn E.T E.no) (fun _ _ _ _ _ _ _ _ => rfl) (fun _ _ _ _ _ _ _ _ => rfl)
abbrev m_Unreadable : Stmt := mtd (top 19) 0
theorem sc_Unreadable : FnScope ["self", "index"] ["self", "index"] (defScope m_Unreadable) := ⟨rfl, rfl, rfl, by decide +kernel, rfl, by decide +kernel, by decide +kernel⟩
theorem b_Unreadable {f C : Addr} {fd : FuncData} (F : Fun K "__init__" "Unreadable.__init__" m_Unreadable f fd) (T : OexK K C) (no : ∀ f ∈ (["index"] : List Str), PySem.W.findIn K (.ref C) f = some none) : FnG P w K mg base CX0 1 f fd ["self", "index"] (spIni C ["index"]) := by
  refine okG0 F sc_Unreadable (fun vs H Q E h => ?_) (fun cdv A outer s H vs Q E hg hr h => ?_)
  · obtain ⟨a, ws, rfl, hl, _⟩ := h
    rw [List.length_cons, hl]
    rfl
  · obtain ⟨a, ws, rfl, hl, ha, k0, k⟩ := h
    match ws, hl with
    | [y], _ => exact ⟨_, (pss_one (ps_osk (pv 0) (pv 1))), _, rfl, _, rfl, a, C, rfl, T, no _ (by simp), .inl ⟨ha, fun dx n ne => k (by simp) dx n ne⟩⟩
theorem c_Unreadable {h : Heap} {f C : Addr} {fd : FuncData} {tl : List Value} (KX : K.In h) (G : h.Ns mainGlobals mg) (E : ExcTxt K "Unreadable" "Unreadable.__init__" m_Unreadable C f fd ["index"] tl) : ClsI P w K mg base 1 "Unreadable" C ["index"] :=
  .of1 E KX G (b_Unreadable E.fn E.T E.no) (fun _ _ _ _ _ _ _ _ => rfl) (fun _ _ _ _ _ _ _ _ => rfl)
abbrev m_InvalidRow : Stmt := mtd (top 20) 0
theorem sc_InvalidRow : FnScope ["self", "row"] ["self", "row"] (defScope m_InvalidRow) := ⟨rfl, rfl, rfl, by decide +kernel, rfl, by decide +kernel, by decide +kernel⟩
theorem b_InvalidRow {f C : Addr} {fd : FuncData} (F : Fun K "__init__" "InvalidRow.__init__" m_InvalidRow f fd) (T : OexK K C) (no : ∀ f ∈ (["row"] : List Str), PySem.W.findIn K (.ref C) f = some none) : FnG P w K mg base CX0 1 f fd ["self", "row"] (spIni C ["row"]) := by
  refine okG0 F sc_InvalidRow (fun vs H Q E h => ?_) (fun cdv A outer s H vs Q E hg hr h => ?_)
  · obtain ⟨a, ws, rfl, hl, _⟩ := h
    rw [List.length_cons, hl]
    rfl
  · obtain ⟨a, ws, rfl, hl, ha, k0, k⟩ := h
    match ws, hl with
    | [y], _ => exact ⟨_, (pss_one (ps_osk (pv 0) (pv 1))), _, rfl, _, rfl, a, C, rfl, T, no _ (by simp), .inl ⟨ha, fun dx n ne => k (by simp) dx n ne⟩⟩
theorem c_InvalidRow {h : Heap} {f C : Addr} {fd : FuncData} {tl : List Value} (KX : K.In h) (G : h.Ns mainGlobals mg) (E : ExcTxt K "InvalidRow" "InvalidRow.__init__" m_InvalidRow C f fd ["row"] tl) : ClsI P w K mg base 1 "InvalidRow" C ["row"] :=
  .of1 E KX G (b_InvalidRow E.fn E.T E.no) (fun _ _ _ _ _ _ _ _ => rfl) (fun _ _ _ _ _ _ _ _ => rfl)
abbrev m_Unlike : Stmt := mtd (top 21) 0
theorem sc_Unlike : FnScope ["self"] ["self"] (defScope m_Unlike) := ⟨rfl, rfl, rfl, by decide +kernel, rfl, by decide +kernel, by decide +kernel⟩
theorem b_Unlike {f C : Addr} {fd : FuncData} (F : Fun K "__init__" "Unlike.__init__" m_Unlike f fd) (T : OexK K C) (no : ∀ f ∈ ([] : List Str), PySem.W.findIn K (.ref C) f = some none) : FnG P w K mg base CX0 1 f fd ["self"] (spIni C []) := by
  refine okG0 F sc_Unlike (fun vs H Q E h => ?_) (fun cdv A outer s H vs Q E hg hr h => ?_)
  · obtain ⟨a, ws, rfl, hl, _⟩ := h
    rw [List.length_cons, hl]
    rfl
  · obtain ⟨a, ws, rfl, hl, ha, k0, k⟩ := h
    match ws, hl with
    | [], _ => exact ⟨_, (pss_one ps_pass), k0 rfl⟩
theorem c_Unlike {h : Heap} {f C : Addr} {fd : FuncData} {tl : List Value} (KX : K.In h) (G : h.Ns mainGlobals mg) (E : ExcTxt K "Unlike" "Unlike.__init__" m_Unlike C f fd [] tl) : ClsI P w K mg base 1 "Unlike" C [] :=
  .of0 E KX G (b_Unlike E.fn E.T E.no) (fun _ _ _ _ _ _ _ => rfl)
abbrev m_NoPlace : Stmt := mtd (top 22) 0
theorem sc_NoPlace : FnScope ["self", "index", "number"] ["self", "index", "number"] (defScope m_NoPlace) := ⟨rfl, rfl, rfl, by decide +kernel, rfl, by decide +kernel, by decide +kernel⟩
theorem b_NoPlace {f C : Addr} {fd : FuncData} (F : Fun K "__init__" "NoPlace.__init__" m_NoPlace f fd) (T : OexK K C) (no : ∀ f ∈ (["index", "number"] : List Str), PySem.W.findIn K (.ref C) f = some none) : FnG P w K mg base CX0 1 f fd ["self", "index", "number"] (spIni C ["index", "number"]) := by
  refine okG0 F sc_NoPlace (fun vs H Q E h => ?_) (fun cdv A outer s H vs Q E hg hr h => ?_)
  · obtain ⟨a, ws, rfl, hl, _⟩ := h
    rw [List.length_cons, hl]
    rfl
  · obtain ⟨a, ws, rfl, hl, ha, k0, k⟩ := h
    match ws, hl with
    | [y, z], _ =>
      refine ⟨_, (pss_cons (ps_osk (pv 0) (pv 1)) (pss_one (ps_osk (pv 0) (pv 2)))), _, rfl, _, rfl, a, C, rfl, T, no _ (by simp), .inl ⟨ha, fun dx n ne => ?_⟩⟩
      refine ⟨_, rfl, _, rfl, a, C, rfl, T, no _ (by simp), .inr ⟨dx, _, upd_same, (upd_ne ne).trans upd_same, Nat.le_of_ble_eq_true rfl, ?_⟩⟩
      have q := k (by simp) dx n ne
      rw [← two_upd ne] at q
      exact q
theorem c_NoPlace {h : Heap} {f C : Addr} {fd : FuncData} {tl : List Value} (KX : K.In h) (G : h.Ns mainGlobals mg) (E : ExcTxt K "NoPlace" "NoPlace.__init__" m_NoPlace C f fd ["index", "number"] tl) : ClsI P w K mg base 1 "NoPlace" C ["index", "number"] :=
  .of2 E KX G (b_NoPlace E.fn E.T E.no) (fun _ _ _ _ _ _ _ _ _ => rfl) (fun _ _ _ _ _ _ _ _ _ => rfl)
abbrev m_Overlap : Stmt := mtd (top 23) 0
theorem sc_Overlap : FnScope ["self", "index"] ["self", "index"] (defScope m_Overlap) := ⟨rfl, rfl, rfl, by decide +kernel, rfl, by decide +kernel, by decide +kernel⟩
theorem b_Overlap {f C : Addr} {fd : FuncData} (F : Fun K "__init__" "Overlap.__init__" m_Overlap f fd) (T : OexK K C) (no : ∀ f ∈ (["index"] : List Str), PySem.W.findIn K (.ref C) f = some none) : FnG P w K mg base CX0 1 f fd ["self", "index"] (spIni C ["index"]) := by
  refine okG0 F sc_Overlap (fun vs H Q E h => ?_) (fun cdv A outer s H vs Q E hg hr h => ?_)
  · obtain ⟨a, ws, rfl, hl, _⟩ := h
    rw [List.length_cons, hl]
    rfl
  · obtain ⟨a, ws, rfl, hl, ha, k0, k⟩ := h
    match ws, hl with
    | [y], _ => exact ⟨_, (pss_one (ps_osk (pv 0) (pv 1))), _, rfl, _, rfl, a, C, rfl, T, no _ (by simp), .inl ⟨ha, fun dx n ne => k (by simp) dx n ne⟩⟩
theorem c_Overlap {h : Heap} {f C : Addr} {fd : FuncData} {tl : List Value} (KX : K.In h) (G : h.Ns mainGlobals mg) (E : ExcTxt K "Overlap" "Overlap.__init__" m_Overlap C f fd ["index"] tl) : ClsI P w K mg base 1 "Overlap" C ["index"] :=
  .of1 E KX G (b_Overlap E.fn E.T E.no) (fun _ _ _ _ _ _ _ _ => rfl) (fun _ _ _ _ _ _ _ _ => rfl)
abbrev m_OutOfRange : Stmt := mtd (top 24) 0
theorem sc_OutOfRange : FnScope ["self", "value"] ["self", "value"] (defScope m_OutOfRange) := ⟨rfl, rfl, rfl, by decide +kernel, rfl, by decide +kernel, by decide +kernel⟩
theorem b_OutOfRange {f C : Addr} {fd : FuncData} (F : Fun K "__init__" "OutOfRange.__init__" m_OutOfRange f fd) (T : OexK K C) (no : ∀ f ∈ (["value"] : List Str), PySem.W.findIn K (.ref C) f = some none) : FnG P w K mg base CX0 1 f fd ["self", "value"] (spIni C ["value"]) := by
  refine okG0 F sc_OutOfRange (fun vs H Q E h => ?_) (fun cdv A outer s H vs Q E hg hr h => ?_)
  · obtain ⟨a, ws, rfl, hl, _⟩ := h
    rw [List.length_cons, hl]
    rfl
  · obtain ⟨a, ws, rfl, hl, ha, k0, k⟩ := h
    match ws, hl with
    | [y], _ => exact ⟨_, (pss_one (ps_osk (pv 0) (pv 1))), _, rfl, _, rfl, a, C, rfl, T, no _ (by simp), .inl ⟨ha, fun dx n ne => k (by simp) dx n ne⟩⟩
theorem c_OutOfRange {h : Heap} {f C : Addr} {fd : FuncData} {tl : List Value} (KX : K.In h) (G : h.Ns mainGlobals mg) (E : ExcTxt K "OutOfRange" "OutOfRange.__init__" m_OutOfRange C f fd ["value"] tl) : ClsI P w K mg base 1 "OutOfRange" C ["value"] :=
  .of1 E KX G (b_OutOfRange E.fn E.T E.no) (fun _ _ _ _ _ _ _ _ => rfl) (fun _ _ _ _ _ _ _ _ => rfl)
abbrev m_NoFile : Stmt := mtd (top 25) 0
theorem sc_NoFile : FnScope ["self", "name"] ["self", "name"] (defScope m_NoFile) := ⟨rfl, rfl, rfl, by decide +kernel, rfl, by decide +kernel, by decide +kernel⟩
theorem b_NoFile {f C : Addr} {fd : FuncData} (F : Fun K "__init__" "NoFile.__init__" m_NoFile f fd) (T : OexK K C) (no : ∀ f ∈ (["name"] : List Str), PySem.W.findIn K (.ref C) f = some none) : FnG P w K mg base CX0 1 f fd ["self", "name"] (spIni C ["name"]) := by
  refine okG0 F sc_NoFile (fun vs H Q E h => ?_) (fun cdv A outer s H vs Q E hg hr h => ?_)
  · obtain ⟨a, ws, rfl, hl, _⟩ := h
    rw [List.length_cons, hl]
    rfl
  · obtain ⟨a, ws, rfl, hl, ha, k0, k⟩ := h
    match ws, hl with
    | [y], _ => exact ⟨_, (pss_one (ps_osk (pv 0) (pv 1))), _, rfl, _, rfl, a, C, rfl, T, no _ (by simp), .inl ⟨ha, fun dx n ne => k (by simp) dx n ne⟩⟩
theorem c_NoFile {h : Heap} {f C : Addr} {fd : FuncData} {tl : List Value} (KX : K.In h) (G : h.Ns mainGlobals mg) (E : ExcTxt K "NoFile" "NoFile.__init__" m_NoFile C f fd ["name"] tl) : ClsI P w K mg base 1 "NoFile" C ["name"] :=
  .of1 E KX G (b_NoFile E.fn E.T E.no) (fun _ _ _ _ _ _ _ _ => rfl) (fun _ _ _ _ _ _ _ _ => rfl)
abbrev m_NoLabel : Stmt := mtd (top 26) 0
theorem sc_NoLabel : FnScope ["self", "label"] ["self", "label"] (defScope m_NoLabel) := ⟨rfl, rfl, rfl, by decide +kernel, rfl, by decide +kernel, by decide +kernel⟩
theorem b_NoLabel {f C : Addr} {fd : FuncData} (F : Fun K "__init__" "NoLabel.__init__" m_NoLabel f fd) (T : OexK K C) (no : ∀ f ∈ (["label"] : List Str), PySem.W.findIn K (.ref C) f = some none) : FnG P w K mg base CX0 1 f fd ["self", "label"] (spIni C ["label"]) := by
  refine okG0 F sc_NoLabel (fun vs H Q E h => ?_) (fun cdv A outer s H vs Q E hg hr h => ?_)
  · obtain ⟨a, ws, rfl, hl, _⟩ := h
    rw [List.length_cons, hl]
    rfl
  · obtain ⟨a, ws, rfl, hl, ha, k0, k⟩ := h
    match ws, hl with
    | [y], _ => exact ⟨_, (pss_one (ps_osk (pv 0) (pv 1))), _, rfl, _, rfl, a, C, rfl, T, no _ (by simp), .inl ⟨ha, fun dx n ne => k (by simp) dx n ne⟩⟩
theorem c_NoLabel {h : Heap} {f C : Addr} {fd : FuncData} {tl : List Value} (KX : K.In h) (G : h.Ns mainGlobals mg) (E : ExcTxt K "NoLabel" "NoLabel.__init__" m_NoLabel C f fd ["label"] tl) : ClsI P w K mg base 1 "NoLabel" C ["label"] :=
  .of1 E KX G (b_NoLabel E.fn E.T E.no) (fun _ _ _ _ _ _ _ _ => rfl) (fun _ _ _ _ _ _ _ _ => rfl)
abbrev m_TooMany : Stmt := mtd (top 27) 0
theorem sc_TooMany : FnScope ["self", "limit"] ["self", "limit"] (defScope m_TooMany) := ⟨rfl, rfl, rfl, by decide +kernel, rfl, by decide +kernel, by decide +kernel⟩
theorem b_TooMany {f C : Addr} {fd : FuncData} (F : Fun K "__init__" "TooMany.__init__" m_TooMany f fd) (T : OexK K C) (no : ∀ f ∈ (["limit"] : List Str), PySem.W.findIn K (.ref C) f = some none) : FnG P w K mg base CX0 1 f fd ["self", "limit"] (spIni C ["limit"]) := by
  refine okG0 F sc_TooMany (fun vs H Q E h => ?_) (fun cdv A outer s H vs Q E hg hr h => ?_)
  · obtain ⟨a, ws, rfl, hl, _⟩ := h
    rw [List.length_cons, hl]
    rfl
  · obtain ⟨a, ws, rfl, hl, ha, k0, k⟩ := h
    match ws, hl with
    | [y], _ => exact ⟨_, (pss_one (ps_osk (pv 0) (pv 1))), _, rfl, _, rfl, a, C, rfl, T, no _ (by simp), .inl ⟨ha, fun dx n ne => k (by simp) dx n ne⟩⟩
theorem c_TooMany {h : Heap} {f C : Addr} {fd : FuncData} {tl : List Value} (KX : K.In h) (G : h.Ns mainGlobals mg) (E : ExcTxt K "TooMany" "TooMany.__init__" m_TooMany C f fd ["limit"] tl) : ClsI P w K mg base 1 "TooMany" C ["limit"] :=
  .of1 E KX G (b_TooMany E.fn E.T E.no) (fun _ _ _ _ _ _ _ _ => rfl) (fun _ _ _ _ _ _ _ _ => rfl)
abbrev m_TooLong : Stmt := mtd (top 28) 0
theorem sc_TooLong : FnScope ["self", "limit"] ["self", "limit"] (defScope m_TooLong) := ⟨rfl, rfl, rfl, by decide +kernel, rfl, by decide +kernel, by decide +kernel⟩
theorem b_TooLong {f C : Addr} {fd : FuncData} (F : Fun K "__init__" "TooLong.__init__" m_TooLong f fd) (T : OexK K C) (no : ∀ f ∈ (["limit"] : List Str), PySem.W.findIn K (.ref C) f = some none) : FnG P w K mg base CX0 1 f fd ["self", "limit"] (spIni C ["limit"]) := by
  refine okG0 F sc_TooLong (fun vs H Q E h => ?_) (fun cdv A outer s H vs Q E hg hr h => ?_)
  · obtain ⟨a, ws, rfl, hl, _⟩ := h
    rw [List.length_cons, hl]
    rfl
  · obtain ⟨a, ws, rfl, hl, ha, k0, k⟩ := h
    match ws, hl with
    | [y], _ => exact ⟨_, (pss_one (ps_osk (pv 0) (pv 1))), _, rfl, _, rfl, a, C, rfl, T, no _ (by simp), .inl ⟨ha, fun dx n ne => k (by simp) dx n ne⟩⟩
theorem c_TooLong {h : Heap} {f C : Addr} {fd : FuncData} {tl : List Value} (KX : K.In h) (G : h.Ns mainGlobals mg) (E : ExcTxt K "TooLong" "TooLong.__init__" m_TooLong C f fd ["limit"] tl) : ClsI P w K mg base 1 "TooLong" C ["limit"] :=
  .of1 E KX G (b_TooLong E.fn E.T E.no) (fun _ _ _ _ _ _ _ _ => rfl) (fun _ _ _ _ _ _ _ _ => rfl)
abbrev m_NotRight : Stmt := mtd (top 29) 0
theorem sc_NotRight : FnScope ["self", "hand"] ["self", "hand"] (defScope m_NotRight) := ⟨rfl, rfl, rfl, by decide +kernel, rfl, by decide +kernel, by decide +kernel⟩
theorem b_NotRight {f C : Addr} {fd : FuncData} (F : Fun K "__init__" "NotRight.__init__" m_NotRight f fd) (T : OexK K C) (no : ∀ f ∈ (["hand"] : List Str), PySem.W.findIn K (.ref C) f = some none) : FnG P w K mg base CX0 1 f fd ["self", "hand"] (spIni C ["hand"]) := by
  refine okG0 F sc_NotRight (fun vs H Q E h => ?_) (fun cdv A outer s H vs Q E hg hr h => ?_)
  · obtain ⟨a, ws, rfl, hl, _⟩ := h
    rw [List.length_cons, hl]
    rfl
  · obtain ⟨a, ws, rfl, hl, ha, k0, k⟩ := h
    match ws, hl with
    | [y], _ => exact ⟨_, (pss_one (ps_osk (pv 0) (pv 1))), _, rfl, _, rfl, a, C, rfl, T, no _ (by simp), .inl ⟨ha, fun dx n ne => k (by simp) dx n ne⟩⟩
theorem c_NotRight {h : Heap} {f C : Addr} {fd : FuncData} {tl : List Value} (KX : K.In h) (G : h.Ns mainGlobals mg) (E : ExcTxt K "NotRight" "NotRight.__init__" m_NotRight C f fd ["hand"] tl) : ClsI P w K mg base 1 "NotRight" C ["hand"] :=
  .of1 E KX G (b_NotRight E.fn E.T E.no) (fun _ _ _ _ _ _ _ _ => rfl) (fun _ _ _ _ _ _ _ _ => rfl)
abbrev m_Clash : Stmt := mtd (top 30) 0
theorem sc_Clash : FnScope ["self", "hand", "other"] ["self", "hand", "other"] (defScope m_Clash) := ⟨rfl, rfl, rfl, by decide +kernel, rfl, by decide +kernel, by decide +kernel⟩
theorem b_Clash {f C : Addr} {fd : FuncData} (F : Fun K "__init__" "Clash.__init__" m_Clash f fd) (T : OexK K C) (no : ∀ f ∈ (["hand", "other"] : List Str), PySem.W.findIn K (.ref C) f = some none) : FnG P w K mg base CX0 1 f fd ["self", "hand", "other"] (spIni C ["hand", "other"]) := by
  refine okG0 F sc_Clash (fun vs H Q E h => ?_) (fun cdv A outer s H vs Q E hg hr h => ?_)
  · obtain ⟨a, ws, rfl, hl, _⟩ := h
    rw [List.length_cons, hl]
    rfl
  · obtain ⟨a, ws, rfl, hl, ha, k0, k⟩ := h
    match ws, hl with
    | [y, z], _ =>
      refine ⟨_, (pss_cons (ps_osk (pv 0) (pv 1)) (pss_one (ps_osk (pv 0) (pv 2)))), _, rfl, _, rfl, a, C, rfl, T, no _ (by simp), .inl ⟨ha, fun dx n ne => ?_⟩⟩
      refine ⟨_, rfl, _, rfl, a, C, rfl, T, no _ (by simp), .inr ⟨dx, _, upd_same, (upd_ne ne).trans upd_same, Nat.le_of_ble_eq_true rfl, ?_⟩⟩
      have q := k (by simp) dx n ne
      rw [← two_upd ne] at q
      exact q
theorem c_Clash {h : Heap} {f C : Addr} {fd : FuncData} {tl : List Value} (KX : K.In h) (G : h.Ns mainGlobals mg) (E : ExcTxt K "Clash" "Clash.__init__" m_Clash C f fd ["hand", "other"] tl) : ClsI P w K mg base 1 "Clash" C ["hand", "other"] :=
  .of2 E KX G (b_Clash E.fn E.T E.no) (fun _ _ _ _ _ _ _ _ _ => rfl) (fun _ _ _ _ _ _ _ _ _ => rfl)
abbrev m_FileNotRight : Stmt := mtd (top 31) 0
theorem sc_FileNotRight : FnScope ["self", "name", "index"] ["self", "name", "index"] (defScope m_FileNotRight) := ⟨rfl, rfl, rfl, by decide +kernel, rfl, by decide +kernel, by decide +kernel⟩
theorem b_FileNotRight {f C : Addr} {fd : FuncData} (F : Fun K "__init__" "FileNotRight.__init__" m_FileNotRight f fd) (T : OexK K C) (no : ∀ f ∈ (["name", "index"] : List Str), PySem.W.findIn K (.ref C) f = some none) : FnG P w K mg base CX0 1 f fd ["self", "name", "index"] (spIni C ["name", "index"]) := by
  refine okG0 F sc_FileNotRight (fun vs H Q E h => ?_) (fun cdv A outer s H vs Q E hg hr h => ?_)
  · obtain ⟨a, ws, rfl, hl, _⟩ := h
    rw [List.length_cons, hl]
    rfl
  · obtain ⟨a, ws, rfl, hl, ha, k0, k⟩ := h
    match ws, hl with
    | [y, z], _ =>
      refine ⟨_, (pss_cons (ps_osk (pv 0) (pv 1)) (pss_one (ps_osk (pv 0) (pv 2)))), _, rfl, _, rfl, a, C, rfl, T, no _ (by simp), .inl ⟨ha, fun dx n ne => ?_⟩⟩
      refine ⟨_, rfl, _, rfl, a, C, rfl, T, no _ (by simp), .inr ⟨dx, _, upd_same, (upd_ne ne).trans upd_same, Nat.le_of_ble_eq_true rfl, ?_⟩⟩
      have q := k (by simp) dx n ne
      rw [← two_upd ne] at q
      exact q
theorem c_FileNotRight {h : Heap} {f C : Addr} {fd : FuncData} {tl : List Value} (KX : K.In h) (G : h.Ns mainGlobals mg) (E : ExcTxt K "FileNotRight" "FileNotRight.__init__" m_FileNotRight C f fd ["name", "index"] tl) : ClsI P w K mg base 1 "FileNotRight" C ["name", "index"] :=
  .of2 E KX G (b_FileNotRight E.fn E.T E.no) (fun _ _ _ _ _ _ _ _ _ => rfl) (fun _ _ _ _ _ _ _ _ _ => rfl)
abbrev m_Apart : Stmt := mtd (top 32) 0
theorem sc_Apart : FnScope ["self", "name"] ["self", "name"] (defScope m_Apart) := ⟨rfl, rfl, rfl, by decide +kernel, rfl, by decide +kernel, by decide +kernel⟩
theorem b_Apart {f C : Addr} {fd : FuncData} (F : Fun K "__init__" "Apart.__init__" m_Apart f fd) (T : OexK K C) (no : ∀ f ∈ (["name"] : List Str), PySem.W.findIn K (.ref C) f = some none) : FnG P w K mg base CX0 1 f fd ["self", "name"] (spIni C ["name"]) := by
  refine okG0 F sc_Apart (fun vs H Q E h => ?_) (fun cdv A outer s H vs Q E hg hr h => ?_)
  · obtain ⟨a, ws, rfl, hl, _⟩ := h
    rw [List.length_cons, hl]
    rfl
  · obtain ⟨a, ws, rfl, hl, ha, k0, k⟩ := h
    match ws, hl with
    | [y], _ => exact ⟨_, (pss_one (ps_osk (pv 0) (pv 1))), _, rfl, _, rfl, a, C, rfl, T, no _ (by simp), .inl ⟨ha, fun dx n ne => k (by simp) dx n ne⟩⟩
theorem c_Apart {h : Heap} {f C : Addr} {fd : FuncData} {tl : List Value} (KX : K.In h) (G : h.Ns mainGlobals mg) (E : ExcTxt K "Apart" "Apart.__init__" m_Apart C f fd ["name"] tl) : ClsI P w K mg base 1 "Apart" C ["name"] :=
  .of1 E KX G (b_Apart E.fn E.T E.no) (fun _ _ _ _ _ _ _ _ => rfl) (fun _ _ _ _ _ _ _ _ => rfl)
abbrev m_Broken : Stmt := mtd (top 33) 0
theorem sc_Broken : FnScope ["self", "name"] ["self", "name"] (defScope m_Broken) := ⟨rfl, rfl, rfl, by decide +kernel, rfl, by decide +kernel, by decide +kernel⟩
theorem b_Broken {f C : Addr} {fd : FuncData} (F : Fun K "__init__" "Broken.__init__" m_Broken f fd) (T : OexK K C) (no : ∀ f ∈ (["name"] : List Str), PySem.W.findIn K (.ref C) f = some none) : FnG P w K mg base CX0 1 f fd ["self", "name"] (spIni C ["name"]) := by
  refine okG0 F sc_Broken (fun vs H Q E h => ?_) (fun cdv A outer s H vs Q E hg hr h => ?_)
  · obtain ⟨a, ws, rfl, hl, _⟩ := h
    rw [List.length_cons, hl]
    rfl
  · obtain ⟨a, ws, rfl, hl, ha, k0, k⟩ := h
    match ws, hl with
    | [y], _ => exact ⟨_, (pss_one (ps_osk (pv 0) (pv 1))), _, rfl, _, rfl, a, C, rfl, T, no _ (by simp), .inl ⟨ha, fun dx n ne => k (by simp) dx n ne⟩⟩
theorem c_Broken {h : Heap} {f C : Addr} {fd : FuncData} {tl : List Value} (KX : K.In h) (G : h.Ns mainGlobals mg) (E : ExcTxt K "Broken" "Broken.__init__" m_Broken C f fd ["name"] tl) : ClsI P w K mg base 1 "Broken" C ["name"] :=
  .of1 E KX G (b_Broken E.fn E.T E.no) (fun _ _ _ _ _ _ _ _ => rfl) (fun _ _ _ _ _ _ _ _ => rfl)
abbrev m_Unsafe : Stmt := mtd (top 34) 0
theorem sc_Unsafe : FnScope ["self", "name", "case"] ["self", "name", "case"] (defScope m_Unsafe) := ⟨rfl, rfl, rfl, by decide +kernel, rfl, by decide +kernel, by decide +kernel⟩
theorem b_Unsafe {f C : Addr} {fd : FuncData} (F : Fun K "__init__" "Unsafe.__init__" m_Unsafe f fd) (T : OexK K C) (no : ∀ f ∈ (["name", "case"] : List Str), PySem.W.findIn K (.ref C) f = some none) : FnG P w K mg base CX0 1 f fd ["self", "name", "case"] (spIni C ["name", "case"]) := by
  refine okG0 F sc_Unsafe (fun vs H Q E h => ?_) (fun cdv A outer s H vs Q E hg hr h => ?_)
  · obtain ⟨a, ws, rfl, hl, _⟩ := h
    rw [List.length_cons, hl]
    rfl
  · obtain ⟨a, ws, rfl, hl, ha, k0, k⟩ := h
    match ws, hl with
    | [y, z], _ =>
      refine ⟨_, (pss_cons (ps_osk (pv 0) (pv 1)) (pss_one (ps_osk (pv 0) (pv 2)))), _, rfl, _, rfl, a, C, rfl, T, no _ (by simp), .inl ⟨ha, fun dx n ne => ?_⟩⟩
      refine ⟨_, rfl, _, rfl, a, C, rfl, T, no _ (by simp), .inr ⟨dx, _, upd_same, (upd_ne ne).trans upd_same, Nat.le_of_ble_eq_true rfl, ?_⟩⟩
      have q := k (by simp) dx n ne
      rw [← two_upd ne] at q
      exact q
theorem c_Unsafe {h : Heap} {f C : Addr} {fd : FuncData} {tl : List Value} (KX : K.In h) (G : h.Ns mainGlobals mg) (E : ExcTxt K "Unsafe" "Unsafe.__init__" m_Unsafe C f fd ["name", "case"] tl) : ClsI P w K mg base 1 "Unsafe" C ["name", "case"] :=
  .of2 E KX G (b_Unsafe E.fn E.T E.no) (fun _ _ _ _ _ _ _ _ _ => rfl) (fun _ _ _ _ _ _ _ _ _ => rfl)
end
end Vk
set_option Elab.async false
set_option maxRecDepth 100000
set_option maxHeartbeats 4000000
set_option linter.all false
namespace Vk
open L2 PySem PySem.Spec PyProof.Rows PySem.VkX
abbrev names34 : List Str := [("InvalidOld" : Str), ("InvalidNew" : Str), ("InvalidText" : Str), ("InvalidTable" : Str), ("InvalidCount" : Str), ("InvalidSpot" : Str), ("InvalidHand" : Str), ("InvalidFiles" : Str), ("InvalidName" : Str), ("InvalidPart" : Str), ("InvalidEdit" : Str), ("InvalidChange" : Str), ("InvalidProgram" : Str), ("InvalidRun" : Str), ("NoExchange" : Str), ("NoMirror" : Str), ("NoBack" : Str), ("Unbounded" : Str), ("Unreadable" : Str), ("InvalidRow" : Str), ("Unlike" : Str), ("NoPlace" : Str), ("Overlap" : Str), ("OutOfRange" : Str), ("NoFile" : Str), ("NoLabel" : Str), ("TooMany" : Str), ("TooLong" : Str), ("NotRight" : Str), ("Clash" : Str), ("FileNotRight" : Str), ("Apart" : Str), ("Broken" : Str), ("Unsafe" : Str)]
/-- the sort that goes with the classes behind a class -/
inductive SortOf : List Value → Str → Prop
  | value : SortOf tlV "value"
  | lookup : SortOf tlL "lookup"
  | overflow : SortOf tlO "overflow"
  | runtime : SortOf tlR "runtime"
/-- an error of the package -/
structure Err (K : PySem.W.Frag) (H : Hp) (e : Addr) (x z : Str) : Prop where
  ex : ∃ C fs tl, ExV H e C fs ∧ OexK K C ∧ One K C x tl ∧ x ∈ names34 ∧ SortOf tl z
structure Row (K : PySem.W.Frag) (H : Hp) (v r : V) : Prop where
  ex : ∃ t e x z, r = .ref t ∧ H t = some (.tup [.ref e, v, v, .str z]) ∧ Err K H e x z
section
variable {K : PySem.W.Frag} {H H' H0 : Hp} {e q : Addr} {x z : Str} {v r : V} {C : Addr} {fs : List (Str × V)}
theorem ExV.keep (h : ExV H e C fs) (k : Same H H') : ExV H' e C fs := by
  rcases h with ⟨h1, h2⟩ | ⟨d, h1, h2⟩
  · exact .inl ⟨h1, k _ _ h2⟩
  · exact .inr ⟨d, k _ _ h1, k _ _ h2⟩
theorem Err.keep (h : Err K H e x z) (k : Same H H') : Err K H' e x z := by
  obtain ⟨C, fs, tl, h1, h2⟩ := h.ex
  exact ⟨C, fs, tl, h1.keep k, h2⟩
theorem Row.keep (h : Row K H v r) (k : Same H H') : Row K H' v r := by
  obtain ⟨t, e, x, z, h1, h2, h3⟩ := h.ex
  exact ⟨t, e, x, z, h1, k _ _ h2, h3.keep k⟩
theorem exo_lst {a C : Addr} {d : Option Addr} {xs : List V} : exo a C d ≠ .lst xs := fun z => by
  have w : HO.ext _ = HO.lst xs := z
  cases w
theorem exd_lst {a : Addr} {xs : List V} {fs : List (Str × V)} : exd a fs ≠ .lst xs := fun z => by
  have w : HO.ext _ = HO.lst xs := z
  cases w
theorem Row.put {xs ys : List V} (h : Row K H v r) (hq : H q = some (.lst xs)) : Row K (upd H q (.lst ys)) v r := by
  obtain ⟨t, e, x, z, h1, h2, C, fs, tl, h3, h4⟩ := h.ex
  have n1 : t ≠ q := fun z => by rw [z, hq] at h2; cases h2
  refine ⟨t, e, x, z, h1, (upd_ne n1).trans h2, C, fs, tl, ?_, h4⟩
  rcases h3 with ⟨g1, g2⟩ | ⟨d, g1, g2⟩
  · exact .inl ⟨g1, (upd_ne (at_ne hq g2 exo_lst.symm)).trans g2⟩
  · exact .inr ⟨d, (upd_ne (at_ne hq g1 exo_lst.symm)).trans g1, (upd_ne (at_ne hq g2 exd_lst.symm)).trans g2⟩
/-- the list at q holds n rows -/
structure Rws (K : PySem.W.Frag) (H0 H : Hp) (q : Addr) (v : V) (n : Nat) : Prop where
  new : H0 q = none
  same : Same H0 H
  ex : ∃ xs, H q = some (.lst xs) ∧ xs.length = n ∧ ∀ r ∈ xs, Row K H v r
def EvV (t : TE) (σ : L2.St) (B : Hp) (v : V) : Prop := ∀ H Q, Same B H → (∀ H', Same H H' → Q v H') → t σ H Q
def EvX (t : TE) (σ : L2.St) (B : Hp) (C : Addr) (fs : List (Str × V)) : Prop := ∀ H Q, Same B H → (∀ a H', Same H H' → ExV H' a C fs → Q (.ref a) H') → t σ H Q
theorem ev_var {B : Hp} {i : Nat} {σ : L2.St} (h : σ[i]? = some (some v)) : EvV (tVar i) σ B v := fun H Q _ q => ⟨v, h, q H Same.rfl⟩
theorem ev_int {B : Hp} {i : Int} {σ : L2.St} : EvV (tC (.int i)) σ B (.int i) := fun H Q _ q => q H Same.rfl
theorem ev_get {B : Hp} {f : Str} {t : TE} {σ : L2.St} {w : V} (T : OexK K C) (no : PySem.W.findIn K (.ref C) f = some none) (h : EvX t σ B C fs) (l : fs.lookup f = some w) : EvV (tXk K f t) σ B w := fun H Q b q => h H _ b fun a H1 s1 e => by
  rcases e with ⟨g1, g2⟩ | ⟨d, g1, g2⟩
  · rw [g1] at l
    cases l
  · exact ⟨a, C, d, fs, w, rfl, T, no, g1, g2, l, q H1 s1⟩
theorem ev_held {B : Hp} {σ : L2.St} {i : Nat} (h : σ[i]? = some (some (.ref e))) (x : ExV B e C fs) : EvX (tVar i) σ B C fs := fun H Q b q => ⟨_, h, q e H Same.rfl (x.keep b)⟩
theorem made_ev {fsn : List Str} {vs : List V} {Q : VK} (hf : fsn ≠ []) (q : ∀ a H', Same H H' → ExV H' a C (fsn.zip vs).reverse → Q (.ref a) H') : Made C fsn vs H Q := fun a ha => ⟨fun z => absurd z hf, fun _ d hd ne => by
  refine q a _ ((same_new hd).trans (same_new ?_)) (.inr ⟨d, upd_same, (upd_ne ne).trans upd_same⟩)
  rw [upd_ne ne.symm]
  exact ha⟩
section
variable {B : Hp} {f g : Str} {t u : TE} {σ : L2.St} {w : V}
theorem ev_mk1 (h : EvV t σ B v) : EvX (tMk C [f] (tCons t tNil)) σ B C [(f, v)] := fun H Q b q => h H _ b fun H1 s1 => ⟨rfl, made_ev (by simp) fun a H2 s2 e => q a H2 (s1.trans s2) e⟩
theorem ev_mkW1 (h : EvV t σ B v) : EvX (tMkW C [f] (tCons t tNil)) σ B C [(f, v)] := fun H Q b q => h H _ b fun H1 s1 => ⟨rfl, made_ev (by simp) fun a H2 s2 e => q a H2 (s1.trans s2) e⟩
theorem ev_mk2 (h : EvV t σ B v) (h2 : EvV u σ B w) : EvX (tMk C [f, g] (tCons t (tCons u tNil))) σ B C [(g, w), (f, v)] := fun H Q b q => h H _ b fun H1 s1 => h2 H1 _ (b.trans s1) fun H2 s2 => ⟨rfl, made_ev (by simp) fun a H3 s3 e => q a H3 ((s1.trans s2).trans s3) e⟩
theorem ev_mkW2 (h : EvV t σ B v) (h2 : EvV u σ B w) : EvX (tMkW C [f, g] (tCons t (tCons u tNil))) σ B C [(g, v), (f, w)] := fun H Q b q => h H _ b fun H1 s1 => h2 H1 _ (b.trans s1) fun H2 s2 => ⟨rfl, made_ev (by simp) fun a H3 s3 e => q a H3 ((s1.trans s2).trans s3) e⟩
theorem ev_mk0 : EvX (tMk C [] tNil) σ B C [] := fun H Q b q => ⟨rfl, fun a ha => ⟨fun _ => q a _ (same_new ha) (.inl ⟨rfl, upd_same⟩), fun z => absurd rfl z⟩⟩
end
/-- found.append((error, v, v, sort)) -/
theorem row_step {u : TS} {D : Ends} {σ : L2.St} {n : Nat} {tl : List Value} {t1 t2 t3 : TE} (e1 : EvX t1 σ H C fs) (e2 : EvV t2 σ H v) (e3 : EvV t3 σ H v) (T : OexK K C) (o : One K C x tl) (m : x ∈ names34) (s : SortOf tl z) (S : Rws K H0 H q v n) (hn : n ≤ 900) (hσ : σ[1]? = some (some (.ref q)))
    (k : ∀ H', (∀ a o, H a = some o → a ≠ q → H' a = some o) → Rws K H0 H' q v (n + 1) → u D σ H') : tSeq (tDrop (tBM K "list" rAppend (tVar 1) (tCons (tTup (tCons t1 (tCons t2 (tCons t3 (tCons (tC (.str z)) tNil))))) tNil))) u D σ H := by
  obtain ⟨new, same, xs, hq, hl, hx⟩ := S
  show ∃ v, σ[1]? = some (some v) ∧ _
  refine ⟨_, hσ, .inl ⟨rfl, _, SqL.of hq⟩, ?_⟩
  refine e1 H _ Same.rfl fun e H1 s1 ev => e2 H1 _ s1 fun H2 s2 => e3 H2 _ (s1.trans s2) fun H3 s3 => ⟨few_len (Nat.le_of_ble_eq_true rfl), fun t ht => ?_⟩
  have s4 : Same H (upd H3 t (.tup [.ref e, v, v, .str z])) := ((s1.trans s2).trans s3).trans (same_new ht)
  have s5 : Same H1 (upd H3 t (.tup [.ref e, v, v, .str z])) := (s2.trans s3).trans (same_new ht)
  refine ⟨q, xs, .ref t, rfl, rfl, s4 _ _ hq, Nat.lt_of_le_of_lt (Nat.le_of_eq hl) (Nat.lt_of_le_of_lt hn (by rw [sizeLine_eq]; decide)), ?_⟩
  refine k _ (fun a o ha ne => (upd_ne ne).trans (s4 _ _ ha)) ⟨new, fun a o ha => ?_, _, upd_same, by rw [List.length_append, hl]; rfl, fun r hr => ?_⟩
  · rw [upd_ne (ne_of_none ha new)]
    exact s4 _ _ (same _ _ ha)
  · rcases List.mem_append.mp hr with hr | hr
    · exact ((hx r hr).keep s4).put (s4 _ _ hq)
    · rw [List.mem_singleton] at hr
      subst hr
      exact Row.put (xs := xs) ⟨t, e, x, z, rfl, upd_same, ⟨C, fs, tl, ev.keep s5, T, o, m, s⟩⟩ (s4 _ _ hq)
end
end Vk
namespace Vk
open L2 PySem PySem.Spec PyProof.Rows PySem.VkX
theorem Rws.grow {K : PySem.W.Frag} {H0 H H' : Hp} {q : Addr} {v : V} {n : Nat} (S : Rws K H0 H q v n) (s : Same H H') : Rws K H0 H' q v n := by
  obtain ⟨new, same, xs, hq, hl, hx⟩ := S
  exact ⟨new, same.trans s, xs, s _ _ hq, hl, fun r hr => (hx r hr).keep s⟩
def spErrs (K : PySem.W.Frag) : Sp := fun vs H Q _ => ∃ v : V, vs = [v] ∧ ∀ q rs H', Same H H' → H' q = some (.lst rs) → rs.length ≤ 100 → (∀ r ∈ rs, Row K H' v r) → Q (.ref q) H'
end Vk
set_option Elab.async false
set_option maxRecDepth 100000
set_option maxHeartbeats 4000000
set_option linter.all false
namespace Vk
open L2 PySem PySem.Spec PyProof.Rows PySem.VkX
section
variable {K : PySem.W.Frag} {H H' H0 : Hp} {e q : Addr} {x y1 y2 z : Str} {C D1 D2 : Addr} {fs : List (Str × V)} {tl t1 t2 : List Value} {xs : List V}
/-- a list of our own that grows at q -/
structure Lst (H0 H : Hp) (q : Addr) (xs : List V) : Prop where
  new : H0 q = none
  same : Same H0 H
  at_ : H q = some (.lst xs)
theorem isa (T : OexK K C) (o : One K C x tl) (o1 : One K D1 y1 t1) (ev : ExV H e C fs) {σ : L2.St} {Q : VK} (h : σ[0]? = some (some (.ref e))) (k : Q (.bl (x == y1)) H) : tCB (rIsX K) (tCons (tVar 0) (tCons (tC (.ref D1)) tNil)) σ H Q :=
  ⟨_, h, e, C, fs, .ref D1, .ref D1, _, rfl, T, ev, .own D1, kit_one o o1, k⟩
theorem isb {S : String} (T : OexK K C) (o : One K C x tl) (hS : PySem.W.kitMeta S = true) (ev : ExV H e C fs) {σ : L2.St} {Q : VK} (h : σ[0]? = some (some (.ref e))) (k : Q (.bl (tl.contains (.type S))) H) : tCB (rIsX K) (tCons (tVar 0) (tCons (tC (.ty S)) tNil)) σ H Q :=
  ⟨_, h, e, C, fs, .ty S, .type S, _, rfl, T, ev, .ty S, kit_type o hS, k⟩
theorem cls_step {u : TS} {D : Ends} {σ : L2.St} (T : OexK K C) (o : One K C x tl) (ev : ExV H0 e C fs) (h0 : σ[0]? = some (some (.ref e))) (h1 : σ[1]? = some (some (.ref q))) (o1 : One K D1 y1 t1) (o2 : One K D2 y2 t2) (L : Lst H0 H q xs) (hn : xs.length ≤ 900)
    (k : ∀ H', Lst H0 H' q (xs ++ [.bl (x == y1), .bl (x == y2)]) → u D σ H') :
    tSeq (tDrop (tBM K "list" rExtend (tVar 1) (tCons (tLst (tCons (tCB (rIsX K) (tCons (tVar 0) (tCons (tC (.ref D1)) tNil))) (tCons (tCB (rIsX K) (tCons (tVar 0) (tCons (tC (.ref D2)) tNil))) tNil))) tNil))) u D σ H := by
  obtain ⟨new, same, hq⟩ := L
  show ∃ v, σ[1]? = some (some v) ∧ _
  refine ⟨_, h1, .inl ⟨rfl, _, SqL.of hq⟩, ?_⟩
  refine isa T o o1 (ev.keep same) h0 (isa T o o2 (ev.keep same) h0 ⟨few_len (Nat.le_of_ble_eq_true rfl), fun p hp => ?_⟩)
  refine ⟨q, p, xs, _, rfl, rfl, (same_new hp) _ _ hq, upd_same, few_len (by show xs.length + 2 ≤ 1000; omega), k _ ⟨new, fun a o ha => ?_, upd_same⟩⟩
  rw [upd_ne (ne_of_none ha new)]
  exact (same.trans (same_new hp)) _ _ ha
end
def spClasses (K : PySem.W.Frag) : Sp := fun vs H Q _ => ∃ e x z, vs = [.ref e] ∧ Err K H e x z ∧ ∀ q H', Same H H' → H' q = some (.lst (names34.map fun y => .bl (x == y))) → Q (.ref q) H'
def spSorts (K : PySem.W.Frag) : Sp := fun vs H Q _ => ∃ e x z, vs = [.ref e] ∧ Err K H e x z ∧ ∀ q H', Same H H' → H' q = some (.lst [.str z]) → Q (.ref q) H'
end Vk
namespace Vk
open L2 PySem PySem.Spec PyProof.Rows PySem.VkX
theorem pg_tupK {X : Cx} {K : PySem.W.Frag} {es : List Expr} {k : Nat} {t : TGs} {n : Nat} {pos : Pos} (hK : X.K = K) (hc : X.calm = true) (h : PGs X es t)
    (hn : (assignEach es X.env).length = n := by rfl) (hst : (assignEach es X.env).findIdx? (·.1) = none := by rfl) : PG X (.Tuple es k pos) (gTup K n t) := hK ▸ pg_tup hc h hn hst
end Vk
namespace Vk
open L2 PySem PySem.Spec PyProof.Rows PySem.VkX
/-- the words whose flag is up, among the first i -/
def sel (ws : List Str) (bs : List Bool) (i : Nat) : List V := (((ws.zip bs).take i).filter (·.2)).map fun p => V.str p.1
theorem sel_next {ws : List Str} {bs : List Bool} {i : Nat} {w : Str} {b : Bool} (h1 : ws[i]? = some w) (h2 : bs[i]? = some b) : sel ws bs (i + 1) = if b = true then sel ws bs i ++ [V.str w] else sel ws bs i := by
  have z : (ws.zip bs)[i]? = some (w, b) := by rw [List.getElem?_zip_eq_some]; exact ⟨h1, h2⟩
  unfold sel
  rw [List.take_add_one, z, List.filter_append, List.map_append]
  cases b <;> simp
abbrev sorts4 : List Str := ["value", "lookup", "overflow", "runtime"]
theorem sorts_of {tl : List Value} {z : Str} (h : SortOf tl z) : ∃ b1 b2 b3 b4, tl.contains (.type "ValueError") = b1 ∧ tl.contains (.type "LookupError") = b2 ∧ tl.contains (.type "OverflowError") = b3 ∧ tl.contains (.type "RuntimeError") = b4 ∧ sel sorts4 [b1, b2, b3, b4] 4 = [V.str z] := by
  cases h
  · exact ⟨true, false, false, false, by decide +kernel, by decide +kernel, by decide +kernel, by decide +kernel, rfl⟩
  · exact ⟨false, true, false, false, by decide +kernel, by decide +kernel, by decide +kernel, by decide +kernel, rfl⟩
  · exact ⟨false, false, true, false, by decide +kernel, by decide +kernel, by decide +kernel, by decide +kernel, rfl⟩
  · exact ⟨false, false, false, true, by decide +kernel, by decide +kernel, by decide +kernel, by decide +kernel, rfl⟩
end Vk
namespace Vk
open L2 PySem PySem.Spec PyProof.Rows PySem.VkX
theorem sel_len {ws : List Str} {bs : List Bool} {i : Nat} : (sel ws bs i).length ≤ ws.length := by
  unfold sel
  rw [List.length_map]
  refine Nat.le_trans (List.length_filter_le _ _) ?_
  rw [List.length_take, List.length_zip]
  omega
end Vk
namespace Vk
open L2 PySem PySem.Spec PyProof.Rows PySem.VkX
theorem eqv_one {z : Str} : PyData.eqv (.list [.str z]) (.list [.str z]) = true := by simp [PyData.eqv, PyData.eqvAll]
theorem shaped_one {tl : List Value} {z : Str} (h : SortOf tl z) : SeqAt.shaped (.list [.str z]) = true := by
  cases h <;> decide +kernel
theorem okD_1 {d : PyData} (h : okB d = true) : d.showable = true ∧ d.depth ≤ 60 ∧ d.shown.length ≤ sizeLine := by
  simp only [okB, Bool.and_eq_true, decide_eq_true_eq] at h
  exact ⟨h.1.1.1.1.1, h.1.1.1.1.2, few_len h.1.1.1.2⟩
theorem okD_2 {d : PyData} (h : okB d = true) : (PyData.list [d, d]).showable = true ∧ (PyData.list [d, d]).depth ≤ 60 ∧ (PyData.list [d, d]).shown.length ≤ sizeLine := by
  simp only [okB, Bool.and_eq_true, decide_eq_true_eq] at h
  exact ⟨h.1.1.2, h.1.2, Nat.le_trans h.2 (by rw [sizeLine_eq]; decide)⟩
theorem count_one : ∀ x ∈ names34, (names34.map fun y => V.bl (x == y)).countP (fun z => eqV z (.bl true)) = 1 := by decide +kernel
theorem flat_bls {x : Str} : ∀ l : List Str, (l.map fun y => V.bl (x == y)).all flatV = true
  | [] => rfl
  | _ :: r => by rw [List.map_cons, List.all_cons, flat_bls r]; rfl
end Vk
set_option Elab.async false
set_option maxRecDepth 100000
set_option linter.all false
namespace Vk
open PySem PySem.Spec PyProof.Rows L2
section
variable {P : Program} {w : World} {K : PySem.W.Frag} {mg : Str → Option Value} {base : Heap}
abbrev s_ldraw : Stmt := top 46
theorem sc_ldraw : FnScope ["_law_pen_here", "_law_many", "_law_digit", "_law_turn", "_law_cell", "_law_primes", "_law_prime", "_law_drawn"] ["_law_pen_here", "_law_many"] (defScope s_ldraw) := ⟨rfl, rfl, rfl, by decide +kernel, rfl, by decide +kernel, by decide +kernel⟩
theorem b_ldraw {f : Addr} {fd : FuncData} (F : Fun K "_law_draw" "_law_draw" s_ldraw f fd) (T : Txt mg) : FnG P w K mg base CX0 1 f fd ["_law_pen_here", "_law_many"] spDraw := by
  refine okG0 F sc_ldraw (fun vs H Q E h => ?_) (fun cdv A outer s H vs Q E hg hr h => ?_)
  · obtain ⟨p, c, m, T0, rfl, _⟩ := h
    rfl
  · have hu := hu_of hr
    have hu64 := hr.units
    obtain ⟨p, c, m, T0, rfl, m0, m1, ⟨ns, t, l, hp, hc, hn, t0, tT, l0⟩, hT, k⟩ := h
    have ncp : c ≠ p := ne_of hc hp (by intro z; cases z)
    have lenns : (ns.map V.int).length = ns.length := List.length_map _
    refine ⟨_, (pss_cons (ps_if (pt_cmpR op_gt (pe_dget hu (pv 0) pe_str (fun _ _ => rfl)) pe_int (nomark _)) (pss_cons (ps_set (i := 2) sc_ldraw.nd rfl (Or.inl rfl) (pe_op op_mod (pe_callTy call_int1 (by rfl) T.int (by decide +kernel) (pa_cons (pe_dget hu (pv 0) pe_str (fun _ _ => rfl)) pa_nil)) (pv 1)))
      (pss_cons (ps_dput hu (pv 0) pe_str (pe_op op_fdiv (pe_dget hu (pv 0) pe_str (fun _ _ => rfl)) (pv 1)) rfl)
      (pss_one (ps_ret (pv 2))))) pss_nil)
      (pss_cons (ps_set (i := 3) sc_ldraw.nd rfl (Or.inl rfl) (pe_dget hu (pv 0) pe_str (fun _ _ => rfl)))
      (pss_cons (ps_dput hu (pv 0) pe_str (pe_op op_add (pv 3) pe_int) rfl)
      (pss_cons (ps_set (i := 4) sc_ldraw.nd rfl (Or.inl rfl) (pe_op op_add (pe_op op_mul pe_int (pv 3)) pe_int))
      (C8.pss_cut (ps_if (pt_cmpR (op_neD hu64) (pe_dget hu (pv 0) pe_str (fun _ _ => rfl)) (pe_lst pa_nil) (nomark _)) (pss_one (ps_set (i := 4) sc_ldraw.nd rfl (Or.inl rfl) (pe_ix ix_seq (pe_dget hu (pv 0) pe_str (fun _ _ => rfl)) (pe_op op_mod (pe_callTy call_int1 (by rfl) T.int (by decide +kernel) (pa_cons (pv 3) pa_nil)) (pe_callB call_len (by rfl) T.len (by decide +kernel) (pa_cons (pe_dget hu (pv 0) pe_str (fun _ _ => rfl)) pa_nil))) (fun _ _ => rfl)))) pss_nil)
      (C8.pss_cut (ps_if (PW.pt (pw_and (pt_cmpR op_lt (pv 3) (pe_callB call_len (by rfl) T.len (by decide +kernel) (pa_cons (pe_dget hu (pv 0) pe_str (fun _ _ => rfl)) pa_nil)) (nomark _)) (pw_and1 (pt_cmpR op_ge (pe_callB call_abs (by rfl) T.abs (by decide +kernel) (pa_cons (pv 4) pa_nil)) (pe_op op_pow pe_int pe_int) (nomark _))))) (pss_cons (ps_dput hu (pv 0) pe_str (pe_op op_fdiv (pe_op op_sub (pe_callB call_abs (by rfl) T.abs (by decide +kernel) (pa_cons (pv 4) pa_nil)) (pe_op op_pow pe_int pe_int)) (pv 1)) rfl)
      (pss_one (ps_ret (pe_op op_mod (pe_op op_sub (pe_callB call_abs (by rfl) T.abs (by decide +kernel) (pa_cons (pv 4) pa_nil)) (pe_op op_pow pe_int pe_int)) (pv 1))))) pss_nil)
      (pss_cons (ps_set (i := 5) sc_ldraw.nd rfl (Or.inl rfl) (pe_lst (pa_cons pe_int (pa_cons pe_int (pa_cons pe_int (pa_cons pe_int (pa_cons pe_int pa_nil)))))))
      (pss_cons (ps_set (i := 6) sc_ldraw.nd rfl (Or.inl rfl) (pe_ix ix_seq (pv 5) (pe_op op_mod (pe_callTy call_int1 (by rfl) T.int (by decide +kernel) (pa_cons (pv 3) pa_nil)) pe_int) (fun _ _ => rfl)))
      (pss_cons (ps_set (i := 7) sc_ldraw.nd rfl (Or.inl rfl) (pe_op op_mod (pe_callTy call_int1 (by rfl) T.int (by decide +kernel) (pa_cons (pe_op op_add (pe_op op_add (pe_op op_mul (pe_op op_mod (pe_callTy call_int1 (by rfl) T.int (by decide +kernel) (pa_cons (pv 4) pa_nil)) (pv 6)) pe_int) (pe_op op_mul (pv 3) (pe_op op_add (pe_op op_mul pe_int (pv 3)) pe_int))) pe_int) pa_nil)) (pv 6)))
      (pss_cons (ps_set (i := 7) sc_ldraw.nd rfl (Or.inl rfl) (pe_op op_mod (pe_callTy call_int1 (by rfl) T.int (by decide +kernel) (pa_cons (pe_op op_mul (pv 7) (pe_op op_add (pv 7) pe_int)) pa_nil)) (pe_ix ix_seq (pv 5) (pe_op op_mod (pe_callTy call_int1 (by rfl) T.int (by decide +kernel) (pa_cons (pe_op op_add (pv 3) pe_int) pa_nil)) pe_int) (fun _ _ => rfl))))
      (pss_one (ps_ret (pe_op op_mod (pe_callTy call_int1 (by rfl) T.int (by decide +kernel) (pa_cons (pe_op op_fdiv (pe_op op_mod (pe_callTy call_int1 (by rfl) T.int (by decide +kernel) (pa_cons (pe_op op_add (pe_op op_add (pe_op op_mul (pv 7) (pv 7)) (pe_op op_mul pe_int (pv 7))) (pv 3)) pa_nil)) pe_int) pe_int) pa_nil)) (pv 1)))))))))))))), ?_⟩
    refine ⟨_, rfl, p, _, rfl, get_left hp, _, _, rfl, rfl, _, rfl, ?_⟩
    refine ite2 (fun hl => ?_) (fun hl => ?_)
    · refine ⟨_, rfl, p, _, rfl, get_left hp, .inl ⟨_, rfl, ?_⟩⟩
      refine ⟨_, rfl, _, _, rfl, rfl, m0, ?_⟩
      refine ⟨_, rfl, p, _, rfl, get_left hp, _, rfl, _, _, rfl, rfl, ⟨by omega, by omega⟩, ?_⟩
      refine ⟨_, rfl, p, _, rfl, put_left hp, _, rfl, ?_⟩
      refine k _ _ (Int.emod_nonneg _ (by omega)) (Int.emod_lt_of_pos _ m0) ⟨ns, t, _, upd_same, (upd_ne ncp).trans hc, hn, t0, by omega, Int.ediv_nonneg l0 (by omega)⟩ Ext.at
    · refine ⟨_, rfl, p, _, rfl, get_turn hp, ?_⟩
      refine ⟨_, rfl, _, _, rfl, rfl, _, rfl, p, _, rfl, put_turn hp, ?_⟩
      generalize hH1 : upd H p (.dK (penL c (t + 1) l)) = H1
      have hp1 : H1 p = some (.dK (penL c (t + 1) l)) := by rw [← hH1]; exact upd_same
      have hc1 : H1 c = some (.lst (ns.map V.int)) := by rw [← hH1]; exact (upd_ne ncp).trans hc
      have e1 : Ext p H H1 := by rw [← hH1]; exact Ext.at
      refine ⟨_, rfl, _, _, rfl, rfl, .inl ⟨by decide, by decide⟩, _, _, rfl, rfl, ?_⟩
      refine ⟨fun σ' H2 => ∃ z : Int, σ' = [some (.ref p), some (.int m), none, some (.int t), some (.int z), none, none, none] ∧ H2 p = some (.dK (penL c (t + 1) l)) ∧ H2 c = some (.lst (ns.map V.int)) ∧ Ext p H H2, ?_, ?_⟩
      · refine ⟨_, rfl, p, _, rfl, get_cells hp1, by decide, fun b hb => ?_⟩
        have hp2 := up_new (u := .lst []) hp1 hb
        have hc2 := up_new (u := .lst []) hc1 hb
        refine ⟨.list (ns.map .int), .list [], .lst (SqL.of hc2) (ints_dp ns), .lst (SqL.of upd_same) .nil, ints_shaped ns, by decide +kernel, _, rfl, ?_⟩
        rw [ints_ne_nil]
        refine ite2 (fun hne => ?_) (fun _ => ?_)
        · have hpos : 0 < ns.length := by
            cases ns with
            | nil => simp at hne
            | cons a r => exact Nat.succ_pos _
          refine ⟨_, rfl, p, _, rfl, get_cells hp2, _, rfl, .inl ⟨_, rfl, _, rfl, p, _, rfl, get_cells hp2, _, _, rfl, .inl ⟨_, SqL.of hc2, rfl⟩, _, _, rfl, rfl, ?_, ?_⟩⟩
          · rw [lenns]; omega
          · obtain ⟨v, hv, hm⟩ := at_mod (xs := ns.map V.int) (i := t % ((ns.map V.int).length : Int)) (Int.emod_nonneg _ (by rw [lenns]; omega)) (Int.emod_lt_of_pos _ (by rw [lenns]; omega))
            obtain ⟨z, _, rfl⟩ := List.mem_map.mp hm
            refine .inl ⟨_, _, _, _, rfl, rfl, SqL.of hc2, hv, z, rfl, hp2, hc2, e1.set (e1.none_of ?_ hb)⟩
            exact (ne_of_none hp1 hb).symm
        · exact ⟨_, rfl, hp2, hc2, e1.set (e1.none_of (ne_of_none hp1 hb).symm hb)⟩
      · rintro σ2 H2 ⟨z, rfl, hp2, hc2, e2⟩
        refine ⟨fun σ' H3 => σ' = [some (.ref p), some (.int m), none, some (.int t), some (.int z), none, none, none] ∧ H3 = H2, ?_, ?_⟩
        · refine ⟨_, rfl, _, rfl, p, _, rfl, get_cells hp2, _, _, rfl, .inl ⟨_, SqL.of hc2, rfl⟩, _, _, rfl, rfl, _, rfl, ?_⟩
          refine ite2 (fun _ => ?_) (fun _ => ?_)
          · refine ⟨_, rfl, _, rfl, _, _, rfl, rfl, ⟨by decide, by decide, by decide⟩, _, _, rfl, rfl, _, rfl, ?_⟩
            refine ite2 (fun hbig => ?_) (fun _ => ?_)
            · have big := of_decide_eq_true hbig
              refine ⟨_, rfl, _, rfl, _, _, rfl, rfl, ⟨by decide, by decide, by decide⟩, _, _, rfl, rfl, _, rfl, _, _, rfl, rfl, ⟨by omega, by omega⟩, ?_⟩
              refine ⟨_, rfl, p, _, rfl, put_left hp2, ?_⟩
              refine ⟨_, rfl, _, rfl, _, _, rfl, rfl, ⟨by decide, by decide, by decide⟩, _, _, rfl, rfl, _, rfl, _, _, rfl, rfl, m0, ?_⟩
              refine k _ _ (Int.emod_nonneg _ (by omega)) (Int.emod_lt_of_pos _ m0) ⟨ns, t + 1, _, upd_same, (upd_ne ncp).trans hc2, hn, by omega, by omega, Int.ediv_nonneg (by omega) (by omega)⟩ (e2.trans Ext.at)
            · exact ⟨rfl, rfl⟩
          · exact ⟨rfl, rfl⟩
        · rintro σ3 H3 ⟨rfl, rfl⟩
          refine ⟨by decide, fun q hq => ?_⟩
          have hp3 := up_new (u := .lst (primes.map V.int)) hp2 hq
          have hc3 := up_new (u := .lst (primes.map V.int)) hc2 hq
          have e3 : Ext p H (upd H3 q (.lst (primes.map V.int))) := e2.set (e2.none_of (ne_of_none hp2 hq).symm hq)
          have hq3 : (upd H3 q (.lst (primes.map V.int))) q = some (.lst (primes.map V.int)) := upd_same
          have pick : ∀ i : Int, 0 ≤ i → i < 5 → ∃ z : Int, atI (primes.map V.int) i = some (.int z) ∧ 0 < z ∧ z < 2147483648 := fun i h0 h5 => by
            obtain ⟨v, hv, hm⟩ := at_mod (xs := primes.map V.int) h0 h5
            obtain ⟨z, rfl, hz⟩ := primes_in hm
            exact ⟨z, hv, hz⟩
          obtain ⟨a1, ha1, a1p, a1b⟩ := pick (t % 5) (Int.emod_nonneg _ (by decide)) (Int.emod_lt_of_pos _ (by decide))
          obtain ⟨a2, ha2, a2p, a2b⟩ := pick ((t + 2) % 5) (Int.emod_nonneg _ (by decide)) (Int.emod_lt_of_pos _ (by decide))
          refine ⟨_, rfl, _, rfl, .inl ⟨_, rfl, _, _, rfl, rfl, (by show (0 : Int) < 5; decide), .inl ⟨_, _, _, _, rfl, rfl, SqL.of hq3, ha1, ?_⟩⟩⟩
          have b1 := Int.emod_nonneg z (show a1 ≠ 0 by omega)
          have b2 := Int.emod_lt_of_pos z a1p
          refine ⟨_, rfl, .inl ⟨_, rfl, _, rfl, _, _, rfl, rfl, a1p, _, _, rfl, rfl, .inr ⟨by decide, by decide⟩, ?_⟩⟩
          refine ⟨_, rfl, _, rfl, _, _, rfl, rfl, .inl ⟨by decide, by decide⟩, _, _, rfl, rfl, _, _, rfl, rfl, .inl ⟨by omega, by omega⟩, _, _, rfl, rfl, _, _, rfl, rfl, .inl ⟨_, rfl, _, rfl, _, _, rfl, rfl, a1p, ?_⟩⟩
          have d1 := Int.emod_nonneg (z % a1 * 39373 + t * (30011 * t + 8117) + 23) (show a1 ≠ 0 by omega)
          have d2 := Int.emod_lt_of_pos (z % a1 * 39373 + t * (30011 * t + 8117) + 23) a1p
          refine ⟨_, rfl, _, rfl, _, _, rfl, rfl, _, _, rfl, rfl, .inl ⟨by omega, by omega⟩, .inl ⟨_, rfl, _, rfl, _, rfl, _, _, rfl, rfl, .inl ⟨_, rfl, _, _, rfl, rfl, (by show (0 : Int) < 5; decide), .inl ⟨_, _, _, _, rfl, rfl, SqL.of hq3, ha2, _, _, rfl, rfl, a2p, ?_⟩⟩⟩⟩
          have f1 := Int.emod_nonneg (((z % a1 * 39373 + t * (30011 * t + 8117) + 23) % a1) * (((z % a1 * 39373 + t * (30011 * t + 8117) + 23) % a1) + 69621)) (show a2 ≠ 0 by omega)
          have f2 := Int.emod_lt_of_pos (((z % a1 * 39373 + t * (30011 * t + 8117) + 23) % a1) * (((z % a1 * 39373 + t * (30011 * t + 8117) + 23) % a1) + 69621)) a2p
          refine ⟨_, rfl, _, rfl, _, _, rfl, rfl, .inl ⟨by omega, by omega⟩, _, rfl, _, _, rfl, rfl, .inl ⟨by decide, by decide⟩, _, _, rfl, rfl, _, rfl, _, _, rfl, rfl, .inl ⟨_, rfl, _, _, rfl, rfl, (by show (0 : Int) < 2147483549; decide), _, _, rfl, rfl, ⟨by decide, by decide⟩, .inl ⟨_, rfl, _, rfl, _, _, rfl, rfl, m0, ?_⟩⟩⟩
          exact k _ _ (Int.emod_nonneg _ (by omega)) (Int.emod_lt_of_pos _ m0) ⟨ns, t + 1, l, hp3, hc3, hn, by omega, by omega, l0⟩ e3

abbrev s_lpen : Stmt := top 45
theorem sc_lpen : FnScope ["_law_script"] ["_law_script"] (defScope s_lpen) := ⟨rfl, rfl, rfl, by decide +kernel, rfl, by decide +kernel, by decide +kernel⟩
theorem b_lpen {f : Addr} {fd : FuncData} (F : Fun K "_law_pen" "_law_pen" s_lpen f fd) (T : Txt mg) : FnG P w K mg base CX0 1 f fd ["_law_script"] (spPen K) := by
  refine okG0 F sc_lpen (fun vs H Q E h => ?_) (fun cdv A outer s H vs Q E hg hr h => ?_)
  · obtain ⟨a, ns, rfl, _⟩ := h
    rfl
  · have hu := hu_of hr
    have hu64 := hr.units
    obtain ⟨a, ns, rfl, hs, k⟩ := h
    refine ⟨_, (pss_one (ps_ret (pe_disp (pps_cons pe_str (pe_callTy call_list_of (by rfl) T.list (by decide +kernel) (pa_cons (pe_slice sl_list (pv 0) po_none (po_some pe_int)) pa_nil)) (pps_cons pe_str pe_int (pps_cons pe_str pe_int pps_nil))) (by rfl) (by rfl) (fun z => by cases z) (by decide)))), ?_⟩
    intro p hp
    obtain ⟨ms, hms, hml⟩ := cut63 ns
    refine ⟨_, rfl, 63, rfl, a, _, rfl, (same_new hp).seq hs, fun q hq => ?_⟩
    refine ⟨q, _, rfl, .inl (SqL.of upd_same), fun c hc => ?_⟩
    rw [hms] at hc ⊢
    have nqp : p ≠ q := fun e => by rw [← e, upd_same] at hq; cases hq
    have ncp : p ≠ c := fun e => by rw [← e, upd_ne nqp, upd_same] at hc; cases hc
    have hp2 : (upd (upd (upd H p (.dK [])) q (.lst (ms.map V.int))) c (.lst (ms.map V.int))) p = some (.dK []) := by rw [upd_ne ncp, upd_ne nqp, upd_same]
    refine ⟨hp2, penL c 0 0, rfl, (by show 3 ≤ 15; decide), ?_⟩
    rw [pen_made]
    refine k p c _ hp ⟨ms, 0, 0, upd_same, by rw [upd_ne ncp.symm, upd_same], hml, Int.le_refl _, Int.le_refl _, Int.le_refl _⟩ fun b o e => ?_
    rw [upd_ne (ne_of_none e hp), upd_ne ?_, upd_ne ?_, upd_ne (ne_of_none e hp)]
    · exact e
    · rintro rfl
      rw [upd_ne (ne_of_none e hp)] at hq
      rw [hq] at e
      cases e
    · rintro rfl
      by_cases ebq : b = q
      · subst ebq
        rw [upd_ne nqp.symm] at hq
        rw [hq] at e
        cases e
      · rw [upd_ne ebq, upd_ne (ne_of_none e hp)] at hc
        rw [hc] at e
        cases e

abbrev s_lpick : Stmt := top 47
theorem sc_lpick : FnScope ["_law_pen_here", "_law_options"] ["_law_pen_here", "_law_options"] (defScope s_lpick) := ⟨rfl, rfl, rfl, by decide +kernel, rfl, by decide +kernel, by decide +kernel⟩
theorem b_lpick {f : Addr} {fd : FuncData} (F : Fun K "_law_pick" "_law_pick" s_lpick f fd) (T : Txt mg) (c_ldraw : CalG P w K mg base CX0 1 "_law_draw" spDraw) : FnG P w K mg base CX0 2 f fd ["_law_pen_here", "_law_options"] (spPick K) := by
  refine okG0 F sc_lpick (fun vs H Q E h => ?_) (fun cdv A outer s H vs Q E hg hr h => ?_)
  · obtain ⟨p, c, o, xs, T0, rfl, _⟩ := h
    rfl
  · have hu := hu_of hr
    have hu64 := hr.units
    obtain ⟨p, c, o, xs, T0, rfl, ho, hne, hlen, hpen, hT, k⟩ := h
    have hpos : 0 < xs.length := List.length_pos_iff.mpr hne
    have hr1 : Room 1 _ := hr
    refine ⟨_, (pss_one (ps_ret (pe_ix ix_seq (pv 1) (pe_cG c_ldraw hg hr (by decide) pass0 (pa_cons (pv 0) (pa_cons (pe_callB call_len (by rfl) T.len (by decide +kernel) (pa_cons (pv 1) pa_nil)) pa_nil))) (fun _ _ => rfl)))), ?_⟩

    cases ho with
    | str z hz =>
      have e := one_len z
      have hz24 : z.length ≤ sizeLine := Nat.le_trans hz (by decide)
      refine ⟨_, rfl, _, rfl, _, rfl, _, _, rfl, ⟨hz24, rfl⟩, p, c, _, T0, rfl, by omega, by omega, hpen, hT, fun d H' d0 d1 hpen' x => ?_⟩
      obtain ⟨e1, hc, hm⟩ := at_mod (xs := z.cps.toList) d0 (by rw [show (z.cps.toList.length : Int) = (z.length : Int) from congrArg Nat.cast Array.length_toList]; exact d1)
      exact .inr (.inr ⟨z, d, e1, rfl, rfl, hz24, hc, k _ _ (List.mem_map_of_mem (f := OneS) hm) hpen' x⟩)
    | lst hs =>
      refine ⟨_, rfl, _, rfl, _, rfl, _, _, rfl, .inl ⟨_, hs, rfl⟩, p, c, _, T0, rfl, by omega, by omega, hpen, hT, fun d H' d0 d1 hpen' x => ?_⟩
      obtain ⟨v, hv, hm⟩ := at_mod d0 d1
      exact .inl ⟨_, xs, d, v, rfl, rfl, hpen.keepL x hs, hv, k _ _ hm hpen' x⟩
    | tup hs =>
      refine ⟨_, rfl, _, rfl, _, rfl, _, _, rfl, .inr ⟨_, hs, rfl⟩, p, c, _, T0, rfl, by omega, by omega, hpen, hT, fun d H' d0 d1 hpen' x => ?_⟩
      obtain ⟨v, hv, hm⟩ := at_mod d0 d1
      exact .inr (.inl ⟨_, xs, d, v, rfl, rfl, hpen.keepT x hs, hv, k _ _ hm hpen' x⟩)

def spAny : Sp := fun vs H Q _ => ∃ (p c : Addr) (T : Nat), vs = [.ref p] ∧ Pen H p c T ∧ T < 1000000000 ∧ ∀ (v : V) (d : PyData) (H' : Hp), Th H' v d → okB d = true → Pen H' p c (T + 1) → Ext p H H' → Q v H'
abbrev ds1 : List PyData := [.none, .bool true, .bool false, .int 0, .int 1, .int (-1), .int (10 ^ (59 : Int).toNat), .str "", .str "a", .str "\t", .str "a\t", .str "ab", .tuple [], .tuple [.str "a"], .tuple [.str "a", .str "b"], .list [.str "a", .str "b"], .dict (kvD [])]
abbrev ds2 : List PyData := [.list [.int 1], .tuple [.str "a", .int 1], .tuple [.str "", .str "a"], .tuple [.str "a", .str "\t"], .tuple [.str "a", .str "b", .str "c"], .dict (kvD [("a", "b")]), .str "once", .tuple [.str (Txt.mul "a" 41), .str ""]]
abbrev ds3 : List PyData := [.tuple [.str "a", .str (Txt.mul "b" 41)], .str (Txt.mul "a" 41), .str (Txt.mul "b" 50), .tuple [.int 0, .int 1], .list [], .tuple [.str "a", .none]]
abbrev s_lany_value : Stmt := top 48
theorem sc_lany_value : FnScope ["_law_pen_here", "_law_some"] ["_law_pen_here"] (defScope s_lany_value) := ⟨rfl, rfl, rfl, by decide +kernel, rfl, by decide +kernel, by decide +kernel⟩
theorem b_lany_value {f : Addr} {fd : FuncData} (F : Fun K "_law_any_value" "_law_any_value" s_lany_value f fd) (T : Txt mg) (c_lpick : CalG P w K mg base CX0 2 "_law_pick" (spPick K)) : FnG P w K mg base CX0 3 f fd ["_law_pen_here"] spAny := by
  refine okG0 F sc_lany_value (fun vs H Q E h => ?_) (fun cdv A outer s H vs Q E hg hr h => ?_)
  · obtain ⟨p, c, T0, rfl, _⟩ := h
    rfl
  · have hu := hu_of hr
    have hu64 := hr.units
    obtain ⟨p, c, T0, rfl, hpen, hT, k⟩ := h
    have hr2 : Room 2 _ := hr
    refine ⟨_, (pss_cons (ps_set (i := 1) sc_lany_value.nd rfl (Or.inl rfl) (pe_lst (pa_cons pe_non (pa_cons pe_bl (pa_cons pe_bl (pa_cons pe_int (pa_cons pe_int (pa_cons (pe_un un_neg pe_int) (pa_cons (pe_op op_pow pe_int pe_int) (pa_cons pe_str (pa_cons pe_str (pa_cons pe_str (pa_cons pe_str (pa_cons pe_str (pa_cons (pe_tup pa_nil) (pa_cons (pe_tup (pa_cons pe_str pa_nil)) (pa_cons (pe_tup (pa_cons pe_str (pa_cons pe_str pa_nil))) (pa_cons (pe_lst (pa_cons pe_str (pa_cons pe_str pa_nil))) (pa_cons pe_dnewK pa_nil)))))))))))))))))))
      (pss_cons (ps_set (i := 1) sc_lany_value.nd rfl (Or.inl rfl) (pe_op op_cat (pv 1) (pe_lst (pa_cons (pe_lst (pa_cons pe_int pa_nil)) (pa_cons (pe_tup (pa_cons pe_str (pa_cons pe_int pa_nil))) (pa_cons (pe_tup (pa_cons pe_str (pa_cons pe_str pa_nil))) (pa_cons (pe_tup (pa_cons pe_str (pa_cons pe_str pa_nil))) (pa_cons (pe_tup (pa_cons pe_str (pa_cons pe_str (pa_cons pe_str pa_nil)))) (pa_cons (pe_disp (pps_cons pe_str pe_str pps_nil) (by rfl) (by rfl) (fun z => by cases z) (by decide)) (pa_cons pe_str (pa_cons (pe_tup (pa_cons (pe_op op_mulS pe_str pe_int) (pa_cons pe_str pa_nil))) pa_nil)))))))))))
      (pss_one (ps_ret (pe_cG c_lpick hg hr (by decide) pass0 (pa_cons (pv 0) (pa_cons (pe_op op_cat (pv 1) (pe_lst (pa_cons (pe_tup (pa_cons pe_str (pa_cons (pe_op op_mulS pe_str pe_int) pa_nil))) (pa_cons (pe_op op_mulS pe_str pe_int) (pa_cons (pe_op op_mulS pe_str pe_int) (pa_cons (pe_tup (pa_cons pe_int (pa_cons pe_int pa_nil))) (pa_cons (pe_lst pa_nil) (pa_cons (pe_tup (pa_cons pe_str (pa_cons pe_non pa_nil))) pa_nil)))))))) pa_nil))))))), ?_⟩
    refine seq_asg (mk_many (ds := ds1) ?m1 ?l1 fun q1 xs1 H1 s1 hq1 t1 => ?_)
    case m1 => repeat' (first | exact mks_nil | refine mks_cons ?_ ?_ | exact mk_dnew | exact mk_disp | refine mk_tup ?_ (Nat.le_of_ble_eq_true rfl) | refine mk_lst ?_ (Nat.le_of_ble_eq_true rfl) | exact mas_nil | refine mas_cons ?_ ?_ | exact ma_non | exact ma_bl | exact ma_int | exact ma_str | exact ma_neg | exact ma_pow ⟨by decide, by decide, by decide⟩ | exact ma_mul ⟨by decide, by decide, by decide, by decide +kernel⟩ | refine mk_atm ?_)
    case l1 => exact Nat.le_of_ble_eq_true rfl
    refine seq_asg ⟨_, rfl, mk_many (ds := ds2) ?m2 ?l2 fun q2 xs2 H2 s2 hq2 t2 => ?_⟩
    case m2 => repeat' (first | exact mks_nil | refine mks_cons ?_ ?_ | exact mk_dnew | exact mk_disp | refine mk_tup ?_ (Nat.le_of_ble_eq_true rfl) | refine mk_lst ?_ (Nat.le_of_ble_eq_true rfl) | exact mas_nil | refine mas_cons ?_ ?_ | exact ma_non | exact ma_bl | exact ma_int | exact ma_str | exact ma_neg | exact ma_pow ⟨by decide, by decide, by decide⟩ | exact ma_mul ⟨by decide, by decide, by decide, by decide +kernel⟩ | refine mk_atm ?_)
    case l2 => exact Nat.le_of_ble_eq_true rfl
    refine ⟨q1, q2, xs1, xs2, rfl, rfl, s2 _ _ hq1, hq2, few_len (by rw [paired_len t1, paired_len t2]; exact Nat.le_of_ble_eq_true rfl), fun q3 hq3 => ?_⟩
    refine ⟨_, rfl, _, rfl, mk_many (ds := ds3) ?m3 ?l3 fun q4 xs4 H4 s4 hq4 t4 => ?_⟩
    case m3 => repeat' (first | exact mks_nil | refine mks_cons ?_ ?_ | exact mk_dnew | exact mk_disp | refine mk_tup ?_ (Nat.le_of_ble_eq_true rfl) | refine mk_lst ?_ (Nat.le_of_ble_eq_true rfl) | exact mas_nil | refine mas_cons ?_ ?_ | exact ma_non | exact ma_bl | exact ma_int | exact ma_str | exact ma_neg | exact ma_pow ⟨by decide, by decide, by decide⟩ | exact ma_mul ⟨by decide, by decide, by decide, by decide +kernel⟩ | refine mk_atm ?_)
    case l3 => exact Nat.le_of_ble_eq_true rfl
    refine ⟨q3, q4, _, xs4, rfl, rfl, s4 _ _ upd_same, hq4, few_len (by rw [List.length_append, paired_len t1, paired_len t2, paired_len t4]; exact Nat.le_of_ble_eq_true rfl), fun q5 hq5 => ?_⟩
    have g5 : Same H (upd H4 q5 (.lst (xs1 ++ xs2 ++ xs4))) := (((s1.trans s2).trans (same_new hq3)).trans s4).trans (same_new hq5)
    have a5 : Paired (Th (upd H4 q5 (.lst (xs1 ++ xs2 ++ xs4)))) (xs1 ++ xs2 ++ xs4) (ds1 ++ ds2 ++ ds3) := paired_app (paired_app (ths_keep (((s2.trans (same_new hq3)).trans s4).trans (same_new hq5)) t1) (ths_keep (((same_new hq3).trans s4).trans (same_new hq5)) t2)) (ths_keep (same_new hq5) t4)
    refine ⟨p, c, .ref q5, _, T0, rfl, .lst (SqL.of upd_same), ?_, ?_, hpen.stay g5, hT, fun v H6 m6 P6 x6 => ?_⟩
    · exact fun z => nomatch (congrArg List.length z).symm.trans (paired_len a5)
    · rw [paired_len a5]; exact Nat.le_of_ble_eq_true rfl
    · obtain ⟨d, hd, td⟩ := paired_mem a5 m6
      refine k v d H6 (td.ext (hpen.stay g5) x6) ?_ P6 ((Ext.same g5).trans x6)
      exact List.all_eq_true.mp (by decide +kernel) d hd

end
end Vk
set_option Elab.async false
set_option maxRecDepth 100000
set_option linter.all false
namespace Vk
open PySem PySem.Spec PyProof.Rows L2
section
variable {P : Program} {w : World} {K : PySem.W.Frag} {mg : Str → Option Value} {base : Heap}
abbrev s_lsome_errors : Stmt := top 49
theorem sc_lsome_errors : FnScope ["_law_thing", "_law_found"] ["_law_thing"] (defScope s_lsome_errors) := ⟨rfl, rfl, rfl, by decide +kernel, rfl, by decide +kernel, by decide +kernel⟩
theorem b_lsome_errors {f : Addr} {fd : FuncData} (F : Fun K "_law_some_errors" "_law_some_errors" s_lsome_errors f fd) (T : Txt mg)
    {C_InvalidOld : Addr} (c_InvalidOld : ClsI P w K mg base 1 "InvalidOld" C_InvalidOld ["value"]) (o_InvalidOld : One K C_InvalidOld "InvalidOld" tlV)
    {C_InvalidNew : Addr} (c_InvalidNew : ClsI P w K mg base 1 "InvalidNew" C_InvalidNew ["value"]) (o_InvalidNew : One K C_InvalidNew "InvalidNew" tlV)
    {C_InvalidText : Addr} (c_InvalidText : ClsI P w K mg base 1 "InvalidText" C_InvalidText ["value"]) (o_InvalidText : One K C_InvalidText "InvalidText" tlV)
    {C_InvalidTable : Addr} (c_InvalidTable : ClsI P w K mg base 1 "InvalidTable" C_InvalidTable ["value"]) (o_InvalidTable : One K C_InvalidTable "InvalidTable" tlV)
    {C_InvalidCount : Addr} (c_InvalidCount : ClsI P w K mg base 1 "InvalidCount" C_InvalidCount ["value"]) (o_InvalidCount : One K C_InvalidCount "InvalidCount" tlV)
    {C_InvalidSpot : Addr} (c_InvalidSpot : ClsI P w K mg base 1 "InvalidSpot" C_InvalidSpot ["value"]) (o_InvalidSpot : One K C_InvalidSpot "InvalidSpot" tlV)
    {C_InvalidHand : Addr} (c_InvalidHand : ClsI P w K mg base 1 "InvalidHand" C_InvalidHand ["value"]) (o_InvalidHand : One K C_InvalidHand "InvalidHand" tlV)
    {C_InvalidFiles : Addr} (c_InvalidFiles : ClsI P w K mg base 1 "InvalidFiles" C_InvalidFiles ["value"]) (o_InvalidFiles : One K C_InvalidFiles "InvalidFiles" tlV)
    {C_InvalidName : Addr} (c_InvalidName : ClsI P w K mg base 1 "InvalidName" C_InvalidName ["value"]) (o_InvalidName : One K C_InvalidName "InvalidName" tlV)
    {C_InvalidPart : Addr} (c_InvalidPart : ClsI P w K mg base 1 "InvalidPart" C_InvalidPart ["index"]) (o_InvalidPart : One K C_InvalidPart "InvalidPart" tlV)
    {C_InvalidEdit : Addr} (c_InvalidEdit : ClsI P w K mg base 1 "InvalidEdit" C_InvalidEdit ["index"]) (o_InvalidEdit : One K C_InvalidEdit "InvalidEdit" tlV)
    {C_InvalidChange : Addr} (c_InvalidChange : ClsI P w K mg base 1 "InvalidChange" C_InvalidChange ["index"]) (o_InvalidChange : One K C_InvalidChange "InvalidChange" tlV)
    {C_InvalidProgram : Addr} (c_InvalidProgram : ClsI P w K mg base 1 "InvalidProgram" C_InvalidProgram ["index"]) (o_InvalidProgram : One K C_InvalidProgram "InvalidProgram" tlV)
    {C_InvalidRun : Addr} (c_InvalidRun : ClsI P w K mg base 1 "InvalidRun" C_InvalidRun ["index"]) (o_InvalidRun : One K C_InvalidRun "InvalidRun" tlV)
    {C_NoExchange : Addr} (c_NoExchange : ClsI P w K mg base 1 "NoExchange" C_NoExchange ["index"]) (o_NoExchange : One K C_NoExchange "NoExchange" tlV)
    {C_NoMirror : Addr} (c_NoMirror : ClsI P w K mg base 1 "NoMirror" C_NoMirror ["index"]) (o_NoMirror : One K C_NoMirror "NoMirror" tlV)
    {C_NoBack : Addr} (c_NoBack : ClsI P w K mg base 1 "NoBack" C_NoBack ["index"]) (o_NoBack : One K C_NoBack "NoBack" tlV) : FnG P w K mg base CX0 3 f fd ["_law_thing"] (spErrs K) := by
  refine okG0 F sc_lsome_errors (fun vs H Q E h => ?_) (fun cdv A outer s H vs Q E hg hr h => ?_)
  · obtain ⟨v, rfl, _⟩ := h
    rfl
  · have hu := hu_of hr
    have hu64 := hr.units
    obtain ⟨v, rfl, k⟩ := h
    have hr2 : Room 2 _ := hr
    refine ⟨_, (pss_cons (ps_set (i := 1) sc_lsome_errors.nd rfl (Or.inl rfl) (pe_lst pa_nil))
      (pss_cons (ps_expr (pe_bm PySem.F.plainAttrs_list PySem.F.slot_list_append PySem.F.type_list_append mt_append (pv 1) (pa_cons (pe_tup (pa_cons (pe_mk c_InvalidOld hg hr (by decide) pass0 (pa_cons (pv 0) pa_nil)) (pa_cons (pe_xk (pe_mkW c_InvalidOld hg hr (by decide) pass0 (pk_cons (pv 0) pk_nil))) (pa_cons (pe_xk (pe_mk c_InvalidOld hg hr (by decide) pass0 (pa_cons (pv 0) pa_nil))) (pa_cons pe_str pa_nil))))) pa_nil)))
      (pss_cons (ps_expr (pe_bm PySem.F.plainAttrs_list PySem.F.slot_list_append PySem.F.type_list_append mt_append (pv 1) (pa_cons (pe_tup (pa_cons (pe_mk c_InvalidNew hg hr (by decide) pass0 (pa_cons (pv 0) pa_nil)) (pa_cons (pe_xk (pe_mkW c_InvalidNew hg hr (by decide) pass0 (pk_cons (pv 0) pk_nil))) (pa_cons (pe_xk (pe_mk c_InvalidNew hg hr (by decide) pass0 (pa_cons (pv 0) pa_nil))) (pa_cons pe_str pa_nil))))) pa_nil)))
      (pss_cons (ps_expr (pe_bm PySem.F.plainAttrs_list PySem.F.slot_list_append PySem.F.type_list_append mt_append (pv 1) (pa_cons (pe_tup (pa_cons (pe_mk c_InvalidText hg hr (by decide) pass0 (pa_cons (pv 0) pa_nil)) (pa_cons (pe_xk (pe_mkW c_InvalidText hg hr (by decide) pass0 (pk_cons (pv 0) pk_nil))) (pa_cons (pe_xk (pe_mk c_InvalidText hg hr (by decide) pass0 (pa_cons (pv 0) pa_nil))) (pa_cons pe_str pa_nil))))) pa_nil)))
      (pss_cons (ps_expr (pe_bm PySem.F.plainAttrs_list PySem.F.slot_list_append PySem.F.type_list_append mt_append (pv 1) (pa_cons (pe_tup (pa_cons (pe_mk c_InvalidTable hg hr (by decide) pass0 (pa_cons (pv 0) pa_nil)) (pa_cons (pe_xk (pe_mkW c_InvalidTable hg hr (by decide) pass0 (pk_cons (pv 0) pk_nil))) (pa_cons (pe_xk (pe_mk c_InvalidTable hg hr (by decide) pass0 (pa_cons (pv 0) pa_nil))) (pa_cons pe_str pa_nil))))) pa_nil)))
      (pss_cons (ps_expr (pe_bm PySem.F.plainAttrs_list PySem.F.slot_list_append PySem.F.type_list_append mt_append (pv 1) (pa_cons (pe_tup (pa_cons (pe_mk c_InvalidCount hg hr (by decide) pass0 (pa_cons (pv 0) pa_nil)) (pa_cons (pe_xk (pe_mkW c_InvalidCount hg hr (by decide) pass0 (pk_cons (pv 0) pk_nil))) (pa_cons (pe_xk (pe_mk c_InvalidCount hg hr (by decide) pass0 (pa_cons (pv 0) pa_nil))) (pa_cons pe_str pa_nil))))) pa_nil)))
      (pss_cons (ps_expr (pe_bm PySem.F.plainAttrs_list PySem.F.slot_list_append PySem.F.type_list_append mt_append (pv 1) (pa_cons (pe_tup (pa_cons (pe_mk c_InvalidSpot hg hr (by decide) pass0 (pa_cons (pv 0) pa_nil)) (pa_cons (pe_xk (pe_mkW c_InvalidSpot hg hr (by decide) pass0 (pk_cons (pv 0) pk_nil))) (pa_cons (pe_xk (pe_mk c_InvalidSpot hg hr (by decide) pass0 (pa_cons (pv 0) pa_nil))) (pa_cons pe_str pa_nil))))) pa_nil)))
      (pss_cons (ps_expr (pe_bm PySem.F.plainAttrs_list PySem.F.slot_list_append PySem.F.type_list_append mt_append (pv 1) (pa_cons (pe_tup (pa_cons (pe_mk c_InvalidHand hg hr (by decide) pass0 (pa_cons (pv 0) pa_nil)) (pa_cons (pe_xk (pe_mkW c_InvalidHand hg hr (by decide) pass0 (pk_cons (pv 0) pk_nil))) (pa_cons (pe_xk (pe_mk c_InvalidHand hg hr (by decide) pass0 (pa_cons (pv 0) pa_nil))) (pa_cons pe_str pa_nil))))) pa_nil)))
      (pss_cons (ps_expr (pe_bm PySem.F.plainAttrs_list PySem.F.slot_list_append PySem.F.type_list_append mt_append (pv 1) (pa_cons (pe_tup (pa_cons (pe_mk c_InvalidFiles hg hr (by decide) pass0 (pa_cons (pv 0) pa_nil)) (pa_cons (pe_xk (pe_mkW c_InvalidFiles hg hr (by decide) pass0 (pk_cons (pv 0) pk_nil))) (pa_cons (pe_xk (pe_mk c_InvalidFiles hg hr (by decide) pass0 (pa_cons (pv 0) pa_nil))) (pa_cons pe_str pa_nil))))) pa_nil)))
      (pss_cons (ps_expr (pe_bm PySem.F.plainAttrs_list PySem.F.slot_list_append PySem.F.type_list_append mt_append (pv 1) (pa_cons (pe_tup (pa_cons (pe_mk c_InvalidName hg hr (by decide) pass0 (pa_cons (pv 0) pa_nil)) (pa_cons (pe_xk (pe_mkW c_InvalidName hg hr (by decide) pass0 (pk_cons (pv 0) pk_nil))) (pa_cons (pe_xk (pe_mk c_InvalidName hg hr (by decide) pass0 (pa_cons (pv 0) pa_nil))) (pa_cons pe_str pa_nil))))) pa_nil)))
      (pss_cons (ps_expr (pe_bm PySem.F.plainAttrs_list PySem.F.slot_list_append PySem.F.type_list_append mt_append (pv 1) (pa_cons (pe_tup (pa_cons (pe_mk c_InvalidPart hg hr (by decide) pass0 (pa_cons (pv 0) pa_nil)) (pa_cons (pe_xk (pe_mkW c_InvalidPart hg hr (by decide) pass0 (pk_cons (pv 0) pk_nil))) (pa_cons (pe_xk (pe_mk c_InvalidPart hg hr (by decide) pass0 (pa_cons (pv 0) pa_nil))) (pa_cons pe_str pa_nil))))) pa_nil)))
      (pss_cons (ps_expr (pe_bm PySem.F.plainAttrs_list PySem.F.slot_list_append PySem.F.type_list_append mt_append (pv 1) (pa_cons (pe_tup (pa_cons (pe_mk c_InvalidEdit hg hr (by decide) pass0 (pa_cons (pv 0) pa_nil)) (pa_cons (pe_xk (pe_mkW c_InvalidEdit hg hr (by decide) pass0 (pk_cons (pv 0) pk_nil))) (pa_cons (pe_xk (pe_mk c_InvalidEdit hg hr (by decide) pass0 (pa_cons (pv 0) pa_nil))) (pa_cons pe_str pa_nil))))) pa_nil)))
      (pss_cons (ps_expr (pe_bm PySem.F.plainAttrs_list PySem.F.slot_list_append PySem.F.type_list_append mt_append (pv 1) (pa_cons (pe_tup (pa_cons (pe_mk c_InvalidChange hg hr (by decide) pass0 (pa_cons (pv 0) pa_nil)) (pa_cons (pe_xk (pe_mkW c_InvalidChange hg hr (by decide) pass0 (pk_cons (pv 0) pk_nil))) (pa_cons (pe_xk (pe_mk c_InvalidChange hg hr (by decide) pass0 (pa_cons (pv 0) pa_nil))) (pa_cons pe_str pa_nil))))) pa_nil)))
      (pss_cons (ps_expr (pe_bm PySem.F.plainAttrs_list PySem.F.slot_list_append PySem.F.type_list_append mt_append (pv 1) (pa_cons (pe_tup (pa_cons (pe_mk c_InvalidProgram hg hr (by decide) pass0 (pa_cons (pv 0) pa_nil)) (pa_cons (pe_xk (pe_mkW c_InvalidProgram hg hr (by decide) pass0 (pk_cons (pv 0) pk_nil))) (pa_cons (pe_xk (pe_mk c_InvalidProgram hg hr (by decide) pass0 (pa_cons (pv 0) pa_nil))) (pa_cons pe_str pa_nil))))) pa_nil)))
      (pss_cons (ps_expr (pe_bm PySem.F.plainAttrs_list PySem.F.slot_list_append PySem.F.type_list_append mt_append (pv 1) (pa_cons (pe_tup (pa_cons (pe_mk c_InvalidRun hg hr (by decide) pass0 (pa_cons (pv 0) pa_nil)) (pa_cons (pe_xk (pe_mkW c_InvalidRun hg hr (by decide) pass0 (pk_cons (pv 0) pk_nil))) (pa_cons (pe_xk (pe_mk c_InvalidRun hg hr (by decide) pass0 (pa_cons (pv 0) pa_nil))) (pa_cons pe_str pa_nil))))) pa_nil)))
      (pss_cons (ps_expr (pe_bm PySem.F.plainAttrs_list PySem.F.slot_list_append PySem.F.type_list_append mt_append (pv 1) (pa_cons (pe_tup (pa_cons (pe_mk c_NoExchange hg hr (by decide) pass0 (pa_cons (pv 0) pa_nil)) (pa_cons (pe_xk (pe_mkW c_NoExchange hg hr (by decide) pass0 (pk_cons (pv 0) pk_nil))) (pa_cons (pe_xk (pe_mk c_NoExchange hg hr (by decide) pass0 (pa_cons (pv 0) pa_nil))) (pa_cons pe_str pa_nil))))) pa_nil)))
      (pss_cons (ps_expr (pe_bm PySem.F.plainAttrs_list PySem.F.slot_list_append PySem.F.type_list_append mt_append (pv 1) (pa_cons (pe_tup (pa_cons (pe_mk c_NoMirror hg hr (by decide) pass0 (pa_cons (pv 0) pa_nil)) (pa_cons (pe_xk (pe_mkW c_NoMirror hg hr (by decide) pass0 (pk_cons (pv 0) pk_nil))) (pa_cons (pe_xk (pe_mk c_NoMirror hg hr (by decide) pass0 (pa_cons (pv 0) pa_nil))) (pa_cons pe_str pa_nil))))) pa_nil)))
      (pss_cons (ps_expr (pe_bm PySem.F.plainAttrs_list PySem.F.slot_list_append PySem.F.type_list_append mt_append (pv 1) (pa_cons (pe_tup (pa_cons (pe_mk c_NoBack hg hr (by decide) pass0 (pa_cons (pv 0) pa_nil)) (pa_cons (pe_xk (pe_mkW c_NoBack hg hr (by decide) pass0 (pk_cons (pv 0) pk_nil))) (pa_cons (pe_xk (pe_mk c_NoBack hg hr (by decide) pass0 (pa_cons (pv 0) pa_nil))) (pa_cons pe_str pa_nil))))) pa_nil)))
      (pss_one (ps_ret (pv 1))))))))))))))))))))), ?_⟩
    refine seq_asg ⟨few_len (Nat.zero_le _), fun q hq => ?_⟩
    have S0 : Rws K H (upd H q (.lst [])) q v 0 := ⟨hq, same_new hq, [], upd_same, rfl, fun r hr => nomatch hr⟩
    refine row_step (ev_mk1 (ev_var rfl)) (ev_get c_InvalidOld.T (c_InvalidOld.no _ (by simp)) (ev_mkW1 (ev_var rfl)) (by first | rfl | (simp [List.lookup]; done))) (ev_get c_InvalidOld.T (c_InvalidOld.no _ (by simp)) (ev_mk1 (ev_var rfl)) (by first | rfl | (simp [List.lookup]; done))) c_InvalidOld.T o_InvalidOld (by simp) .value S0 (by decide) rfl fun H1 x1 S1 => ?_
    refine row_step (ev_mk1 (ev_var rfl)) (ev_get c_InvalidNew.T (c_InvalidNew.no _ (by simp)) (ev_mkW1 (ev_var rfl)) (by first | rfl | (simp [List.lookup]; done))) (ev_get c_InvalidNew.T (c_InvalidNew.no _ (by simp)) (ev_mk1 (ev_var rfl)) (by first | rfl | (simp [List.lookup]; done))) c_InvalidNew.T o_InvalidNew (by simp) .value S1 (by decide) rfl fun H2 x2 S2 => ?_
    refine row_step (ev_mk1 (ev_var rfl)) (ev_get c_InvalidText.T (c_InvalidText.no _ (by simp)) (ev_mkW1 (ev_var rfl)) (by first | rfl | (simp [List.lookup]; done))) (ev_get c_InvalidText.T (c_InvalidText.no _ (by simp)) (ev_mk1 (ev_var rfl)) (by first | rfl | (simp [List.lookup]; done))) c_InvalidText.T o_InvalidText (by simp) .value S2 (by decide) rfl fun H3 x3 S3 => ?_
    refine row_step (ev_mk1 (ev_var rfl)) (ev_get c_InvalidTable.T (c_InvalidTable.no _ (by simp)) (ev_mkW1 (ev_var rfl)) (by first | rfl | (simp [List.lookup]; done))) (ev_get c_InvalidTable.T (c_InvalidTable.no _ (by simp)) (ev_mk1 (ev_var rfl)) (by first | rfl | (simp [List.lookup]; done))) c_InvalidTable.T o_InvalidTable (by simp) .value S3 (by decide) rfl fun H4 x4 S4 => ?_
    refine row_step (ev_mk1 (ev_var rfl)) (ev_get c_InvalidCount.T (c_InvalidCount.no _ (by simp)) (ev_mkW1 (ev_var rfl)) (by first | rfl | (simp [List.lookup]; done))) (ev_get c_InvalidCount.T (c_InvalidCount.no _ (by simp)) (ev_mk1 (ev_var rfl)) (by first | rfl | (simp [List.lookup]; done))) c_InvalidCount.T o_InvalidCount (by simp) .value S4 (by decide) rfl fun H5 x5 S5 => ?_
    refine row_step (ev_mk1 (ev_var rfl)) (ev_get c_InvalidSpot.T (c_InvalidSpot.no _ (by simp)) (ev_mkW1 (ev_var rfl)) (by first | rfl | (simp [List.lookup]; done))) (ev_get c_InvalidSpot.T (c_InvalidSpot.no _ (by simp)) (ev_mk1 (ev_var rfl)) (by first | rfl | (simp [List.lookup]; done))) c_InvalidSpot.T o_InvalidSpot (by simp) .value S5 (by decide) rfl fun H6 x6 S6 => ?_
    refine row_step (ev_mk1 (ev_var rfl)) (ev_get c_InvalidHand.T (c_InvalidHand.no _ (by simp)) (ev_mkW1 (ev_var rfl)) (by first | rfl | (simp [List.lookup]; done))) (ev_get c_InvalidHand.T (c_InvalidHand.no _ (by simp)) (ev_mk1 (ev_var rfl)) (by first | rfl | (simp [List.lookup]; done))) c_InvalidHand.T o_InvalidHand (by simp) .value S6 (by decide) rfl fun H7 x7 S7 => ?_
    refine row_step (ev_mk1 (ev_var rfl)) (ev_get c_InvalidFiles.T (c_InvalidFiles.no _ (by simp)) (ev_mkW1 (ev_var rfl)) (by first | rfl | (simp [List.lookup]; done))) (ev_get c_InvalidFiles.T (c_InvalidFiles.no _ (by simp)) (ev_mk1 (ev_var rfl)) (by first | rfl | (simp [List.lookup]; done))) c_InvalidFiles.T o_InvalidFiles (by simp) .value S7 (by decide) rfl fun H8 x8 S8 => ?_
    refine row_step (ev_mk1 (ev_var rfl)) (ev_get c_InvalidName.T (c_InvalidName.no _ (by simp)) (ev_mkW1 (ev_var rfl)) (by first | rfl | (simp [List.lookup]; done))) (ev_get c_InvalidName.T (c_InvalidName.no _ (by simp)) (ev_mk1 (ev_var rfl)) (by first | rfl | (simp [List.lookup]; done))) c_InvalidName.T o_InvalidName (by simp) .value S8 (by decide) rfl fun H9 x9 S9 => ?_
    refine row_step (ev_mk1 (ev_var rfl)) (ev_get c_InvalidPart.T (c_InvalidPart.no _ (by simp)) (ev_mkW1 (ev_var rfl)) (by first | rfl | (simp [List.lookup]; done))) (ev_get c_InvalidPart.T (c_InvalidPart.no _ (by simp)) (ev_mk1 (ev_var rfl)) (by first | rfl | (simp [List.lookup]; done))) c_InvalidPart.T o_InvalidPart (by simp) .value S9 (by decide) rfl fun H10 x10 S10 => ?_
    refine row_step (ev_mk1 (ev_var rfl)) (ev_get c_InvalidEdit.T (c_InvalidEdit.no _ (by simp)) (ev_mkW1 (ev_var rfl)) (by first | rfl | (simp [List.lookup]; done))) (ev_get c_InvalidEdit.T (c_InvalidEdit.no _ (by simp)) (ev_mk1 (ev_var rfl)) (by first | rfl | (simp [List.lookup]; done))) c_InvalidEdit.T o_InvalidEdit (by simp) .value S10 (by decide) rfl fun H11 x11 S11 => ?_
    refine row_step (ev_mk1 (ev_var rfl)) (ev_get c_InvalidChange.T (c_InvalidChange.no _ (by simp)) (ev_mkW1 (ev_var rfl)) (by first | rfl | (simp [List.lookup]; done))) (ev_get c_InvalidChange.T (c_InvalidChange.no _ (by simp)) (ev_mk1 (ev_var rfl)) (by first | rfl | (simp [List.lookup]; done))) c_InvalidChange.T o_InvalidChange (by simp) .value S11 (by decide) rfl fun H12 x12 S12 => ?_
    refine row_step (ev_mk1 (ev_var rfl)) (ev_get c_InvalidProgram.T (c_InvalidProgram.no _ (by simp)) (ev_mkW1 (ev_var rfl)) (by first | rfl | (simp [List.lookup]; done))) (ev_get c_InvalidProgram.T (c_InvalidProgram.no _ (by simp)) (ev_mk1 (ev_var rfl)) (by first | rfl | (simp [List.lookup]; done))) c_InvalidProgram.T o_InvalidProgram (by simp) .value S12 (by decide) rfl fun H13 x13 S13 => ?_
    refine row_step (ev_mk1 (ev_var rfl)) (ev_get c_InvalidRun.T (c_InvalidRun.no _ (by simp)) (ev_mkW1 (ev_var rfl)) (by first | rfl | (simp [List.lookup]; done))) (ev_get c_InvalidRun.T (c_InvalidRun.no _ (by simp)) (ev_mk1 (ev_var rfl)) (by first | rfl | (simp [List.lookup]; done))) c_InvalidRun.T o_InvalidRun (by simp) .value S13 (by decide) rfl fun H14 x14 S14 => ?_
    refine row_step (ev_mk1 (ev_var rfl)) (ev_get c_NoExchange.T (c_NoExchange.no _ (by simp)) (ev_mkW1 (ev_var rfl)) (by first | rfl | (simp [List.lookup]; done))) (ev_get c_NoExchange.T (c_NoExchange.no _ (by simp)) (ev_mk1 (ev_var rfl)) (by first | rfl | (simp [List.lookup]; done))) c_NoExchange.T o_NoExchange (by simp) .value S14 (by decide) rfl fun H15 x15 S15 => ?_
    refine row_step (ev_mk1 (ev_var rfl)) (ev_get c_NoMirror.T (c_NoMirror.no _ (by simp)) (ev_mkW1 (ev_var rfl)) (by first | rfl | (simp [List.lookup]; done))) (ev_get c_NoMirror.T (c_NoMirror.no _ (by simp)) (ev_mk1 (ev_var rfl)) (by first | rfl | (simp [List.lookup]; done))) c_NoMirror.T o_NoMirror (by simp) .value S15 (by decide) rfl fun H16 x16 S16 => ?_
    refine row_step (ev_mk1 (ev_var rfl)) (ev_get c_NoBack.T (c_NoBack.no _ (by simp)) (ev_mkW1 (ev_var rfl)) (by first | rfl | (simp [List.lookup]; done))) (ev_get c_NoBack.T (c_NoBack.no _ (by simp)) (ev_mk1 (ev_var rfl)) (by first | rfl | (simp [List.lookup]; done))) c_NoBack.T o_NoBack (by simp) .value S16 (by decide) rfl fun H17 x17 S17 => ?_
    obtain ⟨_, same, xs, hq, hl, hx⟩ := S17
    exact ⟨_, rfl, k q xs _ same hq (by omega) hx⟩

abbrev s_lother_errors : Stmt := top 50
theorem sc_lother_errors : FnScope ["_law_thing", "_law_found", "_law_error"] ["_law_thing"] (defScope s_lother_errors) := ⟨rfl, rfl, rfl, by decide +kernel, rfl, by decide +kernel, by decide +kernel⟩
theorem b_lother_errors {f : Addr} {fd : FuncData} (F : Fun K "_law_other_errors" "_law_other_errors" s_lother_errors f fd) (T : Txt mg)
    {C_Unbounded : Addr} (c_Unbounded : ClsI P w K mg base 1 "Unbounded" C_Unbounded ["index"]) (o_Unbounded : One K C_Unbounded "Unbounded" tlV)
    {C_Unreadable : Addr} (c_Unreadable : ClsI P w K mg base 1 "Unreadable" C_Unreadable ["index"]) (o_Unreadable : One K C_Unreadable "Unreadable" tlV)
    {C_InvalidRow : Addr} (c_InvalidRow : ClsI P w K mg base 1 "InvalidRow" C_InvalidRow ["row"]) (o_InvalidRow : One K C_InvalidRow "InvalidRow" tlV)
    {C_Unlike : Addr} (c_Unlike : ClsI P w K mg base 1 "Unlike" C_Unlike []) (o_Unlike : One K C_Unlike "Unlike" tlV)
    {C_NoPlace : Addr} (c_NoPlace : ClsI P w K mg base 1 "NoPlace" C_NoPlace ["index", "number"]) (o_NoPlace : One K C_NoPlace "NoPlace" tlL)
    {C_Overlap : Addr} (c_Overlap : ClsI P w K mg base 1 "Overlap" C_Overlap ["index"]) (o_Overlap : One K C_Overlap "Overlap" tlL)
    {C_OutOfRange : Addr} (c_OutOfRange : ClsI P w K mg base 1 "OutOfRange" C_OutOfRange ["value"]) (o_OutOfRange : One K C_OutOfRange "OutOfRange" tlL)
    {C_NoFile : Addr} (c_NoFile : ClsI P w K mg base 1 "NoFile" C_NoFile ["name"]) (o_NoFile : One K C_NoFile "NoFile" tlL)
    {C_NoLabel : Addr} (c_NoLabel : ClsI P w K mg base 1 "NoLabel" C_NoLabel ["label"]) (o_NoLabel : One K C_NoLabel "NoLabel" tlL)
    {C_TooMany : Addr} (c_TooMany : ClsI P w K mg base 1 "TooMany" C_TooMany ["limit"]) (o_TooMany : One K C_TooMany "TooMany" tlO)
    {C_TooLong : Addr} (c_TooLong : ClsI P w K mg base 1 "TooLong" C_TooLong ["limit"]) (o_TooLong : One K C_TooLong "TooLong" tlO)
    {C_NotRight : Addr} (c_NotRight : ClsI P w K mg base 1 "NotRight" C_NotRight ["hand"]) (o_NotRight : One K C_NotRight "NotRight" tlR)
    {C_Clash : Addr} (c_Clash : ClsI P w K mg base 1 "Clash" C_Clash ["hand", "other"]) (o_Clash : One K C_Clash "Clash" tlR)
    {C_FileNotRight : Addr} (c_FileNotRight : ClsI P w K mg base 1 "FileNotRight" C_FileNotRight ["name", "index"]) (o_FileNotRight : One K C_FileNotRight "FileNotRight" tlR)
    {C_Apart : Addr} (c_Apart : ClsI P w K mg base 1 "Apart" C_Apart ["name"]) (o_Apart : One K C_Apart "Apart" tlR)
    {C_Broken : Addr} (c_Broken : ClsI P w K mg base 1 "Broken" C_Broken ["name"]) (o_Broken : One K C_Broken "Broken" tlR)
    {C_Unsafe : Addr} (c_Unsafe : ClsI P w K mg base 1 "Unsafe" C_Unsafe ["name", "case"]) (o_Unsafe : One K C_Unsafe "Unsafe" tlR) : FnG P w K mg base CX0 3 f fd ["_law_thing"] (spErrs K) := by
  refine okG0 F sc_lother_errors (fun vs H Q E h => ?_) (fun cdv A outer s H vs Q E hg hr h => ?_)
  · obtain ⟨v, rfl, _⟩ := h
    rfl
  · have hu := hu_of hr
    have hu64 := hr.units
    obtain ⟨v, rfl, k⟩ := h
    have hr2 : Room 2 _ := hr
    refine ⟨_, (pss_cons (ps_set (i := 1) sc_lother_errors.nd rfl (Or.inl rfl) (pe_lst pa_nil))
      (pss_cons (ps_expr (pe_bm PySem.F.plainAttrs_list PySem.F.slot_list_append PySem.F.type_list_append mt_append (pv 1) (pa_cons (pe_tup (pa_cons (pe_mk c_Unbounded hg hr (by decide) pass0 (pa_cons (pv 0) pa_nil)) (pa_cons (pe_xk (pe_mkW c_Unbounded hg hr (by decide) pass0 (pk_cons (pv 0) pk_nil))) (pa_cons (pe_xk (pe_mk c_Unbounded hg hr (by decide) pass0 (pa_cons (pv 0) pa_nil))) (pa_cons pe_str pa_nil))))) pa_nil)))
      (pss_cons (ps_expr (pe_bm PySem.F.plainAttrs_list PySem.F.slot_list_append PySem.F.type_list_append mt_append (pv 1) (pa_cons (pe_tup (pa_cons (pe_mk c_Unreadable hg hr (by decide) pass0 (pa_cons (pv 0) pa_nil)) (pa_cons (pe_xk (pe_mkW c_Unreadable hg hr (by decide) pass0 (pk_cons (pv 0) pk_nil))) (pa_cons (pe_xk (pe_mk c_Unreadable hg hr (by decide) pass0 (pa_cons (pv 0) pa_nil))) (pa_cons pe_str pa_nil))))) pa_nil)))
      (pss_cons (ps_expr (pe_bm PySem.F.plainAttrs_list PySem.F.slot_list_append PySem.F.type_list_append mt_append (pv 1) (pa_cons (pe_tup (pa_cons (pe_mk c_InvalidRow hg hr (by decide) pass0 (pa_cons (pv 0) pa_nil)) (pa_cons (pe_xk (pe_mkW c_InvalidRow hg hr (by decide) pass0 (pk_cons (pv 0) pk_nil))) (pa_cons (pe_xk (pe_mk c_InvalidRow hg hr (by decide) pass0 (pa_cons (pv 0) pa_nil))) (pa_cons pe_str pa_nil))))) pa_nil)))
      (pss_cons (ps_expr (pe_bm PySem.F.plainAttrs_list PySem.F.slot_list_append PySem.F.type_list_append mt_append (pv 1) (pa_cons (pe_tup (pa_cons (pe_mk c_NoPlace hg hr (by decide) pass0 (pa_cons pe_int (pa_cons (pv 0) pa_nil))) (pa_cons (pe_xk (pe_mkW c_NoPlace hg hr (by decide) pass0 (pk_cons (pv 0) (pk_cons pe_int pk_nil)))) (pa_cons (pe_xk (pe_mk c_NoPlace hg hr (by decide) pass0 (pa_cons (pv 0) (pa_cons pe_int pa_nil)))) (pa_cons pe_str pa_nil))))) pa_nil)))
      (pss_cons (ps_expr (pe_bm PySem.F.plainAttrs_list PySem.F.slot_list_append PySem.F.type_list_append mt_append (pv 1) (pa_cons (pe_tup (pa_cons (pe_mk c_Overlap hg hr (by decide) pass0 (pa_cons (pv 0) pa_nil)) (pa_cons (pe_xk (pe_mkW c_Overlap hg hr (by decide) pass0 (pk_cons (pv 0) pk_nil))) (pa_cons (pe_xk (pe_mk c_Overlap hg hr (by decide) pass0 (pa_cons (pv 0) pa_nil))) (pa_cons pe_str pa_nil))))) pa_nil)))
      (pss_cons (ps_expr (pe_bm PySem.F.plainAttrs_list PySem.F.slot_list_append PySem.F.type_list_append mt_append (pv 1) (pa_cons (pe_tup (pa_cons (pe_mk c_OutOfRange hg hr (by decide) pass0 (pa_cons (pv 0) pa_nil)) (pa_cons (pe_xk (pe_mkW c_OutOfRange hg hr (by decide) pass0 (pk_cons (pv 0) pk_nil))) (pa_cons (pe_xk (pe_mk c_OutOfRange hg hr (by decide) pass0 (pa_cons (pv 0) pa_nil))) (pa_cons pe_str pa_nil))))) pa_nil)))
      (pss_cons (ps_expr (pe_bm PySem.F.plainAttrs_list PySem.F.slot_list_append PySem.F.type_list_append mt_append (pv 1) (pa_cons (pe_tup (pa_cons (pe_mk c_NoFile hg hr (by decide) pass0 (pa_cons (pv 0) pa_nil)) (pa_cons (pe_xk (pe_mkW c_NoFile hg hr (by decide) pass0 (pk_cons (pv 0) pk_nil))) (pa_cons (pe_xk (pe_mk c_NoFile hg hr (by decide) pass0 (pa_cons (pv 0) pa_nil))) (pa_cons pe_str pa_nil))))) pa_nil)))
      (pss_cons (ps_expr (pe_bm PySem.F.plainAttrs_list PySem.F.slot_list_append PySem.F.type_list_append mt_append (pv 1) (pa_cons (pe_tup (pa_cons (pe_mk c_NoLabel hg hr (by decide) pass0 (pa_cons (pv 0) pa_nil)) (pa_cons (pe_xk (pe_mkW c_NoLabel hg hr (by decide) pass0 (pk_cons (pv 0) pk_nil))) (pa_cons (pe_xk (pe_mk c_NoLabel hg hr (by decide) pass0 (pa_cons (pv 0) pa_nil))) (pa_cons pe_str pa_nil))))) pa_nil)))
      (pss_cons (ps_expr (pe_bm PySem.F.plainAttrs_list PySem.F.slot_list_append PySem.F.type_list_append mt_append (pv 1) (pa_cons (pe_tup (pa_cons (pe_mk c_TooMany hg hr (by decide) pass0 (pa_cons (pv 0) pa_nil)) (pa_cons (pe_xk (pe_mkW c_TooMany hg hr (by decide) pass0 (pk_cons (pv 0) pk_nil))) (pa_cons (pe_xk (pe_mk c_TooMany hg hr (by decide) pass0 (pa_cons (pv 0) pa_nil))) (pa_cons pe_str pa_nil))))) pa_nil)))
      (pss_cons (ps_expr (pe_bm PySem.F.plainAttrs_list PySem.F.slot_list_append PySem.F.type_list_append mt_append (pv 1) (pa_cons (pe_tup (pa_cons (pe_mk c_TooLong hg hr (by decide) pass0 (pa_cons (pv 0) pa_nil)) (pa_cons (pe_xk (pe_mkW c_TooLong hg hr (by decide) pass0 (pk_cons (pv 0) pk_nil))) (pa_cons (pe_xk (pe_mk c_TooLong hg hr (by decide) pass0 (pa_cons (pv 0) pa_nil))) (pa_cons pe_str pa_nil))))) pa_nil)))
      (pss_cons (ps_expr (pe_bm PySem.F.plainAttrs_list PySem.F.slot_list_append PySem.F.type_list_append mt_append (pv 1) (pa_cons (pe_tup (pa_cons (pe_mk c_NotRight hg hr (by decide) pass0 (pa_cons (pv 0) pa_nil)) (pa_cons (pe_xk (pe_mkW c_NotRight hg hr (by decide) pass0 (pk_cons (pv 0) pk_nil))) (pa_cons (pe_xk (pe_mk c_NotRight hg hr (by decide) pass0 (pa_cons (pv 0) pa_nil))) (pa_cons pe_str pa_nil))))) pa_nil)))
      (pss_cons (ps_expr (pe_bm PySem.F.plainAttrs_list PySem.F.slot_list_append PySem.F.type_list_append mt_append (pv 1) (pa_cons (pe_tup (pa_cons (pe_mk c_Clash hg hr (by decide) pass0 (pa_cons pe_int (pa_cons (pv 0) pa_nil))) (pa_cons (pe_xk (pe_mkW c_Clash hg hr (by decide) pass0 (pk_cons (pv 0) (pk_cons pe_int pk_nil)))) (pa_cons (pe_xk (pe_mk c_Clash hg hr (by decide) pass0 (pa_cons (pv 0) (pa_cons pe_int pa_nil)))) (pa_cons pe_str pa_nil))))) pa_nil)))
      (pss_cons (ps_set (i := 2) sc_lother_errors.nd rfl (Or.inl rfl) (pe_mkW c_FileNotRight hg hr (by decide) pass0 (pk_cons (pv 0) (pk_cons pe_int pk_nil))))
      (pss_cons (ps_expr (pe_bm PySem.F.plainAttrs_list PySem.F.slot_list_append PySem.F.type_list_append mt_append (pv 1) (pa_cons (pe_tup (pa_cons (pe_mk c_FileNotRight hg hr (by decide) pass0 (pa_cons pe_int (pa_cons (pv 0) pa_nil))) (pa_cons (pe_xk (pv 2)) (pa_cons (pe_xk (pe_mk c_FileNotRight hg hr (by decide) pass0 (pa_cons (pv 0) (pa_cons pe_int pa_nil)))) (pa_cons pe_str pa_nil))))) pa_nil)))
      (pss_cons (ps_expr (pe_bm PySem.F.plainAttrs_list PySem.F.slot_list_append PySem.F.type_list_append mt_append (pv 1) (pa_cons (pe_tup (pa_cons (pe_mk c_Apart hg hr (by decide) pass0 (pa_cons (pv 0) pa_nil)) (pa_cons (pe_xk (pe_mkW c_Apart hg hr (by decide) pass0 (pk_cons (pv 0) pk_nil))) (pa_cons (pe_xk (pe_mk c_Apart hg hr (by decide) pass0 (pa_cons (pv 0) pa_nil))) (pa_cons pe_str pa_nil))))) pa_nil)))
      (pss_cons (ps_expr (pe_bm PySem.F.plainAttrs_list PySem.F.slot_list_append PySem.F.type_list_append mt_append (pv 1) (pa_cons (pe_tup (pa_cons (pe_mk c_Broken hg hr (by decide) pass0 (pa_cons (pv 0) pa_nil)) (pa_cons (pe_xk (pe_mkW c_Broken hg hr (by decide) pass0 (pk_cons (pv 0) pk_nil))) (pa_cons (pe_xk (pe_mk c_Broken hg hr (by decide) pass0 (pa_cons (pv 0) pa_nil))) (pa_cons pe_str pa_nil))))) pa_nil)))
      (pss_cons (ps_expr (pe_bm PySem.F.plainAttrs_list PySem.F.slot_list_append PySem.F.type_list_append mt_append (pv 1) (pa_cons (pe_tup (pa_cons (pe_mk c_Unsafe hg hr (by decide) pass0 (pa_cons pe_int (pa_cons (pv 0) pa_nil))) (pa_cons (pe_xk (pe_mkW c_Unsafe hg hr (by decide) pass0 (pk_cons (pv 0) (pk_cons pe_int pk_nil)))) (pa_cons (pe_xk (pe_mk c_Unsafe hg hr (by decide) pass0 (pa_cons (pv 0) (pa_cons pe_int pa_nil)))) (pa_cons pe_str pa_nil))))) pa_nil)))
      (pss_cons (ps_expr (pe_bm PySem.F.plainAttrs_list PySem.F.slot_list_append PySem.F.type_list_append mt_append (pv 1) (pa_cons (pe_tup (pa_cons (pe_mk0 c_Unlike hg hr (by decide) pass0) (pa_cons (pv 0) (pa_cons (pv 0) (pa_cons pe_str pa_nil))))) pa_nil)))
      (pss_one (ps_ret (pv 1)))))))))))))))))))))), ?_⟩
    refine seq_asg ⟨few_len (Nat.zero_le _), fun q hq => ?_⟩
    have S0 : Rws K H (upd H q (.lst [])) q v 0 := ⟨hq, same_new hq, [], upd_same, rfl, fun r hr => nomatch hr⟩
    refine row_step (ev_mk1 (ev_var rfl)) (ev_get c_Unbounded.T (c_Unbounded.no _ (by simp)) (ev_mkW1 (ev_var rfl)) (by first | rfl | (simp [List.lookup]; done))) (ev_get c_Unbounded.T (c_Unbounded.no _ (by simp)) (ev_mk1 (ev_var rfl)) (by first | rfl | (simp [List.lookup]; done))) c_Unbounded.T o_Unbounded (by simp) .value S0 (by decide) rfl fun H1 x1 S1 => ?_
    refine row_step (ev_mk1 (ev_var rfl)) (ev_get c_Unreadable.T (c_Unreadable.no _ (by simp)) (ev_mkW1 (ev_var rfl)) (by first | rfl | (simp [List.lookup]; done))) (ev_get c_Unreadable.T (c_Unreadable.no _ (by simp)) (ev_mk1 (ev_var rfl)) (by first | rfl | (simp [List.lookup]; done))) c_Unreadable.T o_Unreadable (by simp) .value S1 (by decide) rfl fun H2 x2 S2 => ?_
    refine row_step (ev_mk1 (ev_var rfl)) (ev_get c_InvalidRow.T (c_InvalidRow.no _ (by simp)) (ev_mkW1 (ev_var rfl)) (by first | rfl | (simp [List.lookup]; done))) (ev_get c_InvalidRow.T (c_InvalidRow.no _ (by simp)) (ev_mk1 (ev_var rfl)) (by first | rfl | (simp [List.lookup]; done))) c_InvalidRow.T o_InvalidRow (by simp) .value S2 (by decide) rfl fun H3 x3 S3 => ?_
    refine row_step (ev_mk2 ev_int (ev_var rfl)) (ev_get c_NoPlace.T (c_NoPlace.no _ (by simp)) (ev_mkW2 (ev_var rfl) ev_int) (by first | rfl | (simp [List.lookup]; done))) (ev_get c_NoPlace.T (c_NoPlace.no _ (by simp)) (ev_mk2 (ev_var rfl) ev_int) (by first | rfl | (simp [List.lookup]; done))) c_NoPlace.T o_NoPlace (by simp) .lookup S3 (by decide) rfl fun H4 x4 S4 => ?_
    refine row_step (ev_mk1 (ev_var rfl)) (ev_get c_Overlap.T (c_Overlap.no _ (by simp)) (ev_mkW1 (ev_var rfl)) (by first | rfl | (simp [List.lookup]; done))) (ev_get c_Overlap.T (c_Overlap.no _ (by simp)) (ev_mk1 (ev_var rfl)) (by first | rfl | (simp [List.lookup]; done))) c_Overlap.T o_Overlap (by simp) .lookup S4 (by decide) rfl fun H5 x5 S5 => ?_
    refine row_step (ev_mk1 (ev_var rfl)) (ev_get c_OutOfRange.T (c_OutOfRange.no _ (by simp)) (ev_mkW1 (ev_var rfl)) (by first | rfl | (simp [List.lookup]; done))) (ev_get c_OutOfRange.T (c_OutOfRange.no _ (by simp)) (ev_mk1 (ev_var rfl)) (by first | rfl | (simp [List.lookup]; done))) c_OutOfRange.T o_OutOfRange (by simp) .lookup S5 (by decide) rfl fun H6 x6 S6 => ?_
    refine row_step (ev_mk1 (ev_var rfl)) (ev_get c_NoFile.T (c_NoFile.no _ (by simp)) (ev_mkW1 (ev_var rfl)) (by first | rfl | (simp [List.lookup]; done))) (ev_get c_NoFile.T (c_NoFile.no _ (by simp)) (ev_mk1 (ev_var rfl)) (by first | rfl | (simp [List.lookup]; done))) c_NoFile.T o_NoFile (by simp) .lookup S6 (by decide) rfl fun H7 x7 S7 => ?_
    refine row_step (ev_mk1 (ev_var rfl)) (ev_get c_NoLabel.T (c_NoLabel.no _ (by simp)) (ev_mkW1 (ev_var rfl)) (by first | rfl | (simp [List.lookup]; done))) (ev_get c_NoLabel.T (c_NoLabel.no _ (by simp)) (ev_mk1 (ev_var rfl)) (by first | rfl | (simp [List.lookup]; done))) c_NoLabel.T o_NoLabel (by simp) .lookup S7 (by decide) rfl fun H8 x8 S8 => ?_
    refine row_step (ev_mk1 (ev_var rfl)) (ev_get c_TooMany.T (c_TooMany.no _ (by simp)) (ev_mkW1 (ev_var rfl)) (by first | rfl | (simp [List.lookup]; done))) (ev_get c_TooMany.T (c_TooMany.no _ (by simp)) (ev_mk1 (ev_var rfl)) (by first | rfl | (simp [List.lookup]; done))) c_TooMany.T o_TooMany (by simp) .overflow S8 (by decide) rfl fun H9 x9 S9 => ?_
    refine row_step (ev_mk1 (ev_var rfl)) (ev_get c_TooLong.T (c_TooLong.no _ (by simp)) (ev_mkW1 (ev_var rfl)) (by first | rfl | (simp [List.lookup]; done))) (ev_get c_TooLong.T (c_TooLong.no _ (by simp)) (ev_mk1 (ev_var rfl)) (by first | rfl | (simp [List.lookup]; done))) c_TooLong.T o_TooLong (by simp) .overflow S9 (by decide) rfl fun H10 x10 S10 => ?_
    refine row_step (ev_mk1 (ev_var rfl)) (ev_get c_NotRight.T (c_NotRight.no _ (by simp)) (ev_mkW1 (ev_var rfl)) (by first | rfl | (simp [List.lookup]; done))) (ev_get c_NotRight.T (c_NotRight.no _ (by simp)) (ev_mk1 (ev_var rfl)) (by first | rfl | (simp [List.lookup]; done))) c_NotRight.T o_NotRight (by simp) .runtime S10 (by decide) rfl fun H11 x11 S11 => ?_
    refine row_step (ev_mk2 ev_int (ev_var rfl)) (ev_get c_Clash.T (c_Clash.no _ (by simp)) (ev_mkW2 (ev_var rfl) ev_int) (by first | rfl | (simp [List.lookup]; done))) (ev_get c_Clash.T (c_Clash.no _ (by simp)) (ev_mk2 (ev_var rfl) ev_int) (by first | rfl | (simp [List.lookup]; done))) c_Clash.T o_Clash (by simp) .runtime S11 (by decide) rfl fun H12 x12 S12 => ?_
    refine seq_asg ((ev_mkW2 (ev_var rfl) ev_int) _ _ Same.rfl fun e9 H9 s9 ev9 => ?_)
    replace S12 := S12.grow s9
    refine row_step (ev_mk2 ev_int (ev_var rfl)) (ev_get c_FileNotRight.T (c_FileNotRight.no _ (by simp)) (ev_held rfl ev9) (by first | rfl | (simp [List.lookup]; done))) (ev_get c_FileNotRight.T (c_FileNotRight.no _ (by simp)) (ev_mk2 (ev_var rfl) ev_int) (by first | rfl | (simp [List.lookup]; done))) c_FileNotRight.T o_FileNotRight (by simp) .runtime S12 (by decide) rfl fun H13 x13 S13 => ?_
    refine row_step (ev_mk1 (ev_var rfl)) (ev_get c_Apart.T (c_Apart.no _ (by simp)) (ev_mkW1 (ev_var rfl)) (by first | rfl | (simp [List.lookup]; done))) (ev_get c_Apart.T (c_Apart.no _ (by simp)) (ev_mk1 (ev_var rfl)) (by first | rfl | (simp [List.lookup]; done))) c_Apart.T o_Apart (by simp) .runtime S13 (by decide) rfl fun H14 x14 S14 => ?_
    refine row_step (ev_mk1 (ev_var rfl)) (ev_get c_Broken.T (c_Broken.no _ (by simp)) (ev_mkW1 (ev_var rfl)) (by first | rfl | (simp [List.lookup]; done))) (ev_get c_Broken.T (c_Broken.no _ (by simp)) (ev_mk1 (ev_var rfl)) (by first | rfl | (simp [List.lookup]; done))) c_Broken.T o_Broken (by simp) .runtime S14 (by decide) rfl fun H15 x15 S15 => ?_
    refine row_step (ev_mk2 ev_int (ev_var rfl)) (ev_get c_Unsafe.T (c_Unsafe.no _ (by simp)) (ev_mkW2 (ev_var rfl) ev_int) (by first | rfl | (simp [List.lookup]; done))) (ev_get c_Unsafe.T (c_Unsafe.no _ (by simp)) (ev_mk2 (ev_var rfl) ev_int) (by first | rfl | (simp [List.lookup]; done))) c_Unsafe.T o_Unsafe (by simp) .runtime S15 (by decide) rfl fun H16 x16 S16 => ?_
    refine row_step ev_mk0 (ev_var rfl) (ev_var rfl) c_Unlike.T o_Unlike (by simp) .value S16 (by decide) rfl fun H17 x17 S17 => ?_
    obtain ⟨_, same, xs, hq, hl, hx⟩ := S17
    exact ⟨_, rfl, k q xs _ same hq (by omega) hx⟩

end
end Vk
set_option Elab.async false
set_option maxRecDepth 100000
set_option linter.all false
namespace Vk
open PySem PySem.Spec PyProof.Rows L2
section
variable {P : Program} {w : World} {K : PySem.W.Frag} {mg : Str → Option Value} {base : Heap}
abbrev s_lclasses : Stmt := top 51
theorem sc_lclasses : FnScope ["_law_error", "_law_found"] ["_law_error"] (defScope s_lclasses) := ⟨rfl, rfl, rfl, by decide +kernel, rfl, by decide +kernel, by decide +kernel⟩
theorem b_lclasses {f : Addr} {fd : FuncData} (F : Fun K "_law_classes" "_law_classes" s_lclasses f fd) (T : Txt mg)
    {C_InvalidOld : Addr} (c_InvalidOld : ClsI P w K mg base 1 "InvalidOld" C_InvalidOld ["value"]) (o_InvalidOld : One K C_InvalidOld "InvalidOld" tlV)
    {C_InvalidNew : Addr} (c_InvalidNew : ClsI P w K mg base 1 "InvalidNew" C_InvalidNew ["value"]) (o_InvalidNew : One K C_InvalidNew "InvalidNew" tlV)
    {C_InvalidText : Addr} (c_InvalidText : ClsI P w K mg base 1 "InvalidText" C_InvalidText ["value"]) (o_InvalidText : One K C_InvalidText "InvalidText" tlV)
    {C_InvalidTable : Addr} (c_InvalidTable : ClsI P w K mg base 1 "InvalidTable" C_InvalidTable ["value"]) (o_InvalidTable : One K C_InvalidTable "InvalidTable" tlV)
    {C_InvalidCount : Addr} (c_InvalidCount : ClsI P w K mg base 1 "InvalidCount" C_InvalidCount ["value"]) (o_InvalidCount : One K C_InvalidCount "InvalidCount" tlV)
    {C_InvalidSpot : Addr} (c_InvalidSpot : ClsI P w K mg base 1 "InvalidSpot" C_InvalidSpot ["value"]) (o_InvalidSpot : One K C_InvalidSpot "InvalidSpot" tlV)
    {C_InvalidHand : Addr} (c_InvalidHand : ClsI P w K mg base 1 "InvalidHand" C_InvalidHand ["value"]) (o_InvalidHand : One K C_InvalidHand "InvalidHand" tlV)
    {C_InvalidFiles : Addr} (c_InvalidFiles : ClsI P w K mg base 1 "InvalidFiles" C_InvalidFiles ["value"]) (o_InvalidFiles : One K C_InvalidFiles "InvalidFiles" tlV)
    {C_InvalidName : Addr} (c_InvalidName : ClsI P w K mg base 1 "InvalidName" C_InvalidName ["value"]) (o_InvalidName : One K C_InvalidName "InvalidName" tlV)
    {C_InvalidPart : Addr} (c_InvalidPart : ClsI P w K mg base 1 "InvalidPart" C_InvalidPart ["index"]) (o_InvalidPart : One K C_InvalidPart "InvalidPart" tlV)
    {C_InvalidEdit : Addr} (c_InvalidEdit : ClsI P w K mg base 1 "InvalidEdit" C_InvalidEdit ["index"]) (o_InvalidEdit : One K C_InvalidEdit "InvalidEdit" tlV)
    {C_InvalidChange : Addr} (c_InvalidChange : ClsI P w K mg base 1 "InvalidChange" C_InvalidChange ["index"]) (o_InvalidChange : One K C_InvalidChange "InvalidChange" tlV)
    {C_InvalidProgram : Addr} (c_InvalidProgram : ClsI P w K mg base 1 "InvalidProgram" C_InvalidProgram ["index"]) (o_InvalidProgram : One K C_InvalidProgram "InvalidProgram" tlV)
    {C_InvalidRun : Addr} (c_InvalidRun : ClsI P w K mg base 1 "InvalidRun" C_InvalidRun ["index"]) (o_InvalidRun : One K C_InvalidRun "InvalidRun" tlV)
    {C_NoExchange : Addr} (c_NoExchange : ClsI P w K mg base 1 "NoExchange" C_NoExchange ["index"]) (o_NoExchange : One K C_NoExchange "NoExchange" tlV)
    {C_NoMirror : Addr} (c_NoMirror : ClsI P w K mg base 1 "NoMirror" C_NoMirror ["index"]) (o_NoMirror : One K C_NoMirror "NoMirror" tlV)
    {C_NoBack : Addr} (c_NoBack : ClsI P w K mg base 1 "NoBack" C_NoBack ["index"]) (o_NoBack : One K C_NoBack "NoBack" tlV)
    {C_Unbounded : Addr} (c_Unbounded : ClsI P w K mg base 1 "Unbounded" C_Unbounded ["index"]) (o_Unbounded : One K C_Unbounded "Unbounded" tlV)
    {C_Unreadable : Addr} (c_Unreadable : ClsI P w K mg base 1 "Unreadable" C_Unreadable ["index"]) (o_Unreadable : One K C_Unreadable "Unreadable" tlV)
    {C_InvalidRow : Addr} (c_InvalidRow : ClsI P w K mg base 1 "InvalidRow" C_InvalidRow ["row"]) (o_InvalidRow : One K C_InvalidRow "InvalidRow" tlV)
    {C_Unlike : Addr} (c_Unlike : ClsI P w K mg base 1 "Unlike" C_Unlike []) (o_Unlike : One K C_Unlike "Unlike" tlV)
    {C_NoPlace : Addr} (c_NoPlace : ClsI P w K mg base 1 "NoPlace" C_NoPlace ["index", "number"]) (o_NoPlace : One K C_NoPlace "NoPlace" tlL)
    {C_Overlap : Addr} (c_Overlap : ClsI P w K mg base 1 "Overlap" C_Overlap ["index"]) (o_Overlap : One K C_Overlap "Overlap" tlL)
    {C_OutOfRange : Addr} (c_OutOfRange : ClsI P w K mg base 1 "OutOfRange" C_OutOfRange ["value"]) (o_OutOfRange : One K C_OutOfRange "OutOfRange" tlL)
    {C_NoFile : Addr} (c_NoFile : ClsI P w K mg base 1 "NoFile" C_NoFile ["name"]) (o_NoFile : One K C_NoFile "NoFile" tlL)
    {C_NoLabel : Addr} (c_NoLabel : ClsI P w K mg base 1 "NoLabel" C_NoLabel ["label"]) (o_NoLabel : One K C_NoLabel "NoLabel" tlL)
    {C_TooMany : Addr} (c_TooMany : ClsI P w K mg base 1 "TooMany" C_TooMany ["limit"]) (o_TooMany : One K C_TooMany "TooMany" tlO)
    {C_TooLong : Addr} (c_TooLong : ClsI P w K mg base 1 "TooLong" C_TooLong ["limit"]) (o_TooLong : One K C_TooLong "TooLong" tlO)
    {C_NotRight : Addr} (c_NotRight : ClsI P w K mg base 1 "NotRight" C_NotRight ["hand"]) (o_NotRight : One K C_NotRight "NotRight" tlR)
    {C_Clash : Addr} (c_Clash : ClsI P w K mg base 1 "Clash" C_Clash ["hand", "other"]) (o_Clash : One K C_Clash "Clash" tlR)
    {C_FileNotRight : Addr} (c_FileNotRight : ClsI P w K mg base 1 "FileNotRight" C_FileNotRight ["name", "index"]) (o_FileNotRight : One K C_FileNotRight "FileNotRight" tlR)
    {C_Apart : Addr} (c_Apart : ClsI P w K mg base 1 "Apart" C_Apart ["name"]) (o_Apart : One K C_Apart "Apart" tlR)
    {C_Broken : Addr} (c_Broken : ClsI P w K mg base 1 "Broken" C_Broken ["name"]) (o_Broken : One K C_Broken "Broken" tlR)
    {C_Unsafe : Addr} (c_Unsafe : ClsI P w K mg base 1 "Unsafe" C_Unsafe ["name", "case"]) (o_Unsafe : One K C_Unsafe "Unsafe" tlR) : FnG P w K mg base CX0 3 f fd ["_law_error"] (spClasses K) := by
  refine okG0 F sc_lclasses (fun vs H Q E h => ?_) (fun cdv A outer s H vs Q E hg hr h => ?_)
  · obtain ⟨e, x, z, rfl, _⟩ := h
    rfl
  · have hu := hu_of hr
    have hu64 := hr.units
    obtain ⟨e, x, z, rfl, ⟨C, fs, tl, ev, TC, o, mem, srt⟩, k⟩ := h
    refine ⟨_, (pss_cons (ps_set (i := 1) sc_lclasses.nd rfl (Or.inl rfl) (pe_lst pa_nil))
      (pss_cons (ps_expr (pe_bm PySem.F.plainAttrs_list PySem.F.slot_list_extend PySem.F.type_list_extend mt_extend (pv 1) (pa_cons (pe_lst (pa_cons (pe_callB call_isX (by rfl) T.isinstance (by decide +kernel) (pa_cons (pv 0) (pa_cons (pe_glob (v := .ref C_InvalidOld) (by rfl) c_InvalidOld.hm rfl) pa_nil))) (pa_cons (pe_callB call_isX (by rfl) T.isinstance (by decide +kernel) (pa_cons (pv 0) (pa_cons (pe_glob (v := .ref C_InvalidNew) (by rfl) c_InvalidNew.hm rfl) pa_nil))) pa_nil))) pa_nil)))
      (pss_cons (ps_expr (pe_bm PySem.F.plainAttrs_list PySem.F.slot_list_extend PySem.F.type_list_extend mt_extend (pv 1) (pa_cons (pe_lst (pa_cons (pe_callB call_isX (by rfl) T.isinstance (by decide +kernel) (pa_cons (pv 0) (pa_cons (pe_glob (v := .ref C_InvalidText) (by rfl) c_InvalidText.hm rfl) pa_nil))) (pa_cons (pe_callB call_isX (by rfl) T.isinstance (by decide +kernel) (pa_cons (pv 0) (pa_cons (pe_glob (v := .ref C_InvalidTable) (by rfl) c_InvalidTable.hm rfl) pa_nil))) pa_nil))) pa_nil)))
      (pss_cons (ps_expr (pe_bm PySem.F.plainAttrs_list PySem.F.slot_list_extend PySem.F.type_list_extend mt_extend (pv 1) (pa_cons (pe_lst (pa_cons (pe_callB call_isX (by rfl) T.isinstance (by decide +kernel) (pa_cons (pv 0) (pa_cons (pe_glob (v := .ref C_InvalidCount) (by rfl) c_InvalidCount.hm rfl) pa_nil))) (pa_cons (pe_callB call_isX (by rfl) T.isinstance (by decide +kernel) (pa_cons (pv 0) (pa_cons (pe_glob (v := .ref C_InvalidSpot) (by rfl) c_InvalidSpot.hm rfl) pa_nil))) pa_nil))) pa_nil)))
      (pss_cons (ps_expr (pe_bm PySem.F.plainAttrs_list PySem.F.slot_list_extend PySem.F.type_list_extend mt_extend (pv 1) (pa_cons (pe_lst (pa_cons (pe_callB call_isX (by rfl) T.isinstance (by decide +kernel) (pa_cons (pv 0) (pa_cons (pe_glob (v := .ref C_InvalidHand) (by rfl) c_InvalidHand.hm rfl) pa_nil))) (pa_cons (pe_callB call_isX (by rfl) T.isinstance (by decide +kernel) (pa_cons (pv 0) (pa_cons (pe_glob (v := .ref C_InvalidFiles) (by rfl) c_InvalidFiles.hm rfl) pa_nil))) pa_nil))) pa_nil)))
      (pss_cons (ps_expr (pe_bm PySem.F.plainAttrs_list PySem.F.slot_list_extend PySem.F.type_list_extend mt_extend (pv 1) (pa_cons (pe_lst (pa_cons (pe_callB call_isX (by rfl) T.isinstance (by decide +kernel) (pa_cons (pv 0) (pa_cons (pe_glob (v := .ref C_InvalidName) (by rfl) c_InvalidName.hm rfl) pa_nil))) (pa_cons (pe_callB call_isX (by rfl) T.isinstance (by decide +kernel) (pa_cons (pv 0) (pa_cons (pe_glob (v := .ref C_InvalidPart) (by rfl) c_InvalidPart.hm rfl) pa_nil))) pa_nil))) pa_nil)))
      (pss_cons (ps_expr (pe_bm PySem.F.plainAttrs_list PySem.F.slot_list_extend PySem.F.type_list_extend mt_extend (pv 1) (pa_cons (pe_lst (pa_cons (pe_callB call_isX (by rfl) T.isinstance (by decide +kernel) (pa_cons (pv 0) (pa_cons (pe_glob (v := .ref C_InvalidEdit) (by rfl) c_InvalidEdit.hm rfl) pa_nil))) (pa_cons (pe_callB call_isX (by rfl) T.isinstance (by decide +kernel) (pa_cons (pv 0) (pa_cons (pe_glob (v := .ref C_InvalidChange) (by rfl) c_InvalidChange.hm rfl) pa_nil))) pa_nil))) pa_nil)))
      (pss_cons (ps_expr (pe_bm PySem.F.plainAttrs_list PySem.F.slot_list_extend PySem.F.type_list_extend mt_extend (pv 1) (pa_cons (pe_lst (pa_cons (pe_callB call_isX (by rfl) T.isinstance (by decide +kernel) (pa_cons (pv 0) (pa_cons (pe_glob (v := .ref C_InvalidProgram) (by rfl) c_InvalidProgram.hm rfl) pa_nil))) (pa_cons (pe_callB call_isX (by rfl) T.isinstance (by decide +kernel) (pa_cons (pv 0) (pa_cons (pe_glob (v := .ref C_InvalidRun) (by rfl) c_InvalidRun.hm rfl) pa_nil))) pa_nil))) pa_nil)))
      (pss_cons (ps_expr (pe_bm PySem.F.plainAttrs_list PySem.F.slot_list_extend PySem.F.type_list_extend mt_extend (pv 1) (pa_cons (pe_lst (pa_cons (pe_callB call_isX (by rfl) T.isinstance (by decide +kernel) (pa_cons (pv 0) (pa_cons (pe_glob (v := .ref C_NoExchange) (by rfl) c_NoExchange.hm rfl) pa_nil))) (pa_cons (pe_callB call_isX (by rfl) T.isinstance (by decide +kernel) (pa_cons (pv 0) (pa_cons (pe_glob (v := .ref C_NoMirror) (by rfl) c_NoMirror.hm rfl) pa_nil))) pa_nil))) pa_nil)))
      (pss_cons (ps_expr (pe_bm PySem.F.plainAttrs_list PySem.F.slot_list_extend PySem.F.type_list_extend mt_extend (pv 1) (pa_cons (pe_lst (pa_cons (pe_callB call_isX (by rfl) T.isinstance (by decide +kernel) (pa_cons (pv 0) (pa_cons (pe_glob (v := .ref C_NoBack) (by rfl) c_NoBack.hm rfl) pa_nil))) (pa_cons (pe_callB call_isX (by rfl) T.isinstance (by decide +kernel) (pa_cons (pv 0) (pa_cons (pe_glob (v := .ref C_Unbounded) (by rfl) c_Unbounded.hm rfl) pa_nil))) pa_nil))) pa_nil)))
      (pss_cons (ps_expr (pe_bm PySem.F.plainAttrs_list PySem.F.slot_list_extend PySem.F.type_list_extend mt_extend (pv 1) (pa_cons (pe_lst (pa_cons (pe_callB call_isX (by rfl) T.isinstance (by decide +kernel) (pa_cons (pv 0) (pa_cons (pe_glob (v := .ref C_Unreadable) (by rfl) c_Unreadable.hm rfl) pa_nil))) (pa_cons (pe_callB call_isX (by rfl) T.isinstance (by decide +kernel) (pa_cons (pv 0) (pa_cons (pe_glob (v := .ref C_InvalidRow) (by rfl) c_InvalidRow.hm rfl) pa_nil))) pa_nil))) pa_nil)))
      (pss_cons (ps_expr (pe_bm PySem.F.plainAttrs_list PySem.F.slot_list_extend PySem.F.type_list_extend mt_extend (pv 1) (pa_cons (pe_lst (pa_cons (pe_callB call_isX (by rfl) T.isinstance (by decide +kernel) (pa_cons (pv 0) (pa_cons (pe_glob (v := .ref C_Unlike) (by rfl) c_Unlike.hm rfl) pa_nil))) (pa_cons (pe_callB call_isX (by rfl) T.isinstance (by decide +kernel) (pa_cons (pv 0) (pa_cons (pe_glob (v := .ref C_NoPlace) (by rfl) c_NoPlace.hm rfl) pa_nil))) pa_nil))) pa_nil)))
      (pss_cons (ps_expr (pe_bm PySem.F.plainAttrs_list PySem.F.slot_list_extend PySem.F.type_list_extend mt_extend (pv 1) (pa_cons (pe_lst (pa_cons (pe_callB call_isX (by rfl) T.isinstance (by decide +kernel) (pa_cons (pv 0) (pa_cons (pe_glob (v := .ref C_Overlap) (by rfl) c_Overlap.hm rfl) pa_nil))) (pa_cons (pe_callB call_isX (by rfl) T.isinstance (by decide +kernel) (pa_cons (pv 0) (pa_cons (pe_glob (v := .ref C_OutOfRange) (by rfl) c_OutOfRange.hm rfl) pa_nil))) pa_nil))) pa_nil)))
      (pss_cons (ps_expr (pe_bm PySem.F.plainAttrs_list PySem.F.slot_list_extend PySem.F.type_list_extend mt_extend (pv 1) (pa_cons (pe_lst (pa_cons (pe_callB call_isX (by rfl) T.isinstance (by decide +kernel) (pa_cons (pv 0) (pa_cons (pe_glob (v := .ref C_NoFile) (by rfl) c_NoFile.hm rfl) pa_nil))) (pa_cons (pe_callB call_isX (by rfl) T.isinstance (by decide +kernel) (pa_cons (pv 0) (pa_cons (pe_glob (v := .ref C_NoLabel) (by rfl) c_NoLabel.hm rfl) pa_nil))) pa_nil))) pa_nil)))
      (pss_cons (ps_expr (pe_bm PySem.F.plainAttrs_list PySem.F.slot_list_extend PySem.F.type_list_extend mt_extend (pv 1) (pa_cons (pe_lst (pa_cons (pe_callB call_isX (by rfl) T.isinstance (by decide +kernel) (pa_cons (pv 0) (pa_cons (pe_glob (v := .ref C_TooMany) (by rfl) c_TooMany.hm rfl) pa_nil))) (pa_cons (pe_callB call_isX (by rfl) T.isinstance (by decide +kernel) (pa_cons (pv 0) (pa_cons (pe_glob (v := .ref C_TooLong) (by rfl) c_TooLong.hm rfl) pa_nil))) pa_nil))) pa_nil)))
      (pss_cons (ps_expr (pe_bm PySem.F.plainAttrs_list PySem.F.slot_list_extend PySem.F.type_list_extend mt_extend (pv 1) (pa_cons (pe_lst (pa_cons (pe_callB call_isX (by rfl) T.isinstance (by decide +kernel) (pa_cons (pv 0) (pa_cons (pe_glob (v := .ref C_NotRight) (by rfl) c_NotRight.hm rfl) pa_nil))) (pa_cons (pe_callB call_isX (by rfl) T.isinstance (by decide +kernel) (pa_cons (pv 0) (pa_cons (pe_glob (v := .ref C_Clash) (by rfl) c_Clash.hm rfl) pa_nil))) pa_nil))) pa_nil)))
      (pss_cons (ps_expr (pe_bm PySem.F.plainAttrs_list PySem.F.slot_list_extend PySem.F.type_list_extend mt_extend (pv 1) (pa_cons (pe_lst (pa_cons (pe_callB call_isX (by rfl) T.isinstance (by decide +kernel) (pa_cons (pv 0) (pa_cons (pe_glob (v := .ref C_FileNotRight) (by rfl) c_FileNotRight.hm rfl) pa_nil))) (pa_cons (pe_callB call_isX (by rfl) T.isinstance (by decide +kernel) (pa_cons (pv 0) (pa_cons (pe_glob (v := .ref C_Apart) (by rfl) c_Apart.hm rfl) pa_nil))) pa_nil))) pa_nil)))
      (pss_cons (ps_expr (pe_bm PySem.F.plainAttrs_list PySem.F.slot_list_extend PySem.F.type_list_extend mt_extend (pv 1) (pa_cons (pe_lst (pa_cons (pe_callB call_isX (by rfl) T.isinstance (by decide +kernel) (pa_cons (pv 0) (pa_cons (pe_glob (v := .ref C_Broken) (by rfl) c_Broken.hm rfl) pa_nil))) (pa_cons (pe_callB call_isX (by rfl) T.isinstance (by decide +kernel) (pa_cons (pv 0) (pa_cons (pe_glob (v := .ref C_Unsafe) (by rfl) c_Unsafe.hm rfl) pa_nil))) pa_nil))) pa_nil)))
      (pss_one (ps_ret (pv 1))))))))))))))))))))), ?_⟩
    refine seq_asg ⟨few_len (Nat.zero_le _), fun q hq => ?_⟩
    have L0 : Lst H (upd H q (.lst [])) q [] := ⟨hq, same_new hq, upd_same⟩
    refine cls_step TC o ev rfl rfl o_InvalidOld o_InvalidNew L0 (by simp) fun H1 L1 => ?_
    refine cls_step TC o ev rfl rfl o_InvalidText o_InvalidTable L1 (by simp) fun H2 L2 => ?_
    refine cls_step TC o ev rfl rfl o_InvalidCount o_InvalidSpot L2 (by simp) fun H3 L3 => ?_
    refine cls_step TC o ev rfl rfl o_InvalidHand o_InvalidFiles L3 (by simp) fun H4 L4 => ?_
    refine cls_step TC o ev rfl rfl o_InvalidName o_InvalidPart L4 (by simp) fun H5 L5 => ?_
    refine cls_step TC o ev rfl rfl o_InvalidEdit o_InvalidChange L5 (by simp) fun H6 L6 => ?_
    refine cls_step TC o ev rfl rfl o_InvalidProgram o_InvalidRun L6 (by simp) fun H7 L7 => ?_
    refine cls_step TC o ev rfl rfl o_NoExchange o_NoMirror L7 (by simp) fun H8 L8 => ?_
    refine cls_step TC o ev rfl rfl o_NoBack o_Unbounded L8 (by simp) fun H9 L9 => ?_
    refine cls_step TC o ev rfl rfl o_Unreadable o_InvalidRow L9 (by simp) fun H10 L10 => ?_
    refine cls_step TC o ev rfl rfl o_Unlike o_NoPlace L10 (by simp) fun H11 L11 => ?_
    refine cls_step TC o ev rfl rfl o_Overlap o_OutOfRange L11 (by simp) fun H12 L12 => ?_
    refine cls_step TC o ev rfl rfl o_NoFile o_NoLabel L12 (by simp) fun H13 L13 => ?_
    refine cls_step TC o ev rfl rfl o_TooMany o_TooLong L13 (by simp) fun H14 L14 => ?_
    refine cls_step TC o ev rfl rfl o_NotRight o_Clash L14 (by simp) fun H15 L15 => ?_
    refine cls_step TC o ev rfl rfl o_FileNotRight o_Apart L15 (by simp) fun H16 L16 => ?_
    refine cls_step TC o ev rfl rfl o_Broken o_Unsafe L16 (by simp) fun H17 L17 => ?_
    refine ⟨_, rfl, k q _ L17.same ?_⟩
    have w := L17.at_
    simp only [List.nil_append, List.cons_append, List.append_assoc] at w
    exact w

abbrev s_lsorts : Stmt := top 52
theorem sc_lsorts : FnScope ["_law_error", "_law_flags", "_law_one", "_law_flag"] ["_law_error"] (defScope s_lsorts) := ⟨rfl, rfl, rfl, by decide +kernel, rfl, by decide +kernel, by decide +kernel⟩
theorem b_lsorts {f : Addr} {fd : FuncData} (F : Fun K "_law_sorts" "_law_sorts" s_lsorts f fd) (T : Txt mg) : FnG P w K mg base CX0 3 f fd ["_law_error"] (spSorts K) := by
  refine okG0 F sc_lsorts (fun vs H Q E h => ?_) (fun cdv A outer s H vs Q E hg hr h => ?_)
  · obtain ⟨e, x, z, rfl, _⟩ := h
    rfl
  · have hu := hu_of hr
    have hu64 := hr.units
    obtain ⟨e, x, z, rfl, ⟨C, fs, tl, ev, TC, o, mem, srt⟩, k⟩ := h
    obtain ⟨b1, b2, b3, b4, f1, f2, f3, f4, hz⟩ := sorts_of srt
    refine ⟨_, (pss_cons (ps_set (i := 1) sc_lsorts.nd rfl (Or.inl rfl) (pe_lst (pa_cons (pe_callB call_isX (by rfl) T.isinstance (by decide +kernel) (pa_cons (pv 0) (pa_cons (pe_bltn (v := .ty "ValueError") (by rfl) T.ValueError rfl rfl) pa_nil))) (pa_cons (pe_callB call_isX (by rfl) T.isinstance (by decide +kernel) (pa_cons (pv 0) (pa_cons (pe_bltn (v := .ty "LookupError") (by rfl) T.LookupError rfl rfl) pa_nil))) pa_nil))))
      (pss_cons (ps_set (i := 1) sc_lsorts.nd rfl (Or.inl rfl) (pe_op op_cat (pv 1) (pe_lst (pa_cons (pe_callB call_isX (by rfl) T.isinstance (by decide +kernel) (pa_cons (pv 0) (pa_cons (pe_bltn (v := .ty "OverflowError") (by rfl) T.OverflowError rfl rfl) pa_nil))) (pa_cons (pe_callB call_isX (by rfl) T.isinstance (by decide +kernel) (pa_cons (pv 0) (pa_cons (pe_bltn (v := .ty "RuntimeError") (by rfl) T.RuntimeError rfl rfl) pa_nil))) pa_nil)))))
      (pss_one (ps_ret (pe_lc (own := [("_law_one", 2), ("_law_flag", 3)]) (g := (gTup K 2 (gCons (gName 2) (gCons (gName 3) gNil)))) rfl sc_lsorts.nd (RZ.pi_zipA (by rfl) T.zip (pa_cons (pe_lst (pa_cons pe_str (pa_cons pe_str (pa_cons pe_str (pa_cons pe_str pa_nil))))) (pa_cons (pv 1) pa_nil))) (blkOk_by (own := [("_law_one", 2), ("_law_flag", 3)]) (N := ["_law_error", "_law_flags", "_law_one", "_law_flag"]) (sc := defScope s_lsorts) (by decide +kernel)) (fun _ _ _ _ _ => (pg_tupK (K := K) rfl rfl (pgs_cons (pg_name (i := 2) sc_lsorts.nd rfl (Or.inl rfl)) (pgs_cons (pg_name (i := 3) sc_lsorts.nd rfl (Or.inl rfl)) pgs_nil)))) (fun _ _ _ _ _ => (pts_one (pt_val (pv 3)))) (fun _ _ _ _ _ => (pv 2))))))), ?_⟩
    refine seq_asg (isb TC o (by decide +kernel) ev rfl (isb TC o (by decide +kernel) ev rfl ⟨few_len (Nat.le_of_ble_eq_true rfl), fun q1 hq1 => ?_⟩))
    have s1 := same_new (o := .lst [.bl (tl.contains (.type "ValueError")), .bl (tl.contains (.type "LookupError"))]) hq1
    refine seq_asg ⟨_, rfl, isb TC o (by decide +kernel) (ev.keep s1) rfl (isb TC o (by decide +kernel) (ev.keep s1) rfl ⟨few_len (Nat.le_of_ble_eq_true rfl), fun q2 hq2 => ⟨q1, q2, _, _, rfl, rfl, (same_new hq2) _ _ upd_same, upd_same, few_len (Nat.le_of_ble_eq_true rfl), fun q3 hq3 => ?_⟩⟩)⟩
    rw [f1, f2] at s1 hq2 hq3 ⊢
    rw [f3, f4] at hq3 ⊢
    refine ⟨few_len (Nat.le_of_ble_eq_true rfl), fun q4 hq4 => ⟨_, rfl, q4, q3, _, _, rfl, .inl ⟨SqL.of upd_same, SqL.of ((same_new hq4) _ _ upd_same), fun D hD => ?_⟩⟩⟩
    generalize hB : (upd (upd (upd (upd H q1 (.lst [.bl b1, .bl b2])) q2 (.lst [.bl b3, .bl b4])) q3 (.lst ([.bl b1, .bl b2] ++ [.bl b3, .bl b4]))) q4 (.lst [.str "value", .str "lookup", .str "overflow", .str "runtime"])) = B at hD ⊢
    have sB : Same H B := hB ▸ ((s1.trans (same_new hq2)).trans (same_new hq3)).trans (same_new hq4)
    have at4 : B q4 = some (.lst (sorts4.map V.str)) := hB ▸ upd_same
    have at3 : B q3 = some (.lst ([b1, b2, b3, b4].map V.bl)) := hB ▸ (same_new hq4) _ _ upd_same
    refine lc_zip (xs := sorts4.map V.str) (ys := [b1, b2, b3, b4].map V.bl) rfl (fun i H2 => (∀ a o, B a = some o → H2 a = some o) ∧ H2 D = some (.lst (sel sorts4 [b1, b2, b3, b4] i))) ⟨same_new hD, upd_same⟩ (fun i H2 p => ⟨SqL.of (p.1 _ _ at4), SqL.of (p.1 _ _ at3)⟩) (fun i u v T H2 hu hv p hT => ?_) (fun H2 p => ?_)
    · obtain ⟨w, hw, rfl⟩ := List.getElem?_map .. ▸ hu |> Option.map_eq_some_iff.mp
      obtain ⟨b, hb, rfl⟩ := List.getElem?_map .. ▸ hv |> Option.map_eq_some_iff.mp
      have nx := sel_next hw hb
      refine ⟨T, _, rfl, SqT.of upd_same, rfl, _, _, rfl, _, _, rfl, rfl, rfl, _, rfl, b, rfl, ?_⟩
      have p1 : ∀ a o, B a = some o → (upd H2 T (.tup [.str w, .bl b])) a = some o := fun a o h => (same_new hT) _ _ (p.1 _ _ h)
      have p2 := (same_new (o := .tup [.str w, .bl b]) hT) _ _ p.2
      cases b with
      | true =>
        rw [if_pos rfl] at nx
        show (if true = true then _ else _)
        rw [if_pos rfl]
        refine ⟨_, rfl, _, p2, Nat.lt_of_le_of_lt sel_len (by rw [sizeLine_eq]; decide), fun a o h => ?_, ?_⟩
        · rw [upd_ne (ne_of_none h hD)]
          exact p1 _ _ h
        · rw [nx]
          exact upd_same
      | false =>
        rw [if_neg (by decide)] at nx
        show (if false = true then _ else _)
        rw [if_neg (by decide)]
        exact ⟨p1, nx ▸ p2⟩
    · refine k D H2 (sB.trans p.1) ?_
      rw [← hz]
      exact p.2

end
end Vk
set_option Elab.async false
set_option maxRecDepth 100000
set_option linter.all false
namespace Vk
open PySem PySem.Spec PyProof.Rows L2
section
variable {P : Program} {w : World} {K : PySem.W.Frag} {mg : Str → Option Value} {base : Heap}
def spLaw (K : PySem.W.Frag) : Sp := fun vs H Q _ => ∃ (a : Addr) (ns : List Int), vs = [.ref a] ∧ SqL K H a (ns.map V.int) ∧ ns.length ≤ 63 ∧ ∀ H', Q (.bl true) H'
abbrev s_law : Stmt := top 53
theorem sc_law : FnScope ["_law_script", "_law_pen_here", "_law_turn", "_law_thing", "_law_kept", "_law_every", "_law_error", "_law_titled", "_law_placed", "_law_sort", "_law_some"] ["_law_script"] (defScope s_law) := ⟨rfl, rfl, rfl, by decide +kernel, rfl, by decide +kernel, by decide +kernel⟩
theorem b_law {f : Addr} {fd : FuncData} (F : Fun K "law" "law" s_law f fd) (T : Txt mg) (c_lpen : CalG P w K mg base CX0 1 "_law_pen" (spPen K)) (c_lany_value : CalG P w K mg base CX0 3 "_law_any_value" spAny) (c_lsome_errors : CalG P w K mg base CX0 3 "_law_some_errors" (spErrs K)) (c_lother_errors : CalG P w K mg base CX0 3 "_law_other_errors" (spErrs K)) (c_lclasses : CalG P w K mg base CX0 3 "_law_classes" (spClasses K)) (c_lsorts : CalG P w K mg base CX0 3 "_law_sorts" (spSorts K)) (g_MAX_WORD : ∃ u, mg "MAX_WORD" = some u ∧ RelV (.int 40) u) (g_MAX_EDITS : ∃ u, mg "MAX_EDITS" = some u ∧ RelV (.int 4) u) (g_MAX_PARTS : ∃ u, mg "MAX_PARTS" = some u ∧ RelV (.int 3) u) (g_MAX_OLDS : ∃ u, mg "MAX_OLDS" = some u ∧ RelV (.int 8) u) (g_MAX_NEWS : ∃ u, mg "MAX_NEWS" = some u ∧ RelV (.int 12) u) (g_MAX_RUNS : ∃ u, mg "MAX_RUNS" = some u ∧ RelV (.int 20) u) (g_MAX_TIMES : ∃ u, mg "MAX_TIMES" = some u ∧ RelV (.int 1000000000000000000000000000000) u) (g_MAX_FILES : ∃ u, mg "MAX_FILES" = some u ∧ RelV (.int 8) u) (g_MAX_HANDS : ∃ u, mg "MAX_HANDS" = some u ∧ RelV (.int 4) u) : FnG P w K mg base CX0 5 f fd ["_law_script"] (spLaw K) := by
  refine okG0 F sc_law (fun vs H Q E h => ?_) (fun cdv A outer s H vs Q E hg hr h => ?_)
  · obtain ⟨a, ns, rfl, _⟩ := h
    rfl
  · have hu := hu_of hr
    have hu64 := hr.units
    obtain ⟨a, ns, rfl, hS, hlen, k⟩ := h
    refine ⟨_, (pss_cons (ps_set (i := 1) sc_law.nd rfl (Or.inl rfl) (pe_cG c_lpen hg hr (by decide) pass0 (pa_cons (pv 0) pa_nil)))
      (pss_cons (ps_for PassesOwn.never rfl (pi_range1 rfl T.range (pa_cons (pe_op op_add pe_int (pe_callB (call_min2 rfl) (by rfl) T.min (by decide +kernel) (pa_cons pe_int (pa_cons (pe_callB call_len (by rfl) T.len (by decide +kernel) (pa_cons (pv 0) pa_nil)) pa_nil)))) pa_nil)) (pg_name (i := 2) sc_law.nd rfl (Or.inl rfl)) (pss_cons (ps_set (i := 3) sc_law.nd rfl (Or.inl rfl) (pe_cG c_lany_value hg hr (by decide) pass0 (pa_cons (pv 1) pa_nil)))
      (pss_cons (ps_par (i := 4) (j := 5) (by rfl) sc_law.nd rfl rfl (by decide) rfl rfl (pa_cons (pe_callB (Vk.call_reprT hg hu64) (by rfl) T.repr (by decide +kernel) (pa_cons (pv 3) pa_nil)) (pa_cons (pe_op op_cat (pe_cG c_lsome_errors hg hr (by decide) pass0 (pa_cons (pv 3) pa_nil)) (pe_cG c_lother_errors hg hr (by decide) pass0 (pa_cons (pv 3) pa_nil))) pa_nil)) (by rfl))
      (pss_one (ps_for PassesOwn.never rfl (pi_list (pv 5)) (pg_tup rfl (pgs_cons (pg_name (i := 6) sc_law.nd rfl (Or.inl rfl)) (pgs_cons (pg_name (i := 7) sc_law.nd rfl (Or.inl rfl)) (pgs_cons (pg_name (i := 8) sc_law.nd rfl (Or.inl rfl)) (pgs_cons (pg_name (i := 9) sc_law.nd rfl (Or.inl rfl)) pgs_nil))))) (pss_cons (ps_if (PW.pt (pw_or (pt_cmpR op_ne (pe_callB (Vk.call_reprT hg hu64) (by rfl) T.repr (by decide +kernel) (pa_cons (pe_ls1 (pa_cons (pv 7) (pa_cons (pv 8) pa_nil))) pa_nil)) (pe_callB (Vk.call_reprT hg hu64) (by rfl) T.repr (by decide +kernel) (pa_cons (pe_ls1 (pa_cons (pv 3) (pa_cons (pv 3) pa_nil))) pa_nil)) (nomark _)) (pw_or1 (pt_cmpR (op_neD hu64) (pe_cG c_lsorts hg hr (by decide) pass0 (pa_cons (pv 6) pa_nil)) (pe_lst (pa_cons (pv 9) pa_nil)) (nomark _))))) (pss_one (ps_ret pe_bl)) pss_nil)
      (pss_one (ps_if (PW.pt (pw_or (pt_cmpR op_ne (pe_bm PySem.F.plainAttrs_list PySem.F.slot_list_count PySem.F.type_list_count mt_countL (pe_cG c_lclasses hg hr (by decide) pass0 (pa_cons (pv 6) pa_nil)) (pa_cons pe_bl pa_nil)) pe_int (nomark _)) (pw_or1 (pt_cmpR op_ne (pe_callB (Vk.call_reprT hg hu64) (by rfl) T.repr (by decide +kernel) (pa_cons (pv 3) pa_nil)) (pv 4) (nomark _))))) (pss_one (ps_ret pe_bl)) pss_nil))))))))
      (pss_cons (ps_set (i := 10) sc_law.nd rfl (Or.inl rfl) (pe_lst (pa_cons (C8.pe_gc (by rfl) g_MAX_WORD) (pa_cons (C8.pe_gc (by rfl) g_MAX_EDITS) (pa_cons (C8.pe_gc (by rfl) g_MAX_PARTS) (pa_cons (C8.pe_gc (by rfl) g_MAX_OLDS) (pa_cons (C8.pe_gc (by rfl) g_MAX_NEWS) (pa_cons (C8.pe_gc (by rfl) g_MAX_RUNS) (pa_cons (C8.pe_gc (by rfl) g_MAX_FILES) (pa_cons (C8.pe_gc (by rfl) g_MAX_HANDS) pa_nil))))))))))
      (pss_one (ps_ret (pe_and (pe_cmpR op_eq (pe_callB (Vk.call_reprT hg hu64) (by rfl) T.repr (by decide +kernel) (pa_cons (pv 10) pa_nil)) pe_str (nomark _)) (pe_one (pe_cmpR op_eq (pe_callB (Vk.call_reprT hg hu64) (by rfl) T.repr (by decide +kernel) (pa_cons (C8.pe_gc (by rfl) g_MAX_TIMES) pa_nil)) (pe_callB (Vk.call_reprT hg hu64) (by rfl) T.repr (by decide +kernel) (pa_cons (pe_op op_pow pe_int pe_int) pa_nil)) (nomark _))))))))), ?_⟩
    refine ⟨_, rfl, a, ns, rfl, hS, fun p pc H1 hp0 P0 s1 => ?_⟩
    refine ⟨_, rfl, _, _, rfl, .inl ⟨_, s1.seq hS, rfl⟩, _, _, rfl, _, _, rfl, rfl, _, rfl, ?_, ?_, ?_⟩
    · split <;> omega
    · split <;> omega
    refine for_range (lo := 0) (fun i σ H' => ∃ o2 o3 o4 o5 o6 o7 o8 o9 o10 : Option V, σ = [some (.ref a), some (.ref p), o2, o3, o4, o5, o6, o7, o8, o9, o10] ∧ Pen H' p pc i) ?_ ?_ ?_
    · exact ⟨_, _, _, _, _, _, _, _, _, rfl, P0⟩
    · rintro i σ H2 hi ⟨o2, o3, o4, o5, o6, o7, o8, o9, o10, rfl, P2⟩
      have hi8 : i ≤ 8 := by
        have : i < 9 := by
          revert hi
          split <;> omega
        omega
      refine ⟨_, rfl, p, pc, i, rfl, P2, by omega, fun v d H3 th okd P3 x3 => ?_⟩
      obtain ⟨b1, b2, b3⟩ := okD_1 okd
      obtain ⟨c1, c2, c3⟩ := okD_2 okd
      refine ⟨_, rfl, v, d, rfl, .inl th, b1, b2, b3, ?_⟩
      refine ⟨_, rfl, v, rfl, fun q1 rs1 H4 s4 e4 l4 r4 => ⟨_, rfl, v, rfl, fun q2 rs2 H5 s5 e5 l5 r5 => ⟨q1, q2, rs1, rs2, rfl, rfl, s5 _ _ e4, e5, few_len (by omega), fun q hq => ⟨_, _, rfl, ?_⟩⟩⟩⟩
      have s6 : Same H3 (upd H5 q (.lst (rs1 ++ rs2))) := (s4.trans s5).trans (same_new hq)
      have rows : ∀ r ∈ rs1 ++ rs2, Row K (upd H5 q (.lst (rs1 ++ rs2))) v r := fun r hr => by
        rcases List.mem_append.mp hr with hr | hr
        · exact (r4 r hr).keep (s5.trans (same_new hq))
        · exact (r5 r hr).keep (same_new hq)
      have hq6 : (upd H5 q (.lst (rs1 ++ rs2))) q = some (.lst (rs1 ++ rs2)) := upd_same
      generalize upd H5 q (.lst (rs1 ++ rs2)) = H6 at s6 rows hq6
      have P6 := P3.stay s6
      have th6 := th.keep s6
      refine ⟨_, rfl, q, rfl, ⟨_, SqL.of hq6⟩, ?_⟩
      refine for_list (K := K) (a := q) (xs := rs1 ++ rs2) (fun n σ H' => ∃ o2 o6 o7 o8 o9 o10 : Option V, σ = [some (.ref a), some (.ref p), o2, some v, some (.str d.shown), some (.ref q), o6, o7, o8, o9, o10] ∧ Same H6 H') ?_ ?_ ?_ ?_
      · exact ⟨_, _, _, _, _, _, rfl, Same.rfl⟩
      · rintro n σ H7 _ ⟨_, _, _, _, _, _, _, s7⟩
        exact SqL.of (s7 _ _ hq6)
      · rintro n r σ H7 hr ⟨o2, o6, o7, o8, o9, o10, rfl, s7⟩
        obtain ⟨t, e, x, z, rfl, ht, er⟩ := ((rows r (List.mem_of_getElem? hr)).keep s7).ex
        refine ⟨t, _, rfl, SqT.of ht, rfl, _, _, rfl, _, _, rfl, _, _, rfl, _, _, rfl, rfl, ?_⟩
        have th7 := th6.keep s7
        refine ⟨_, rfl, _, rfl, few_len (Nat.le_of_ble_eq_true rfl), fun g1 hg1 n1 => ⟨.ref g1, .list [d, d], rfl, .inr ⟨g1, v, d, rfl, upd_same, n1, th7.keep (same_new hg1), rfl⟩, c1, c2, c3, ?_⟩⟩
        refine ⟨_, rfl, _, rfl, few_len (Nat.le_of_ble_eq_true rfl), fun g2 hg2 n2 => ⟨.ref g2, .list [d, d], rfl, .inr ⟨g2, v, d, rfl, upd_same, n2, (th7.keep (same_new hg1)).keep (same_new hg2), rfl⟩, c1, c2, c3, rfl, _, rfl, iteNS rfl ?_⟩⟩
        have s8 : Same H7 (upd (upd H7 g1 (.lst [v, v])) g2 (.lst [v, v])) := (same_new hg1).trans (same_new hg2)
        generalize upd (upd H7 g1 (.lst [v, v])) g2 (.lst [v, v]) = H8 at s8
        have er8 := er.keep s8
        obtain ⟨C, fs, tl, ev, TC, oC, mem, srt⟩ := er.ex
        refine ⟨_, rfl, e, x, z, rfl, er8, fun g3 H9 s9 e9 => ⟨_, rfl, few_len (Nat.le_of_ble_eq_true rfl), fun g4 hg4 => ⟨.list [.str z], .list [.str z], .lst (SqL.of ((same_new hg4) _ _ e9)) (.cons (.str z) .nil), .lst (SqL.of upd_same) (.cons (.str z) .nil), shaped_one srt, shaped_one srt, _, rfl, ?_⟩⟩⟩
        rw [eqv_one]
        refine iteF ?_
        have s10 : Same H8 (upd H9 g4 (.lst [.str z])) := s9.trans (same_new hg4)
        generalize upd H9 g4 (.lst [.str z]) = H10 at s10
        have er10 := er8.keep s10
        refine ⟨_, rfl, e, x, z, rfl, er10, fun g5 H11 s11 e11 => ⟨.inl ⟨rfl, _, SqL.of e11⟩, g5, _, .bl true, rfl, rfl, SqL.of e11, rfl, flat_bls _, rfl, _, rfl, ?_⟩⟩
        rw [count_one x mem]
        refine iteNS rfl ?_
        have s12 := ((s7.trans s8).trans s10).trans s11
        refine ⟨_, rfl, v, d, rfl, .inl (th6.keep s12), b1, b2, b3, _, rfl, rfl, _, rfl, iteNS rfl ?_⟩
        exact ⟨_, _, _, _, _, _, rfl, s12⟩
      · rintro σ H7 ⟨o2, o6, o7, o8, o9, o10, rfl, s7⟩
        exact ⟨_, _, _, _, _, _, _, _, _, rfl, P6.stay s7⟩
    · rintro σ H2 ⟨o2, o3, o4, o5, o6, o7, o8, o9, o10, rfl, P2⟩
      refine ⟨few_len (Nat.le_of_ble_eq_true rfl), fun q hq => ?_⟩
      refine ⟨_, rfl, .ref q, .list [.int 40, .int 4, .int 3, .int 8, .int 12, .int 20, .int 8, .int 4], rfl, .inl (.lst upd_same (.cons (.int _) (.cons (.int _) (.cons (.int _) (.cons (.int _) (.cons (.int _) (.cons (.int _) (.cons (.int _) (.cons (.int _) .nil))))))))), by decide +kernel, by decide +kernel, few_len (by decide +kernel), rfl, _, rfl, ?_⟩
      rw [decide_eq_true (congrArg V.str (by decide +kernel))]
      refine iteT ⟨_, .int 1000000000000000000000000000000, rfl, .inl (.atm (.int _)), by decide +kernel, by decide +kernel, few_len (by decide +kernel), _, _, rfl, rfl, ⟨by decide, by decide, by decide⟩, ?_⟩
      refine ⟨_, .int (10 ^ (30 : Int).toNat), rfl, .inl (.atm (.int _)), by decide +kernel, by decide +kernel, few_len (by decide +kernel), rfl, ?_⟩
      rw [decide_eq_true (congrArg V.str (by decide +kernel))]
      exact k _

end
end Vk
set_option Elab.async false
set_option maxRecDepth 100000
set_option maxHeartbeats 4000000
set_option linter.all false
namespace Vk
open PySem PySem.Spec PyProof.Rows L2 PySem.W
theorem const_int {p : Program} {loose : List Str} {mean : ExcName → Option Value} {mg mb : Str → Option Value} {h : Heap} (T : PyProof.Rows.Top p loose mean mg mb h) {x : Str} {i : Int} (e : valOf p x = some (.int i)) : ∃ u, mg x = some u ∧ RelV (.int i) u := by
  obtain ⟨v, hv, r⟩ := T.const x _ e
  cases r h with
  | int i t => exact ⟨_, hv, ⟨t, rfl⟩⟩
theorem loose_int {p : Program} {mg : Str → Option Value} {h : Heap} {x : Str} {i : Int} (X : XL p [(x, WData.int i)] mg h) : ∃ u, mg x = some u ∧ RelV (.int i) u := by
  obtain ⟨v, hv, r⟩ := X.2.val (x, WData.int i) (by simp)
  cases r with
  | int i t => exact ⟨_, hv, ⟨t, rfl⟩⟩
theorem walkX {l : PySem.W.OpenLaw} {n k : Nat} {q : Program} {loose : List Str} {XP : (Str → Option Value) → Heap → Prop} {YP : World → Heap → Prop} {d : DefRec} {K : Params → PySem.W.Frag} {CX : CXT} {sp : PySem.W.Frag → Sp} {x : Str}
    (hn : l.most = some n) (hn2 : n ≤ sizeLine) (hdf : d.params.defaults = []) (hr : Room k callerA) (hY : ∀ (w : World) (h : Heap), YP w h → (K w.params).In h)
    (F : ∀ (w : World) (mg : Str → Option Value) (fa : Addr) (h : Heap), (K w.params).In h → (∃ s0 mb, PySem.W.Ground q loose [] XP w s0 mg mb h) → mg d.name = some (.ref fa) →
      ∃ fd : FuncData, (∀ (s : Shared) (u : Value), BindsTo s fd ⟨[u], []⟩ [(x, u)]) ∧ ∀ base : Heap, (K w.params).In base → base.Ns mainGlobals mg → FnG l.prog w (K w.params) mg base CX k fa fd [x] (sp (K w.params)))
    (hsp : ∀ (K : PySem.W.Frag) (H : Hp) (a : Addr) (ns : List Int), ns.length ≤ n → Only H → SqL K H a (ns.map V.int) → sp K [.ref a] H (fun v _ => v = .bl true) fun _ _ _ => False)
    (noX : ∀ (H : Hp) (s : Shared) (e : Value) (s2 : Shared), CX [] H s (fun _ _ _ => False) e s2 → False) : PySem.W.WalkO q loose XP YP l.row.toRowW d [] (fun f vs => PySem.call f vs) := by
  refine Att.attach_call hn hdf ?_
  intro w s0 s1 mg mb fa o pm cd doc a vs ns G Y _ _ _ hmg scr hints hlen gens0
  obtain ⟨fd, hb, hF⟩ := F w mg fa _ (hY w _ Y) ⟨s0, mb, G⟩ hmg
  exact lawG (hY w _ Y) G.T.g G.T.b G.T.builtins G.T.nolimit gens0 scr hints (Nat.le_trans hlen hn2) hr hF hb (fun H h1 h2 => hsp _ H a ns hlen h1 h2) (fun H => noX H s1)
end Vk
set_option Elab.async false
set_option maxRecDepth 100000
set_option linter.all false
namespace Vk
open PySem PySem.Spec PyProof.Rows L2
theorem all {l : PySem.W.OpenLaw} {w : World} {K : PySem.W.Frag} {h : Heap} {mg : Str → Option Value} {fa : Addr} (X : K.In h) (G : h.Ns mainGlobals mg) (hfa : mg "law" = some (.ref fa))
    (e_InvalidOld : ∃ (C f : Addr) (fd : FuncData), ExcTxt K "InvalidOld" "InvalidOld.__init__" m_InvalidOld C f fd ["value"] tlV)
    (e_InvalidNew : ∃ (C f : Addr) (fd : FuncData), ExcTxt K "InvalidNew" "InvalidNew.__init__" m_InvalidNew C f fd ["value"] tlV)
    (e_InvalidText : ∃ (C f : Addr) (fd : FuncData), ExcTxt K "InvalidText" "InvalidText.__init__" m_InvalidText C f fd ["value"] tlV)
    (e_InvalidTable : ∃ (C f : Addr) (fd : FuncData), ExcTxt K "InvalidTable" "InvalidTable.__init__" m_InvalidTable C f fd ["value"] tlV)
    (e_InvalidCount : ∃ (C f : Addr) (fd : FuncData), ExcTxt K "InvalidCount" "InvalidCount.__init__" m_InvalidCount C f fd ["value"] tlV)
    (e_InvalidSpot : ∃ (C f : Addr) (fd : FuncData), ExcTxt K "InvalidSpot" "InvalidSpot.__init__" m_InvalidSpot C f fd ["value"] tlV)
    (e_InvalidHand : ∃ (C f : Addr) (fd : FuncData), ExcTxt K "InvalidHand" "InvalidHand.__init__" m_InvalidHand C f fd ["value"] tlV)
    (e_InvalidFiles : ∃ (C f : Addr) (fd : FuncData), ExcTxt K "InvalidFiles" "InvalidFiles.__init__" m_InvalidFiles C f fd ["value"] tlV)
    (e_InvalidName : ∃ (C f : Addr) (fd : FuncData), ExcTxt K "InvalidName" "InvalidName.__init__" m_InvalidName C f fd ["value"] tlV)
    (e_InvalidPart : ∃ (C f : Addr) (fd : FuncData), ExcTxt K "InvalidPart" "InvalidPart.__init__" m_InvalidPart C f fd ["index"] tlV)
    (e_InvalidEdit : ∃ (C f : Addr) (fd : FuncData), ExcTxt K "InvalidEdit" "InvalidEdit.__init__" m_InvalidEdit C f fd ["index"] tlV)
    (e_InvalidChange : ∃ (C f : Addr) (fd : FuncData), ExcTxt K "InvalidChange" "InvalidChange.__init__" m_InvalidChange C f fd ["index"] tlV)
    (e_InvalidProgram : ∃ (C f : Addr) (fd : FuncData), ExcTxt K "InvalidProgram" "InvalidProgram.__init__" m_InvalidProgram C f fd ["index"] tlV)
    (e_InvalidRun : ∃ (C f : Addr) (fd : FuncData), ExcTxt K "InvalidRun" "InvalidRun.__init__" m_InvalidRun C f fd ["index"] tlV)
    (e_NoExchange : ∃ (C f : Addr) (fd : FuncData), ExcTxt K "NoExchange" "NoExchange.__init__" m_NoExchange C f fd ["index"] tlV)
    (e_NoMirror : ∃ (C f : Addr) (fd : FuncData), ExcTxt K "NoMirror" "NoMirror.__init__" m_NoMirror C f fd ["index"] tlV)
    (e_NoBack : ∃ (C f : Addr) (fd : FuncData), ExcTxt K "NoBack" "NoBack.__init__" m_NoBack C f fd ["index"] tlV)
    (e_Unbounded : ∃ (C f : Addr) (fd : FuncData), ExcTxt K "Unbounded" "Unbounded.__init__" m_Unbounded C f fd ["index"] tlV)
    (e_Unreadable : ∃ (C f : Addr) (fd : FuncData), ExcTxt K "Unreadable" "Unreadable.__init__" m_Unreadable C f fd ["index"] tlV)
    (e_InvalidRow : ∃ (C f : Addr) (fd : FuncData), ExcTxt K "InvalidRow" "InvalidRow.__init__" m_InvalidRow C f fd ["row"] tlV)
    (e_Unlike : ∃ (C f : Addr) (fd : FuncData), ExcTxt K "Unlike" "Unlike.__init__" m_Unlike C f fd [] tlV)
    (e_NoPlace : ∃ (C f : Addr) (fd : FuncData), ExcTxt K "NoPlace" "NoPlace.__init__" m_NoPlace C f fd ["index", "number"] tlL)
    (e_Overlap : ∃ (C f : Addr) (fd : FuncData), ExcTxt K "Overlap" "Overlap.__init__" m_Overlap C f fd ["index"] tlL)
    (e_OutOfRange : ∃ (C f : Addr) (fd : FuncData), ExcTxt K "OutOfRange" "OutOfRange.__init__" m_OutOfRange C f fd ["value"] tlL)
    (e_NoFile : ∃ (C f : Addr) (fd : FuncData), ExcTxt K "NoFile" "NoFile.__init__" m_NoFile C f fd ["name"] tlL)
    (e_NoLabel : ∃ (C f : Addr) (fd : FuncData), ExcTxt K "NoLabel" "NoLabel.__init__" m_NoLabel C f fd ["label"] tlL)
    (e_TooMany : ∃ (C f : Addr) (fd : FuncData), ExcTxt K "TooMany" "TooMany.__init__" m_TooMany C f fd ["limit"] tlO)
    (e_TooLong : ∃ (C f : Addr) (fd : FuncData), ExcTxt K "TooLong" "TooLong.__init__" m_TooLong C f fd ["limit"] tlO)
    (e_NotRight : ∃ (C f : Addr) (fd : FuncData), ExcTxt K "NotRight" "NotRight.__init__" m_NotRight C f fd ["hand"] tlR)
    (e_Clash : ∃ (C f : Addr) (fd : FuncData), ExcTxt K "Clash" "Clash.__init__" m_Clash C f fd ["hand", "other"] tlR)
    (e_FileNotRight : ∃ (C f : Addr) (fd : FuncData), ExcTxt K "FileNotRight" "FileNotRight.__init__" m_FileNotRight C f fd ["name", "index"] tlR)
    (e_Apart : ∃ (C f : Addr) (fd : FuncData), ExcTxt K "Apart" "Apart.__init__" m_Apart C f fd ["name"] tlR)
    (e_Broken : ∃ (C f : Addr) (fd : FuncData), ExcTxt K "Broken" "Broken.__init__" m_Broken C f fd ["name"] tlR)
    (e_Unsafe : ∃ (C f : Addr) (fd : FuncData), ExcTxt K "Unsafe" "Unsafe.__init__" m_Unsafe C f fd ["name", "case"] tlR)
    (d_lpen : ∃ (f : Addr) (fd : FuncData), At K "_law_pen" s_lpen f fd)
    (d_ldraw : ∃ (f : Addr) (fd : FuncData), At K "_law_draw" s_ldraw f fd)
    (d_lpick : ∃ (f : Addr) (fd : FuncData), At K "_law_pick" s_lpick f fd)
    (d_lany_value : ∃ (f : Addr) (fd : FuncData), At K "_law_any_value" s_lany_value f fd)
    (d_lsome_errors : ∃ (f : Addr) (fd : FuncData), At K "_law_some_errors" s_lsome_errors f fd)
    (d_lother_errors : ∃ (f : Addr) (fd : FuncData), At K "_law_other_errors" s_lother_errors f fd)
    (d_lclasses : ∃ (f : Addr) (fd : FuncData), At K "_law_classes" s_lclasses f fd)
    (d_lsorts : ∃ (f : Addr) (fd : FuncData), At K "_law_sorts" s_lsorts f fd)
    (d_law : ∃ (f : Addr) (fd : FuncData), At K "law" s_law f fd)
    (z_len : PySem.W.nsIn K mainGlobals "len" = some none)
    (z_list : PySem.W.nsIn K mainGlobals "list" = some none)
    (z_int : PySem.W.nsIn K mainGlobals "int" = some none)
    (z_abs : PySem.W.nsIn K mainGlobals "abs" = some none)
    (z_range : PySem.W.nsIn K mainGlobals "range" = some none)
    (z_min : PySem.W.nsIn K mainGlobals "min" = some none)
    (z_repr : PySem.W.nsIn K mainGlobals "repr" = some none)
    (z_isinstance : PySem.W.nsIn K mainGlobals "isinstance" = some none)
    (z_zip : PySem.W.nsIn K mainGlobals "zip" = some none)
    (z_ValueError : PySem.W.nsIn K mainGlobals "ValueError" = some none)
    (z_LookupError : PySem.W.nsIn K mainGlobals "LookupError" = some none)
    (z_OverflowError : PySem.W.nsIn K mainGlobals "OverflowError" = some none)
    (z_RuntimeError : PySem.W.nsIn K mainGlobals "RuntimeError" = some none)
    (g_MAX_WORD : ∃ u, mg "MAX_WORD" = some u ∧ RelV (.int 40) u)
    (g_MAX_EDITS : ∃ u, mg "MAX_EDITS" = some u ∧ RelV (.int 4) u)
    (g_MAX_PARTS : ∃ u, mg "MAX_PARTS" = some u ∧ RelV (.int 3) u)
    (g_MAX_OLDS : ∃ u, mg "MAX_OLDS" = some u ∧ RelV (.int 8) u)
    (g_MAX_NEWS : ∃ u, mg "MAX_NEWS" = some u ∧ RelV (.int 12) u)
    (g_MAX_RUNS : ∃ u, mg "MAX_RUNS" = some u ∧ RelV (.int 20) u)
    (g_MAX_TIMES : ∃ u, mg "MAX_TIMES" = some u ∧ RelV (.int 1000000000000000000000000000000) u)
    (g_MAX_FILES : ∃ u, mg "MAX_FILES" = some u ∧ RelV (.int 8) u)
    (g_MAX_HANDS : ∃ u, mg "MAX_HANDS" = some u ∧ RelV (.int 4) u)
    : ∃ fd : FuncData, (∀ (s : Shared) (v : Value), BindsTo s fd ⟨[v], []⟩ [("_law_script", v)]) ∧ ∀ base : Heap, K.In base → base.Ns mainGlobals mg → FnG l.prog w K mg base CX0 5 fa fd ["_law_script"] (spLaw K) := by
  obtain ⟨C_InvalidOld, i_InvalidOld, fd_InvalidOld, E_InvalidOld⟩ := e_InvalidOld
  have o_InvalidOld : One K C_InvalidOld "InvalidOld" tlV := ⟨E_InvalidOld.cn, E_InvalidOld.ns, rfl⟩
  obtain ⟨C_InvalidNew, i_InvalidNew, fd_InvalidNew, E_InvalidNew⟩ := e_InvalidNew
  have o_InvalidNew : One K C_InvalidNew "InvalidNew" tlV := ⟨E_InvalidNew.cn, E_InvalidNew.ns, rfl⟩
  obtain ⟨C_InvalidText, i_InvalidText, fd_InvalidText, E_InvalidText⟩ := e_InvalidText
  have o_InvalidText : One K C_InvalidText "InvalidText" tlV := ⟨E_InvalidText.cn, E_InvalidText.ns, rfl⟩
  obtain ⟨C_InvalidTable, i_InvalidTable, fd_InvalidTable, E_InvalidTable⟩ := e_InvalidTable
  have o_InvalidTable : One K C_InvalidTable "InvalidTable" tlV := ⟨E_InvalidTable.cn, E_InvalidTable.ns, rfl⟩
  obtain ⟨C_InvalidCount, i_InvalidCount, fd_InvalidCount, E_InvalidCount⟩ := e_InvalidCount
  have o_InvalidCount : One K C_InvalidCount "InvalidCount" tlV := ⟨E_InvalidCount.cn, E_InvalidCount.ns, rfl⟩
  obtain ⟨C_InvalidSpot, i_InvalidSpot, fd_InvalidSpot, E_InvalidSpot⟩ := e_InvalidSpot
  have o_InvalidSpot : One K C_InvalidSpot "InvalidSpot" tlV := ⟨E_InvalidSpot.cn, E_InvalidSpot.ns, rfl⟩
  obtain ⟨C_InvalidHand, i_InvalidHand, fd_InvalidHand, E_InvalidHand⟩ := e_InvalidHand
  have o_InvalidHand : One K C_InvalidHand "InvalidHand" tlV := ⟨E_InvalidHand.cn, E_InvalidHand.ns, rfl⟩
  obtain ⟨C_InvalidFiles, i_InvalidFiles, fd_InvalidFiles, E_InvalidFiles⟩ := e_InvalidFiles
  have o_InvalidFiles : One K C_InvalidFiles "InvalidFiles" tlV := ⟨E_InvalidFiles.cn, E_InvalidFiles.ns, rfl⟩
  obtain ⟨C_InvalidName, i_InvalidName, fd_InvalidName, E_InvalidName⟩ := e_InvalidName
  have o_InvalidName : One K C_InvalidName "InvalidName" tlV := ⟨E_InvalidName.cn, E_InvalidName.ns, rfl⟩
  obtain ⟨C_InvalidPart, i_InvalidPart, fd_InvalidPart, E_InvalidPart⟩ := e_InvalidPart
  have o_InvalidPart : One K C_InvalidPart "InvalidPart" tlV := ⟨E_InvalidPart.cn, E_InvalidPart.ns, rfl⟩
  obtain ⟨C_InvalidEdit, i_InvalidEdit, fd_InvalidEdit, E_InvalidEdit⟩ := e_InvalidEdit
  have o_InvalidEdit : One K C_InvalidEdit "InvalidEdit" tlV := ⟨E_InvalidEdit.cn, E_InvalidEdit.ns, rfl⟩
  obtain ⟨C_InvalidChange, i_InvalidChange, fd_InvalidChange, E_InvalidChange⟩ := e_InvalidChange
  have o_InvalidChange : One K C_InvalidChange "InvalidChange" tlV := ⟨E_InvalidChange.cn, E_InvalidChange.ns, rfl⟩
  obtain ⟨C_InvalidProgram, i_InvalidProgram, fd_InvalidProgram, E_InvalidProgram⟩ := e_InvalidProgram
  have o_InvalidProgram : One K C_InvalidProgram "InvalidProgram" tlV := ⟨E_InvalidProgram.cn, E_InvalidProgram.ns, rfl⟩
  obtain ⟨C_InvalidRun, i_InvalidRun, fd_InvalidRun, E_InvalidRun⟩ := e_InvalidRun
  have o_InvalidRun : One K C_InvalidRun "InvalidRun" tlV := ⟨E_InvalidRun.cn, E_InvalidRun.ns, rfl⟩
  obtain ⟨C_NoExchange, i_NoExchange, fd_NoExchange, E_NoExchange⟩ := e_NoExchange
  have o_NoExchange : One K C_NoExchange "NoExchange" tlV := ⟨E_NoExchange.cn, E_NoExchange.ns, rfl⟩
  obtain ⟨C_NoMirror, i_NoMirror, fd_NoMirror, E_NoMirror⟩ := e_NoMirror
  have o_NoMirror : One K C_NoMirror "NoMirror" tlV := ⟨E_NoMirror.cn, E_NoMirror.ns, rfl⟩
  obtain ⟨C_NoBack, i_NoBack, fd_NoBack, E_NoBack⟩ := e_NoBack
  have o_NoBack : One K C_NoBack "NoBack" tlV := ⟨E_NoBack.cn, E_NoBack.ns, rfl⟩
  obtain ⟨C_Unbounded, i_Unbounded, fd_Unbounded, E_Unbounded⟩ := e_Unbounded
  have o_Unbounded : One K C_Unbounded "Unbounded" tlV := ⟨E_Unbounded.cn, E_Unbounded.ns, rfl⟩
  obtain ⟨C_Unreadable, i_Unreadable, fd_Unreadable, E_Unreadable⟩ := e_Unreadable
  have o_Unreadable : One K C_Unreadable "Unreadable" tlV := ⟨E_Unreadable.cn, E_Unreadable.ns, rfl⟩
  obtain ⟨C_InvalidRow, i_InvalidRow, fd_InvalidRow, E_InvalidRow⟩ := e_InvalidRow
  have o_InvalidRow : One K C_InvalidRow "InvalidRow" tlV := ⟨E_InvalidRow.cn, E_InvalidRow.ns, rfl⟩
  obtain ⟨C_Unlike, i_Unlike, fd_Unlike, E_Unlike⟩ := e_Unlike
  have o_Unlike : One K C_Unlike "Unlike" tlV := ⟨E_Unlike.cn, E_Unlike.ns, rfl⟩
  obtain ⟨C_NoPlace, i_NoPlace, fd_NoPlace, E_NoPlace⟩ := e_NoPlace
  have o_NoPlace : One K C_NoPlace "NoPlace" tlL := ⟨E_NoPlace.cn, E_NoPlace.ns, rfl⟩
  obtain ⟨C_Overlap, i_Overlap, fd_Overlap, E_Overlap⟩ := e_Overlap
  have o_Overlap : One K C_Overlap "Overlap" tlL := ⟨E_Overlap.cn, E_Overlap.ns, rfl⟩
  obtain ⟨C_OutOfRange, i_OutOfRange, fd_OutOfRange, E_OutOfRange⟩ := e_OutOfRange
  have o_OutOfRange : One K C_OutOfRange "OutOfRange" tlL := ⟨E_OutOfRange.cn, E_OutOfRange.ns, rfl⟩
  obtain ⟨C_NoFile, i_NoFile, fd_NoFile, E_NoFile⟩ := e_NoFile
  have o_NoFile : One K C_NoFile "NoFile" tlL := ⟨E_NoFile.cn, E_NoFile.ns, rfl⟩
  obtain ⟨C_NoLabel, i_NoLabel, fd_NoLabel, E_NoLabel⟩ := e_NoLabel
  have o_NoLabel : One K C_NoLabel "NoLabel" tlL := ⟨E_NoLabel.cn, E_NoLabel.ns, rfl⟩
  obtain ⟨C_TooMany, i_TooMany, fd_TooMany, E_TooMany⟩ := e_TooMany
  have o_TooMany : One K C_TooMany "TooMany" tlO := ⟨E_TooMany.cn, E_TooMany.ns, rfl⟩
  obtain ⟨C_TooLong, i_TooLong, fd_TooLong, E_TooLong⟩ := e_TooLong
  have o_TooLong : One K C_TooLong "TooLong" tlO := ⟨E_TooLong.cn, E_TooLong.ns, rfl⟩
  obtain ⟨C_NotRight, i_NotRight, fd_NotRight, E_NotRight⟩ := e_NotRight
  have o_NotRight : One K C_NotRight "NotRight" tlR := ⟨E_NotRight.cn, E_NotRight.ns, rfl⟩
  obtain ⟨C_Clash, i_Clash, fd_Clash, E_Clash⟩ := e_Clash
  have o_Clash : One K C_Clash "Clash" tlR := ⟨E_Clash.cn, E_Clash.ns, rfl⟩
  obtain ⟨C_FileNotRight, i_FileNotRight, fd_FileNotRight, E_FileNotRight⟩ := e_FileNotRight
  have o_FileNotRight : One K C_FileNotRight "FileNotRight" tlR := ⟨E_FileNotRight.cn, E_FileNotRight.ns, rfl⟩
  obtain ⟨C_Apart, i_Apart, fd_Apart, E_Apart⟩ := e_Apart
  have o_Apart : One K C_Apart "Apart" tlR := ⟨E_Apart.cn, E_Apart.ns, rfl⟩
  obtain ⟨C_Broken, i_Broken, fd_Broken, E_Broken⟩ := e_Broken
  have o_Broken : One K C_Broken "Broken" tlR := ⟨E_Broken.cn, E_Broken.ns, rfl⟩
  obtain ⟨C_Unsafe, i_Unsafe, fd_Unsafe, E_Unsafe⟩ := e_Unsafe
  have o_Unsafe : One K C_Unsafe "Unsafe" tlR := ⟨E_Unsafe.cn, E_Unsafe.ns, rfl⟩
  obtain ⟨f_lpen, fd_lpen, A_lpen⟩ := d_lpen
  have m_lpen := PySem.W.mg_of X G A_lpen.ns
  obtain ⟨f_ldraw, fd_ldraw, A_ldraw⟩ := d_ldraw
  have m_ldraw := PySem.W.mg_of X G A_ldraw.ns
  obtain ⟨f_lpick, fd_lpick, A_lpick⟩ := d_lpick
  have m_lpick := PySem.W.mg_of X G A_lpick.ns
  obtain ⟨f_lany_value, fd_lany_value, A_lany_value⟩ := d_lany_value
  have m_lany_value := PySem.W.mg_of X G A_lany_value.ns
  obtain ⟨f_lsome_errors, fd_lsome_errors, A_lsome_errors⟩ := d_lsome_errors
  have m_lsome_errors := PySem.W.mg_of X G A_lsome_errors.ns
  obtain ⟨f_lother_errors, fd_lother_errors, A_lother_errors⟩ := d_lother_errors
  have m_lother_errors := PySem.W.mg_of X G A_lother_errors.ns
  obtain ⟨f_lclasses, fd_lclasses, A_lclasses⟩ := d_lclasses
  have m_lclasses := PySem.W.mg_of X G A_lclasses.ns
  obtain ⟨f_lsorts, fd_lsorts, A_lsorts⟩ := d_lsorts
  have m_lsorts := PySem.W.mg_of X G A_lsorts.ns
  obtain ⟨f_law, fd_law, A_law⟩ := d_law
  have m_law := PySem.W.mg_of X G A_law.ns
  have e := hfa.symm.trans m_law
  cases e
  have T : Txt mg := ⟨PySem.W.mg_none_of X G z_len, PySem.W.mg_none_of X G z_list, PySem.W.mg_none_of X G z_int, PySem.W.mg_none_of X G z_abs, PySem.W.mg_none_of X G z_range, PySem.W.mg_none_of X G z_min, PySem.W.mg_none_of X G z_repr, PySem.W.mg_none_of X G z_isinstance, PySem.W.mg_none_of X G z_zip, PySem.W.mg_none_of X G z_ValueError, PySem.W.mg_none_of X G z_LookupError, PySem.W.mg_none_of X G z_OverflowError, PySem.W.mg_none_of X G z_RuntimeError⟩
  have bd_lpen : Binds K fd_lpen ["_law_script"] [] := A_lpen.fn.binds (ps := ["_law_script"]) fun _ _ _ _ _ _ us hl => match us, hl with | [_], _ => rfl
  have bd_ldraw : Binds K fd_ldraw ["_law_pen_here", "_law_many"] [] := A_ldraw.fn.binds (ps := ["_law_pen_here", "_law_many"]) fun _ _ _ _ _ _ us hl => match us, hl with | [_, _], _ => rfl
  have bd_lpick : Binds K fd_lpick ["_law_pen_here", "_law_options"] [] := A_lpick.fn.binds (ps := ["_law_pen_here", "_law_options"]) fun _ _ _ _ _ _ us hl => match us, hl with | [_, _], _ => rfl
  have bd_lany_value : Binds K fd_lany_value ["_law_pen_here"] [] := A_lany_value.fn.binds (ps := ["_law_pen_here"]) fun _ _ _ _ _ _ us hl => match us, hl with | [_], _ => rfl
  have bd_lsome_errors : Binds K fd_lsome_errors ["_law_thing"] [] := A_lsome_errors.fn.binds (ps := ["_law_thing"]) fun _ _ _ _ _ _ us hl => match us, hl with | [_], _ => rfl
  have bd_lother_errors : Binds K fd_lother_errors ["_law_thing"] [] := A_lother_errors.fn.binds (ps := ["_law_thing"]) fun _ _ _ _ _ _ us hl => match us, hl with | [_], _ => rfl
  have bd_lclasses : Binds K fd_lclasses ["_law_error"] [] := A_lclasses.fn.binds (ps := ["_law_error"]) fun _ _ _ _ _ _ us hl => match us, hl with | [_], _ => rfl
  have bd_lsorts : Binds K fd_lsorts ["_law_error"] [] := A_lsorts.fn.binds (ps := ["_law_error"]) fun _ _ _ _ _ _ us hl => match us, hl with | [_], _ => rfl
  have bd_law : Binds K fd_law ["_law_script"] [] := A_law.fn.binds (ps := ["_law_script"]) fun _ _ _ _ _ _ us hl => match us, hl with | [_], _ => rfl
  refine ⟨fd_law, fun s v => A_law.fn.binds1 rfl s v, fun base _ _ => ?_⟩
  have k_InvalidOld : ClsI l.prog w K mg base 1 "InvalidOld" C_InvalidOld ["value"] := c_InvalidOld X G E_InvalidOld
  have k_InvalidNew : ClsI l.prog w K mg base 1 "InvalidNew" C_InvalidNew ["value"] := c_InvalidNew X G E_InvalidNew
  have k_InvalidText : ClsI l.prog w K mg base 1 "InvalidText" C_InvalidText ["value"] := c_InvalidText X G E_InvalidText
  have k_InvalidTable : ClsI l.prog w K mg base 1 "InvalidTable" C_InvalidTable ["value"] := c_InvalidTable X G E_InvalidTable
  have k_InvalidCount : ClsI l.prog w K mg base 1 "InvalidCount" C_InvalidCount ["value"] := c_InvalidCount X G E_InvalidCount
  have k_InvalidSpot : ClsI l.prog w K mg base 1 "InvalidSpot" C_InvalidSpot ["value"] := c_InvalidSpot X G E_InvalidSpot
  have k_InvalidHand : ClsI l.prog w K mg base 1 "InvalidHand" C_InvalidHand ["value"] := c_InvalidHand X G E_InvalidHand
  have k_InvalidFiles : ClsI l.prog w K mg base 1 "InvalidFiles" C_InvalidFiles ["value"] := c_InvalidFiles X G E_InvalidFiles
  have k_InvalidName : ClsI l.prog w K mg base 1 "InvalidName" C_InvalidName ["value"] := c_InvalidName X G E_InvalidName
  have k_InvalidPart : ClsI l.prog w K mg base 1 "InvalidPart" C_InvalidPart ["index"] := c_InvalidPart X G E_InvalidPart
  have k_InvalidEdit : ClsI l.prog w K mg base 1 "InvalidEdit" C_InvalidEdit ["index"] := c_InvalidEdit X G E_InvalidEdit
  have k_InvalidChange : ClsI l.prog w K mg base 1 "InvalidChange" C_InvalidChange ["index"] := c_InvalidChange X G E_InvalidChange
  have k_InvalidProgram : ClsI l.prog w K mg base 1 "InvalidProgram" C_InvalidProgram ["index"] := c_InvalidProgram X G E_InvalidProgram
  have k_InvalidRun : ClsI l.prog w K mg base 1 "InvalidRun" C_InvalidRun ["index"] := c_InvalidRun X G E_InvalidRun
  have k_NoExchange : ClsI l.prog w K mg base 1 "NoExchange" C_NoExchange ["index"] := c_NoExchange X G E_NoExchange
  have k_NoMirror : ClsI l.prog w K mg base 1 "NoMirror" C_NoMirror ["index"] := c_NoMirror X G E_NoMirror
  have k_NoBack : ClsI l.prog w K mg base 1 "NoBack" C_NoBack ["index"] := c_NoBack X G E_NoBack
  have k_Unbounded : ClsI l.prog w K mg base 1 "Unbounded" C_Unbounded ["index"] := c_Unbounded X G E_Unbounded
  have k_Unreadable : ClsI l.prog w K mg base 1 "Unreadable" C_Unreadable ["index"] := c_Unreadable X G E_Unreadable
  have k_InvalidRow : ClsI l.prog w K mg base 1 "InvalidRow" C_InvalidRow ["row"] := c_InvalidRow X G E_InvalidRow
  have k_Unlike : ClsI l.prog w K mg base 1 "Unlike" C_Unlike [] := c_Unlike X G E_Unlike
  have k_NoPlace : ClsI l.prog w K mg base 1 "NoPlace" C_NoPlace ["index", "number"] := c_NoPlace X G E_NoPlace
  have k_Overlap : ClsI l.prog w K mg base 1 "Overlap" C_Overlap ["index"] := c_Overlap X G E_Overlap
  have k_OutOfRange : ClsI l.prog w K mg base 1 "OutOfRange" C_OutOfRange ["value"] := c_OutOfRange X G E_OutOfRange
  have k_NoFile : ClsI l.prog w K mg base 1 "NoFile" C_NoFile ["name"] := c_NoFile X G E_NoFile
  have k_NoLabel : ClsI l.prog w K mg base 1 "NoLabel" C_NoLabel ["label"] := c_NoLabel X G E_NoLabel
  have k_TooMany : ClsI l.prog w K mg base 1 "TooMany" C_TooMany ["limit"] := c_TooMany X G E_TooMany
  have k_TooLong : ClsI l.prog w K mg base 1 "TooLong" C_TooLong ["limit"] := c_TooLong X G E_TooLong
  have k_NotRight : ClsI l.prog w K mg base 1 "NotRight" C_NotRight ["hand"] := c_NotRight X G E_NotRight
  have k_Clash : ClsI l.prog w K mg base 1 "Clash" C_Clash ["hand", "other"] := c_Clash X G E_Clash
  have k_FileNotRight : ClsI l.prog w K mg base 1 "FileNotRight" C_FileNotRight ["name", "index"] := c_FileNotRight X G E_FileNotRight
  have k_Apart : ClsI l.prog w K mg base 1 "Apart" C_Apart ["name"] := c_Apart X G E_Apart
  have k_Broken : ClsI l.prog w K mg base 1 "Broken" C_Broken ["name"] := c_Broken X G E_Broken
  have k_Unsafe : ClsI l.prog w K mg base 1 "Unsafe" C_Unsafe ["name", "case"] := c_Unsafe X G E_Unsafe
  have c_ldraw : CalG l.prog w K mg base CX0 1 "_law_draw" spDraw := ⟨f_ldraw, fd_ldraw, _, b_ldraw A_ldraw.fn T, m_ldraw, A_ldraw.fn.kp, bd_ldraw⟩
  have c_lpen : CalG l.prog w K mg base CX0 1 "_law_pen" (spPen K) := ⟨f_lpen, fd_lpen, _, b_lpen A_lpen.fn T, m_lpen, A_lpen.fn.kp, bd_lpen⟩
  have c_lpick : CalG l.prog w K mg base CX0 2 "_law_pick" (spPick K) := ⟨f_lpick, fd_lpick, _, b_lpick A_lpick.fn T c_ldraw, m_lpick, A_lpick.fn.kp, bd_lpick⟩
  have c_lany_value : CalG l.prog w K mg base CX0 3 "_law_any_value" spAny := ⟨f_lany_value, fd_lany_value, _, b_lany_value A_lany_value.fn T c_lpick, m_lany_value, A_lany_value.fn.kp, bd_lany_value⟩
  have c_lsome_errors : CalG l.prog w K mg base CX0 3 "_law_some_errors" (spErrs K) := ⟨f_lsome_errors, fd_lsome_errors, _, b_lsome_errors A_lsome_errors.fn T k_InvalidOld o_InvalidOld k_InvalidNew o_InvalidNew k_InvalidText o_InvalidText k_InvalidTable o_InvalidTable k_InvalidCount o_InvalidCount k_InvalidSpot o_InvalidSpot k_InvalidHand o_InvalidHand k_InvalidFiles o_InvalidFiles k_InvalidName o_InvalidName k_InvalidPart o_InvalidPart k_InvalidEdit o_InvalidEdit k_InvalidChange o_InvalidChange k_InvalidProgram o_InvalidProgram k_InvalidRun o_InvalidRun k_NoExchange o_NoExchange k_NoMirror o_NoMirror k_NoBack o_NoBack, m_lsome_errors, A_lsome_errors.fn.kp, bd_lsome_errors⟩
  have c_lother_errors : CalG l.prog w K mg base CX0 3 "_law_other_errors" (spErrs K) := ⟨f_lother_errors, fd_lother_errors, _, b_lother_errors A_lother_errors.fn T k_Unbounded o_Unbounded k_Unreadable o_Unreadable k_InvalidRow o_InvalidRow k_Unlike o_Unlike k_NoPlace o_NoPlace k_Overlap o_Overlap k_OutOfRange o_OutOfRange k_NoFile o_NoFile k_NoLabel o_NoLabel k_TooMany o_TooMany k_TooLong o_TooLong k_NotRight o_NotRight k_Clash o_Clash k_FileNotRight o_FileNotRight k_Apart o_Apart k_Broken o_Broken k_Unsafe o_Unsafe, m_lother_errors, A_lother_errors.fn.kp, bd_lother_errors⟩
  have c_lclasses : CalG l.prog w K mg base CX0 3 "_law_classes" (spClasses K) := ⟨f_lclasses, fd_lclasses, _, b_lclasses A_lclasses.fn T k_InvalidOld o_InvalidOld k_InvalidNew o_InvalidNew k_InvalidText o_InvalidText k_InvalidTable o_InvalidTable k_InvalidCount o_InvalidCount k_InvalidSpot o_InvalidSpot k_InvalidHand o_InvalidHand k_InvalidFiles o_InvalidFiles k_InvalidName o_InvalidName k_InvalidPart o_InvalidPart k_InvalidEdit o_InvalidEdit k_InvalidChange o_InvalidChange k_InvalidProgram o_InvalidProgram k_InvalidRun o_InvalidRun k_NoExchange o_NoExchange k_NoMirror o_NoMirror k_NoBack o_NoBack k_Unbounded o_Unbounded k_Unreadable o_Unreadable k_InvalidRow o_InvalidRow k_Unlike o_Unlike k_NoPlace o_NoPlace k_Overlap o_Overlap k_OutOfRange o_OutOfRange k_NoFile o_NoFile k_NoLabel o_NoLabel k_TooMany o_TooMany k_TooLong o_TooLong k_NotRight o_NotRight k_Clash o_Clash k_FileNotRight o_FileNotRight k_Apart o_Apart k_Broken o_Broken k_Unsafe o_Unsafe, m_lclasses, A_lclasses.fn.kp, bd_lclasses⟩
  have c_lsorts : CalG l.prog w K mg base CX0 3 "_law_sorts" (spSorts K) := ⟨f_lsorts, fd_lsorts, _, b_lsorts A_lsorts.fn T, m_lsorts, A_lsorts.fn.kp, bd_lsorts⟩
  exact b_law A_law.fn T c_lpen c_lany_value c_lsome_errors c_lother_errors c_lclasses c_lsorts g_MAX_WORD g_MAX_EDITS g_MAX_PARTS g_MAX_OLDS g_MAX_NEWS g_MAX_RUNS g_MAX_TIMES g_MAX_FILES g_MAX_HANDS
end Vk
set_option Elab.async false
set_option maxRecDepth 100000
set_option linter.all false
open PySem PySem.W PyProof.Rows
set_option maxRecDepth 100000 in
set_option maxHeartbeats 0 in
theorem PySem.Challenge.cw_anchoredits_k13_errors_and_limits_holds : PySem.Challenge.rw_anchoredits_k13_errors_and_limits.Holds := by
  w_on; o_law; k_headL; (case hw => w_witness2)
  k_fill
  refine Vk.walkX (l := PySem.Challenge.rw_anchoredits_k13_errors_and_limits) (n := 63) (k := 5) (x := "_law_script") (CX := L2.CX0) (sp := Vk.spLaw) rfl (by decide) rfl ⟨rfl, by decide, by decide⟩ (fun w h Y => PySem.W.kIn_of Y) ?F (fun K H a ns hl _ hS => ⟨a, ns, rfl, hS, hl, fun _ => rfl⟩) (fun _ _ _ _ z => z)
  case F =>
    intro w mg fa h KX Gr hmg
    obtain ⟨s0, mb, Gr⟩ := Gr
    refine' Vk.all KX Gr.T.g hmg ?e_InvalidOld ?e_InvalidNew ?e_InvalidText ?e_InvalidTable ?e_InvalidCount ?e_InvalidSpot ?e_InvalidHand ?e_InvalidFiles ?e_InvalidName ?e_InvalidPart ?e_InvalidEdit ?e_InvalidChange ?e_InvalidProgram ?e_InvalidRun ?e_NoExchange ?e_NoMirror ?e_NoBack ?e_Unbounded ?e_Unreadable ?e_InvalidRow ?e_Unlike ?e_NoPlace ?e_Overlap ?e_OutOfRange ?e_NoFile ?e_NoLabel ?e_TooMany ?e_TooLong ?e_NotRight ?e_Clash ?e_FileNotRight ?e_Apart ?e_Broken ?e_Unsafe ?d_lpen ?d_ldraw ?d_lpick ?d_lany_value ?d_lsome_errors ?d_lother_errors ?d_lclasses ?d_lsorts ?d_law ?z_len ?z_list ?z_int ?z_abs ?z_range ?z_min ?z_repr ?z_isinstance ?z_zip ?z_ValueError ?z_LookupError ?z_OverflowError ?z_RuntimeError ?g_MAX_WORD ?g_MAX_EDITS ?g_MAX_PARTS ?g_MAX_OLDS ?g_MAX_NEWS ?g_MAX_RUNS ?g_MAX_TIMES ?g_MAX_FILES ?g_MAX_HANDS
    (case e_InvalidOld => (refine' ⟨_, _, _, Vk.exc_mk PySem.VkX.exB_value ?ns ?iC ?cls ?sa ?kC ?ga ?gg ?ex ?hd ?ha ?hn ?ht ?hm ?tI ?kI (Vk.no1 ?n1) ?l ?c⟩; (case ns => k_is); (case iC => k_is); (case cls => k_is); (case sa => k_is); (case kC => k_is); (case ga => k_is); (case gg => k_is); (case ex => k_is); (case hd => k_is); (case ha => k_is); (case hn => k_is); (case ht => k_is); (case hm => k_is); (case tI => k_is); (case kI => k_is); (case n1 => k_is); (case l => k_is); (case c => k_is)))
    (case e_InvalidNew => (refine' ⟨_, _, _, Vk.exc_mk PySem.VkX.exB_value ?ns ?iC ?cls ?sa ?kC ?ga ?gg ?ex ?hd ?ha ?hn ?ht ?hm ?tI ?kI (Vk.no1 ?n1) ?l ?c⟩; (case ns => k_is); (case iC => k_is); (case cls => k_is); (case sa => k_is); (case kC => k_is); (case ga => k_is); (case gg => k_is); (case ex => k_is); (case hd => k_is); (case ha => k_is); (case hn => k_is); (case ht => k_is); (case hm => k_is); (case tI => k_is); (case kI => k_is); (case n1 => k_is); (case l => k_is); (case c => k_is)))
    (case e_InvalidText => (refine' ⟨_, _, _, Vk.exc_mk PySem.VkX.exB_value ?ns ?iC ?cls ?sa ?kC ?ga ?gg ?ex ?hd ?ha ?hn ?ht ?hm ?tI ?kI (Vk.no1 ?n1) ?l ?c⟩; (case ns => k_is); (case iC => k_is); (case cls => k_is); (case sa => k_is); (case kC => k_is); (case ga => k_is); (case gg => k_is); (case ex => k_is); (case hd => k_is); (case ha => k_is); (case hn => k_is); (case ht => k_is); (case hm => k_is); (case tI => k_is); (case kI => k_is); (case n1 => k_is); (case l => k_is); (case c => k_is)))
    (case e_InvalidTable => (refine' ⟨_, _, _, Vk.exc_mk PySem.VkX.exB_value ?ns ?iC ?cls ?sa ?kC ?ga ?gg ?ex ?hd ?ha ?hn ?ht ?hm ?tI ?kI (Vk.no1 ?n1) ?l ?c⟩; (case ns => k_is); (case iC => k_is); (case cls => k_is); (case sa => k_is); (case kC => k_is); (case ga => k_is); (case gg => k_is); (case ex => k_is); (case hd => k_is); (case ha => k_is); (case hn => k_is); (case ht => k_is); (case hm => k_is); (case tI => k_is); (case kI => k_is); (case n1 => k_is); (case l => k_is); (case c => k_is)))
    (case e_InvalidCount => (refine' ⟨_, _, _, Vk.exc_mk PySem.VkX.exB_value ?ns ?iC ?cls ?sa ?kC ?ga ?gg ?ex ?hd ?ha ?hn ?ht ?hm ?tI ?kI (Vk.no1 ?n1) ?l ?c⟩; (case ns => k_is); (case iC => k_is); (case cls => k_is); (case sa => k_is); (case kC => k_is); (case ga => k_is); (case gg => k_is); (case ex => k_is); (case hd => k_is); (case ha => k_is); (case hn => k_is); (case ht => k_is); (case hm => k_is); (case tI => k_is); (case kI => k_is); (case n1 => k_is); (case l => k_is); (case c => k_is)))
    (case e_InvalidSpot => (refine' ⟨_, _, _, Vk.exc_mk PySem.VkX.exB_value ?ns ?iC ?cls ?sa ?kC ?ga ?gg ?ex ?hd ?ha ?hn ?ht ?hm ?tI ?kI (Vk.no1 ?n1) ?l ?c⟩; (case ns => k_is); (case iC => k_is); (case cls => k_is); (case sa => k_is); (case kC => k_is); (case ga => k_is); (case gg => k_is); (case ex => k_is); (case hd => k_is); (case ha => k_is); (case hn => k_is); (case ht => k_is); (case hm => k_is); (case tI => k_is); (case kI => k_is); (case n1 => k_is); (case l => k_is); (case c => k_is)))
    (case e_InvalidHand => (refine' ⟨_, _, _, Vk.exc_mk PySem.VkX.exB_value ?ns ?iC ?cls ?sa ?kC ?ga ?gg ?ex ?hd ?ha ?hn ?ht ?hm ?tI ?kI (Vk.no1 ?n1) ?l ?c⟩; (case ns => k_is); (case iC => k_is); (case cls => k_is); (case sa => k_is); (case kC => k_is); (case ga => k_is); (case gg => k_is); (case ex => k_is); (case hd => k_is); (case ha => k_is); (case hn => k_is); (case ht => k_is); (case hm => k_is); (case tI => k_is); (case kI => k_is); (case n1 => k_is); (case l => k_is); (case c => k_is)))
    (case e_InvalidFiles => (refine' ⟨_, _, _, Vk.exc_mk PySem.VkX.exB_value ?ns ?iC ?cls ?sa ?kC ?ga ?gg ?ex ?hd ?ha ?hn ?ht ?hm ?tI ?kI (Vk.no1 ?n1) ?l ?c⟩; (case ns => k_is); (case iC => k_is); (case cls => k_is); (case sa => k_is); (case kC => k_is); (case ga => k_is); (case gg => k_is); (case ex => k_is); (case hd => k_is); (case ha => k_is); (case hn => k_is); (case ht => k_is); (case hm => k_is); (case tI => k_is); (case kI => k_is); (case n1 => k_is); (case l => k_is); (case c => k_is)))
    (case e_InvalidName => (refine' ⟨_, _, _, Vk.exc_mk PySem.VkX.exB_value ?ns ?iC ?cls ?sa ?kC ?ga ?gg ?ex ?hd ?ha ?hn ?ht ?hm ?tI ?kI (Vk.no1 ?n1) ?l ?c⟩; (case ns => k_is); (case iC => k_is); (case cls => k_is); (case sa => k_is); (case kC => k_is); (case ga => k_is); (case gg => k_is); (case ex => k_is); (case hd => k_is); (case ha => k_is); (case hn => k_is); (case ht => k_is); (case hm => k_is); (case tI => k_is); (case kI => k_is); (case n1 => k_is); (case l => k_is); (case c => k_is)))
    (case e_InvalidPart => (refine' ⟨_, _, _, Vk.exc_mk PySem.VkX.exB_value ?ns ?iC ?cls ?sa ?kC ?ga ?gg ?ex ?hd ?ha ?hn ?ht ?hm ?tI ?kI (Vk.no1 ?n1) ?l ?c⟩; (case ns => k_is); (case iC => k_is); (case cls => k_is); (case sa => k_is); (case kC => k_is); (case ga => k_is); (case gg => k_is); (case ex => k_is); (case hd => k_is); (case ha => k_is); (case hn => k_is); (case ht => k_is); (case hm => k_is); (case tI => k_is); (case kI => k_is); (case n1 => k_is); (case l => k_is); (case c => k_is)))
    (case e_InvalidEdit => (refine' ⟨_, _, _, Vk.exc_mk PySem.VkX.exB_value ?ns ?iC ?cls ?sa ?kC ?ga ?gg ?ex ?hd ?ha ?hn ?ht ?hm ?tI ?kI (Vk.no1 ?n1) ?l ?c⟩; (case ns => k_is); (case iC => k_is); (case cls => k_is); (case sa => k_is); (case kC => k_is); (case ga => k_is); (case gg => k_is); (case ex => k_is); (case hd => k_is); (case ha => k_is); (case hn => k_is); (case ht => k_is); (case hm => k_is); (case tI => k_is); (case kI => k_is); (case n1 => k_is); (case l => k_is); (case c => k_is)))
    (case e_InvalidChange => (refine' ⟨_, _, _, Vk.exc_mk PySem.VkX.exB_value ?ns ?iC ?cls ?sa ?kC ?ga ?gg ?ex ?hd ?ha ?hn ?ht ?hm ?tI ?kI (Vk.no1 ?n1) ?l ?c⟩; (case ns => k_is); (case iC => k_is); (case cls => k_is); (case sa => k_is); (case kC => k_is); (case ga => k_is); (case gg => k_is); (case ex => k_is); (case hd => k_is); (case ha => k_is); (case hn => k_is); (case ht => k_is); (case hm => k_is); (case tI => k_is); (case kI => k_is); (case n1 => k_is); (case l => k_is); (case c => k_is)))
    (case e_InvalidProgram => (refine' ⟨_, _, _, Vk.exc_mk PySem.VkX.exB_value ?ns ?iC ?cls ?sa ?kC ?ga ?gg ?ex ?hd ?ha ?hn ?ht ?hm ?tI ?kI (Vk.no1 ?n1) ?l ?c⟩; (case ns => k_is); (case iC => k_is); (case cls => k_is); (case sa => k_is); (case kC => k_is); (case ga => k_is); (case gg => k_is); (case ex => k_is); (case hd => k_is); (case ha => k_is); (case hn => k_is); (case ht => k_is); (case hm => k_is); (case tI => k_is); (case kI => k_is); (case n1 => k_is); (case l => k_is); (case c => k_is)))
    (case e_InvalidRun => (refine' ⟨_, _, _, Vk.exc_mk PySem.VkX.exB_value ?ns ?iC ?cls ?sa ?kC ?ga ?gg ?ex ?hd ?ha ?hn ?ht ?hm ?tI ?kI (Vk.no1 ?n1) ?l ?c⟩; (case ns => k_is); (case iC => k_is); (case cls => k_is); (case sa => k_is); (case kC => k_is); (case ga => k_is); (case gg => k_is); (case ex => k_is); (case hd => k_is); (case ha => k_is); (case hn => k_is); (case ht => k_is); (case hm => k_is); (case tI => k_is); (case kI => k_is); (case n1 => k_is); (case l => k_is); (case c => k_is)))
    (case e_NoExchange => (refine' ⟨_, _, _, Vk.exc_mk PySem.VkX.exB_value ?ns ?iC ?cls ?sa ?kC ?ga ?gg ?ex ?hd ?ha ?hn ?ht ?hm ?tI ?kI (Vk.no1 ?n1) ?l ?c⟩; (case ns => k_is); (case iC => k_is); (case cls => k_is); (case sa => k_is); (case kC => k_is); (case ga => k_is); (case gg => k_is); (case ex => k_is); (case hd => k_is); (case ha => k_is); (case hn => k_is); (case ht => k_is); (case hm => k_is); (case tI => k_is); (case kI => k_is); (case n1 => k_is); (case l => k_is); (case c => k_is)))
    (case e_NoMirror => (refine' ⟨_, _, _, Vk.exc_mk PySem.VkX.exB_value ?ns ?iC ?cls ?sa ?kC ?ga ?gg ?ex ?hd ?ha ?hn ?ht ?hm ?tI ?kI (Vk.no1 ?n1) ?l ?c⟩; (case ns => k_is); (case iC => k_is); (case cls => k_is); (case sa => k_is); (case kC => k_is); (case ga => k_is); (case gg => k_is); (case ex => k_is); (case hd => k_is); (case ha => k_is); (case hn => k_is); (case ht => k_is); (case hm => k_is); (case tI => k_is); (case kI => k_is); (case n1 => k_is); (case l => k_is); (case c => k_is)))
    (case e_NoBack => (refine' ⟨_, _, _, Vk.exc_mk PySem.VkX.exB_value ?ns ?iC ?cls ?sa ?kC ?ga ?gg ?ex ?hd ?ha ?hn ?ht ?hm ?tI ?kI (Vk.no1 ?n1) ?l ?c⟩; (case ns => k_is); (case iC => k_is); (case cls => k_is); (case sa => k_is); (case kC => k_is); (case ga => k_is); (case gg => k_is); (case ex => k_is); (case hd => k_is); (case ha => k_is); (case hn => k_is); (case ht => k_is); (case hm => k_is); (case tI => k_is); (case kI => k_is); (case n1 => k_is); (case l => k_is); (case c => k_is)))
    (case e_Unbounded => (refine' ⟨_, _, _, Vk.exc_mk PySem.VkX.exB_value ?ns ?iC ?cls ?sa ?kC ?ga ?gg ?ex ?hd ?ha ?hn ?ht ?hm ?tI ?kI (Vk.no1 ?n1) ?l ?c⟩; (case ns => k_is); (case iC => k_is); (case cls => k_is); (case sa => k_is); (case kC => k_is); (case ga => k_is); (case gg => k_is); (case ex => k_is); (case hd => k_is); (case ha => k_is); (case hn => k_is); (case ht => k_is); (case hm => k_is); (case tI => k_is); (case kI => k_is); (case n1 => k_is); (case l => k_is); (case c => k_is)))
    (case e_Unreadable => (refine' ⟨_, _, _, Vk.exc_mk PySem.VkX.exB_value ?ns ?iC ?cls ?sa ?kC ?ga ?gg ?ex ?hd ?ha ?hn ?ht ?hm ?tI ?kI (Vk.no1 ?n1) ?l ?c⟩; (case ns => k_is); (case iC => k_is); (case cls => k_is); (case sa => k_is); (case kC => k_is); (case ga => k_is); (case gg => k_is); (case ex => k_is); (case hd => k_is); (case ha => k_is); (case hn => k_is); (case ht => k_is); (case hm => k_is); (case tI => k_is); (case kI => k_is); (case n1 => k_is); (case l => k_is); (case c => k_is)))
    (case e_InvalidRow => (refine' ⟨_, _, _, Vk.exc_mk PySem.VkX.exB_value ?ns ?iC ?cls ?sa ?kC ?ga ?gg ?ex ?hd ?ha ?hn ?ht ?hm ?tI ?kI (Vk.no1 ?n1) ?l ?c⟩; (case ns => k_is); (case iC => k_is); (case cls => k_is); (case sa => k_is); (case kC => k_is); (case ga => k_is); (case gg => k_is); (case ex => k_is); (case hd => k_is); (case ha => k_is); (case hn => k_is); (case ht => k_is); (case hm => k_is); (case tI => k_is); (case kI => k_is); (case n1 => k_is); (case l => k_is); (case c => k_is)))
    (case e_Unlike => (refine' ⟨_, _, _, Vk.exc_mk PySem.VkX.exB_value ?ns ?iC ?cls ?sa ?kC ?ga ?gg ?ex ?hd ?ha ?hn ?ht ?hm ?tI ?kI Vk.no0 ?l ?c⟩; (case ns => k_is); (case iC => k_is); (case cls => k_is); (case sa => k_is); (case kC => k_is); (case ga => k_is); (case gg => k_is); (case ex => k_is); (case hd => k_is); (case ha => k_is); (case hn => k_is); (case ht => k_is); (case hm => k_is); (case tI => k_is); (case kI => k_is); (case l => k_is); (case c => k_is)))
    (case e_NoPlace => (refine' ⟨_, _, _, Vk.exc_mk PySem.VkX.exB_lookup ?ns ?iC ?cls ?sa ?kC ?ga ?gg ?ex ?hd ?ha ?hn ?ht ?hm ?tI ?kI (Vk.no2 ?n1 ?n2) ?l ?c⟩; (case ns => k_is); (case iC => k_is); (case cls => k_is); (case sa => k_is); (case kC => k_is); (case ga => k_is); (case gg => k_is); (case ex => k_is); (case hd => k_is); (case ha => k_is); (case hn => k_is); (case ht => k_is); (case hm => k_is); (case tI => k_is); (case kI => k_is); (case n1 => k_is); (case n2 => k_is); (case l => k_is); (case c => k_is)))
    (case e_Overlap => (refine' ⟨_, _, _, Vk.exc_mk PySem.VkX.exB_lookup ?ns ?iC ?cls ?sa ?kC ?ga ?gg ?ex ?hd ?ha ?hn ?ht ?hm ?tI ?kI (Vk.no1 ?n1) ?l ?c⟩; (case ns => k_is); (case iC => k_is); (case cls => k_is); (case sa => k_is); (case kC => k_is); (case ga => k_is); (case gg => k_is); (case ex => k_is); (case hd => k_is); (case ha => k_is); (case hn => k_is); (case ht => k_is); (case hm => k_is); (case tI => k_is); (case kI => k_is); (case n1 => k_is); (case l => k_is); (case c => k_is)))
    (case e_OutOfRange => (refine' ⟨_, _, _, Vk.exc_mk PySem.VkX.exB_lookup ?ns ?iC ?cls ?sa ?kC ?ga ?gg ?ex ?hd ?ha ?hn ?ht ?hm ?tI ?kI (Vk.no1 ?n1) ?l ?c⟩; (case ns => k_is); (case iC => k_is); (case cls => k_is); (case sa => k_is); (case kC => k_is); (case ga => k_is); (case gg => k_is); (case ex => k_is); (case hd => k_is); (case ha => k_is); (case hn => k_is); (case ht => k_is); (case hm => k_is); (case tI => k_is); (case kI => k_is); (case n1 => k_is); (case l => k_is); (case c => k_is)))
    (case e_NoFile => (refine' ⟨_, _, _, Vk.exc_mk PySem.VkX.exB_lookup ?ns ?iC ?cls ?sa ?kC ?ga ?gg ?ex ?hd ?ha ?hn ?ht ?hm ?tI ?kI (Vk.no1 ?n1) ?l ?c⟩; (case ns => k_is); (case iC => k_is); (case cls => k_is); (case sa => k_is); (case kC => k_is); (case ga => k_is); (case gg => k_is); (case ex => k_is); (case hd => k_is); (case ha => k_is); (case hn => k_is); (case ht => k_is); (case hm => k_is); (case tI => k_is); (case kI => k_is); (case n1 => k_is); (case l => k_is); (case c => k_is)))
    (case e_NoLabel => (refine' ⟨_, _, _, Vk.exc_mk PySem.VkX.exB_lookup ?ns ?iC ?cls ?sa ?kC ?ga ?gg ?ex ?hd ?ha ?hn ?ht ?hm ?tI ?kI (Vk.no1 ?n1) ?l ?c⟩; (case ns => k_is); (case iC => k_is); (case cls => k_is); (case sa => k_is); (case kC => k_is); (case ga => k_is); (case gg => k_is); (case ex => k_is); (case hd => k_is); (case ha => k_is); (case hn => k_is); (case ht => k_is); (case hm => k_is); (case tI => k_is); (case kI => k_is); (case n1 => k_is); (case l => k_is); (case c => k_is)))
    (case e_TooMany => (refine' ⟨_, _, _, Vk.exc_mk PySem.VkX.exB_overflow ?ns ?iC ?cls ?sa ?kC ?ga ?gg ?ex ?hd ?ha ?hn ?ht ?hm ?tI ?kI (Vk.no1 ?n1) ?l ?c⟩; (case ns => k_is); (case iC => k_is); (case cls => k_is); (case sa => k_is); (case kC => k_is); (case ga => k_is); (case gg => k_is); (case ex => k_is); (case hd => k_is); (case ha => k_is); (case hn => k_is); (case ht => k_is); (case hm => k_is); (case tI => k_is); (case kI => k_is); (case n1 => k_is); (case l => k_is); (case c => k_is)))
    (case e_TooLong => (refine' ⟨_, _, _, Vk.exc_mk PySem.VkX.exB_overflow ?ns ?iC ?cls ?sa ?kC ?ga ?gg ?ex ?hd ?ha ?hn ?ht ?hm ?tI ?kI (Vk.no1 ?n1) ?l ?c⟩; (case ns => k_is); (case iC => k_is); (case cls => k_is); (case sa => k_is); (case kC => k_is); (case ga => k_is); (case gg => k_is); (case ex => k_is); (case hd => k_is); (case ha => k_is); (case hn => k_is); (case ht => k_is); (case hm => k_is); (case tI => k_is); (case kI => k_is); (case n1 => k_is); (case l => k_is); (case c => k_is)))
    (case e_NotRight => (refine' ⟨_, _, _, Vk.exc_mk PySem.VkX.exB_runtime ?ns ?iC ?cls ?sa ?kC ?ga ?gg ?ex ?hd ?ha ?hn ?ht ?hm ?tI ?kI (Vk.no1 ?n1) ?l ?c⟩; (case ns => k_is); (case iC => k_is); (case cls => k_is); (case sa => k_is); (case kC => k_is); (case ga => k_is); (case gg => k_is); (case ex => k_is); (case hd => k_is); (case ha => k_is); (case hn => k_is); (case ht => k_is); (case hm => k_is); (case tI => k_is); (case kI => k_is); (case n1 => k_is); (case l => k_is); (case c => k_is)))
    (case e_Clash => (refine' ⟨_, _, _, Vk.exc_mk PySem.VkX.exB_runtime ?ns ?iC ?cls ?sa ?kC ?ga ?gg ?ex ?hd ?ha ?hn ?ht ?hm ?tI ?kI (Vk.no2 ?n1 ?n2) ?l ?c⟩; (case ns => k_is); (case iC => k_is); (case cls => k_is); (case sa => k_is); (case kC => k_is); (case ga => k_is); (case gg => k_is); (case ex => k_is); (case hd => k_is); (case ha => k_is); (case hn => k_is); (case ht => k_is); (case hm => k_is); (case tI => k_is); (case kI => k_is); (case n1 => k_is); (case n2 => k_is); (case l => k_is); (case c => k_is)))
    (case e_FileNotRight => (refine' ⟨_, _, _, Vk.exc_mk PySem.VkX.exB_runtime ?ns ?iC ?cls ?sa ?kC ?ga ?gg ?ex ?hd ?ha ?hn ?ht ?hm ?tI ?kI (Vk.no2 ?n1 ?n2) ?l ?c⟩; (case ns => k_is); (case iC => k_is); (case cls => k_is); (case sa => k_is); (case kC => k_is); (case ga => k_is); (case gg => k_is); (case ex => k_is); (case hd => k_is); (case ha => k_is); (case hn => k_is); (case ht => k_is); (case hm => k_is); (case tI => k_is); (case kI => k_is); (case n1 => k_is); (case n2 => k_is); (case l => k_is); (case c => k_is)))
    (case e_Apart => (refine' ⟨_, _, _, Vk.exc_mk PySem.VkX.exB_runtime ?ns ?iC ?cls ?sa ?kC ?ga ?gg ?ex ?hd ?ha ?hn ?ht ?hm ?tI ?kI (Vk.no1 ?n1) ?l ?c⟩; (case ns => k_is); (case iC => k_is); (case cls => k_is); (case sa => k_is); (case kC => k_is); (case ga => k_is); (case gg => k_is); (case ex => k_is); (case hd => k_is); (case ha => k_is); (case hn => k_is); (case ht => k_is); (case hm => k_is); (case tI => k_is); (case kI => k_is); (case n1 => k_is); (case l => k_is); (case c => k_is)))
    (case e_Broken => (refine' ⟨_, _, _, Vk.exc_mk PySem.VkX.exB_runtime ?ns ?iC ?cls ?sa ?kC ?ga ?gg ?ex ?hd ?ha ?hn ?ht ?hm ?tI ?kI (Vk.no1 ?n1) ?l ?c⟩; (case ns => k_is); (case iC => k_is); (case cls => k_is); (case sa => k_is); (case kC => k_is); (case ga => k_is); (case gg => k_is); (case ex => k_is); (case hd => k_is); (case ha => k_is); (case hn => k_is); (case ht => k_is); (case hm => k_is); (case tI => k_is); (case kI => k_is); (case n1 => k_is); (case l => k_is); (case c => k_is)))
    (case e_Unsafe => (refine' ⟨_, _, _, Vk.exc_mk PySem.VkX.exB_runtime ?ns ?iC ?cls ?sa ?kC ?ga ?gg ?ex ?hd ?ha ?hn ?ht ?hm ?tI ?kI (Vk.no2 ?n1 ?n2) ?l ?c⟩; (case ns => k_is); (case iC => k_is); (case cls => k_is); (case sa => k_is); (case kC => k_is); (case ga => k_is); (case gg => k_is); (case ex => k_is); (case hd => k_is); (case ha => k_is); (case hn => k_is); (case ht => k_is); (case hm => k_is); (case tI => k_is); (case kI => k_is); (case n1 => k_is); (case n2 => k_is); (case l => k_is); (case c => k_is)))
    (case d_lpen => (refine' ⟨_, _, Vk.at_mk ?a ?l ?c ?k⟩; (case a => k_is); (case l => k_is); (case c => k_is); (case k => k_is)))
    (case d_ldraw => (refine' ⟨_, _, Vk.at_mk ?a ?l ?c ?k⟩; (case a => k_is); (case l => k_is); (case c => k_is); (case k => k_is)))
    (case d_lpick => (refine' ⟨_, _, Vk.at_mk ?a ?l ?c ?k⟩; (case a => k_is); (case l => k_is); (case c => k_is); (case k => k_is)))
    (case d_lany_value => (refine' ⟨_, _, Vk.at_mk ?a ?l ?c ?k⟩; (case a => k_is); (case l => k_is); (case c => k_is); (case k => k_is)))
    (case d_lsome_errors => (refine' ⟨_, _, Vk.at_mk ?a ?l ?c ?k⟩; (case a => k_is); (case l => k_is); (case c => k_is); (case k => k_is)))
    (case d_lother_errors => (refine' ⟨_, _, Vk.at_mk ?a ?l ?c ?k⟩; (case a => k_is); (case l => k_is); (case c => k_is); (case k => k_is)))
    (case d_lclasses => (refine' ⟨_, _, Vk.at_mk ?a ?l ?c ?k⟩; (case a => k_is); (case l => k_is); (case c => k_is); (case k => k_is)))
    (case d_lsorts => (refine' ⟨_, _, Vk.at_mk ?a ?l ?c ?k⟩; (case a => k_is); (case l => k_is); (case c => k_is); (case k => k_is)))
    (case d_law => (refine' ⟨_, _, Vk.at_mk ?a ?l ?c ?k⟩; (case a => k_is); (case l => k_is); (case c => k_is); (case k => k_is)))
    (case z_len => k_is)
    (case z_list => k_is)
    (case z_int => k_is)
    (case z_abs => k_is)
    (case z_range => k_is)
    (case z_min => k_is)
    (case z_repr => k_is)
    (case z_isinstance => k_is)
    (case z_zip => k_is)
    (case z_ValueError => k_is)
    (case z_LookupError => k_is)
    (case z_OverflowError => k_is)
    (case z_RuntimeError => k_is)
    (case g_MAX_WORD => exact Vk.const_int Gr.T (by first | kernel_rfl | decide +kernel))
    (case g_MAX_EDITS => exact Vk.const_int Gr.T (by first | kernel_rfl | decide +kernel))
    (case g_MAX_PARTS => exact Vk.const_int Gr.T (by first | kernel_rfl | decide +kernel))
    (case g_MAX_OLDS => exact Vk.const_int Gr.T (by first | kernel_rfl | decide +kernel))
    (case g_MAX_NEWS => exact Vk.const_int Gr.T (by first | kernel_rfl | decide +kernel))
    (case g_MAX_RUNS => exact Vk.const_int Gr.T (by first | kernel_rfl | decide +kernel))
    (case g_MAX_TIMES => exact Vk.loose_int Gr.X)
    (case g_MAX_FILES => exact Vk.const_int Gr.T (by first | kernel_rfl | decide +kernel))
    (case g_MAX_HANDS => exact Vk.const_int Gr.T (by first | kernel_rfl | decide +kernel))
#print axioms PySem.Challenge.cw_anchoredits_k13_errors_and_limits_holds
