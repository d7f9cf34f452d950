import PyProof.Rows.All
import Wide.All
import OpenK.AllK
import Wide.FinOn
import HandS.Base
import HandS.Call
import HandS.List
import HandS.Comp
import HandS.Ends
import HandS.Text
import HandS.Words
import HandS.StrMore
import HandS.ForMost
import HandS.Codes
import HandS.Replace
import HandS.FStrTup
import PyProof.StrBlock2
import HandS.Exc
import HandS.ExcInit
import HandS.ExcIs
import HandS.ExcField
import KE.KExcIs
import HandS.IsInst
import HandS.Zip
import HandS.Nested
import HandS.OwnEq
import HandS.More
import HandS.Star
import HandS.ClsMeth
import HandS.Property
import HandS.Iter
import HandS.Zip0
import KE.GoesMore
import KE.GoesEnum
import HandS.NoneIn
import PyProof.StrLawsRepr
import HandS.EndTab
import HandS.ListEq
import KE.LtData
import PySem.Challenge.RW_anchoredits_k64_whole_papers_of_prices
import KE.KTryMore
import KE.KRevSl
import HandS.Style
import HandS.TupAny
import HandS.Conv
import HandS.FltList
import PyProof.EnumMake
import HandS.Rev
import HandS.DictComp
import HandS.RevRange
import PyProof.NeKinds
import PyProof.CallStr
import PyProof.Rows.IntBool
import HandS.Defaults
import KE.OsRunLaw
set_option Elab.async false
set_option maxRecDepth 100000
set_option linter.all false
namespace Vk
open PySem PySem.Spec PyProof.Rows L2
/-! ## defs that may show values: no guard is under way -/
structure FnG (P : Program) (w : World) (K : PySem.W.Frag) (mg : Str → Option Value) (base : Heap) (CX : CXT) (k : Nat) (f : Addr) (fd : FuncData) (ps : List Str) (sp : Sp) : Prop where
  len : ∀ vs H Q E, sp vs H Q E → vs.length = ps.length
  run : ∀ (A : Around) (outer : List Env) (s : Shared) (H : Hp) (args : Args) (us : List Value) (vs : List V) (Q : VK) (E : XK), A.guards = some [] → Room k A → Env0 P w K mg base A outer s H → BindsTo s fd args (ps.zip us) → Vals vs us → sp vs H Q E →
    codeAny (model P w) A (.call (.ref f) args) (CR CX outer P w H s Q E) s
theorem FnG.of {P : Program} {w : World} {K : PySem.W.Frag} {mg : Str → Option Value} {base : Heap} {CX : CXT} {k : Nat} {f : Addr} {fd : FuncData} {ps : List Str} {sp : Sp} (F : FnOk P w K mg base CX k f fd ps sp) : FnG P w K mg base CX k f fd ps sp :=
  ⟨F.len, fun A outer s H args us vs Q E _ => F.run A outer s H args us vs Q E⟩
section
variable {P : Program} {w : World} {K : PySem.W.Frag} {mg : Str → Option Value} {base : Heap}
theorem okG {CX : CXT} {x qual : Str} {st : Stmt} {f : Addr} {fd : FuncData} {N ps : List Str} {k : Nat} {sp : Sp} (F : Fun K x qual st f fd) (S : FnScope N ps (defScope st)) (hlen : ∀ vs H Q E, sp vs H Q E → vs.length = ps.length)
    (hbody : ∀ (cdv : Value) (A : Around) (outer : List Env) (s : Shared) (H : Hp) (vs : List V) (Q : VK) (E : XK), A.guards = some [] → Room k (A.deeper (envOfC qual (defScope st) s.heap.objs.size f cdv)) → sp vs H Q E →
      ∃ t, PSs (cxOf CX P w K mg base N qual (defScope st) f cdv A outer s H E) (defBody st) t ∧ t { nx := fun _ H' => Q .non H', rt := Q } (start N vs) H) : FnG P w K mg base CX (k + 1) f fd ps sp := by
  obtain ⟨oc, od, kV, doc, pm, an, cdv, ct, osl, rfl, lk, hcd⟩ := F.ex
  refine ⟨hlen, fun A outer s H args us vs Q E hg hr e0 hb r hsp => ?_⟩
  have hvl := hlen _ _ _ _ hsp
  have KX := e0.mod.kin.keeps (fun b o e => (e0.bs b o e).1 : ∀ b o, base.get? b = some o → s.heap.get? b = some o)
  have noLim := e0.mod.nolimit.keeps (fun b o e => (e0.bs b o e).1 : ∀ b o, base.get? b = some o → s.heap.get? b = some o)
  have kinds : ∀ y ∈ ps.zip us, (defScope st).names.lookup y.1 = some .local ∨ ((defScope st).names.lookup y.1 = some .cell ∧ ((cellsFrom (s.heap.objs.size + 1) (defScope st).names []).lookup y.1).isSome = true) := by
    rintro ⟨n, v⟩ hy
    have hy1 := (List.of_mem_zip hy).1
    cases S.par n hy1 with
    | inl q => exact Or.inl q
    | inr q => exact Or.inr (And.intro q (PySem.W.cellsFrom_some _ _ _ (Or.inl q)))
  refine codeAny_call_function hr.depth (KX f _ lk) rfl S.co S.gen rfl (PySem.W.codeRec_of KX hcd) (hb _ _ _ _ (wpAny_newFunctionEnv_cells S.kind kinds fun env he s1 x => ?_))
  cases he
  refine And.intro (noLim.keeps x.toInCall.keep) (codeAny_func ?_)
  obtain ⟨t, ht, hq⟩ := hbody cdv A outer s H vs Q E hg (hr.deeper _) hsp
  have I0 := inv_start (CX := CX) (E := E) S hr.hd e0 hvl r x
  refine wpAny_mono (ht.run [] s1 (start N vs) H _ I0 hq) (fun fl s2 hs => ?_) (fun e s2 hs => hs)
  have close : ∀ {σ2 : L2.St} {H2 : Hp} {v : V} {u : Value}, Inv (cxOf CX P w K mg base N qual (defScope st) f cdv A outer s H E) [] σ2 H2 s2 → RelV v u → Q v H2 → CE outer P w H s Q u s2 := by
    intro σ2 H2 v u J rv q
    exact ⟨v, H2, And.intro J.os (And.intro J.bare (And.intro J.base (And.intro J.hok (And.intro rv q))))⟩
  match fl, hs with
  | .ret u, ⟨v, σ2, H2, J, rv, q⟩ => exact close J rv q
  | .next, ⟨σ2, H2, J, q⟩ => exact close (v := V.non) (u := Value.none) J rfl q
  | .brk, ⟨_, _, _, q⟩ => exact q.elim
  | .cont, ⟨_, _, _, q⟩ => exact q.elim
end
section
variable {P : Program} {w : World} {K : PySem.W.Frag} {mg : Str → Option Value} {base : Heap}
theorem okG0 {x qual : Str} {st : Stmt} {f : Addr} {fd : FuncData} {N ps : List Str} {k : Nat} {sp : Sp} (F : Fun K x qual st f fd) (S : FnScope N ps (defScope st)) (hlen : ∀ vs H Q E, sp vs H Q E → vs.length = ps.length)
    (hbody : ∀ (cdv : Value) (A : Around) (outer : List Env) (s : Shared) (H : Hp) (vs : List V) (Q : VK) (E : XK), A.guards = some [] → Room k (A.deeper (envOfC qual (defScope st) s.heap.objs.size f cdv)) → sp vs H Q E →
      ∃ t, PSs (cxOf CX0 P w K mg base N qual (defScope st) f cdv A outer s H E).nox (defBody st) t ∧ t { nx := fun _ H' => Q .non H', rt := Q } (start N vs) H) : FnG P w K mg base CX0 (k + 1) f fd ps sp :=
  okG F S hlen fun cdv A outer s H vs Q E hg hr hsp => match hbody cdv A outer s H vs Q E hg hr hsp with | ⟨t, h, q⟩ => ⟨t, h.nox, q⟩
end
/-- a def of the module by its name -/
structure CalG (P : Program) (w : World) (K : PySem.W.Frag) (mg : Str → Option Value) (base : Heap) (CX : CXT) (k : Nat) (x : Str) (sp : Sp) : Prop where
  ex : ∃ (f : Addr) (fd : FuncData) (ps : List Str), FnG P w K mg base CX k f fd ps sp ∧ mg x = some (.ref f) ∧ PySem.W.keepIn K (.ref f) = true ∧ Binds K fd ps []
section
variable {X : Cx} {CX : CXT} {j k : Nat} {f : Addr} {fd : FuncData} {ps : List Str} {sp : Sp} {E : XK} {x : Str} {p pos : Pos} {e : Expr} {es : List Expr} {t : TA}
theorem run_fnG {pins : List (Addr × Obj)} {σ : L2.St} {H : Hp} {s : Shared} {Q : VK} {us : List Value} {vs : List V} (F : FnG X.prog X.w X.K X.mg X.base CX k f fd ps sp) (hg : X.A.guards = some []) (hr : Room k X.A) (hb : Binds X.K fd ps []) (hx : Passes CX X E)
    (I : Inv X pins σ H s) (r : Vals vs us) (h : sp vs H Q E) : wpAny (model X.prog X.w) X.A (call (.ref f) us) (EP X pins σ Q) X.xe s := by
  have hl : us.length = ps.length := r.length.symm.trans (F.len _ _ _ _ h)
  have b := hb s us I.kIn ((congrArg List.length (List.append_nil us)).trans hl)
  rw [List.append_nil] at b
  refine wpAny_call (codeAny_mono (F.run X.A X.stack s H ⟨us, []⟩ us vs Q E hg hr I.env0 b r h) (fun res s2 hq => ?_))
  match res, hq with
  | .error e, hq => exact hx pins σ H s e s2 I hq
  | .ok (.ret u), hq => exact I.after hq
  | .ok .next, hq => exact hq.elim
  | .ok .brk, hq => exact hq.elim
  | .ok .cont, hq => exact hq.elim
theorem pe_cG (c : CalG X.prog X.w X.K X.mg X.base CX k x sp) (hg : X.A.guards = some []) (hr : Room j X.A) (hk : k ≤ j) (hx : Passes CX X E) (ha : PA X (e :: es) t) (gl : Gl X x := by rfl)
    (hdb : (x == ("__debug__" : Str)) = false := by decide) (he : starEach (e :: es) X.env = (false, eval e X.env) :: starEach es X.env := by rfl) (hpl : (backTo pos (starEach es X.env)).any (·.1) = false := by rfl) :
    PE X (.Call (.Name x p) (e :: es) [] pos) (tCall sp [] E t) := by
  obtain ⟨f, fd, ps, F, hm, kp, hb⟩ := c.ex
  refine ⟨fun pins s σ H Q I h => wpAny_Call_Name_kw (ld_glob I gl hm (PySem.W.callWith_K (h₀ := X.base) I.ok.mod.kin kp (thn (ha.run pos pins s σ H _ I h) fun us s1 hh => ?_) he hpl) hdb)⟩
  obtain ⟨vs, H1, I1, r, q⟩ := hh
  rw [List.append_nil] at q
  exact ⟨I1.kIn, run_fnG F hg (hr.mono hk) hb hx I1 r q⟩
end
/-! ## repr -/
section
variable {X : Cx}
theorem call_reprD (hg : X.A.guards = some []) (hu : X.A.units + 64 < cLine) : CallR X (.builtin "repr") (fun xs H Q => ∃ x d, xs = [x] ∧ Dp X.K H x d ∧ d.showable = true ∧ d.hasDict = false ∧ d.depth ≤ 60 ∧ d.shown.length ≤ sizeLine ∧ Q (.str d.shown) H) := by
  intro pins s σ H xs us Q I r h
  obtain ⟨x, d, rfl, hd, hs, hn, hdp, hz, q⟩ := h
  cases r with
  | cons r1 r2 =>
  cases r2
  obtain ⟨as, rd⟩ := Dp.reads I d x _ hd r1
  cases hd with
  | non => cases r1; exact PySem.P.repr_of_none ⟨V.str _, H, I.tok _, ⟨_, rfl⟩, q⟩
  | bl b => cases r1; exact PySem.P.repr_of_bool ⟨V.str _, H, I.tok _, ⟨_, rfl⟩, q⟩
  | int i =>
    obtain ⟨t, rfl⟩ := r1
    exact PySem.P.repr_of_int (of_decide_eq_true hs) ⟨V.str _, H, I.tok _, ⟨_, rfl⟩, q⟩
  | str z =>
    obtain ⟨t, rfl⟩ := r1
    exact PySem.P.repr_of_str ⟨V.str _, H, I.tok _, ⟨_, rfl⟩, q⟩ hz
  | lst h1 h2 =>
    cases r1
    exact repr_of_reads' rd hs (PyData.noDict_hsm hn) hg (by omega) (fun _ _ e => e) (fun h' u tk hk => ⟨V.str _, H, I.kept hk, ⟨u, rfl⟩, q⟩) hz
  | tup h1 h2 =>
    cases r1
    exact repr_of_reads' rd hs (PyData.noDict_hsm hn) hg (by omega) (fun _ _ e => e) (fun h' u tk hk => ⟨V.str _, H, I.kept hk, ⟨u, rfl⟩, q⟩) hz
end
/-! ## the law's own call -/
theorem lawG {P : Program} {w : World} {K : PySem.W.Frag} {mg mb : Str → Option Value} {CX : CXT} {k : Nat} {fa a : Addr} {fd : FuncData} {x : Str} {sp : Sp} {s1 : Shared} {vs : List Value} {ns : List Int}
    (KX : K.In s1.heap) (gns : s1.heap.Ns mainGlobals mg) (bns : s1.heap.Ns builtinsNs mb) (bbt : ∀ x : Str, x ≠ "__name__" → mb x = bootBuiltins x) (nolim : s1.heap.NoLimit) (gens0 : s1.gens = #[])
    (scr : s1.heap.get? a = some { cls := .type "list", data := .seq vs.toArray }) (hints : IntsAre vs ns) (short : ns.length ≤ sizeLine) (room : Room k callerA)
    (F : ∀ base : Heap, K.In base → base.Ns mainGlobals mg → FnG P w K mg base CX k fa fd [x] sp) (bind1 : ∀ (s : Shared) (u : Value), BindsTo s fd ⟨[u], []⟩ [(x, u)])
    (prom : ∀ H : Hp, Only H → SqL K H a (ns.map V.int) → sp [.ref a] H (fun v _ => v = .bl true) fun _ _ _ => False)
    (noX : ∀ H e s2, CX [] H s1 (fun _ _ _ => False) e s2 → False) :
    codeAny (model P w) callerA (.call (.ref fa) ⟨[.ref a], []⟩) (fun r s2 => r = .ok (.ret (.bool true)) ∧ OldK s1.heap s2.heap ∧ s2.os = s1.os ∧ AllBare s2.gens) s1 := by
  have rel := vals_ints hints
  have main : ∀ H : Hp, Only H → SqL K H a (ns.map V.int) → HOk P w H s1.heap → (∀ b u, H b = some u → b = a) → (∀ u, H a = some u → K.lookup a = none) →
      codeAny (model P w) callerA (.call (.ref fa) ⟨[.ref a], []⟩) (fun r s2 => r = .ok (.ret (.bool true)) ∧ OldK s1.heap s2.heap ∧ s2.os = s1.os ∧ AllBare s2.gens) s1 := by
    intro H only seq ok at1 un1
    have dictFree : ∀ {b : Addr} {o : Obj} {es : Array DictEntry} {ep : Nat}, s1.heap.get? b = some o → o.data = .dict es ep → H b = none := by
      intro b o es ep e d
      match q : H b with
      | none => rfl
      | some u =>
        have eb := at1 b u q
        subst eb
        rw [scr] at e
        cases e
        exact nomatch (show Data.seq vs.toArray _ = Data.dict es ep from d)
    have nsAt : ∀ {b : Addr} {m : Str → Option Value}, s1.heap.Ns b m → (hidT s1.heap H).Ns b m := by
      rintro b m ⟨o, es, ep, e, d, r⟩
      exact ⟨o, es, ep, hidT_get e (dictFree e d), d, r⟩
    have inK : K.In (hidT s1.heap H) := by
      intro b o e
      refine hidT_get (KX b o e) ?_
      match q : H b with
      | none => rfl
      | some u =>
        have eb := at1 b u q
        subst eb
        exact nomatch (un1 u q).symm.trans e
    have limAt : (hidT s1.heap H).NoLimit := match nolim with | ⟨mc, h1, h2⟩ => ⟨mc, nsAt h1, h2⟩
    have mod1 : Mod K mg (hidT s1.heap H) := ⟨inK, nsAt gns, ⟨mb, nsAt bns, bbt⟩, limAt⟩
    have start0 : Env0 P w K mg (hidT s1.heap H) callerA [] s1 H := ⟨rfl, mod1, fun b o => of_hidT, Nat.le_of_eq (hidT_size s1.heap H), trivial, (fun b hb => absurd hb (List.not_mem_nil (a := b))), ok, AllBare.of_eq gens0⟩
    refine codeAny_mono ((F _ inK (nsAt gns)).run callerA [] s1 H ⟨[.ref a], []⟩ [.ref a] [.ref a] _ _ rfl room start0 (bind1 s1 (.ref a)) (.cons rfl .nil) (prom H only seq)) ?_
    intro res s2 h
    match res, h with
    | .error e, h => exact (noX H e s2 h).elim
    | .ok .next, h => exact h.elim
    | .ok .brk, h => exact h.elim
    | .ok .cont, h => exact h.elim
    | .ok (.ret u), ⟨v, H2, os, bare, un, ok2, r2, (hv : v = .bl true)⟩ =>
      cases hv
      have hu : u = Value.bool true := r2
      cases hu
      refine ⟨rfl, OldK.of_keep ?_, os, bare⟩
      intro b o e
      match q : H b with
      | none => exact un.keep b o e q (fun z => nomatch z) (fun z => nomatch z)
      | some u =>
        cases only b with
        | inl z => exact nomatch z.symm.trans q
        | inr z =>
          obtain ⟨ob, xs, z⟩ := z
          have c1 := (ok b _ z).1
          have c2 := (ok2 b _ (un.frzs b ob _ z)).1
          exact c2.trans (c1.symm.trans e)
  match hk : K.lookup a with
  | some o =>
    have e := (KX a o hk).symm.trans scr
    cases e
    refine main (fun _ => none) (fun _ => Or.inl rfl) (Or.inr ⟨_, vs.toArray, _, hk, rfl, rfl, rfl, ?_, ?_⟩) (fun b u z => nomatch (show (none : Option HO) = some u from z)) (fun b u z => nomatch (show (none : Option HO) = some u from z)) (fun u z => nomatch (show (none : Option HO) = some u from z))
    · rw [List.size_toArray, hints.length]
      exact short
    · simpa using rel
  | none =>
    refine main (fun b => if b = a then some (.frz { cls := .type "list", data := .seq vs.toArray } (.lst (ns.map V.int))) else none) ?_ (Or.inl (Or.inr ⟨_, if_pos rfl⟩)) ?_ ?_ (fun _ _ => hk)
    · intro b
      by_cases hb : b = a
      · exact Or.inr ⟨_, _, if_pos hb⟩
      · exact Or.inl (if_neg hb)
    · intro b u z
      by_cases hb : b = a
      · subst hb
        have z1 := (if_pos rfl).symm.trans z
        cases z1
        exact ⟨scr, (by rw [List.length_map]; exact short), vs, _, rel, scr⟩
      · exact nomatch (if_neg hb).symm.trans z
    · intro b u z
      by_cases hb : b = a
      · exact hb
      · exact nomatch (if_neg hb).symm.trans z
end Vk
set_option Elab.async false
set_option maxRecDepth 100000
set_option linter.all false
namespace Vk
open PySem PySem.Spec PyProof.Rows L2
/-! ## what stays -/
/-- all that was tracked stays, but what stands at p -/
def Ext (p : Addr) (H H' : Hp) : Prop := ∀ b o, H b = some o → b ≠ p → H' b = some o
theorem Ext.rfl {p : Addr} {H : Hp} : Ext p H H := fun _ _ h _ => h
theorem Ext.trans {p : Addr} {H H1 H2 : Hp} (a : Ext p H H1) (b : Ext p H1 H2) : Ext p H H2 := fun c o h n => b c o (a c o h n) n
theorem Ext.same {p : Addr} {H H1 : Hp} (a : Same H H1) : Ext p H H1 := fun c o h _ => a c o h
theorem Ext.at {p : Addr} {H : Hp} {o : HO} : Ext p H (upd H p o) := fun c u h n => (upd_ne n).trans h
theorem same_new {H : Hp} {a : Addr} {o : HO} (h : H a = none) : Same H (upd H a o) := fun c u e => (upd_ne (ne_of_none e h)).trans e
theorem Ext.new {p a : Addr} {H : Hp} {o : HO} (h : H a = none) : Ext p H (upd H a o) := .same (same_new h)
theorem Ext.set {p a : Addr} {H H1 : Hp} {o : HO} (x : Ext p H H1) (h : H a = none) : Ext p H (upd H1 a o) := fun c u e n => (upd_ne (ne_of_none e h)).trans (x c u e n)
theorem Ext.none_of {p a : Addr} {H H1 : Hp} (x : Ext p H H1) (hp : a ≠ p) (h : H1 a = none) : H a = none := by
  match q : H a with
  | none => rfl
  | some o => exact nomatch (x a o q hp).symm.trans h
theorem up_new {H : Hp} {a b : Addr} {o u : HO} (h : H a = some o) (hb : H b = none) : upd H b u a = some o := same_new hb a o h
/-! ## the pen -/
def penL (c : Addr) (t l : Int) : List (Key × V) := [(.inr "cells", .ref c), (.inr "turn", .int t), (.inr "left", .int l)]
theorem k_ct : ¬ ((Str.ofString "cells") = Str.ofString "turn") := by decide +kernel
theorem k_cl : ¬ ((Str.ofString "cells") = Str.ofString "left") := by decide +kernel
theorem k_tl : ¬ ((Str.ofString "turn") = Str.ofString "left") := by decide +kernel
theorem k_lt : ¬ ((Str.ofString "left") = Str.ofString "turn") := by decide +kernel
theorem pen_cells (c : Addr) (t l : Int) : valV (penL c t l) (Sum.inr "cells" : Key) = some (.ref c) := valV_pos rfl
theorem pen_turn (c : Addr) (t l : Int) : valV (penL c t l) (Sum.inr "turn" : Key) = some (.int t) := (valV_neg (fun e => k_ct (Sum.inr.inj e))).trans (valV_pos rfl)
theorem pen_left (c : Addr) (t l : Int) : valV (penL c t l) (Sum.inr "left" : Key) = some (.int l) := (valV_neg (fun e => k_cl (Sum.inr.inj e))).trans ((valV_neg (fun e => k_tl (Sum.inr.inj e))).trans (valV_pos rfl))
theorem pen_put_turn (c : Addr) (t l u : Int) : putK (penL c t l) (Sum.inr "turn" : Key) (.int u) = penL c u l := by
  unfold putK
  rw [valV_any, pen_turn]
  simp [penL, k_ct, k_lt]
theorem pen_put_left (c : Addr) (t l u : Int) : putK (penL c t l) (Sum.inr "left" : Key) (.int u) = penL c t u := by
  unfold putK
  rw [valV_any, pen_left]
  simp [penL, k_cl, k_tl]
theorem pen_made (c : Addr) (t l : Int) : mergeK [] (penL c t l) = penL c t l := by
  simp [mergeK, penL, putK, k_ct, k_cl, k_tl]
structure Pen (H : Hp) (p c : Addr) (T : Nat) : Prop where
  ex : ∃ (ns : List Int) (t l : Int), H p = some (.dK (penL c t l)) ∧ H c = some (.lst (ns.map V.int)) ∧ ns.length ≤ 63 ∧ 0 ≤ t ∧ t ≤ T ∧ 0 ≤ l
section
variable {H H1 : Hp} {p c a : Addr} {T U : Nat} {o : HO} {xs : List V}
theorem Pen.mono (x : Pen H p c T) (h : T ≤ U) : Pen H p c U := by
  obtain ⟨ns, t, l, h1, h2, h3, h4, h5, h6⟩ := x.ex
  exact ⟨ns, t, l, h1, h2, h3, h4, by omega, h6⟩
theorem Pen.stay (x : Pen H p c T) (s : Same H H1) : Pen H1 p c T := by
  obtain ⟨ns, t, l, h1, h2, r⟩ := x.ex
  exact ⟨ns, t, l, s _ _ h1, s _ _ h2, r⟩
theorem Pen.new (x : Pen H p c T) (h : H a = none) : Pen (upd H a o) p c T := x.stay (same_new h)
theorem Pen.is (x : Pen H p c T) : ∃ t l, H p = some (.dK (penL c t l)) := by
  obtain ⟨ns, t, l, h1, _⟩ := x.ex
  exact ⟨t, l, h1⟩
theorem Pen.ne (x : Pen H p c T) (h : H a = some (.lst xs)) : a ≠ p := by
  obtain ⟨t, l, h1⟩ := x.is
  exact ne_of h h1 (by intro z; cases z)
/-- another thing is changed -/
theorem Pen.set (x : Pen H p c T) (h1 : a ≠ p) (h2 : a ≠ c) : Pen (upd H a o) p c T := by
  obtain ⟨ns, t, l, g1, g2, r⟩ := x.ex
  exact ⟨ns, t, l, (upd_ne h1.symm).trans g1, (upd_ne h2.symm).trans g2, r⟩
/-- a thing that was not there when the pen stood is neither the pen nor its cells -/
theorem Pen.apart (x : Pen H p c T) (h : H a = none) : a ≠ p ∧ a ≠ c := by
  obtain ⟨ns, t, l, g1, g2, r⟩ := x.ex
  exact ⟨(ne_of_none g1 h).symm, (ne_of_none g2 h).symm⟩
end
/-- draw's promise -/
def spDraw : Sp := fun vs H Q _ => ∃ (p c : Addr) (m : Int) (T : Nat), vs = [.ref p, .int m] ∧ 0 < m ∧ m < 1073741824 ∧ Pen H p c T ∧ T < 1000000000 ∧
  ∀ (d : Int) (H' : Hp), 0 ≤ d → d < m → Pen H' p c (T + 1) → Ext p H H' → Q (.int d) H'
def spPen (K : PySem.W.Frag) : Sp := fun vs H Q _ => ∃ (a : Addr) (ns : List Int), vs = [.ref a] ∧ SqL K H a (ns.map V.int) ∧
  ∀ (p c : Addr) (H' : Hp), H p = none → Pen H' p c 0 → Same H H' → Q (.ref p) H'
/-! ## draws' small facts -/
theorem ints_dp {K : PySem.W.Frag} {H : Hp} : ∀ ns : List Int, DpAll K H (ns.map V.int) (ns.map PyData.int)
  | [] => .nil
  | n :: ns => .cons (.int n) (ints_dp ns)
theorem ints_canLay : ∀ ns : List Int, PyData.canLayAll0 (ns.map PyData.int) = true
  | [] => rfl
  | n :: ns => by
    show (PyData.canLay0 (.int n) && PyData.canLayAll0 (ns.map PyData.int)) = true
    rw [ints_canLay ns]
    rfl
theorem ints_depth : ∀ ns : List Int, PyData.depthAll (ns.map PyData.int) = 0
  | [] => rfl
  | n :: ns => by
    show max (PyData.depth (.int n)) (PyData.depthAll (ns.map PyData.int)) = 0
    rw [ints_depth ns]
    rfl
theorem ints_shaped (ns : List Int) : SeqAt.shaped (.list (ns.map PyData.int)) = true := by
  have h1 : PyData.canLay0 (.list (ns.map PyData.int)) = true := ints_canLay ns
  have h2 : PyData.depth (.list (ns.map PyData.int)) = 1 := by
    show PyData.depthAll (ns.map PyData.int) + 1 = 1
    rw [ints_depth]
  unfold SeqAt.shaped
  rw [h1, h2]
  rfl
theorem ints_ne_nil (ns : List Int) : PyData.eqv (.list (ns.map PyData.int)) (.list []) = ns.isEmpty := by
  match ns with
  | [] => rfl
  | n :: r => rfl
theorem get_left {H : Hp} {p c : Addr} {t l : Int} (h : H p = some (.dK (penL c t l))) : DGet H p (.str "left") (some (.int l)) := pen_left c t l ▸ DGet.k (k := Sum.inr "left") h
theorem get_turn {H : Hp} {p c : Addr} {t l : Int} (h : H p = some (.dK (penL c t l))) : DGet H p (.str "turn") (some (.int t)) := pen_turn c t l ▸ DGet.k (k := Sum.inr "turn") h
theorem get_cells {H : Hp} {p c : Addr} {t l : Int} (h : H p = some (.dK (penL c t l))) : DGet H p (.str "cells") (some (.ref c)) := pen_cells c t l ▸ DGet.k (k := Sum.inr "cells") h
theorem put_left {H : Hp} {p c : Addr} {t l u : Int} (h : H p = some (.dK (penL c t l))) : DPut H p (.str "left") (.int u) (upd H p (.dK (penL c t u))) := pen_put_left c t l u ▸ DPut.k (k := Sum.inr "left") h (by show 3 < sizeLine; decide)
theorem put_turn {H : Hp} {p c : Addr} {t l u : Int} (h : H p = some (.dK (penL c t l))) : DPut H p (.str "turn") (.int u) (upd H p (.dK (penL c u l))) := pen_put_turn c t l u ▸ DPut.k (k := Sum.inr "turn") h (by show 3 < sizeLine; decide)
theorem at_mod {α : Type} {xs : List α} {i : Int} (h0 : 0 ≤ i) (h : i < (xs.length : Int)) : ∃ v, atI xs i = some v ∧ v ∈ xs := by
  have hj : i.toNat < xs.length := by omega
  refine ⟨xs[i.toNat], ?_, List.getElem_mem hj⟩
  have e : i = (i.toNat : Int) := by omega
  have q := atI_nat (List.getElem?_eq_getElem hj)
  rw [← e] at q
  exact q
def primes : List Int := [2147483629, 2147483647, 2147483587, 2147483563, 2147483579]
theorem primes_in {v : V} (h : v ∈ primes.map V.int) : ∃ i : Int, v = .int i ∧ 0 < i ∧ i < 2147483648 := by
  obtain ⟨i, hi, e⟩ := List.mem_map.mp h
  refine ⟨i, e.symm, ?_⟩
  have q : ∀ j ∈ primes, 0 < j ∧ j < 2147483648 := by decide
  exact q i hi
end Vk
set_option Elab.async false
set_option maxRecDepth 100000
set_option linter.all false
namespace Vk
open PySem PySem.Spec PyProof.Rows L2
/-! ## a def that returns one written text, and a replace of what it returns (a token is out behind it) -/
structure FnT (P : Program) (w : World) (K : PySem.W.Frag) (mg : Str → Option Value) (base : Heap) (k : Nat) (x : Str) (z : Str) : Prop where
  ex : ∃ f : Addr, mg x = some (.ref f) ∧ PySem.W.keepIn K (.ref f) = true ∧ ∀ (A : Around) (outer : List Env) (s : Shared) (H : Hp) (Q : VK), Room k A → Env0 P w K mg base A outer s H → Q (.str z) H →
    codeAny (model P w) A (.call (.ref f) ⟨[], []⟩) (fun r s2 => 1 ≤ s2.toks ∧ CR CX0 outer P w H s Q E0 r s2) s
section
variable {P : Program} {w : World} {K : PySem.W.Frag} {mg : Str → Option Value} {base : Heap}
theorem okT {x : Str} {st : Stmt} {f : Addr} {fd : FuncData} {z : Str} {j : Nat} {p1 p2 : Pos} (F : Fun K x x st f fd) (S : FnScope [] [] (defScope st)) (hm : mg x = some (.ref f)) (hb : Binds K fd [] [])
    (body : defBody st = [.Return (some (.Constant (.str z) j p1)) p2]) : FnT P w K mg base 1 x z := by
  refine ⟨f, hm, F.kp, ?_⟩
  obtain ⟨oc, od, kV, doc, pm, an, cdv, ct, osl, rfl, lk, hcd⟩ := F.ex
  intro A outer s H Q hr e0 hsp
  have KX := e0.mod.kin.keeps (fun b o e => (e0.bs b o e).1 : ∀ b o, base.get? b = some o → s.heap.get? b = some o)
  have noLim := e0.mod.nolimit.keeps (fun b o e => (e0.bs b o e).1 : ∀ b o, base.get? b = some o → s.heap.get? b = some o)
  refine codeAny_call_function hr.depth (KX f _ lk) rfl S.co S.gen rfl (PySem.W.codeRec_of KX hcd) (hb s [] KX rfl _ _ _ _ (wpAny_newFunctionEnv_cells S.kind (fun y hy => absurd hy (List.not_mem_nil (a := y))) fun env he s1 x0 => ?_))
  cases he
  refine And.intro (noLim.keeps x0.toInCall.keep) (codeAny_func ?_)
  have I0 := inv_start (P := P) (CX := CX0) (E := E0) (us := []) (vs := []) S hr.hd e0 rfl .nil x0
  show wpAny _ _ (execs (defBody st) _) _ _ s1
  rw [body]
  refine wpAny_execs_cons (wpAny_Return_some (Calls.Constant_str ?_))
  exact ⟨Nat.succ_pos _, .str z, H, I0.os, I0.bare, (I0.tok (s1.toks + 1)).base, (I0.tok (s1.toks + 1)).hok, ⟨_, rfl⟩, hsp⟩
end
section
variable {X : Cx} {j k : Nat} {x z y v : Str} {q q2 apos pos c0 c1 : Pos} {j0 j1 : Nat}
theorem pe_replT (c : FnT X.prog X.w X.K X.mg X.base k x z) (hr : Room j X.A) (hk : k ≤ j) (hz : z.length + (z.length + 1) * v.length ≤ 16777216) (hyz : (y == v) = false) (gl : Gl X x := by rfl) (hdb : (x == ("__debug__" : Str)) = false := by decide)
    (hst : starEach [.Constant (.str y) j0 c0, .Constant (.str v) j1 c1] X.env = [(false, eval (.Constant (.str y) j0 c0) X.env), (false, eval (.Constant (.str v) j1 c1) X.env)] := by rfl)
    (hbase : attributeBase (.Call (.Name x q) [] [] q2) "replace" X.env (eval (.Call (.Name x q) [] [] q2) X.env) = eval (.Call (.Name x q) [] [] q2) X.env := by rfl) (hline : (apos.endLine == pos.line) = true := by rfl) :
    PE X (.Call (.Attribute (.Call (.Name x q) [] [] q2) "replace" apos) [.Constant (.str y) j0 c0, .Constant (.str v) j1 c1] [] pos) (fun σ H Q => Q (.str (Txt.replace z y v)) H) := by
  obtain ⟨f, hm, kp, run⟩ := c.ex
  refine ⟨fun pins s σ H Q I h => PySem.Call_method2 (Q := EP X pins σ Q) hbase hst hline (wpAny_mono (Q := fun u s1 => 1 ≤ s1.toks ∧ EP X pins σ (fun w H1 => w = .str z ∧ H1 = H) u s1) ?_ ?_ (fun _ _ e => e))⟩
  · refine wpAny_Call_Name_kw (ld_glob I gl hm (PySem.W.callWith_K0 I.kIn kp (wpAny_call (codeAny_mono (run X.A X.stack s H (fun w H1 => w = .str z ∧ H1 = H) (hr.mono hk) I.env0 ⟨rfl, rfl⟩) fun res s2 hq => ?_))) hdb)
    match res, hq with
    | .error e, hq => exact hq.2.elim
    | .ok (.ret u), hq => exact ⟨hq.1, I.after hq.2⟩
    | .ok .next, hq => exact hq.2.elim
    | .ok .brk, hq => exact hq.2.elim
    | .ok .cont, hq => exact hq.2.elim
  · rintro u s1 ⟨ht, w, H1, I1, r1, rfl, rfl⟩
    obtain ⟨tx, rfl⟩ := r1
    refine ⟨"str", _, PySem.F.plainAttrs_str, PySem.F.slot_str_replace, PySem.F.type_str_replace, typeIs_str _ _ _, (fun _ e => nomatch e), Calls.callWith_builtin rfl (Calls.evalArgs_plain (Calls.spliced_cons (Calls.Constant_str (Calls.spliced_cons (Calls.Constant_str (Calls.spliced_nil ?_))))))⟩
    exact PySem.SC.replace (Nat.ne_of_gt ht) (Nat.succ_ne_zero _) (by show s1.toks ≠ s1.toks + 1; omega) hyz hz fun t' kk => ⟨V.str _, _, I1.tok kk, ⟨t', rfl⟩, h⟩
end
/-! ## options to pick from -/
def OneS (c : Nat) : V := .str ⟨#[c]⟩
inductive Opts (K : PySem.W.Frag) (H : Hp) : V → List V → Prop
  | str (z : Str) (h : z.length ≤ 1000) : Opts K H (.str z) (z.cps.toList.map OneS)
  | lst {a : Addr} {xs : List V} (h : SqL K H a xs) : Opts K H (.ref a) xs
  | tup {a : Addr} {xs : List V} (h : SqT K H a xs) : Opts K H (.ref a) xs
theorem Ext.sqL {K : PySem.W.Frag} {p a : Addr} {H H1 : Hp} {xs : List V} {kvs : List (Key × V)} (x : Ext p H H1) (hp : H p = some (.dK kvs)) (h : SqL K H a xs) : SqL K H1 a xs := by
  match h with
  | .inl (.inl e) => exact .inl (.inl (x _ _ e (ne_of e hp (by intro z; cases z))))
  | .inl (.inr ⟨o, e⟩) => exact .inl (.inr ⟨o, x _ _ e (ne_of e hp (by intro z; cases z))⟩)
  | .inr e => exact .inr e
theorem Ext.sqT {K : PySem.W.Frag} {p a : Addr} {H H1 : Hp} {xs : List V} {kvs : List (Key × V)} (x : Ext p H H1) (hp : H p = some (.dK kvs)) (h : SqT K H a xs) : SqT K H1 a xs := by
  match h with
  | .inl (.inl e) => exact .inl (.inl (x _ _ e (ne_of e hp (by intro z; cases z))))
  | .inl (.inr ⟨o, e⟩) => exact .inl (.inr ⟨o, x _ _ e (ne_of e hp (by intro z; cases z))⟩)
  | .inr e => exact .inr e
theorem Ext.is {p a : Addr} {H H1 : Hp} {xs : List V} {kvs : List (Key × V)} (x : Ext p H H1) (hp : H p = some (.dK kvs)) (h : H a = some (.lst xs)) : H1 a = some (.lst xs) := x _ _ h (ne_of h hp (by intro z; cases z))
theorem Ext.isT {p a : Addr} {H H1 : Hp} {xs : List V} {kvs : List (Key × V)} (x : Ext p H H1) (hp : H p = some (.dK kvs)) (h : H a = some (.tup xs)) : H1 a = some (.tup xs) := x _ _ h (ne_of h hp (by intro z; cases z))
theorem Pen.keepL {K : PySem.W.Frag} {p c a : Addr} {T : Nat} {H H1 : Hp} {xs : List V} (q : Pen H p c T) (x : Ext p H H1) (h : SqL K H a xs) : SqL K H1 a xs := by
  obtain ⟨t, l, hp⟩ := q.is
  exact x.sqL hp h
theorem Pen.keepT {K : PySem.W.Frag} {p c a : Addr} {T : Nat} {H H1 : Hp} {xs : List V} (q : Pen H p c T) (x : Ext p H H1) (h : SqT K H a xs) : SqT K H1 a xs := by
  obtain ⟨t, l, hp⟩ := q.is
  exact x.sqT hp h
theorem Pen.keepI {p c a : Addr} {T : Nat} {H H1 : Hp} {xs : List V} (q : Pen H p c T) (x : Ext p H H1) (h : H a = some (.lst xs)) : H1 a = some (.lst xs) := by
  obtain ⟨t, l, hp⟩ := q.is
  exact x.is hp h
def spPick (K : PySem.W.Frag) : Sp := fun vs H Q _ => ∃ (p c : Addr) (o : V) (xs : List V) (T : Nat), vs = [.ref p, o] ∧ Opts K H o xs ∧ xs ≠ [] ∧ xs.length ≤ 1000 ∧ Pen H p c T ∧ T < 1000000000 ∧
  ∀ (v : V) (H' : Hp), v ∈ xs → Pen H' p c (T + 1) → Ext p H H' → Q v H'
def letS : Str := "\n !\"#$&'()*+,-./0123456789:;<=>?@ABCDEFGHIJKLMNOPQRSTUVWXYZ[\\]^_`abcdefghijklmnopqrstuvwxyz{|}~"
def spSigns : Sp := fun vs H Q _ => vs = [] ∧ Q (.str letS) H
/-- what few gives: one to three letters -/
def Few (z : Str) : Prop := 1 ≤ z.length ∧ z.length ≤ 3 ∧ ∀ c ∈ z.cps.toList, c ∈ letS.cps.toList
def spFew : Sp := fun vs H Q _ => ∃ (p c : Addr) (T : Nat), vs = [.ref p] ∧ Pen H p c T ∧ T + 4 < 1000000000 ∧ ∀ (z : Str) (H' : Hp), Few z → Pen H' p c (T + 4) → Ext p H H' → Q (.str z) H'
/-- a word of the letters of z, a to b of them -/
def Word (z : Str) (a b : Nat) (x : Str) : Prop := a ≤ x.length ∧ x.length ≤ b ∧ ∀ c ∈ x.cps.toList, c ∈ z.cps.toList
def spWord : Sp := fun vs H Q _ => ∃ (p c : Addr) (z : Str) (a b T : Nat), vs = [.ref p, .str z, .int a, .int b] ∧ a ≤ b ∧ b ≤ 100 ∧ 1 ≤ z.length ∧ z.length ≤ 1000 ∧ Pen H p c T ∧ T + 200 < 1000000000 ∧
  ∀ (x : Str) (H' : Hp), Word z a b x → Pen H' p c (T + b + 1) → Ext p H H' → Q (.str x) H'
theorem cut63 (ns : List Int) : ∃ ms : List Int, cutV (ns.map V.int) none (some 63) = ms.map V.int ∧ ms.length ≤ 63 := by
  refine ⟨ns.take 63, ?_, List.length_take_le _ _⟩
  unfold cutV
  rw [HT.sIx_none, show (63 : Int) = ((63 : Nat) : Int) from rfl, HT.sIx_nat, List.drop_zero, Nat.sub_zero, List.map_take, Nat.min_comm, ← List.take_take]
  exact List.take_of_length_le (by rw [List.length_take]; omega)
theorem one_len (z : Str) : (z.cps.toList.map OneS).length = z.length := by
  rw [List.length_map]
  exact Array.length_toList
theorem join_nil : ∀ ls : List (List Nat), TL.joinL [] ls = ls.flatten
  | [] => rfl
  | [p] => by simp [TL.joinL]
  | p :: q :: r => by
    show p ++ ([] ++ TL.joinL [] (q :: r)) = _
    rw [List.nil_append, join_nil (q :: r)]
    rfl
theorem join_ones (cs : List Nat) : Txt.join "" (cs.map fun c => (⟨#[c]⟩ : Str)) = ⟨cs.toArray⟩ := by
  rw [TL.join_eq]
  refine TL.ext_tl ?_
  rw [TL.tl_join]
  refine (join_nil _).trans ?_
  show (List.map TL.tl (cs.map fun c => (⟨#[c]⟩ : Str))).flatten = cs
  rw [List.map_map]
  induction cs with
  | nil => rfl
  | cons c r ih => exact congrArg (c :: ·) ih
theorem ones_len (cs : List Nat) : ((cs.map fun c => (⟨#[c]⟩ : Str)).map (·.length)).sum = cs.length := by
  induction cs with
  | nil => rfl
  | cons c r ih =>
    rw [List.map_cons, List.map_cons, List.sum_cons, ih, List.length_cons]
    show 1 + r.length = r.length + 1
    omega
theorem ones_map (cs : List Nat) : (cs.map fun c => (⟨#[c]⟩ : Str)).map V.str = cs.map OneS := List.map_map
theorem noq_list : (Txt.replace letS "q" "").cps.toList = letS.cps.toList.filter (· != 113) := replace_strikes letS 113
theorem noq_len : (Txt.replace letS "q" "").length = 94 := by
  rw [show (Txt.replace letS "q" "").length = (Txt.replace letS "q" "").cps.toList.length from Array.length_toList.symm, noq_list]
  decide +kernel
theorem noq_in {c : Nat} (h : c ∈ (Txt.replace letS "q" "").cps.toList) : c ∈ letS.cps.toList := by
  rw [noq_list] at h
  exact (List.mem_filter.mp h).1
theorem ones_of {z : Str} {v : V} (h : v ∈ z.cps.toList.map OneS) : ∃ c, v = OneS c ∧ c ∈ z.cps.toList := by
  obtain ⟨c, hc, e⟩ := List.mem_map.mp h
  exact ⟨c, e.symm, hc⟩
theorem opts_ne {z : Str} (h : 1 ≤ z.length) : z.cps.toList.map OneS ≠ [] := fun e => by
  have q := one_len z
  rw [e] at q
  simp at q
  omega
theorem opts_le {z : Str} {n : Nat} (h : z.length ≤ n) : (z.cps.toList.map OneS).length ≤ n := by
  rw [one_len]
  exact h
/-- the fixed choices of few are few -/
theorem few_of {z : Str} (h : (decide (1 ≤ z.length) && decide (z.length ≤ 3) && z.cps.toList.all fun c => decide (c ∈ letS.cps.toList)) = true) : Few z := by
  simp only [Bool.and_eq_true, decide_eq_true_eq, List.all_eq_true] at h
  exact ⟨h.1.1, h.1.2, h.2⟩
theorem few_ones {cs : List Nat} (h1 : 1 ≤ cs.length) (h3 : cs.length ≤ 3) (h : ∀ c ∈ cs, c ∈ letS.cps.toList) : Few ⟨cs.toArray⟩ := ⟨by simpa [Str.length] using h1, by simpa [Str.length] using h3, by simpa using h⟩
/-! ## rules whose written part is named (within a comprehension's block) -/
section
variable {X : Cx} {K : PySem.W.Frag}
theorem ix_seqK (h : X.K = K) : IxR X (rIx K) := h ▸ ix_seq
theorem ix_listK (h : X.K = K) : IxR X (rIxL K) := h ▸ ix_list
theorem op_notIn_seqK (h : X.K = K) : OpR X (compareOp .NotIn) (rIn K true) := h ▸ op_notIn_seq
theorem sl_listK (h : X.K = K) : SlR X (rSlL K) := h ▸ sl_list
theorem call_lenK (h : X.K = K) : CallR X (.builtin "len") (fun xs H Q => ∃ x n, xs = [x] ∧ LenV K x H n ∧ Q (.int n) H) := h ▸ call_len
end
theorem cutV_mem {xs : List V} {lo hi : Option Int} {v : V} (h : v ∈ cutV xs lo hi) : v ∈ xs := List.mem_of_mem_drop (List.mem_of_mem_take h)
theorem cutV_all {xs : List V} {lo hi : Option Int} {f : V → Bool} (h : xs.all f = true) : (cutV xs lo hi).all f = true := List.all_eq_true.mpr fun v hv => List.all_eq_true.mp h v (cutV_mem hv)
theorem ones_flat (cs : List Nat) : (cs.map OneS).all flatV = true := List.all_eq_true.mpr fun v hv => by
  obtain ⟨c, _, rfl⟩ := List.mem_map.mp hv
  rfl
theorem cutV_zero (xs : List V) : cutV xs none (some 0) = [] := by
  unfold cutV
  rw [HT.sIx_none, show (0 : Int) = ((0 : Nat) : Int) from rfl, HT.sIx_nat]
  simp
theorem one_mem {cs : List Nat} {v : V} (h : v ∈ cs.map OneS) : ∃ c, v = OneS c ∧ c ∈ cs := by
  obtain ⟨c, hc, e⟩ := List.mem_map.mp h
  exact ⟨c, e.symm, hc⟩
end Vk
set_option Elab.async false
set_option maxRecDepth 100000
set_option linter.all false
namespace Vk
open PySem PySem.Spec PyProof.Rows L2
/-! ## how long what is shown may be -/
theorem listText_le : ∀ ts : List Str, (listText ts).length ≤ piled ts + 2
  | [] => by decide +kernel
  | t :: r => by
    have h := textFrom_length_pos r 1 (("[" : Str) ++ (if (0 : Nat) > 0 then ", " else "" : String) ++ t) (Nat.succ_pos 0)
    have e : (listText (t :: r)).length = (textFrom 1 (("[" : Str) ++ (if (0 : Nat) > 0 then ", " else "" : String) ++ t) r).length + 1 := strLen_append _ _
    rw [e, h, strLen_append, strLen_append, piled_cons]
    show 1 + 0 + t.length + piled r + 1 ≤ _
    omega
theorem piled_le {ts : List Str} {n : Nat} (h : ∀ t ∈ ts, t.length ≤ n) : piled ts ≤ ts.length * (n + 2) := by
  induction ts with
  | nil => exact Nat.zero_le _
  | cons t r ih =>
    have h1 := h t List.mem_cons_self
    have h2 := ih fun u hu => h u (List.mem_cons_of_mem _ hu)
    rw [piled_cons, List.length_cons, Nat.succ_mul]
    omega
theorem shownAll_map : ∀ ds : List PyData, PyData.shownAll ds = ds.map PyData.shown
  | [] => rfl
  | d :: r => congrArg (d.shown :: ·) (shownAll_map r)
theorem showableAll_iff : ∀ {ds : List PyData}, (∀ d ∈ ds, d.showable = true) → PyData.showableAll ds = true
  | [], _ => rfl
  | d :: r, h => by
    show (d.showable && PyData.showableAll r) = true
    rw [h d List.mem_cons_self, showableAll_iff fun e he => h e (List.mem_cons_of_mem _ he)]
    rfl
theorem hasDictAll_of : ∀ {ds : List PyData}, (∀ d ∈ ds, d.hasDict = false) → PyData.hasDictAll ds = false
  | [], _ => rfl
  | d :: r, h => by
    show (d.hasDict || PyData.hasDictAll r) = false
    rw [h d List.mem_cons_self, hasDictAll_of fun e he => h e (List.mem_cons_of_mem _ he)]
    rfl
theorem depthAll_le : ∀ {ds : List PyData} {n : Nat}, (∀ d ∈ ds, d.depth ≤ n) → PyData.depthAll ds ≤ n
  | [], _, _ => Nat.zero_le _
  | d :: r, n, h => Nat.max_le.mpr ⟨h d List.mem_cons_self, depthAll_le fun e he => h e (List.mem_cons_of_mem _ he)⟩
/-- d may be shown, in at most n signs, at most k deep -/
structure Showy (d : PyData) (k n : Nat) : Prop where
  sh : d.showable = true
  nd : d.hasDict = false
  dp : d.depth ≤ k
  ln : d.shown.length ≤ n
theorem Showy.list {ds : List PyData} {k n : Nat} (h : ∀ d ∈ ds, Showy d k n) : Showy (.list ds) (k + 1) (ds.length * (n + 2) + 2) := by
  refine ⟨showableAll_iff fun d hd => (h d hd).sh, hasDictAll_of fun d hd => (h d hd).nd, Nat.succ_le_succ (depthAll_le fun d hd => (h d hd).dp), ?_⟩
  show (listText (PyData.shownAll ds)).length ≤ _
  rw [shownAll_map]
  have h1 := listText_le (ds.map PyData.shown)
  have h2 := piled_le (ts := ds.map PyData.shown) (n := n) fun t ht => by
    obtain ⟨d, hd, rfl⟩ := List.mem_map.mp ht
    exact (h d hd).ln
  rw [List.length_map] at h2
  omega
theorem Showy.tuple {ds : List PyData} {k n : Nat} (h : ∀ d ∈ ds, Showy d k n) : Showy (.tuple ds) (k + 1) (ds.length * (n + 2) + 2) := by
  refine ⟨showableAll_iff fun d hd => (h d hd).sh, hasDictAll_of fun d hd => (h d hd).nd, Nat.succ_le_succ (depthAll_le fun d hd => (h d hd).dp), ?_⟩
  show (tupleText (PyData.shownAll ds)).length ≤ _
  rw [shownAll_map]
  have h1 := fmt_text (ds.map PyData.shown)
  have h2 := piled_le (ts := ds.map PyData.shown) (n := n) fun t ht => by
    obtain ⟨d, hd, rfl⟩ := List.mem_map.mp ht
    exact (h d hd).ln
  rw [List.length_map] at h2
  omega
theorem Showy.int {i : Int} (h : i.natAbs < 10 ^ 100) : Showy (.int i) 0 101 := by
  have hl : i.natAbs.log2 < 1920 := by
    by_cases h0 : i.natAbs = 0
    · rw [h0]; decide
    · exact (Nat.log2_lt h0).mpr (Nat.lt_of_lt_of_le h (by decide +kernel))
  refine ⟨decide_eq_true hl, rfl, Nat.le_refl _, ?_⟩
  show (Str.ofString (toString i)).length ≤ 101
  rw [PySem.ofString_length]
  exact int_text_length_le10 (k := 100) (by decide) h
theorem Showy.mono {d : PyData} {k k' n n' : Nat} (h : Showy d k n) (h1 : k ≤ k') (h2 : n ≤ n') : Showy d k' n' := ⟨h.sh, h.nd, Nat.le_trans h.dp h1, Nat.le_trans h.ln h2⟩
/-! ## places of words -/
open StrLaws in
theorem find_from (x y : Str) (lo : Nat) (hlo : lo ≤ x.length + 1) :
    ((match Builtin.Str.occurrences x y lo x.length 1 with | i :: _ => (i : Int) | [] => -1) = -1 ∧ ∀ i, lo ≤ i → ¬ At x y x.length i) ∨
    ∃ i : Nat, (match Builtin.Str.occurrences x y lo x.length 1 with | i :: _ => (i : Int) | [] => -1) = (i : Int) ∧ lo ≤ i ∧ At x y x.length i ∧ ∀ k, lo ≤ k → k < i → ¬ At x y x.length k := by
  rw [occ_eq]
  have inr : ∀ i, lo ≤ i → i ≤ x.length → i ∈ List.range' lo (x.length + 1 - lo) := fun i h1 h2 => by
    simp only [List.mem_range'_1]
    omega
  rcases occ_first x y x.length 1 (Nat.le_refl _) (List.range' lo (x.length + 1 - lo)) lo (fun i hi => (List.mem_range'_1.mp hi).1) with ⟨h0, hn⟩ | ⟨pre, a, post, e, h0, ha, hn⟩
  · refine .inl ⟨by rw [h0], fun i hi hA => hn i (inr i hi (Nat.le_trans (Nat.le_add_right _ _) hA.1)) hA⟩
  · refine .inr ⟨a, ?_, ?_, ha, fun k h1 h2 => ?_⟩
    · generalize (forIn (List.range' lo (x.length + 1 - lo)) ((#[] : Array Nat), lo) (occBody x y x.length 1)).run.fst = arr at h0
      have h1 : arr.toList[0]? = some a := by simpa using h0
      match hL : arr.toList with
      | [] => rw [hL] at h1; cases h1
      | b :: t => rw [hL] at h1; simp at h1; rw [h1]
    · exact (List.mem_range'_1.mp (by rw [e]; exact List.mem_append_right _ List.mem_cons_self : a ∈ List.range' lo (x.length + 1 - lo))).1
    · refine hn k ?_
      have hk : k ∈ pre ++ a :: post := by
        rw [← e]
        refine inr k h1 ?_
        have q := ha.1
        omega
      have pw : (pre ++ a :: post).Pairwise (· < ·) := by rw [← e]; exact List.pairwise_lt_range'
      rcases List.mem_append.mp hk with hk | hk
      · exact hk
      · rcases List.mem_cons.mp hk with rfl | hk
        · exact absurd h2 (Nat.lt_irrefl _)
        · have q := (List.pairwise_cons.mp (List.pairwise_append.mp pw).2.1).1 k hk
          omega
def atB (x w : Str) (i : Nat) : Bool := decide (i + w.length ≤ x.length) && Builtin.Str.subAt x w i
theorem atB_iff (x w : Str) (i : Nat) : atB x w i = true ↔ StrLaws.At x w x.length i := by
  unfold atB StrLaws.At
  simp
/-- all places of a word in a text -/
def plc (x w : Str) : List Nat := (List.range (x.length + 1)).filter (atB x w)
theorem filter_more {P : Nat → Bool} {lo m : Nat} (h : lo ≤ m) (hn : ∀ i, lo ≤ i → i < m → P i = false) : (List.range m).filter P = (List.range lo).filter P := by
  induction m with
  | zero => rw [Nat.le_zero.mp h]
  | succ m ih =>
    by_cases e : lo = m + 1
    · rw [e]
    · rw [List.range_succ, List.filter_append, ih (by omega) fun i h1 h2 => hn i h1 (by omega)]
      have q := hn m (by omega) (Nat.lt_succ_self _)
      simp [q]
theorem filter_snoc {P : Nat → Bool} {m : Nat} (h : P m = true) : (List.range (m + 1)).filter P = (List.range m).filter P ++ [m] := by
  rw [List.range_succ, List.filter_append]
  simp [h]
def plcI (x w : Str) : List Int := (plc x w).map Int.ofNat
def spPlaces (K : PySem.W.Frag) : Sp := fun vs H Q _ => ∃ (x w : Str), vs = [.str x, .str w] ∧ x.length ≤ 10000 ∧ w.length ≤ 10000 ∧
  ∀ (a : Addr) (H' : Hp), H a = none → H' a = some (.lst ((plcI x w).map V.int)) → Same H H' → Q (.ref a) H'
/-- the slice of a text at a place -/
theorem cut_at (x w : Str) (k : Nat) (h : k + w.length ≤ x.length) : decide (V.str (cutS x (some (k : Int)) (some ((k : Int) + (w.length : Int)))) = V.str w) = atB x w k := by
  have e : cutS x (some (k : Int)) (some ((k : Int) + (w.length : Int))) = ⟨((x.cps.toList.drop k).take w.length).toArray⟩ := by
    unfold cutS
    rw [show (k : Int) + (w.length : Int) = ((k + w.length : Nat) : Int) by omega, HT.sIx_nat, HT.sIx_nat, Nat.min_eq_left h, Nat.min_eq_left (show k ≤ x.length by omega), show k + w.length - k = w.length by omega]
  rw [e]
  unfold atB
  rw [StrLaws.subAt_eq, decide_eq_true h, Bool.true_and, Bool.eq_iff_iff, decide_eq_true_eq, beq_iff_eq]
  constructor
  · intro q
    have q2 := V.str.inj q
    exact congrArg (fun z : Str => z.cps.toList) q2
  · intro q
    rw [q]
end Vk
set_option Elab.async false
set_option maxRecDepth 100000
set_option linter.all false
namespace Vk
open PySem PySem.Spec PyProof.Rows L2
/-! ## a text some times -/
theorem mulOk {x : Str} {n : Int} (h0 : 0 ≤ n) (h1 : n ≤ 1000000) (h : x.length * n.toNat ≤ 10000000) (hx : x.length ≤ 10000000) : MulOk x n := by
  refine ⟨?_, fun a _ c => ?_, fun _ _ => ?_⟩
  · rw [decide_eq_false (by omega), decide_eq_false (by omega)]
    rfl
  · have hn : 0 < n := by omega
    have q : (10000000 : Int) ≤ (2 ^ 63 - 1) / n := (Int.le_ediv_iff_mul_le hn).mpr (by omega)
    omega
  · unfold Builtin.Str.tooLong sizeLine
    exact decide_eq_false (by omega)
def CMulS (x : Str) (n : Int) : Prop := 0 ≤ n ∧ n ≤ 1000000 ∧ x.length * n.toNat ≤ 10000000 ∧ x.length ≤ 10000000
def rMulS : R2 := fun x y H Q => ∃ (z : Str) (n : Int), x = .str z ∧ y = .int n ∧ CMulS z n ∧ Q (.str (Txt.mul z n)) H
section
variable {X : Cx}
theorem op_mulS : OpR X (binaryOp .Mult) rMulS := by
  intro pins s σ H x y v u Q I rx ry h
  obtain ⟨z, n, rfl, rfl, ⟨h0, h1, h2, h3⟩, q⟩ := h
  obtain ⟨t, rfl⟩ := rx
  obtain ⟨t2, rfl⟩ := ry
  exact SB.mul (mulOk h0 h1 h2 h3) fun t' k => ⟨V.str _, H, I.tok k, ⟨t', rfl⟩, q⟩
end
/-! ## a def called by keywords alone -/
structure CalK (P : Program) (w : World) (K : PySem.W.Frag) (mg : Str → Option Value) (base : Heap) (CX : CXT) (k : Nat) (x : Str) (sp : Sp) (ks : List Str) (g : {α : Type} → List α → List α) : Prop where
  ex : ∃ (f : Addr) (fd : FuncData) (ps : List Str), FnG P w K mg base CX k f fd ps sp ∧ mg x = some (.ref f) ∧ PySem.W.keepIn K (.ref f) = true ∧
    (∀ (s : Shared) (ws : List Value), K.In s.heap → ws.length = ks.length → BindsTo s fd ⟨[], ks.zip ws⟩ (ps.zip (g ws))) ∧ ∀ (vs : List V) (ws : List Value), Vals vs ws → vs.length = ks.length → Vals (g vs) (g ws)
def tCallW (n : Nat) (sp : Sp) (g : {α : Type} → List α → List α) (E : XK) (t : TA) : TE := fun σ H Q => t σ H fun vs H1 => vs.length = n ∧ sp (g vs) H1 Q E
section
variable {X : Cx} {CX : CXT} {j k : Nat} {sp : Sp} {E : XK} {x : Str} {p pos : Pos} {kws : List Keyword} {tk : TA} {ks : List Str} {g : {α : Type} → List α → List α}
theorem pe_kw (c : CalK X.prog X.w X.K X.mg X.base CX k x sp ks g) (hg : X.A.guards = some []) (hr : Room j X.A) (hk : k ≤ j) (hx : Passes CX X E) (hkw : PK X kws tk) (gl : Gl X x := by rfl)
    (hall : (backToKw pos (keywordEach kws X.env)).all (·.1.isSome) = true := by rfl) (hks : (backToKw pos (keywordEach kws X.env)).filterMap (·.1) = ks := by rfl) (hdb : (x == ("__debug__" : Str)) = false := by decide)
    (hpl : ((backTo pos (starEach [] X.env)).any (·.1) || (backToKw pos (keywordEach kws X.env)).any (·.1.isNone)) = false := by rfl) :
    PE X (.Call (.Name x p) [] kws pos) (tCallW ks.length sp g E tk) := by
  obtain ⟨f, fd, ps, F, hm, kp, hb, hv⟩ := c.ex
  refine ⟨fun pins s σ H Q I h => wpAny_Call_Name_kw (ld_glob I gl hm (PySem.W.callWith_KW0 (h₀ := X.base) I.ok.mod.kin kp hall (thn (hkw.run pos pins s σ H _ I h) fun ws s2 hh => ?_) hpl) hdb)⟩
  obtain ⟨vs, H2, I2, rz, l2, q2⟩ := hh
  refine ⟨I2.kIn, ?_⟩
  rw [hks]
  refine wpAny_call (codeAny_mono (F.run X.A X.stack s2 H2 ⟨[], ks.zip ws⟩ (g ws) (g vs) Q E hg (hr.mono hk) I2.env0 (hb s2 ws I2.kIn (rz.length.symm.trans l2)) (hv vs ws rz l2) q2) (fun res s3 hq => ?_))
  match res, hq with
  | .error e, hq => exact hx pins σ H2 s2 e s3 I2 hq
  | .ok (.ret u), hq => exact I2.after hq
  | .ok .next, hq => exact hq.elim
  | .ok .brk, hq => exact hq.elim
  | .ok .cont, hq => exact hq.elim
end
theorem vals_rev : ∀ {vs : List V} {ws : List Value}, Vals vs ws → Vals vs.reverse ws.reverse
  | _, _, .nil => .nil
  | _, _, .cons r t => by
    rw [List.reverse_cons, List.reverse_cons]
    exact (vals_rev t).append (.cons r .nil)
/-! ## a def of the text as the head leaves it -/
structure At (K : PySem.W.Frag) (x : Str) (st : Stmt) (f : Addr) (fd : FuncData) : Prop where
  ns : PySem.W.nsIn K mainGlobals x = some (some (.ref f))
  fn : Fun K x x st f fd
theorem at_mk {K : PySem.W.Frag} {x : Str} {st : Stmt} {f : Addr} {oc : Value} {od an : Option Addr} {sl : Array (Option Value)} {kV doc pm cd ct : Value} (a : PySem.W.nsIn K mainGlobals x = some (some (.ref f)))
    (l : K.lookup f = some ⟨oc, od, .func (PySem.W.fnOf x x (defArgs st) (defBody st) (defScope st) .none kV doc pm an cd ct), sl⟩) (c : PySem.W.codeIn K cd x = true) (k : PySem.W.keepIn K (.ref f) = true) :
    At K x st f (PySem.W.fnOf x x (defArgs st) (defBody st) (defScope st) .none kV doc pm an cd ct) := ⟨a, fun_mk l c k⟩
section
variable {K : PySem.W.Frag} {x y qual : Str} {st : Stmt} {f : Addr} {fd : FuncData} {ps ks : List Str} {g : List Value → List Value}
theorem _root_.L2.Fun.kwb (F : Fun K x qual st f fd)
    (h : ∀ (kV doc pm : Value) (an : Option Addr) (cdv ct : Value) (ws : List Value), ws.length = ks.length → bindArgs (PySem.W.fnOf x qual (defArgs st) (defBody st) (defScope st) .none kV doc pm an cdv ct) ⟨[], ks.zip ws⟩ = pure (ps.zip (g ws))) :
    ∀ (s : Shared) (ws : List Value), K.In s.heap → ws.length = ks.length → BindsTo s fd ⟨[], ks.zip ws⟩ (ps.zip (g ws)) := by
  obtain ⟨oc, od, kV, doc, pm, an, cdv, ct, osl, rfl, lk, hcd⟩ := F.ex
  exact fun s ws _ hl => .of_eq (h kV doc pm an cdv ct ws hl)
theorem _root_.L2.Fun.binds1 (F : Fun K x qual st f fd)
    (h : ∀ {kV doc pm : Value} {an : Option Addr} {cdv ct : Value} {v : Value}, bindArgs (PySem.W.fnOf x qual (defArgs st) (defBody st) (defScope st) .none kV doc pm an cdv ct) ⟨[v], []⟩ = pure [(y, v)]) :
    ∀ (s : Shared) (v : Value), BindsTo s fd ⟨[v], []⟩ [(y, v)] := by
  obtain ⟨oc, od, kV, doc, pm, an, cdv, ct, osl, rfl, lk, hcd⟩ := F.ex
  exact fun s v => .of_eq h
end
end Vk
set_option Elab.async false
set_option maxRecDepth 100000
set_option maxHeartbeats 4000000
set_option linter.all false
namespace PySem
namespace VkX
open PySem.W PySem.Calls PyProof.Rows Builtin Builtin.ObjectAttr PySem.HandSPX
/-! ## own exception classes straight below one of the four -/
structure ExB (B newId initId : String) (tl : List Value) : Prop where
  F : ExcBaseFacts B newId initId tl
  pass : ∀ self : Value, refuseLoop self "__setattr__" tl = pure ()
  obj : tl.contains (.type "object") = true
  refs : tl.all (fun v => match v with | .type _ => true | _ => false) = true
section
variable {M : Model} {A : Around} {E : Value → Shared → Prop} {h : Heap} {g : Array GenState} {d : Drawn} {t : Nat} {os : OsState}
variable {nm q : Str} {C N : Addr} {bs bm : List Value} {hdct : Bool} {sn : List Str} {sub : List Value} {ab : Bool} {col : Option Bool} {dd : Option Addr} {k0 k1 k2 k3 k5 : Option Value} {B newId initId : String}
end
section
variable {prog : Program} {w : World} {A : Around} {E : Value → Shared → Prop} {R : Result → Shared → Prop} {h : Heap} {g : Array GenState} {d : Drawn} {t : Nat} {os : OsState}
variable {nm q : Str} {C N : Addr} {bs bm : List Value} {hdct : Bool} {sn : List Str} {sub : List Value} {ab : Bool} {col : Option Bool} {dd : Option Addr} {k0 k1 k2 k3 k5 : Option Value} {B newId initId : String}
end
end VkX
end PySem
set_option Elab.async false
set_option maxRecDepth 100000
set_option maxHeartbeats 4000000
set_option linter.all false
namespace PySem
namespace VkX
open PySem.W PySem.Calls PyProof.Rows Builtin Builtin.ObjectAttr PySem.HandSPX
section
variable {prog : Program} {w : World} {A : Around} {E : Value → Shared → Prop} {R : Result → Shared → Prop} {hp : Heap} {g : Array GenState} {d : Drawn} {t : Nat} {os : OsState}
end
end VkX
end PySem
namespace Vk
open L2 PySem PySem.Spec PyProof.Rows PySem.VkX
/-- what the written part says of an own exception class over one of the four -/
structure OexK (K : PySem.W.Frag) (C : Addr) : Prop where
  cls : ∃ B newId initId tl nm q N bs sn sub ab col dd k0 k1 k2 k3 k5, ExB B newId initId tl ∧ K.lookup C = some (excClassObj nm q C N bs tl true sn sub ab col dd k0 k1 k2 k3 k5 newId)
  sa : PySem.W.findIn K (.ref C) "__setattr__" = some (some (.builtin "object.__setattr__"))
  kC : PySem.W.keepIn K (.ref C) = true
  xf : XfC K C
  ic : ExcC K C
section
variable {X : Cx} {pins : List (Addr × Obj)} {σ : L2.St} {H : Hp} {s : Shared} {a C dx : Addr} {f : Str} {y : V} {u : Value} {fs : List (Str × V)} {Q : Unit → Shared → Prop} {E : Value → Shared → Prop} {A : Around}
end
section
variable {X : Cx} {o e : Expr} {es : List Expr} {to te : TE} {ta : TA} {f : Str} {p p' p1 p2 pos : Pos}
end
end Vk
set_option Elab.async false
set_option maxRecDepth 100000
set_option maxHeartbeats 4000000
set_option linter.all false
namespace Vk
open L2 PySem PySem.Spec PyProof.Rows PySem.VkX
/-! ## making one -/
/-- __init__(self, f1, ..): the fields stored in their order -/
def spIni (C : Addr) (fsn : List Str) : Sp := fun vs H Q E => ∃ a ws, vs = .ref a :: ws ∧ ws.length = fsn.length ∧ H a = some (exo a C none) ∧
  (fsn = [] → Q .non H) ∧ (fsn ≠ [] → ∀ d, H d = none → d ≠ a → Q .non (upd (upd H d (exd d (fsn.zip ws).reverse)) a (exo a C (some d))))
structure ClsI (P : Program) (w : World) (K : PySem.W.Frag) (mg : Str → Option Value) (base : Heap) (k : Nat) (x : Str) (C : Addr) (fsn : List Str) : Prop where
  T : OexK K C
  hm : mg x = some (.ref C)
  no : ∀ f ∈ fsn, PySem.W.findIn K (.ref C) f = some none
  ex : ∃ (fI : Addr) (fd : FuncData), PySem.W.findIn K (.ref C) "__init__" = some (some (.ref fI)) ∧ PySem.W.typeIn K (.ref fI) = some (.type "function") ∧ FnG P w K mg base CX0 k fI fd (("self" : Str) :: fsn) (spIni C fsn) ∧ Binds K fd (("self" : Str) :: fsn) [] ∧
    (∀ (s : Shared) (v : Value) (ws : List Value), K.In s.heap → ws.length = fsn.length → BindsTo s fd ⟨[v], fsn.reverse.zip ws⟩ ((("self" : Str) :: fsn).zip (v :: ws.reverse)))
section
variable {X : Cx} {j k : Nat} {x : Str} {C : Addr} {fsn : List Str} {p pos : Pos} {e : Expr} {es : List Expr} {t : TA}
theorem few_len {n : Nat} (h : n ≤ 1000) : n ≤ sizeLine := Nat.le_trans h (by rw [sizeLine_eq]; decide)
end
end Vk
set_option Elab.async false
set_option maxRecDepth 100000
set_option maxHeartbeats 4000000
set_option linter.all false
namespace Vk
open L2 PySem PySem.Spec PyProof.Rows PySem.VkX
theorem no1 {P : Str → Prop} {a : Str} (h : P a) : ∀ f ∈ ([a] : List Str), P f := fun f z => by
  rw [List.mem_singleton] at z
  exact z ▸ h
theorem no2 {P : Str → Prop} {a b : Str} (h : P a) (h2 : P b) : ∀ f ∈ ([a, b] : List Str), P f := fun f z => by
  rcases List.mem_cons.mp z with z | z
  · exact z ▸ h
  · rw [List.mem_singleton] at z
    exact z ▸ h2
/-- the class at C has the name x and these classes behind it -/
def ClsN (K : PySem.W.Frag) (C : Addr) (x : Str) (tl : List Value) : Prop := ∃ newId q N bs sn sub ab col dd k0 k1 k2 k3 k5, K.lookup C = some (excClassObj x q C N bs tl true sn sub ab col dd k0 k1 k2 k3 k5 newId)
structure ExcTxt (K : PySem.W.Frag) (x qual : Str) (st : Stmt) (C fI : Addr) (fd : FuncData) (fsn : List Str) (tl : List Value) : Prop where
  cn : ClsN K C x tl
  ns : PySem.W.nsIn K mainGlobals x = some (some (.ref C))
  T : OexK K C
  iC : PySem.W.findIn K (.ref C) "__init__" = some (some (.ref fI))
  tI : PySem.W.typeIn K (.ref fI) = some (.type "function")
  no : ∀ f ∈ fsn, PySem.W.findIn K (.ref C) f = some none
  fn : Fun K "__init__" qual st fI fd
section
variable {P : Program} {w : World} {K : PySem.W.Frag} {mg : Str → Option Value} {base h : Heap} {x qual f f2 : Str} {st : Stmt} {C fI : Addr} {fd : FuncData} {p1 p2 p3 p4 q1 q2 q3 q4 : Pos}
end
end Vk
namespace Vk
open L2 PySem PySem.Spec PyProof.Rows PySem.VkX
end Vk
set_option Elab.async false
set_option maxRecDepth 100000
set_option maxHeartbeats 4000000
set_option linter.all false
namespace Vk
open L2 PySem PySem.Spec PyProof.Rows PySem.VkX
/-! ## values that are shown, dicts among them -/
inductive Atm : V → PyData → Prop
  | non : Atm .non .none
  | bl (b : Bool) : Atm (.bl b) (.bool b)
  | int (i : Int) : Atm (.int i) (.int i)
  | str (x : Str) : Atm (.str x) (.str x)
def kvS (ps : List (Str × Str)) : List (Key × V) := ps.map fun p => (Sum.inr p.1, V.str p.2)
def kvD (ps : List (Str × Str)) : List (PyData × PyData) := ps.map fun p => (.str p.1, .str p.2)
/-- one level deep -/
inductive Th (H : Hp) : V → PyData → Prop
  | atm {v : V} {d : PyData} : Atm v d → Th H v d
  | lst {a : Addr} {xs : List V} {ds : List PyData} : H a = some (.lst xs) → a ≠ sysModules → Paired Atm xs ds → Th H (.ref a) (.list ds)
  | tup {a : Addr} {xs : List V} {ds : List PyData} : H a = some (.tup xs) → Paired Atm xs ds → Th H (.ref a) (.tuple ds)
  | dct {a : Addr} {ps : List (Str × Str)} : H a = some (.dK (kvS ps)) → Th H (.ref a) (.dict (kvD ps))
theorem Th.keep {H H' : Hp} {v : V} {d : PyData} (h : Th H v d) (k : ∀ a o, H a = some o → H' a = some o) : Th H' v d := by
  cases h with
  | atm h => exact .atm h
  | lst e n h => exact .lst (k _ _ e) n h
  | tup e h => exact .tup (k _ _ e) h
  | dct e => exact .dct (k _ _ e)
section
variable {X : Cx} {pins : List (Addr × Obj)} {σ : L2.St} {H : Hp} {s : Shared}
theorem Atm.reads {h : Heap} {v : V} {u : Value} {d : PyData} (a : Atm v d) (r : RelV v u) : Reads h u d [] ∧ d.hasDict = false := by
  cases a with
  | non => cases r; exact ⟨Reads.none, by simp only [PyData.hasDict]⟩
  | bl b => cases r; exact ⟨Reads.bool b, by simp only [PyData.hasDict]⟩
  | int i => obtain ⟨t, rfl⟩ := r; exact ⟨Reads.int i t, by simp only [PyData.hasDict]⟩
  | str x => obtain ⟨t, rfl⟩ := r; exact ⟨Reads.str x t, by simp only [PyData.hasDict]⟩
theorem atms_reads {h : Heap} : ∀ {vs : List V} {ds : List PyData} {us : List Value}, Paired Atm vs ds → Vals vs us → ReadsAll h us ds [] ∧ PyData.hasDictAll ds = false
  | _, _, _, .nil, .nil => ⟨ReadsAll.nil, by simp only [PyData.hasDictAll]⟩
  | _, _, _, .cons a t, .cons r rs => by
    obtain ⟨h1, n1⟩ := a.reads (h := h) r
    obtain ⟨h2, n2⟩ := atms_reads (h := h) t rs
    exact ⟨ReadsAll.cons h1 h2, by simp only [PyData.hasDictAll, n1, n2, Bool.or_false]⟩
theorem strs_read {P : Program} {w : World} {h : Heap} : ∀ {ps : List (Str × Str)} {vs : List (Key × Value)} {es : List DictEntry}, KV (kvS ps) vs → Pairs (mixKind P w) es vs →
    ReadsAll h (es.map (·.key)) ((kvD ps).map (·.1)) [] ∧ ReadsAll h (es.map (·.val)) ((kvD ps).map (·.2)) []
  | [], _, _, .nil, .nil => ⟨ReadsAll.nil, ReadsAll.nil⟩
  | p :: ps, _, _, .cons a t, .cons k v r => by
    obtain ⟨h1, h2⟩ := strs_read (P := P) (w := w) (h := h) (ps := ps) t r
    obtain ⟨e1, e2⟩ := a
    rw [mixKind_is, ← e1] at k
    obtain ⟨y, ey⟩ := (show ∃ y, _ = Value.str p.2 y from e2)
    rcases keyIs_shape k with ⟨i, t, z, _⟩ | ⟨x, t, z, z2⟩
    · cases z
    · cases z
      refine ⟨?_, ?_⟩
      · have q := ReadsAll.cons (Reads.str (h := h) p.1 t) h1
        rw [← z2] at q
        exact q
      · have q := ReadsAll.cons (Reads.str (h := h) p.2 y) h2
        rw [← ey, ← v] at q
        exact q
theorem Th.reads (I : Inv X pins σ H s) {v : V} {u : Value} {d : PyData} (h : Th H v d) (r : RelV v u) : ∃ as, Reads s.heap u d as ∧ sysModules ∉ as := by
  cases h with
  | atm a =>
    obtain ⟨h1, n⟩ := a.reads (h := s.heap) r
    exact ⟨_, h1, List.not_mem_nil⟩
  | lst e ne a =>
    cases r
    obtain ⟨its, rv, ⟨o, n, ho, hc, _, hd⟩, _⟩ := I.list (SqL.of e)
    obtain ⟨h1, n1⟩ := atms_reads (h := s.heap) a rv
    exact ⟨_, Reads.list ho hc hd h1, fun z => by simp at z; exact ne z.symm⟩
  | tup e a =>
    cases r
    obtain ⟨its, rv, ⟨o, ho, hc, n, hd⟩, _⟩ := I.tuple (SqT.of e)
    obtain ⟨h1, n1⟩ := atms_reads (h := s.heap) a rv
    exact ⟨_, Reads.tuple ho hc hd h1, List.not_mem_nil⟩
  | @dct a ps e =>
    cases r
    obtain ⟨_, ne, vs, kv, o, es, ep, ho, ex, hd, _, pr, _⟩ := (show ObjOk X.prog X.w H s.heap a (.dK (kvS ps)) from I.hok a _ e)
    obtain ⟨h1, h2⟩ := strs_read (h := s.heap) kv pr
    refine ⟨_, Reads.dict ho ex.1 hd h1 h2, fun hm => ?_⟩
    have z : sysModules = a := by simpa using hm
    rw [← z] at ne
    exact absurd ne (by decide)
/-- what is handed to repr -/
def Shw (H : Hp) (x : V) (d : PyData) : Prop := Th H x d ∨ ∃ q y e, x = .ref q ∧ H q = some (.lst [y, y]) ∧ q ≠ sysModules ∧ Th H y e ∧ d = .list [e, e]
theorem Shw.reads (I : Inv X pins σ H s) {v : V} {u : Value} {d : PyData} (h : Shw H v d) (r : RelV v u) : ∃ as, Reads s.heap u d as ∧ (d.hasDict = true → sysModules ∉ as) := by
  rcases h with h | ⟨q, y, d, rfl, e, ne, t, rfl⟩
  · obtain ⟨as, h1, n1⟩ := h.reads I r
    exact ⟨as, h1, fun _ => n1⟩
  · cases r
    obtain ⟨its, rv, ⟨o, n, ho, hc, _, hd⟩, _⟩ := I.list (SqL.of e)
    cases rv with
    | cons r1 rv =>
      cases rv with
      | cons r2 rv =>
        cases rv
        obtain ⟨as, h1, n1⟩ := t.reads I r1
        obtain ⟨bs, h2, n2⟩ := t.reads I r2
        refine ⟨_, Reads.list ho hc hd (ReadsAll.cons h1 (ReadsAll.cons h2 ReadsAll.nil)), fun z => ?_⟩
        simp only [PyData.hasDict, PyData.hasDictAll, Bool.or_false, Bool.or_self] at z
        have m1 := n1
        have m2 := n2
        simp only [List.append_nil, List.mem_cons, List.mem_append, not_or]
        exact ⟨fun w => ne w.symm, m1, m2⟩
end
section
variable {X : Cx} {es : List Expr} {pos : Pos} {t : TA}
/-- [e, ..]: the new list does not stand where the modules do -/
def tLs1 (t : TA) : TE := fun σ H Q => t σ H fun xs H1 => xs.length ≤ sizeLine ∧ ∀ p, H1 p = none → p ≠ sysModules → Q (.ref p) (upd H1 p (.lst xs))
theorem pe_ls1 (h : PA X es t) : PE X (.List es pos) (tLs1 t) := by
  refine ⟨fun pins s σ H Q I hq => wpAny_List_spliced (thn (h.run pos pins s σ H _ I hq) fun us s1 ⟨xs, H1, I1, r, z, q⟩ => ⟨r.length ▸ z, ?_⟩)⟩
  have free1 : H1 s1.heap.objs.size = none := I1.hok.fresh (Nat.le_refl _)
  obtain ⟨o, _, _, ho, _⟩ := I1.mod.glob
  have big : mainGlobals < s1.heap.objs.size := Heap.lt_size (I1.bk _ _ ho)
  have ne : s1.heap.objs.size ≠ sysModules := fun z => by
    rw [z] at big
    exact absurd big (by decide)
  exact ⟨.ref s1.heap.objs.size, _, I1.laid (t' := s1.toks) (o := .lst xs) (fun b u e => Heap.get?_push_of_some _ e) (Nat.le_refl _) ⟨z, us, 0, r, Heap.get?_push_size _ rfl⟩, rfl, q _ free1 ne⟩
end
end Vk
set_option Elab.async false
set_option maxRecDepth 100000
set_option maxHeartbeats 4000000
set_option linter.all false
namespace Vk
open L2 PySem PySem.Spec PyProof.Rows PySem.VkX
/-! ## isinstance among own exception classes -/
section
variable {K : PySem.W.Frag} {C D : Addr} {x y : Str} {tl tl2 : List Value}
theorem ClsN.cls (c : ClsN K C x tl) : ∃ cd, PySem.W.clsIn K C = some cd ∧ cd.name = x ∧ cd.mro = .ref C :: tl ∧ PySem.W.typeIn K (.ref C) = some (.type "type") := by
  obtain ⟨newId, q, N, bs, sn, sub, ab, col, dd, k0, k1, k2, k3, k5, e⟩ := c
  refine ⟨{ name := x, bases := bs, mro := .ref C :: tl, ns := N, qualname := q, hasDict := true, slotNames := sn, subclasses := sub, abstract := ab, collection := col, hasDel := false }, ?_, rfl, rfl, ?_⟩
  · unfold PySem.W.clsIn; rw [e] <;> rfl
  · show (K.lookup C).map (·.cls) = _
    rw [e] <;> rfl
theorem ClsN.inj (c : ClsN K C x tl) (d : ClsN K D y tl2) : (C == D) = true → x = y := by
  intro h
  have e : C = D := by simpa using h
  subst e
  obtain ⟨cd, h1, h2, _⟩ := c.cls
  obtain ⟨ce, g1, g2, _⟩ := d.cls
  cases h1.symm.trans g1
  exact h2.symm.trans g2
/-- what stands at a name is one class -/
structure One (K : PySem.W.Frag) (C : Addr) (x : Str) (tl : List Value) : Prop where
  cn : ClsN K C x tl
  ns : PySem.W.nsIn K mainGlobals x = some (some (.ref C))
  rf : tl.all (fun v => match v with | .type _ => true | _ => false) = true
end
/-! ## list.count -/
/-! ## a comprehension over zip of two lists of one length -/
end Vk
set_option Elab.async false
set_option maxRecDepth 100000
set_option maxHeartbeats 4000000
set_option linter.all false
namespace Vk
open L2 PySem PySem.Spec PyProof.Rows PySem.VkX
/-! ## what is laid, told by what it shows -/
theorem Same.rfl {H : Hp} : Same H H := fun _ _ h => h
theorem Same.trans {H H1 H2 : Hp} (a : Same H H1) (b : Same H1 H2) : Same H H2 := fun c o h => b c o (a c o h)
def MkA (t : TE) (d : PyData) : Prop := ∃ v, Atm v d ∧ ∀ σ H Q, Q v H → t σ H Q
def MkAs (t : TA) (ds : List PyData) : Prop := ∃ vs, Paired Atm vs ds ∧ ∀ σ H Q, Q vs H → t σ H Q
def Mk (t : TE) (d : PyData) : Prop := ∀ σ H Q, (∀ v H', Same H H' → Th H' v d → Q v H') → t σ H Q
section
variable {t te : TE} {ta : TA} {d : PyData} {ds : List PyData}
theorem ma_non : MkA (tC .non) .none := ⟨_, .non, fun _ _ _ q => q⟩
theorem ma_bl {b : Bool} : MkA (tC (.bl b)) (.bool b) := ⟨_, .bl b, fun _ _ _ q => q⟩
theorem ma_int {i : Int} : MkA (tC (.int i)) (.int i) := ⟨_, .int i, fun _ _ _ q => q⟩
theorem ma_str {x : Str} : MkA (tC (.str x)) (.str x) := ⟨_, .str x, fun _ _ _ q => q⟩
theorem ma_neg {i : Int} : MkA (tUn (rU fun i => V.int (-i)) (tC (.int i))) (.int (-i)) := ⟨_, .int (-i), fun _ _ _ q => ⟨i, rfl, q⟩⟩
theorem ma_pow {i j : Int} (h : CPow i j) : MkA (tOp (rI CPow fun i j => V.int (i ^ j.toNat)) (tC (.int i)) (tC (.int j))) (.int (i ^ j.toNat)) := ⟨_, .int _, fun _ _ _ q => ⟨i, j, rfl, rfl, h, q⟩⟩
theorem ma_mul {z : Str} {n : Int} (h : CMulS z n) : MkA (tOp rMulS (tC (.str z)) (tC (.int n))) (.str (Txt.mul z n)) := ⟨_, .str _, fun _ _ _ q => ⟨z, n, rfl, rfl, h, q⟩⟩
theorem mas_nil : MkAs tNil [] := ⟨[], .nil, fun _ _ _ q => q⟩
theorem mas_cons (a : MkA te d) (b : MkAs ta ds) : MkAs (tCons te ta) (d :: ds) := by
  obtain ⟨v, h1, h2⟩ := a
  obtain ⟨vs, g1, g2⟩ := b
  exact ⟨v :: vs, .cons h1 g1, fun σ H Q q => h2 σ H _ (g2 σ H _ q)⟩
theorem paired_len {α β : Type} {R : α → β → Prop} : ∀ {xs : List α} {ys : List β}, Paired R xs ys → xs.length = ys.length
  | _, _, .nil => rfl
  | _, _, .cons _ t => congrArg (· + 1) (paired_len t)
theorem ths_keep {H H' : Hp} (k : Same H H') : ∀ {vs : List V} {ds : List PyData}, Paired (Th H) vs ds → Paired (Th H') vs ds
  | _, _, .nil => .nil
  | _, _, .cons a t => .cons (a.keep k) (ths_keep k t)
theorem paired_app {α β : Type} {R : α → β → Prop} : ∀ {xs : List α} {ys : List β} {us : List α} {vs : List β}, Paired R xs ys → Paired R us vs → Paired R (xs ++ us) (ys ++ vs)
  | _, _, _, _, .nil, b => b
  | _, _, _, _, .cons a t, b => .cons a (paired_app t b)
theorem paired_mem {α β : Type} {R : α → β → Prop} : ∀ {xs : List α} {ys : List β} {x : α}, Paired R xs ys → x ∈ xs → ∃ y, y ∈ ys ∧ R x y
  | _, _, _, .cons a t, h => by
    rcases List.mem_cons.mp h with rfl | h
    · exact ⟨_, List.mem_cons_self, a⟩
    · obtain ⟨y, h1, h2⟩ := paired_mem t h
      exact ⟨y, List.mem_cons_of_mem _ h1, h2⟩
end
/-- nothing of such a value is the pen -/
theorem Th.ext {H H' : Hp} {p c : Addr} {T : Nat} {v : V} {d : PyData} (h : Th H v d) (hp : Pen H p c T) (x : Ext p H H') : Th H' v d := by
  obtain ⟨ns, t, l, hpp, _⟩ := hp.ex
  cases h with
  | atm a => exact .atm a
  | lst e n a => exact .lst (x _ _ e (fun z => by rw [z, hpp] at e; cases e)) n a
  | tup e a => exact .tup (x _ _ e (fun z => by rw [z, hpp] at e; cases e)) a
  | @dct a ps e =>
    refine .dct (x _ _ e (fun z => ?_))
    rw [z, hpp] at e
    have e2 : penL c t l = kvS ps := HO.dK.inj (Option.some.inj e)
    match ps, e2 with
    | [], e2 => cases e2
    | q :: r, e2 =>
      have z := congrArg (fun l => (l.head?).map (·.2)) e2
      cases z
end Vk
namespace Vk
open L2 PySem PySem.Spec PyProof.Rows PySem.VkX
theorem seq_asg {te : TE} {g : TG} {u : TS} {D : Ends} {σ : L2.St} {H : Hp} (h : te σ H fun v H1 => g v σ H1 (u D)) : tSeq (tAsg te g) u D σ H := h
end Vk
namespace Vk
open L2 PySem PySem.Spec PyProof.Rows PySem.VkX
def okB (d : PyData) : Bool := d.showable && decide (d.depth ≤ 60) && decide (d.shown.length ≤ 1000) && (PyData.list [d, d]).showable && decide ((PyData.list [d, d]).depth ≤ 60) && decide ((PyData.list [d, d]).shown.length ≤ 10000)
end Vk
set_option Elab.async false
set_option maxRecDepth 100000
set_option maxHeartbeats 4000000
set_option linter.all false
namespace Vk
open L2 PySem PySem.Spec PyProof.Rows PySem.VkX
/-! ## several except clauses, with a name or without -/
abbrev Sui := Addr → Value → Option Addr → TS
inductive Clz
  | only (c : Value) (ts : Sui)
  | named (c : Value) (i : Nat) (ts : Sui)
def SuiOk (X : Cx) (ss : List Stmt) (ts : Sui) : Prop := ∀ (a : Addr) (oe : Obj) (cls : Value) (d : Option Addr) (pn : List (Addr × Obj)), Zc cls d oe → (∃ vs, oe.data = .fields vs) → PSs (X.suite a ((a, oe) :: pn)) ss (ts a cls d)
inductive ClzOk (X : Cx) : List ExceptHandler → List Clz → Prop
  | nil : ClzOk X [] []
  | only {x : Str} {c : Value} {ts : Sui} {s0 : Stmt} {ss : List Stmt} {p1 p2 : Pos} {hs : List ExceptHandler} {l : List Clz} (hc : Names X x c) (su : SuiOk X (s0 :: ss) ts) (r : ClzOk X hs l) : ClzOk X (.ExceptHandler (some (.Name x p1)) none (s0 :: ss) p2 :: hs) (.only c ts :: l)
  | named {x n : Str} {c : Value} {i : Nat} {ts : Sui} {s0 : Stmt} {ss : List Stmt} {p1 p2 : Pos} {hs : List ExceptHandler} {l : List Clz} (hi : X.N[i]? = some n) (hl : X.env.kindOf n = some .local) (hc : Names X x c) (su : SuiOk X (s0 :: ss) ts) (r : ClzOk X hs l) :
      ClzOk X (.ExceptHandler (some (.Name x p1)) (some n) (s0 :: ss) p2 :: hs) (.named c i ts :: l)
section
variable {X : Cx} {body : List Stmt} {e0 : ExceptHandler} {es : List ExceptHandler} {l : List Clz} {pos : Pos} {tb : WX → TS} {W0 : WX}
end
end Vk
set_option Elab.async false
set_option maxRecDepth 100000
set_option maxHeartbeats 4000000
set_option linter.all false
namespace Vk
open L2 PySem PySem.Spec PyProof.Rows PySem.VkX
/-! ## C(e, ..) to be raised -/
section
variable {X : Cx} {j k : Nat} {x : Str} {C : Addr} {fsn : List Str} {p pos : Pos} {e : Expr} {es : List Expr} {t : TA}
end
end Vk
set_option Elab.async false
set_option maxRecDepth 100000
set_option maxHeartbeats 4000000
set_option linter.all false
namespace Vk
open L2 PySem PySem.Spec PyProof.Rows PySem.VkX
/-! ## instances of own classes whose __init__ may raise, made by position and by all keywords in the other order -/
structure MakI (P : Program) (w : World) (K : PySem.W.Frag) (mg : Str → Option Value) (base : Heap) (CX : CXT) (k : Nat) (x : Str) (C : Addr) (fsn : List Str) (sp : Sp) : Prop where
  hm : mg x = some (.ref C)
  ex : ∃ (fI : Addr) (fd : FuncData), L2.Mk K C fI ∧ FnG P w K mg base CX k fI fd (("self" : Str) :: fsn) sp ∧ Binds K fd (("self" : Str) :: fsn) [] ∧
    (∀ (s : Shared) (v : Value) (ws : List Value), K.In s.heap → ws.length = fsn.length → BindsTo s fd ⟨[v], fsn.reverse.zip ws⟩ ((("self" : Str) :: fsn).zip (v :: ws.reverse)))
section
variable {X : Cx} {CX : CXT} {E : XK} {j k : Nat} {x : Str} {C : Addr} {fsn : List Str} {sp : Sp} {p pos : Pos} {e : Expr} {es : List Expr} {t : TA}
end
end Vk
set_option Elab.async false
set_option maxRecDepth 100000
set_option maxHeartbeats 4000000
set_option linter.all false
namespace Vk
open L2 PySem PySem.Spec PyProof.Rows PySem.VkX LamX NdefX
/-! ## a lambda as a value: made in a def, kept in lists, handed to a def that calls it -/
structure LF where
  qual : Str
  params : Arguments
  body : Expr
  scope : Scope
  cl : List (Str × Addr)
  c : Addr
def LF.nf (F : LF) : NF := ⟨"<lambda>", F.qual, F.params, [], F.scope, F.cl, F.c⟩
def LamO (f : Addr) (F : LF) : HO := .ext fun h => ∃ pm ctv : Value, h.get? f = some (PySem.W.kla_obj "<lambda>" F.qual F.params F.body F.scope F.cl pm F.c ctv)
section
variable {X : Cx} {pins : List (Addr × Obj)} {σ : L2.St} {H : Hp} {s : Shared}
end
section
variable {X : Cx}
end
/-! ### what it does -/
abbrev SpL := List (Option V) → Hp → VK → XK → Prop
structure LamK (P : Program) (w : World) (K : PySem.W.Frag) (mg : Str → Option Value) (base : Heap) (k : Nat) (F : LF) (fr : List Str) (sp : SpL) : Prop where
  run : ∀ (A : Around) (outer : List Env) (s : Shared) (H : Hp) (f : Addr) (ws : List (Option V)) (Q : VK) (E : XK), A.guards = some [] → Room k A → Env0 P w K mg base A outer s H → H f = some (LamO f F) → H F.c = some (CodeO F.c F.qual) → CellsAt F.cl fr ws s.heap H → sp ws H Q E →
    codeAny (model P w) A (.call (.ref f) ⟨[], []⟩) (CR (L2.CX P w) outer P w H s Q E) s
section
variable {P : Program} {w : World} {K : PySem.W.Frag} {mg : Str → Option Value} {base : Heap} {N fr : List Str} {F : LF} {k j : Nat} {sp : SpL}
theorem LamK.mono (l : LamK P w K mg base j F fr sp) (h : j ≤ k) : LamK P w K mg base k F fr sp := ⟨fun A outer s H f ws Q E hg hr => l.run A outer s H f ws Q E hg (hr.mono h)⟩
end
/-! ### called by the def that got it -/
section
variable {X : Cx} {F : LF} {fr : List Str} {ws : List (Option V)} {i j k : Nat} {x : Str} {sp : SpL} {E : XK} {p pos : Pos} {f0 : Addr}
end
/-! ### defs whose promise speaks of the cells that the heap holds -/
structure FnH (P : Program) (w : World) (K : PySem.W.Frag) (mg : Str → Option Value) (base : Heap) (CX : CXT) (k : Nat) (f : Addr) (fd : FuncData) (ps : List Str) (sp : Heap → Sp) : Prop where
  len : ∀ h vs H Q E, sp h vs H Q E → vs.length = ps.length
  run : ∀ (A : Around) (outer : List Env) (s : Shared) (H : Hp) (args : Args) (us : List Value) (vs : List V) (Q : VK) (E : XK), A.guards = some [] → Room k A → Env0 P w K mg base A outer s H → BindsTo s fd args (ps.zip us) → Vals vs us → sp s.heap vs H Q E →
    codeAny (model P w) A (.call (.ref f) args) (CR CX outer P w H s Q E) s
structure CalH (P : Program) (w : World) (K : PySem.W.Frag) (mg : Str → Option Value) (base : Heap) (CX : CXT) (k : Nat) (x : Str) (sp : Heap → Sp) : Prop where
  ex : ∃ (f : Addr) (fd : FuncData) (ps : List Str), FnH P w K mg base CX k f fd ps sp ∧ mg x = some (.ref f) ∧ PySem.W.keepIn K (.ref f) = true ∧ Binds K fd ps []
section
variable {X : Cx} {CX : CXT} {j k : Nat} {x : Str} {sp : Heap → Sp} {E : XK} {p pos : Pos} {e : Expr} {es : List Expr} {t : TA} {rd : L2.St → List V → Hp → VK → Prop}
end
/-! ### isinstance(e, T) of a caught exception that has fields -/
/-! ### a def whose code object is known -/
structure FunC (K : PySem.W.Frag) (x qual : Str) (st : Stmt) (f : Addr) (fd : FuncData) (c : Addr) : Prop where
  ex : ∃ (oc : Value) (od : Option Addr) (kV doc pm : Value) (an : Option Addr) (ct : Value) (sl : Array (Option Value)), fd = PySem.W.fnOf x qual (defArgs st) (defBody st) (defScope st) .none kV doc pm an (.ref c) ct ∧ K.lookup f = some ⟨oc, od, .func fd, sl⟩ ∧ PySem.W.codeIn K (.ref c) qual = true
  kp : PySem.W.keepIn K (.ref f) = true
theorem FunC.fn {K : PySem.W.Frag} {x qual : Str} {st : Stmt} {f c : Addr} {fd : FuncData} (F : FunC K x qual st f fd c) : Fun K x qual st f fd := by
  obtain ⟨oc, od, kV, doc, pm, an, ct, sl, e, l, hc⟩ := F.ex
  exact ⟨⟨oc, od, kV, doc, pm, an, .ref c, ct, sl, e, l, hc⟩, F.kp⟩
end Vk
set_option Elab.async false
set_option maxRecDepth 100000
set_option maxHeartbeats 4000000
set_option linter.all false
namespace Vk
open PySem PySem.Spec PyProof.Rows PySem.SeqAt L2
open Builtin
section
variable {prog : Program} {w : World} {A : Around} {E : Value → Shared → Prop} {s : Shared} {K : PySem.W.Frag} {x C : Addr} {ox : Obj} {od : Option Obj}
end
end Vk
set_option Elab.async false
set_option maxRecDepth 100000
set_option maxHeartbeats 4000000
set_option linter.all false
namespace Vk
open PySem PySem.Spec PyProof.Rows PySem.SeqAt L2
open Builtin
/-! ## == and != and in, on the left an instance of an own class with its own == -/
inductive TyE (H : Hp) : V → Value → Prop
  | non : TyE H .non (.type "NoneType")
  | bl (b : Bool) : TyE H (.bl b) (.type "bool")
  | int (i : Int) : TyE H (.int i) (.type "int")
  | str (z : Str) : TyE H (.str z) (.type "str")
  | tup {a : Addr} {xs : List V} (e : H a = some (.tup xs)) : TyE H (.ref a) (.type "tuple")
  | lst {a : Addr} {xs : List V} (e : H a = some (.lst xs)) : TyE H (.ref a) (.type "list")
  | ins {a C dx : Addr} {fs : List (Str × V)} (e : H a = some (.ins C dx fs)) : TyE H (.ref a) (.ref C)
section
variable {X : Cx} {pins : List (Addr × Obj)} {σ : L2.St} {H : Hp} {s : Shared}
end
/-- the own == of the class at C -/
structure EqI (P : Program) (w : World) (K : PySem.W.Frag) (mg : Str → Option Value) (base : Heap) (k : Nat) (C : Addr) (sp : Sp) : Prop where
  ex : ∃ (f : Addr) (fd : FuncData), PySem.W.findIn K (.ref C) "__eq__" = some (some (.ref f)) ∧ PySem.W.isFn K (.ref f) = true ∧ FnOk P w K mg base CX0 k f fd ["self", "other"] sp ∧ Binds K fd ["self", "other"] []
  ne : PySem.W.findIn K (.ref C) "__ne__" = some (some (.builtin "object.__ne__"))
  obj : PySem.W.mroIn K C (.type "object") = some true
  no1 : PySem.W.mroIn K C (.type "tuple") = some false
  no2 : PySem.W.mroIn K C (.type "list") = some false
  no3 : PySem.W.mroIn K C (.type "str") = some false
  no4 : PySem.W.mroIn K C (.type "NoneType") = some false
section
variable {X : Cx} {k j : Nat} {C : Addr} {sp : Sp}
/-- the items that give way to the instance's own == -/
inductive Dec (H : Hp) : V → Prop
  | non : Dec H .non
  | str (z : Str) : Dec H (.str z)
  | tup {a : Addr} {xs : List V} (e : H a = some (.tup xs)) : Dec H (.ref a)
  | lst {a : Addr} {xs : List V} (e : H a = some (.lst xs)) : Dec H (.ref a)
end
end Vk
set_option Elab.async false
set_option maxRecDepth 100000
set_option maxHeartbeats 4000000
set_option linter.all false
namespace Vk
open PySem PySem.Spec PyProof.Rows L2 StX
/-! ## def f(self, *parts), with nothing under way -/
section
variable {CX : CXT} {P : Program} {w : World} {K : PySem.W.Frag} {mg : Str → Option Value} {base : Heap} {k : Nat} {x qual : Str} {st : Stmt} {f : Addr} {fd : FuncData} {N ps : List Str} {sp : Sp}
end
section
variable {X : Cx} {CX : CXT} {k j : Nat} {C f : Addr} {sp : Sp} {E : XK} {x : Str} {p pos : Pos} {e : Expr} {es : List Expr} {t : TA}
end
end Vk
set_option Elab.async false
set_option maxRecDepth 100000
set_option maxHeartbeats 4000000
set_option linter.all false
namespace Vk
open PySem PySem.Spec PyProof.Rows L2
/-! ## for i, x in enumerate(t), t a tuple -/
section
variable {prog : Program} {w : World} {A : Around} {E : Value → Shared → Prop} {s : Shared}
end
end Vk
set_option Elab.async false
set_option maxRecDepth 100000
set_option maxHeartbeats 4000000
set_option linter.all false
namespace Vk
open PySem PySem.Spec PyProof.Rows L2
section
variable {X : Cx}
/-- e.f, a property, e an instance of one of some classes -/
structure PrI (P : Program) (w : World) (K : PySem.W.Frag) (mg : Str → Option Value) (base : Heap) (k : Nat) (C : Addr) (f fa : Str) : Prop where
  ex : ∃ (p g : Addr) (fd : FuncData), Cls K C ∧ PropOf K C f p g ∧ FnOk P w K mg base CX0 k g fd ["self"] (getSp C fa) ∧ Binds K fd ["self"] []
end
end Vk
set_option Elab.async false
set_option maxRecDepth 100000
set_option maxHeartbeats 4000000
set_option linter.all false
namespace Vk
open L2 PySem PySem.Spec PyProof.Rows
/-! ## lstrip leaves nothing of a string exactly if all its signs are to be stripped -/
end Vk
namespace Vk
open L2 PySem PySem.Spec PyProof.Rows
end Vk
set_option Elab.async false
set_option maxRecDepth 100000
set_option maxHeartbeats 4000000
set_option linter.all false
namespace Vk
open PySem PySem.Spec PyProof.Rows L2 LamX
/-! ## the law's own call, one def of the text makes lambdas (its code object c, its table P) -/
end Vk
set_option Elab.async false
set_option maxRecDepth 100000
set_option maxHeartbeats 4000000
set_option linter.all false
namespace Vk
open PySem PySem.Spec PyProof.Rows L2 LamX
/-! ## where the modules are told lies a dict -/
section
variable {X : Cx} {pins : List (Addr × Obj)} {σ : L2.St} {H : Hp} {s : Shared}
end
/-! ## == of a list and the empty list -/
section
open Builtin
end
/-! ## the law's own call, one def of the text makes lambdas (its code object c, its table P) -/
end Vk
set_option Elab.async false
set_option maxRecDepth 100000
set_option maxHeartbeats 4000000
set_option linter.all false
namespace Vk
open L2 PySem PySem.Spec PyProof.Rows PySem.VkX
/-! ## what is made is new -/
def New (H : Hp) (v : V) : Prop := ∀ b, v = .ref b → H b = none
theorem New.same {H H1 : Hp} {v : V} (n : New H1 v) (s : Same H H1) : New H v := fun b e => by
  match q : H b with
  | none => rfl
  | some o => exact nomatch (s b o q).symm.trans (n b e)
theorem New.ext {H H1 : Hp} {v : V} {p c : Addr} {T : Nat} (n : New H1 v) (x : Ext p H H1) (P : Pen H1 p c T) : New H v := fun b e => by
  match q : H b with
  | none => rfl
  | some o =>
    obtain ⟨t, l, hp⟩ := P.is
    by_cases hb : b = p
    · rw [hb] at e
      exact nomatch hp.symm.trans (n p e)
    · exact nomatch (x b o q hb).symm.trans (n b e)
theorem Atm.new {H : Hp} {v : V} {d : PyData} (a : Atm v d) : New H v := fun b e => by
  subst e
  cases a
theorem New.ne {H : Hp} {v : V} {D : Addr} {o : HO} (n : New H v) (h : H D = some o) : v ≠ .ref D := fun e => nomatch h.symm.trans (n D e)
theorem Th.at {H : Hp} {v : V} {d : PyData} {D : Addr} {o : HO} (h : Th H v d) (n : v ≠ .ref D) : Th (upd H D o) v d := by
  cases h with
  | atm a => exact .atm a
  | @lst a xs ds e ne p => exact .lst ((upd_ne fun z => n (congrArg V.ref z)).trans e) ne p
  | @tup a xs ds e p => exact .tup ((upd_ne fun z => n (congrArg V.ref z)).trans e) p
  | @dct a ps e => exact .dct ((upd_ne fun z => n (congrArg V.ref z)).trans e)
def Mk2 (t : TE) (d : PyData) : Prop := ∀ σ H Q, (∀ v H', Same H H' → Th H' v d → New H v → Q v H') → t σ H Q
def Mks2 (t : TA) (ds : List PyData) : Prop := ∀ σ H Q, (∀ vs H', Same H H' → Paired (Th H') vs ds → (∀ v ∈ vs, New H v) → Q vs H') → t σ H Q
section
variable {t te : TE} {ta : TA} {d : PyData} {ds : List PyData}
theorem mk2_atm (a : MkA te d) : Mk2 te d := by
  obtain ⟨v, h1, h2⟩ := a
  exact fun σ H Q q => h2 σ H Q (q v H Same.rfl (.atm h1) h1.new)
theorem mk2_tup (a : MkAs ta ds) (hl : ds.length ≤ 1000) : Mk2 (tTup ta) (.tuple ds) := by
  obtain ⟨vs, g1, g2⟩ := a
  exact fun σ H Q q => g2 σ H _ ⟨few_len ((paired_len g1).symm ▸ hl), fun p hp => q _ _ (same_new hp) (.tup upd_same g1) fun b e => by cases e; exact hp⟩
theorem mk2_lst (a : MkAs ta ds) (hl : ds.length ≤ 1000) : Mk2 (tLs1 ta) (.list ds) := by
  obtain ⟨vs, g1, g2⟩ := a
  exact fun σ H Q q => g2 σ H _ ⟨few_len ((paired_len g1).symm ▸ hl), fun p hp np => q _ _ (same_new hp) (.lst upd_same np g1) fun b e => by cases e; exact hp⟩
theorem mk2_dnew : Mk2 tDNewK (.dict (kvD [])) := fun σ H Q q p hp => q _ _ (same_new hp) (.dct upd_same) fun b e => by cases e; exact hp
theorem mk2_disp {a b : Str} : Mk2 (tDisp [(tC (.str a), tC (.str b))]) (.dict (kvD [(a, b)])) := by
  intro σ H Q q p hp
  refine ⟨upd_same, [(Sum.inr a, V.str b)], rfl, by show 1 ≤ 15; decide, ?_⟩
  refine q _ _ (fun c o h => ?_) (.dct (ps := [(a, b)]) upd_same) fun b e => by cases e; exact hp
  rw [upd_ne (ne_of_none h hp), upd_ne (ne_of_none h hp)]
  exact h
theorem mks2_nil : Mks2 tNil [] := fun σ H Q q => q [] H Same.rfl .nil fun v hv => absurd hv List.not_mem_nil
theorem mks2_cons (a : Mk2 te d) (b : Mks2 ta ds) : Mks2 (tCons te ta) (d :: ds) := fun σ H Q q => a σ H _ fun v H1 s1 t1 n1 => b σ H1 _ fun vs H2 s2 t2 n2 => q _ _ (s1.trans s2) (.cons (t1.keep s2) t2) fun x hx => by
  rcases List.mem_cons.mp hx with rfl | hx
  · exact n1
  · exact (n2 x hx).same s1
theorem mk2_many (a : Mks2 ta ds) (hl : ds.length ≤ 1000) {σ : L2.St} {H : Hp} {Q : VK} (q : ∀ p xs H', Same H H' → H' p = some (.lst xs) → Paired (Th H') xs ds → (∀ v ∈ xs, New H v) → Q (.ref p) H') : tLst ta σ H Q :=
  a σ H _ fun vs H1 s1 t1 n1 => ⟨few_len ((paired_len t1).symm ▸ hl), fun p hp => q p vs _ (s1.trans (same_new hp)) upd_same (ths_keep (same_new hp) t1) n1⟩
end
end Vk
set_option Elab.async false
set_option maxRecDepth 100000
set_option linter.all false
namespace Vk
open PySem PySem.Spec PyProof.Rows L2
/-! ## lists whose items stand for items of another list -/
theorem paired_at {α β : Type} {R : α → β → Prop} : ∀ {xs : List α} {ys : List β} {i : Nat} {x : α}, Paired R xs ys → xs[i]? = some x → ∃ y, ys[i]? = some y ∧ R x y
  | _, _, 0, _, .cons a t, h => by cases h; exact ⟨_, rfl, a⟩
  | _, _, i + 1, _, .cons a t, h => paired_at (i := i) t h
theorem drop_at {α : Type} : ∀ {l : List α} {i : Nat} {x : α}, l[i]? = some x → l.drop i = x :: l.drop (i + 1)
  | a :: l, 0, x, h => by cases h; rfl
  | a :: l, i + 1, x, h => by simpa using drop_at (l := l) (i := i) (x := x) (by simpa using h)
end Vk
set_option Elab.async false
set_option maxRecDepth 100000
set_option maxHeartbeats 4000000
set_option linter.all false
namespace Vk
open PySem PySem.Spec PyProof.Rows L2
theorem fewL {n : Nat} (h : n ≤ 100000) : n < sizeLine := Nat.lt_of_le_of_lt h (by rw [sizeLine_eq]; decide)
theorem pair_mono {α β : Type} {R S : α → β → Prop} (h : ∀ a b, R a b → S a b) : ∀ {xs : List α} {ys : List β}, Paired R xs ys → Paired S xs ys
  | _, _, .nil => .nil
  | _, _, .cons a t => .cons (h _ _ a) (pair_mono h t)
theorem none_up {H H1 : Hp} {a : Addr} (s : Same H H1) (h : H1 a = none) : H a = none := by
  match e : H a with
  | none => rfl
  | some o => exact nomatch (s _ _ e).symm.trans h
theorem upd_list {H : Hp} {l : Addr} {xs : List V} {o : HO} (h : H l = some (.lst xs)) (u : Addr) (ws : List V) (hu : H u = some (.tup ws)) : (upd H l o) u = some (.tup ws) := by
  rw [upd_ne (fun e => by rw [e, h] at hu; cases hu)]
  exact hu
theorem upd_out {H H1 : Hp} {l : Addr} {o : HO} (hl : H l = none) (s : Same H H1) : Same H (upd H1 l o) := fun b o2 h => by
  rw [upd_ne (ne_of_none h hl)]
  exact s _ _ h
/-- letter i of x -/
def ltr (x : Str) (i : Nat) : Nat := x.cps.toList.getD i 0
theorem cut_ab {x : Str} {a b : Nat} (h1 : a ≤ b) (h2 : b ≤ x.length) : cutS x (some (a : Int)) (some (b : Int)) = ⟨((x.cps.toList.drop a).take (b - a)).toArray⟩ := by
  unfold cutS
  rw [HT.sIx_nat, HT.sIx_nat, Nat.min_eq_left h2, Nat.min_eq_left (Nat.le_trans h1 h2)]
theorem cut_len {x : Str} {a b : Nat} (h1 : a ≤ b) (h2 : b ≤ x.length) : (cutS x (some (a : Int)) (some (b : Int))).length = b - a := by
  rw [cut_ab h1 h2]
  show (List.toArray _).size = _
  have : x.cps.toList.length = x.length := Array.length_toList
  rw [List.size_toArray, List.length_take, List.length_drop]
  omega
theorem cut_ltr {x : Str} {a b t : Nat} (h1 : a ≤ b) (h2 : b ≤ x.length) (ht : t < b - a) : ltr (cutS x (some (a : Int)) (some (b : Int))) t = ltr x (a + t) := by
  rw [cut_ab h1 h2]
  unfold ltr
  show (List.getD (List.take _ _) t 0) = _
  rw [List.getD_eq_getElem?_getD, List.getD_eq_getElem?_getD, List.getElem?_take, if_pos ht, List.getElem?_drop]
theorem or_both {c : Bool} {T B R : Prop} (h1 : c = true → R → T) (h2 : c = false → R → B) (h : R) : if c = true then T else B := by
  cases c with
  | true => exact h1 rfl h
  | false => exact h2 rfl h
theorem plc_asc (x w : Str) : (plc x w).Pairwise (· < ·) := List.pairwise_lt_range.filter _
theorem plc_ltr {x w : Str} {k : Nat} : k ∈ plc x w ↔ k + w.length ≤ x.length ∧ ∀ t, t < w.length → ltr x (k + t) = ltr w t := by
  unfold plc atB
  rw [List.mem_filter, List.mem_range, Bool.and_eq_true, decide_eq_true_eq, StrLaws.subAt_eq, beq_iff_eq]
  constructor
  · rintro ⟨_, h1, h2⟩
    refine ⟨h1, fun t ht => ?_⟩
    unfold ltr
    rw [← h2, List.getD_eq_getElem?_getD, List.getD_eq_getElem?_getD, List.getElem?_take, if_pos ht, List.getElem?_drop]
  · rintro ⟨h1, h2⟩
    refine ⟨by omega, h1, List.ext_getElem? fun t => ?_⟩
    have lw : w.cps.toList.length = w.length := Array.length_toList
    have lx : x.cps.toList.length = x.length := Array.length_toList
    by_cases ht : t < w.length
    · have q := h2 t ht
      unfold ltr at q
      rw [List.getD_eq_getElem?_getD, List.getD_eq_getElem?_getD, List.getElem?_eq_getElem (by omega : k + t < x.cps.toList.length), List.getElem?_eq_getElem (by omega : t < w.cps.toList.length)] at q
      rw [List.getElem?_take, if_pos ht, List.getElem?_drop, List.getElem?_eq_getElem (by omega : k + t < x.cps.toList.length), List.getElem?_eq_getElem (by omega : t < w.cps.toList.length)]
      exact congrArg some q
    · rw [List.getElem?_take, if_neg ht, List.getElem?_eq_none (by omega)]
theorem atI_end {xs : List V} {n : Nat} {v : V} (h : xs[n]? = some v) (hl : xs.length = n + 1) : atI xs (-1) = some v := by
  have e : xs = xs.take n ++ [v] := by
    have := List.take_append_drop n xs
    rw [drop_at h, List.drop_of_length_le (by omega)] at this
    exact this.symm
  rw [e]
  exact atI_last _ _
/-- pairs of numbers -/
def PrN (H : Hp) : List V → List (Nat × Nat) → Prop := Paired (fun v (p : Nat × Nat) => ∃ t, v = V.ref t ∧ H t = some (.tup [.int (p.1 : Nat), .int (p.2 : Nat)]))
theorem PrN.keep {H H1 : Hp} {xs : List V} {ps : List (Nat × Nat)} (h : PrN H xs ps) (s : Same H H1) : PrN H1 xs ps := pair_mono (fun v p ⟨t, e, ht⟩ => ⟨t, e, s _ _ ht⟩) h
theorem PrN.keepT {H H1 : Hp} {xs : List V} {ps : List (Nat × Nat)} (h : PrN H xs ps) (s : ∀ u ws, H u = some (.tup ws) → H1 u = some (.tup ws)) : PrN H1 xs ps := pair_mono (fun v p ⟨t, e, ht⟩ => ⟨t, e, s _ _ ht⟩) h
/-! ## windows -/
/-- the letters from a to b stand at another place, too -/
def Tw (X : Nat → Nat) (n a b : Nat) : Prop := ∃ k, k ≠ a ∧ k + (b - a) ≤ n ∧ ∀ t, t < b - a → X (k + t) = X (a + t)
theorem Tw.less {X : Nat → Nat} {n a b a' b' : Nat} (h : Tw X n a b) (h1 : a ≤ a') (h2 : a' ≤ b') (h3 : b' ≤ b) : Tw X n a' b' := by
  obtain ⟨k, k1, k2, k3⟩ := h
  refine ⟨k + (a' - a), by omega, by omega, fun t ht => ?_⟩
  have := k3 (a' - a + t) (by omega)
  rw [show k + (a' - a) + t = k + (a' - a + t) by omega, this, show a + (a' - a + t) = a' + t by omega]
def twB (x : Str) (a b : Nat) : Bool := decide (2 ≤ (plc x (cutS x (some (a : Int)) (some (b : Int)))).length)
theorem plc_own {x : Str} {a b : Nat} (h1 : a ≤ b) (h2 : b ≤ x.length) : a ∈ plc x (cutS x (some (a : Int)) (some (b : Int))) :=
  plc_ltr.mpr ⟨by rw [cut_len h1 h2]; omega, fun t ht => by
    rw [cut_len h1 h2] at ht
    exact (cut_ltr h1 h2 ht).symm⟩
theorem two_of {l : List Nat} {a : Nat} (nd : l.Pairwise (· < ·)) (ha : a ∈ l) : 2 ≤ l.length ↔ ∃ k ∈ l, k ≠ a := by
  constructor
  · intro h
    match l, nd, h with
    | x :: y :: r, nd, _ =>
      have lt := (List.pairwise_cons.mp nd).1 y List.mem_cons_self
      by_cases e : x = a
      · exact ⟨y, List.mem_cons_of_mem _ List.mem_cons_self, by omega⟩
      · exact ⟨x, List.mem_cons_self, e⟩
  · rintro ⟨k, hk, hne⟩
    match l, ha, hk with
    | [x], ha, hk => exact absurd ((List.mem_singleton.mp hk).trans (List.mem_singleton.mp ha).symm) hne
    | x :: y :: r, _, _ => show 2 ≤ r.length + 1 + 1; omega
theorem twB_iff {x : Str} {a b : Nat} (h1 : a ≤ b) (h2 : b ≤ x.length) : twB x a b = true ↔ Tw (ltr x) x.length a b := by
  unfold twB
  rw [decide_eq_true_eq, two_of (plc_asc _ _) (plc_own h1 h2)]
  constructor
  · rintro ⟨k, hk, hne⟩
    obtain ⟨k1, k2⟩ := plc_ltr.mp hk
    rw [cut_len h1 h2] at k1 k2
    exact ⟨k, hne, k1, fun t ht => (k2 t ht).trans (cut_ltr h1 h2 ht)⟩
  · rintro ⟨k, hne, k1, k2⟩
    refine ⟨k, plc_ltr.mpr ⟨by rw [cut_len h1 h2]; exact k1, fun t ht => ?_⟩, hne⟩
    rw [cut_len h1 h2] at ht
    rw [k2 t ht, cut_ltr h1 h2 ht]
theorem plc_one {x : Str} {a b : Nat} (h1 : a ≤ b) (h2 : b ≤ x.length) : (plc x (cutS x (some (a : Int)) (some (b : Int)))).length = 1 ↔ twB x a b = false := by
  have h := plc_own h1 h2
  have : 0 < (plc x (cutS x (some (a : Int)) (some (b : Int)))).length := List.length_pos_of_mem h
  unfold twB
  rw [decide_eq_false_iff_not]
  omega
/-- the least end of a window from a that stands once; behind the text if there is none -/
theorem cutV_take {xs : List V} {k : Nat} : cutV xs none (some (k : Int)) = xs.take k := by
  unfold cutV
  rw [HT.sIx_none, HT.sIx_nat]
  simp
/-- parts, one behind the other -/
def OkR (n : Nat) : Nat → List (Nat × Nat × Str) → Prop
  | _, [] => True
  | p, r :: rs => p ≤ r.1 ∧ r.1 < r.2.1 ∧ r.2.1 ≤ n ∧ OkR n r.2.1 rs
theorem cut_mid {x : Str} {a b : Nat} (h1 : a ≤ b) (h2 : b ≤ x.length) : (cutS x (some (a : Int)) (some (b : Int))).cps.toList = (x.cps.toList.drop a).take (b - a) := by
  rw [cut_ab h1 h2]
theorem str_ext {x y : Str} (h : x.cps.toList = y.cps.toList) : x = y := PySem.W.str_of_cps h
theorem more_list {z y : Str} : (z ++ y).cps.toList = z.cps.toList ++ y.cps.toList := by
  show (z.cps ++ y.cps).toList = _
  simp
end Vk
set_option Elab.async false
set_option maxRecDepth 100000
set_option linter.all false
namespace Vk
open PySem PySem.Spec PyProof.Rows L2
def top (i : Nat) : Stmt := PySem.Challenge.pw_anchoredits_k64_whole_papers_of_prices.main.body.getD i (.Pass ⟨0, 0, 0, 0⟩)
structure Txt (mg : Str → Option Value) : Prop where
  str : mg "str" = none
  tuple : mg "tuple" = none
  enumerate : mg "enumerate" = none
  bool : mg "bool" = none
  sum : mg "sum" = none
  max : mg "max" = none
  ValueError : mg "ValueError" = none
  len : mg "len" = none
  list : mg "list" = none
  int : mg "int" = none
  abs : mg "abs" = none
  range : mg "range" = none
  min : mg "min" = none
  repr : mg "repr" = none
  reversed : mg "reversed" = none
  all : mg "all" = none
  isinstance : mg "isinstance" = none
section
variable {P : Program} {w : World} {K : PySem.W.Frag} {mg : Str → Option Value} {base : Heap}
/-- a text: a string of letters -/
def isT : PyData → Bool
  | .str z => decide (V.str (Txt.lstripChars z letS) = V.str "")
  | _ => false
/-- strings of values are short -/
def Srt (d : PyData) : Prop := match d with | .str z => z.length ≤ 1000 ∧ PyData.strOk z = true | _ => True
abbrev s_lsigns : Stmt := top 18
theorem sc_lsigns : FnScope [] [] (defScope s_lsigns) := ⟨rfl, rfl, rfl, by decide +kernel, rfl, by decide +kernel, by decide +kernel⟩
theorem b_lsigns {f : Addr} {fd : FuncData} (F : Fun K "_law_signs" "_law_signs" s_lsigns f fd) (T : Txt mg) : FnG P w K mg base CX0 1 f fd [] spSigns := by
  refine okG0 F sc_lsigns (fun vs H Q E h => ?_) (fun cdv A outer s H vs Q E hg hr h => ?_)
  · obtain ⟨rfl, _⟩ := h
    rfl
  · have hu := hu_of hr
    have hu64 := hr.units
    obtain ⟨rfl, k⟩ := h
    exact ⟨_, (pss_one (ps_ret pe_str)), k⟩

abbrev s_is_integer : Stmt := top 1
theorem sc_is_integer : FnScope ["value"] ["value"] (defScope s_is_integer) := ⟨rfl, rfl, rfl, by decide +kernel, rfl, by decide +kernel, by decide +kernel⟩
end
end Vk
set_option Elab.async false
set_option maxRecDepth 100000
set_option maxHeartbeats 4000000
set_option linter.all false
namespace Vk
open L2 PySem PySem.Spec PyProof.Rows PySem.VkX
/-! ## several except clauses, two classes in one among them -/
inductive Cly
  | only (c : Value) (ts : Sui)
  | named (c : Value) (i : Nat) (ts : Sui)
  | pair (c1 c2 : Value) (ts : Sui)
inductive ClyOk (X : Cx) : List ExceptHandler → List Cly → Prop
  | nil : ClyOk X [] []
  | only {x : Str} {c : Value} {ts : Sui} {s0 : Stmt} {ss : List Stmt} {p1 p2 : Pos} {hs : List ExceptHandler} {l : List Cly} (hc : Names X x c) (su : SuiOk X (s0 :: ss) ts) (r : ClyOk X hs l) : ClyOk X (.ExceptHandler (some (.Name x p1)) none (s0 :: ss) p2 :: hs) (.only c ts :: l)
  | named {x n : Str} {c : Value} {i : Nat} {ts : Sui} {s0 : Stmt} {ss : List Stmt} {p1 p2 : Pos} {hs : List ExceptHandler} {l : List Cly} (hi : X.N[i]? = some n) (hl : X.env.kindOf n = some .local) (hc : Names X x c) (su : SuiOk X (s0 :: ss) ts) (r : ClyOk X hs l) :
      ClyOk X (.ExceptHandler (some (.Name x p1)) (some n) (s0 :: ss) p2 :: hs) (.named c i ts :: l)
  | pair {x y : Str} {c1 c2 : Value} {ts : Sui} {s0 : Stmt} {ss : List Stmt} {p1 p2 p3 pt : Pos} {kk : Nat} {hs : List ExceptHandler} {l : List Cly} (hx : Names X x c1) (hy : Names X y c2) (su : SuiOk X (s0 :: ss) ts) (r : ClyOk X hs l) :
      ClyOk X (.ExceptHandler (some (.Tuple [.Name x p1, .Name y p3] kk pt)) none (s0 :: ss) p2 :: hs) (.pair c1 c2 ts :: l)
section
variable {X : Cx} {body : List Stmt} {e0 : ExceptHandler} {es : List ExceptHandler} {l : List Cly} {pos : Pos} {tb : WX → TS} {W0 : WX}
end
end Vk
set_option Elab.async false
set_option maxRecDepth 100000
set_option maxHeartbeats 4000000
set_option linter.all false
namespace Vk
open PySem PySem.Spec PyProof.Rows L2
/-! ## x[::-1], x a text -/
end Vk
set_option Elab.async false
set_option maxRecDepth 100000
set_option maxHeartbeats 4000000
set_option linter.all false
namespace Vk
open PySem PySem.Spec PyProof.Rows L2 HT
/-! ## t[::-1], t a tuple -/
section
variable {prog : Program} {w : World} {A : Around} {E : Value → Shared → Prop} {s : Shared}
end
end Vk
set_option Elab.async false
set_option maxRecDepth 100000
set_option maxHeartbeats 4000000
set_option linter.all false
namespace Vk
open PySem PySem.Spec PyProof.Rows L2 LamX
/-! ## things: a value, or a list or a tuple of values -/
inductive Tg (H : Hp) : V → PyData → Prop
  | one {v : V} {d : PyData} : Th H v d → (∀ ds, d ≠ .tuple ds) → Tg H v d
  | lst {a : Addr} {vs : List V} {ds : List PyData} : H a = some (.lst vs) → Paired (Th H) vs ds → Tg H (.ref a) (.list ds)
  | tup {a : Addr} {vs : List V} {ds : List PyData} : H a = some (.tup vs) → Paired (Th H) vs ds → Tg H (.ref a) (.tuple ds)
theorem atms_ths {H : Hp} : ∀ {vs : List V} {ds : List PyData}, Paired Atm vs ds → Paired (Th H) vs ds
  | _, _, .nil => .nil
  | _, _, .cons a t => .cons (.atm a) (atms_ths t)
theorem Th.tg {H : Hp} {v : V} {d : PyData} (h : Th H v d) : Tg H v d := by
  cases h with
  | atm a => exact .one (.atm a) (fun ds z => by cases a <;> cases z)
  | lst e n p => exact .one (.lst e n p) (fun ds z => by cases z)
  | tup e p => exact .tup e (atms_ths p)
  | dct e => exact .one (.dct e) (fun ds z => by cases z)
theorem Tg.keep {H H' : Hp} {v : V} {d : PyData} (h : Tg H v d) (s : Same H H') : Tg H' v d := by
  cases h with
  | one th n => exact .one (th.keep s) n
  | lst e p => exact .lst (s _ _ e) (ths_keep s p)
  | tup e p => exact .tup (s _ _ e) (ths_keep s p)
theorem ths_ext {H H' : Hp} {p c : Addr} {T : Nat} (hp : Pen H p c T) (x : Ext p H H') : ∀ {vs : List V} {ds : List PyData}, Paired (Th H) vs ds → Paired (Th H') vs ds
  | _, _, .nil => .nil
  | _, _, .cons a t => .cons (a.ext hp x) (ths_ext hp x t)
theorem Tg.ext {H H' : Hp} {p c : Addr} {T : Nat} {v : V} {d : PyData} (h : Tg H v d) (hp : Pen H p c T) (x : Ext p H H') : Tg H' v d := by
  have ne : ∀ {a o}, H a = some o → (∀ k, o ≠ .dK k) → H' a = some o := fun {a o} e n => x _ _ e fun z => by
    obtain ⟨t, l, hl⟩ := hp.is
    rw [z, hl] at e
    exact n _ (Option.some.inj e).symm
  cases h with
  | one th n => exact .one (th.ext hp x) n
  | lst e p => exact .lst (ne e fun _ z => nomatch z) (ths_ext hp x p)
  | tup e p => exact .tup (ne e fun _ z => nomatch z) (ths_ext hp x p)
end Vk
set_option Elab.async false
set_option maxRecDepth 100000
set_option linter.all false
set_option maxHeartbeats 4000000
namespace Vk
open PySem PySem.Spec PyProof.Rows L2
section
variable {P : Program} {w : World} {K : PySem.W.Frag} {mg : Str → Option Value} {base : Heap}
theorem find_two {x w : Str} : (∃ z : Int, Txt.find x w = z ∧ ∃ y : Int, Txt.find3 x w (z + 1) = y ∧ (decide (0 ≤ y) = decide (2 ≤ (plc x w).length))) := by
  have nd := plc_asc x w
  have mem : ∀ i, StrLaws.At x w x.length i ↔ i ∈ plc x w := fun i => by
    unfold plc
    rw [List.mem_filter, List.mem_range, atB_iff]
    exact ⟨fun h => ⟨by have := h.1; omega, h⟩, fun h => h.2⟩
  have ef : ∀ i : Nat, Txt.find3 x w ((i : Nat) : Int) = (match Builtin.Str.occurrences x w i x.length 1 with | i :: _ => (i : Int) | [] => -1) := fun i => by
    unfold Txt.find3
    rw [show fromIndex x.length ((i : Nat) : Int) = i by unfold fromIndex; rw [if_neg (by omega)]; omega]
    cases Builtin.Str.occurrences x w i x.length 1 <;> rfl
  have key : ∀ i : Nat, i ≤ x.length + 1 → (Txt.find3 x w ((i : Nat) : Int) = -1 ∧ ∀ k, i ≤ k → ¬ StrLaws.At x w x.length k) ∨ ∃ j : Nat, Txt.find3 x w ((i : Nat) : Int) = (j : Int) ∧ i ≤ j ∧ StrLaws.At x w x.length j ∧ ∀ k, i ≤ k → k < j → ¬ StrLaws.At x w x.length k := fun i hi => by
    rw [ef]
    exact find_from x w i hi
  have f0 : (Txt.find x w = -1 ∧ ∀ k, 0 ≤ k → ¬ StrLaws.At x w x.length k) ∨ ∃ j : Nat, Txt.find x w = (j : Int) ∧ 0 ≤ j ∧ StrLaws.At x w x.length j ∧ ∀ k, 0 ≤ k → k < j → ¬ StrLaws.At x w x.length k := find_from x w 0 (Nat.zero_le _)
  refine ⟨_, rfl, _, rfl, ?_⟩
  rcases f0 with ⟨h1, h2⟩ | ⟨i, h1, h2, h3, h4⟩
  · have en : plc x w = [] := List.eq_nil_iff_forall_not_mem.mpr fun k hk => h2 k (Nat.zero_le _) ((mem k).mpr hk)
    have k0 := key 0 (Nat.zero_le _)
    rw [h1, en]
    rcases k0 with ⟨g1, _⟩ | ⟨j, _, _, g3, _⟩
    · rw [show ((-1 : Int) + 1) = ((0 : Nat) : Int) by rfl, g1]
      decide
    · exact absurd g3 (h2 j (Nat.zero_le _))
  · have il : i ≤ x.length := by have := h3.1; omega
    have hi := (mem i).mp h3
    rw [h1, show ((i : Int) + 1) = ((i + 1 : Nat) : Int) by omega, decide_eq_decide, two_of nd hi]
    rcases key (i + 1) (by omega) with ⟨g1, g2⟩ | ⟨j, g1, g2, g3, g4⟩
    · rw [g1]
      constructor
      · intro h; omega
      · rintro ⟨k, hk, hne⟩
        have hk2 := (mem k).mpr hk
        by_cases lt : k < i
        · exact absurd hk2 (h4 k (Nat.zero_le _) lt)
        · exact absurd hk2 (g2 k (by omega))
    · rw [g1]
      exact ⟨fun _ => ⟨j, (mem j).mp g3, by omega⟩, fun _ => by omega⟩
def spTwice : Sp := fun vs H Q _ => ∃ x w, vs = [.str x, .str w] ∧ Q (.bl (decide (2 ≤ (plc x w).length))) H
abbrev s_stands_twice : Stmt := top 4
theorem sc_stands_twice : FnScope ["text", "word"] ["text", "word"] (defScope s_stands_twice) := ⟨rfl, rfl, rfl, by decide +kernel, rfl, by decide +kernel, by decide +kernel⟩
theorem b_stands_twice {f : Addr} {fd : FuncData} (F : Fun K "stands_twice" "stands_twice" s_stands_twice f fd) (T : Txt mg) : FnG P w K mg base CX0 1 f fd ["text", "word"] spTwice := by
  refine okG0 F sc_stands_twice (fun vs H Q E h => ?_) (fun cdv A outer s H vs Q E hg hr h => ?_)
  · obtain ⟨x, w, rfl, _⟩ := h
    rfl
  · have hu := hu_of hr
    have hu64 := hr.units
    obtain ⟨x, w, rfl, k⟩ := h
    refine ⟨_, (pss_one (ps_ret (pe_cmpR op_ge (pe_bm PySem.F.plainAttrs_str PySem.F.slot_str_find PySem.F.type_str_find mt_find3 (pv 0) (pa_cons (pv 1) (pa_cons (pe_op op_add (pe_bm PySem.F.plainAttrs_str PySem.F.slot_str_find PySem.F.type_str_find mt_find (pv 0) (pa_cons (pv 1) pa_nil)) pe_int) pa_nil))) pe_int (nomark _)))), ?_⟩
    obtain ⟨z, e1, y, e2, e3⟩ := @find_two x w
    refine ⟨_, rfl, rfl, _, rfl, _, rfl, rfl, _, rfl, x, w, rfl, rfl, ?_⟩
    rw [e1]
    refine ⟨_, _, rfl, rfl, x, w, _, rfl, rfl, ?_⟩
    rw [e2]
    refine ⟨_, _, rfl, rfl, ?_⟩
    show Q (V.bl (decide (0 ≤ y))) H
    rw [e3]
    exact k

/-- parts -/
def Rw3 (H : Hp) : List V → List (Nat × Nat × Str) → Prop := Paired (fun v (r : Nat × Nat × Str) => ∃ t, v = V.ref t ∧ H t = some (.tup [.int (r.1 : Nat), .int (r.2.1 : Nat), .str r.2.2]))
theorem Rw3.keep {H H1 : Hp} {xs : List V} {rs : List (Nat × Nat × Str)} (h : Rw3 H xs rs) (s : Same H H1) : Rw3 H1 xs rs := pair_mono (fun v p ⟨t, e, ht⟩ => ⟨t, e, s _ _ ht⟩) h
theorem Rw3.keepT {H H1 : Hp} {xs : List V} {rs : List (Nat × Nat × Str)} (h : Rw3 H xs rs) (s : ∀ u ws, H u = some (.tup ws) → H1 u = some (.tup ws)) : Rw3 H1 xs rs := pair_mono (fun v p ⟨t, e, ht⟩ => ⟨t, e, s _ _ ht⟩) h
def costE (e : Int) (r : Nat × Nat × Str) : Int := (r.2.1 : Int) - (r.1 : Int) + (r.2.2.length : Nat) + e
/-- what stands when the parts are put -/
def putH (x : Str) : Nat → List (Nat × Nat × Str) → Str → Str
  | p, [], acc => acc ++ cutS x (some (p : Int)) none
  | p, r :: rs, acc => putH x r.2.1 rs (acc ++ cutS x (some (p : Int)) (some (r.1 : Int)) ++ r.2.2)
end
end Vk
set_option Elab.async false
set_option maxRecDepth 100000
set_option linter.all false
set_option maxHeartbeats 4000000
namespace Vk
open PySem PySem.Spec PyProof.Rows L2
section
variable {P : Program} {w : World} {K : PySem.W.Frag} {mg : Str → Option Value} {base : Heap}
abbrev Ltr (x : Str) : Prop := ∀ c ∈ x.cps.toList, c ∈ letS.cps.toList
theorem lt_word {z x : Str} {a b : Nat} (fz : Few z) (w : Word z a b x) : Ltr x := fun c hc => fz.2.2 c (w.2.2 c hc)
theorem lt_one {z : Str} {c : Nat} (fz : Few z) (h : c ∈ z.cps.toList) : Ltr (⟨#[c]⟩ : Str) := fun d hd => by
  have e : d ∈ [c] := hd
  rw [List.mem_singleton.mp e]
  exact fz.2.2 c h
theorem cutS_lt {x : Str} (h : Ltr x) (a b : Option Int) : Ltr (cutS x a b) := fun c hc => by
  have hc2 : c ∈ (List.toArray ((x.cps.toList.drop (HT.sIx x.length 0 a)).take (HT.sIx x.length x.length b - HT.sIx x.length 0 a))).toList := hc
  rw [List.toList_toArray] at hc2
  exact h c (List.mem_of_mem_drop (List.mem_of_mem_take hc2))
theorem lt_more {z y : Str} (h1 : Ltr z) (h2 : Ltr y) : Ltr (z ++ y) := fun c hc => by
  rw [more_list] at hc
  rcases List.mem_append.mp hc with h | h
  · exact h1 c h
  · exact h2 c h
theorem lt_none : Ltr "" := by decide +kernel
abbrev s_ldraw : Stmt := top 16
theorem sc_ldraw : FnScope ["_law_pen_here", "_law_many", "_law_digit", "_law_turn", "_law_cell", "_law_primes", "_law_prime", "_law_drawn"] ["_law_pen_here", "_law_many"] (defScope s_ldraw) := ⟨rfl, rfl, rfl, by decide +kernel, rfl, by decide +kernel, by decide +kernel⟩
theorem b_ldraw {f : Addr} {fd : FuncData} (F : Fun K "_law_draw" "_law_draw" s_ldraw f fd) (T : Txt mg) : FnG P w K mg base CX0 1 f fd ["_law_pen_here", "_law_many"] spDraw := by
  refine okG0 F sc_ldraw (fun vs H Q E h => ?_) (fun cdv A outer s H vs Q E hg hr h => ?_)
  · obtain ⟨p, c, m, T0, rfl, _⟩ := h
    rfl
  · have hu := hu_of hr
    have hu64 := hr.units
    obtain ⟨p, c, m, T0, rfl, m0, m1, ⟨ns, t, l, hp, hc, hn, t0, tT, l0⟩, hT, k⟩ := h
    have ncp : c ≠ p := ne_of hc hp (by intro z; cases z)
    have lenns : (ns.map V.int).length = ns.length := List.length_map _
    refine ⟨_, (pss_cons (ps_if (pt_cmpR op_gt (pe_dget hu (pv 0) pe_str (fun _ _ => rfl)) pe_int (nomark _)) (pss_cons (ps_set (i := 2) sc_ldraw.nd rfl (Or.inl rfl) (pe_op op_mod (pe_callTy call_int1 (by rfl) T.int (by decide +kernel) (pa_cons (pe_dget hu (pv 0) pe_str (fun _ _ => rfl)) pa_nil)) (pv 1)))
      (pss_cons (ps_dput hu (pv 0) pe_str (pe_op op_fdiv (pe_dget hu (pv 0) pe_str (fun _ _ => rfl)) (pv 1)) rfl)
      (pss_one (ps_ret (pv 2))))) pss_nil)
      (pss_cons (ps_set (i := 3) sc_ldraw.nd rfl (Or.inl rfl) (pe_dget hu (pv 0) pe_str (fun _ _ => rfl)))
      (pss_cons (ps_dput hu (pv 0) pe_str (pe_op op_add (pv 3) pe_int) rfl)
      (pss_cons (ps_set (i := 4) sc_ldraw.nd rfl (Or.inl rfl) (pe_op op_add (pe_op op_mul pe_int (pv 3)) pe_int))
      (C8.pss_cut (ps_if (pt_cmpR (op_neD hu64) (pe_dget hu (pv 0) pe_str (fun _ _ => rfl)) (pe_lst pa_nil) (nomark _)) (pss_one (ps_set (i := 4) sc_ldraw.nd rfl (Or.inl rfl) (pe_ix ix_seq (pe_dget hu (pv 0) pe_str (fun _ _ => rfl)) (pe_op op_mod (pe_callTy call_int1 (by rfl) T.int (by decide +kernel) (pa_cons (pv 3) pa_nil)) (pe_callB call_len (by rfl) T.len (by decide +kernel) (pa_cons (pe_dget hu (pv 0) pe_str (fun _ _ => rfl)) pa_nil))) (fun _ _ => rfl)))) pss_nil)
      (C8.pss_cut (ps_if (PW.pt (pw_and (pt_cmpR op_lt (pv 3) (pe_callB call_len (by rfl) T.len (by decide +kernel) (pa_cons (pe_dget hu (pv 0) pe_str (fun _ _ => rfl)) pa_nil)) (nomark _)) (pw_and1 (pt_cmpR op_ge (pe_callB call_abs (by rfl) T.abs (by decide +kernel) (pa_cons (pv 4) pa_nil)) (pe_op op_pow pe_int pe_int) (nomark _))))) (pss_cons (ps_dput hu (pv 0) pe_str (pe_op op_fdiv (pe_op op_sub (pe_callB call_abs (by rfl) T.abs (by decide +kernel) (pa_cons (pv 4) pa_nil)) (pe_op op_pow pe_int pe_int)) (pv 1)) rfl)
      (pss_one (ps_ret (pe_op op_mod (pe_op op_sub (pe_callB call_abs (by rfl) T.abs (by decide +kernel) (pa_cons (pv 4) pa_nil)) (pe_op op_pow pe_int pe_int)) (pv 1))))) pss_nil)
      (pss_cons (ps_set (i := 5) sc_ldraw.nd rfl (Or.inl rfl) (pe_lst (pa_cons pe_int (pa_cons pe_int (pa_cons pe_int (pa_cons pe_int (pa_cons pe_int pa_nil)))))))
      (pss_cons (ps_set (i := 6) sc_ldraw.nd rfl (Or.inl rfl) (pe_ix ix_seq (pv 5) (pe_op op_mod (pe_callTy call_int1 (by rfl) T.int (by decide +kernel) (pa_cons (pv 3) pa_nil)) pe_int) (fun _ _ => rfl)))
      (pss_cons (ps_set (i := 7) sc_ldraw.nd rfl (Or.inl rfl) (pe_op op_mod (pe_callTy call_int1 (by rfl) T.int (by decide +kernel) (pa_cons (pe_op op_add (pe_op op_add (pe_op op_mul (pe_op op_mod (pe_callTy call_int1 (by rfl) T.int (by decide +kernel) (pa_cons (pv 4) pa_nil)) (pv 6)) pe_int) (pe_op op_mul (pv 3) (pe_op op_add (pe_op op_mul pe_int (pv 3)) pe_int))) pe_int) pa_nil)) (pv 6)))
      (pss_cons (ps_set (i := 7) sc_ldraw.nd rfl (Or.inl rfl) (pe_op op_mod (pe_callTy call_int1 (by rfl) T.int (by decide +kernel) (pa_cons (pe_op op_mul (pv 7) (pe_op op_add (pv 7) pe_int)) pa_nil)) (pe_ix ix_seq (pv 5) (pe_op op_mod (pe_callTy call_int1 (by rfl) T.int (by decide +kernel) (pa_cons (pe_op op_add (pv 3) pe_int) pa_nil)) pe_int) (fun _ _ => rfl))))
      (pss_one (ps_ret (pe_op op_mod (pe_callTy call_int1 (by rfl) T.int (by decide +kernel) (pa_cons (pe_op op_fdiv (pe_op op_mod (pe_callTy call_int1 (by rfl) T.int (by decide +kernel) (pa_cons (pe_op op_add (pe_op op_add (pe_op op_mul (pv 7) (pv 7)) (pe_op op_mul pe_int (pv 7))) (pv 3)) pa_nil)) pe_int) pe_int) pa_nil)) (pv 1)))))))))))))), ?_⟩
    refine ⟨_, rfl, p, _, rfl, get_left hp, _, _, rfl, rfl, _, rfl, ?_⟩
    refine ite2 (fun hl => ?_) (fun hl => ?_)
    · refine ⟨_, rfl, p, _, rfl, get_left hp, .inl ⟨_, rfl, ?_⟩⟩
      refine ⟨_, rfl, _, _, rfl, rfl, m0, ?_⟩
      refine ⟨_, rfl, p, _, rfl, get_left hp, _, rfl, _, _, rfl, rfl, ⟨by omega, by omega⟩, ?_⟩
      refine ⟨_, rfl, p, _, rfl, put_left hp, _, rfl, ?_⟩
      refine k _ _ (Int.emod_nonneg _ (by omega)) (Int.emod_lt_of_pos _ m0) ⟨ns, t, _, upd_same, (upd_ne ncp).trans hc, hn, t0, by omega, Int.ediv_nonneg l0 (by omega)⟩ Ext.at
    · refine ⟨_, rfl, p, _, rfl, get_turn hp, ?_⟩
      refine ⟨_, rfl, _, _, rfl, rfl, _, rfl, p, _, rfl, put_turn hp, ?_⟩
      generalize hH1 : upd H p (.dK (penL c (t + 1) l)) = H1
      have hp1 : H1 p = some (.dK (penL c (t + 1) l)) := by rw [← hH1]; exact upd_same
      have hc1 : H1 c = some (.lst (ns.map V.int)) := by rw [← hH1]; exact (upd_ne ncp).trans hc
      have e1 : Ext p H H1 := by rw [← hH1]; exact Ext.at
      refine ⟨_, rfl, _, _, rfl, rfl, .inl ⟨by decide, by decide⟩, _, _, rfl, rfl, ?_⟩
      refine ⟨fun σ' H2 => ∃ z : Int, σ' = [some (.ref p), some (.int m), none, some (.int t), some (.int z), none, none, none] ∧ H2 p = some (.dK (penL c (t + 1) l)) ∧ H2 c = some (.lst (ns.map V.int)) ∧ Ext p H H2, ?_, ?_⟩
      · refine ⟨_, rfl, p, _, rfl, get_cells hp1, by decide, fun b hb => ?_⟩
        have hp2 := up_new (u := .lst []) hp1 hb
        have hc2 := up_new (u := .lst []) hc1 hb
        refine ⟨.list (ns.map .int), .list [], .lst (SqL.of hc2) (ints_dp ns), .lst (SqL.of upd_same) .nil, ints_shaped ns, by decide +kernel, _, rfl, ?_⟩
        rw [ints_ne_nil]
        refine ite2 (fun hne => ?_) (fun _ => ?_)
        · have hpos : 0 < ns.length := by
            cases ns with
            | nil => simp at hne
            | cons a r => exact Nat.succ_pos _
          refine ⟨_, rfl, p, _, rfl, get_cells hp2, _, rfl, .inl ⟨_, rfl, _, rfl, p, _, rfl, get_cells hp2, _, _, rfl, .inl ⟨_, SqL.of hc2, rfl⟩, _, _, rfl, rfl, ?_, ?_⟩⟩
          · rw [lenns]; omega
          · obtain ⟨v, hv, hm⟩ := at_mod (xs := ns.map V.int) (i := t % ((ns.map V.int).length : Int)) (Int.emod_nonneg _ (by rw [lenns]; omega)) (Int.emod_lt_of_pos _ (by rw [lenns]; omega))
            obtain ⟨z, _, rfl⟩ := List.mem_map.mp hm
            refine .inl ⟨_, _, _, _, rfl, rfl, SqL.of hc2, hv, z, rfl, hp2, hc2, e1.set (e1.none_of ?_ hb)⟩
            exact (ne_of_none hp1 hb).symm
        · exact ⟨_, rfl, hp2, hc2, e1.set (e1.none_of (ne_of_none hp1 hb).symm hb)⟩
      · rintro σ2 H2 ⟨z, rfl, hp2, hc2, e2⟩
        refine ⟨fun σ' H3 => σ' = [some (.ref p), some (.int m), none, some (.int t), some (.int z), none, none, none] ∧ H3 = H2, ?_, ?_⟩
        · refine ⟨_, rfl, _, rfl, p, _, rfl, get_cells hp2, _, _, rfl, .inl ⟨_, SqL.of hc2, rfl⟩, _, _, rfl, rfl, _, rfl, ?_⟩
          refine ite2 (fun _ => ?_) (fun _ => ?_)
          · refine ⟨_, rfl, _, rfl, _, _, rfl, rfl, ⟨by decide, by decide, by decide⟩, _, _, rfl, rfl, _, rfl, ?_⟩
            refine ite2 (fun hbig => ?_) (fun _ => ?_)
            · have big := of_decide_eq_true hbig
              refine ⟨_, rfl, _, rfl, _, _, rfl, rfl, ⟨by decide, by decide, by decide⟩, _, _, rfl, rfl, _, rfl, _, _, rfl, rfl, ⟨by omega, by omega⟩, ?_⟩
              refine ⟨_, rfl, p, _, rfl, put_left hp2, ?_⟩
              refine ⟨_, rfl, _, rfl, _, _, rfl, rfl, ⟨by decide, by decide, by decide⟩, _, _, rfl, rfl, _, rfl, _, _, rfl, rfl, m0, ?_⟩
              refine k _ _ (Int.emod_nonneg _ (by omega)) (Int.emod_lt_of_pos _ m0) ⟨ns, t + 1, _, upd_same, (upd_ne ncp).trans hc2, hn, by omega, by omega, Int.ediv_nonneg (by omega) (by omega)⟩ (e2.trans Ext.at)
            · exact ⟨rfl, rfl⟩
          · exact ⟨rfl, rfl⟩
        · rintro σ3 H3 ⟨rfl, rfl⟩
          refine ⟨by decide, fun q hq => ?_⟩
          have hp3 := up_new (u := .lst (primes.map V.int)) hp2 hq
          have hc3 := up_new (u := .lst (primes.map V.int)) hc2 hq
          have e3 : Ext p H (upd H3 q (.lst (primes.map V.int))) := e2.set (e2.none_of (ne_of_none hp2 hq).symm hq)
          have hq3 : (upd H3 q (.lst (primes.map V.int))) q = some (.lst (primes.map V.int)) := upd_same
          have pick : ∀ i : Int, 0 ≤ i → i < 5 → ∃ z : Int, atI (primes.map V.int) i = some (.int z) ∧ 0 < z ∧ z < 2147483648 := fun i h0 h5 => by
            obtain ⟨v, hv, hm⟩ := at_mod (xs := primes.map V.int) h0 h5
            obtain ⟨z, rfl, hz⟩ := primes_in hm
            exact ⟨z, hv, hz⟩
          obtain ⟨a1, ha1, a1p, a1b⟩ := pick (t % 5) (Int.emod_nonneg _ (by decide)) (Int.emod_lt_of_pos _ (by decide))
          obtain ⟨a2, ha2, a2p, a2b⟩ := pick ((t + 2) % 5) (Int.emod_nonneg _ (by decide)) (Int.emod_lt_of_pos _ (by decide))
          refine ⟨_, rfl, _, rfl, .inl ⟨_, rfl, _, _, rfl, rfl, (by show (0 : Int) < 5; decide), .inl ⟨_, _, _, _, rfl, rfl, SqL.of hq3, ha1, ?_⟩⟩⟩
          have b1 := Int.emod_nonneg z (show a1 ≠ 0 by omega)
          have b2 := Int.emod_lt_of_pos z a1p
          refine ⟨_, rfl, .inl ⟨_, rfl, _, rfl, _, _, rfl, rfl, a1p, _, _, rfl, rfl, .inr ⟨by decide, by decide⟩, ?_⟩⟩
          refine ⟨_, rfl, _, rfl, _, _, rfl, rfl, .inl ⟨by decide, by decide⟩, _, _, rfl, rfl, _, _, rfl, rfl, .inl ⟨by omega, by omega⟩, _, _, rfl, rfl, _, _, rfl, rfl, .inl ⟨_, rfl, _, rfl, _, _, rfl, rfl, a1p, ?_⟩⟩
          have d1 := Int.emod_nonneg (z % a1 * 39373 + t * (30011 * t + 8117) + 23) (show a1 ≠ 0 by omega)
          have d2 := Int.emod_lt_of_pos (z % a1 * 39373 + t * (30011 * t + 8117) + 23) a1p
          refine ⟨_, rfl, _, rfl, _, _, rfl, rfl, _, _, rfl, rfl, .inl ⟨by omega, by omega⟩, .inl ⟨_, rfl, _, rfl, _, rfl, _, _, rfl, rfl, .inl ⟨_, rfl, _, _, rfl, rfl, (by show (0 : Int) < 5; decide), .inl ⟨_, _, _, _, rfl, rfl, SqL.of hq3, ha2, _, _, rfl, rfl, a2p, ?_⟩⟩⟩⟩
          have f1 := Int.emod_nonneg (((z % a1 * 39373 + t * (30011 * t + 8117) + 23) % a1) * (((z % a1 * 39373 + t * (30011 * t + 8117) + 23) % a1) + 69621)) (show a2 ≠ 0 by omega)
          have f2 := Int.emod_lt_of_pos (((z % a1 * 39373 + t * (30011 * t + 8117) + 23) % a1) * (((z % a1 * 39373 + t * (30011 * t + 8117) + 23) % a1) + 69621)) a2p
          refine ⟨_, rfl, _, rfl, _, _, rfl, rfl, .inl ⟨by omega, by omega⟩, _, rfl, _, _, rfl, rfl, .inl ⟨by decide, by decide⟩, _, _, rfl, rfl, _, rfl, _, _, rfl, rfl, .inl ⟨_, rfl, _, _, rfl, rfl, (by show (0 : Int) < 2147483549; decide), _, _, rfl, rfl, ⟨by decide, by decide⟩, .inl ⟨_, rfl, _, rfl, _, _, rfl, rfl, m0, ?_⟩⟩⟩
          exact k _ _ (Int.emod_nonneg _ (by omega)) (Int.emod_lt_of_pos _ m0) ⟨ns, t + 1, l, hp3, hc3, hn, by omega, by omega, l0⟩ e3

abbrev s_lpen : Stmt := top 15
theorem sc_lpen : FnScope ["_law_script"] ["_law_script"] (defScope s_lpen) := ⟨rfl, rfl, rfl, by decide +kernel, rfl, by decide +kernel, by decide +kernel⟩
theorem b_lpen {f : Addr} {fd : FuncData} (F : Fun K "_law_pen" "_law_pen" s_lpen f fd) (T : Txt mg) : FnG P w K mg base CX0 1 f fd ["_law_script"] (spPen K) := by
  refine okG0 F sc_lpen (fun vs H Q E h => ?_) (fun cdv A outer s H vs Q E hg hr h => ?_)
  · obtain ⟨a, ns, rfl, _⟩ := h
    rfl
  · have hu := hu_of hr
    have hu64 := hr.units
    obtain ⟨a, ns, rfl, hs, k⟩ := h
    refine ⟨_, (pss_one (ps_ret (pe_disp (pps_cons pe_str (pe_callTy call_list_of (by rfl) T.list (by decide +kernel) (pa_cons (pe_slice sl_list (pv 0) po_none (po_some pe_int)) pa_nil)) (pps_cons pe_str pe_int (pps_cons pe_str pe_int pps_nil))) (by rfl) (by rfl) (fun z => by cases z) (by decide)))), ?_⟩
    intro p hp
    obtain ⟨ms, hms, hml⟩ := cut63 ns
    refine ⟨_, rfl, 63, rfl, a, _, rfl, (same_new hp).seq hs, fun q hq => ?_⟩
    refine ⟨q, _, rfl, .inl (SqL.of upd_same), fun c hc => ?_⟩
    rw [hms] at hc ⊢
    have nqp : p ≠ q := fun e => by rw [← e, upd_same] at hq; cases hq
    have ncp : p ≠ c := fun e => by rw [← e, upd_ne nqp, upd_same] at hc; cases hc
    have hp2 : (upd (upd (upd H p (.dK [])) q (.lst (ms.map V.int))) c (.lst (ms.map V.int))) p = some (.dK []) := by rw [upd_ne ncp, upd_ne nqp, upd_same]
    refine ⟨hp2, penL c 0 0, rfl, (by show 3 ≤ 15; decide), ?_⟩
    rw [pen_made]
    refine k p c _ hp ⟨ms, 0, 0, upd_same, by rw [upd_ne ncp.symm, upd_same], hml, Int.le_refl _, Int.le_refl _, Int.le_refl _⟩ fun b o e => ?_
    rw [upd_ne (ne_of_none e hp), upd_ne ?_, upd_ne ?_, upd_ne (ne_of_none e hp)]
    · exact e
    · rintro rfl
      rw [upd_ne (ne_of_none e hp)] at hq
      rw [hq] at e
      cases e
    · rintro rfl
      by_cases ebq : b = q
      · subst ebq
        rw [upd_ne nqp.symm] at hq
        rw [hq] at e
        cases e
      · rw [upd_ne ebq, upd_ne (ne_of_none e hp)] at hc
        rw [hc] at e
        cases e

abbrev s_lpick : Stmt := top 17
theorem sc_lpick : FnScope ["_law_pen_here", "_law_options"] ["_law_pen_here", "_law_options"] (defScope s_lpick) := ⟨rfl, rfl, rfl, by decide +kernel, rfl, by decide +kernel, by decide +kernel⟩
theorem b_lpick {f : Addr} {fd : FuncData} (F : Fun K "_law_pick" "_law_pick" s_lpick f fd) (T : Txt mg) (c_ldraw : CalG P w K mg base CX0 1 "_law_draw" spDraw) : FnG P w K mg base CX0 2 f fd ["_law_pen_here", "_law_options"] (spPick K) := by
  refine okG0 F sc_lpick (fun vs H Q E h => ?_) (fun cdv A outer s H vs Q E hg hr h => ?_)
  · obtain ⟨p, c, o, xs, T0, rfl, _⟩ := h
    rfl
  · have hu := hu_of hr
    have hu64 := hr.units
    obtain ⟨p, c, o, xs, T0, rfl, ho, hne, hlen, hpen, hT, k⟩ := h
    have hpos : 0 < xs.length := List.length_pos_iff.mpr hne
    have hr1 : Room 1 _ := hr
    refine ⟨_, (pss_one (ps_ret (pe_ix ix_seq (pv 1) (pe_cG c_ldraw hg hr (by decide) pass0 (pa_cons (pv 0) (pa_cons (pe_callB call_len (by rfl) T.len (by decide +kernel) (pa_cons (pv 1) pa_nil)) pa_nil))) (fun _ _ => rfl)))), ?_⟩

    cases ho with
    | str z hz =>
      have e := one_len z
      have hz24 : z.length ≤ sizeLine := Nat.le_trans hz (by decide)
      refine ⟨_, rfl, _, rfl, _, rfl, _, _, rfl, ⟨hz24, rfl⟩, p, c, _, T0, rfl, by omega, by omega, hpen, hT, fun d H' d0 d1 hpen' x => ?_⟩
      obtain ⟨e1, hc, hm⟩ := at_mod (xs := z.cps.toList) d0 (by rw [show (z.cps.toList.length : Int) = (z.length : Int) from congrArg Nat.cast Array.length_toList]; exact d1)
      exact .inr (.inr ⟨z, d, e1, rfl, rfl, hz24, hc, k _ _ (List.mem_map_of_mem (f := OneS) hm) hpen' x⟩)
    | lst hs =>
      refine ⟨_, rfl, _, rfl, _, rfl, _, _, rfl, .inl ⟨_, hs, rfl⟩, p, c, _, T0, rfl, by omega, by omega, hpen, hT, fun d H' d0 d1 hpen' x => ?_⟩
      obtain ⟨v, hv, hm⟩ := at_mod d0 d1
      exact .inl ⟨_, xs, d, v, rfl, rfl, hpen.keepL x hs, hv, k _ _ hm hpen' x⟩
    | tup hs =>
      refine ⟨_, rfl, _, rfl, _, rfl, _, _, rfl, .inr ⟨_, hs, rfl⟩, p, c, _, T0, rfl, by omega, by omega, hpen, hT, fun d H' d0 d1 hpen' x => ?_⟩
      obtain ⟨v, hv, hm⟩ := at_mod d0 d1
      exact .inr (.inl ⟨_, xs, d, v, rfl, rfl, hpen.keepT x hs, hv, k _ _ hm hpen' x⟩)

abbrev s_lfew : Stmt := top 19
theorem sc_lfew : FnScope ["_law_pen_here", "_law_some", "_law_rare", "_law_k"] ["_law_pen_here"] (defScope s_lfew) := ⟨rfl, rfl, rfl, by decide +kernel, rfl, by decide +kernel, by decide +kernel⟩
theorem b_lfew {f : Addr} {fd : FuncData} (F : Fun K "_law_few" "_law_few" s_lfew f fd) (T : Txt mg) (c_lpick : CalG P w K mg base CX0 2 "_law_pick" (spPick K)) (t_signs : FnT P w K mg base 1 "_law_signs" letS) : FnG P w K mg base CX0 3 f fd ["_law_pen_here"] spFew := by
  refine okG0 F sc_lfew (fun vs H Q E h => ?_) (fun cdv A outer s H vs Q E hg hr h => ?_)
  · obtain ⟨p, pc, T0, rfl, _⟩ := h
    rfl
  · have hu := hu_of hr
    have hu64 := hr.units
    obtain ⟨p, pc, T0, rfl, hpen, hT, k⟩ := h
    have hr2 : Room 2 _ := hr
    refine ⟨_, (pss_cons (ps_set (i := 1) sc_lfew.nd rfl (Or.inr rfl) (pe_lst (pa_cons (pe_cG c_lpick hg hr (by decide) pass0 (pa_cons (pv 0) (pa_cons (pe_replT t_signs hr (by decide) (by decide +kernel) (by decide +kernel)) pa_nil))) (pa_cons (pe_cG c_lpick hg hr (by decide) pass0 (pa_cons (pv 0) (pa_cons pe_str pa_nil))) (pa_cons (pe_cG c_lpick hg hr (by decide) pass0 (pa_cons (pv 0) (pa_cons pe_str pa_nil))) pa_nil)))))
      (pss_cons (ps_set (i := 2) sc_lfew.nd rfl (Or.inl rfl) (pe_join pe_str (pe_lc (own := [("_law_k", 3)]) (g := gName 3) rfl sc_lfew.nd (pi_range1 rfl T.range (pa_cons pe_int pa_nil)) (blkOk_by (own := [("_law_k", 3)]) (N := ["_law_pen_here", "_law_some", "_law_rare", "_law_k"]) (sc := defScope s_lfew) (by decide +kernel)) (fun _ _ _ _ _ => (pg_name (i := 3) sc_lfew.nd rfl (Or.inl rfl))) (fun _ _ _ _ _ => (pts_one (pt_cmpR (op_notIn_seqK (K := K) rfl) (pe_ix (ix_seqK (K := K) rfl) (pv 1) (pv 3) (fun _ _ => rfl)) (pe_slice (sl_listK (K := K) rfl) (pv 1) po_none (po_some (pv 3))) (by rfl)))) (fun _ _ _ _ _ => (pe_ix (ix_seqK (K := K) rfl) (pv 1) (pv 3) (fun _ _ => rfl))))))
      (pss_one (ps_ret (pe_cG c_lpick hg hr (by decide) pass0 (pa_cons (pv 0) (pa_cons (pe_lst (pa_cons pe_str (pa_cons pe_str (pa_cons pe_str (pa_cons pe_str (pa_cons pe_str (pa_cons pe_str (pa_cons pe_str (pa_cons pe_str (pa_cons pe_str (pa_cons (pv 2) pa_nil))))))))))) pa_nil))))))), ?_⟩
    refine ⟨_, rfl, p, pc, _, _, T0, rfl, .str _ (by rw [noq_len]; decide), opts_ne (by rw [noq_len]; decide), opts_le (by rw [noq_len]; decide), hpen, by omega, fun v1 H1 m1 P1 x1 => ?_⟩
    obtain ⟨c1, rfl, k1⟩ := ones_of m1
    refine ⟨_, rfl, p, pc, _, _, T0 + 1, rfl, .str _ (by decide), opts_ne (by decide), opts_le (by decide), P1, by omega, fun v2 H2 m2 P2 x2 => ?_⟩
    obtain ⟨c2, rfl, k2⟩ := ones_of m2
    refine ⟨_, rfl, p, pc, _, _, T0 + 2, rfl, .str _ (by decide), opts_ne (by decide), opts_le (by decide), P2, by omega, fun v3 H3 m3 P3 x3 => ?_⟩
    obtain ⟨c3, rfl, k3⟩ := ones_of m3
    refine ⟨by show 3 ≤ sizeLine; decide, fun a ha => ?_⟩
    have hin : ∀ c ∈ [c1, c2, c3], c ∈ letS.cps.toList := by
      intro c hc
      simp only [List.mem_cons, List.not_mem_nil, or_false] at hc
      rcases hc with rfl | rfl | rfl
      · exact noq_in k1
      · exact (by decide +kernel : ∀ c ∈ (Str.ofString "yz").cps.toList, c ∈ letS.cps.toList) _ k2
      · exact (by decide +kernel : ∀ c ∈ (Str.ofString "(\n").cps.toList, c ∈ letS.cps.toList) _ k3
    have P4 := P3.new (o := .lst ([c1, c2, c3].map OneS)) ha
    have x4 : Ext p H (upd H3 a (.lst ([c1, c2, c3].map OneS))) := (x1.trans (x2.trans x3)).trans (Ext.new ha)
    have ha4 : (upd H3 a (.lst ([c1, c2, c3].map OneS))) a = some (.lst ([c1, c2, c3].map OneS)) := upd_same
    generalize hxs : ([c1, c2, c3].map OneS : List V) = xs at ha4 P4 x4
    have hxl : xs.length = 3 := by rw [← hxs]; rfl
    have hxf : xs.all flatV = true := by rw [← hxs]; exact ones_flat _
    have hxm : ∀ v ∈ xs, ∃ c, v = OneS c ∧ c ∈ [c1, c2, c3] := by rw [← hxs]; exact fun v hv => one_mem hv
    have ha5 : (upd H3 a (.lst ([c1, c2, c3].map OneS))) = upd H3 a (.lst xs) := by rw [hxs]
    generalize hH4 : upd H3 a (.lst xs) = H4 at ha4 P4 x4 ha5
    refine ⟨⟨_, rfl⟩, ?_⟩
    show (iRng1 (tCons (tC (V.int 3)) tNil)) _ (upd H3 a (.lst ([c1, c2, c3].map OneS))) _
    rw [ha5]
    refine ⟨3, rfl, by decide, by decide, fun D hD => lc_range (lo := 0) (n := 3) (fun i H' => ∃ cs : List Nat, H' D = some (.lst (cs.map OneS)) ∧ cs.length ≤ i ∧ (1 ≤ i → 1 ≤ cs.length) ∧ (∀ c ∈ cs, c ∈ letS.cps.toList) ∧ Same H4 H') ?_ ?_ ?_⟩
    · exact ⟨[], upd_same, Nat.le_refl _, fun h => by omega, fun c hc => absurd hc List.not_mem_nil, same_new hD⟩
    · rintro i H5 hi ⟨cs, hDc, hcl, hc1, hcm, sm⟩
      obtain ⟨v, hv, hvm⟩ := at_mod (xs := xs) (i := 0 + (i : Int)) (by omega) (by rw [hxl]; omega)
      obtain ⟨c, rfl, hcc⟩ := hxm v hvm
      have sa : SqL K H5 a xs := sm.seq (SqL.of ha4)
      refine ⟨rfl, _, rfl, _, rfl, .inl ⟨a, xs, _, _, rfl, rfl, sa, hv, _, rfl, _, rfl, _, rfl, a, xs, rfl, sa, fun q hq => ⟨q, _, rfl, .inl (SqL.of upd_same), rfl, cutV_all hxf, _, rfl, ?_⟩⟩⟩
      have sq : Same H4 (upd H5 q (.lst (cutV xs none (some (0 + (i : Int)))))) := sm.trans (same_new hq)
      have dq := up_new (u := .lst (cutV xs none (some (0 + (i : Int))))) hDc hq
      refine ite2 (fun hb => ?_) (fun hb => ?_)
      · refine ⟨_, rfl, _, rfl, .inl ⟨a, xs, _, _, rfl, rfl, sq.seq (SqL.of ha4), hv, _, dq, by rw [List.length_map]; exact Nat.lt_of_le_of_lt hcl (Nat.lt_trans hi (by decide)), cs ++ [c], ?_, ?_, fun _ => ?_, ?_, ?_⟩⟩
        · rw [upd_same, List.map_append]
          rfl
        · rw [List.length_append]; exact Nat.add_le_add_right hcl 1
        · rw [List.length_append]; exact Nat.le_add_left _ _
        · intro d hd
          rcases List.mem_append.mp hd with hd | hd
          · exact hcm d hd
          · rw [List.mem_singleton.mp hd]
            exact hin c hcc
        · intro b o e
          by_cases hbD : b = D
          · rw [hbD, hD] at e
            cases e
          · exact (upd_ne hbD).trans (sq b o e)
      · refine ⟨cs, dq, Nat.le_succ_of_le hcl, fun _ => ?_, hcm, sq⟩
        by_cases h0 : i = 0
        · subst h0
          refine absurd ?_ hb
          show (if true = true then !inV (OneS c) (cutV xs none (some (0 + ((0 : Nat) : Int)))) else inV (OneS c) (cutV xs none (some (0 + ((0 : Nat) : Int))))) = true
          rw [show (0 : Int) + ((0 : Nat) : Int) = 0 from rfl, cutV_zero]
          rfl
        · exact hc1 (by omega)
    · rintro H5 ⟨cs, hDc, hcl, hc1, hcm, sm⟩
      refine ⟨_, D, cs.map fun c => ⟨#[c]⟩, rfl, rfl, .inl (SqL.of (by rw [ones_map]; exact hDc)), ?_, ?_⟩
      · rw [ones_len]
        show cs.length + _ * 0 ≤ _
        omega
      · rw [join_ones]
        have fz : Few ⟨cs.toArray⟩ := few_ones (hc1 (by decide)) hcl hcm
        have x5 : Ext p H H5 := x4.trans (Ext.same sm)
        have P5 := P4.stay sm
        refine ⟨_, rfl, _, rfl, by show 10 ≤ sizeLine; decide, fun q hq => ?_⟩
        refine ⟨p, pc, _, _, T0 + 3, rfl, .lst (SqL.of upd_same), by simp, by show 10 ≤ 1000; decide, P5.new hq, by omega, fun v H6 hm P6 x6 => ?_⟩
        have fin : ∃ z, v = .str z ∧ Few z := by
          simp only [List.mem_cons, List.not_mem_nil, or_false] at hm
          rcases hm with rfl | rfl | rfl | rfl | rfl | rfl | rfl | rfl | rfl | rfl
          all_goals first
            | exact ⟨_, rfl, fz⟩
            | exact ⟨_, rfl, few_of (by decide +kernel)⟩
        obtain ⟨z, rfl, hz⟩ := fin
        exact k z H6 hz P6 (x5.trans ((Ext.new hq).trans x6))

abbrev s_lword : Stmt := top 20
theorem sc_lword : FnScope ["_law_pen_here", "_law_signs_here", "_law_least", "_law_most_letters", "_law_many", "_law_k"] ["_law_pen_here", "_law_signs_here", "_law_least", "_law_most_letters"] (defScope s_lword) := ⟨rfl, rfl, rfl, by decide +kernel, rfl, by decide +kernel, by decide +kernel⟩
theorem b_lword {f : Addr} {fd : FuncData} (F : Fun K "_law_word" "_law_word" s_lword f fd) (T : Txt mg) (c_ldraw : CalG P w K mg base CX0 1 "_law_draw" spDraw) (c_lpick : CalG P w K mg base CX0 2 "_law_pick" (spPick K)) : FnG P w K mg base CX0 3 f fd ["_law_pen_here", "_law_signs_here", "_law_least", "_law_most_letters"] spWord := by
  refine okG0 F sc_lword (fun vs H Q E h => ?_) (fun cdv A outer s H vs Q E hg hr h => ?_)
  · obtain ⟨p, pc, z, a, b, T0, rfl, _⟩ := h
    rfl
  · have hu := hu_of hr
    have hu64 := hr.units
    obtain ⟨p, pc, z, a, b, T0, rfl, hab, hb, hz1, hz, hpen, hT, k⟩ := h
    have hr2 : Room 2 _ := hr
    refine ⟨_, (pss_cons (ps_set (i := 4) sc_lword.nd rfl (Or.inl rfl) (pe_op op_add (pv 2) (pe_cG c_ldraw hg hr (by decide) pass0 (pa_cons (pv 0) (pa_cons (pe_op op_add (pe_op op_sub (pv 3) (pv 2)) pe_int) pa_nil)))))
      (pss_one (ps_ret (pe_join pe_str (pe_lc (own := [("_law_k", 5)]) (g := gName 5) (tt := tYes) rfl sc_lword.nd (pi_range1 rfl T.range (pa_cons (pv 4) pa_nil)) (blkOk_by (own := [("_law_k", 5)]) (N := ["_law_pen_here", "_law_signs_here", "_law_least", "_law_most_letters", "_law_many", "_law_k"]) (sc := defScope s_lword) (by decide +kernel)) (fun _ _ _ _ _ => (pg_name (i := 5) sc_lword.nd rfl (Or.inl rfl))) (fun _ _ _ _ _ => pts_nil) (fun _ _ _ _ _ => (pe_cG c_lpick hg hr (by decide) pass0 (pa_cons (pv 0) (pa_cons (pv 1) pa_nil))))))))), ?_⟩
    refine ⟨_, rfl, _, rfl, _, rfl, _, rfl, _, _, rfl, rfl, _, _, rfl, rfl, p, pc, _, T0, rfl, by omega, by omega, hpen, by omega, fun d H1 d0 d1 P1 x1 => ?_⟩
    refine ⟨_, _, rfl, rfl, ⟨_, rfl⟩, ?_⟩
    obtain ⟨n, rfl⟩ : ∃ n : Nat, d = (n : Int) := ⟨d.toNat, by omega⟩
    refine ⟨_, rfl, _, rfl, by omega, by omega, fun D hD => ?_⟩
    have en : ((a : Int) + (n : Int)).toNat = a + n := by omega
    have hn : a + n ≤ b := by omega
    obtain ⟨nDp, nDc⟩ := P1.apart hD
    refine lc_range (lo := 0) (n := ((a : Int) + (n : Int)).toNat) (fun i H' => ∃ cs : List Nat, H' D = some (.lst (cs.map OneS)) ∧ cs.length = i ∧ (∀ c ∈ cs, c ∈ z.cps.toList) ∧ Pen H' p pc (T0 + 1 + i) ∧ Ext p H H') ?_ ?_ ?_
    · refine ⟨[], upd_same, rfl, fun c hc => absurd hc List.not_mem_nil, P1.new hD, x1.trans (Ext.new hD)⟩
    · rintro i H2 hi ⟨cs, hDc, hcl, hcm, P2, x2⟩
      rw [en] at hi
      refine ⟨rfl, _, rfl, _, rfl, p, pc, _, _, T0 + 1 + i, rfl, .str z hz, opts_ne hz1, opts_le hz, P2, by omega, fun v H3 hm P3 x3 => ?_⟩
      obtain ⟨c, rfl, hc⟩ := ones_of hm
      have d3 := P2.keepI x3 hDc
      refine ⟨_, d3, by rw [List.length_map, hcl]; exact Nat.lt_of_lt_of_le hi (Nat.le_trans hn (Nat.le_trans hb (by decide))), cs ++ [c], ?_, by rw [List.length_append, hcl]; rfl, ?_, ?_, ?_⟩
      · rw [upd_same, List.map_append]
        rfl
      · intro e he
        rcases List.mem_append.mp he with he | he
        · exact hcm e he
        · rw [List.mem_singleton.mp he]
          exact hc
      · exact P3.set nDp nDc
      · exact fun b o e hb => by
          rw [upd_ne (fun q => by rw [q, x1.none_of nDp hD] at e; cases e)]
          exact x3 b o (x2 b o e hb) hb
    · rintro H2 ⟨cs, hDc, hcl, hcm, P2, x2⟩
      refine ⟨_, D, cs.map fun c => ⟨#[c]⟩, rfl, rfl, .inl (SqL.of (by rw [ones_map]; exact hDc)), ?_, ?_⟩
      · rw [ones_len]
        show cs.length + _ * 0 ≤ _
        omega
      · rw [join_ones]
        rw [en] at hcl P2
        exact k _ H2 ⟨by show a ≤ cs.toArray.size; rw [List.size_toArray]; omega, by show cs.toArray.size ≤ b; rw [List.size_toArray]; omega, by simpa using hcm⟩ (P2.mono (by omega)) x2

abbrev s_lplaces : Stmt := top 21
theorem sc_lplaces : FnScope ["_law_text_here", "_law_was", "_law_size", "_law_k"] ["_law_text_here", "_law_was"] (defScope s_lplaces) := ⟨rfl, rfl, rfl, by decide +kernel, rfl, by decide +kernel, by decide +kernel⟩
theorem b_lplaces {f : Addr} {fd : FuncData} (F : Fun K "_law_places" "_law_places" s_lplaces f fd) (T : Txt mg) : FnG P w K mg base CX0 1 f fd ["_law_text_here", "_law_was"] (spPlaces K) := by
  refine okG0 F sc_lplaces (fun vs H Q E h => ?_) (fun cdv A outer s H vs Q E hg hr h => ?_)
  · obtain ⟨x, wd, rfl, _⟩ := h
    rfl
  · have hu := hu_of hr
    have hu64 := hr.units
    obtain ⟨x, wd, rfl, hx, hw, k⟩ := h
    refine ⟨_, (pss_cons (ps_set (i := 2) sc_lplaces.nd rfl (Or.inr rfl) (pe_callB call_len (by rfl) T.len (by decide +kernel) (pa_cons (pv 1) pa_nil)))
      (pss_one (ps_ret (pe_lc (own := [("_law_k", 3)]) (g := gName 3) rfl sc_lplaces.nd (pi_range1 rfl T.range (pa_cons (pe_op op_add (pe_op op_sub (pe_callB call_len (by rfl) T.len (by decide +kernel) (pa_cons (pv 0) pa_nil)) (pv 2)) pe_int) pa_nil)) (blkOk_by (own := [("_law_k", 3)]) (N := ["_law_text_here", "_law_was", "_law_size", "_law_k"]) (sc := defScope s_lplaces) (by decide +kernel)) (fun _ _ _ _ _ => (pg_name (i := 3) sc_lplaces.nd rfl (Or.inl rfl))) (fun _ _ _ _ _ => (pts_one (pt_cmpR op_eq (pe_slice sl_str (pv 0) (po_some (pv 3)) (po_some (pe_op op_add (pv 3) (pv 2)))) (pv 1) (nomark _)))) (fun _ _ _ _ _ => (pv 3)))))), ?_⟩
    have hx24 : x.length ≤ sizeLine := Nat.le_trans hx (by decide)
    have hw24 : wd.length ≤ sizeLine := Nat.le_trans hw (by decide)
    refine ⟨_, rfl, _, _, rfl, ⟨hw24, rfl⟩, ?_⟩
    refine ⟨_, rfl, _, _, rfl, ⟨hx24, rfl⟩, _, rfl, _, _, rfl, rfl, _, _, rfl, rfl, _, rfl, by omega, by omega, fun D hD => ?_⟩
    refine lc_range (lo := 0) (n := ((x.length : Int) - (wd.length : Int) + 1).toNat) (fun i H' => H' D = some (.lst ((((List.range i).filter (atB x wd)).map Int.ofNat).map V.int)) ∧ Same H H') ?_ ?_ ?_
    · exact ⟨upd_same, same_new hD⟩
    · rintro i H2 hi ⟨hd, sm⟩
      have hi2 : i + wd.length ≤ x.length := by omega
      refine ⟨rfl, _, rfl, _, rfl, _, rfl, _, rfl, _, rfl, _, _, rfl, rfl, _, rfl, x, rfl, hx24, ?_⟩
      refine ⟨_, rfl, rfl, _, rfl, ?_⟩
      have ec := cut_at x wd i hi2
      rw [show (0 : Int) + (i : Int) = (i : Int) by omega, ec]
      cases hb : atB x wd i with
      | true =>
        refine iteT ?_
        have fl : ((((List.range i).filter (atB x wd)).map Int.ofNat).map V.int).length ≤ i := by
          rw [List.length_map, List.length_map]
          exact Nat.le_trans (List.length_filter_le _ _) (Nat.le_of_eq List.length_range)
        refine ⟨_, rfl, _, hd, Nat.lt_of_le_of_lt fl (Nat.lt_of_le_of_lt (show i ≤ 10002 by omega) (by decide)), ?_, ?_⟩
        · rw [upd_same, filter_snoc hb, List.map_append, List.map_append]
          rfl
        · intro b o e
          exact (upd_ne (fun q => by rw [q, hD] at e; cases e)).trans (sm b o e)
      | false =>
        refine iteF ⟨?_, sm⟩
        rw [hd, filter_more (Nat.le_succ i) fun j h1 h2 => by rw [show j = i by omega]; exact hb]
    · rintro H2 ⟨hd, sm⟩
      refine k D H2 hD ?_ sm
      rw [hd]
      unfold plcI plc
      rw [← filter_more (lo := ((x.length : Int) - (wd.length : Int) + 1).toNat) (m := x.length + 1) (by omega) fun j h1 h2 => by
        unfold atB
        rw [decide_eq_false (by omega)]
        rfl]

theorem cut_upto (x : Str) (M : Nat) : (cutS x none (some (M : Int))).length ≤ M := by
  unfold cutS
  show (List.toArray _).size ≤ M
  rw [List.size_toArray, HT.sIx_nat, HT.sIx_none]
  refine Nat.le_trans (List.length_take_le _ _) ?_
  have := Nat.min_le_left M x.length
  omega
def spNtext : Sp := fun vs H Q _ => ∃ p c z M T, vs = [.ref p, .str z, .int (M : Nat)] ∧ Few z ∧ M ≤ 100 ∧ Pen H p c T ∧ T + 1000 < 1000000000 ∧ ∀ (x : Str) (H' : Hp), x.length ≤ M → Ltr x → Pen H' p c (T + 100) → Ext p H H' → Q (.str x) H'
abbrev s_lntext : Stmt := top 23
theorem sc_lntext : FnScope ["_law_pen_here", "_law_signs_here", "_law_most_letters", "_law_some", "_law_found", "_law_k"] ["_law_pen_here", "_law_signs_here", "_law_most_letters"] (defScope s_lntext) := ⟨rfl, rfl, rfl, by decide +kernel, rfl, by decide +kernel, by decide +kernel⟩
theorem b_lntext {f : Addr} {fd : FuncData} (F : Fun K "_law_ntext" "_law_ntext" s_lntext f fd) (T : Txt mg) (c_ldraw : CalG P w K mg base CX0 1 "_law_draw" spDraw) (c_lpick : CalG P w K mg base CX0 2 "_law_pick" (spPick K)) (c_lword : CalG P w K mg base CX0 3 "_law_word" spWord) : FnG P w K mg base CX0 4 f fd ["_law_pen_here", "_law_signs_here", "_law_most_letters"] spNtext := by
  refine okG0 F sc_lntext (fun vs H Q E h => ?_) (fun cdv A outer s H vs Q E hg hr h => ?_)
  · obtain ⟨p, pc, z, M, T0, rfl, _⟩ := h
    rfl
  · have hu := hu_of hr
    have hu64 := hr.units
    obtain ⟨p, pc, z, M, T0, rfl, fz, hM, hpen, hT, k⟩ := h
    have hr3 : Room 3 _ := hr
    have z100 : z.length ≤ 1000 := Nat.le_trans fz.2.1 (by decide)
    refine ⟨_, (pss_cons (ps_par (i := 3) (j := 4) (by rfl) sc_lntext.nd rfl rfl (by decide) rfl rfl (pa_cons (pe_lst (pa_cons (pe_cG c_lword hg hr (by decide) pass0 (pa_cons (pv 0) (pa_cons (pv 1) (pa_cons pe_int (pa_cons pe_int pa_nil))))) (pa_cons (pe_cG c_lword hg hr (by decide) pass0 (pa_cons (pv 0) (pa_cons (pv 1) (pa_cons pe_int (pa_cons pe_int pa_nil))))) pa_nil))) (pa_cons pe_str pa_nil)) (by rfl))
      (pss_cons (ps_for PassesOwn.never rfl (pi_range1 rfl T.range (pa_cons (pe_cG c_ldraw hg hr (by decide) pass0 (pa_cons (pv 0) (pa_cons pe_int pa_nil))) pa_nil)) (pg_name (i := 5) sc_lntext.nd rfl (Or.inl rfl)) (pss_one (ps_set (i := 4) sc_lntext.nd rfl (Or.inl rfl) (pe_op op_add_str (pv 4) (pe_cG c_lpick hg hr (by decide) pass0 (pa_cons (pv 0) (pa_cons (pe_op op_cat (pv 3) (pe_lst (pa_cons (pe_cG c_lpick hg hr (by decide) pass0 (pa_cons (pv 0) (pa_cons (pv 1) pa_nil))) pa_nil))) pa_nil)))))))
      (pss_one (ps_ret (pe_slice sl_str (pv 4) po_none (po_some (pv 2))))))), ?_⟩
    refine ⟨_, rfl, _, rfl, p, pc, z, 1, 4, T0, rfl, by decide, by decide, fz.1, z100, hpen, by omega, fun w1 H1 g1 P1 x1 => ?_⟩
    refine ⟨_, rfl, _, rfl, p, pc, z, 1, 3, _, rfl, by decide, by decide, fz.1, z100, P1, by omega, fun w2 H2 g2 P2 x2 => ?_⟩
    refine ⟨by show 2 ≤ sizeLine; decide, fun b hb => ?_⟩
    have sb := same_new (o := .lst [.str w1, .str w2]) hb
    have P3 := P2.stay sb
    have x3 : Ext p H _ := (x1.trans x2).trans (Ext.same sb)
    refine ⟨_, _, rfl, _, rfl, p, pc, 9, _, rfl, by decide, by decide, P3, by omega, fun n H4 n0 n1 P4 x4 => ?_⟩
    have hb4 := P3.keepI x4 upd_same
    refine ⟨_, rfl, by omega, by omega, ?_⟩
    refine for_range (lo := 0) (n := n.toNat) (fun i σ H' => ∃ (o5 : Option V) (f : Str), σ = [some (.ref p), some (.str z), some (.int (M : Nat)), some (.ref b), some (.str f), o5] ∧ (f.length ≤ 100 * i ∧ Ltr f) ∧ Pen H' p pc (T0 + 20 + 2 * i) ∧ Ext p H H' ∧ H' b = some (.lst [.str w1, .str w2])) ?_ ?_ ?_
    · exact ⟨_, "", rfl, ⟨by show 0 ≤ _; omega, lt_none⟩, P4.mono (by omega), x3.trans x4, hb4⟩
    · rintro i σ H5 hi ⟨o5, f, rfl, hf, P5, x5, hb5⟩
      have hf1 := hf.1
      refine ⟨_, rfl, _, rfl, _, rfl, _, rfl, _, rfl, p, pc, _, _, _, rfl, .str z z100, opts_ne fz.1, opts_le z100, P5, by omega, fun v H6 hv P6 x6 => ?_⟩
      obtain ⟨cv, rfl, hcv⟩ := ones_of hv
      have hb6 := P5.keepI x6 hb5
      refine ⟨by show 1 ≤ sizeLine; decide, fun q hq => ?_⟩
      have sq := same_new (o := .lst [OneS cv]) hq
      refine ⟨b, q, _, _, rfl, rfl, sq _ _ hb6, upd_same, by show 3 ≤ sizeLine; decide, fun q2 hq2 => ?_⟩
      have sq2 := same_new (o := .lst [.str w1, .str w2, OneS cv]) hq2
      have P7 := (P6.stay sq).stay sq2
      refine ⟨p, pc, _, _, _, rfl, .lst (SqL.of upd_same), (fun z => by cases z), by show 3 ≤ 1000; decide, P7, by omega, fun v H8 hv2 P8 x8 => ?_⟩
      have hb8 := P7.keepI x8 (sq2 _ _ (sq _ _ hb6))
      have ev : ∃ y : Str, v = .str y ∧ y.length ≤ 100 ∧ Ltr y := by
        simp only [List.mem_append, List.mem_cons, List.not_mem_nil, or_false] at hv2
        rcases hv2 with (rfl | rfl) | rfl
        · exact ⟨w1, rfl, Nat.le_trans g1.2.1 (by decide), lt_word fz g1⟩
        · exact ⟨w2, rfl, Nat.le_trans g2.2.1 (by decide), lt_word fz g2⟩
        · exact ⟨_, rfl, by show 1 ≤ 100; decide, lt_one fz hcv⟩
      obtain ⟨y, rfl, hy, oy⟩ := ev
      refine ⟨_, _, rfl, rfl, Nat.le_of_lt (fewL (by omega)), _, f ++ y, rfl, ⟨?_, lt_more hf.2 oy⟩, P8.mono (by omega), (x5.trans x6).trans (((Ext.same sq).trans (Ext.same sq2)).trans x8), hb8⟩
      rw [strLen_append]
      omega
    · rintro σ H5 ⟨o5, f, rfl, hf, P5, x5, hb5⟩
      have hf1 := hf.1
      refine ⟨_, rfl, _, rfl, _, rfl, f, rfl, Nat.le_of_lt (fewL (by have : n.toNat ≤ 9 := by omega
                                                                     omega)), k _ _ (cut_upto f M) (cutS_lt hf.2 _ _) (P5.mono (by omega)) x5⟩

/-- a window that stands once -/
def spNonce : Sp := fun vs H Q _ => ∃ (x : Str) (a b : Nat), vs = [.str x, .int (a : Nat), .int (b : Nat)] ∧ x.length ≤ 100 ∧ (a < b → b ≤ x.length) ∧ ∀ H', Same H H' → Q (.bl (decide (a < b ∧ twB x a b = false))) H'
abbrev s_lnonce : Stmt := top 24
theorem sc_lnonce : FnScope ["_law_text_here", "_law_a", "_law_b"] ["_law_text_here", "_law_a", "_law_b"] (defScope s_lnonce) := ⟨rfl, rfl, rfl, by decide +kernel, rfl, by decide +kernel, by decide +kernel⟩
theorem b_lnonce {f : Addr} {fd : FuncData} (F : Fun K "_law_nonce" "_law_nonce" s_lnonce f fd) (T : Txt mg) (c_lplaces : CalG P w K mg base CX0 1 "_law_places" (spPlaces K)) : FnG P w K mg base CX0 2 f fd ["_law_text_here", "_law_a", "_law_b"] spNonce := by
  refine okG0 F sc_lnonce (fun vs H Q E h => ?_) (fun cdv A outer s H vs Q E hg hr h => ?_)
  · obtain ⟨x, a, b, rfl, _⟩ := h
    rfl
  · have hu := hu_of hr
    have hu64 := hr.units
    obtain ⟨x, a, b, rfl, hx, hb, k⟩ := h
    have hr1 : Room 1 _ := hr
    have xl : x.length ≤ sizeLine := Nat.le_of_lt (fewL (by omega))
    refine ⟨_, (pss_one (ps_ret (pe_and (pe_cmpR op_lt (pv 1) (pv 2) (nomark _)) (pe_one (pe_cmpR op_eq (pe_callB call_len (by rfl) T.len (by decide +kernel) (pa_cons (pe_cG c_lplaces hg hr (by decide) pass0 (pa_cons (pv 0) (pa_cons (pe_slice sl_str (pv 0) (po_some (pv 1)) (po_some (pv 2))) pa_nil))) pa_nil)) pe_int (nomark _)))))), ?_⟩
    refine ⟨_, rfl, _, rfl, _, _, rfl, rfl, _, rfl, ?_⟩
    by_cases hab : a < b
    · rw [decide_eq_true (show ((a : Nat) : Int) < ((b : Nat) : Int) by omega)]
      refine iteT ⟨_, rfl, _, rfl, _, rfl, _, rfl, _, rfl, _, rfl, x, rfl, xl, x, _, rfl, by omega, ?_⟩
      refine ⟨Nat.le_trans (cutS_length _ _ _) (by omega), fun lp H1 _ hp s1 => ⟨_, _, rfl, .inl ⟨_, SqL.of hp, rfl⟩, rfl, ?_⟩⟩
      have hl : ((plcI x (cutS x (some ((a : Nat) : Int)) (some ((b : Nat) : Int)))).map V.int).length = (plc x (cutS x (some ((a : Nat) : Int)) (some ((b : Nat) : Int)))).length := by
        unfold plcI
        rw [List.length_map, List.length_map]
      have q := k H1 s1
      have e : decide (V.int ((((plcI x (cutS x (some ((a : Nat) : Int)) (some ((b : Nat) : Int)))).map V.int).length : Nat) : Int) = V.int 1) = decide (a < b ∧ twB x a b = false) := by
        rw [hl]
        refine decide_eq_decide.mpr (Iff.trans ⟨fun z => ?_, fun z => ?_⟩ (Iff.trans (plc_one (Nat.le_of_lt hab) (hb hab)) ⟨fun z => ⟨hab, z⟩, fun z => z.2⟩))
        · have := V.int.inj z
          omega
        · rw [z]
          rfl
      rw [← e] at q
      exact q
    · rw [decide_eq_false (show ¬ ((a : Nat) : Int) < ((b : Nat) : Int) by omega)]
      refine iteF ?_
      have q := k H (fun _ _ e => e)
      rw [decide_eq_false (fun z => hab z.1)] at q
      exact q

end
end Vk
set_option Elab.async false
set_option maxRecDepth 100000
set_option linter.all false
set_option maxHeartbeats 4000000
namespace Vk
open PySem PySem.Spec PyProof.Rows L2
section
variable {P : Program} {w : World} {K : PySem.W.Frag} {mg : Str → Option Value} {base : Heap}
end
end Vk
set_option Elab.async false
set_option maxRecDepth 100000
set_option linter.all false
namespace Vk
open PySem PySem.Spec PyProof.Rows L2
section
variable {P : Program} {w : World} {K : PySem.W.Frag} {mg : Str → Option Value} {base : Heap}
def srtB : PyData → Bool
  | .str z => decide (z.length ≤ 1000) && PyData.strOk z
  | _ => true
def elB : PyData → Bool
  | .tuple l => l.all srtB && decide (l.length ≤ 100)
  | _ => true
def okC (d : PyData) : Bool := okB d && srtB d && PyData.strOk d.shown && elB d
/-- the strings within a tuple are short -/
def El (d : PyData) : Prop := ∀ l, d = .tuple l → ∀ x ∈ l, Srt x
theorem srtB_srt {d : PyData} (h : srtB d = true) : Srt d := by
  cases d with
  | str z =>
    unfold srtB at h
    rw [Bool.and_eq_true, decide_eq_true_eq] at h
    exact h
  | _ => trivial
theorem okC_el {d : PyData} (h : okC d = true) : El d := by
  unfold okC at h
  rw [Bool.and_eq_true] at h
  rintro l rfl x hx
  exact srtB_srt (List.all_eq_true.mp (Bool.and_eq_true_iff.mp h.2).1 x hx)
theorem okC_srt {d : PyData} (h : okC d = true) : Srt d := by
  unfold okC at h
  rw [Bool.and_eq_true, Bool.and_eq_true, Bool.and_eq_true] at h
  cases d with
  | str z =>
    have q := h.1.1.2
    unfold srtB at q
    rw [Bool.and_eq_true, decide_eq_true_eq] at q
    exact q
  | _ => trivial
theorem okC_len {d : PyData} (h : okC d = true) : ∀ l, d = .tuple l → l.length ≤ 100 := by
  unfold okC at h
  rw [Bool.and_eq_true] at h
  rintro l rfl
  exact of_decide_eq_true (Bool.and_eq_true_iff.mp h.2).2
def spAny : Sp := fun vs H Q _ => ∃ (p c : Addr) (T : Nat), vs = [.ref p] ∧ Pen H p c T ∧ T < 1000000000 ∧ ∀ (v : V) (d : PyData) (H' : Hp), Th H' v d → okC d = true → New H v → Pen H' p c (T + 1) → Ext p H H' → Q v H'
abbrev ds1 : List PyData := [.none, .bool true, .bool false, .int 0, .int 1, .int (-1), .int (10 ^ (59 : Int).toNat), .str "", .str "a", .str "\t", .str "a\t", .str "ab", .tuple [], .tuple [.str "a"], .tuple [.str "a", .str "b"], .list [.str "a", .str "b"], .dict (kvD [])]
abbrev ds2 : List PyData := [.list [.int 1], .tuple [.str "a", .int 1], .tuple [.str "", .str "a"], .tuple [.str "a", .str "\t"], .tuple [.str "a", .str "b", .str "c"], .dict (kvD [("a", "b")]), .str "once", .tuple [.str (Txt.mul "a" 41), .str ""]]
abbrev ds3 : List PyData := [.tuple [.str "a", .str (Txt.mul "b" 41)], .str (Txt.mul "a" 41), .str (Txt.mul "b" 50), .tuple [.int 0, .int 1], .list [], .tuple [.str "a", .none]]
abbrev s_lany_value : Stmt := top 22
theorem sc_lany_value : FnScope ["_law_pen_here", "_law_some"] ["_law_pen_here"] (defScope s_lany_value) := ⟨rfl, rfl, rfl, by decide +kernel, rfl, by decide +kernel, by decide +kernel⟩
theorem b_lany_value {f : Addr} {fd : FuncData} (F : Fun K "_law_any_value" "_law_any_value" s_lany_value f fd) (T : Txt mg) (c_lpick : CalG P w K mg base CX0 2 "_law_pick" (spPick K)) : FnG P w K mg base CX0 3 f fd ["_law_pen_here"] spAny := by
  refine okG0 F sc_lany_value (fun vs H Q E h => ?_) (fun cdv A outer s H vs Q E hg hr h => ?_)
  · obtain ⟨p, c, T0, rfl, _⟩ := h
    rfl
  · have hu := hu_of hr
    have hu64 := hr.units
    obtain ⟨p, c, T0, rfl, hpen, hT, k⟩ := h
    have hr2 : Room 2 _ := hr
    refine ⟨_, (pss_cons (ps_set (i := 1) sc_lany_value.nd rfl (Or.inl rfl) (pe_lst (pa_cons pe_non (pa_cons pe_bl (pa_cons pe_bl (pa_cons pe_int (pa_cons pe_int (pa_cons (pe_un un_neg pe_int) (pa_cons (pe_op op_pow pe_int pe_int) (pa_cons pe_str (pa_cons pe_str (pa_cons pe_str (pa_cons pe_str (pa_cons pe_str (pa_cons (pe_tup pa_nil) (pa_cons (pe_tup (pa_cons pe_str pa_nil)) (pa_cons (pe_tup (pa_cons pe_str (pa_cons pe_str pa_nil))) (pa_cons (pe_ls1 (pa_cons pe_str (pa_cons pe_str pa_nil))) (pa_cons pe_dnewK pa_nil)))))))))))))))))))
      (pss_cons (ps_set (i := 1) sc_lany_value.nd rfl (Or.inl rfl) (pe_op op_cat (pv 1) (pe_lst (pa_cons (pe_ls1 (pa_cons pe_int pa_nil)) (pa_cons (pe_tup (pa_cons pe_str (pa_cons pe_int pa_nil))) (pa_cons (pe_tup (pa_cons pe_str (pa_cons pe_str pa_nil))) (pa_cons (pe_tup (pa_cons pe_str (pa_cons pe_str pa_nil))) (pa_cons (pe_tup (pa_cons pe_str (pa_cons pe_str (pa_cons pe_str pa_nil)))) (pa_cons (pe_disp (pps_cons pe_str pe_str pps_nil) (by rfl) (by rfl) (fun z => by cases z) (by decide)) (pa_cons pe_str (pa_cons (pe_tup (pa_cons (pe_op op_mulS pe_str pe_int) (pa_cons pe_str pa_nil))) pa_nil)))))))))))
      (pss_one (ps_ret (pe_cG c_lpick hg hr (by decide) pass0 (pa_cons (pv 0) (pa_cons (pe_op op_cat (pv 1) (pe_lst (pa_cons (pe_tup (pa_cons pe_str (pa_cons (pe_op op_mulS pe_str pe_int) pa_nil))) (pa_cons (pe_op op_mulS pe_str pe_int) (pa_cons (pe_op op_mulS pe_str pe_int) (pa_cons (pe_tup (pa_cons pe_int (pa_cons pe_int pa_nil))) (pa_cons (pe_ls1 pa_nil) (pa_cons (pe_tup (pa_cons pe_str (pa_cons pe_non pa_nil))) pa_nil)))))))) pa_nil))))))), ?_⟩
    refine seq_asg (mk2_many (ds := ds1) ?m1 ?l1 fun q1 xs1 H1 s1 hq1 t1 n1 => ?_)
    case m1 => repeat' (first | exact mks2_nil | refine mks2_cons ?_ ?_ | exact mk2_dnew | exact mk2_disp | refine mk2_tup ?_ (Nat.le_of_ble_eq_true rfl) | refine mk2_lst ?_ (Nat.le_of_ble_eq_true rfl) | exact mas_nil | refine mas_cons ?_ ?_ | exact ma_non | exact ma_bl | exact ma_int | exact ma_str | exact ma_neg | exact ma_pow ⟨by decide, by decide, by decide⟩ | exact ma_mul ⟨by decide, by decide, by decide, by decide +kernel⟩ | refine mk2_atm ?_)
    case l1 => exact Nat.le_of_ble_eq_true rfl
    refine seq_asg ⟨_, rfl, mk2_many (ds := ds2) ?m2 ?l2 fun q2 xs2 H2 s2 hq2 t2 n2 => ?_⟩
    case m2 => repeat' (first | exact mks2_nil | refine mks2_cons ?_ ?_ | exact mk2_dnew | exact mk2_disp | refine mk2_tup ?_ (Nat.le_of_ble_eq_true rfl) | refine mk2_lst ?_ (Nat.le_of_ble_eq_true rfl) | exact mas_nil | refine mas_cons ?_ ?_ | exact ma_non | exact ma_bl | exact ma_int | exact ma_str | exact ma_neg | exact ma_pow ⟨by decide, by decide, by decide⟩ | exact ma_mul ⟨by decide, by decide, by decide, by decide +kernel⟩ | refine mk2_atm ?_)
    case l2 => exact Nat.le_of_ble_eq_true rfl
    refine ⟨q1, q2, xs1, xs2, rfl, rfl, s2 _ _ hq1, hq2, few_len (by rw [paired_len t1, paired_len t2]; exact Nat.le_of_ble_eq_true rfl), fun q3 hq3 => ?_⟩
    refine ⟨_, rfl, _, rfl, mk2_many (ds := ds3) ?m3 ?l3 fun q4 xs4 H4 s4 hq4 t4 n4 => ?_⟩
    case m3 => repeat' (first | exact mks2_nil | refine mks2_cons ?_ ?_ | exact mk2_dnew | exact mk2_disp | refine mk2_tup ?_ (Nat.le_of_ble_eq_true rfl) | refine mk2_lst ?_ (Nat.le_of_ble_eq_true rfl) | exact mas_nil | refine mas_cons ?_ ?_ | exact ma_non | exact ma_bl | exact ma_int | exact ma_str | exact ma_neg | exact ma_pow ⟨by decide, by decide, by decide⟩ | exact ma_mul ⟨by decide, by decide, by decide, by decide +kernel⟩ | refine mk2_atm ?_)
    case l3 => exact Nat.le_of_ble_eq_true rfl
    refine ⟨q3, q4, _, xs4, rfl, rfl, s4 _ _ upd_same, hq4, few_len (by rw [List.length_append, paired_len t1, paired_len t2, paired_len t4]; exact Nat.le_of_ble_eq_true rfl), fun q5 hq5 => ?_⟩
    have g5 : Same H (upd H4 q5 (.lst (xs1 ++ xs2 ++ xs4))) := (((s1.trans s2).trans (same_new hq3)).trans s4).trans (same_new hq5)
    have a5 : Paired (Th (upd H4 q5 (.lst (xs1 ++ xs2 ++ xs4)))) (xs1 ++ xs2 ++ xs4) (ds1 ++ ds2 ++ ds3) := paired_app (paired_app (ths_keep (((s2.trans (same_new hq3)).trans s4).trans (same_new hq5)) t1) (ths_keep (((same_new hq3).trans s4).trans (same_new hq5)) t2)) (ths_keep (same_new hq5) t4)
    refine ⟨p, c, .ref q5, _, T0, rfl, .lst (SqL.of upd_same), ?_, ?_, hpen.stay g5, hT, fun v H6 m6 P6 x6 => ?_⟩
    · exact fun z => nomatch (congrArg List.length z).symm.trans (paired_len a5)
    · rw [paired_len a5]; exact Nat.le_of_ble_eq_true rfl
    · obtain ⟨d, hd, td⟩ := paired_mem a5 m6
      have nv : New H v := by
        rcases List.mem_append.mp m6 with m6 | m6
        · rcases List.mem_append.mp m6 with m6 | m6
          · exact n1 v m6
          · exact (n2 v m6).same s1
        · exact (n4 v m6).same ((s1.trans s2).trans (same_new hq3))
      refine k v d H6 (td.ext (hpen.stay g5) x6) ?_ nv P6 ((Ext.same g5).trans x6)
      exact List.all_eq_true.mp (by decide +kernel) d hd

end
end Vk
set_option Elab.async false
set_option maxRecDepth 100000
set_option linter.all false
set_option maxHeartbeats 4000000
namespace Vk
open PySem PySem.Spec PyProof.Rows L2
section
variable {P : Program} {w : World} {K : PySem.W.Frag} {mg : Str → Option Value} {base : Heap}
end
end Vk
set_option Elab.async false
set_option maxRecDepth 100000
set_option linter.all false
set_option maxHeartbeats 4000000
namespace Vk
open PySem PySem.Spec PyProof.Rows L2
section
variable {P : Program} {w : World} {K : PySem.W.Frag} {mg : Str → Option Value} {base : Heap}
end
end Vk
set_option Elab.async false
set_option maxRecDepth 100000
set_option linter.all false
set_option maxHeartbeats 4000000
namespace Vk
open PySem PySem.Spec PyProof.Rows L2
section
variable {P : Program} {w : World} {K : PySem.W.Frag} {mg : Str → Option Value} {base : Heap}
end
end Vk
set_option Elab.async false
set_option maxRecDepth 100000
set_option linter.all false
set_option maxHeartbeats 4000000
namespace Vk
open PySem PySem.Spec PyProof.Rows L2
section
variable {P : Program} {w : World} {K : PySem.W.Frag} {mg : Str → Option Value} {base : Heap}
end
end Vk
set_option Elab.async false
set_option maxRecDepth 100000
set_option linter.all false
set_option maxHeartbeats 4000000
namespace Vk
open PySem PySem.Spec PyProof.Rows L2
section
variable {P : Program} {w : World} {K : PySem.W.Frag} {mg : Str → Option Value} {base : Heap}
end
end Vk
set_option Elab.async false
set_option maxRecDepth 100000
set_option linter.all false
namespace Vk
open PySem PySem.Spec PyProof.Rows L2
/-- the least end of a window from a that stands once; behind the text if there is none -/
def lendF (x : Str) (a : Nat) : Nat → Nat → Nat
  | 0, e => e
  | f + 1, e => if e ≤ x.length ∧ twB x a e = true then lendF x a f (e + 1) else e
theorem lendF_spec {x : Str} {a : Nat} : ∀ (f e : Nat), a < e → x.length + 1 ≤ e + f → (∀ b, a < b → b < e → b ≤ x.length → twB x a b = true) →
    e ≤ lendF x a f e ∧ (∀ b, a < b → b < lendF x a f e → b ≤ x.length → twB x a b = true) ∧ (lendF x a f e ≤ x.length → twB x a (lendF x a f e) = false) ∧ (e ≤ x.length + 1 → lendF x a f e ≤ x.length + 1)
  | 0, e, h0, h1, h2 => ⟨Nat.le_refl _, h2, fun h => by rw [lendF] at h; omega, fun h => h⟩
  | f + 1, e, h0, h1, h2 => by
    rw [lendF]
    split
    · rename_i c
      obtain ⟨s1, s2, s3, s4⟩ := lendF_spec (x := x) (a := a) f (e + 1) (by omega) (by omega) fun b b1 b2 b3 => by
        by_cases be : b = e
        · rw [be]; exact c.2
        · exact h2 b b1 (by omega) b3
      exact ⟨by omega, s2, s3, fun _ => s4 (by omega)⟩
    · rename_i c
      refine ⟨Nat.le_refl _, h2, fun h => ?_, fun h => h⟩
      cases e2 : twB x a e with
      | false => rfl
      | true => exact absurd ⟨h, e2⟩ c
theorem lendF_step {x : Str} {a f e : Nat} (h : e ≤ x.length ∧ twB x a e = true) : lendF x a (f + 1) e = lendF x a f (e + 1) := by rw [lendF, if_pos h]
theorem lendF_stop {x : Str} {a f e : Nat} (h : ¬ (e ≤ x.length ∧ twB x a e = true)) : lendF x a f e = e := by
  cases f with
  | zero => rfl
  | succ f => rw [lendF, if_neg h]
/-- e is the least end from a -/
structure Lend (x : Str) (a e : Nat) : Prop where
  gt : a < e
  le : e ≤ x.length + 1
  twice : ∀ b, a < b → b < e → b ≤ x.length → twB x a b = true
  once : e ≤ x.length → twB x a e = false
theorem Lend.more {x : Str} {a e : Nat} (h : Lend x a e) {b : Nat} (h1 : e ≤ b) (h2 : b ≤ x.length) : twB x a b = false := by
  have g := h.gt
  cases e2 : twB x a b with
  | false => rfl
  | true =>
    have t := (twB_iff (by omega) h2).mp e2
    have := (twB_iff (by omega) (by omega)).mpr (t.less (Nat.le_refl _) (by omega) h1)
    rw [h.once (by omega)] at this
    cases this
theorem Lend.iff {x : Str} {a e : Nat} (h : Lend x a e) {b : Nat} (h1 : a < b) (h2 : b ≤ x.length) : twB x a b = false ↔ e ≤ b := by
  constructor
  · intro z
    refine Nat.le_of_not_lt fun q => ?_
    rw [h.twice b h1 q h2] at z
    cases z
  · intro z
    exact h.more z h2
theorem Lend.next {x : Str} {a e : Nat} (h : Lend x a e) : ∀ b, a + 1 < b → b < max e (a + 2) → b ≤ x.length → twB x (a + 1) b = true := by
  intro b b1 b2 b3
  have t := (twB_iff (by omega) b3).mp (h.twice b (by omega) (by omega) b3)
  exact (twB_iff (by omega) b3).mpr (t.less (by omega) (by omega) (Nat.le_refl _))
end Vk
set_option linter.all false
namespace Vk
/-! ## distances -/
def neq (a b : Nat) : Nat := if a = b then 0 else 1
def edD (A B : Nat → Nat) : Nat → Nat → Nat
  | 0, j => j
  | i + 1, 0 => i + 1
  | i + 1, j + 1 => min (min (edD A B i j + neq (A i) (B j)) (edD A B i (j + 1) + 1)) (edD A B (i + 1) j + 1)
/-! ## windows from a to i -/
def fD (X B : Nat → Nat) (a i j : Nat) : Nat := edD (fun t => X (a + t)) B (i - a) j
structure Best (X B : Nat → Nat) (i j num bits : Nat) : Prop where
  le : ∀ a, a ≤ i → num ≤ fD X B a i j
  bit : ∀ l, bits.testBit l = true ↔ l ≤ i ∧ fD X B (i - l) i j = num
  at_ : ∃ a, a ≤ i ∧ fD X B a i j = num
  up : num ≤ j
/-- the three pairs of next_column -/
def three (ne n1 b1 n2 b2 n3 b3 : Nat) : List (Nat × Nat) := [(n1 + ne, b1 * 2), (n2 + 1, b2 * 2), (n3 + 1, b3)]
/-! ## windows -/
/-! the law's rows -/
/-- what is told and what is due is the same -/
structure Cols (X B : Nat → Nat) (m n : Nat) (es : List (Nat × Nat)) : Prop where
  len : es.length = n
  best : ∀ i e, es[i]? = some e → Best X B (i + 1) m e.1 e.2
/-! an empty old -/
end Vk
set_option linter.all false
namespace Vk
/-! ## edits that make b of a, n of them -/
inductive Ed : List Nat → List Nat → Nat → Prop
  | nil : Ed [] [] 0
  | keep {a b : List Nat} {n : Nat} (x : Nat) : Ed a b n → Ed (x :: a) (x :: b) n
  | drop {a b : List Nat} {n : Nat} (x : Nat) : Ed a b n → Ed (x :: a) b (n + 1)
  | put {a b : List Nat} {n : Nat} (y : Nat) : Ed a b n → Ed a (y :: b) (n + 1)
  | set {a b : List Nat} {n : Nat} (x y : Nat) : Ed a b n → Ed (x :: a) (y :: b) (n + 1)
theorem Ed.symm {a b : List Nat} {n : Nat} (h : Ed a b n) : Ed b a n := by
  induction h with
  | nil => exact .nil
  | keep x _ ih => exact .keep x ih
  | drop x _ ih => exact .put x ih
  | put y _ ih => exact .drop y ih
  | set x y _ ih => exact .set y x ih
theorem Ed.len {a b : List Nat} {n : Nat} (h : Ed a b n) : a.length ≤ b.length + n ∧ b.length ≤ a.length + n := by
  induction h with
  | nil => exact ⟨Nat.le_refl _, Nat.le_refl _⟩
  | _ => simp only [List.length_cons] at *; omega
theorem Ed.zero {a b : List Nat} {n : Nat} (h : Ed a b n) (e : n = 0) : a = b := by
  induction h with
  | nil => rfl
  | keep x _ ih => rw [ih e]
  | _ => cases e
theorem Ed.trans {a b c : List Nat} {n m : Nat} (h : Ed a b n) (g : Ed b c m) : ∃ k, k ≤ n + m ∧ Ed a c k := by
  induction h generalizing c m with
  | nil => exact ⟨m, by omega, g⟩
  | @keep a b n x _ ih =>
    generalize hl : x :: b = l at g
    induction g with
    | nil => cases hl
    | keep y g _ =>
      cases hl
      obtain ⟨k, hk, e⟩ := ih g
      exact ⟨k, hk, .keep _ e⟩
    | drop y g _ =>
      cases hl
      obtain ⟨k, hk, e⟩ := ih g
      exact ⟨k + 1, by omega, .drop _ e⟩
    | put y g ig =>
      obtain ⟨k, hk, e⟩ := ig hl
      exact ⟨k + 1, by omega, .put _ e⟩
    | set y z g _ =>
      cases hl
      obtain ⟨k, hk, e⟩ := ih g
      exact ⟨k + 1, by omega, .set _ _ e⟩
  | @drop a b n x _ ih =>
    obtain ⟨k, hk, e⟩ := ih g
    exact ⟨k + 1, by omega, .drop _ e⟩
  | @put a b n x _ ih =>
    generalize hl : x :: b = l at g
    induction g with
    | nil => cases hl
    | keep y g _ =>
      cases hl
      obtain ⟨k, hk, e⟩ := ih g
      exact ⟨k + 1, by omega, .put _ e⟩
    | drop y g _ =>
      cases hl
      obtain ⟨k, hk, e⟩ := ih g
      exact ⟨k, by omega, e⟩
    | put y g ig =>
      obtain ⟨k, hk, e⟩ := ig hl
      exact ⟨k + 1, by omega, .put _ e⟩
    | set y z g _ =>
      cases hl
      obtain ⟨k, hk, e⟩ := ih g
      exact ⟨k + 1, by omega, .put _ e⟩
  | @set a b n x x2 _ ih =>
    generalize hl : x2 :: b = l at g
    induction g with
    | nil => cases hl
    | keep y g _ =>
      cases hl
      obtain ⟨k, hk, e⟩ := ih g
      exact ⟨k + 1, by omega, .set _ _ e⟩
    | drop y g _ =>
      cases hl
      obtain ⟨k, hk, e⟩ := ih g
      exact ⟨k + 1, by omega, .drop _ e⟩
    | put y g ig =>
      obtain ⟨k, hk, e⟩ := ig hl
      exact ⟨k + 1, by omega, .put _ e⟩
    | set y z g _ =>
      cases hl
      obtain ⟨k, hk, e⟩ := ih g
      exact ⟨k + 1, by omega, .set _ _ e⟩
/-! ## the table's distance -/
end Vk
set_option Elab.async false
set_option maxRecDepth 100000
set_option linter.all false
set_option maxHeartbeats 4000000
namespace Vk
/-! ## the least number that a promise holds for, below a bound -/
structure Least (S : Nat → Prop) (B v : Nat) : Prop where
  is : v < B → S v
  le : ∀ c, S c → v ≤ c
  top : v ≤ B
theorem least_ex (S : Nat → Prop) : ∀ B, ∃ v, Least S B v
  | 0 => ⟨0, fun h => absurd h (Nat.lt_irrefl _), fun _ _ => Nat.zero_le _, Nat.le_refl _⟩
  | B + 1 => by
    obtain ⟨v, h⟩ := least_ex S B
    rcases Nat.lt_or_ge v B with l | l
    · exact ⟨v, fun _ => h.is l, h.le, by omega⟩
    · have e : v = B := Nat.le_antisymm h.top l
      subst e
      rcases Classical.em (S v) with z | z
      · exact ⟨v, fun _ => z, h.le, by omega⟩
      · refine ⟨v + 1, fun q => absurd q (Nat.lt_irrefl _), fun c hc => ?_, Nat.le_refl _⟩
        have := h.le c hc
        rcases Nat.lt_or_ge v c with m | m
        · exact m
        · obtain rfl : c = v := by omega
          exact absurd hc z
noncomputable def lstB (S : Nat → Prop) (B : Nat) : Nat := Classical.choose (least_ex S B)
theorem lstB_least (S : Nat → Prop) (B : Nat) : Least S B (lstB S B) := Classical.choose_spec (least_ex S B)
theorem Least.uniq {S : Nat → Prop} {B v w : Nat} (a : Least S B v) (b : Least S B w) : v = w := by
  rcases Nat.lt_or_ge v B with l | l
  · have h1 := b.le _ (a.is l)
    rcases Nat.lt_or_ge w B with m | m
    · have h2 := a.le _ (b.is m)
      omega
    · omega
  · rcases Nat.lt_or_ge w B with m | m
    · have h2 := a.le _ (b.is m)
      have := b.top
      omega
    · have := a.top
      have := b.top
      omega
theorem Least.eq {S : Nat → Prop} {B v : Nat} (a : Least S B v) : lstB S B = v := (lstB_least S B).uniq a
/-- two bounds, one promise: below both of them the least is one -/
theorem lst_two {S : Nat → Prop} {B C c : Nat} (h : S c) (hB : c < B) (hC : c < C) : lstB S B = lstB S C := by
  have a := lstB_least S B
  have b := lstB_least S C
  have h1 := a.le _ h
  have h2 := b.le _ h
  have h3 := a.le _ (b.is (by omega))
  have h4 := b.le _ (a.is (by omega))
  omega
section
variable (a b : List Nat) (once : Nat → Nat → Prop) (e : Nat)
/-- ways to (i, j), step by step: a letter kept, a window exchanged -/
inductive WayF : Nat → Nat → Nat → Prop
  | start : WayF 0 0 0
  | keep {i j c : Nat} : WayF i j c → i < a.length → a[i]? = b[j]? → WayF (i + 1) (j + 1) c
  | xch {i j c t k : Nat} : WayF i j c → i < t → t ≤ a.length → once i t → j ≤ k → k ≤ b.length → WayF t k (c + e + (t - i) + (k - j))
/-- ways from (i, j) to the end -/
inductive WayB : Nat → Nat → Nat → Prop
  | stop : WayB a.length b.length 0
  | keep {i j c : Nat} : WayB (i + 1) (j + 1) c → i < a.length → a[i]? = b[j]? → WayB i j c
  | xch {i j c t k : Nat} : WayB t k c → i < t → t ≤ a.length → once i t → j ≤ k → k ≤ b.length → WayB i j (c + e + (t - i) + (k - j))
variable {a b once e}
theorem WayB.join {i j c d : Nat} (h : WayB a b once e i j c) (f : WayF a b once e i j d) : WayF a b once e a.length b.length (d + c) := by
  induction h generalizing d with
  | stop => exact f
  | keep _ h1 h2 ih => exact ih (.keep f h1 h2)
  | xch _ h1 h2 h3 h4 h5 ih =>
    have := ih (.xch f h1 h2 h3 h4 h5)
    rw [show ∀ x y z u v : Nat, x + (y + z + u + v) = x + z + u + v + y from by intros; omega]
    exact this
theorem WayF.join {i j c d : Nat} (f : WayF a b once e i j d) (h : WayB a b once e i j c) : WayB a b once e 0 0 (d + c) := by
  induction f generalizing c with
  | start => rw [Nat.zero_add]; exact h
  | keep _ h1 h2 ih => exact ih (.keep h h1 h2)
  | xch _ h1 h2 h3 h4 h5 ih =>
    have := ih (.xch h h1 h2 h3 h4 h5)
    rw [show ∀ x y z u v : Nat, x + y + z + u + v = x + (v + y + z + u) from by intros; omega]
    exact this
theorem way_both {c : Nat} : WayF a b once e a.length b.length c ↔ WayB a b once e 0 0 c := by
  constructor
  · intro h
    have := h.join .stop
    exact this
  · intro h
    have := h.join .start
    rw [Nat.zero_add] at this
    exact this
theorem WayF.in {i j c : Nat} (h : WayF a b once e i j c) : i ≤ a.length ∧ j ≤ b.length := by
  induction h with
  | start => exact ⟨Nat.zero_le _, Nat.zero_le _⟩
  | @keep i j c _ h1 h2 ih =>
    refine ⟨h1, ?_⟩
    rw [List.getElem?_eq_getElem h1] at h2
    exact (List.getElem?_eq_some_iff.mp h2.symm).1
  | xch _ h1 h2 h3 h4 h5 ih => exact ⟨h2, h5⟩
theorem WayB.in {i j c : Nat} (h : WayB a b once e i j c) : i ≤ a.length ∧ j ≤ b.length := by
  induction h with
  | stop => exact ⟨Nat.le_refl _, Nat.le_refl _⟩
  | keep _ h1 h2 ih => exact ⟨by omega, by omega⟩
  | xch _ h1 h2 h3 h4 h5 ih => exact ⟨by omega, by omega⟩
/-- the last step to (i, j) is a window -/
def Beg (a b : List Nat) (once : Nat → Nat → Prop) (e i j c : Nat) : Prop := ∃ g k d, WayF a b once e g k d ∧ g < i ∧ i ≤ a.length ∧ once g i ∧ k ≤ j ∧ j ≤ b.length ∧ c = d + e + (i - g) + (j - k)
theorem way_last {i j c : Nat} : WayF a b once e i j c ↔ (i = 0 ∧ j = 0 ∧ c = 0) ∨ Beg a b once e i j c ∨ ∃ i' j', i = i' + 1 ∧ j = j' + 1 ∧ i' < a.length ∧ a[i']? = b[j']? ∧ WayF a b once e i' j' c := by
  constructor
  · intro h
    cases h with
    | start => exact .inl ⟨rfl, rfl, rfl⟩
    | keep f h1 h2 => exact .inr (.inr ⟨_, _, rfl, rfl, h1, h2, f⟩)
    | xch f h1 h2 h3 h4 h5 => exact .inr (.inl ⟨_, _, _, f, h1, h2, h3, h4, h5, rfl⟩)
  · rintro (⟨rfl, rfl, rfl⟩ | ⟨g, k, d, f, h1, h2, h3, h4, h5, rfl⟩ | ⟨i', j', rfl, rfl, h1, h2, f⟩)
    · exact .start
    · exact .xch f h1 h2 h3 h4 h5
    · exact .keep f h1 h2
/-- no way costs more than this -/
theorem way_cost {i j c : Nat} (h : WayF a b once e i j c) : c ≤ i + j + e * i := by
  induction h with
  | start => exact Nat.zero_le _
  | @keep i j c _ _ _ ih =>
    have : e * i ≤ e * (i + 1) := Nat.mul_le_mul_left _ (Nat.le_succ _)
    omega
  | @xch i j c t k f h1 h2 h3 h4 h5 ih =>
    have : e * (i + 1) ≤ e * t := Nat.mul_le_mul_left _ h1
    rw [Nat.mul_succ] at this
    omega
def beyond (a b : List Nat) (e : Nat) : Nat := (a.length + b.length + 1) * (e + 1)
theorem way_below {i j c : Nat} (h : WayF a b once e i j c) : c < beyond a b e := by
  have h1 := way_cost h
  obtain ⟨h2, h3⟩ := h.in
  have h4 : e * i ≤ e * (a.length + b.length) := Nat.mul_le_mul_left _ (by omega)
  have h5 : beyond a b e = e * (a.length + b.length) + e + (a.length + b.length + 1) := by
    unfold beyond
    rw [Nat.mul_add, Nat.mul_one, Nat.mul_comm, Nat.mul_add, Nat.mul_one]
  omega
noncomputable def kF (a b : List Nat) (once : Nat → Nat → Prop) (e i j : Nat) : Nat := lstB (WayF a b once e i j) (beyond a b e)
noncomputable def gF (a b : List Nat) (once : Nat → Nat → Prop) (e i j : Nat) : Nat := lstB (Beg a b once e i j) (beyond a b e)
theorem kF_least (i j : Nat) : Least (WayF a b once e i j) (beyond a b e) (kF a b once e i j) := lstB_least _ _
theorem gF_least (i j : Nat) : Least (Beg a b once e i j) (beyond a b e) (gF a b once e i j) := lstB_least _ _
theorem kF_00 : kF a b once e 0 0 = 0 := by
  have := (kF_least (a := a) (b := b) (once := once) (e := e) 0 0).le 0 .start
  omega
/-- the row of kept letters: the window's price, or the letter is kept -/
theorem kF_rec {i j : Nat} (h : ¬ (i = 0 ∧ j = 0)) (hi : i ≤ a.length) : Least (WayF a b once e i j) (beyond a b e) (if 0 < i ∧ 0 < j ∧ a[i - 1]? = b[j - 1]? then min (gF a b once e i j) (kF a b once e (i - 1) (j - 1)) else gF a b once e i j) := by
  have g := gF_least (a := a) (b := b) (once := once) (e := e) i j
  have kk := kF_least (a := a) (b := b) (once := once) (e := e) (i - 1) (j - 1)
  by_cases c : 0 < i ∧ 0 < j ∧ a[i - 1]? = b[j - 1]?
  · rw [if_pos c]
    obtain ⟨c1, c2, c3⟩ := c
    refine ⟨fun l => ?_, fun d hd => ?_, Nat.le_trans (Nat.min_le_left _ _) g.top⟩
    · rcases Nat.le_total (gF a b once e i j) (kF a b once e (i - 1) (j - 1)) with m | m
      · rw [Nat.min_eq_left m] at l ⊢
        exact way_last.mpr (.inr (.inl (g.is l)))
      · rw [Nat.min_eq_right m] at l ⊢
        exact way_last.mpr (.inr (.inr ⟨i - 1, j - 1, by omega, by omega, by omega, c3, kk.is l⟩))
    · rcases way_last.mp hd with ⟨z1, z2, _⟩ | z | ⟨i', j', rfl, rfl, _, _, f⟩
      · exact absurd ⟨z1, z2⟩ h
      · exact Nat.le_trans (Nat.min_le_left _ _) (g.le _ z)
      · exact Nat.le_trans (Nat.min_le_right _ _) (kk.le _ f)
  · rw [if_neg c]
    refine ⟨fun l => way_last.mpr (.inr (.inl (g.is l))), fun d hd => ?_, g.top⟩
    rcases way_last.mp hd with ⟨z1, z2, _⟩ | z | ⟨i', j', rfl, rfl, _, z, f⟩
    · exact absurd ⟨z1, z2⟩ h
    · exact g.le _ z
    · exact absurd ⟨by omega, by omega, z⟩ c
theorem kF_eq {i j : Nat} (h : ¬ (i = 0 ∧ j = 0)) (hi : i ≤ a.length) : kF a b once e i j = if 0 < i ∧ 0 < j ∧ a[i - 1]? = b[j - 1]? then min (gF a b once e i j) (kF a b once e (i - 1) (j - 1)) else gF a b once e i j := (kF_rec h hi).eq
/-- once: what holds a window that stands once stands once; the least end from a beginning -/
structure OnceOk (a : List Nat) (once : Nat → Nat → Prop) (le : Nat → Option Nat) : Prop where
  isE : ∀ g t, le g = some t → g < t ∧ t ≤ a.length ∧ once g t
  least : ∀ g t, g < t → t ≤ a.length → once g t → ∃ u, le g = some u ∧ u ≤ t
  more : ∀ g t u, g < t → t ≤ u → u ≤ a.length → once g t → once g u
/-- the row of windows: those that begin to stand once here, or a longer one, or a longer text -/
theorem gF_rec {le : Nat → Option Nat} (ok : OnceOk a once le) {i j v : Nat} (hi : i ≤ a.length) (hj : j ≤ b.length)
    (top : v ≤ beyond a b e)
    (le1 : ∀ g, le g = some i → v ≤ kF a b once e g j + (i - g) + e) (le2 : 0 < i → v ≤ gF a b once e (i - 1) j + 1) (le3 : 0 < j → v ≤ gF a b once e i (j - 1) + 1)
    (is : v < beyond a b e → (∃ g, le g = some i ∧ v = kF a b once e g j + (i - g) + e) ∨ (0 < i ∧ v = gF a b once e (i - 1) j + 1) ∨ (0 < j ∧ v = gF a b once e i (j - 1) + 1)) : gF a b once e i j = v := by
  refine Least.eq ⟨fun l => ?_, fun c hc => ?_, top⟩
  · rcases is l with ⟨g, h1, rfl⟩ | ⟨h1, rfl⟩ | ⟨h1, rfl⟩
    · obtain ⟨q1, q2, q3⟩ := ok.isE _ _ h1
      have w := (kF_least (a := a) (b := b) (once := once) (e := e) g j).is (by omega)
      exact ⟨g, j, _, w, q1, hi, q3, Nat.le_refl _, hj, by omega⟩
    · obtain ⟨g, k, d, w, q1, q2, q3, q4, q5, q6⟩ := (gF_least (a := a) (b := b) (once := once) (e := e) (i - 1) j).is (by omega)
      exact ⟨g, k, d, w, by omega, hi, ok.more _ _ _ q1 (by omega) hi q3, q4, q5, by omega⟩
    · obtain ⟨g, k, d, w, q1, q2, q3, q4, q5, q6⟩ := (gF_least (a := a) (b := b) (once := once) (e := e) i (j - 1)).is (by omega)
      exact ⟨g, k, d, w, q1, hi, q3, by omega, hj, by omega⟩
  · obtain ⟨g, k, d, w, q1, q2, q3, q4, q5, rfl⟩ := hc
    rcases Nat.lt_or_ge k j with h | h
    · have := (gF_least (a := a) (b := b) (once := once) (e := e) i (j - 1)).le _ ⟨g, k, d, w, q1, q2, q3, by omega, by omega, rfl⟩
      have := le3 (by omega)
      omega
    · obtain rfl : k = j := by omega
      obtain ⟨u, hu, ul⟩ := ok.least _ _ q1 q2 q3
      rcases Nat.lt_or_ge u i with h2 | h2
      · obtain ⟨p1, p2, p3⟩ := ok.isE _ _ hu
        have := (gF_least (a := a) (b := b) (once := once) (e := e) (i - 1) k).le _ ⟨g, k, d, w, by omega, by omega, ok.more _ _ _ p1 (by omega) (by omega) p3, Nat.le_refl _, hj, rfl⟩
        have := le2 (by omega)
        omega
      · obtain rfl : u = i := by omega
        have := (kF_least (a := a) (b := b) (once := once) (e := e) g k).le _ w
        have := le1 g hu
        omega
end
end Vk
set_option Elab.async false
set_option maxRecDepth 100000
set_option linter.all false
set_option maxHeartbeats 4000000
namespace Vk
open PySem PySem.Spec PyProof.Rows L2
section
variable {P : Program} {w : World} {K : PySem.W.Frag} {mg : Str → Option Value} {base : Heap}
/-- what stands for an end -/
def endV (x : Str) (e : Nat) : V := if e ≤ x.length then .int (e : Nat) else .non
def spEnds : Sp := fun vs H Q _ => ∃ x, vs = [.str x] ∧ x.length ≤ 100 ∧ ∀ (a : Addr) (es : List Nat) H', H a = none → H' a = some (.lst (es.map (endV x))) → es.length = x.length → (∀ i e, es[i]? = some e → Lend x i e) → Same H H' → Q (.ref a) H'
abbrev s_least_ends : Stmt := top 6
theorem sc_least_ends : FnScope ["text", "told", "end", "begin"] ["text"] (defScope s_least_ends) := ⟨rfl, rfl, rfl, by decide +kernel, rfl, by decide +kernel, by decide +kernel⟩
theorem b_least_ends {f : Addr} {fd : FuncData} (F : Fun K "least_ends" "least_ends" s_least_ends f fd) (T : Txt mg) (c_stands_twice : CalG P w K mg base CX0 1 "stands_twice" spTwice) : FnG P w K mg base CX0 2 f fd ["text"] spEnds := by
  refine okG0 F sc_least_ends (fun vs H Q E h => ?_) (fun cdv A outer s H vs Q E hg hr h => ?_)
  · obtain ⟨x, rfl, _⟩ := h
    rfl
  · have hu := hu_of hr
    have hu64 := hr.units
    obtain ⟨x, rfl, hx, k⟩ := h
    have hr1 : Room 1 _ := hr
    have xl : x.length ≤ sizeLine := Nat.le_of_lt (fewL (by omega))
    refine ⟨_, (pss_cons (ps_set (i := 1) sc_least_ends.nd rfl (Or.inl rfl) (pe_lst pa_nil))
      (pss_cons (ps_set (i := 2) sc_least_ends.nd rfl (Or.inl rfl) pe_int)
      (pss_cons (ps_for PassesOwn.never rfl (pi_range1 rfl T.range (pa_cons (pe_callB call_len (by rfl) T.len (by decide +kernel) (pa_cons (pv 0) pa_nil)) pa_nil)) (pg_name (i := 3) sc_least_ends.nd rfl (Or.inl rfl)) (pss_cons (ps_set (i := 2) sc_least_ends.nd rfl (Or.inl rfl) (pe_callB (call_max2 rfl) (by rfl) T.max (by decide +kernel) (pa_cons (pv 2) (pa_cons (pe_op op_add (pv 3) pe_int) pa_nil))))
      (pss_cons (ps_while PassesOwn.never (PW.pt (pw_and (pt_cmpR op_le (pv 2) (pe_callB call_len (by rfl) T.len (by decide +kernel) (pa_cons (pv 0) pa_nil)) (nomark _)) (pw_and1 (pt_val (pe_cG c_stands_twice hg hr (by decide) pass0 (pa_cons (pv 0) (pa_cons (pe_slice sl_str (pv 0) (po_some (pv 3)) (po_some (pv 2))) pa_nil))))))) (pss_one (ps_aug (i := 2) sc_least_ends.nd rfl (Or.inl rfl) pe_int ip_add)))
      (pss_one (ps_expr (pe_bm PySem.F.plainAttrs_list PySem.F.slot_list_append PySem.F.type_list_append mt_append (pv 1) (pa_cons (pe_ifExp (pt_cmpR op_le (pv 2) (pe_callB call_len (by rfl) T.len (by decide +kernel) (pa_cons (pv 0) pa_nil)) (nomark _)) (pv 2) pe_non) pa_nil)))))))
      (pss_one (ps_ret (pv 1)))))), ?_⟩
    refine ⟨by show 0 ≤ sizeLine; decide, fun a ha => ?_⟩
    have sa := same_new (o := .lst []) ha
    refine ⟨_, rfl, _, _, rfl, ⟨xl, rfl⟩, _, rfl, by omega, by omega, ?_⟩
    refine for_range (lo := 0) (n := ((x.length : Nat) : Int).toNat) (fun i σ H' => ∃ (o3 : Option V) (e0 : Nat) (es : List Nat), σ = [some (.str x), some (.ref a), some (.int (e0 : Nat)), o3] ∧ H' a = some (.lst (es.map (endV x))) ∧ es.length = i ∧ (∀ j e, es[j]? = some e → Lend x j e) ∧ Same H H' ∧ ((i = 0 ∧ e0 = 0) ∨ (1 ≤ i ∧ Lend x (i - 1) e0))) ?_ ?_ ?_
    · exact ⟨_, 0, [], rfl, upd_same, rfl, (fun j e h => by cases h), sa, .inl ⟨rfl, rfl⟩⟩
    · rintro i σ H2 hi ⟨o3, e0, es, rfl, ha2, el, le, s2, h0⟩
      have hi1 : i < x.length := by omega
      rw [Int.zero_add]
      refine ⟨_, rfl, _, rfl, _, _, rfl, rfl, _, _, rfl, ?_⟩
      have em : (if ((i : Nat) : Int) + 1 > ((e0 : Nat) : Int) then ((i : Nat) : Int) + 1 else ((e0 : Nat) : Int)) = ((max e0 (i + 1) : Nat) : Int) := by split <;> omega
      rw [em]
      have hm1 : i < max e0 (i + 1) := by omega
      have hm2 : max e0 (i + 1) ≤ x.length + 1 := by
        rcases h0 with h0 | h0
        · omega
        · have := h0.2.le; omega
      have tw0 : ∀ b, i < b → b < max e0 (i + 1) → b ≤ x.length → twB x i b = true := fun b b1 b2 b3 => by
        rcases h0 with h0 | h0
        · omega
        · have q := h0.2.next b
          rw [show i - 1 + 1 = i by omega, show i - 1 + 2 = i + 1 by omega] at q
          exact q b1 b2 b3
      obtain ⟨r1, r2, r3, r4⟩ := lendF_spec (x := x) (a := i) (x.length + 1) (max e0 (i + 1)) hm1 (by omega) tw0
      have L : Lend x i (lendF x i (x.length + 1) (max e0 (i + 1))) := ⟨by omega, r4 hm2, r2, r3⟩
      generalize hR : lendF x i (x.length + 1) (max e0 (i + 1)) = R at L
      clear r1 r2 r3 r4
      refine ⟨fun m σ H' => ∃ e f, σ = [some (.str x), some (.ref a), some (.int (e : Nat)), some (.int (i : Nat))] ∧ H' = H2 ∧ lendF x i f e = R ∧ x.length + 1 ≤ e + f ∧ i < e ∧ m = x.length + 1 - e, ⟨_, _, _, rfl, rfl, hR, by omega, hm1, rfl⟩, ?_⟩
      rintro m σ H3 ⟨e, f, rfl, rfl, eR, ef, ie, rfl⟩
      refine ⟨_, rfl, _, rfl, _, _, rfl, ⟨xl, rfl⟩, _, _, rfl, rfl, _, rfl, ?_⟩
      by_cases cond : e ≤ x.length ∧ twB x i e = true
      · rw [decide_eq_true (show ((e : Nat) : Int) ≤ ((x.length : Nat) : Int) by omega)]
        refine iteT ⟨_, rfl, _, rfl, _, rfl, _, rfl, _, rfl, _, rfl, x, rfl, xl, x, _, rfl, _, rfl, ?_⟩
        rw [show decide (2 ≤ (plc x (cutS x (some ((i : Nat) : Int)) (some ((e : Nat) : Int)))).length) = twB x i e from rfl, cond.2]
        refine iteT ⟨fun σ' H' => σ' = [some (.str x), some (.ref a), some (.int ((e + 1 : Nat) : Int)), some (.int (i : Nat))] ∧ H' = H3, ?_, ?_⟩
        · rintro σ' H' ⟨rfl, rfl⟩
          cases f with
          | zero => omega
          | succ f => exact ⟨_, (by omega : x.length + 1 - (e + 1) < x.length + 1 - e), e + 1, f, rfl, rfl, (lendF_step cond).symm.trans eR, by omega, by omega, rfl⟩
        · exact ⟨_, rfl, _, _, rfl, rfl, rfl, rfl⟩
      · have eq : e = R := by rw [← eR, lendF_stop cond]
        refine' or_both (R := ?oR) ?oa ?ob ?oc
        case oa =>
          intro hc hR
          refine ⟨_, rfl, _, rfl, _, rfl, _, rfl, _, rfl, _, rfl, x, rfl, xl, x, _, rfl, _, rfl, ?_⟩
          have el2 : e ≤ x.length := Int.ofNat_le.mp (of_decide_eq_true hc)
          rw [show decide (2 ≤ (plc x (cutS x (some ((i : Nat) : Int)) (some ((e : Nat) : Int)))).length) = twB x i e from rfl]
          cases q : twB x i e with
          | true => exact absurd ⟨el2, q⟩ cond
          | false =>
            refine iteF ?_
            exact hR
        case ob =>
          intro hc hR
          exact hR
        case oc =>
          subst eq
          refine ⟨_, rfl, .inl ⟨rfl, _, SqL.of ha2⟩, _, rfl, _, rfl, _, _, rfl, ⟨xl, rfl⟩, _, _, rfl, rfl, _, rfl, ?_⟩
          have snoc : ∀ v, v = endV x e → es.map (endV x) ++ [v] = (es ++ [e]).map (endV x) := fun v hv => by rw [List.map_append, hv]; rfl
          have fin : ∀ j e', (es ++ [e])[j]? = some e' → Lend x j e' := fun j e' h => by
            by_cases hj : j < es.length
            · rw [List.getElem?_append_left hj] at h
              exact le j e' h
            · have ej : j = i := by
                have := (List.getElem?_eq_some_iff.mp h).1
                rw [List.length_append, List.length_singleton] at this
                omega
              subst ej
              rw [List.getElem?_append_right (by omega), el, Nat.sub_self] at h
              cases h
              exact L
          by_cases c : e ≤ x.length
          · rw [decide_eq_true (show ((e : Nat) : Int) ≤ ((x.length : Nat) : Int) by omega)]
            refine iteT ⟨_, rfl, a, _, _, rfl, rfl, ha2, fewL (by rw [List.length_map]; omega), _, e, es ++ [e], rfl, ?_, by rw [List.length_append, el]; rfl, fin, upd_out ha s2, .inr ⟨by omega, L⟩⟩
            rw [upd_same, snoc _ (by unfold endV; rw [if_pos c])]
          · rw [decide_eq_false (show ¬ ((e : Nat) : Int) ≤ ((x.length : Nat) : Int) by omega)]
            refine iteF ⟨a, _, _, rfl, rfl, ha2, fewL (by rw [List.length_map]; omega), _, e, es ++ [e], rfl, ?_, by rw [List.length_append, el]; rfl, fin, upd_out ha s2, .inr ⟨by omega, L⟩⟩
            rw [upd_same, snoc _ (by unfold endV; rw [if_neg c])]
    · rintro σ H2 ⟨o3, e0, es, rfl, ha2, el, le, s2, h0⟩
      rw [Int.toNat_natCast] at el
      exact ⟨_, rfl, k a es H2 ha ha2 el le s2⟩

end
end Vk
set_option Elab.async false
set_option maxRecDepth 100000
set_option maxHeartbeats 4000000
set_option linter.all false
namespace Vk
open PySem PySem.Spec PyProof.Rows L2
/-! ## for i, c in enumerate(x), x a text -/
/-! ## loops over these -/
theorem for_enumL {K : PySem.W.Frag} {a : Addr} {xs : List V} {g : TG} {tb : TS} {D : Ends} {σ : L2.St} {H : Hp} (Pv : Nat → L2.St → Hp → Prop) (h0 : Pv 0 σ H) (hl : ∀ i σ H, i ≤ xs.length → Pv i σ H → SqL K H a xs)
    (hs : ∀ i v σ H T, xs[i]? = some v → H T = none → Pv i σ H → g (.ref T) σ (upd H T (.tup [.int (i : Nat), v])) fun σ2 H2 => tb { D with nx := Pv (i + 1), ct := Pv (i + 1), bk := D.nx } σ2 H2) (hd : ∀ σ H, Pv xs.length σ H → D.nx σ H) :
    ∃ W : Nat → Nat → L2.St → Hp → Prop, (∃ m, W 0 m σ H) ∧ ∀ i m σ H, W i m σ H →
      ((Ite K a).stop i H ∧ D.nx σ H) ∨ ((Ite K a).go i H ∧ ∃ N : L2.St → Hp → Prop, (∀ σ' H', N σ' H' → ∃ m', m' < m ∧ W (i + 1) m' σ' H') ∧ ∀ x1 H', (Ite K a).yld i H x1 H' → g x1 σ H' fun σ2 H2 => tb { D with nx := N, ct := N, bk := D.nx } σ2 H2) := by
  refine ⟨fun i m σ H => m = xs.length - i ∧ i ≤ xs.length ∧ Pv i σ H, ⟨xs.length, by simp, Nat.zero_le _, h0⟩, ?_⟩
  rintro i m σ H ⟨rfl, hi, p⟩
  have q := hl i σ H hi p
  by_cases hlt : i < xs.length
  · refine .inr ⟨⟨xs, xs[i], q, by simp [hlt]⟩, Pv (i + 1), fun σ' H' p' => ⟨xs.length - (i + 1), by omega, rfl, hlt, p'⟩, ?_⟩
    rintro x1 H' ⟨T, v, rfl, hT, rfl, hv⟩
    exact hs i v σ H T (hv xs q) hT p
  · have e : i = xs.length := by omega
    subst e
    exact .inl ⟨⟨xs, q, Nat.le_refl _⟩, hd σ H p⟩
end Vk
set_option Elab.async false
set_option maxRecDepth 100000
set_option linter.all false
set_option maxHeartbeats 4000000
namespace Vk
open PySem PySem.Spec PyProof.Rows L2
def onceX (x : Str) (g t : Nat) : Prop := twB x g t = false
def leE (x : Str) (es : List Nat) (g : Nat) : Option Nat := match es[g]? with | some e => if e ≤ x.length then some e else none | none => none
theorem onceOk_es {x : Str} {es : List Nat} (el : es.length = x.length) (le : ∀ i e, es[i]? = some e → Lend x i e) : OnceOk x.cps.toList (onceX x) (leE x es) := by
  have l : x.cps.toList.length = x.length := Array.length_toList
  refine ⟨fun g t h => ?_, fun g t h1 h2 h3 => ?_, fun g t u h1 h2 h3 h4 => ?_⟩
  · unfold leE at h
    cases q0 : es[g]? with
    | none => rw [q0] at h; cases h
    | some e0 =>
      rw [q0] at h
      dsimp only at h
      by_cases c : e0 ≤ x.length
      · rw [if_pos c] at h
        cases h
        have q := le g _ q0
        exact ⟨q.gt, by omega, q.once c⟩
      · rw [if_neg c] at h
        cases h
  · rw [l] at h2
    have hg : g < es.length := by omega
    have q := le g es[g] (List.getElem?_eq_getElem hg)
    have z : es[g] ≤ t := (q.iff h1 h2).mp h3
    refine ⟨es[g], ?_, z⟩
    unfold leE
    rw [List.getElem?_eq_getElem hg]
    show (if es[g] ≤ x.length then _ else _) = _
    rw [if_pos (by omega)]
  · rw [l] at h3
    unfold onceX at h4 ⊢
    cases e2 : twB x g u with
    | false => rfl
    | true =>
      have t2 := (twB_iff (by omega) h3).mp e2
      have := (twB_iff (by omega) (by omega)).mpr (t2.less (Nat.le_refl _) (by omega) h2)
      rw [h4] at this
      cases this
/-- where windows that end here begin -/
def begs (es : List Nat) (n t : Nat) : List Nat := (List.range n).filter fun g => decide (es[g]? = some t)
theorem begs_snoc {es : List Nat} {n t : Nat} : begs es (n + 1) t = if es[n]? = some t then begs es n t ++ [n] else begs es n t := by
  unfold begs
  rw [List.range_succ, List.filter_append]
  by_cases h : es[n]? = some t
  · rw [if_pos h]; simp [h]
  · rw [if_neg h]; simp [h]
/-- the lists of beginnings -/
structure OpenL (H : Hp) (a : Addr) (es : List Nat) (n k : Nat) : Prop where
  ex : ∃ us : List Addr, H a = some (.lst (us.map V.ref)) ∧ us.length = n + 1 ∧ us.Nodup ∧ a ∉ us ∧ ∀ t u, us[t]? = some u → H u = some (.lst ((begs es k t).map fun g => V.int (g : Nat)))
theorem name_go {i : Nat} {x : V} {σ : L2.St} {H : Hp} {Q : L2.St → Hp → Prop} (h : Q (σ.set i (some x)) H) : gName i x σ H Q := h
section
variable {P : Program} {w : World} {K : PySem.W.Frag} {mg : Str → Option Value} {base : Heap}
def spOpen : Sp := fun vs H Q _ => ∃ x, vs = [.str x] ∧ x.length ≤ 100 ∧ ∀ (a : Addr) (es : List Nat) H', H a = none → es.length = x.length → (∀ i e, es[i]? = some e → Lend x i e) → OpenL H' a es x.length x.length → Same H H' → Q (.ref a) H'
abbrev s_openings : Stmt := top 8
theorem sc_openings : FnScope ["text", "told", "_", "begin", "end"] ["text"] (defScope s_openings) := ⟨rfl, rfl, rfl, by decide +kernel, rfl, by decide +kernel, by decide +kernel⟩
theorem b_openings {f : Addr} {fd : FuncData} (F : Fun K "openings" "openings" s_openings f fd) (T : Txt mg) (c_least_ends : CalG P w K mg base CX0 2 "least_ends" spEnds) : FnG P w K mg base CX0 3 f fd ["text"] spOpen := by
  refine okG0 F sc_openings (fun vs H Q E h => ?_) (fun cdv A outer s H vs Q E hg hr h => ?_)
  · obtain ⟨x, rfl, _⟩ := h
    rfl
  · have hu := hu_of hr
    have hu64 := hr.units
    obtain ⟨x, rfl, hx, k⟩ := h
    have xl : x.length ≤ sizeLine := Nat.le_of_lt (fewL (by omega))
    refine ⟨_, (pss_cons (ps_setLc (i := 1) (own := [("_", 2)]) (g := gName 2) (tt := tYes) rfl sc_openings.nd rfl rfl (sw_true rfl rfl rfl (by decide +kernel)) (pi_range1 rfl T.range (pa_cons (pe_op op_add (pe_callB call_len (by rfl) T.len (by decide +kernel) (pa_cons (pv 0) pa_nil)) pe_int) pa_nil)) (blkOk_by (own := [("_", 2)]) (N := ["text", "told", "_", "begin", "end"]) (sc := defScope s_openings) (by decide +kernel)) (fun _ _ _ _ _ => (pg_name (i := 2) sc_openings.nd rfl (Or.inl rfl))) (fun _ _ _ _ _ => pts_nil) (fun _ _ _ _ _ => (pe_lst pa_nil)))
      (pss_cons (ps_for PassesOwn.never rfl (pi_enum (by rfl) T.enumerate (pa_cons (pe_cG c_least_ends hg hr (by decide) pass0 (pa_cons (pv 0) pa_nil)) pa_nil)) (pg_tup rfl (pgs_cons (pg_name (i := 3) sc_openings.nd rfl (Or.inl rfl)) (pgs_cons (pg_name (i := 4) sc_openings.nd rfl (Or.inl rfl)) pgs_nil))) (pss_one (ps_if (pt_cmpR op_notN (pv 4) pe_non (nomark _)) (pss_one (ps_expr (pe_bm PySem.F.plainAttrs_list PySem.F.slot_list_append PySem.F.type_list_append mt_append (pe_ix ix_list (pv 1) (pv 4) (fun _ _ => rfl)) (pa_cons (pv 3) pa_nil)))) pss_nil)))
      (pss_one (ps_ret (pv 1))))), ?_⟩
    refine ⟨_, rfl, _, _, rfl, ⟨xl, rfl⟩, _, _, rfl, rfl, _, rfl, by omega, by omega, fun a ha => ?_⟩
    refine lc_range (lo := 0) (n := (((x.length : Nat) : Int) + 1).toNat) (fun i H' => ∃ us : List Addr, H' a = some (.lst (us.map V.ref)) ∧ us.length = i ∧ us.Nodup ∧ a ∉ us ∧ (∀ u ∈ us, H' u = some (.lst [])) ∧ (∀ u ∈ us, H u = none) ∧ Same H H') ?_ ?_ ?_
    · exact ⟨[], upd_same, rfl, .nil, List.not_mem_nil, fun u hu => absurd hu List.not_mem_nil, fun u hu => absurd hu List.not_mem_nil, same_new ha⟩
    · rintro i H1 hi ⟨us, h1, h2, h3, h4, h5, h6, s1⟩
      refine ⟨rfl, by show 0 ≤ sizeLine; decide, fun u hu => ?_⟩
      have su := same_new (o := .lst []) hu
      have nu : u ∉ us := fun z => by rw [h5 u z] at hu; cases hu
      have na : u ≠ a := fun z => by rw [z, h1] at hu; cases hu
      refine ⟨_, su _ _ h1, fewL (by rw [List.length_map]; omega), us ++ [u], ?_, by rw [List.length_append, h2]; rfl, ?_, ?_, fun v hv => ?_, fun v hv => ?_, upd_out ha (s1.trans su)⟩
      · rw [upd_same, List.map_append]; rfl
      · rw [List.nodup_append]
        exact ⟨h3, by simp, fun p hp q hq e => by rw [List.mem_singleton.mp hq] at e; rw [e] at hp; exact nu hp⟩
      · intro z
        rcases List.mem_append.mp z with z | z
        · exact h4 z
        · exact na (List.mem_singleton.mp z).symm
      · rcases List.mem_append.mp hv with hv | hv
        · rw [upd_ne (fun z => h4 (by rw [← z]; exact hv))]
          exact su _ _ (h5 v hv)
        · rw [List.mem_singleton.mp hv, upd_ne na]
          exact upd_same
      · rcases List.mem_append.mp hv with hv | hv
        · exact h6 v hv
        · rw [List.mem_singleton.mp hv]
          exact none_up s1 hu
    · rintro H1 ⟨us, h1, h2, h3, h4, h5, h6, s1⟩
      refine name_go ⟨_, rfl, x, rfl, hx, fun b es H3 hb hb3 el le s3 => ⟨b, _, rfl, SqL.of hb3, ?_⟩⟩
      have nb : b ∉ us := fun z => by rw [h5 b z] at hb; cases hb
      have nba : b ≠ a := fun z => by rw [z, h1] at hb; cases hb
      refine for_enumL (K := K) (a := b) (xs := es.map (endV x)) (fun i σ H' => ∃ (o2 o3 o4 : Option V), σ = [some (.str x), some (.ref a), o2, o3, o4] ∧ H' a = some (.lst (us.map V.ref)) ∧ (∀ t u, us[t]? = some u → H' u = some (.lst ((begs es i t).map fun g => V.int (g : Nat)))) ∧ H' b = some (.lst (es.map (endV x))) ∧ Same H H') ?_ ?_ ?_ ?_
      · exact ⟨_, _, _, rfl, s3 _ _ h1, fun t u e => s3 _ _ (h5 u (List.mem_of_getElem? e)), hb3, s1.trans s3⟩
      · rintro i σ H' _ ⟨o2, o3, o4, rfl, _, _, q, _⟩
        exact SqL.of q
      · rintro i v σ H4 U hv hU ⟨o2, o3, o4, rfl, ha4, hu4, hb4, s4⟩
        rw [List.getElem?_map] at hv
        obtain ⟨e, he, rfl⟩ := Option.map_eq_some_iff.mp hv
        have sU := same_new (o := .tup [.int (i : Nat), endV x e]) hU
        refine ⟨U, _, rfl, SqT.of upd_same, rfl, _, _, rfl, _, _, rfl, rfl, ?_⟩
        replace ha4 := sU _ _ ha4
        replace hb4 := sU _ _ hb4
        replace s4 := s4.trans sU
        replace hu4 := fun t u q => sU _ _ (hu4 t u q)
        generalize upd H4 U (.tup [.int (i : Nat), endV x e]) = H5 at ha4 hb4 s4 hu4 ⊢
        have ul : us.length = x.length + 1 := by rw [h2]; omega
        by_cases c : e ≤ x.length
        · rw [show endV x e = .int (e : Nat) from if_pos c]
          refine ⟨_, rfl, rfl, _, rfl, ?_⟩
          rw [show decide (V.int ((e : Nat) : Int) = V.non) = false from decide_eq_false nofun]
          obtain ⟨u, hue⟩ : ∃ u, us[e]? = some u := ⟨us[e]'(by omega), List.getElem?_eq_getElem (by omega)⟩
          have um := List.mem_of_getElem? hue
          have hu := hu4 e u hue
          have at1 : atI (us.map V.ref) ((e : Nat) : Int) = some (.ref u) := atI_nat (by rw [List.getElem?_map, hue]; rfl)
          have bl : (begs es i e).length ≤ i := Nat.le_trans (List.length_filter_le _ _) (Nat.le_of_eq List.length_range)
          have il : i < es.length := (List.getElem?_eq_some_iff.mp he).1
          refine iteT ⟨_, rfl, _, rfl, a, _, _, .ref u, rfl, rfl, SqL.of ha4, at1, .inl ⟨rfl, _, SqL.of hu⟩, _, rfl, u, _, _, rfl, rfl, hu, fewL (by rw [List.length_map]; omega), ?_⟩
          refine ⟨_, _, _, rfl, ?_, fun t u' q => ?_, ?_, upd_out (h6 u um) s4⟩
          · rw [upd_ne (fun z => h4 (by rw [z]; exact um))]
            exact ha4
          · by_cases eu : u' = u
            · subst eu
              have te : t = e := (List.getElem?_inj (by have := (List.getElem?_eq_some_iff.mp q).1; exact this) h3).mp (q.trans hue.symm)
              subst te
              rw [upd_same, begs_snoc, if_pos he, List.map_append]
              rfl
            · rw [upd_ne eu, begs_snoc, if_neg (fun z => eu (by
                rw [he] at z
                cases z
                rw [hue] at q
                exact (Option.some.inj q).symm))]
              exact hu4 t u' q
          · rw [upd_ne (fun z => nb (by rw [z]; exact um))]
            exact hb4
        · rw [show endV x e = .non from if_neg c]
          refine ⟨_, rfl, rfl, _, rfl, ?_⟩
          rw [show decide (V.non = V.non) = true from decide_eq_true rfl]
          refine iteF ⟨_, _, _, rfl, ha4, fun t u q => ?_, hb4, s4⟩
          rw [begs_snoc, if_neg (fun z => c (by
            rw [he] at z
            cases z
            have := (List.getElem?_eq_some_iff.mp q).1
            omega))]
          exact hu4 t u q
      · rintro σ H' ⟨o2, o3, o4, rfl, q1, q2, q3, q4⟩
        rw [List.length_map, el] at q2
        exact ⟨_, rfl, k a es H' ha el le ⟨us, q1, by rw [h2]; omega, h3, h4, q2⟩ q4⟩
end
end Vk
set_option Elab.async false
set_option maxRecDepth 100000
set_option linter.all false
set_option maxHeartbeats 4000000
namespace Vk
open PySem PySem.Spec PyProof.Rows L2
theorem leE_es {x : Str} {es : List Nat} {g i : Nat} : leE x es g = some i ↔ es[g]? = some i ∧ i ≤ x.length := by
  unfold leE
  cases q : es[g]? with
  | none => constructor
            · intro h; cases h
            · rintro ⟨h, _⟩; cases h
  | some w0 =>
    dsimp only
    by_cases c : w0 ≤ x.length
    · rw [if_pos c]
      constructor
      · intro h; cases h; exact ⟨rfl, c⟩
      · rintro ⟨h, _⟩; exact h
    · rw [if_neg c]
      constructor
      · intro h; cases h
      · rintro ⟨h, z⟩; cases h; exact absurd z c
/-- the least of the prices that price_tables lists is the window's price -/
theorem min_g {x y : Str} {es : List Nat} {e i j : Nat} (el : es.length = x.length) (le : ∀ i e, es[i]? = some e → Lend x i e) (hi : i ≤ x.length) (hj : j ≤ y.length) {m : Int}
    (hm : m ∈ ((beyond x.cps.toList y.cps.toList e : Nat) : Int) :: (((begs es x.length i).map fun g => ((kF x.cps.toList y.cps.toList (onceX x) e g j : Nat) : Int) + (0 + ((i : Nat) : Int)) - ((g : Nat) : Int) + ((e : Nat) : Int)) ++ (if 0 < i then [((gF x.cps.toList y.cps.toList (onceX x) e (i - 1) j : Nat) : Int) + 1] else []) ++ (if 0 < j then [((gF x.cps.toList y.cps.toList (onceX x) e i (j - 1) : Nat) : Int) + 1] else [])))
    (hl : ∀ v ∈ ((beyond x.cps.toList y.cps.toList e : Nat) : Int) :: (((begs es x.length i).map fun g => ((kF x.cps.toList y.cps.toList (onceX x) e g j : Nat) : Int) + (0 + ((i : Nat) : Int)) - ((g : Nat) : Int) + ((e : Nat) : Int)) ++ (if 0 < i then [((gF x.cps.toList y.cps.toList (onceX x) e (i - 1) j : Nat) : Int) + 1] else []) ++ (if 0 < j then [((gF x.cps.toList y.cps.toList (onceX x) e i (j - 1) : Nat) : Int) + 1] else [])), m ≤ v) :
    m = ((gF x.cps.toList y.cps.toList (onceX x) e i j : Nat) : Int) := by
  have lx : x.cps.toList.length = x.length := Array.length_toList
  have ly : y.cps.toList.length = y.length := Array.length_toList
  have bg : ∀ g ∈ begs es x.length i, es[g]? = some i ∧ g < i := fun g hg => by
    have q := of_decide_eq_true (List.mem_filter.mp hg).2
    exact ⟨q, (le g i q).gt⟩
  have cs : m = ((beyond x.cps.toList y.cps.toList e : Nat) : Int) ∨ (∃ g, es[g]? = some i ∧ g < i ∧ m = ((kF x.cps.toList y.cps.toList (onceX x) e g j : Nat) : Int) + (0 + ((i : Nat) : Int)) - ((g : Nat) : Int) + ((e : Nat) : Int)) ∨ (0 < i ∧ m = ((gF x.cps.toList y.cps.toList (onceX x) e (i - 1) j : Nat) : Int) + 1) ∨ (0 < j ∧ m = ((gF x.cps.toList y.cps.toList (onceX x) e i (j - 1) : Nat) : Int) + 1) := by
    rcases List.mem_cons.mp hm with h | h
    · exact .inl h
    rcases List.mem_append.mp h with h | h
    · rcases List.mem_append.mp h with h | h
      · obtain ⟨g, hg, rfl⟩ := List.mem_map.mp h
        obtain ⟨q1, q2⟩ := bg g hg
        exact .inr (.inl ⟨g, q1, q2, rfl⟩)
      · by_cases c : 0 < i
        · rw [if_pos c] at h
          exact .inr (.inr (.inl ⟨c, List.mem_singleton.mp h⟩))
        · rw [if_neg c] at h
          cases h
    · by_cases c : 0 < j
      · rw [if_pos c] at h
        exact .inr (.inr (.inr ⟨c, List.mem_singleton.mp h⟩))
      · rw [if_neg c] at h
        cases h
  obtain ⟨v, rfl⟩ : ∃ v : Nat, m = (v : Nat) := ⟨m.toNat, by
    have : 0 ≤ m := by
      rcases cs with rfl | ⟨g, _, q, rfl⟩ | ⟨_, rfl⟩ | ⟨_, rfl⟩ <;> omega
    omega⟩
  have tp := hl _ List.mem_cons_self
  refine congrArg _ (gF_rec (onceOk_es el le) (by omega) (by omega) (by omega) (fun g hg => ?_) (fun h => ?_) (fun h => ?_) (fun h => ?_)).symm
  · obtain ⟨q1, q2⟩ := leE_es.mp hg
    have q3 := (le g i q1).gt
    have q4 := (List.getElem?_eq_some_iff.mp q1).1
    have gm : g ∈ begs es x.length i := List.mem_filter.mpr ⟨List.mem_range.mpr (by omega), decide_eq_true q1⟩
    have := hl _ (List.mem_cons_of_mem _ (List.mem_append_left _ (List.mem_append_left _ (List.mem_map.mpr ⟨g, gm, rfl⟩))))
    omega
  · have := hl _ (List.mem_cons_of_mem _ (List.mem_append_left _ (List.mem_append_right _ (by rw [if_pos h]; exact List.mem_singleton.mpr rfl))))
    omega
  · have := hl _ (List.mem_cons_of_mem _ (List.mem_append_right _ (by rw [if_pos h]; exact List.mem_singleton.mpr rfl)))
    omega
  · rcases cs with q | ⟨g, q1, q2, q3⟩ | ⟨q1, q2⟩ | ⟨q1, q2⟩
    · omega
    · exact .inl ⟨g, leE_es.mpr ⟨q1, hi⟩, by omega⟩
    · exact .inr (.inl ⟨q1, by omega⟩)
    · exact .inr (.inr ⟨q1, by omega⟩)
end Vk
set_option Elab.async false
set_option maxRecDepth 100000
set_option linter.all false
set_option maxHeartbeats 4000000
namespace Vk
open PySem PySem.Spec PyProof.Rows L2 StX
theorem seq_mid {A B : TS} {D : Ends} {σ : L2.St} {H : Hp} (Mid : L2.St → Hp → Prop) (h1 : ∀ D', (∀ σ H, Mid σ H → D'.nx σ H) → A D' σ H) (h2 : ∀ σ H, Mid σ H → B D σ H) : tSeq A B D σ H := h1 _ h2
theorem and_by {A B : TT} {σ : L2.St} {H : Hp} {k : Bool → Hp → Prop} {p q : Prop} [Decidable p] [Decidable q] (ha : ∀ k' : Bool → Hp → Prop, k' (decide p) H → A σ H k') (hb : p → ∀ k' : Bool → Hp → Prop, k' (decide q) H → B σ H k') (h : k (decide (p ∧ q)) H) : tAnd A B σ H k := by
  refine ha _ ?_
  by_cases c : p
  · rw [decide_eq_true c]
    refine iteT (hb c _ ?_)
    rw [show decide (p ∧ q) = decide q by simp [c]] at h
    exact h
  · rw [decide_eq_false c]
    rw [show decide (p ∧ q) = false by simp [c]] at h
    exact iteF h
theorem pos_by {σ : L2.St} {H : Hp} {n : Nat} {i : Nat} (h : σ[n]? = some (some (.int (0 + (i : Int))))) : ∀ k' : Bool → Hp → Prop, k' (decide (0 < i)) H → tTest (tOp (rI0 fun i j => V.bl (decide (j < i))) (tVar n) (tC (.int 0))) σ H k' := fun k' q => ⟨_, h, _, _, rfl, rfl, _, rfl, by
  rw [show decide ((0 : Int) < 0 + ((i : Nat) : Int)) = decide (0 < i) from decide_eq_decide.mpr (by omega)]
  exact q⟩
theorem nul_by {σ : L2.St} {H : Hp} {n : Nat} {i : Nat} (h : σ[n]? = some (some (.int (0 + (i : Int))))) : ∀ k' : Bool → Hp → Prop, k' (decide (i = 0)) H → tTest (tOp rEq (tVar n) (tC (.int 0))) σ H k' := fun k' q => ⟨_, h, rfl, _, rfl, by
  rw [show decide (V.int (0 + ((i : Nat) : Int)) = V.int 0) = decide (i = 0) from decide_eq_decide.mpr ⟨fun z => by have := V.int.inj z; omega, fun z => by rw [z]; rfl⟩]
  exact q⟩
theorem min_k {x y : Str} {e i j : Nat} (hi : i ≤ x.length) {m : Int}
    (hm : m ∈ (if i = 0 ∧ j = 0 then (0 : Int) else ((gF x.cps.toList y.cps.toList (onceX x) e i j : Nat) : Int)) :: (if 0 < i ∧ 0 < j ∧ x.cps.toList[i - 1]? = y.cps.toList[j - 1]? then [((kF x.cps.toList y.cps.toList (onceX x) e (i - 1) (j - 1) : Nat) : Int)] else []))
    (hl : ∀ v ∈ (if i = 0 ∧ j = 0 then (0 : Int) else ((gF x.cps.toList y.cps.toList (onceX x) e i j : Nat) : Int)) :: (if 0 < i ∧ 0 < j ∧ x.cps.toList[i - 1]? = y.cps.toList[j - 1]? then [((kF x.cps.toList y.cps.toList (onceX x) e (i - 1) (j - 1) : Nat) : Int)] else []), m ≤ v) : m = ((kF x.cps.toList y.cps.toList (onceX x) e i j : Nat) : Int) := by
  have lx : x.cps.toList.length = x.length := Array.length_toList
  by_cases z : i = 0 ∧ j = 0
  · obtain ⟨rfl, rfl⟩ := z
    rw [if_pos ⟨rfl, rfl⟩, if_neg (fun h => absurd h.1 (Nat.lt_irrefl _))] at hm
    rw [List.mem_singleton.mp hm, kF_00]
    rfl
  · rw [if_neg z] at hm hl
    rw [kF_eq z (by omega)]
    by_cases c : 0 < i ∧ 0 < j ∧ x.cps.toList[i - 1]? = y.cps.toList[j - 1]?
    · rw [if_pos c] at hm hl ⊢
      have h1 := hl _ List.mem_cons_self
      have h2 := hl _ (List.mem_cons_of_mem _ (List.mem_singleton.mpr rfl))
      rcases List.mem_cons.mp hm with h | h
      · omega
      · have h3 := List.mem_singleton.mp h
        omega
    · rw [if_neg c] at hm ⊢
      exact List.mem_singleton.mp hm
/-- the first n entries of a row of prices -/
def rowF (F : Nat → Nat → Nat) (i n : Nat) : List V := (List.range n).map fun j => V.int (F i j : Nat)
theorem rowF_len {F : Nat → Nat → Nat} {i n : Nat} : (rowF F i n).length = n := by unfold rowF; rw [List.length_map, List.length_range]
theorem rowF_at {F : Nat → Nat → Nat} {i n j : Nat} (h : j < n) : (rowF F i n)[j]? = some (.int (F i j : Nat)) := by
  unfold rowF
  rw [List.getElem?_map, List.getElem?_range h]
  rfl
theorem rowF_snoc {F : Nat → Nat → Nat} {i n : Nat} : rowF F i n ++ [.int (F i n : Nat)] = rowF F i (n + 1) := by
  unfold rowF
  rw [List.range_succ, List.map_append]
  rfl
/-- n rows of prices, m of each -/
structure Tab (H : Hp) (a : Addr) (F : Nat → Nat → Nat) (n m : Nat) : Prop where
  ex : ∃ us : List Addr, H a = some (.lst (us.map V.ref)) ∧ us.length = n ∧ ∀ i u, us[i]? = some u → H u = some (.lst (rowF F i m))
theorem Tab.row {H : Hp} {a : Addr} {F : Nat → Nat → Nat} {n m : Nat} (t : Tab H a F n m) {i : Nat} (h : i < n) : ∃ (us : List Addr) (u : Addr), H a = some (.lst (us.map V.ref)) ∧ atI (us.map V.ref) ((i : Nat) : Int) = some (.ref u) ∧ H u = some (.lst (rowF F i m)) := by
  obtain ⟨us, h1, h2, h3⟩ := t.ex
  have e : us[i]? = some (us[i]'(by omega)) := List.getElem?_eq_getElem (by omega)
  exact ⟨us, _, h1, atI_nat (by rw [List.getElem?_map, e]; rfl), h3 _ _ e⟩
theorem Tab.keep {H H1 : Hp} {a : Addr} {F : Nat → Nat → Nat} {n m : Nat} (t : Tab H a F n m) (s : Same H H1) : Tab H1 a F n m := by
  obtain ⟨us, h1, h2, h3⟩ := t.ex
  exact ⟨us, s _ _ h1, h2, fun i u h => s _ _ (h3 i u h)⟩
/-- another row -/
theorem Tab.snoc {H : Hp} {a u : Addr} {F : Nat → Nat → Nat} {n m : Nat} {us : List Addr} (h1 : H a = some (.lst (us.map V.ref))) (h2 : us.length = n) (h3 : ∀ i u, us[i]? = some u → H u = some (.lst (rowF F i m))) (hu : H u = some (.lst (rowF F n m))) (na : a ≠ u) (nn : a ∉ us) : Tab (upd H a (.lst (us.map V.ref ++ [.ref u]))) a F (n + 1) m := by
  refine ⟨us ++ [u], by rw [upd_same, List.map_append]; rfl, by rw [List.length_append, h2]; rfl, fun i v h => ?_⟩
  rcases Nat.lt_or_ge i us.length with l | l
  · rw [List.getElem?_append_left l] at h
    rw [upd_ne (fun z => nn (by rw [← z]; exact List.mem_of_getElem? h))]
    exact h3 i v h
  · rw [List.getElem?_append_right l] at h
    have e : i = n := by
      have := (List.getElem?_eq_some_iff.mp h).1
      rw [List.length_singleton] at this
      omega
    subst e
    rw [h2, Nat.sub_self] at h
    cases h
    rw [upd_ne na.symm]
    exact hu
theorem OpenL.keep {H H1 : Hp} {a : Addr} {es : List Nat} {n k : Nat} (o : OpenL H a es n k) (s : Same H H1) : OpenL H1 a es n k := by
  obtain ⟨us, h1, h2, h3, h4, h5⟩ := o.ex
  exact ⟨us, s _ _ h1, h2, h3, h4, fun t u h => s _ _ (h5 t u h)⟩
/-- a table under way: its rows are other things than the two tables -/
structure TabW (H : Hp) (a c : Addr) (F : Nat → Nat → Nat) (n m : Nat) (us : List Addr) : Prop where
  at' : H a = some (.lst (us.map V.ref))
  len : us.length = n
  row : ∀ i u, us[i]? = some u → H u = some (.lst (rowF F i m))
  na : a ∉ us
  nc : c ∉ us
theorem TabW.keep {H H1 : Hp} {a c : Addr} {F : Nat → Nat → Nat} {n m : Nat} {us : List Addr} (t : TabW H a c F n m us) (s : Same H H1) : TabW H1 a c F n m us := ⟨s _ _ t.at', t.len, fun i u h => s _ _ (t.row i u h), t.na, t.nc⟩
theorem TabW.tab {H : Hp} {a c : Addr} {F : Nat → Nat → Nat} {n m : Nat} {us : List Addr} (t : TabW H a c F n m us) : Tab H a F n m := ⟨us, t.at', t.len, t.row⟩
theorem TabW.snoc {H : Hp} {a c u : Addr} {F : Nat → Nat → Nat} {n m : Nat} {us : List Addr} (t : TabW H a c F n m us) (hu : H u = some (.lst (rowF F n m))) (na : a ≠ u) (nc : c ≠ u) : TabW (upd H a (.lst (us.map V.ref ++ [.ref u]))) a c F (n + 1) m (us ++ [u]) := by
  refine ⟨by rw [upd_same, List.map_append]; rfl, by rw [List.length_append, t.len]; rfl, fun i v h => ?_, fun h => ?_, fun h => ?_⟩
  · rcases Nat.lt_or_ge i us.length with l | l
    · rw [List.getElem?_append_left l] at h
      rw [upd_ne (fun z => t.na (by rw [← z]; exact List.mem_of_getElem? h))]
      exact t.row i v h
    · rw [List.getElem?_append_right l] at h
      have e : i = n := by
        have := (List.getElem?_eq_some_iff.mp h).1
        have := t.len
        rw [List.length_singleton] at *
        omega
      subst e
      rw [t.len, Nat.sub_self] at h
      cases h
      rw [upd_ne na.symm]
      exact hu
  · rcases List.mem_append.mp h with h | h
    · exact t.na h
    · exact na (List.mem_singleton.mp h)
  · rcases List.mem_append.mp h with h | h
    · exact t.nc h
    · exact nc (List.mem_singleton.mp h)
/-- another table is written: this one stays -/
theorem TabW.other {H : Hp} {a c : Addr} {F : Nat → Nat → Nat} {n m : Nat} {us : List Addr} {o : HO} (t : TabW H a c F n m us) (ac : a ≠ c) : TabW (upd H c o) a c F n m us := ⟨by rw [upd_ne ac]; exact t.at', t.len, fun i u h => by
  rw [upd_ne (fun z => t.nc (by rw [← z]; exact List.mem_of_getElem? h))]
  exact t.row i u h, t.na, t.nc⟩
section
variable {P : Program} {w : World} {K : PySem.W.Frag} {mg : Str → Option Value} {base : Heap}
noncomputable abbrev kX (x y : Str) (e : Nat) : Nat → Nat → Nat := kF x.cps.toList y.cps.toList (onceX x) e
noncomputable abbrev gX (x y : Str) (e : Nat) : Nat → Nat → Nat := gF x.cps.toList y.cps.toList (onceX x) e
def spPrices : Sp := fun vs H Q _ => ∃ (x y : Str) (e : Nat), vs = [.str x, .str y, .int (e : Nat)] ∧ x.length ≤ 100 ∧ y.length ≤ 100 ∧ e ≤ 100000 ∧ ∀ (t ak ab : Addr) (H' : Hp), H' t = some (.tup [.ref ak, .ref ab]) → Tab H' ak (kX x y e) (x.length + 1) (y.length + 1) → Tab H' ab (gX x y e) (x.length + 1) (y.length + 1) → Same H H' → Q (.ref t) H'
abbrev s_price_tables : Stmt := top 9
theorem sc_price_tables : FnScope ["one", "other", "each", "beyond", "begins", "kept", "begun", "i", "kept_row", "begun_row", "j", "told", "begin"] ["one", "other", "each"] (defScope s_price_tables) := ⟨rfl, rfl, rfl, by decide +kernel, rfl, by decide +kernel, by decide +kernel⟩
theorem b_price_tables {f : Addr} {fd : FuncData} (F : Fun K "price_tables" "price_tables" s_price_tables f fd) (T : Txt mg) (c_openings : CalG P w K mg base CX0 3 "openings" spOpen) : FnG P w K mg base CX0 4 f fd ["one", "other", "each"] spPrices := by
  refine okG0 F sc_price_tables (fun vs H Q E h => ?_) (fun cdv A outer s H vs Q E hg hr h => ?_)
  · obtain ⟨x, y, e, rfl, _⟩ := h
    rfl
  · have hu := hu_of hr
    have hu64 := hr.units
    obtain ⟨x, y, e, rfl, hx, hy, he, k⟩ := h
    have xl : x.length ≤ sizeLine := Nat.le_of_lt (fewL (by omega))
    have yl : y.length ≤ sizeLine := Nat.le_of_lt (fewL (by omega))
    have lx : x.cps.toList.length = x.length := Array.length_toList
    have ly : y.cps.toList.length = y.length := Array.length_toList
    refine ⟨_, (pss_cons (ps_set (i := 3) sc_price_tables.nd rfl (Or.inl rfl) (pe_op op_mul (pe_op op_add (pe_op op_add (pe_callB call_len (by rfl) T.len (by decide +kernel) (pa_cons (pv 0) pa_nil)) (pe_callB call_len (by rfl) T.len (by decide +kernel) (pa_cons (pv 1) pa_nil))) pe_int) (pe_op op_add (pv 2) pe_int)))
      (pss_cons (ps_set (i := 4) sc_price_tables.nd rfl (Or.inl rfl) (pe_cG c_openings hg hr (by decide) pass0 (pa_cons (pv 0) pa_nil)))
      (pss_cons (ps_asg (pe_tup (pa_cons (pe_lst pa_nil) (pa_cons (pe_lst pa_nil) pa_nil))) (pg_tup rfl (pgs_cons (pg_name (i := 5) sc_price_tables.nd rfl (Or.inr rfl)) (pgs_cons (pg_name (i := 6) sc_price_tables.nd rfl (Or.inl rfl)) pgs_nil))))
      (pss_cons (ps_for PassesOwn.never rfl (pi_range1 rfl T.range (pa_cons (pe_op op_add (pe_callB call_len (by rfl) T.len (by decide +kernel) (pa_cons (pv 0) pa_nil)) pe_int) pa_nil)) (pg_name (i := 7) sc_price_tables.nd rfl (Or.inr rfl)) (pss_cons (ps_par (i := 8) (j := 9) (by rfl) sc_price_tables.nd rfl rfl (by decide) rfl rfl (pa_cons (pe_lst pa_nil) (pa_cons (pe_lst pa_nil) pa_nil)) (by rfl))
      (pss_cons (ps_for PassesOwn.never rfl (pi_range1 rfl T.range (pa_cons (pe_op op_add (pe_callB call_len (by rfl) T.len (by decide +kernel) (pa_cons (pv 1) pa_nil)) pe_int) pa_nil)) (pg_name (i := 10) sc_price_tables.nd rfl (Or.inr rfl)) (pss_cons (ps_setLc (i := 11) (own := [("begin", 12)]) (g := gName 12) (tt := tYes) rfl sc_price_tables.nd rfl rfl (sw_true rfl rfl rfl (by decide +kernel)) (pi_list (pe_ix ix_list (pv 4) (pv 7) (fun _ _ => rfl))) (blkOk_by (own := [("begin", 12)]) (N := ["one", "other", "each", "beyond", "begins", "kept", "begun", "i", "kept_row", "begun_row", "j", "told", "begin"]) (sc := defScope s_price_tables) (by decide +kernel)) (fun _ _ _ _ _ => (pg_name (i := 12) sc_price_tables.nd rfl (Or.inl rfl))) (fun _ _ _ _ _ => pts_nil) (fun _ _ _ _ _ => (pe_op op_add (pe_op op_sub (pe_op op_add (pe_ix (ix_listK (K := K) rfl) (pe_ix (ix_listK (K := K) rfl) (pv 5) (pv 12) (fun _ _ => rfl)) (pv 10) (fun _ _ => rfl)) (pv 7)) (pv 12)) (pv 2))))
      (pss_cons (ps_if (pt_cmpR op_gt (pv 7) pe_int (nomark _)) (pss_one (ps_expr (pe_bm PySem.F.plainAttrs_list PySem.F.slot_list_append PySem.F.type_list_append mt_append (pv 11) (pa_cons (pe_op op_add (pe_ix ix_list (pe_ix ix_list (pv 6) (pe_op op_sub (pv 7) pe_int) (fun _ _ => rfl)) (pv 10) (fun _ _ => rfl)) pe_int) pa_nil)))) pss_nil)
      (pss_cons (ps_if (pt_cmpR op_gt (pv 10) pe_int (nomark _)) (pss_one (ps_expr (pe_bm PySem.F.plainAttrs_list PySem.F.slot_list_append PySem.F.type_list_append mt_append (pv 11) (pa_cons (pe_op op_add (pe_ix ix_list (pv 9) (pe_op op_sub (pv 10) pe_int) (fun _ _ => rfl)) pe_int) pa_nil)))) pss_nil)
      (pss_cons (ps_expr (pe_bm PySem.F.plainAttrs_list PySem.F.slot_list_append PySem.F.type_list_append mt_append (pv 9) (pa_cons (pe_callB (cr_min rfl) (by rfl) T.min (by decide +kernel) (pa_cons (pe_lst (pa_cons (pv 3) (pa_star (pv 11) pa_nil))) pa_nil)) pa_nil)))
      (pss_cons (ps_set (i := 11) sc_price_tables.nd rfl (Or.inl rfl) (pe_lst (pa_cons (pe_ifExp (PW.pt (pw_and (pt_cmpR op_eq (pv 7) pe_int (nomark _)) (pw_and1 (pt_cmpR op_eq (pv 10) pe_int (nomark _))))) pe_int (pe_ix ix_list (pv 9) (pv 10) (fun _ _ => rfl))) pa_nil)))
      (pss_cons (ps_if (PW.pt (pw_and (pt_cmpR op_gt (pv 7) pe_int (nomark _)) (pw_and (pt_cmpR op_gt (pv 10) pe_int (nomark _)) (pw_and1 (pt_cmpR op_eq (pe_ix ix_str (pv 0) (pe_op op_sub (pv 7) pe_int) (fun _ _ => rfl)) (pe_ix ix_str (pv 1) (pe_op op_sub (pv 10) pe_int) (fun _ _ => rfl)) (nomark _)))))) (pss_one (ps_expr (pe_bm PySem.F.plainAttrs_list PySem.F.slot_list_append PySem.F.type_list_append mt_append (pv 11) (pa_cons (pe_ix ix_list (pe_ix ix_list (pv 5) (pe_op op_sub (pv 7) pe_int) (fun _ _ => rfl)) (pe_op op_sub (pv 10) pe_int) (fun _ _ => rfl)) pa_nil)))) pss_nil)
      (pss_one (ps_expr (pe_bm PySem.F.plainAttrs_list PySem.F.slot_list_append PySem.F.type_list_append mt_append (pv 8) (pa_cons (pe_callB (cr_min rfl) (by rfl) T.min (by decide +kernel) (pa_cons (pv 11) pa_nil)) pa_nil)))))))))))
      (pss_cons (ps_expr (pe_bm PySem.F.plainAttrs_list PySem.F.slot_list_append PySem.F.type_list_append mt_append (pv 5) (pa_cons (pv 8) pa_nil)))
      (pss_one (ps_expr (pe_bm PySem.F.plainAttrs_list PySem.F.slot_list_append PySem.F.type_list_append mt_append (pv 6) (pa_cons (pv 9) pa_nil))))))))
      (pss_one (ps_ret (pe_tup (pa_cons (pv 5) (pa_cons (pv 6) pa_nil))))))))), ?_⟩
    refine ⟨_, rfl, _, _, rfl, ⟨xl, rfl⟩, _, rfl, _, _, rfl, ⟨yl, rfl⟩, _, _, rfl, rfl, _, _, rfl, rfl, _, rfl, _, _, rfl, rfl, ?_⟩
    refine ⟨_, _, rfl, rfl, .inr ⟨by omega, by omega⟩, ?_⟩
    have eb : (((x.length : Nat) : Int) + ((y.length : Nat) : Int) + 1) * (((e : Nat) : Int) + 1) = ((beyond x.cps.toList y.cps.toList e : Nat) : Int) := by
      unfold beyond
      rw [lx, ly, Int.natCast_mul]
      rfl
    refine name_go ⟨_, rfl, x, rfl, hx, fun ao es H1 hao el le op s1 => ?_⟩
    refine name_go ⟨by show 0 ≤ sizeLine; decide, fun ak hak => ⟨by show 0 ≤ sizeLine; decide, fun ab hab => ⟨by show 2 ≤ sizeLine; decide, fun tq htq => ⟨tq, _, rfl, SqT.of upd_same, rfl, _, _, rfl, _, _, rfl, rfl, ?_⟩⟩⟩⟩
    have sk := same_new (o := .lst []) hak
    have sb := same_new (o := .lst []) hab
    have sq := same_new (o := .tup [.ref ak, .ref ab]) htq
    have hak2 := sq _ _ (sb _ _ (upd_same (H := H1) (a := ak) (o := .lst [])))
    have hab2 := sq _ _ (upd_same (H := upd H1 ak (.lst [])) (a := ab) (o := .lst []))
    have kb : ak ≠ ab := fun z => by rw [← z, upd_same] at hab; cases hab
    have hab1 : H1 ab = none := none_up sk hab
    have s2 := (sk.trans sb).trans sq
    generalize upd (upd (upd H1 ak (.lst [])) ab (.lst [])) tq (.tup [.ref ak, .ref ab]) = H2 at hak2 hab2 s2 ⊢
    refine ⟨_, rfl, _, _, rfl, ⟨xl, rfl⟩, _, _, rfl, rfl, _, rfl, by omega, by omega, ?_⟩
    refine for_range (lo := 0) (n := (((x.length : Nat) : Int) + 1).toNat) (fun i σ H' => ∃ (o7 o8 o9 o10 o11 o12 : Option V) (uk ub : List Addr), σ = [some (.str x), some (.str y), some (.int (e : Nat)), some (.int ((((x.length : Nat) : Int) + ((y.length : Nat) : Int) + 1) * (((e : Nat) : Int) + 1))), some (.ref ao), some (.ref ak), some (.ref ab), o7, o8, o9, o10, o11, o12] ∧ TabW H' ak ab (kX x y e) i (y.length + 1) uk ∧ TabW H' ab ak (gX x y e) i (y.length + 1) ub ∧ Same H1 H') ?_ ?_ ?_
    · exact ⟨_, _, _, _, _, _, [], [], rfl, ⟨hak2, rfl, (fun i u h => by cases h), List.not_mem_nil, List.not_mem_nil⟩, ⟨hab2, rfl, (fun i u h => by cases h), List.not_mem_nil, List.not_mem_nil⟩, s2⟩
    · rintro i σ H3 hi ⟨o7, o8, o9, o10, o11, o12, uk, ub, rfl, tk, tb, s3⟩
      have hi1 : i ≤ x.length := by omega
      refine name_go ⟨by show 0 ≤ sizeLine; decide, fun kr hkr => ⟨by show 0 ≤ sizeLine; decide, fun br hbr => ⟨_, _, rfl, ?_⟩⟩⟩
      have s4 := (same_new (o := .lst []) hkr).trans (same_new (o := .lst []) hbr)
      have nkb : kr ≠ br := fun z => by rw [← z, upd_same] at hbr; cases hbr
      have hbr3 : H3 br = none := none_up (same_new (o := .lst []) hkr) hbr
      have k4 : upd (upd H3 kr (.lst [])) br (.lst []) kr = some (.lst []) := by rw [upd_ne nkb]; exact upd_same
      have b4 : upd (upd H3 kr (.lst [])) br (.lst []) br = some (.lst []) := upd_same
      refine ⟨_, rfl, _, _, rfl, ⟨yl, rfl⟩, _, _, rfl, rfl, _, rfl, by omega, by omega, ?_⟩
      refine for_range (lo := 0) (n := (((y.length : Nat) : Int) + 1).toNat) (fun j σ H' => ∃ (o10 o11 o12 : Option V), σ = [some (.str x), some (.str y), some (.int (e : Nat)), some (.int ((((x.length : Nat) : Int) + ((y.length : Nat) : Int) + 1) * (((e : Nat) : Int) + 1))), some (.ref ao), some (.ref ak), some (.ref ab), some (.int (0 + (i : Int))), some (.ref kr), some (.ref br), o10, o11, o12] ∧ H' kr = some (.lst (rowF (kX x y e) i j)) ∧ H' br = some (.lst (rowF (gX x y e) i j)) ∧ Same H3 H') ?_ ?_ ?_
      · exact ⟨_, _, _, rfl, k4, b4, s4⟩
      · rintro j σ H5 hj ⟨o10, o11, o12, rfl, hk5, hb5, s5⟩
        have hj1 : j ≤ y.length := by omega
        have tk5 := tk.keep s5
        have tb5 := tb.keep s5
        obtain ⟨us, q1, q2, q3, q4, q5⟩ := (op.keep (s3.trans s5)).ex
        have ui : us[i]? = some (us[i]'(by omega)) := List.getElem?_eq_getElem (by omega)
        generalize us[i]'(by omega) = u at ui
        have hu5 := q5 i u ui
        have at1 : atI (us.map V.ref) (0 + ((i : Nat) : Int)) = some (.ref u) := by
          rw [Int.zero_add]
          exact atI_nat (by rw [List.getElem?_map, ui]; rfl)
        refine name_go ⟨_, rfl, _, rfl, ao, _, _, .ref u, rfl, rfl, SqL.of q1, at1, ?_⟩
        refine ⟨u, rfl, ⟨_, SqL.of hu5⟩, fun D hD => ?_⟩
        have sD := same_new (o := .lst []) hD
        have bm : ∀ g ∈ begs es x.length i, es[g]? = some i := fun g hg => of_decide_eq_true (List.mem_filter.mp hg).2
        have bl : (begs es x.length i).length ≤ x.length := Nat.le_trans (List.length_filter_le _ _) (Nat.le_of_eq List.length_range)
        refine lc_list (K := K) (a := u) (xs := (begs es x.length i).map fun g => V.int (g : Nat)) (fun t H' => H' D = some (.lst ((((begs es x.length i).take t).map fun g => ((kX x y e g j : Nat) : Int) + (0 + ((i : Nat) : Int)) - ((g : Nat) : Int) + ((e : Nat) : Int)).map V.int)) ∧ Same H5 H') ?_ ?_ ?_ ?_
        · exact ⟨upd_same, sD⟩
        · rintro t H' _ ⟨_, s6⟩
          exact SqL.of (s6 _ _ hu5)
        · rintro t v H6 hv ⟨hD6, s6⟩
          rw [List.getElem?_map] at hv
          obtain ⟨g, hg, rfl⟩ := Option.map_eq_some_iff.mp hv
          have gm := bm g (List.mem_of_getElem? hg)
          have gi := (le g i gm).gt
          have tk6 := tk5.keep s6
          obtain ⟨vs, ur, r1, r2, r3⟩ := tk6.tab.row (i := g) (by omega)
          have at2 : atI (rowF (kX x y e) g (y.length + 1)) (0 + ((j : Nat) : Int)) = some (.int (kX x y e g j : Nat)) := by
            rw [Int.zero_add]
            exact atI_nat (rowF_at (by omega))
          refine ⟨rfl, _, rfl, _, rfl, ak, _, _, .ref ur, rfl, rfl, SqL.of r1, r2, _, rfl, ur, _, _, _, rfl, rfl, SqL.of r3, at2, _, rfl, _, _, rfl, rfl, _, rfl, _, _, rfl, rfl, _, rfl, _, _, rfl, rfl, ?_⟩
          refine ⟨_, hD6, fewL (by rw [List.length_map, List.length_map, List.length_take]; omega), ?_, upd_out hD s6⟩
          rw [upd_same, List.take_add_one, hg, List.map_append, List.map_append]
          rfl
        · rintro H6 ⟨hD6, s6⟩
          rw [List.length_map, List.take_length] at hD6
          generalize hns0 : (begs es x.length i).map (fun g => ((kX x y e g j : Nat) : Int) + (0 + ((i : Nat) : Int)) - ((g : Nat) : Int) + ((e : Nat) : Int)) = ns0 at hD6
          have nl0 : ns0.length ≤ x.length := by rw [← hns0, List.length_map]; exact bl
          have nDk : D ≠ kr := fun z => by rw [z, hk5] at hD; cases hD
          have nDb : D ≠ br := fun z => by rw [z, hb5] at hD; cases hD
          refine name_go ?_
          dsimp only
          refine seq_mid (fun σ H' => σ = [some (.str x), some (.str y), some (.int (e : Nat)), some (.int ((((x.length : Nat) : Int) + ((y.length : Nat) : Int) + 1) * (((e : Nat) : Int) + 1))), some (.ref ao), some (.ref ak), some (.ref ab), some (.int (0 + (i : Int))), some (.ref kr), some (.ref br), some (.int (0 + (j : Int))), some (.ref D), o12] ∧ H' D = some (.lst ((ns0 ++ (if 0 < i then [((gX x y e (i - 1) j : Nat) : Int) + 1] else [])).map V.int)) ∧ Same H5 H') (fun D' hD' => ?_) (fun σ H7 hm => ?_)
          · refine ⟨_, rfl, _, _, rfl, rfl, _, rfl, ?_⟩
            by_cases c : 0 < i
            · rw [show decide ((0 : Int) < 0 + ((i : Nat) : Int)) = true from decide_eq_true (by omega)]
              obtain ⟨vs, ur, r1, r2, r3⟩ := (tb5.keep s6).tab.row (i := i - 1) (by omega)
              have r2' : atI (vs.map V.ref) (0 + ((i : Nat) : Int) - 1) = some (.ref ur) := by
                rw [show 0 + ((i : Nat) : Int) - 1 = ((i - 1 : Nat) : Int) by omega]
                exact r2
              have at2 : atI (rowF (gX x y e) (i - 1) (y.length + 1)) (0 + ((j : Nat) : Int)) = some (.int (gX x y e (i - 1) j : Nat)) := by
                rw [Int.zero_add]
                exact atI_nat (rowF_at (by omega))
              refine iteT ⟨_, rfl, .inl ⟨rfl, _, SqL.of hD6⟩, _, rfl, _, rfl, _, _, rfl, rfl, ab, _, _, .ref ur, rfl, rfl, SqL.of r1, r2', _, rfl, ur, _, _, _, rfl, rfl, SqL.of r3, at2, _, _, rfl, rfl, D, _, _, rfl, rfl, hD6, fewL (by rw [List.length_map]; omega), ?_⟩
              refine hD' _ _ ⟨rfl, ?_, upd_out hD s6⟩
              rw [if_pos c, upd_same, List.map_append]
              rfl
            · rw [show decide ((0 : Int) < 0 + ((i : Nat) : Int)) = false from decide_eq_false (by omega)]
              exact iteF (hD' _ _ ⟨rfl, by rw [if_neg c, List.append_nil]; exact hD6, s6⟩)
          obtain ⟨rfl, hD7, s7⟩ := hm
          generalize hns1 : ns0 ++ (if 0 < i then [((gX x y e (i - 1) j : Nat) : Int) + 1] else []) = ns1 at hD7
          have nl1 : ns1.length ≤ x.length + 1 := by
            rw [← hns1, List.length_append]
            split
            · rw [List.length_singleton]; omega
            · rw [List.length_nil]; omega
          refine seq_mid (fun σ H' => σ = [some (.str x), some (.str y), some (.int (e : Nat)), some (.int ((((x.length : Nat) : Int) + ((y.length : Nat) : Int) + 1) * (((e : Nat) : Int) + 1))), some (.ref ao), some (.ref ak), some (.ref ab), some (.int (0 + (i : Int))), some (.ref kr), some (.ref br), some (.int (0 + (j : Int))), some (.ref D), o12] ∧ H' D = some (.lst ((ns1 ++ (if 0 < j then [((gX x y e i (j - 1) : Nat) : Int) + 1] else [])).map V.int)) ∧ Same H5 H') (fun D' hD' => ?_) (fun σ H8 hm => ?_)
          · refine ⟨_, rfl, _, _, rfl, rfl, _, rfl, ?_⟩
            by_cases c : 0 < j
            · rw [show decide ((0 : Int) < 0 + ((j : Nat) : Int)) = true from decide_eq_true (by omega)]
              have at2 : atI (rowF (gX x y e) i j) (0 + ((j : Nat) : Int) - 1) = some (.int (gX x y e i (j - 1) : Nat)) := by
                rw [show 0 + ((j : Nat) : Int) - 1 = ((j - 1 : Nat) : Int) by omega]
                exact atI_nat (rowF_at (by omega))
              refine iteT ⟨_, rfl, .inl ⟨rfl, _, SqL.of hD7⟩, _, rfl, _, rfl, _, _, rfl, rfl, br, _, _, _, rfl, rfl, SqL.of (s7 _ _ hb5), at2, _, _, rfl, rfl, D, _, _, rfl, rfl, hD7, fewL (by rw [List.length_map]; omega), ?_⟩
              refine hD' _ _ ⟨rfl, ?_, upd_out hD s7⟩
              rw [if_pos c, upd_same, List.map_append]
              rfl
            · rw [show decide ((0 : Int) < 0 + ((j : Nat) : Int)) = false from decide_eq_false (by omega)]
              exact iteF (hD' _ _ ⟨rfl, by rw [if_neg c, List.append_nil]; exact hD7, s7⟩)
          obtain ⟨rfl, hD8, s8⟩ := hm
          generalize hns2 : ns1 ++ (if 0 < j then [((gX x y e i (j - 1) : Nat) : Int) + 1] else []) = ns2 at hD8
          have nl2 : ns2.length ≤ x.length + 2 := by
            rw [← hns2, List.length_append]
            split
            · rw [List.length_singleton]; omega
            · rw [List.length_nil]; omega
          have hb8 := s8 _ _ hb5
          have hk8 := s8 _ _ hk5
          have e102 : 102 < sizeLine := by decide
          refine ⟨_, rfl, .inl ⟨rfl, _, SqL.of hb8⟩, _, rfl, _, rfl, D, _, rfl, .inr (SqL.of hD8), ?_⟩
          refine ⟨by simp only [List.length_append, List.length_map, List.length_cons, List.length_nil]; omega, fun q hq => ?_⟩
          have sq9 := same_new (o := .lst (V.int ((((x.length : Nat) : Int) + ((y.length : Nat) : Int) + 1) * (((e : Nat) : Int) + 1)) :: (ns2.map V.int ++ []))) hq
          refine ⟨q, ((((x.length : Nat) : Int) + ((y.length : Nat) : Int) + 1) * (((e : Nat) : Int) + 1)) :: ns2, rfl, SqL.of (by rw [upd_same, List.append_nil]; rfl), Nat.succ_pos _, fun m hm1 hm2 => ?_⟩
          have em : m = ((gX x y e i j : Nat) : Int) := by
            subst hns2 hns1 hns0
            rw [eb] at hm1 hm2
            exact min_g el le hi1 hj1 hm1 hm2
          subst em
          refine ⟨br, _, _, rfl, rfl, sq9 _ _ hb8, fewL (by rw [rowF_len]; omega), ?_⟩
          have s39 := upd_out (o := .lst (rowF (gX x y e) i j ++ [.int (gX x y e i j : Nat)])) hbr3 ((s5.trans s8).trans sq9)
          have hk9 := (show upd (upd H8 q (.lst (V.int ((((x.length : Nat) : Int) + ((y.length : Nat) : Int) + 1) * (((e : Nat) : Int) + 1)) :: (ns2.map V.int ++ [])))) br (.lst (rowF (gX x y e) i j ++ [.int (gX x y e i j : Nat)])) kr = some (.lst (rowF (kX x y e) i j)) by rw [upd_ne nkb]; exact sq9 _ _ hk8)
          have hb9 := (show upd (upd H8 q (.lst (V.int ((((x.length : Nat) : Int) + ((y.length : Nat) : Int) + 1) * (((e : Nat) : Int) + 1)) :: (ns2.map V.int ++ [])))) br (.lst (rowF (gX x y e) i j ++ [.int (gX x y e i j : Nat)])) br = some (.lst (rowF (gX x y e) i (j + 1))) by rw [upd_same, rowF_snoc])
          generalize upd (upd H8 q (.lst (V.int ((((x.length : Nat) : Int) + ((y.length : Nat) : Int) + 1) * (((e : Nat) : Int) + 1)) :: (ns2.map V.int ++ [])))) br (.lst (rowF (gX x y e) i j ++ [.int (gX x y e i j : Nat)])) = H9 at s39 hk9 hb9 ⊢
          dsimp only
          refine seq_mid (fun σ H' => ∃ D2, σ = [some (.str x), some (.str y), some (.int (e : Nat)), some (.int ((((x.length : Nat) : Int) + ((y.length : Nat) : Int) + 1) * (((e : Nat) : Int) + 1))), some (.ref ao), some (.ref ak), some (.ref ab), some (.int (0 + (i : Int))), some (.ref kr), some (.ref br), some (.int (0 + (j : Int))), some (.ref D2), o12] ∧ H' D2 = some (.lst ([if i = 0 ∧ j = 0 then (0 : Int) else ((gX x y e i j : Nat) : Int)].map V.int)) ∧ H9 D2 = none ∧ Same H9 H') (fun D' hD' => ?_) (fun σ H10 hm => ?_)
          · refine and_by (p := i = 0) (q := j = 0) (nul_by rfl) (fun _ => nul_by rfl) ?_
            by_cases c : i = 0 ∧ j = 0
            · rw [decide_eq_true c]
              refine iteT ⟨by show 1 ≤ sizeLine; decide, fun D2 hD2 => hD' _ _ ⟨D2, rfl, ?_, hD2, same_new hD2⟩⟩
              rw [upd_same, if_pos c]
              rfl
            · rw [decide_eq_false c]
              have at3 : atI (rowF (gX x y e) i (j + 1)) (0 + ((j : Nat) : Int)) = some (.int (gX x y e i j : Nat)) := by
                rw [Int.zero_add]
                exact atI_nat (rowF_at (by omega))
              refine iteF ⟨_, rfl, _, rfl, br, _, _, _, rfl, rfl, SqL.of hb9, at3, by show 1 ≤ sizeLine; decide, fun D2 hD2 => hD' _ _ ⟨D2, rfl, ?_, hD2, same_new hD2⟩⟩
              rw [upd_same, if_neg c]
              rfl
          obtain ⟨D2, rfl, hD10, hD9, s10⟩ := hm
          generalize hw1 : (if i = 0 ∧ j = 0 then (0 : Int) else ((gX x y e i j : Nat) : Int)) = w1 at hD10
          have s310 := s39.trans s10
          have nDk2 : D2 ≠ kr := fun z => by rw [z, hk9] at hD9; cases hD9
          have nDb2 : D2 ≠ br := fun z => by rw [z, hb9] at hD9; cases hD9
          refine seq_mid (fun σ H' => σ = [some (.str x), some (.str y), some (.int (e : Nat)), some (.int ((((x.length : Nat) : Int) + ((y.length : Nat) : Int) + 1) * (((e : Nat) : Int) + 1))), some (.ref ao), some (.ref ak), some (.ref ab), some (.int (0 + (i : Int))), some (.ref kr), some (.ref br), some (.int (0 + (j : Int))), some (.ref D2), o12] ∧ H' D2 = some (.lst ((w1 :: (if 0 < i ∧ 0 < j ∧ x.cps.toList[i - 1]? = y.cps.toList[j - 1]? then [((kX x y e (i - 1) (j - 1) : Nat) : Int)] else [])).map V.int)) ∧ Same H9 H') (fun D' hD' => ?_) (fun σ H11 hm => ?_)
          · refine and_by (p := 0 < i) (q := 0 < j ∧ x.cps.toList[i - 1]? = y.cps.toList[j - 1]?) (pos_by rfl) (fun ci k' q => and_by (p := 0 < j) (q := x.cps.toList[i - 1]? = y.cps.toList[j - 1]?) (pos_by rfl) (fun cj k' q => ?_) q) ?_
            · obtain ⟨c1, g1⟩ : ∃ c, x.cps.toList[i - 1]? = some c := ⟨x.cps.toList[i - 1]'(by omega), List.getElem?_eq_getElem (by omega)⟩
              obtain ⟨c2, g2⟩ : ∃ c, y.cps.toList[j - 1]? = some c := ⟨y.cps.toList[j - 1]'(by omega), List.getElem?_eq_getElem (by omega)⟩
              have a1 : atI x.cps.toList (0 + ((i : Nat) : Int) - 1) = some c1 := by
                rw [show 0 + ((i : Nat) : Int) - 1 = ((i - 1 : Nat) : Int) by omega]
                exact atI_nat g1
              have a2 : atI y.cps.toList (0 + ((j : Nat) : Int) - 1) = some c2 := by
                rw [show 0 + ((j : Nat) : Int) - 1 = ((j - 1 : Nat) : Int) by omega]
                exact atI_nat g2
              refine ⟨_, rfl, _, rfl, _, _, rfl, rfl, x, _, c1, rfl, rfl, xl, a1, _, rfl, _, rfl, _, _, rfl, rfl, y, _, c2, rfl, rfl, yl, a2, rfl, _, rfl, ?_⟩
              rw [show decide (V.str ⟨#[c1]⟩ = V.str ⟨#[c2]⟩) = decide (x.cps.toList[i - 1]? = y.cps.toList[j - 1]?) from decide_eq_decide.mpr ⟨fun z => by rw [g1, g2]; cases z; rfl, fun z => by rw [g1, g2] at z; cases z; rfl⟩]
              exact q
            · by_cases c : 0 < i ∧ 0 < j ∧ x.cps.toList[i - 1]? = y.cps.toList[j - 1]?
              · rw [decide_eq_true c]
                obtain ⟨vs, ur, r1, r2, r3⟩ := (tk.keep s310).tab.row (i := i - 1) (by omega)
                have r2' : atI (vs.map V.ref) (0 + ((i : Nat) : Int) - 1) = some (.ref ur) := by
                  rw [show 0 + ((i : Nat) : Int) - 1 = ((i - 1 : Nat) : Int) by omega]
                  exact r2
                have at2 : atI (rowF (kX x y e) (i - 1) (y.length + 1)) (0 + ((j : Nat) : Int) - 1) = some (.int (kX x y e (i - 1) (j - 1) : Nat)) := by
                  rw [show 0 + ((j : Nat) : Int) - 1 = ((j - 1 : Nat) : Int) by omega]
                  exact atI_nat (rowF_at (by omega))
                refine iteT ⟨_, rfl, .inl ⟨rfl, _, SqL.of hD10⟩, _, rfl, _, rfl, _, _, rfl, rfl, ak, _, _, .ref ur, rfl, rfl, SqL.of r1, r2', _, rfl, _, _, rfl, rfl, ur, _, _, _, rfl, rfl, SqL.of r3, at2, D2, _, _, rfl, rfl, hD10, (by show 1 < sizeLine; decide), ?_⟩
                refine hD' _ _ ⟨rfl, ?_, upd_out hD9 s10⟩
                rw [if_pos c, upd_same]
                rfl
              · rw [decide_eq_false c]
                exact iteF (hD' _ _ ⟨rfl, by rw [if_neg c]; exact hD10, s10⟩)
          obtain ⟨rfl, hD11, s11⟩ := hm
          have hk11 := s11 _ _ hk9
          have hb11 := s11 _ _ hb9
          refine ⟨_, rfl, .inl ⟨rfl, _, SqL.of hk11⟩, _, rfl, D2, _, rfl, SqL.of hD11, Nat.succ_pos _, fun m hm1 hm2 => ?_⟩
          have em : m = ((kX x y e i j : Nat) : Int) := by
            subst hw1
            exact min_k hi1 hm1 hm2
          subst em
          refine ⟨kr, _, _, rfl, rfl, hk11, fewL (by rw [rowF_len]; omega), ?_⟩
          exact ⟨_, _, _, rfl, by rw [upd_same, rowF_snoc], by rw [upd_ne nkb.symm]; exact hb11, upd_out hkr (s39.trans s11)⟩
      · rintro σ H5 ⟨o10, o11, o12, rfl, hk5, hb5, s5⟩
        rw [show (((y.length : Nat) : Int) + 1).toNat = y.length + 1 by omega] at hk5 hb5
        have tk5 := tk.keep s5
        have tb5 := tb.keep s5
        have hkr3 : H3 kr = none := hkr
        have n1 : ak ≠ kr := fun z => by rw [← z, tk.at'] at hkr3; cases hkr3
        have n2 : ab ≠ kr := fun z => by rw [← z, tb.at'] at hkr3; cases hkr3
        have n3 : ak ≠ br := fun z => by rw [← z, tk.at'] at hbr3; cases hbr3
        have n4 : ab ≠ br := fun z => by rw [← z, tb.at'] at hbr3; cases hbr3
        have tk6 := tk5.snoc hk5 n1 n2
        have tb6 := tb5.other (o := .lst (uk.map V.ref ++ [.ref kr])) kb.symm
        refine ⟨_, rfl, .inl ⟨rfl, _, SqL.of tk5.at'⟩, _, rfl, ak, _, _, rfl, rfl, tk5.at', fewL (by rw [List.length_map, tk5.len]; omega), ?_⟩
        have b6 : upd H5 ak (.lst (uk.map V.ref ++ [.ref kr])) br = some (.lst (rowF (gX x y e) i (y.length + 1))) := by rw [upd_ne n3.symm]; exact hb5
        have tb7 := tb6.snoc b6 n4 n3
        have tk7 := tk6.other (o := .lst (ub.map V.ref ++ [.ref br])) kb
        refine ⟨_, rfl, .inl ⟨rfl, _, SqL.of tb6.at'⟩, _, rfl, ab, _, _, rfl, rfl, tb6.at', fewL (by rw [List.length_map, tb6.len]; omega), ?_⟩
        exact ⟨_, _, _, _, _, _, _, _, rfl, tk7, tb7, upd_out hab1 (upd_out hak (s3.trans s5))⟩
    · rintro σ H3 ⟨o7, o8, o9, o10, o11, o12, uk, ub, rfl, tk, tb, s3⟩
      rw [show (((x.length : Nat) : Int) + 1).toNat = x.length + 1 by omega] at tk tb
      refine ⟨_, rfl, _, rfl, by show 2 ≤ sizeLine; decide, fun t ht => ?_⟩
      have st := same_new (o := .tup [.ref ak, .ref ab]) ht
      exact k t ak ab _ upd_same (tk.tab.keep st) (tb.tab.keep st) ((s1.trans s3).trans st)
end
end Vk
set_option Elab.async false
set_option maxRecDepth 100000
set_option linter.all false
set_option maxHeartbeats 4000000
namespace Vk
open PySem PySem.Spec PyProof.Rows L2 StX
section
variable {P : Program} {w : World} {K : PySem.W.Frag} {mg : Str → Option Value} {base : Heap}
inductive WBr (x y : Str) (es : List Nat) (e : Nat) : Nat → Nat → Nat → Nat → Prop
  | here {i j t g : Nat} : (begs es x.length i)[t]? = some g → (∀ g' ∈ (begs es x.length i).take t, gX x y e i j ≠ kX x y e g' j + (i - g') + e) → gX x y e i j = kX x y e g j + (i - g) + e → WBr x y es e i j g j
  | left {i j g k : Nat} : (∀ g' ∈ begs es x.length i, gX x y e i j ≠ kX x y e g' j + (i - g') + e) → (0 < j ∧ gX x y e i j = gX x y e i (j - 1) + 1) → WBr x y es e i (j - 1) g k → WBr x y es e i j g k
  | up {i j g k : Nat} : (∀ g' ∈ begs es x.length i, gX x y e i j ≠ kX x y e g' j + (i - g') + e) → ¬ (0 < j ∧ gX x y e i j = gX x y e i (j - 1) + 1) → WBr x y es e (i - 1) j g k → WBr x y es e i j g k
end
end Vk
set_option Elab.async false
set_option maxRecDepth 100000
set_option linter.all false
set_option maxHeartbeats 4000000
namespace Vk
open PySem PySem.Spec PyProof.Rows L2 StX
section
variable {P : Program} {w : World} {K : PySem.W.Frag} {mg : Str → Option Value} {base : Heap}
def spHas : Sp := fun vs H Q _ => ∃ (x y : Str), vs = [.str x, .str y] ∧ Q (.bl (!decide (V.str x = V.str "") || decide (V.str y = V.str ""))) H
abbrev s_has_exchange : Stmt := top 10
theorem sc_has_exchange : FnScope ["one", "other"] ["one", "other"] (defScope s_has_exchange) := ⟨rfl, rfl, rfl, by decide +kernel, rfl, by decide +kernel, by decide +kernel⟩
theorem b_has_exchange {f : Addr} {fd : FuncData} (F : Fun K "has_exchange" "has_exchange" s_has_exchange f fd) (T : Txt mg) : FnG P w K mg base CX0 1 f fd ["one", "other"] spHas := by
  refine okG0 F sc_has_exchange (fun vs H Q E h => ?_) (fun cdv A outer s H vs Q E hg hr h => ?_)
  · obtain ⟨x, y, rfl, _⟩ := h
    rfl
  · have hu := hu_of hr
    have hu64 := hr.units
    obtain ⟨x, y, rfl, k⟩ := h
    refine ⟨_, (pss_one (ps_ret (pe_or (pe_cmpR op_ne (pv 0) pe_str (nomark _)) (pe_one (pe_cmpR op_eq (pv 1) pe_str (nomark _)))))), ?_⟩
    refine ⟨_, rfl, rfl, _, rfl, ?_⟩
    cases e1 : decide (V.str x = V.str "") with
    | false =>
      rw [e1] at k
      exact iteT k
    | true =>
      rw [e1] at k
      exact iteF ⟨_, rfl, rfl, k⟩
end
end Vk
set_option Elab.async false
set_option maxRecDepth 100000
set_option linter.all false
set_option maxHeartbeats 4000000
namespace Vk
open PySem PySem.Spec PyProof.Rows L2 StX
section
variable {P : Program} {w : World} {K : PySem.W.Frag} {mg : Str → Option Value} {base : Heap}
end
end Vk
set_option Elab.async false
set_option maxRecDepth 100000
set_option linter.all false
set_option maxHeartbeats 4000000
namespace Vk
/-! ## the parts of a way, as cheapest spells them from the end -/
section
variable (a b : List Nat) (once : Nat → Nat → Prop) (e : Nat)
inductive Parts : Nat → Nat → Nat → List (Nat × Nat × List Nat) → Prop
  | stop : Parts a.length b.length 0 []
  | keep {i j c : Nat} {rs : List (Nat × Nat × List Nat)} : Parts (i + 1) (j + 1) c rs → i < a.length → a[i]? = b[j]? → Parts i j c rs
  | xch {i j c t k : Nat} {rs : List (Nat × Nat × List Nat)} : Parts t k c rs → i < t → t ≤ a.length → once i t → j ≤ k → k ≤ b.length → Parts i j (c + e + (t - i) + (k - j)) ((i, t, (b.drop j).take (k - j)) :: rs)
variable {a b once e}
theorem Parts.way {i j c : Nat} {rs : List (Nat × Nat × List Nat)} (h : Parts a b once e i j c rs) : WayB a b once e i j c := by
  induction h with
  | stop => exact .stop
  | keep _ h1 h2 ih => exact .keep ih h1 h2
  | xch _ h1 h2 h3 h4 h5 ih => exact .xch ih h1 h2 h3 h4 h5
/-- what the parts make of the text behind i -/
def doneP (a : List Nat) : Nat → List (Nat × Nat × List Nat) → List Nat
  | i, [] => a.drop i
  | i, (g, t, w) :: rs => (a.drop i).take (g - i) ++ w ++ doneP a t rs
def OkP (a : List Nat) (once : Nat → Nat → Prop) : Nat → List (Nat × Nat × List Nat) → Prop
  | _, [] => True
  | i, (g, t, _) :: rs => i ≤ g ∧ g < t ∧ t ≤ a.length ∧ once g t ∧ OkP a once t rs
def costP (e : Nat) : List (Nat × Nat × List Nat) → Nat
  | [] => 0
  | (g, t, w) :: rs => e + (t - g) + w.length + costP e rs
theorem OkP.less {i : Nat} {rs : List (Nat × Nat × List Nat)} (h : OkP a once (i + 1) rs) : OkP a once i rs := by
  match rs, h with
  | [], _ => trivial
  | (g, t, w) :: rs, ⟨h1, h2⟩ => exact ⟨by omega, h2⟩
theorem doneP_step {i : Nat} {rs : List (Nat × Nat × List Nat)} (hi : i < a.length) (h : OkP a once (i + 1) rs) : doneP a i rs = a[i] :: doneP a (i + 1) rs := by
  match rs, h with
  | [], _ => exact List.drop_eq_getElem_cons hi
  | (g, t, w) :: rs, ⟨h1, _⟩ =>
    show (a.drop i).take (g - i) ++ w ++ doneP a t rs = a[i] :: ((a.drop (i + 1)).take (g - (i + 1)) ++ w ++ doneP a t rs)
    rw [List.drop_eq_getElem_cons hi, show g - i = (g - (i + 1)) + 1 by omega, List.take_succ_cons]
    rfl
theorem Parts.ok {i j c : Nat} {rs : List (Nat × Nat × List Nat)} (h : Parts a b once e i j c rs) : OkP a once i rs ∧ doneP a i rs = b.drop j ∧ c = costP e rs := by
  induction h with
  | stop => exact ⟨trivial, by show a.drop a.length = b.drop b.length; rw [List.drop_length, List.drop_length], rfl⟩
  | @keep i j c rs _ h1 h2 ih =>
    obtain ⟨i1, i2, i3⟩ := ih
    rw [List.getElem?_eq_getElem h1] at h2
    obtain ⟨h3, h4⟩ := List.getElem?_eq_some_iff.mp h2.symm
    exact ⟨i1.less, by rw [doneP_step h1 i1, i2, List.drop_eq_getElem_cons h3, h4], i3⟩
  | @xch i j c t k rs _ h1 h2 h3 h4 h5 ih =>
    obtain ⟨i1, i2, i3⟩ := ih
    refine ⟨⟨Nat.le_refl _, h1, h2, h3, i1⟩, ?_, ?_⟩
    · show (a.drop i).take (i - i) ++ (b.drop j).take (k - j) ++ doneP a t rs = b.drop j
      rw [Nat.sub_self, List.take_zero, List.nil_append, i2]
      have : b.drop k = (b.drop j).drop (k - j) := by rw [List.drop_drop, show j + (k - j) = k by omega]
      rw [this, List.take_append_drop]
    · show _ = e + (t - i) + ((b.drop j).take (k - j)).length + costP e rs
      rw [List.length_take, List.length_drop, ← i3]
      omega
end
end Vk
set_option Elab.async false
set_option maxRecDepth 100000
set_option linter.all false
set_option maxHeartbeats 4000000
namespace Vk
open PySem PySem.Spec PyProof.Rows L2 StX RT
theorem strE_d {x : Str} : decide (V.str x = V.str "") = decide (x.length = 0) := by
  by_cases h : x.length = 0
  · rw [decide_eq_true h]
    refine decide_eq_true ?_
    have : x = "" := by
      obtain ⟨c⟩ := x
      have : c = #[] := Array.eq_empty_of_size_eq_zero h
      rw [this]
      rfl
    rw [this]
  · rw [decide_eq_false h]
    refine decide_eq_false fun e => h ?_
    rw [V.str.inj e]
    rfl
theorem or_by {A B : TT} {σ : L2.St} {H : Hp} {k : Bool → Hp → Prop} {p q : Prop} [Decidable p] [Decidable q] (ha : ∀ k' : Bool → Hp → Prop, k' (decide p) H → A σ H k') (hb : ¬ p → ∀ k' : Bool → Hp → Prop, k' (decide q) H → B σ H k') (h : k (decide (p ∨ q)) H) : tOr A B σ H k := by
  refine ha _ ?_
  by_cases c : p
  · rw [decide_eq_true c]
    rw [show decide (p ∨ q) = true by simp [c]] at h
    exact iteT h
  · rw [decide_eq_false c]
    refine iteF (hb c _ ?_)
    rw [show decide (p ∨ q) = decide q by simp [c]] at h
    exact h
/-- the whole text stands once in itself -/
theorem once_all {x : Str} : onceX x 0 x.length := by
  unfold onceX
  cases e : twB x 0 x.length with
  | false => rfl
  | true =>
    obtain ⟨k, k1, k2, _⟩ := (twB_iff (Nat.zero_le _) (Nat.le_refl _)).mp e
    omega
theorem way_any {x y : Str} {e : Nat} (h : ¬ (x.length = 0 ∧ ¬ y.length = 0)) : ∃ c, WayF x.cps.toList y.cps.toList (onceX x) e x.length y.length c := by
  have lx : x.cps.toList.length = x.length := Array.length_toList
  have ly : y.cps.toList.length = y.length := Array.length_toList
  by_cases c : x.length = 0
  · have d : y.length = 0 := Decidable.byContradiction fun z => h ⟨c, z⟩
    rw [c, d]
    exact ⟨0, .start⟩
  · exact ⟨_, .xch (t := x.length) (k := y.length) .start (by omega) (by omega) once_all (Nat.zero_le _) (by omega)⟩
/-- none is possible from a text without letters to another -/
theorem way_none {x y : Str} {e c : Nat} (h : x.length = 0 ∧ ¬ y.length = 0) : ¬ WayF x.cps.toList y.cps.toList (onceX x) e x.length y.length c := by
  have lx : x.cps.toList.length = x.length := Array.length_toList
  obtain ⟨h1, h2⟩ := h
  intro w
  rcases way_last.mp w with ⟨_, z, _⟩ | ⟨g, k, d, _, z, _⟩ | ⟨i, j, z, _⟩
  · exact h2 z
  · omega
  · omega
section
variable {P : Program} {w : World} {K : PySem.W.Frag} {mg : Str → Option Value} {base : Heap}
/-- what cheapest walks, from the end; the parts in the order in which it finds them -/
inductive Walk (x y : Str) (es : List Nat) (e : Nat) : Nat → Nat → List (Nat × Nat × Str) → Prop
  | stop : Walk x y es e 0 0 []
  | keep {i j : Nat} {l : List (Nat × Nat × Str)} : (0 < i ∧ 0 < j ∧ x.cps.toList[i - 1]? = y.cps.toList[j - 1]? ∧ kX x y e i j = kX x y e (i - 1) (j - 1)) → Walk x y es e (i - 1) (j - 1) l → Walk x y es e i j l
  | win {i j g k : Nat} {l : List (Nat × Nat × Str)} : 0 < i ∨ 0 < j → ¬ (0 < i ∧ 0 < j ∧ x.cps.toList[i - 1]? = y.cps.toList[j - 1]? ∧ kX x y e i j = kX x y e (i - 1) (j - 1)) → WBr x y es e i j g k → Walk x y es e g k l → Walk x y es e i j ((g, i, cutS y (some (k : Int)) (some (j : Int))) :: l)
theorem lend_uniq {x : Str} {a e e' : Nat} (h : Lend x a e) (h' : Lend x a e') : e = e' := by
  have one : ∀ {e e' : Nat}, Lend x a e → Lend x a e' → ¬ e < e' := fun {e e'} h h' l => by
    have n := h'.le
    have q1 := h.once (by omega)
    have q2 := h'.twice e h.gt l (by omega)
    rw [q1] at q2
    cases q2
  have := one h h'
  have := one h' h
  omega
end
end Vk
set_option Elab.async false
set_option maxRecDepth 100000
set_option linter.all false
set_option maxHeartbeats 4000000
namespace Vk
open PySem PySem.Spec PyProof.Rows L2 StX
/-! ## the law's own table, from the end -/
noncomputable def bF (x y : Str) (e i j : Nat) : Nat := lstB (WayB x.cps.toList y.cps.toList (onceX x) e i j) 1000000000
theorem bF_least (x y : Str) (e i j : Nat) : Least (WayB x.cps.toList y.cps.toList (onceX x) e i j) 1000000000 (bF x y e i j) := lstB_least _ _
theorem bF_rec {x y : Str} {e i j v : Nat} (hi : i ≤ x.length) (hj : j ≤ y.length) (top : v ≤ 1000000000)
    (l0 : i = x.length → j = y.length → v = 0)
    (l1 : i < x.length → x.cps.toList[i]? = y.cps.toList[j]? → v ≤ bF x y e (i + 1) (j + 1))
    (l2 : ∀ t k, i < t → t ≤ x.length → onceX x i t → j ≤ k → k ≤ y.length → v ≤ bF x y e t k + e + (t - i) + (k - j))
    (is : v < 1000000000 → (i = x.length ∧ j = y.length ∧ v = 0) ∨ (i < x.length ∧ x.cps.toList[i]? = y.cps.toList[j]? ∧ v = bF x y e (i + 1) (j + 1)) ∨ ∃ t k, i < t ∧ t ≤ x.length ∧ onceX x i t ∧ j ≤ k ∧ k ≤ y.length ∧ v = bF x y e t k + e + (t - i) + (k - j)) : bF x y e i j = v := by
  have lx : x.cps.toList.length = x.length := Array.length_toList
  have ly : y.cps.toList.length = y.length := Array.length_toList
  refine Least.eq ⟨fun l => ?_, fun c hc => ?_, top⟩
  · rcases is l with ⟨rfl, rfl, rfl⟩ | ⟨h1, h2, rfl⟩ | ⟨t, k, h1, h2, h3, h4, h5, rfl⟩
    · rw [← lx, ← ly]
      exact .stop
    · exact .keep ((bF_least x y e (i + 1) (j + 1)).is l) (by omega) h2
    · exact .xch ((bF_least x y e t k).is (by omega)) h1 (by omega) h3 h4 (by omega)
  · cases hc with
    | stop => exact Nat.le_of_eq (l0 lx ly)
    | keep w h1 h2 => exact Nat.le_trans (l1 (by omega) h2) ((bF_least x y e (i + 1) (j + 1)).le _ w)
    | @xch _ _ d t k w h1 h2 h3 h4 h5 =>
      have q1 := l2 t k h1 (by omega) h3 h4 (by omega)
      have q2 := (bF_least x y e t k).le _ w
      omega
/-- where windows from i end -/
def tipsL (x : Str) (i s : Nat) : List Nat := ((List.range s).map fun q => i + 1 + q).filter fun t => decide (i < t ∧ twB x i t = false)
theorem tips_snoc {x : Str} {i s : Nat} : tipsL x i (s + 1) = if i < i + 1 + s ∧ twB x i (i + 1 + s) = false then tipsL x i s ++ [i + 1 + s] else tipsL x i s := by
  unfold tipsL
  rw [List.range_succ, List.map_append, List.filter_append]
  by_cases h : i < i + 1 + s ∧ twB x i (i + 1 + s) = false
  · rw [if_pos h]
    show _ ++ List.filter _ [i + 1 + s] = _
    rw [List.filter_cons_of_pos (by rw [decide_eq_true h])]
    rfl
  · rw [if_neg h]
    show _ ++ List.filter _ [i + 1 + s] = _
    rw [List.filter_cons_of_neg (by rw [decide_eq_false h]; exact Bool.false_ne_true), List.filter_nil, List.append_nil]
theorem tips_len {x : Str} {i s : Nat} : (tipsL x i s).length ≤ s := by
  unfold tipsL
  exact Nat.le_trans (List.length_filter_le _ _) (by rw [List.length_map, List.length_range]; exact Nat.le_refl _)
theorem tips_mem {x : Str} {i t : Nat} (hi : i ≤ x.length) : t ∈ tipsL x i (x.length - i) ↔ i < t ∧ t ≤ x.length ∧ onceX x i t := by
  unfold tipsL
  rw [List.mem_filter, List.mem_map]
  constructor
  · rintro ⟨⟨q, hq, rfl⟩, h⟩
    have hq := List.mem_range.mp hq
    obtain ⟨h1, h2⟩ := of_decide_eq_true h
    exact ⟨h1, by omega, h2⟩
  · rintro ⟨h1, h2, h3⟩
    exact ⟨⟨t - (i + 1), List.mem_range.mpr (by omega), by omega⟩, decide_eq_true ⟨h1, h3⟩⟩
/-- the prices of exchanges up to the end t -/
noncomputable def rowB (x y : Str) (e i j t s : Nat) : List Int := (List.range s).map fun q => ((bF x y e t (j + q) : Nat) : Int) + (e : Nat) + (t : Nat) - (i : Nat) + ((j + q : Nat) : Int) - (j : Nat)
theorem rowB_snoc {x y : Str} {e i j t s : Nat} : rowB x y e i j t (s + 1) = rowB x y e i j t s ++ [((bF x y e t (j + s) : Nat) : Int) + (e : Nat) + (t : Nat) - (i : Nat) + ((j + s : Nat) : Int) - (j : Nat)] := by
  unfold rowB
  rw [List.range_succ, List.map_append]
  rfl
noncomputable def rowsB (x y : Str) (e i j : Nat) (ts : List Nat) : List Int := (ts.map fun t => rowB x y e i j t (y.length + 1 - j)).flatten
theorem rowsB_snoc {x y : Str} {e i j t : Nat} {ts : List Nat} : rowsB x y e i j (ts ++ [t]) = rowsB x y e i j ts ++ rowB x y e i j t (y.length + 1 - j) := by
  unfold rowsB
  rw [List.map_append, List.flatten_append]
  show _ ++ (_ ++ []) = _
  rw [List.append_nil]
theorem rowB_len {x y : Str} {e i j t s : Nat} : (rowB x y e i j t s).length = s := by unfold rowB; rw [List.length_map, List.length_range]
theorem rowsB_len {x y : Str} {e i j : Nat} : ∀ {ts : List Nat}, (rowsB x y e i j ts).length ≤ ts.length * (y.length + 1)
  | [] => Nat.zero_le _
  | t :: ts => by
    have := rowsB_len (x := x) (y := y) (e := e) (i := i) (j := j) (ts := ts)
    show (rowB x y e i j t (y.length + 1 - j) ++ rowsB x y e i j ts).length ≤ (ts.length + 1) * (y.length + 1)
    rw [List.length_append, rowB_len, Nat.succ_mul]
    omega
/-- the least of what the law lists is the table's next entry -/
theorem min_b {x y : Str} {e i j : Nat} (hi : i ≤ x.length) (hj : j ≤ y.length) {m : Int}
    (hm : m ∈ (if i = x.length ∧ j = y.length then [(0 : Int)] else []) ++ (if i < x.length ∧ x.cps.toList[i]? = y.cps.toList[j]? then [((bF x y e (i + 1) (j + 1) : Nat) : Int)] else []) ++ rowsB x y e i j (tipsL x i (x.length - i)) ++ [1000000000])
    (hl : ∀ v ∈ (if i = x.length ∧ j = y.length then [(0 : Int)] else []) ++ (if i < x.length ∧ x.cps.toList[i]? = y.cps.toList[j]? then [((bF x y e (i + 1) (j + 1) : Nat) : Int)] else []) ++ rowsB x y e i j (tipsL x i (x.length - i)) ++ [1000000000], m ≤ v) : m = ((bF x y e i j : Nat) : Int) := by
  have cs : m = 1000000000 ∨ (i = x.length ∧ j = y.length ∧ m = 0) ∨ (i < x.length ∧ x.cps.toList[i]? = y.cps.toList[j]? ∧ m = ((bF x y e (i + 1) (j + 1) : Nat) : Int)) ∨ ∃ t k : Nat, i < t ∧ t ≤ x.length ∧ onceX x i t ∧ j ≤ k ∧ k ≤ y.length ∧ m = ((bF x y e t k : Nat) : Int) + (e : Nat) + (t : Nat) - (i : Nat) + ((k : Nat) : Int) - (j : Nat) := by
    rcases List.mem_append.mp hm with h | h
    · rcases List.mem_append.mp h with h | h
      · rcases List.mem_append.mp h with h | h
        · by_cases c : i = x.length ∧ j = y.length
          · rw [if_pos c] at h
            exact .inr (.inl ⟨c.1, c.2, List.mem_singleton.mp h⟩)
          · rw [if_neg c] at h
            cases h
        · by_cases c : i < x.length ∧ x.cps.toList[i]? = y.cps.toList[j]?
          · rw [if_pos c] at h
            exact .inr (.inr (.inl ⟨c.1, c.2, List.mem_singleton.mp h⟩))
          · rw [if_neg c] at h
            cases h
      · obtain ⟨l, hl1, hl2⟩ := List.mem_flatten.mp h
        obtain ⟨t, ht, rfl⟩ := List.mem_map.mp hl1
        obtain ⟨q, hq, rfl⟩ := List.mem_map.mp hl2
        have hq := List.mem_range.mp hq
        obtain ⟨t1, t2, t3⟩ := (tips_mem hi).mp ht
        exact .inr (.inr (.inr ⟨t, j + q, t1, t2, t3, by omega, by omega, rfl⟩))
    · exact .inl (List.mem_singleton.mp h)
  obtain ⟨v, rfl⟩ : ∃ v : Nat, m = (v : Nat) := ⟨m.toNat, by
    have : 0 ≤ m := by
      rcases cs with rfl | ⟨_, _, rfl⟩ | ⟨_, _, rfl⟩ | ⟨t, k, _, _, _, _, _, rfl⟩ <;> omega
    omega⟩
  have tp := hl _ (List.mem_append_right _ (List.mem_singleton.mpr rfl))
  refine congrArg _ (bF_rec hi hj (by omega) (fun h1 h2 => ?_) (fun h1 h2 => ?_) (fun t k h1 h2 h3 h4 h5 => ?_) (fun h => ?_)).symm
  · have := hl 0 (List.mem_append_left _ (List.mem_append_left _ (List.mem_append_left _ (by rw [if_pos ⟨h1, h2⟩]; exact List.mem_singleton.mpr rfl))))
    omega
  · have := hl _ (List.mem_append_left _ (List.mem_append_left _ (List.mem_append_right _ (by rw [if_pos ⟨h1, h2⟩]; exact List.mem_singleton.mpr rfl))))
    omega
  · have := hl _ (List.mem_append_left _ (List.mem_append_right _ (List.mem_flatten.mpr ⟨_, List.mem_map.mpr ⟨t, (tips_mem hi).mpr ⟨h1, h2, h3⟩, rfl⟩, List.mem_map.mpr ⟨k - j, List.mem_range.mpr (by omega), rfl⟩⟩)))
    rw [show j + (k - j) = k by omega] at this
    omega
  · rcases cs with q | ⟨q1, q2, q3⟩ | ⟨q1, q2, q3⟩ | ⟨t, k, q1, q2, q3, q4, q5, q6⟩
    · omega
    · exact .inl ⟨q1, q2, by omega⟩
    · exact .inr (.inl ⟨q1, q2, by omega⟩)
    · exact .inr (.inr ⟨t, k, q1, q2, q3, q4, q5, by omega⟩)
/-- one letter of each -/
theorem cut_one {x : Str} {i : Nat} : (cutS x (some (i : Int)) (some ((i : Int) + 1))).cps.toList = (x.cps.toList.drop i).take 1 := by
  have lx : x.cps.toList.length = x.length := Array.length_toList
  rw [show (i : Int) + 1 = ((i + 1 : Nat) : Int) by omega]
  by_cases h : i + 1 ≤ x.length
  · rw [cut_mid (by omega) h, show i + 1 - i = 1 by omega]
  · rw [List.drop_of_length_le (by omega)]
    unfold cutS
    rw [HT.sIx_nat, HT.sIx_nat]
    rw [List.drop_of_length_le (by omega)]
    simp
theorem one_letter {x y : Str} {i j : Nat} (hi : i < x.length) : decide (V.str (cutS x (some (i : Int)) (some ((i : Int) + 1))) = V.str (cutS y (some (j : Int)) (some ((j : Int) + 1)))) = decide (x.cps.toList[i]? = y.cps.toList[j]?) := by
  have lx : x.cps.toList.length = x.length := Array.length_toList
  have one : ∀ (l : List Nat) (i : Nat), (l.drop i).take 1 = (l[i]?).toList := fun l i => by
    rcases Nat.lt_or_ge i l.length with h | h
    · rw [List.drop_eq_getElem_cons h, List.getElem?_eq_getElem h]
      rfl
    · rw [List.drop_of_length_le h, List.getElem?_eq_none h]
      rfl
  refine decide_eq_decide.mpr ⟨fun z => ?_, fun z => ?_⟩
  · have z := congrArg (fun s : Str => s.cps.toList) (V.str.inj z)
    simp only [cut_one, one] at z
    cases h1 : x.cps.toList[i]? <;> cases h2 : y.cps.toList[j]? <;> rw [h1, h2] at z
    · cases z
    · cases z
    · cases z; rfl
  · refine congrArg V.str (str_ext ?_)
    rw [cut_one, cut_one, one, one, z]
end Vk
set_option Elab.async false
set_option maxRecDepth 100000
set_option maxHeartbeats 4000000
set_option linter.all false
namespace Vk
open PySem PySem.Spec PyProof.Rows L2
/-! ## {k: v for x in l}, l a list that stays -/
theorem for_rangeC {lo c : Int} {n : Nat} {g : TG} {tb : TS} {D : Ends} {σ : L2.St} {H : Hp} (Pv : Nat → L2.St → Hp → Prop) (h0 : Pv 0 σ H)
    (hs : ∀ i σ H, i < n → Pv i σ H → g (.int (lo + (i : Nat) * c)) σ H fun σ2 H2 => tb { D with nx := Pv (i + 1), ct := Pv (i + 1), bk := D.nx } σ2 H2) (hd : ∀ σ H, Pv n σ H → D.nx σ H) :
    ∃ W : Nat → Nat → L2.St → Hp → Prop, (∃ m, W 0 m σ H) ∧ ∀ i m σ H, W i m σ H →
      ((Itc lo c n).stop i H ∧ D.nx σ H) ∨ ((Itc lo c n).go i H ∧ ∃ N : L2.St → Hp → Prop, (∀ σ' H', N σ' H' → ∃ m', m' < m ∧ W (i + 1) m' σ' H') ∧ ∀ x1 H', (Itc lo c n).yld i H x1 H' → g x1 σ H' fun σ2 H2 => tb { D with nx := N, ct := N, bk := D.nx } σ2 H2) := by
  refine ⟨fun i m σ H => m = n - i ∧ i ≤ n ∧ Pv i σ H, ⟨n, by simp, Nat.zero_le _, h0⟩, ?_⟩
  rintro i m σ H ⟨rfl, hi, p⟩
  by_cases hlt : i < n
  · refine .inr ⟨hlt, Pv (i + 1), fun σ' H' p' => ⟨n - (i + 1), by omega, rfl, hlt, p'⟩, ?_⟩
    rintro x1 H' ⟨rfl, rfl⟩
    exact hs i σ _ hlt p
  · have e : i = n := by omega
    subst e
    exact .inl ⟨Nat.le_refl _, hd σ H p⟩
theorem call_isiK {X : Cx} {K : PySem.W.Frag} (h : X.K = K) : CallR X (.builtin "isinstance") (rIsi K) := h ▸ call_isi
end Vk
set_option Elab.async false
set_option maxRecDepth 100000
set_option linter.all false
set_option maxHeartbeats 4000000
namespace Vk
open PySem PySem.Spec PyProof.Rows L2 StX
theorem rg_down : ∀ n : Nat, n < 9 → RgC (n : Nat) (-1) (-1) (n + 1) := by
  unfold RgC
  decide
theorem andV_by {A B : TE} {σ : L2.St} {H : Hp} {Q : VK} {p q : Prop} [Decidable p] [Decidable q] (ha : ∀ Q' : VK, Q' (.bl (decide p)) H → A σ H Q') (hb : ∀ Q' : VK, Q' (.bl (decide q)) H → B σ H Q') (h : Q (.bl (decide (p ∧ q))) H) : tAndV A B σ H Q := by
  refine ha _ ⟨_, rfl, ?_⟩
  by_cases c : p
  · rw [decide_eq_true c]
    rw [show decide (p ∧ q) = decide q by simp [c]] at h
    exact iteT (hb _ h)
  · rw [decide_eq_false c]
    rw [show decide (p ∧ q) = false by simp [c]] at h
    exact iteF h
theorem eq_by {σ : L2.St} {H : Hp} {n m : Nat} {i j : Nat} (h : σ[n]? = some (some (.int (i : Nat)))) (h2 : σ[m]? = some (some (.int (j : Nat)))) : ∀ Q' : VK, Q' (.bl (decide (i = j))) H → tOp rEq (tVar n) (tVar m) σ H Q' := fun Q' q => ⟨_, h, _, h2, rfl, by
  rw [show decide (V.int ((i : Nat) : Int) = V.int ((j : Nat) : Int)) = decide (i = j) from decide_eq_decide.mpr ⟨fun z => by have := V.int.inj z; omega, fun z => by rw [z]⟩]
  exact q⟩
def HasB (x y : Str) (e : Nat) (kvs : List (List Key × V)) (S : Nat → Nat → Prop) : Prop := ∀ i j : Nat, i ≤ x.length → j ≤ y.length → S i j → valV kvs [.inl (i : Int), .inl (j : Int)] = some (.int (bF x y e i j : Nat))
section
variable {P : Program} {w : World} {K : PySem.W.Frag} {mg : Str → Option Value} {base : Heap}
noncomputable def bestV (x y : Str) (e : Nat) : V := if bF x y e 0 0 < 1000000000 then .int (bF x y e 0 0 : Nat) else .non
def spNbest : Sp := fun vs H Q _ => ∃ (x y : Str) (e : Nat), vs = [.str x, .str y, .int (e : Nat)] ∧ x.length ≤ 8 ∧ y.length ≤ 8 ∧ ∀ H', Same H H' → Q (bestV x y e) H'
abbrev s_lnbest : Stmt := top 25
theorem sc_lnbest : FnScope ["_law_left", "_law_right", "_law_extra", "_law_size", "_law_many", "_law_best", "_law_i", "_law_tips", "_law_tip", "_law_j", "_law_some", "_law_k"] ["_law_left", "_law_right", "_law_extra"] (defScope s_lnbest) := ⟨rfl, rfl, rfl, by decide +kernel, rfl, by decide +kernel, by decide +kernel⟩
theorem b_lnbest {f : Addr} {fd : FuncData} (F : Fun K "_law_nbest" "_law_nbest" s_lnbest f fd) (T : Txt mg) (c_lnonce : CalG P w K mg base CX0 2 "_law_nonce" spNonce) : FnG P w K mg base CX0 3 f fd ["_law_left", "_law_right", "_law_extra"] spNbest := by
  refine okG0 F sc_lnbest (fun vs H Q E h => ?_) (fun cdv A outer s H vs Q E hg hr h => ?_)
  · obtain ⟨x, y, e, rfl, _⟩ := h
    rfl
  · have hu := hu_of hr
    have hu64 := hr.units
    obtain ⟨x, y, e, rfl, hx, hy, k⟩ := h
    have xl : x.length ≤ sizeLine := Nat.le_of_lt (fewL (by omega))
    have yl : y.length ≤ sizeLine := Nat.le_of_lt (fewL (by omega))
    have lx : x.cps.toList.length = x.length := Array.length_toList
    have ly : y.cps.toList.length = y.length := Array.length_toList
    refine ⟨_, (pss_cons (ps_asg (pe_tup (pa_cons (pe_callB call_len (by rfl) T.len (by decide +kernel) (pa_cons (pv 0) pa_nil)) (pa_cons (pe_callB call_len (by rfl) T.len (by decide +kernel) (pa_cons (pv 1) pa_nil)) (pa_cons pe_dnewT pa_nil)))) (pg_tup rfl (pgs_cons (pg_name (i := 3) sc_lnbest.nd rfl (Or.inl rfl)) (pgs_cons (pg_name (i := 4) sc_lnbest.nd rfl (Or.inl rfl)) (pgs_cons (pg_name (i := 5) sc_lnbest.nd rfl (Or.inr rfl)) pgs_nil)))))
      (pss_cons (ps_for PassesOwn.never rfl (pi_range3 rfl T.range (pa_cons (pv 3) (pa_cons (pe_un un_neg pe_int) (pa_cons (pe_un un_neg pe_int) pa_nil)))) (pg_name (i := 6) sc_lnbest.nd rfl (Or.inr rfl)) (pss_cons (ps_setLc (i := 7) (own := [("_law_tip", 8)]) (g := gName 8) rfl sc_lnbest.nd rfl rfl (sw_true rfl rfl rfl (by decide +kernel)) (pi_range2 rfl T.range (pa_cons (pe_op op_add (pv 6) pe_int) (pa_cons (pe_op op_add (pv 3) pe_int) pa_nil))) (blkOk_by (own := [("_law_tip", 8)]) (N := ["_law_left", "_law_right", "_law_extra", "_law_size", "_law_many", "_law_best", "_law_i", "_law_tips", "_law_tip", "_law_j", "_law_some", "_law_k"]) (sc := defScope s_lnbest) (by decide +kernel)) (fun _ _ _ _ _ => (pg_name (i := 8) sc_lnbest.nd rfl (Or.inl rfl))) (fun _ _ _ _ _ => (pts_one (pt_val (pe_cG c_lnonce hg hr (by decide) pass0 (pa_cons (pv 0) (pa_cons (pv 6) (pa_cons (pv 8) pa_nil))))))) (fun _ _ _ _ _ => (pv 8)))
      (pss_one (ps_for PassesOwn.never rfl (pi_range3 rfl T.range (pa_cons (pv 4) (pa_cons (pe_un un_neg pe_int) (pa_cons (pe_un un_neg pe_int) pa_nil)))) (pg_name (i := 9) sc_lnbest.nd rfl (Or.inr rfl)) (pss_cons (ps_set (i := 10) sc_lnbest.nd rfl (Or.inl rfl) (pe_op op_rep (pe_lst (pa_cons pe_int pa_nil)) (pe_callTy call_int1 (by rfl) T.int (by decide +kernel) (pa_cons (pe_and (pe_cmpR op_eq (pv 6) (pv 3) (nomark _)) (pe_one (pe_cmpR op_eq (pv 9) (pv 4) (nomark _)))) pa_nil))))
      (pss_cons (ps_if (PW.pt (pw_and (pt_cmpR op_eq (pe_slice sl_str (pv 0) (po_some (pv 6)) (po_some (pe_op op_add (pv 6) pe_int))) (pe_slice sl_str (pv 1) (po_some (pv 9)) (po_some (pe_op op_add (pv 9) pe_int))) (nomark _)) (pw_and1 (pt_cmpR op_lt (pv 6) (pv 3) (nomark _))))) (pss_one (ps_expr (pe_bm PySem.F.plainAttrs_list PySem.F.slot_list_append PySem.F.type_list_append mt_append (pv 10) (pa_cons (pe_dget2 hu (pv 5) (pe_tup (pa_cons (pe_op op_add (pv 6) pe_int) (pa_cons (pe_op op_add (pv 9) pe_int) pa_nil))) (pe_op op_pow pe_int pe_int) ⟨rfl, rfl, rfl, rfl⟩) pa_nil)))) pss_nil)
      (pss_cons (ps_for PassesOwn.never rfl (pi_list (pv 7)) (pg_name (i := 8) sc_lnbest.nd rfl (Or.inr rfl)) (pss_one (ps_expr (pe_bm PySem.F.plainAttrs_list PySem.F.slot_list_extend PySem.F.type_list_extend mt_extend (pv 10) (pa_cons (pe_lc (own := [("_law_k", 11)]) (g := gName 11) (tt := tYes) rfl sc_lnbest.nd (pi_range2 rfl T.range (pa_cons (pv 9) (pa_cons (pe_op op_add (pv 4) pe_int) pa_nil))) (blkOk_by (own := [("_law_k", 11)]) (N := ["_law_left", "_law_right", "_law_extra", "_law_size", "_law_many", "_law_best", "_law_i", "_law_tips", "_law_tip", "_law_j", "_law_some", "_law_k"]) (sc := defScope s_lnbest) (by decide +kernel)) (fun _ _ _ _ _ => (pg_name (i := 11) sc_lnbest.nd rfl (Or.inl rfl))) (fun _ _ _ _ _ => pts_nil) (fun _ _ _ _ _ => (pe_op op_sub (pe_op op_add (pe_op op_sub (pe_op op_add (pe_op op_add (pe_dget2 hu (pv 5) (pe_tup (pa_cons (pv 8) (pa_cons (pv 11) pa_nil))) (pe_op op_pow pe_int pe_int) ⟨rfl, rfl, rfl, rfl⟩) (pv 2)) (pv 8)) (pv 6)) (pv 11)) (pv 9)))) pa_nil)))))
      (pss_one (ps_dput hu (pv 5) (pe_tup (pa_cons (pv 6) (pa_cons (pv 9) pa_nil))) (pe_callB (cr_min rfl) (by rfl) T.min (by decide +kernel) (pa_cons (pe_op op_cat (pv 10) (pe_lst (pa_cons (pe_op op_pow pe_int pe_int) pa_nil))) pa_nil)) rfl)))))))))
      (pss_one (ps_ret (pe_ifExp (pt_cmpR op_lt (pe_dget hu (pv 5) (pe_tup (pa_cons pe_int (pa_cons pe_int pa_nil))) (fun _ _ => rfl)) (pe_op op_pow pe_int pe_int) (nomark _)) (pe_dget hu (pv 5) (pe_tup (pa_cons pe_int (pa_cons pe_int pa_nil))) (fun _ _ => rfl)) pe_non))))), ?_⟩
    refine ⟨_, rfl, _, _, rfl, ⟨xl, rfl⟩, _, rfl, _, _, rfl, ⟨yl, rfl⟩, ?_⟩
    refine fun d hd => ⟨by show 3 ≤ sizeLine; decide, fun tq htq => ⟨tq, _, rfl, SqT.of upd_same, rfl, _, _, rfl, _, _, rfl, _, _, rfl, rfl, ?_⟩⟩
    have sd := same_new (o := .dT []) hd
    have sq := same_new (o := .tup [.int (x.length : Nat), .int (y.length : Nat), .ref d]) htq
    have hd1 : upd (upd H d (.dT [])) tq (.tup [.int (x.length : Nat), .int (y.length : Nat), .ref d]) d = some (.dT []) := sq _ _ upd_same
    have s1 := sd.trans sq
    generalize upd (upd H d (.dT [])) tq (.tup [.int (x.length : Nat), .int (y.length : Nat), .ref d]) = H1 at hd1 s1 ⊢
    dsimp only
    refine ⟨_, rfl, _, rfl, _, rfl, _, _, _, x.length + 1, rfl, rg_down _ (by omega), ?_⟩
    refine for_rangeC (fun t σ H' => ∃ (o6 o7 o8 o9 o10 o11 : Option V) (kvs : List (List Key × V)), σ = [some (.str x), some (.str y), some (.int (e : Nat)), some (.int (x.length : Nat)), some (.int (y.length : Nat)), some (.ref d), o6, o7, o8, o9, o10, o11] ∧ H' d = some (.dT kvs) ∧ kvs.length ≤ t * (y.length + 1) ∧ HasB x y e kvs (fun i' _ => x.length < i' + t) ∧ Same H H') ?_ ?_ ?_
    · exact ⟨_, _, _, _, _, _, [], rfl, hd1, Nat.zero_le _, fun i' j' h1 _ h3 => by omega, s1⟩
    · rintro t σ H2 ht ⟨o6, o7, o8, o9, o10, o11, kvs, rfl, hd2, kl2, hb2, s2⟩
      obtain ⟨i, hi⟩ : ∃ i, i = x.length - t := ⟨_, rfl⟩
      have ei : ((x.length : Nat) : Int) + ((t : Nat) : Int) * (-1) = ((i : Nat) : Int) := by omega
      have hix : i ≤ x.length := by omega
      rw [ei]
      dsimp only
      refine name_go ⟨_, rfl, _, _, rfl, rfl, _, rfl, _, _, rfl, rfl, _, _, rfl, ?_⟩
      refine ⟨by omega, fun tl htl => ?_⟩
      have stl := same_new (o := .lst []) htl
      have en : (((x.length : Nat) : Int) + 1 - (((i : Nat) : Int) + 1)).toNat = x.length - i := by omega
      refine lc_range (lo := ((i : Nat) : Int) + 1) (n := (((x.length : Nat) : Int) + 1 - (((i : Nat) : Int) + 1)).toNat) (fun s H' => H' tl = some (.lst ((tipsL x i s).map fun t => V.int (t : Nat))) ∧ Same H2 H') ?_ ?_ ?_
      · exact ⟨upd_same, stl⟩
      · rintro s H3 hs ⟨htl3, s3⟩
        rw [en] at hs
        have es : ((i : Nat) : Int) + 1 + ((s : Nat) : Int) = ((i + 1 + s : Nat) : Int) := by omega
        rw [es]
        refine ⟨rfl, _, rfl, _, rfl, _, rfl, x, i, i + 1 + s, rfl, by omega, fun _ => by omega, fun H4 s4 => ⟨_, rfl, ?_⟩⟩
        by_cases c : i < i + 1 + s ∧ twB x i (i + 1 + s) = false
        · rw [decide_eq_true c]
          refine iteT ⟨_, rfl, _, s4 _ _ htl3, fewL (by rw [List.length_map]; have := tips_len (x := x) (i := i) (s := s); omega), ?_, upd_out htl (s3.trans s4)⟩
          rw [upd_same, tips_snoc, if_pos c, List.map_append]
          rfl
        · rw [decide_eq_false c]
          refine iteF ⟨?_, s3.trans s4⟩
          rw [s4 _ _ htl3, tips_snoc, if_neg c]
      · rintro H3 ⟨htl3, s3⟩
        rw [en] at htl3
        have hd3 := s3 _ _ hd2
        have s23 := s2.trans s3
        have tsl := tips_len (x := x) (i := i) (s := x.length - i)
        generalize hts : tipsL x i (x.length - i) = ts at htl3 tsl
        refine name_go ⟨_, rfl, _, rfl, _, rfl, _, _, _, y.length + 1, rfl, rg_down _ (by omega), ?_⟩
        refine for_rangeC (fun u σ H' => ∃ (o8 o9 o10 o11 : Option V) (kvs : List (List Key × V)), σ = [some (.str x), some (.str y), some (.int (e : Nat)), some (.int (x.length : Nat)), some (.int (y.length : Nat)), some (.ref d), some (.int (i : Nat)), some (.ref tl), o8, o9, o10, o11] ∧ H' d = some (.dT kvs) ∧ kvs.length ≤ t * (y.length + 1) + u ∧ HasB x y e kvs (fun i' j' => x.length < i' + t ∨ (i' = i ∧ y.length < j' + u)) ∧ H' tl = some (.lst (ts.map fun t => V.int (t : Nat))) ∧ Same H H') ?_ ?_ ?_
        · exact ⟨_, _, _, _, kvs, rfl, hd3, by omega, fun i' j' h1 h2 h3 => hb2 i' j' h1 h2 (h3.resolve_right (by omega)), htl3, s23⟩
        · rintro u σ H4 hu4 ⟨o8, o9, o10, o11, kvs, rfl, hd4, kl4, hb4, htl4, s4⟩
          obtain ⟨j, hj⟩ : ∃ j, j = y.length - u := ⟨_, rfl⟩
          have ej : ((y.length : Nat) : Int) + ((u : Nat) : Int) * (-1) = ((j : Nat) : Int) := by omega
          have hjy : j ≤ y.length := by omega
          rw [ej]
          dsimp only
          refine name_go ⟨by show 1 ≤ sizeLine; decide, fun p1 hp1 => ?_⟩
          have sp1 := same_new (o := .lst [.int 0]) hp1
          refine andV_by (p := i = x.length) (q := j = y.length) (eq_by rfl rfl) (eq_by rfl rfl) ?_
          refine .inr ⟨_, rfl, p1, _, _, rfl, rfl, upd_same, by split <;> omega, by split <;> omega, by show 1 * _ ≤ _; split <;> decide, fun sm hsm => ?_⟩
          have hb5 : upd (upd H4 p1 (.lst [.int 0])) sm (.lst (List.replicate (if decide (i = x.length ∧ j = y.length) = true then (1 : Int) else 0).toNat [V.int 0]).flatten) sm = some (.lst ((if i = x.length ∧ j = y.length then [(0 : Int)] else []).map V.int)) := by
            rw [upd_same]
            by_cases c : i = x.length ∧ j = y.length
            · rw [if_pos c, if_pos (decide_eq_true c)]
              rfl
            · rw [if_neg c, if_neg (by rw [decide_eq_false c]; exact Bool.false_ne_true)]
              rfl
          have s5 := same_new (o := .lst (List.replicate (if decide (i = x.length ∧ j = y.length) = true then (1 : Int) else 0).toNat [V.int 0]).flatten) hsm
          have l0 : (if i = x.length ∧ j = y.length then [(0 : Int)] else []).length ≤ 1 := by split <;> decide
          generalize hL0 : (if i = x.length ∧ j = y.length then [(0 : Int)] else []) = L0 at hb5 l0
          generalize upd (upd H4 p1 (.lst [.int 0])) sm (.lst (List.replicate (if decide (i = x.length ∧ j = y.length) = true then (1 : Int) else 0).toNat [V.int 0]).flatten) = H6 at hb5 s5 ⊢
          have hd5 := sp1 _ _ hd4
          have htl5 := sp1 _ _ htl4
          have s45 := s4.trans sp1
          generalize upd H4 p1 (.lst [.int 0]) = H5 at hsm s5 hd5 htl5 s45
          refine name_go ?_
          dsimp only
          refine seq_mid (fun σ H' => σ = [some (.str x), some (.str y), some (.int (e : Nat)), some (.int (x.length : Nat)), some (.int (y.length : Nat)), some (.ref d), some (.int (i : Nat)), some (.ref tl), o8, some (.int (j : Nat)), some (.ref sm), o11] ∧ H' sm = some (.lst ((L0 ++ (if i < x.length ∧ x.cps.toList[i]? = y.cps.toList[j]? then [((bF x y e (i + 1) (j + 1) : Nat) : Int)] else [])).map V.int)) ∧ Same H5 H') (fun D' hD' => ?_) (fun σ H7 hm => ?_)
          · refine and_by (p := V.str (cutS x (some (i : Int)) (some ((i : Int) + 1))) = V.str (cutS y (some (j : Int)) (some ((j : Int) + 1)))) (q := i < x.length) (fun k' q => ⟨_, rfl, _, rfl, _, rfl, _, rfl, _, _, rfl, rfl, _, rfl, x, rfl, xl, _, rfl, _, rfl, _, rfl, _, rfl, _, _, rfl, rfl, _, rfl, y, rfl, yl, rfl, _, rfl, q⟩) (fun _ k' q => ⟨_, rfl, _, rfl, _, _, rfl, rfl, _, rfl, by
              rw [show decide (((i : Nat) : Int) < ((x.length : Nat) : Int)) = decide (i < x.length) from decide_eq_decide.mpr (by omega)]
              exact q⟩) ?_
            rw [show decide (V.str (cutS x (some (i : Int)) (some ((i : Int) + 1))) = V.str (cutS y (some (j : Int)) (some ((j : Int) + 1))) ∧ i < x.length) = decide (i < x.length ∧ x.cps.toList[i]? = y.cps.toList[j]?) by
              by_cases c : i < x.length
              · simp only [c, and_true, true_and]
                exact one_letter c
              · simp [c]]
            by_cases c : i < x.length ∧ x.cps.toList[i]? = y.cps.toList[j]?
            · rw [decide_eq_true c]
              have cj : j < y.length := by
                have c2 := c.2
                rw [List.getElem?_eq_getElem (by omega)] at c2
                have := (List.getElem?_eq_some_iff.mp c2.symm).1
                omega
              have hd6 := s5 _ _ hd5
              refine iteT ⟨_, rfl, .inl ⟨rfl, _, SqL.of hb5⟩, _, rfl, d, rfl, .inr ⟨kvs, .inl hd6⟩, _, rfl, _, _, rfl, rfl, _, rfl, _, _, rfl, rfl, by show 2 ≤ sizeLine; decide, fun q hq => ⟨_, _, rfl, rfl, ⟨by decide, by decide, by decide⟩, ?_⟩⟩
              have sqq := same_new (o := .tup [.int ((i : Int) + 1), .int ((j : Int) + 1)]) hq
              have vv : valV kvs [.inl ((i : Int) + 1), .inl ((j : Int) + 1)] = some (.int (bF x y e (i + 1) (j + 1) : Nat)) := hb4 (i + 1) (j + 1) (by omega) (by omega) (.inl (by omega))
              refine ⟨some (.int (bF x y e (i + 1) (j + 1) : Nat)), .inr ⟨kvs, [.inl ((i : Int) + 1), .inl ((j : Int) + 1)], q, .inl (sqq _ _ hd6), rfl, upd_same, vv.symm⟩, sm, _, _, rfl, rfl, sqq _ _ hb5, fewL (by rw [List.length_map]; omega), hD' _ _ ⟨rfl, ?_, upd_out hsm (s5.trans sqq)⟩⟩
              rw [upd_same, if_pos c, List.map_append]
              rfl
            · rw [decide_eq_false c]
              exact iteF (hD' _ _ ⟨rfl, by rw [if_neg c, List.append_nil]; exact hb5, s5⟩)
          obtain ⟨rfl, hb7, s7⟩ := hm
          have l01 : (L0 ++ (if i < x.length ∧ x.cps.toList[i]? = y.cps.toList[j]? then [((bF x y e (i + 1) (j + 1) : Nat) : Int)] else [])).length ≤ 2 := by
            rw [List.length_append]
            split
            · rw [List.length_singleton]; omega
            · rw [List.length_nil]; omega
          generalize hL1 : L0 ++ (if i < x.length ∧ x.cps.toList[i]? = y.cps.toList[j]? then [((bF x y e (i + 1) (j + 1) : Nat) : Int)] else []) = L1 at hb7 l01
          refine ⟨_, rfl, tl, rfl, ⟨_, SqL.of (s7 _ _ htl5)⟩, ?_⟩
          have rl : ∀ z : Nat, (rowsB x y e i j (ts.take z)).length ≤ 72 := fun z => by
            have a := rowsB_len (x := x) (y := y) (e := e) (i := i) (j := j) (ts := ts.take z)
            have b : (ts.take z).length ≤ 8 := by rw [List.length_take]; omega
            exact Nat.le_trans a (Nat.le_trans (Nat.mul_le_mul b (show y.length + 1 ≤ 9 by omega)) (by decide))
          refine for_list (K := K) (a := tl) (xs := ts.map fun t => V.int (t : Nat)) (fun z σ H' => ∃ (o8 o11 : Option V), σ = [some (.str x), some (.str y), some (.int (e : Nat)), some (.int (x.length : Nat)), some (.int (y.length : Nat)), some (.ref d), some (.int (i : Nat)), some (.ref tl), o8, some (.int (j : Nat)), some (.ref sm), o11] ∧ H' sm = some (.lst ((L1 ++ rowsB x y e i j (ts.take z)).map V.int)) ∧ Same H5 H') ?_ ?_ ?_ ?_
          · refine ⟨_, _, rfl, ?_, s7⟩
            rw [List.take_zero]
            show _ = some (HO.lst ((L1 ++ []).map V.int))
            rw [List.append_nil]
            exact hb7
          · rintro z σ H8 _ ⟨o8, o11, rfl, _, s8⟩
            exact SqL.of (s8 _ _ htl5)
          · rintro z v σ H8 hv ⟨o8, o11, rfl, hb8, s8⟩
            rw [List.getElem?_map] at hv
            obtain ⟨tip, htip, rfl⟩ := Option.map_eq_some_iff.mp hv
            have tm := List.mem_of_getElem? htip
            rw [← hts] at tm
            obtain ⟨t1, t2, t3⟩ := (tips_mem hix).mp tm
            refine name_go ⟨_, rfl, .inl ⟨rfl, _, SqL.of hb8⟩, _, rfl, _, rfl, _, _, rfl, rfl, _, _, rfl, ⟨by omega, by omega, by omega, by omega⟩, fun D hD => ?_⟩
            have sD := same_new (o := .lst []) hD
            have em : (((y.length : Nat) : Int) + 1 - ((j : Nat) : Int)).toNat = y.length + 1 - j := by omega
            refine lc_range (lo := ((j : Nat) : Int)) (n := (((y.length : Nat) : Int) + 1 - ((j : Nat) : Int)).toNat) (fun s H' => H' D = some (.lst ((rowB x y e i j tip s).map V.int)) ∧ Same H8 H') ?_ ?_ ?_
            · exact ⟨upd_same, sD⟩
            · rintro s H9 hs ⟨hD9, s9⟩
              rw [em] at hs
              have hd9 := s9 _ _ (s8 _ _ hd5)
              have es : ((j : Nat) : Int) + ((s : Nat) : Int) = ((j + s : Nat) : Int) := by omega
              rw [es]
              refine ⟨rfl, _, rfl, d, rfl, .inr ⟨kvs, .inl hd9⟩, _, rfl, _, rfl, by show 2 ≤ sizeLine; decide, fun q hq => ⟨_, _, rfl, rfl, ⟨by decide, by decide, by decide⟩, ?_⟩⟩
              have sqq := same_new (o := .tup [.int ((tip : Nat) : Int), .int ((j + s : Nat) : Int)]) hq
              have vv := hb4 tip (j + s) (by omega) (by omega) (.inl (by omega))
              refine ⟨some (.int (bF x y e tip (j + s) : Nat)), .inr ⟨kvs, [.inl ((tip : Nat) : Int), .inl ((j + s : Nat) : Int)], q, .inl (sqq _ _ hd9), rfl, upd_same, vv.symm⟩, ?_⟩
              refine ⟨_, rfl, _, _, rfl, rfl, _, rfl, _, _, rfl, rfl, _, rfl, _, _, rfl, rfl, _, rfl, _, _, rfl, rfl, _, rfl, _, _, rfl, rfl, _, sqq _ _ hD9, fewL (by rw [List.length_map, rowB_len]; omega), ?_, upd_out hD (s9.trans sqq)⟩
              rw [upd_same, rowB_snoc, List.map_append]
              rfl
            · rintro H9 ⟨hD9, s9⟩
              rw [em] at hD9
              have hb9 := s9 _ _ hb8
              refine ⟨sm, D, _, _, rfl, rfl, hb9, hD9, Nat.le_of_lt (fewL ?_), ?_⟩
              · have := rl z
                rw [List.length_map, List.length_map, List.length_append, rowB_len]
                omega
              · refine ⟨_, _, rfl, ?_, upd_out hsm (s8.trans s9)⟩
                rw [upd_same, List.take_add_one, htip, Option.toList_some, rowsB_snoc, ← List.map_append, List.append_assoc]
          · rintro σ H8 ⟨o8, o11, rfl, hb8, s8⟩
            rw [List.length_map, List.take_of_length_le (Nat.le_refl _)] at hb8
            have rl8 := rl ts.length
            rw [List.take_of_length_le (Nat.le_refl _)] at rl8
            refine ⟨_, rfl, _, _, rfl, rfl, ⟨by decide, by decide, by decide⟩, by show 1 ≤ sizeLine; decide, fun q hq => ?_⟩
            have sq8 := same_new (o := .lst [.int (10 ^ (9 : Int).toNat)]) hq
            refine ⟨sm, q, _, _, rfl, rfl, sq8 _ _ hb8, upd_same, Nat.le_of_lt (fewL (by rw [List.length_map, List.length_append, List.length_singleton]; omega)), fun p hp => ?_⟩
            have sp8 := same_new (o := .lst ((L1 ++ rowsB x y e i j ts).map V.int ++ [.int (10 ^ (9 : Int).toNat)])) hp
            refine ⟨p, L1 ++ rowsB x y e i j ts ++ [1000000000], rfl, SqL.of (by rw [upd_same, List.map_append (l₁ := L1 ++ rowsB x y e i j ts) (l₂ := [1000000000])]; rfl), by rw [List.length_append, List.length_singleton]; omega, fun m hm1 hm2 => ?_⟩
            have ev : m = ((bF x y e i j : Nat) : Int) := by
              subst hts hL1 hL0
              exact min_b hix hjy hm1 hm2
            subst ev
            have s88 := (s8.trans sq8).trans sp8
            have hd8 := s88 _ _ hd5
            have htl8 := s88 _ _ htl5
            refine ⟨_, rfl, _, rfl, _, rfl, by show 2 ≤ sizeLine; decide, fun q2 hq2 => ?_⟩
            have sq2 := same_new (o := .tup [.int (i : Nat), .int (j : Nat)]) hq2
            refine ⟨d, _, rfl, .inr ⟨kvs, [.inl ((i : Nat) : Int), .inl ((j : Nat) : Int)], q2, sq2 _ _ hd8, rfl, upd_same, fewL ?_, rfl⟩, ?_⟩
            · have : t * (y.length + 1) ≤ 8 * 9 := Nat.mul_le_mul (by omega) (by omega)
              omega
            · refine ⟨_, _, _, _, putK kvs [.inl ((i : Nat) : Int), .inl ((j : Nat) : Int)] (.int (bF x y e i j : Nat)), rfl, upd_same, ?_, fun i' j' h1 h2 h3 => ?_, ?_, upd_out hd ((s45.trans s88).trans sq2)⟩
              · have := length_putK kvs [.inl ((i : Nat) : Int), .inl ((j : Nat) : Int)] (.int (bF x y e i j : Nat))
                omega
              · rw [valV_put]
                by_cases c : i' = i ∧ j' = j
                · obtain ⟨rfl, rfl⟩ := c
                  rw [if_pos rfl]
                · rw [if_neg (fun z => c (by
                    have z1 := List.cons.inj z
                    have z2 := List.cons.inj z1.2
                    have w1 := Sum.inl.inj z1.1
                    have w2 := Sum.inl.inj z2.1
                    omega))]
                  exact hb4 i' j' h1 h2 (by omega)
              · rw [upd_ne (fun z => by
                  have := sq2 _ _ htl8
                  rw [z, sq2 _ _ hd8] at this
                  cases this)]
                exact sq2 _ _ htl8
        · rintro σ H4 ⟨o8, o9, o10, o11, kvs, rfl, hd4, kl4, hb4, htl4, s4⟩
          refine ⟨_, _, _, _, _, _, kvs, rfl, hd4, by rw [Nat.succ_mul]; omega, fun i' j' h1 h2 h3 => hb4 i' j' h1 h2 (by omega), s4⟩
    · rintro σ H2 ⟨o6, o7, o8, o9, o10, o11, kvs, rfl, hd2, kl2, hb2, s2⟩
      have vv : valV kvs [.inl 0, .inl 0] = some (.int (bF x y e 0 0 : Nat)) := hb2 0 0 (Nat.zero_le _) (Nat.zero_le _) (by omega)
      refine ⟨_, rfl, by show 2 ≤ sizeLine; decide, fun q hq => ?_⟩
      have sqq := same_new (o := .tup [.int 0, .int 0]) hq
      refine ⟨d, .int (bF x y e 0 0 : Nat), rfl, .inr ⟨kvs, [.inl 0, .inl 0], q, .inl (sqq _ _ hd2), rfl, upd_same, vv.symm⟩, ?_⟩
      refine ⟨_, _, rfl, rfl, ⟨by decide, by decide, by decide⟩, _, _, rfl, rfl, _, rfl, ?_⟩
      rw [show decide (((bF x y e 0 0 : Nat) : Int) < 10 ^ (9 : Int).toNat) = decide (bF x y e 0 0 < 1000000000) from decide_eq_decide.mpr (by show _ < (1000000000 : Int) ↔ _; omega)]
      unfold bestV at k
      by_cases c : bF x y e 0 0 < 1000000000
      · rw [decide_eq_true c]
        rw [if_pos c] at k
        refine iteT ⟨_, rfl, by show 2 ≤ sizeLine; decide, fun q2 hq2 => ?_⟩
        have sq2 := same_new (o := .tup [.int 0, .int 0]) hq2
        exact ⟨d, .int (bF x y e 0 0 : Nat), rfl, .inr ⟨kvs, [.inl 0, .inl 0], q2, .inl (sq2 _ _ (sqq _ _ hd2)), rfl, upd_same, vv.symm⟩, k _ ((s2.trans sqq).trans sq2)⟩
      · rw [decide_eq_false c]
        rw [if_neg c] at k
        exact iteF (k _ (s2.trans sqq))
end
end Vk
set_option Elab.async false
set_option maxRecDepth 100000
set_option linter.all false
set_option maxHeartbeats 4000000
namespace Vk
open PySem PySem.Spec PyProof.Rows L2 StX
structure Told (x y : Str) (e : Nat) (rs : List (Nat × Nat × Str)) : Prop where
  ok : OkR x.length 0 rs
  all : ∀ r ∈ rs, Ltr r.2.2 ∧ r.2.2.length ≤ y.length ∧ twB x r.1 r.2.1 = false
  put : putH x 0 rs "" = y
  cost : (rs.map (costE (e : Nat))).sum = ((kX x y e x.length y.length : Nat) : Int)
  nil : rs = [] ↔ x = y
theorem kX_lt {x y : Str} {e : Nat} (no : ¬ (x.length = 0 ∧ ¬ y.length = 0)) : kX x y e x.length y.length < beyond x.cps.toList y.cps.toList e ∧ WayF x.cps.toList y.cps.toList (onceX x) e x.length y.length (kX x y e x.length y.length) := by
  obtain ⟨c, hc⟩ := way_any (e := e) no
  have l := Nat.lt_of_le_of_lt ((kF_least _ _).le _ hc) (way_below hc)
  exact ⟨l, (kF_least _ _).is l⟩
theorem best_is {x y : Str} {e : Nat} (hx : x.length ≤ 8) (hy : y.length ≤ 8) (he : e ≤ 1000) (no : ¬ (x.length = 0 ∧ ¬ y.length = 0)) : bestV x y e = .int (kX x y e x.length y.length : Nat) ∧ kX x y e x.length y.length < 1000000 := by
  obtain ⟨l, wy⟩ := kX_lt (e := e) no
  have lx : x.cps.toList.length = x.length := Array.length_toList
  have ly : y.cps.toList.length = y.length := Array.length_toList
  have lb : beyond x.cps.toList y.cps.toList e ≤ 17 * 1001 := by
    unfold beyond
    rw [lx, ly]
    exact Nat.mul_le_mul (by omega) (by omega)
  have eb : bF x y e 0 0 = kX x y e x.length y.length := by
    have fe : WayB x.cps.toList y.cps.toList (onceX x) e 0 0 = WayF x.cps.toList y.cps.toList (onceX x) e x.length y.length := funext fun c => propext (by rw [← way_both, lx, ly])
    unfold bF
    rw [fe]
    exact lst_two wy (by omega) l
  unfold bestV
  rw [eb, if_pos (by omega)]
  exact ⟨rfl, by omega⟩
theorem best_no {x y : Str} {e : Nat} (no : x.length = 0 ∧ ¬ y.length = 0) : bestV x y e = .non := by
  have lx : x.cps.toList.length = x.length := Array.length_toList
  have ly : y.cps.toList.length = y.length := Array.length_toList
  unfold bestV
  rw [if_neg fun l => ?_]
  have w := (bF_least x y e 0 0).is l
  rw [← way_both, lx, ly] at w
  exact way_none no w
end Vk
set_option Elab.async false
set_option maxRecDepth 100000
set_option maxHeartbeats 4000000
set_option linter.all false
namespace Vk
open PySem PySem.Spec PyProof.Rows L2
/-! ## != of a list and the empty list -/
def rNeNil (K : PySem.W.Frag) : R2 := fun x y H Q => ∃ a xs b, x = .ref a ∧ y = .ref b ∧ SqL K H a xs ∧ SqL K H b [] ∧ Q (.bl (!decide (xs.length = 0))) H
theorem op_neNil {X : Cx} (hu : X.A.units + 64 < cLine) : OpR X (compareOp .NotEq) (rNeNil X.K) := by
  intro pins s σ H x y v u Q I rx ry h
  obtain ⟨a, xs, b, rfl, rfl, ha, hb, q⟩ := h
  cases (show v = Value.ref a from rx)
  cases (show u = Value.ref b from ry)
  obtain ⟨us, r1, p1, _⟩ := I.list ha
  obtain ⟨ws, r2, p2, _⟩ := I.list hb
  cases r2
  cases xs with
  | nil =>
    cases r1
    exact (SeqAt.RcNeAt.lists (e := fun _ => true) p1.isList p2.isList rfl (by omega) (fun j h1 h2 => absurd h1 (by simp))) _ _ _ _ ⟨.bl false, H, I, rfl, q⟩
  | cons y ys =>
    cases r1 with
    | cons r rs => exact (SeqAt.RcNeAt.lists_lengths p1.isList p2.isList (by simp) (by omega)) _ _ _ _ ⟨.bl true, H, I, rfl, q⟩
end Vk
set_option Elab.async false
set_option maxRecDepth 100000
set_option maxHeartbeats 4000000
set_option linter.all false
namespace Vk
open PySem PySem.Spec PyProof.Rows L2
/-! ## != of a tuple and the empty tuple -/
def rNeNilT (K : PySem.W.Frag) : R2 := fun x y H Q => ∃ a xs b, x = .ref a ∧ y = .ref b ∧ SqT K H a xs ∧ SqT K H b [] ∧ Q (.bl (!xs.isEmpty)) H
theorem op_neNilT {X : Cx} (hu : X.A.units + 64 < cLine) : OpR X (compareOp .NotEq) (rNeNilT X.K) := by
  intro pins s σ H x y v u Q I rx ry h
  obtain ⟨a, xs, b, rfl, rfl, ha, hb, q⟩ := h
  cases (show v = Value.ref a from rx)
  cases (show u = Value.ref b from ry)
  obtain ⟨us, r1, p1, _⟩ := I.tuple ha
  obtain ⟨ws, r2, p2, _⟩ := I.tuple hb
  cases r2
  cases xs with
  | nil =>
    cases r1
    exact (SeqAt.RcNeAt.tuples (e := fun _ => true) p1 p2 (by omega) (fun j h1 h2 => absurd h1 (by simp))) _ _ _ _ ⟨.bl false, H, I, rfl, q⟩
  | cons y ys =>
    cases r1 with
    | @cons _ u0 _ us0 r rs =>
      refine (SeqAt.RcNeAt.tuples (e := fun _ => true) p1 p2 (by omega) (fun j h1 h2 => absurd h2 (by simp))) _ _ _ _ ?_
      rw [show (!((List.range (min (u0 :: us0).toArray.size ([] : List Value).toArray.size)).all (fun _ => true) && (u0 :: us0).toArray.size == ([] : List Value).toArray.size)) = true by simp]
      exact ⟨.bl true, H, I, rfl, q⟩
/-! ## != of a thing on the heap and a text -/
theorem str_ne_declines_dict (b : Str) (u : Tok) (l : Addr) (es : Array DictEntry) (n : Nat) (dd : Option Addr) (sl : Array (Option Value)) :
    Meets (Builtin.«str.__ne__» ⟨[.str b u, .ref l], []⟩) (fun _ R s => s.heap.get? l = some { cls := .type "dict", dict := dd, data := .dict es n, slots := sl } ∧ R (.ok (.ret .notImplemented)) s) :=
  .of_wp fun prog w A R s h => by obtain ⟨hp, g, d, tk, os⟩ := s; obtain ⟨hl, h⟩ := h; wp_walk using AutoSeq1.wpAny_loadPart' hl, wpAny_load hl; exact ⟨_, rfl, h⟩
theorem dict_ne_declines_str (b : Str) (u : Tok) (l : Addr) (es : Array DictEntry) (n : Nat) (dd : Option Addr) (sl : Array (Option Value)) :
    Meets (Builtin.«dict.__ne__» ⟨[.ref l, .str b u], []⟩) (fun _ R s => s.heap.get? l = some { cls := .type "dict", dict := dd, data := .dict es n, slots := sl } ∧ R (.ok (.ret .notImplemented)) s) :=
  .of_wp fun prog w A R s h => by obtain ⟨hp, g, d, tk, os⟩ := s; obtain ⟨hl, h⟩ := h; have f1 := F.sub_str_dict; wp_walk using AutoSeq1.wpAny_loadPart' hl, wpAny_load hl; exact ⟨_, rfl, h⟩
theorem ne_dict_str {A : Around} {s : Shared} {l : Addr} {o : Obj} {es : Array DictEntry} {n : Nat} (b : Str) (u : Tok) (ho : s.heap.get? l = some o) (hx : o.ExactDict) (hd : o.data = .dict es n) (hu : A.units < cLine) : SeqAt.RcNeAt A s (.ref l) (.str b u) true := fun prog w E Q h => by
  obtain ⟨cls, dd, data, sl⟩ := o
  have hc : cls = .type "dict" := hx.1
  simp only at hd
  subst hc hd
  exact SeqAt.rc_ne_decline_or (k := false) ⟨_, ho, rfl⟩ (typeIs_str s b u) (by decide) F.sub_str_dict F.slot_dict_ne F.slot_str_ne_refl
    (fun _ hq => call_meets F.slot_dict_ne ⟨_, ho, rfl⟩ F.entry_dict_ne (F.args_dict_ne_2 _ _) (dict_ne_declines_str b u l es n dd sl) ⟨ho, hq⟩)
    (fun _ hq => call_meets F.slot_str_ne_refl (typeIs_str s b u) F.entry_str_ne (F.args_str_ne_2 _ _) (str_ne_declines_dict b u l es n dd sl) ⟨ho, hq⟩)
    (fun _ hq => wpAny_of_eq (rfl : isSame (.ref l) (.str b u) = pure false) hq) (.inr hu) h
/-- a thing of any kind -/
def Kind (H : Hp) (a : Addr) : Prop := (∃ xs, H a = some (.tup xs)) ∨ (∃ xs, H a = some (.lst xs)) ∨ ∃ ks, H a = some (.dK ks)
def rNeAS : R2 := fun x y H Q => ∃ z, y = .str z ∧ ((scal x (.str z) = true ∧ Q (.bl (!decide (x = .str z))) H) ∨ ∃ a, x = .ref a ∧ Kind H a ∧ Q (.bl true) H)
theorem op_neAS {X : Cx} (hu : X.A.units + 64 < cLine) : OpR X (compareOp .NotEq) rNeAS := by
  intro pins s σ H x y v u Q I rx ry h
  obtain ⟨z, rfl, ⟨h1, q⟩ | ⟨a, rfl, h1, q⟩⟩ := h
  · exact op_ne pins s σ H x (.str z) v u Q I rx ry ⟨h1, q⟩
  · cases (show v = Value.ref a from rx)
    obtain ⟨t, rfl⟩ := ry
    rcases h1 with ⟨xs, e⟩ | ⟨xs, e⟩ | ⟨ks, e⟩
    · obtain ⟨us, r1, p1, _⟩ := I.tuple (SqT.of e)
      exact (SeqAt.RcNeAt.tuple_str z t p1 (by omega)) _ _ _ _ ⟨.bl true, H, I, rfl, q⟩
    · obtain ⟨us, r1, p1, _⟩ := I.list (SqL.of e)
      exact (SeqAt.RcNeAt.list_str z t p1.isList (by omega)) _ _ _ _ ⟨.bl true, H, I, rfl, q⟩
    · obtain ⟨_, ya, va, ra, da⟩ := (show ObjOk X.prog X.w H s.heap a (.dK ks) from I.hok a _ e)
      obtain ⟨o, es, n, ho, hx, hd, _⟩ := da
      exact (ne_dict_str z t ho hx hd (by omega)) _ _ _ _ ⟨.bl true, H, I, rfl, q⟩
/-! ## numbers that may be bools -/
def ivB (b : Bool) : Int := if b = true then 1 else 0
inductive NumV : V → Int → Prop
  | int (i : Int) : NumV (.int i) i
  | bl (b : Bool) : NumV (.bl b) (ivB b)
def rAddNB : R2 := fun x y H Q => ∃ i j, NumV x i ∧ y = .int j ∧ Q (.int (i + j)) H
theorem op_addNB {X : Cx} : OpR X (binaryOp .Add) rAddNB := by
  intro pins s σ H x y v u Q I rx ry h
  obtain ⟨i, j, n, rfl, q⟩ := h
  obtain ⟨t, rfl⟩ := ry
  cases n with
  | int =>
    obtain ⟨t2, rfl⟩ := rx
    exact add_int ⟨.int (i + j), H, I.tok _, ⟨_, rfl⟩, q⟩
  | bl b =>
    cases rx
    exact IntBool.add_bool_int ⟨.int (ivB b + j), H, I.tok _, ⟨_, rfl⟩, q⟩
def rSubNB : R2 := fun x y H Q => ∃ i j, NumV x i ∧ y = .int j ∧ Q (.int (i - j)) H
theorem op_subNB {X : Cx} : OpR X (binaryOp .Sub) rSubNB := by
  intro pins s σ H x y v u Q I rx ry h
  obtain ⟨i, j, n, rfl, q⟩ := h
  obtain ⟨t, rfl⟩ := ry
  cases n with
  | int =>
    obtain ⟨t2, rfl⟩ := rx
    exact sub_int ⟨.int (i - j), H, I.tok _, ⟨_, rfl⟩, q⟩
  | bl b =>
    cases rx
    exact IntBool.sub_bool_int ⟨.int (ivB b - j), H, I.tok _, ⟨_, rfl⟩, q⟩
theorem call_strNB {X : Cx} : CallR X (.type "str") (fun xs H Q => ∃ v i, xs = [v] ∧ NumV v i ∧ i.natAbs.log2 < 1920 ∧ (∀ j, v = .int j → Q (.str (toString j)) H) ∧ ∀ b, v = .bl b → Q (.str (if b then "True" else "False")) H) := by
  intro pins s σ H xs us Q I r h
  obtain ⟨v, i, rfl, n, hz, q1, q2⟩ := h
  cases n with
  | int => exact call_str_int pins s σ H [.int i] us Q I r ⟨i, rfl, hz, q1 _ rfl⟩
  | bl b =>
    obtain ⟨u, rfl, r1⟩ := vals1 r
    cases r1
    exact PySem.P.str_of_bool ⟨.str _, H, I.tok _, ⟨_, rfl⟩, q2 _ rfl⟩
end Vk
set_option Elab.async false
set_option maxRecDepth 100000
set_option linter.all false
set_option maxHeartbeats 4000000
namespace Vk
open PySem PySem.Spec PyProof.Rows L2
/-! ## values of any depth -/
inductive IsV (H : Hp) (B : Nat) : Nat → V → Prop
  | non {d : Nat} : IsV H B d .non
  | bl {d : Nat} (b : Bool) : IsV H B d (.bl b)
  | int {d : Nat} (i : Int) : (B ≤ 4000 → i.natAbs ≤ 1000000 + B) → IsV H B d (.int i)
  | str {d : Nat} (z : Str) : z.length ≤ B → IsV H B d (.str z)
  | lst {d : Nat} {t : Addr} {xs : List V} : H t = some (.lst xs) → IsV H B d (.ref t)
  | dct {d : Nat} {t : Addr} {ks : List (Key × V)} : H t = some (.dK ks) → IsV H B d (.ref t)
  | nil {d : Nat} {t : Addr} : H t = some (.tup []) → IsV H B d (.ref t)
  | tup {d : Nat} {t : Addr} {xs : List V} : H t = some (.tup xs) → xs.length ≤ B → (∀ x ∈ xs, IsV H B d x) → IsV H B (d + 1) (.ref t)
/-- what a thing is stays -/
structure Kp (H H1 : Hp) : Prop where
  tup : ∀ t xs, H t = some (.tup xs) → H1 t = some (.tup xs)
  lst : ∀ t xs, H t = some (.lst xs) → ∃ ys, H1 t = some (.lst ys)
  dct : ∀ t ks, H t = some (.dK ks) → ∃ ls, H1 t = some (.dK ls)
theorem Kp.same {H H1 : Hp} (s : Same H H1) : Kp H H1 := ⟨fun t xs h => s _ _ h, fun t xs h => ⟨xs, s _ _ h⟩, fun t ks h => ⟨ks, s _ _ h⟩⟩
theorem Kp.rfl {H : Hp} : Kp H H := .same Same.rfl
theorem Kp.trans {H H1 H2 : Hp} (a : Kp H H1) (b : Kp H1 H2) : Kp H H2 := ⟨fun t xs h => b.tup _ _ (a.tup _ _ h), fun t xs h => by
  obtain ⟨ys, e⟩ := a.lst _ _ h
  exact b.lst _ _ e, fun t ks h => by
  obtain ⟨ys, e⟩ := a.dct _ _ h
  exact b.dct _ _ e⟩
theorem Kp.pen {H H1 : Hp} {p c : Addr} {T U : Nat} (P : Pen H p c T) (x : Ext p H H1) (P1 : Pen H1 p c U) : Kp H H1 := by
  obtain ⟨t0, l0, e0⟩ := P.is
  obtain ⟨t1, l1, e1⟩ := P1.is
  refine ⟨fun t xs h => x _ _ h fun z => ?_, fun t xs h => ⟨xs, x _ _ h fun z => ?_⟩, fun t ks h => ?_⟩
  · rw [z, e0] at h; cases h
  · rw [z, e0] at h; cases h
  · by_cases z : t = p
    · subst z
      exact ⟨_, e1⟩
    · exact ⟨ks, x _ _ h z⟩
theorem IsV.keep {H H1 : Hp} {B d : Nat} {v : V} (h : IsV H B d v) (k : Kp H H1) : IsV H1 B d v := by
  induction h with
  | non => exact .non
  | bl b => exact .bl b
  | int i h => exact .int i h
  | str z h => exact .str z h
  | lst e => exact .lst (k.lst _ _ e).choose_spec
  | dct e => exact .dct (k.dct _ _ e).choose_spec
  | nil e => exact .nil (k.tup _ _ e)
  | tup e l _ ih => exact .tup (k.tup _ _ e) l ih
theorem IsV.mono {H : Hp} {B C d : Nat} {v : V} (h : IsV H B d v) (k : B ≤ C) : IsV H C d v := by
  induction h with
  | non => exact .non
  | bl b => exact .bl b
  | int i h => exact .int i fun q => Nat.le_trans (h (Nat.le_trans k q)) (by omega)
  | str z h => exact .str z (by omega)
  | lst e => exact .lst e
  | dct e => exact .dct e
  | nil e => exact .nil e
  | tup e l _ ih => exact .tup e (by omega) ih
theorem IsV.deep {H : Hp} {B d : Nat} {v : V} (h : IsV H B d v) : IsV H B (d + 1) v := by
  induction h with
  | non => exact .non
  | bl b => exact .bl b
  | int i h => exact .int i h
  | str z h => exact .str z h
  | lst e => exact .lst e
  | dct e => exact .dct e
  | nil e => exact .nil e
  | tup e l _ ih => exact .tup e l ih
def TupV (H : Hp) (v : V) (xs : List V) : Prop := ∃ t, v = .ref t ∧ H t = some (.tup xs)
theorem TupV.inj {H : Hp} {v : V} {xs ys : List V} (a : TupV H v xs) (b : TupV H v ys) : xs = ys := by
  obtain ⟨t, rfl, h⟩ := a
  obtain ⟨t2, e, h2⟩ := b
  cases e
  rw [h] at h2
  cases h2
  rfl
theorem TupV.keep {H H1 : Hp} {v : V} {xs : List V} (a : TupV H v xs) (k : Kp H H1) : TupV H1 v xs := by
  obtain ⟨t, rfl, h⟩ := a
  exact ⟨t, rfl, k.tup _ _ h⟩
theorem IsV.items {H : Hp} {B d : Nat} {v : V} {xs : List V} (h : IsV H B (d + 1) v) (t : TupV H v xs) : ∀ x ∈ xs, IsV H B d x := by
  obtain ⟨t, rfl, ht⟩ := t
  cases h with
  | lst e => rw [e] at ht; cases ht
  | dct e => rw [e] at ht; cases ht
  | nil e => rw [e] at ht; cases ht; exact fun x hx => absurd hx List.not_mem_nil
  | tup e l q => rw [e] at ht; cases ht; exact q
theorem IsV.len {H : Hp} {B d : Nat} {v : V} {xs : List V} (h : IsV H B d v) (t : TupV H v xs) : xs.length ≤ B := by
  obtain ⟨t, rfl, ht⟩ := t
  cases h with
  | lst e => rw [e] at ht; cases ht
  | dct e => rw [e] at ht; cases ht
  | nil e => rw [e] at ht; cases ht; exact Nat.zero_le _
  | tup e l q => rw [e] at ht; cases ht; exact l
theorem IsV.back {H H1 : Hp} {B d : Nat} {v : V} {xs : List V} (h : IsV H B d v) (k : Kp H H1) (t : TupV H1 v xs) : TupV H v xs := by
  obtain ⟨t, rfl, ht⟩ := t
  cases h with
  | lst e =>
    obtain ⟨ys, e2⟩ := k.lst _ _ e
    rw [e2] at ht; cases ht
  | dct e =>
    obtain ⟨ys, e2⟩ := k.dct _ _ e
    rw [e2] at ht; cases ht
  | nil e => exact ⟨_, rfl, by rw [← ht, k.tup _ _ e]; exact e⟩
  | tup e l q => exact ⟨_, rfl, by rw [← ht, k.tup _ _ e]; exact e⟩
/-- what isinstance asks -/
theorem kit_any {K : PySem.W.Frag} {H : Hp} {B d : Nat} {v : V} (h : IsV H B d v) : ∃ ty, TyX K H v ty ∧ (∃ b, PySem.W.kitOne K ty (.type "tuple") = some b ∧ (b = true → ∃ xs, TupV H v xs) ∧ (b = false → ∀ xs, ¬ TupV H v xs)) ∧
    (∃ b, PySem.W.kitOne K ty (.type "int") = some b ∧ (b = true → ∃ i, NumV v i) ∧ (b = false → ∀ i, v ≠ .int i)) ∧ (∃ b, PySem.W.kitOne K ty (.type "bool") = some b ∧ (b = true → ∀ i, v ≠ .int i) ∧ (b = false → ∀ j, NumV v j → v = .int j)) ∧
    (∃ b, PySem.W.kitOne K ty (.type "str") = some b ∧ (b = true → ∃ z, v = .str z) ∧ (b = false → ∀ z, v ≠ .str z)) := by
  have nt : ∀ {v : V}, (∀ t, v ≠ .ref t) → ∀ xs, ¬ TupV H v xs := fun n xs ⟨t, e, _⟩ => n t e
  have nl : ∀ {t : Addr} {o : HO}, H t = some o → (∀ xs, o ≠ .tup xs) → ∀ xs, ¬ TupV H (.ref t) xs := fun e n xs ⟨t, e1, e2⟩ => by
    cases e1
    rw [e] at e2
    cases e2
    exact n _ rfl
  cases h with
  | non => exact ⟨.type "NoneType", .base .non, ⟨false, kit_ty (by decide +kernel), nofun, fun _ => nt nofun⟩, ⟨false, kit_ty (by decide +kernel), nofun, fun _ => nofun⟩, ⟨false, kit_ty (by decide +kernel), nofun, fun _ j n => by cases n⟩, ⟨false, kit_ty (by decide +kernel), nofun, fun _ => nofun⟩⟩
  | bl b => exact ⟨.type "bool", .base (.bl b), ⟨false, kit_ty (by decide +kernel), nofun, fun _ => nt nofun⟩, ⟨true, kit_ty (by decide +kernel), fun _ => ⟨_, .bl b⟩, nofun⟩, ⟨true, kit_ty (by decide +kernel), fun _ => nofun, nofun⟩, ⟨false, kit_ty (by decide +kernel), nofun, fun _ => nofun⟩⟩
  | int i => exact ⟨.type "int", .base (.int i), ⟨false, kit_ty (by decide +kernel), nofun, fun _ => nt nofun⟩, ⟨true, kit_ty (by decide +kernel), fun _ => ⟨_, .int i⟩, nofun⟩, ⟨false, kit_ty (by decide +kernel), nofun, fun _ j n => by cases n; rfl⟩, ⟨false, kit_ty (by decide +kernel), nofun, fun _ => nofun⟩⟩
  | str z => exact ⟨.type "str", .base (.str z), ⟨false, kit_ty (by decide +kernel), nofun, fun _ => nt nofun⟩, ⟨false, kit_ty (by decide +kernel), nofun, fun _ => nofun⟩, ⟨false, kit_ty (by decide +kernel), nofun, fun _ j n => by cases n⟩, ⟨true, kit_ty (by decide +kernel), fun _ => ⟨_, rfl⟩, nofun⟩⟩
  | lst e => exact ⟨.type "list", .base (.lst e), ⟨false, kit_ty (by decide +kernel), nofun, fun _ => nl e nofun⟩, ⟨false, kit_ty (by decide +kernel), nofun, fun _ => nofun⟩, ⟨false, kit_ty (by decide +kernel), nofun, fun _ j n => by cases n⟩, ⟨false, kit_ty (by decide +kernel), nofun, fun _ => nofun⟩⟩
  | dct e => exact ⟨.type "dict", .base (.dK e), ⟨false, kit_ty (by decide +kernel), nofun, fun _ => nl e nofun⟩, ⟨false, kit_ty (by decide +kernel), nofun, fun _ => nofun⟩, ⟨false, kit_ty (by decide +kernel), nofun, fun _ j n => by cases n⟩, ⟨false, kit_ty (by decide +kernel), nofun, fun _ => nofun⟩⟩
  | nil e => exact ⟨.type "tuple", .base (.tup e), ⟨true, kit_ty (by decide +kernel), fun _ => ⟨_, _, rfl, e⟩, nofun⟩, ⟨false, kit_ty (by decide +kernel), nofun, fun _ => nofun⟩, ⟨false, kit_ty (by decide +kernel), nofun, fun _ j n => by cases n⟩, ⟨false, kit_ty (by decide +kernel), nofun, fun _ => nofun⟩⟩
  | tup e => exact ⟨.type "tuple", .base (.tup e), ⟨true, kit_ty (by decide +kernel), fun _ => ⟨_, _, rfl, e⟩, nofun⟩, ⟨false, kit_ty (by decide +kernel), nofun, fun _ => nofun⟩, ⟨false, kit_ty (by decide +kernel), nofun, fun _ j n => by cases n⟩, ⟨false, kit_ty (by decide +kernel), nofun, fun _ => nofun⟩⟩
theorem IsV.ne_str {H : Hp} {B d : Nat} {v : V} (h : IsV H B d v) (z : Str) : (scal v (.str z) = true) ∨ ∃ a, v = .ref a ∧ Kind H a := by
  cases h with
  | lst e => exact .inr ⟨_, rfl, .inr (.inl ⟨_, e⟩)⟩
  | dct e => exact .inr ⟨_, rfl, .inr (.inr ⟨_, e⟩)⟩
  | nil e => exact .inr ⟨_, rfl, .inl ⟨_, e⟩⟩
  | tup e _ _ => exact .inr ⟨_, rfl, .inl ⟨_, e⟩⟩
  | _ => exact .inl rfl
/-! ## grids -/
def RowI (H : Hp) (m : Nat) (v : V) (c : List Int) : Prop := TupV H v (c.map V.int) ∧ c.length = m
def GridL (H : Hp) (n m : Nat) (v : V) (L : List (List Int)) : Prop := ∃ rows, TupV H v rows ∧ Paired (RowI H m) rows L ∧ L.length = n
theorem GridL.keep {H H1 : Hp} {n m : Nat} {v : V} {L : List (List Int)} (h : GridL H n m v L) (k : Kp H H1) : GridL H1 n m v L := by
  obtain ⟨rows, h1, h2, h3⟩ := h
  exact ⟨rows, h1.keep k, pair_mono (fun a b q => ⟨q.1.keep k, q.2⟩) h2, h3⟩
theorem map_int_inj {a b : List Int} (h : a.map V.int = b.map V.int) : a = b := List.map_inj_right (fun x y e => V.int.inj e) |>.mp h
theorem RowI.inj {H : Hp} {m : Nat} {v : V} {c d : List Int} (a : RowI H m v c) (b : RowI H m v d) : c = d := map_int_inj (a.1.inj b.1)
theorem GridL.inj {H : Hp} {n m : Nat} {v : V} {L M : List (List Int)} (a : GridL H n m v L) (b : GridL H n m v M) : L = M := by
  obtain ⟨r1, h1, h2, l1⟩ := a
  obtain ⟨r2, g1, g2, l2⟩ := b
  cases h1.inj g1
  clear h1 g1 l1 l2
  induction h2 generalizing M with
  | nil => cases g2; rfl
  | cons a _ ih =>
    cases g2 with
    | cons b t => rw [a.inj b, ih t]
theorem pair_back {H H1 : Hp} {B m : Nat} (k : Kp H H1) : ∀ {rows : List V} {L : List (List Int)}, Paired (RowI H1 m) rows L → (∀ r ∈ rows, IsV H B 1 r) → Paired (RowI H m) rows L
  | _, _, .nil, _ => .nil
  | _, _, .cons a t, h => .cons ⟨(h _ List.mem_cons_self).back k a.1, a.2⟩ (pair_back k t fun r hr => h r (List.mem_cons_of_mem _ hr))
theorem GridL.back {H H1 : Hp} {B n m : Nat} {v : V} {L : List (List Int)} (h : IsV H B 2 v) (k : Kp H H1) (g : GridL H1 n m v L) : GridL H n m v L := by
  obtain ⟨rows, h1, h2, h3⟩ := g
  have h4 := h.back k h1
  exact ⟨rows, h4, pair_back k h2 (h.items h4), h3⟩
def ent (L : List (List Int)) (i j : Nat) : Int := ((L[i]?).getD [])[j]?.getD 0
theorem Th.isV {H : Hp} {v : V} {d : PyData} (h : Th H v d) (o : okC d = true) : IsV H 5000 1 v := by
  have q := okC_srt o
  have el := okC_el o
  have ln := okC_len o
  have at0 : ∀ {v d}, Atm v d → Srt d → ∀ e, IsV H 5000 e v := fun a s e => by
    cases a with
    | non => exact .non
    | bl b => exact .bl b
    | int i => exact .int i fun z => absurd z (by decide)
    | str z => exact .str z (Nat.le_trans s.1 (by decide))
  cases h with
  | atm a => exact at0 a q 1
  | lst e _ _ => exact .lst e
  | dct e => exact .dct e
  | @tup a xs ds e pr =>
    refine .tup e (by rw [paired_len pr]; exact Nat.le_trans (ln _ rfl) (by decide)) fun x hx => ?_
    obtain ⟨y, hy, ax⟩ := paired_mem pr hx
    exact at0 ax (el _ rfl y hy) 0
end Vk
set_option Elab.async false
set_option maxRecDepth 100000
set_option linter.all false
set_option maxHeartbeats 4000000
namespace Vk
open PySem PySem.Spec PyProof.Rows L2
def isIntV : V → Bool
  | .int _ => true
  | _ => false
theorem isIntV_ne {v : V} (h : ∀ i, v ≠ .int i) : isIntV v = false := by
  cases v with
  | int i => exact absurd rfl (h i)
  | _ => rfl
theorem take_snoc {α : Type} {xs : List α} {i : Nat} {v : α} (h : xs[i]? = some v) : xs.take (i + 1) = xs.take i ++ [v] := by
  rw [List.take_add_one, h]
  rfl
theorem all_int : ∀ {xs : List V}, (xs.map isIntV).all id = true → ∃ c : List Int, xs = c.map V.int
  | [], _ => ⟨[], rfl⟩
  | v :: xs, h => by
    rw [List.map_cons, List.all_cons, Bool.and_eq_true] at h
    obtain ⟨c, rfl⟩ := all_int h.2
    cases v with
    | int i => exact ⟨i :: c, rfl⟩
    | _ => cases h.1
theorem int_all {c : List Int} : ((c.map V.int).map isIntV).all id = true := by
  rw [List.map_map, List.all_eq_true]
  intro b hb
  obtain ⟨i, _, rfl⟩ := List.mem_map.mp hb
  rfl
theorem filt_all : ∀ {xs : List V}, xs.filter (fun v => !isIntV v) = [] ↔ (xs.map isIntV).all id = true
  | [] => by simp
  | v :: xs => by
    rw [List.filter_cons, List.map_cons, List.all_cons, Bool.and_eq_true, ← filt_all]
    cases isIntV v <;> simp
section
variable {P : Program} {w : World} {K : PySem.W.Frag} {mg : Str → Option Value} {base : Heap}
def spIsIntV : Sp := fun vs H Q _ => ∃ v B d, vs = [v] ∧ IsV H B d v ∧ Q (.bl (isIntV v)) H
theorem b_is_integerV {f : Addr} {fd : FuncData} (F : Fun K "is_integer" "is_integer" s_is_integer f fd) (T : Txt mg) : FnG P w K mg base CX0 1 f fd ["value"] spIsIntV := by
  refine okG0 F sc_is_integer (fun vs H Q E h => ?_) (fun cdv A outer s H vs Q E hg hr h => ?_)
  · obtain ⟨v, B, d, rfl, _⟩ := h
    rfl
  · have hu := hu_of hr
    have hu64 := hr.units
    obtain ⟨v, B, d, rfl, iv, k⟩ := h
    obtain ⟨ty, tyx, _, ⟨bi, ki, i1, i0⟩, ⟨bb, kb, b1, b0⟩, _⟩ := kit_any (K := K) iv
    refine ⟨_, (pss_one (ps_ret (pe_and (pe_callB call_isi (by rfl) T.isinstance (by decide +kernel) (pa_cons (pv 0) (pa_cons (pe_bltn (v := .ty "int") (by rfl) T.int rfl rfl) pa_nil))) (pe_one (pe_not (pe_callB call_isi (by rfl) T.isinstance (by decide +kernel) (pa_cons (pv 0) (pa_cons (pe_bltn (v := .ty "bool") (by rfl) T.bool rfl rfl) pa_nil)))))))), ?_⟩
    refine ⟨_, rfl, v, .ty "int", ty, .type "int", bi, rfl, .ty "int", tyx, ki, _, rfl, ?_⟩
    cases bi with
    | false =>
      rw [isIntV_ne (i0 rfl)] at k
      exact iteF k
    | true =>
      refine iteT ⟨_, rfl, v, .ty "bool", ty, .type "bool", bb, rfl, .ty "bool", tyx, kb, _, rfl, ?_⟩
      cases bb with
      | true =>
        rw [isIntV_ne (b1 rfl)] at k
        exact k
      | false =>
        obtain ⟨i, n⟩ := i1 rfl
        cases b0 rfl i n
        exact k
def spGridG : Sp := fun vs H Q _ => ∃ (v : V) (x y : Str) (B : Nat), vs = [v, .int ((x.length : Nat) + 1), .int ((y.length : Nat) + 1)] ∧ IsV H B 2 v ∧ B ≤ 5000 ∧ ∀ b H', Same H H' → (b = true ↔ ∃ L, GridL H (x.length + 1) (y.length + 1) v L) → Q (.bl b) H'
/-- a grid row by row -/
theorem grid_no {H : Hp} {n m : Nat} {v : V} {rows : List V} {i : Nat} {r : V} (t : TupV H v rows) (e : rows[i]? = some r) (h : ∀ c, ¬ RowI H m r c) : ¬ ∃ L, GridL H n m v L := by
  rintro ⟨L, rows2, h1, h2, _⟩
  cases t.inj h1
  obtain ⟨c, _, hc⟩ := paired_at h2 e
  exact h c hc
abbrev s_is_grid : Stmt := top 2
theorem sc_is_grid : FnScope ["value", "height", "width", "row", "entry"] ["value", "height", "width"] (defScope s_is_grid) := ⟨rfl, rfl, rfl, by decide +kernel, rfl, by decide +kernel, by decide +kernel⟩
theorem b_is_grid {f : Addr} {fd : FuncData} (F : Fun K "is_grid" "is_grid" s_is_grid f fd) (T : Txt mg) (c_is_integer : CalG P w K mg base CX0 1 "is_integer" spIsIntV) : FnG P w K mg base CX0 2 f fd ["value", "height", "width"] spGridG := by
  refine okG0 F sc_is_grid (fun vs H Q E h => ?_) (fun cdv A outer s H vs Q E hg hr h => ?_)
  · obtain ⟨v, x, y, B, rfl, _⟩ := h
    rfl
  · have hu := hu_of hr
    have hu64 := hr.units
    obtain ⟨v, x, y, B, rfl, iv, hB, k⟩ := h
    obtain ⟨ty, tyx, ⟨bt, kt, ht1, ht0⟩, _⟩ := kit_any (K := K) iv
    refine ⟨_, (pss_cons (ps_if (PW.pt (pw_or (pt_not (pt_val (pe_callB call_isi (by rfl) T.isinstance (by decide +kernel) (pa_cons (pv 0) (pa_cons (pe_bltn (v := .ty "tuple") (by rfl) T.tuple rfl rfl) pa_nil))))) (pw_or1 (pt_cmpR op_ne (pe_callB call_len (by rfl) T.len (by decide +kernel) (pa_cons (pv 0) pa_nil)) (pv 1) (nomark _))))) (pss_one (ps_ret pe_bl)) pss_nil)
      (pss_cons (ps_for PassesOwn.never rfl (pi_tup (pv 0)) (pg_name (i := 3) sc_is_grid.nd rfl (Or.inl rfl)) (pss_one (ps_if (PW.pt (pw_or (pt_not (pt_val (pe_callB call_isi (by rfl) T.isinstance (by decide +kernel) (pa_cons (pv 3) (pa_cons (pe_bltn (v := .ty "tuple") (by rfl) T.tuple rfl rfl) pa_nil))))) (pw_or (pt_cmpR op_ne (pe_callB call_len (by rfl) T.len (by decide +kernel) (pa_cons (pv 3) pa_nil)) (pv 2) (nomark _)) (pw_or1 (pt_not (pt_val (pe_callB (cr_all rfl) (by rfl) T.all (by decide +kernel) (pa_cons (pe_lc (own := [("entry", 4)]) (g := gName 4) (tt := tYes) rfl sc_is_grid.nd (pi_tup (pv 3)) (blkOk_by (own := [("entry", 4)]) (N := ["value", "height", "width", "row", "entry"]) (sc := defScope s_is_grid) (by decide +kernel)) (fun _ _ _ _ _ => (pg_name (i := 4) sc_is_grid.nd rfl (Or.inl rfl))) (fun _ _ _ _ _ => pts_nil) (fun _ _ _ _ _ => (pe_cG c_is_integer hg hr (by decide) pass0 (pa_cons (pv 4) pa_nil)))) pa_nil)))))))) (pss_one (ps_ret pe_bl)) pss_nil)))
      (pss_one (ps_ret pe_bl)))), ?_⟩
    refine ⟨_, rfl, v, .ty "tuple", ty, .type "tuple", bt, rfl, .ty "tuple", tyx, kt, ?_⟩
    cases bt with
    | false => exact ⟨false, rfl, iteT (k false H Same.rfl ⟨nofun, fun ⟨L, rows, h, _⟩ => absurd h (ht0 rfl _)⟩)⟩
    | true =>
      obtain ⟨rows, g, rfl, hg1⟩ := ht1 rfl
      have tv : TupV H (.ref g) rows := ⟨g, rfl, hg1⟩
      refine ⟨true, rfl, iteF ?_⟩
      refine ⟨_, rfl, _, _, rfl, .inr ⟨_, SqT.of hg1, rfl⟩, _, rfl, rfl, _, rfl, ?_⟩
      by_cases c1 : rows.length = x.length + 1
      · rw [show decide (V.int ((rows.length : Nat) : Int) = V.int ((x.length : Nat) + 1)) = true from decide_eq_true (by rw [c1]; rfl)]
        refine iteF ?_
        refine ⟨_, rfl, g, rfl, ⟨_, SqT.of hg1⟩, ?_⟩
        refine for_tup (xs := rows) (fun i σ H' => ∃ o3 o4 L, σ = [some (.ref g), some (.int ((x.length : Nat) + 1)), some (.int ((y.length : Nat) + 1)), o3, o4] ∧ Same H H' ∧ Paired (RowI H (y.length + 1)) (rows.take i) L) ?_ ?_ ?_ ?_
        · exact ⟨_, _, [], rfl, fun _ _ h => h, .nil⟩
        · rintro i σ H' _ ⟨o3, o4, L, rfl, s1, _⟩
          exact SqT.of (s1 _ _ hg1)
        · rintro i r σ H1 hv ⟨o3, o4, L, rfl, s1, pr⟩
          have ir := iv.items tv r (List.mem_of_getElem? hv)
          have ir1 := ir.keep (.same s1)
          obtain ⟨ty2, tyx2, ⟨b2, kt2, h21, h20⟩, _⟩ := kit_any (K := K) ir1
          refine ⟨_, rfl, r, .ty "tuple", ty2, .type "tuple", b2, rfl, .ty "tuple", tyx2, kt2, ?_⟩
          cases b2 with
          | false => exact ⟨false, rfl, iteT (k false H1 s1 ⟨nofun, fun h => absurd h (grid_no tv hv fun c hc => h20 rfl _ (hc.1.keep (.same s1)))⟩)⟩
          | true =>
            obtain ⟨cs, t, rfl, ht2⟩ := h21 rfl
            obtain ⟨_, e, ht⟩ := ir.back (.same s1) ⟨t, rfl, ht2⟩
            cases e
            have tr : TupV H (.ref t) cs := ⟨t, rfl, ht⟩
            refine ⟨true, rfl, iteF ?_⟩
            refine ⟨_, rfl, _, _, rfl, .inr ⟨_, SqT.of ht2, rfl⟩, _, rfl, rfl, _, rfl, ?_⟩
            by_cases c2 : cs.length = y.length + 1
            · rw [show decide (V.int ((cs.length : Nat) : Int) = V.int ((y.length : Nat) + 1)) = true from decide_eq_true (by rw [c2]; rfl)]
              refine iteF ?_
              refine ⟨_, rfl, t, rfl, ⟨_, SqT.of ht2⟩, fun D hD => ?_⟩
              have sD := same_new (o := .lst []) hD
              have cl : cs.length ≤ 5000 := Nat.le_trans (ir.len tr) hB
              refine lc_tup (K := K) (a := t) (xs := cs) (fun i H' => H' D = some (.lst (((cs.take i).map isIntV).map V.bl)) ∧ Same H1 H') ?_ ?_ ?_ ?_
              · exact ⟨upd_same, sD⟩
              · rintro i H' _ ⟨_, s2⟩
                exact SqT.of (s2 _ _ ht2)
              · rintro j v H2 hv2 ⟨hD2, s2⟩
                have lj := (List.getElem?_eq_some_iff.mp hv2).1
                refine ⟨rfl, _, rfl, _, B, 0, rfl, (ir.items tr v (List.mem_of_getElem? hv2)).keep (.same (s1.trans s2)), _, hD2, fewL (by rw [List.length_map, List.length_map, List.length_take]; omega), ?_, upd_out hD s2⟩
                rw [upd_same, take_snoc hv2, List.map_append, List.map_append]
                rfl
              · rintro H2 ⟨hD2, s2⟩
                rw [List.take_length] at hD2
                refine ⟨D, _, rfl, SqL.of hD2, ?_⟩
                cases e : (cs.map isIntV).all id with
                | false => exact ⟨false, rfl, iteT (k false H2 (s1.trans s2) ⟨nofun, fun h => absurd h (grid_no tv hv fun c hc => by
                    cases tr.inj hc.1
                    rw [int_all] at e
                    cases e)⟩)⟩
                | true =>
                  obtain ⟨c, rfl⟩ := all_int e
                  exact ⟨true, rfl, iteF ⟨_, _, L ++ [c], rfl, s1.trans s2, by rw [take_snoc hv]; exact pr.snoc ⟨tr, by rw [← c2, List.length_map]⟩⟩⟩
            · rw [show decide (V.int ((cs.length : Nat) : Int) = V.int ((y.length : Nat) + 1)) = false from decide_eq_false fun z => c2 (by have := V.int.inj z; omega)]
              exact iteT (k false H1 s1 ⟨nofun, fun h => absurd h (grid_no tv hv fun c hc => by
                cases tr.inj hc.1
                exact c2 (by rw [List.length_map]; exact hc.2))⟩)
        · rintro σ H1 ⟨o3, o4, L, rfl, s1, pr⟩
          rw [List.take_length] at pr
          exact k true H1 s1 ⟨fun _ => ⟨L, rows, tv, pr, by rw [← paired_len pr]; exact c1⟩, fun _ => rfl⟩
      · rw [show decide (V.int ((rows.length : Nat) : Int) = V.int ((x.length : Nat) + 1)) = false from decide_eq_false fun z => c1 (by have := V.int.inj z; omega)]
        exact iteT (k false H Same.rfl ⟨nofun, fun ⟨L, rows2, h1, h2, h3⟩ => absurd (by cases tv.inj h1; rw [paired_len h2]; exact h3) c1⟩)
abbrev s_lnis_grid : Stmt := top 26
theorem sc_lnis_grid : FnScope ["_law_thing", "_law_size", "_law_many", "_law_row", "_law_item"] ["_law_thing", "_law_size", "_law_many"] (defScope s_lnis_grid) := ⟨rfl, rfl, rfl, by decide +kernel, rfl, by decide +kernel, by decide +kernel⟩
theorem b_lnis_grid {f : Addr} {fd : FuncData} (F : Fun K "_law_nis_grid" "_law_nis_grid" s_lnis_grid f fd) (T : Txt mg) : FnG P w K mg base CX0 1 f fd ["_law_thing", "_law_size", "_law_many"] spGridG := by
  refine okG0 F sc_lnis_grid (fun vs H Q E h => ?_) (fun cdv A outer s H vs Q E hg hr h => ?_)
  · obtain ⟨v, x, y, B, rfl, _⟩ := h
    rfl
  · have hu := hu_of hr
    have hu64 := hr.units
    obtain ⟨v, x, y, B, rfl, iv, hB, k⟩ := h
    obtain ⟨ty, tyx, ⟨bt, kt, ht1, ht0⟩, _⟩ := kit_any (K := K) iv
    refine ⟨_, (pss_cons (ps_if (PW.pt (pw_or (pt_not (pt_val (pe_callB call_isi (by rfl) T.isinstance (by decide +kernel) (pa_cons (pv 0) (pa_cons (pe_bltn (v := .ty "tuple") (by rfl) T.tuple rfl rfl) pa_nil))))) (pw_or1 (pt_cmpR op_ne (pe_callB call_len (by rfl) T.len (by decide +kernel) (pa_cons (pv 0) pa_nil)) (pv 1) (nomark _))))) (pss_one (ps_ret pe_bl)) pss_nil)
      (pss_cons (ps_for PassesOwn.never rfl (pi_tup (pv 0)) (pg_name (i := 3) sc_lnis_grid.nd rfl (Or.inl rfl)) (pss_cons (ps_if (PW.pt (pw_or (pt_not (pt_val (pe_callB call_isi (by rfl) T.isinstance (by decide +kernel) (pa_cons (pv 3) (pa_cons (pe_bltn (v := .ty "tuple") (by rfl) T.tuple rfl rfl) pa_nil))))) (pw_or1 (pt_cmpR op_ne (pe_callB call_len (by rfl) T.len (by decide +kernel) (pa_cons (pv 3) pa_nil)) (pv 2) (nomark _))))) (pss_one (ps_ret pe_bl)) pss_nil)
      (pss_one (ps_if (pt_cmpR (op_neNil hu64) (pe_lc (own := [("_law_item", 4)]) (g := gName 4) rfl sc_lnis_grid.nd (pi_tup (pv 3)) (blkOk_by (own := [("_law_item", 4)]) (N := ["_law_thing", "_law_size", "_law_many", "_law_row", "_law_item"]) (sc := defScope s_lnis_grid) (by decide +kernel)) (fun _ _ _ _ _ => (pg_name (i := 4) sc_lnis_grid.nd rfl (Or.inl rfl))) (fun _ _ _ _ _ => (pts_one (PW.pt (pw_or (pt_not (pt_val (pe_callB (call_isiK (K := K) rfl) (by rfl) T.isinstance (by decide +kernel) (pa_cons (pv 4) (pa_cons (pe_bltn (v := .ty "int") (by rfl) T.int rfl rfl) pa_nil))))) (pw_or1 (pt_val (pe_callB (call_isiK (K := K) rfl) (by rfl) T.isinstance (by decide +kernel) (pa_cons (pv 4) (pa_cons (pe_bltn (v := .ty "bool") (by rfl) T.bool rfl rfl) pa_nil))))))))) (fun _ _ _ _ _ => (pv 4))) (pe_lst pa_nil) (nomark _)) (pss_one (ps_ret pe_bl)) pss_nil))))
      (pss_one (ps_ret pe_bl)))), ?_⟩
    refine ⟨_, rfl, v, .ty "tuple", ty, .type "tuple", bt, rfl, .ty "tuple", tyx, kt, ?_⟩
    cases bt with
    | false => exact ⟨false, rfl, iteT (k false H Same.rfl ⟨nofun, fun ⟨L, rows, h, _⟩ => absurd h (ht0 rfl _)⟩)⟩
    | true =>
      obtain ⟨rows, g, rfl, hg1⟩ := ht1 rfl
      have tv : TupV H (.ref g) rows := ⟨g, rfl, hg1⟩
      refine ⟨true, rfl, iteF ?_⟩
      refine ⟨_, rfl, _, _, rfl, .inr ⟨_, SqT.of hg1, rfl⟩, _, rfl, rfl, _, rfl, ?_⟩
      by_cases c1 : rows.length = x.length + 1
      · rw [show decide (V.int ((rows.length : Nat) : Int) = V.int ((x.length : Nat) + 1)) = true from decide_eq_true (by rw [c1]; rfl)]
        refine iteF ?_
        refine ⟨_, rfl, g, rfl, ⟨_, SqT.of hg1⟩, ?_⟩
        refine for_tup (xs := rows) (fun i σ H' => ∃ o3 o4 L, σ = [some (.ref g), some (.int ((x.length : Nat) + 1)), some (.int ((y.length : Nat) + 1)), o3, o4] ∧ Same H H' ∧ Paired (RowI H (y.length + 1)) (rows.take i) L) ?_ ?_ ?_ ?_
        · exact ⟨_, _, [], rfl, fun _ _ h => h, .nil⟩
        · rintro i σ H' _ ⟨o3, o4, L, rfl, s1, _⟩
          exact SqT.of (s1 _ _ hg1)
        · rintro i r σ H1 hv ⟨o3, o4, L, rfl, s1, pr⟩
          have ir := iv.items tv r (List.mem_of_getElem? hv)
          have ir1 := ir.keep (.same s1)
          obtain ⟨ty2, tyx2, ⟨b2, kt2, h21, h20⟩, _⟩ := kit_any (K := K) ir1
          refine ⟨_, rfl, r, .ty "tuple", ty2, .type "tuple", b2, rfl, .ty "tuple", tyx2, kt2, ?_⟩
          cases b2 with
          | false => exact ⟨false, rfl, iteT (k false H1 s1 ⟨nofun, fun h => absurd h (grid_no tv hv fun c hc => h20 rfl _ (hc.1.keep (.same s1)))⟩)⟩
          | true =>
            obtain ⟨cs, t, rfl, ht2⟩ := h21 rfl
            obtain ⟨_, e, ht⟩ := ir.back (.same s1) ⟨t, rfl, ht2⟩
            cases e
            have tr : TupV H (.ref t) cs := ⟨t, rfl, ht⟩
            refine ⟨true, rfl, iteF ?_⟩
            refine ⟨_, rfl, _, _, rfl, .inr ⟨_, SqT.of ht2, rfl⟩, _, rfl, rfl, _, rfl, ?_⟩
            by_cases c2 : cs.length = y.length + 1
            · rw [show decide (V.int ((cs.length : Nat) : Int) = V.int ((y.length : Nat) + 1)) = true from decide_eq_true (by rw [c2]; rfl)]
              refine iteF ?_
              refine ⟨_, rfl, t, rfl, ⟨_, SqT.of ht2⟩, fun D hD => ?_⟩
              have sD := same_new (o := .lst []) hD
              have cl : cs.length ≤ 5000 := Nat.le_trans (ir.len tr) hB
              refine lc_tup (K := K) (a := t) (xs := cs) (fun i H' => H' D = some (.lst ((cs.take i).filter (fun v => !isIntV v))) ∧ Same H1 H') ?_ ?_ ?_ ?_
              · exact ⟨upd_same, sD⟩
              · rintro i H' _ ⟨_, s2⟩
                exact SqT.of (s2 _ _ ht2)
              · rintro j v H2 hv2 ⟨hD2, s2⟩
                have lj := (List.getElem?_eq_some_iff.mp hv2).1
                have i3 := (ir.items tr v (List.mem_of_getElem? hv2)).keep (.same (s1.trans s2))
                obtain ⟨ty3, tyx3, _, ⟨bi, ki, i1, i0⟩, ⟨bb, kb, b1, b0⟩, _⟩ := kit_any (K := K) i3
                have yes : isIntV v = false → ∃ acc, H2 D = some (.lst acc) ∧ acc.length < sizeLine ∧ upd H2 D (.lst (acc ++ [v])) D = some (.lst (((cs.take (j + 1))).filter (fun v => !isIntV v))) ∧ Same H1 (upd H2 D (.lst (acc ++ [v]))) := fun n => by
                  refine ⟨_, hD2, fewL ?_, ?_, upd_out hD s2⟩
                  · have := List.length_filter_le (fun v => !isIntV v) (cs.take j)
                    rw [List.length_take] at this
                    omega
                  · rw [upd_same, take_snoc hv2, List.filter_append, List.filter_cons_of_pos (by rw [n]; rfl), List.filter_nil]
                have no : isIntV v = true → H2 D = some (.lst ((cs.take (j + 1)).filter (fun v => !isIntV v))) := fun n => by
                  rw [take_snoc hv2, List.filter_append, List.filter_cons_of_neg (by rw [n]; exact Bool.false_ne_true), List.filter_nil, List.append_nil]
                  exact hD2
                refine ⟨rfl, _, rfl, v, .ty "int", ty3, .type "int", bi, rfl, .ty "int", tyx3, ki, ?_⟩
                cases bi with
                | false => exact ⟨false, rfl, iteT (iteT ⟨_, rfl, yes (isIntV_ne (i0 rfl))⟩)⟩
                | true =>
                  refine ⟨true, rfl, iteF ⟨_, rfl, v, .ty "bool", ty3, .type "bool", bb, rfl, .ty "bool", tyx3, kb, bb, rfl, ?_⟩⟩
                  cases bb with
                  | true => exact iteT ⟨_, rfl, yes (isIntV_ne (b1 rfl))⟩
                  | false =>
                    obtain ⟨i, n⟩ := i1 rfl
                    cases b0 rfl i n
                    exact iteF ⟨no rfl, s2⟩
              · rintro H2 ⟨hD2, s2⟩
                rw [List.take_length] at hD2
                refine ⟨by show 0 ≤ sizeLine; decide, fun q hq => ?_⟩
                have sq := same_new (o := .lst []) hq
                refine ⟨D, _, q, rfl, rfl, SqL.of (sq _ _ hD2), SqL.of upd_same, _, rfl, ?_⟩
                cases e : (cs.map isIntV).all id with
                | false =>
                  have ne : (cs.filter (fun v => !isIntV v)).length ≠ 0 := fun z => by
                    rw [filt_all.mp (List.eq_nil_of_length_eq_zero z)] at e
                    cases e
                  rw [show decide ((cs.filter (fun v => !isIntV v)).length = 0) = false from decide_eq_false ne]
                  exact iteT (k false _ ((s1.trans s2).trans sq) ⟨nofun, fun h => absurd h (grid_no tv hv fun c hc => by
                    cases tr.inj hc.1
                    rw [int_all] at e
                    cases e)⟩)
                | true =>
                  rw [show decide ((cs.filter (fun v => !isIntV v)).length = 0) = true from decide_eq_true (by rw [filt_all.mpr e]; rfl)]
                  obtain ⟨c, rfl⟩ := all_int e
                  exact iteF ⟨_, _, L ++ [c], rfl, (s1.trans s2).trans sq, by rw [take_snoc hv]; exact pr.snoc ⟨tr, by rw [← c2, List.length_map]⟩⟩
            · rw [show decide (V.int ((cs.length : Nat) : Int) = V.int ((y.length : Nat) + 1)) = false from decide_eq_false fun z => c2 (by have := V.int.inj z; omega)]
              exact iteT (k false H1 s1 ⟨nofun, fun h => absurd h (grid_no tv hv fun c hc => by
                cases tr.inj hc.1
                exact c2 (by rw [List.length_map]; exact hc.2))⟩)
        · rintro σ H1 ⟨o3, o4, L, rfl, s1, pr⟩
          rw [List.take_length] at pr
          exact k true H1 s1 ⟨fun _ => ⟨L, rows, tv, pr, by rw [← paired_len pr]; exact c1⟩, fun _ => rfl⟩
      · rw [show decide (V.int ((rows.length : Nat) : Int) = V.int ((x.length : Nat) + 1)) = false from decide_eq_false fun z => c1 (by have := V.int.inj z; omega)]
        exact iteT (k false H Same.rfl ⟨nofun, fun ⟨L, rows2, h1, h2, h3⟩ => absurd (by cases tv.inj h1; rw [paired_len h2]; exact h3) c1⟩)
end
end Vk
set_option Elab.async false
set_option maxRecDepth 100000
set_option linter.all false
set_option maxHeartbeats 4000000
namespace Vk
open PySem PySem.Spec PyProof.Rows L2 StX
/-! ## papers of prices -/
def EndX (x : Str) (i t : Nat) : Prop := Lend x i t ∧ t ≤ x.length
def LowAt (A F : List (List Int)) (x y : Str) (e i j : Nat) : Prop := ent A i j ≤ ent F i j ∧ (i < x.length → ent F (i + 1) j ≤ ent F i j + 1) ∧ (j < y.length → ent F i (j + 1) ≤ ent F i j + 1) ∧ (i < x.length → j < y.length → x.cps.toList[i]? = y.cps.toList[j]? → ent A (i + 1) (j + 1) ≤ ent A i j) ∧ ∀ t, EndX x i t → ent F t j ≤ ent A i j + (t : Nat) - (i : Nat) + (e : Nat)
def Low (A F : List (List Int)) (x y : Str) (e : Nat) : Prop := ∀ i j, i ≤ x.length → j ≤ y.length → LowAt A F x y e i j
def PricesL (A F : List (List Int)) (x y : Str) (e : Nat) (tot : Int) : Prop := ent A 0 0 = 0 ∧ ent A x.length y.length = tot ∧ Low A F x y e
def PriP (H : Hp) (x y : Str) (e : Nat) (tot : Int) (v : V) : Prop := ∃ a f A F, TupV H v [.str "prices", a, f] ∧ GridL H (x.length + 1) (y.length + 1) a A ∧ GridL H (x.length + 1) (y.length + 1) f F ∧ PricesL A F x y e tot
theorem PriP.keep {H H1 : Hp} {x y : Str} {e : Nat} {tot : Int} {v : V} (h : PriP H x y e tot v) (k : Kp H H1) : PriP H1 x y e tot v := by
  obtain ⟨a, f, A, F, h1, h2, h3, h4⟩ := h
  exact ⟨a, f, A, F, h1.keep k, h2.keep k, h3.keep k, h4⟩
theorem PriP.back {H H1 : Hp} {B : Nat} {x y : Str} {e : Nat} {tot : Int} {v : V} (i : IsV H B 3 v) (k : Kp H H1) (h : PriP H1 x y e tot v) : PriP H x y e tot v := by
  obtain ⟨a, f, A, F, h1, h2, h3, h4⟩ := h
  have h5 := i.back k h1
  exact ⟨a, f, A, F, h5, h2.back (i.items h5 a (by simp)) k, h3.back (i.items h5 f (by simp)) k, h4⟩
theorem end_once {x : Str} {g t : Nat} (h1 : g < t) (h2 : t ≤ x.length) (h3 : onceX x g t) : ∃ u, EndX x g u ∧ u ≤ t := by
  refine ⟨lendF x g (x.length + 1) (g + 1), ?_⟩
  have L : Lend x g (lendF x g (x.length + 1) (g + 1)) := by
    obtain ⟨q1, q2, q3, q4⟩ := lendF_spec (x := x) (a := g) (x.length + 1) (g + 1) (by omega) (by omega) (fun b h4 h5 => by omega)
    exact ⟨by omega, q4 (by omega), q2, q3⟩
  have z := (L.iff h1 h2).mp h3
  exact ⟨⟨L, by omega⟩, z⟩
/-- no more than any way -/
theorem low_way {A F : List (List Int)} {x y : Str} {e : Nat} (z : ent A 0 0 = 0) (l : Low A F x y e) {i j c : Nat} (w : WayF x.cps.toList y.cps.toList (onceX x) e i j c) : ent A i j ≤ (c : Nat) := by
  have lx : x.cps.toList.length = x.length := Array.length_toList
  have ly : y.cps.toList.length = y.length := Array.length_toList
  induction w with
  | start => rw [z]; exact Int.le_refl _
  | @keep i j c w h1 h2 ih =>
    have hj : j < y.length := by
      have h3 := h2
      rw [List.getElem?_eq_getElem h1] at h3
      have := (List.getElem?_eq_some_iff.mp h3.symm).1
      omega
    have := (l i j (by omega) (by omega)).2.2.2.1 (by omega) hj h2
    omega
  | @xch i j c t k w h1 h2 h3 h4 h5 ih =>
    obtain ⟨u, eu, ut⟩ := end_once h1 (by omega) h3
    have ui := eu.1.gt
    have a1 := (l i j (by omega) (by omega)).2.2.2.2 u eu
    have a2 : ∀ s, u + s ≤ x.length → ent F (u + s) j ≤ ent F u j + (s : Nat) := fun s => by
      induction s with
      | zero => intro _; simp
      | succ s ihs =>
        intro hs
        have q1 := ihs (by omega)
        have q2 := (l (u + s) j (by omega) (by omega)).2.1 (by omega)
        rw [show u + (s + 1) = u + s + 1 by omega]
        omega
    have a3 : ∀ s, j + s ≤ y.length → ent F t (j + s) ≤ ent F t j + (s : Nat) := fun s => by
      induction s with
      | zero => intro _; simp
      | succ s ihs =>
        intro hs
        have q1 := ihs (by omega)
        have q2 := (l t (j + s) (by omega) (by omega)).2.2.1 (by omega)
        rw [show j + (s + 1) = j + s + 1 by omega]
        omega
    have b2 := a2 (t - u) (by omega)
    have b3 := a3 (k - j) (by omega)
    rw [show u + (t - u) = t by omega] at b2
    rw [show j + (k - j) = k by omega] at b3
    have b4 := (l t k (by omega) (by omega)).1
    omega
theorem prices_le {A F : List (List Int)} {x y : Str} {e : Nat} {tot : Int} (h : PricesL A F x y e tot) {c : Nat} (w : WayF x.cps.toList y.cps.toList (onceX x) e x.length y.length c) : tot ≤ (c : Nat) := by
  rw [← h.2.1]
  exact low_way h.1 h.2.2 w
/-- the rows of a table -/
def gridOf (G : Nat → Nat → Nat) (n m : Nat) : List (List Int) := (List.range (n + 1)).map fun i => (List.range (m + 1)).map fun j => ((G i j : Nat) : Int)
theorem gridOf_ent {G : Nat → Nat → Nat} {n m i j : Nat} (hi : i ≤ n) (hj : j ≤ m) : ent (gridOf G n m) i j = ((G i j : Nat) : Int) := by
  unfold ent gridOf
  rw [List.getElem?_map, List.getElem?_range (by omega)]
  show ((List.range (m + 1)).map _)[j]?.getD 0 = _
  rw [List.getElem?_map, List.getElem?_range (by omega)]
  rfl
/-- the tables of price_tables, cut off at some number -/
theorem prices_own {x y : Str} {e M : Nat} : PricesL (gridOf (fun i j => min (kX x y e i j) M) x.length y.length) (gridOf (fun i j => min (gX x y e i j) M) x.length y.length) x y e ((min (kX x y e x.length y.length) M : Nat) : Int) := by
  have lx : x.cps.toList.length = x.length := Array.length_toList
  have ly : y.cps.toList.length = y.length := Array.length_toList
  refine ⟨?_, gridOf_ent (Nat.le_refl _) (Nat.le_refl _), fun i j hi hj => ?_⟩
  · rw [gridOf_ent (Nat.zero_le _) (Nat.zero_le _), show kX x y e 0 0 = 0 from kF_00]
    simp
  have K := kF_least (a := x.cps.toList) (b := y.cps.toList) (once := onceX x) (e := e)
  have G := gF_least (a := x.cps.toList) (b := y.cps.toList) (once := onceX x) (e := e)
  refine ⟨?_, fun h => ?_, fun h => ?_, fun h1 h2 h3 => ?_, fun t ht => ?_⟩
  · rw [gridOf_ent hi hj, gridOf_ent hi hj]
    have : kX x y e i j ≤ gX x y e i j := by
      rcases Nat.lt_or_ge (gX x y e i j) (beyond x.cps.toList y.cps.toList e) with l | l
      · exact (K i j).le _ (way_last.mpr (.inr (.inl ((G i j).is l))))
      · exact Nat.le_trans (K i j).top l
    omega
  · rw [gridOf_ent (by omega) hj, gridOf_ent hi hj]
    have : gX x y e (i + 1) j ≤ gX x y e i j + 1 := by
      rcases Nat.lt_or_ge (gX x y e i j) (beyond x.cps.toList y.cps.toList e) with l | l
      · obtain ⟨g, k, d, w, p1, p2, p3, p4, p5, p6⟩ := (G i j).is l
        have : gX x y e i j = d + e + (i - g) + (j - k) := p6
        refine Nat.le_trans ((G (i + 1) j).le (d + e + (i + 1 - g) + (j - k)) ⟨g, k, d, w, by omega, by omega, ?_, p4, p5, rfl⟩) (by omega)
        have t2 : ∀ {a b c : Nat}, a < b → b ≤ c → c ≤ x.length → onceX x a b → onceX x a c := fun {a b c} h1 h2 h3 h4 => by
          unfold onceX at h4 ⊢
          cases e2 : twB x a c with
          | false => rfl
          | true =>
            have t2 := (twB_iff (by omega) h3).mp e2
            have := (twB_iff (by omega) (by omega)).mpr (t2.less (Nat.le_refl _) (by omega) h2)
            rw [h4] at this
            cases this
        exact t2 p1 (by omega) h p3
      · have := (G (i + 1) j).top
        have : gX x y e (i + 1) j ≤ beyond x.cps.toList y.cps.toList e := this
        omega
    omega
  · rw [gridOf_ent hi (by omega), gridOf_ent hi hj]
    have : gX x y e i (j + 1) ≤ gX x y e i j + 1 := by
      rcases Nat.lt_or_ge (gX x y e i j) (beyond x.cps.toList y.cps.toList e) with l | l
      · obtain ⟨g, k, d, w, p1, p2, p3, p4, p5, p6⟩ := (G i j).is l
        have : gX x y e i j = d + e + (i - g) + (j - k) := p6
        exact Nat.le_trans ((G i (j + 1)).le (d + e + (i - g) + (j + 1 - k)) ⟨g, k, d, w, p1, p2, p3, by omega, by omega, rfl⟩) (by omega)
      · have := (G i (j + 1)).top
        have : gX x y e i (j + 1) ≤ beyond x.cps.toList y.cps.toList e := this
        omega
    omega
  · rw [gridOf_ent (by omega) (by omega), gridOf_ent hi hj]
    have : kX x y e (i + 1) (j + 1) ≤ kX x y e i j := by
      rcases Nat.lt_or_ge (kX x y e i j) (beyond x.cps.toList y.cps.toList e) with l | l
      · exact (K (i + 1) (j + 1)).le _ (.keep ((K i j).is l) (by omega) h3)
      · exact Nat.le_trans (K (i + 1) (j + 1)).top l
    omega
  · obtain ⟨L, tn⟩ := ht
    have ti := L.gt
    rw [gridOf_ent tn hj, gridOf_ent hi hj]
    have : gX x y e t j ≤ kX x y e i j + (t - i) + e := by
      rcases Nat.lt_or_ge (kX x y e i j) (beyond x.cps.toList y.cps.toList e) with l | l
      · have w := (K i j).is l
        exact Nat.le_trans ((G t j).le _ ⟨i, j, _, w, ti, by omega, L.once tn, Nat.le_refl _, by omega, rfl⟩) (by show kX x y e i j + e + (t - i) + (j - j) ≤ _; omega)
      · have := (G t j).top
        have : gX x y e t j ≤ beyond x.cps.toList y.cps.toList e := this
        omega
    omega
end Vk
set_option Elab.async false
set_option maxRecDepth 100000
set_option linter.all false
set_option maxHeartbeats 4000000
namespace Vk
open PySem PySem.Spec PyProof.Rows L2 StX
theorem call_tuple_ofK {X : Cx} {K : PySem.W.Frag} (h : X.K = K) : CallR X (.type "tuple") (fun xs H Q => ∃ p ys, xs = [.ref p] ∧ ((SqL K H p ys ∧ ∀ l, H l = none → Q (.ref l) (upd H l (.tup ys))) ∨ (SqT K H p ys ∧ Q (.ref p) H))) := h ▸ call_tuple_of
section
variable {P : Program} {w : World} {K : PySem.W.Frag} {mg : Str → Option Value} {base : Heap}
/-- tuples of rows of numbers, from lists of rows -/
theorem paired_grid {H : Hp} {G : Nat → Nat → Nat} {n m : Nat} {ts : List Addr} (h1 : ts.length = n + 1) (h2 : ∀ i t, ts[i]? = some t → H t = some (.tup (rowF G i (m + 1)))) : Paired (RowI H (m + 1)) (ts.map V.ref) (gridOf G n m) := by
  have gen : ∀ (l : List Nat) (us : List Addr), us.length = l.length → (∀ (i : Nat) (t : Addr) (q : Nat), us[i]? = some t → l[i]? = some q → H t = some (.tup (rowF G q (m + 1)))) → Paired (RowI H (m + 1)) (us.map V.ref) (l.map fun i => (List.range (m + 1)).map fun j => ((G i j : Nat) : Int)) := fun l => by
    induction l with
    | nil =>
      intro us hl _
      rw [List.eq_nil_of_length_eq_zero hl]
      exact .nil
    | cons q l ih =>
      intro us hl h
      match us, hl with
      | u :: us, hl =>
        refine .cons ⟨⟨u, rfl, ?_⟩, by rw [List.length_map, List.length_range]⟩ (ih us (by simpa using hl) fun i t q' a b => h (i + 1) t q' a b)
        rw [h 0 u q rfl rfl]
        unfold rowF
        rw [List.map_map]
        rfl
  refine gen (List.range (n + 1)) ts (by rw [h1, List.length_range]) fun i t q a b => ?_
  have : i < (List.range (n + 1)).length := (List.getElem?_eq_some_iff.mp b).1
  rw [List.length_range] at this
  rw [List.getElem?_range this] at b
  cases b
  exact h2 i t a
def spPri : Sp := fun vs H Q _ => ∃ (x y : Str) (e : Nat), vs = [.str x, .str y, .int (e : Nat)] ∧ x.length ≤ 100 ∧ y.length ≤ 100 ∧ e ≤ 100000 ∧
  ((x.length = 0 ∧ ¬ y.length = 0) → Q .non H) ∧
  (¬ (x.length = 0 ∧ ¬ y.length = 0) → ∀ (t a f : Addr) (H' : Hp), H' t = some (.tup [.str "prices", .ref a, .ref f]) → GridL H' (x.length + 1) (y.length + 1) (.ref a) (gridOf (kX x y e) x.length y.length) → GridL H' (x.length + 1) (y.length + 1) (.ref f) (gridOf (gX x y e) x.length y.length) → Same H H' → Q (.ref t) H')
abbrev s_prices : Stmt := top 11
theorem sc_prices : FnScope ["one", "other", "each", "kept", "begun", "row"] ["one", "other", "each"] (defScope s_prices) := ⟨rfl, rfl, rfl, by decide +kernel, rfl, by decide +kernel, by decide +kernel⟩
theorem b_prices {f : Addr} {fd : FuncData} (F : Fun K "prices" "prices" s_prices f fd) (T : Txt mg) (c_price_tables : CalG P w K mg base CX0 4 "price_tables" spPrices) (c_has_exchange : CalG P w K mg base CX0 1 "has_exchange" spHas) : FnG P w K mg base CX0 5 f fd ["one", "other", "each"] spPri := by
  refine okG0 F sc_prices (fun vs H Q E h => ?_) (fun cdv A outer s H vs Q E hg hr h => ?_)
  · obtain ⟨x, y, e, rfl, _⟩ := h
    rfl
  · have hu := hu_of hr
    have hu64 := hr.units
    obtain ⟨x, y, e, rfl, hx, hy, he, kN, k⟩ := h
    refine ⟨_, (pss_cons (ps_if (pt_not (pt_val (pe_cG c_has_exchange hg hr (by decide) pass0 (pa_cons (pv 0) (pa_cons (pv 1) pa_nil))))) (pss_one (ps_ret pe_non)) pss_nil)
      (pss_cons (ps_asg (pe_cG c_price_tables hg hr (by decide) pass0 (pa_cons (pv 0) (pa_cons (pv 1) (pa_cons (pv 2) pa_nil)))) (pg_tup rfl (pgs_cons (pg_name (i := 3) sc_prices.nd rfl (Or.inl rfl)) (pgs_cons (pg_name (i := 4) sc_prices.nd rfl (Or.inl rfl)) pgs_nil))))
      (pss_one (ps_ret (pe_tup (pa_cons pe_str (pa_cons (pe_callTy call_tuple_of (by rfl) T.tuple (by decide +kernel) (pa_cons (pe_lc (own := [("row", 5)]) (g := gName 5) (tt := tYes) rfl sc_prices.nd (pi_list (pv 3)) (blkOk_by (own := [("row", 5)]) (N := ["one", "other", "each", "kept", "begun", "row"]) (sc := defScope s_prices) (by decide +kernel)) (fun _ _ _ _ _ => (pg_name (i := 5) sc_prices.nd rfl (Or.inl rfl))) (fun _ _ _ _ _ => pts_nil) (fun _ _ _ _ _ => (pe_callTy (call_tuple_ofK (K := K) rfl) (by rfl) T.tuple (by decide +kernel) (pa_cons (pv 5) pa_nil)))) pa_nil)) (pa_cons (pe_callTy call_tuple_of (by rfl) T.tuple (by decide +kernel) (pa_cons (pe_lc (own := [("row", 5)]) (g := gName 5) (tt := tYes) rfl sc_prices.nd (pi_list (pv 4)) (blkOk_by (own := [("row", 5)]) (N := ["one", "other", "each", "kept", "begun", "row"]) (sc := defScope s_prices) (by decide +kernel)) (fun _ _ _ _ _ => (pg_name (i := 5) sc_prices.nd rfl (Or.inl rfl))) (fun _ _ _ _ _ => pts_nil) (fun _ _ _ _ _ => (pe_callTy (call_tuple_ofK (K := K) rfl) (by rfl) T.tuple (by decide +kernel) (pa_cons (pv 5) pa_nil)))) pa_nil)) pa_nil)))))))), ?_⟩
    refine ⟨_, rfl, _, rfl, x, y, rfl, _, rfl, ?_⟩
    rw [strE_d, strE_d]
    by_cases no : x.length = 0 ∧ ¬ y.length = 0
    · rw [decide_eq_true no.1, decide_eq_false no.2]
      exact iteT (kN no)
    · replace k := k no
      rw [show (!decide (x.length = 0) || decide (y.length = 0)) = true by
        by_cases c : x.length = 0
        · have d : y.length = 0 := Decidable.byContradiction fun z => no ⟨c, z⟩
          simp [c, d]
        · simp [c]]
      refine iteF ?_
      refine ⟨_, rfl, _, rfl, _, rfl, x, y, e, rfl, hx, hy, he, fun tt ak ab H1 htt tk tb s1 => ?_⟩
      refine ⟨tt, _, rfl, SqT.of htt, rfl, _, _, rfl, _, _, rfl, rfl, ?_⟩
      obtain ⟨us, u1, u2, u3⟩ := tk.ex
      obtain ⟨vs', v1, v2', v3⟩ := tb.ex
      refine ⟨_, rfl, ak, rfl, ⟨_, SqL.of u1⟩, fun D hD => ?_⟩
      have sD := same_new (o := .lst []) hD
      refine lc_list (K := K) (a := ak) (xs := us.map V.ref) (fun i H' => ∃ ts : List Addr, H' D = some (.lst (ts.map V.ref)) ∧ ts.length = i ∧ (∀ i t, ts[i]? = some t → H' t = some (.tup (rowF (kX x y e) i (y.length + 1)))) ∧ Same H1 H') ?_ ?_ ?_ ?_
      · exact ⟨[], upd_same, rfl, (fun i t h => by simp at h), sD⟩
      · rintro i H2 _ ⟨ts, _, _, _, s2⟩
        exact SqL.of (s2 _ _ u1)
      · rintro i v H2 hv ⟨ts, d2, l2, t2, s2⟩
        rw [List.getElem?_map] at hv
        obtain ⟨u, hu', rfl⟩ := Option.map_eq_some_iff.mp hv
        have hr2 := s2 _ _ (u3 i u hu')
        have hd := d2
        refine ⟨rfl, _, rfl, u, _, rfl, .inl ⟨SqL.of hr2, fun q hq => ?_⟩⟩
        have sq := same_new (o := .tup (rowF (kX x y e) i (y.length + 1))) hq
        have il : i < us.length := (List.getElem?_eq_some_iff.mp hu').1
        refine ⟨_, sq _ _ d2, fewL (by rw [List.length_map]; omega), ts ++ [q], by rw [upd_same, List.map_append]; rfl, by rw [List.length_append, l2]; rfl, fun j t h => ?_, upd_out hD (s2.trans sq)⟩
        have key : upd H2 q (.tup (rowF (kX x y e) i (y.length + 1))) t = some (.tup (rowF (kX x y e) j (y.length + 1))) := by
          rcases Nat.lt_or_ge j ts.length with l | l
          · rw [List.getElem?_append_left l] at h
            exact sq _ _ (t2 j t h)
          · rw [List.getElem?_append_right l] at h
            have ej : j = i := by
              have := (List.getElem?_eq_some_iff.mp h).1
              rw [List.length_singleton] at this
              omega
            subst ej
            rw [l2, Nat.sub_self] at h
            cases h
            exact upd_same
        rw [upd_ne fun z => by rw [z, sq _ _ d2] at key; cases key]
        exact key
      · rintro H2 ⟨ts, d2, l2, t2, s2⟩
        rw [List.length_map, u2] at l2
        refine ⟨D, _, rfl, .inl ⟨SqL.of d2, fun ka hka => ?_⟩⟩
        have ska := same_new (o := .tup (ts.map V.ref)) hka
        have ga : GridL (upd H2 ka (.tup (ts.map V.ref))) (x.length + 1) (y.length + 1) (.ref ka) (gridOf (kX x y e) x.length y.length) := ⟨_, ⟨ka, rfl, upd_same⟩, paired_grid l2 fun i t h => ska _ _ (t2 i t h), by unfold gridOf; rw [List.length_map, List.length_range]⟩
        have s3 := s2.trans ska
        generalize upd H2 ka (.tup (ts.map V.ref)) = H3 at ga s3
        clear d2 t2 s2 ska
        have v1' := s3 _ _ v1
        have v3' := fun i t h => s3 _ _ (v3 i t h)
        refine ⟨_, rfl, ab, rfl, ⟨_, SqL.of v1'⟩, fun D hD => ?_⟩
        have sD := same_new (o := .lst []) hD
        refine lc_list (K := K) (a := ab) (xs := vs'.map V.ref) (fun i H' => ∃ ts : List Addr, H' D = some (.lst (ts.map V.ref)) ∧ ts.length = i ∧ (∀ i t, ts[i]? = some t → H' t = some (.tup (rowF (gX x y e) i (y.length + 1)))) ∧ Same H3 H') ?_ ?_ ?_ ?_
        · exact ⟨[], upd_same, rfl, (fun i t h => by simp at h), sD⟩
        · rintro i H5 _ ⟨ts, _, _, _, s2⟩
          exact SqL.of (s2 _ _ v1')
        · rintro i v H5 hv ⟨ts, d2, l2, t2, s2⟩
          rw [List.getElem?_map] at hv
          obtain ⟨u, hu', rfl⟩ := Option.map_eq_some_iff.mp hv
          have hr2 := s2 _ _ (v3' i u hu')
          have hd := d2
          refine ⟨rfl, _, rfl, u, _, rfl, .inl ⟨SqL.of hr2, fun q hq => ?_⟩⟩
          have sq := same_new (o := .tup (rowF (gX x y e) i (y.length + 1))) hq
          have il : i < vs'.length := (List.getElem?_eq_some_iff.mp hu').1
          refine ⟨_, sq _ _ d2, fewL (by rw [List.length_map]; omega), ts ++ [q], by rw [upd_same, List.map_append]; rfl, by rw [List.length_append, l2]; rfl, fun j t h => ?_, upd_out hD (s2.trans sq)⟩
          have key : upd H5 q (.tup (rowF (gX x y e) i (y.length + 1))) t = some (.tup (rowF (gX x y e) j (y.length + 1))) := by
            rcases Nat.lt_or_ge j ts.length with l | l
            · rw [List.getElem?_append_left l] at h
              exact sq _ _ (t2 j t h)
            · rw [List.getElem?_append_right l] at h
              have ej : j = i := by
                have := (List.getElem?_eq_some_iff.mp h).1
                rw [List.length_singleton] at this
                omega
              subst ej
              rw [l2, Nat.sub_self] at h
              cases h
              exact upd_same
          rw [upd_ne fun z => by rw [z, sq _ _ d2] at key; cases key]
          exact key
        · rintro H5 ⟨ts, d2, l2, t2, s2⟩
          rw [List.length_map, v2'] at l2
          refine ⟨D, _, rfl, .inl ⟨SqL.of d2, fun kb hkb => ?_⟩⟩
          have skb := same_new (o := .tup (ts.map V.ref)) hkb
          have gb : GridL (upd H5 kb (.tup (ts.map V.ref))) (x.length + 1) (y.length + 1) (.ref kb) (gridOf (gX x y e) x.length y.length) := ⟨_, ⟨kb, rfl, upd_same⟩, paired_grid l2 fun i t h => skb _ _ (t2 i t h), by unfold gridOf; rw [List.length_map, List.length_range]⟩
          have s3' := s2.trans skb
          generalize upd H5 kb (.tup (ts.map V.ref)) = H6 at gb s3'
          refine ⟨by show 3 ≤ sizeLine; decide, fun t ht => ?_⟩
          have st := same_new (o := .tup [.str "prices", .ref ka, .ref kb]) ht
          exact k t ka kb _ upd_same ((ga.keep (.same s3')).keep (.same st)) (gb.keep (.same st)) (((s1.trans s3).trans s3').trans st)
end
end Vk
set_option Elab.async false
set_option maxRecDepth 100000
set_option linter.all false
set_option maxHeartbeats 4000000
namespace Vk
open PySem PySem.Spec PyProof.Rows L2 StX
structure Step7 where
  k : Nat
  i : Nat
  j : Nat
  kb : Nat
  ib : Nat
  jb : Nat
  c : Nat
/-- the steps from (i, j) -/
def stepsAt (x y : Str) (ends : Nat → Option Nat) (e i j : Nat) : List Step7 :=
  [⟨2, i, j, 1, i, j, 0⟩] ++ (if i < x.length then [⟨2, i, j, 2, i + 1, j, 1⟩] else []) ++ (if j < y.length then [⟨2, i, j, 2, i, j + 1, 1⟩] else []) ++ (if i < x.length ∧ j < y.length ∧ x.cps.toList[i]? = y.cps.toList[j]? then [⟨1, i, j, 1, i + 1, j + 1, 0⟩] else []) ++ (match ends i with | some t => if i < x.length then [⟨1, i, j, 2, t, j, t - i + e⟩] else [] | none => [])
theorem stepsAt_len {x y : Str} {ends : Nat → Option Nat} {e i j : Nat} : (stepsAt x y ends e i j).length ≤ 5 := by
  unfold stepsAt
  simp only [List.length_append, List.length_singleton]
  have h1 : ∀ (p : Prop) [Decidable p] (s : Step7), (if p then [s] else []).length ≤ 1 := fun p _ s => by split <;> simp
  have a1 := h1 (i < x.length) ⟨2, i, j, 2, i + 1, j, 1⟩
  have a2 := h1 (j < y.length) ⟨2, i, j, 2, i, j + 1, 1⟩
  have a3 := h1 (i < x.length ∧ j < y.length ∧ x.cps.toList[i]? = y.cps.toList[j]?) ⟨1, i, j, 1, i + 1, j + 1, 0⟩
  have a4 : (match ends i with | some t => if i < x.length then [(⟨1, i, j, 2, t, j, t - i + e⟩ : Step7)] else [] | none => []).length ≤ 1 := by
    cases ends i with
    | none => simp
    | some t => exact h1 _ _
  omega
/-- those of the row i up to j -/
def stepsRow (x y : Str) (ends : Nat → Option Nat) (e i j : Nat) : List Step7 := ((List.range j).map fun j => stepsAt x y ends e i j).flatten
def stepsAll (x y : Str) (ends : Nat → Option Nat) (e i : Nat) : List Step7 := ((List.range i).map fun i => stepsRow x y ends e i (y.length + 1)).flatten
theorem stepsRow_snoc {x y : Str} {ends : Nat → Option Nat} {e i j : Nat} : stepsRow x y ends e i (j + 1) = stepsRow x y ends e i j ++ stepsAt x y ends e i j := by
  unfold stepsRow
  rw [List.range_succ, List.map_append, List.flatten_append]
  simp
theorem stepsAll_snoc {x y : Str} {ends : Nat → Option Nat} {e i : Nat} : stepsAll x y ends e (i + 1) = stepsAll x y ends e i ++ stepsRow x y ends e i (y.length + 1) := by
  unfold stepsAll
  rw [List.range_succ, List.map_append, List.flatten_append]
  simp
theorem stepsRow_len {x y : Str} {ends : Nat → Option Nat} {e i : Nat} : ∀ {j : Nat}, (stepsRow x y ends e i j).length ≤ 5 * j
  | 0 => Nat.le_refl _
  | j + 1 => by
    have := stepsRow_len (x := x) (y := y) (ends := ends) (e := e) (i := i) (j := j)
    have := stepsAt_len (x := x) (y := y) (ends := ends) (e := e) (i := i) (j := j)
    rw [stepsRow_snoc, List.length_append]
    omega
theorem stepsAll_len {x y : Str} {ends : Nat → Option Nat} {e : Nat} : ∀ {i : Nat}, (stepsAll x y ends e i).length ≤ i * (5 * (y.length + 1))
  | 0 => Nat.zero_le _
  | i + 1 => by
    have := stepsAll_len (x := x) (y := y) (ends := ends) (e := e) (i := i)
    have := stepsRow_len (x := x) (y := y) (ends := ends) (e := e) (i := i) (j := y.length + 1)
    rw [stepsAll_snoc, List.length_append, Nat.succ_mul]
    omega
def St7 (H : Hp) : List V → List Step7 → Prop := Paired (fun v (s : Step7) => ∃ t, v = V.ref t ∧ H t = some (.tup [.int (s.k : Nat), .int (s.i : Nat), .int (s.j : Nat), .int (s.kb : Nat), .int (s.ib : Nat), .int (s.jb : Nat), .int (s.c : Nat)]))
theorem St7.keepT {H H1 : Hp} {xs : List V} {rs : List Step7} (h : St7 H xs rs) (s : ∀ u ws, H u = some (.tup ws) → H1 u = some (.tup ws)) : St7 H1 xs rs := pair_mono (fun v p ⟨t, e, ht⟩ => ⟨t, e, s _ _ ht⟩) h
/-- a list of steps under way -/
structure StL (H : Hp) (a : Addr) (ss : List Step7) : Prop where
  ex : ∃ xs, H a = some (.lst xs) ∧ St7 H xs ss
theorem StL.keep {H H1 : Hp} {a : Addr} {ss : List Step7} (h : StL H a ss) (s : Same H H1) : StL H1 a ss := by
  obtain ⟨xs, h1, h2⟩ := h.ex
  exact ⟨xs, s _ _ h1, h2.keepT fun u ws h => s _ _ h⟩
theorem StL.len {H : Hp} {a : Addr} {ss : List Step7} (h : StL H a ss) {xs : List V} (e : H a = some (.lst xs)) : xs.length = ss.length := by
  obtain ⟨ys, h1, h2⟩ := h.ex
  rw [h1] at e
  cases e
  exact paired_len h2
/-- one step more -/
theorem StL.snoc {H : Hp} {a t : Addr} {ss : List Step7} (h : StL H a ss) (s : Step7) (ht : H t = none) : ∃ xs, upd H t (.tup [.int (s.k : Nat), .int (s.i : Nat), .int (s.j : Nat), .int (s.kb : Nat), .int (s.ib : Nat), .int (s.jb : Nat), .int (s.c : Nat)]) a = some (.lst xs) ∧ xs.length = ss.length ∧ StL (upd (upd H t (.tup [.int (s.k : Nat), .int (s.i : Nat), .int (s.j : Nat), .int (s.kb : Nat), .int (s.ib : Nat), .int (s.jb : Nat), .int (s.c : Nat)])) a (.lst (xs ++ [.ref t]))) a (ss ++ [s]) := by
  obtain ⟨xs, h1, h2⟩ := h.ex
  have st := same_new (o := .tup [.int (s.k : Nat), .int (s.i : Nat), .int (s.j : Nat), .int (s.kb : Nat), .int (s.ib : Nat), .int (s.jb : Nat), .int (s.c : Nat)]) ht
  have ha := st _ _ h1
  have nu : ∀ u ws, upd H t (.tup [.int (s.k : Nat), .int (s.i : Nat), .int (s.j : Nat), .int (s.kb : Nat), .int (s.ib : Nat), .int (s.jb : Nat), .int (s.c : Nat)]) u = some (.tup ws) → upd (upd H t (.tup [.int (s.k : Nat), .int (s.i : Nat), .int (s.j : Nat), .int (s.kb : Nat), .int (s.ib : Nat), .int (s.jb : Nat), .int (s.c : Nat)])) a (.lst (xs ++ [.ref t])) u = some (.tup ws) := fun u ws h => by
    rw [upd_ne fun z => by rw [z, ha] at h; cases h]
    exact h
  exact ⟨xs, ha, paired_len h2, ⟨_, upd_same, ((h2.keepT fun u ws h => st _ _ h).keepT nu).snoc ⟨t, rfl, nu _ _ upd_same⟩⟩⟩
section
variable {P : Program} {w : World} {K : PySem.W.Frag} {mg : Str → Option Value} {base : Heap}
def spSteps : Sp := fun vs H Q _ => ∃ (x y : Str) (e : Nat), vs = [.str x, .str y, .int (e : Nat)] ∧ x.length ≤ 100 ∧ y.length ≤ 100 ∧ ∀ (a : Addr) (es : List Nat) (H' : Hp), es.length = x.length → (∀ i e, es[i]? = some e → Lend x i e) → StL H' a (stepsAll x y (leE x es) e (x.length + 1)) → Same H H' → Q (.ref a) H'
abbrev s_steps_on : Stmt := top 12
theorem sc_steps_on : FnScope ["one", "other", "each", "told", "ends", "i", "j"] ["one", "other", "each"] (defScope s_steps_on) := ⟨rfl, rfl, rfl, by decide +kernel, rfl, by decide +kernel, by decide +kernel⟩
theorem lt_by {σ : L2.St} {H : Hp} {n m : Nat} {i : Nat} {x : Str} (hx : x.length ≤ sizeLine) {K : PySem.W.Frag} (h1 : σ[n]? = some (some (.int (i : Nat)))) (h2 : σ[m]? = some (some (.str x))) : ∀ k' : Bool → Hp → Prop, k' (decide (i < x.length)) H → tTest (tOp (rI0 fun i j => V.bl (decide (i < j))) (tVar n) (tCB (fun xs H Q => ∃ x n, xs = [x] ∧ LenV K x H n ∧ Q (V.int ((n : Nat) : Int)) H) (tCons (tVar m) tNil))) σ H k' := fun k' q => ⟨_, h1, _, h2, _, _, rfl, ⟨hx, rfl⟩, _, _, rfl, rfl, _, rfl, by
  rw [show decide (((i : Nat) : Int) < ((x.length : Nat) : Int)) = decide (i < x.length) from decide_eq_decide.mpr (by omega)]
  exact q⟩
abbrev tup7 (s : Step7) : List V := [.int (s.k : Nat), .int (s.i : Nat), .int (s.j : Nat), .int (s.kb : Nat), .int (s.ib : Nat), .int (s.jb : Nat), .int (s.c : Nat)]
theorem app7 {H H3 : Hp} {pl b : Addr} {A : List Step7} {B : HO} (s : Step7) (L : StL H3 pl A) (hb : H3 b = some B) (nb : b ≠ pl) (sH : Same H H3) (hpl : H pl = none) (lA : A.length ≤ 60000) {Q : VK} (h : ∀ H', StL H' pl (A ++ [s]) → H' b = some B → Same H H' → Q .non H') (t : Addr) (ht : H3 t = none) : rAppend (.ref pl) [.ref t] (upd H3 t (.tup (tup7 s))) Q := by
  obtain ⟨xs2, f1, f2, f3⟩ := L.snoc s ht
  refine ⟨pl, xs2, _, rfl, rfl, f1, fewL (by omega), h _ f3 ?_ (upd_out hpl (sH.trans (same_new ht)))⟩
  rw [upd_ne nb]
  exact (same_new ht) _ _ hb
theorem int_non' {i : Int} : (!decide (V.int i = V.non)) = true := by rw [show decide (V.int i = V.non) = false from decide_eq_false nofun]; rfl
theorem non_non' : (!decide (V.non = V.non)) = false := by rw [decide_eq_true rfl]; rfl
theorem b_steps_on {f : Addr} {fd : FuncData} (F : Fun K "steps_on" "steps_on" s_steps_on f fd) (T : Txt mg) (c_least_ends : CalG P w K mg base CX0 2 "least_ends" spEnds) : FnG P w K mg base CX0 3 f fd ["one", "other", "each"] spSteps := by
  refine okG0 F sc_steps_on (fun vs H Q E h => ?_) (fun cdv A outer s H vs Q E hg hr h => ?_)
  · obtain ⟨x, y, e, rfl, _⟩ := h
    rfl
  · have hu := hu_of hr
    have hu64 := hr.units
    obtain ⟨x, y, e, rfl, hx, hy, k⟩ := h
    have xl : x.length ≤ sizeLine := Nat.le_of_lt (fewL (by omega))
    have yl : y.length ≤ sizeLine := Nat.le_of_lt (fewL (by omega))
    have lx : x.cps.toList.length = x.length := Array.length_toList
    have ly : y.cps.toList.length = y.length := Array.length_toList
    refine ⟨_, (pss_cons (ps_set (i := 3) sc_steps_on.nd rfl (Or.inl rfl) (pe_lst pa_nil))
      (pss_cons (ps_set (i := 4) sc_steps_on.nd rfl (Or.inl rfl) (pe_cG c_least_ends hg hr (by decide) pass0 (pa_cons (pv 0) pa_nil)))
      (pss_cons (ps_for PassesOwn.never rfl (pi_range1 rfl T.range (pa_cons (pe_op op_add (pe_callB call_len (by rfl) T.len (by decide +kernel) (pa_cons (pv 0) pa_nil)) pe_int) pa_nil)) (pg_name (i := 5) sc_steps_on.nd rfl (Or.inl rfl)) (pss_one (ps_for PassesOwn.never rfl (pi_range1 rfl T.range (pa_cons (pe_op op_add (pe_callB call_len (by rfl) T.len (by decide +kernel) (pa_cons (pv 1) pa_nil)) pe_int) pa_nil)) (pg_name (i := 6) sc_steps_on.nd rfl (Or.inl rfl)) (pss_cons (ps_expr (pe_bm PySem.F.plainAttrs_list PySem.F.slot_list_append PySem.F.type_list_append mt_append (pv 3) (pa_cons (pe_tup (pa_cons pe_int (pa_cons (pv 5) (pa_cons (pv 6) (pa_cons pe_int (pa_cons (pv 5) (pa_cons (pv 6) (pa_cons pe_int pa_nil)))))))) pa_nil)))
      (pss_cons (ps_if (pt_cmpR op_lt (pv 5) (pe_callB call_len (by rfl) T.len (by decide +kernel) (pa_cons (pv 0) pa_nil)) (nomark _)) (pss_one (ps_expr (pe_bm PySem.F.plainAttrs_list PySem.F.slot_list_append PySem.F.type_list_append mt_append (pv 3) (pa_cons (pe_tup (pa_cons pe_int (pa_cons (pv 5) (pa_cons (pv 6) (pa_cons pe_int (pa_cons (pe_op op_add (pv 5) pe_int) (pa_cons (pv 6) (pa_cons pe_int pa_nil)))))))) pa_nil)))) pss_nil)
      (pss_cons (ps_if (pt_cmpR op_lt (pv 6) (pe_callB call_len (by rfl) T.len (by decide +kernel) (pa_cons (pv 1) pa_nil)) (nomark _)) (pss_one (ps_expr (pe_bm PySem.F.plainAttrs_list PySem.F.slot_list_append PySem.F.type_list_append mt_append (pv 3) (pa_cons (pe_tup (pa_cons pe_int (pa_cons (pv 5) (pa_cons (pv 6) (pa_cons pe_int (pa_cons (pv 5) (pa_cons (pe_op op_add (pv 6) pe_int) (pa_cons pe_int pa_nil)))))))) pa_nil)))) pss_nil)
      (pss_cons (ps_if (PW.pt (pw_and (pt_cmpR op_lt (pv 5) (pe_callB call_len (by rfl) T.len (by decide +kernel) (pa_cons (pv 0) pa_nil)) (nomark _)) (pw_and (pt_cmpR op_lt (pv 6) (pe_callB call_len (by rfl) T.len (by decide +kernel) (pa_cons (pv 1) pa_nil)) (nomark _)) (pw_and1 (pt_cmpR op_eq (pe_ix ix_str (pv 0) (pv 5) (fun _ _ => rfl)) (pe_ix ix_str (pv 1) (pv 6) (fun _ _ => rfl)) (nomark _)))))) (pss_one (ps_expr (pe_bm PySem.F.plainAttrs_list PySem.F.slot_list_append PySem.F.type_list_append mt_append (pv 3) (pa_cons (pe_tup (pa_cons pe_int (pa_cons (pv 5) (pa_cons (pv 6) (pa_cons pe_int (pa_cons (pe_op op_add (pv 5) pe_int) (pa_cons (pe_op op_add (pv 6) pe_int) (pa_cons pe_int pa_nil)))))))) pa_nil)))) pss_nil)
      (pss_one (ps_if (PW.pt (pw_and (pt_cmpR op_lt (pv 5) (pe_callB call_len (by rfl) T.len (by decide +kernel) (pa_cons (pv 0) pa_nil)) (nomark _)) (pw_and1 (pt_cmpR op_notN (pe_ix ix_list (pv 4) (pv 5) (fun _ _ => rfl)) pe_non (nomark _))))) (pss_one (ps_expr (pe_bm PySem.F.plainAttrs_list PySem.F.slot_list_append PySem.F.type_list_append mt_append (pv 3) (pa_cons (pe_tup (pa_cons pe_int (pa_cons (pv 5) (pa_cons (pv 6) (pa_cons pe_int (pa_cons (pe_ix ix_list (pv 4) (pv 5) (fun _ _ => rfl)) (pa_cons (pv 6) (pa_cons (pe_op op_add (pe_op op_sub (pe_ix ix_list (pv 4) (pv 5) (fun _ _ => rfl)) (pv 5)) (pv 2)) pa_nil)))))))) pa_nil)))) pss_nil)))))))))
      (pss_one (ps_ret (pv 3)))))), ?_⟩
    refine ⟨by show 0 ≤ sizeLine; decide, fun pl hpl => ?_⟩
    have sp := same_new (o := .lst []) hpl
    refine name_go ⟨_, rfl, x, rfl, by omega, fun b es H1 hb hb1 el le s1 => ?_⟩
    refine name_go ⟨_, rfl, _, _, rfl, ⟨xl, rfl⟩, _, _, rfl, rfl, _, rfl, by omega, by omega, ?_⟩
    have en : ((((x.length : Nat) : Int) + 1)).toNat = x.length + 1 := by omega
    have em : ((((y.length : Nat) : Int) + 1)).toNat = y.length + 1 := by omega
    have sH1 : Same H H1 := sp.trans s1
    have L0 : StL H1 pl [] := ⟨[], s1 _ _ upd_same, .nil⟩
    refine for_range (lo := 0) (fun i σ H' => ∃ (o5 o6 : Option V), σ = [some (.str x), some (.str y), some (.int (e : Nat)), some (.ref pl), some (.ref b), o5, o6] ∧ StL H' pl (stepsAll x y (leE x es) e i) ∧ H' b = some (.lst (es.map (endV x))) ∧ Same H H') ?_ ?_ ?_
    · exact ⟨_, _, rfl, L0, hb1, sH1⟩
    · rintro i σ H2 hi ⟨o5, o6, rfl, L2, hb2, s2⟩
      rw [en] at hi
      rw [show (0 : Int) + ((i : Nat) : Int) = ((i : Nat) : Int) from Int.zero_add _]
      dsimp only
      refine name_go ⟨_, rfl, _, _, rfl, ⟨yl, rfl⟩, _, _, rfl, rfl, _, rfl, by omega, by omega, ?_⟩
      refine for_range (lo := 0) (fun j σ H' => ∃ (o6 : Option V), σ = [some (.str x), some (.str y), some (.int (e : Nat)), some (.ref pl), some (.ref b), some (.int (i : Nat)), o6] ∧ StL H' pl (stepsAll x y (leE x es) e i ++ stepsRow x y (leE x es) e i j) ∧ H' b = some (.lst (es.map (endV x))) ∧ Same H H') ?_ ?_ ?_
      · refine ⟨_, rfl, ?_, hb2, s2⟩
        show StL H2 pl (stepsAll x y (leE x es) e i ++ [])
        rw [List.append_nil]
        exact L2
      · rintro j σ H3 hj ⟨o6, rfl, L3, hb3, s3⟩
        rw [em] at hj
        rw [show (0 : Int) + ((j : Nat) : Int) = ((j : Nat) : Int) from Int.zero_add _]
        have b1 := stepsAll_len (x := x) (y := y) (ends := leE x es) (e := e) (i := i)
        have b2 := stepsRow_len (x := x) (y := y) (ends := leE x es) (e := e) (i := i) (j := j)
        have b3 : i * (5 * (y.length + 1)) ≤ 100 * 505 := Nat.mul_le_mul (by omega) (by omega)
        generalize hA : stepsAll x y (leE x es) e i ++ stepsRow x y (leE x es) e i j = A at L3
        have lA : A.length ≤ 51005 := by rw [← hA, List.length_append]; omega
        refine name_go ?_
        dsimp only
        have one : ∀ (p : Prop) [Decidable p] (s : Step7), (if p then [s] else []).length ≤ 1 := fun p _ s => by split <;> simp
        have nb : b ≠ pl := fun z => by rw [z, upd_same] at hb; cases hb
        refine seq_mid (fun σ H' => σ = [some (.str x), some (.str y), some (.int (e : Nat)), some (.ref pl), some (.ref b), some (.int (i : Nat)), some (.int (j : Nat))] ∧ StL H' pl (A ++ [⟨2, i, j, 1, i, j, 0⟩]) ∧ H' b = some (.lst (es.map (endV x))) ∧ Same H H') (fun D' hD' => ?_) (fun σ H4 hm => ?_)
        · obtain ⟨xs, e1, _⟩ := L3.ex
          exact ⟨_, rfl, .inl ⟨rfl, _, SqL.of e1⟩, _, rfl, _, rfl, _, rfl, _, rfl, by show 7 ≤ sizeLine; decide, fun t ht => app7 (Q := fun _ H' => D'.nx [some (.str x), some (.str y), some (.int (e : Nat)), some (.ref pl), some (.ref b), some (.int (i : Nat)), some (.int (j : Nat))] H') ⟨2, i, j, 1, i, j, 0⟩ L3 hb3 nb s3 hpl (by omega) (fun H' f1 f2 f3 => hD' _ _ ⟨rfl, f1, f2, f3⟩) t ht⟩
        obtain ⟨rfl, L4, hb4, s4⟩ := hm
        have l4 : (A ++ [(⟨2, i, j, 1, i, j, 0⟩ : Step7)]).length ≤ 51006 := by rw [List.length_append, List.length_singleton]; omega
        generalize hA2 : A ++ [⟨2, i, j, 1, i, j, 0⟩] = A2 at L4 l4
        clear L3 hb3 s3
        refine seq_mid (fun σ H' => σ = [some (.str x), some (.str y), some (.int (e : Nat)), some (.ref pl), some (.ref b), some (.int (i : Nat)), some (.int (j : Nat))] ∧ StL H' pl (A2 ++ (if i < x.length then [⟨2, i, j, 2, i + 1, j, 1⟩] else [])) ∧ H' b = some (.lst (es.map (endV x))) ∧ Same H H') (fun D' hD' => ?_) (fun σ H4 hm => ?_)
        · refine lt_by xl (K := K) rfl rfl _ ?_
          by_cases c : i < x.length
          · rw [decide_eq_true c]
            refine iteT ?_
            obtain ⟨xs, e1, _⟩ := L4.ex
            exact ⟨_, rfl, .inl ⟨rfl, _, SqL.of e1⟩, _, rfl, _, rfl, _, rfl, _, _, rfl, rfl, _, rfl, by show 7 ≤ sizeLine; decide, fun t ht => app7 (Q := fun _ H' => D'.nx [some (.str x), some (.str y), some (.int (e : Nat)), some (.ref pl), some (.ref b), some (.int (i : Nat)), some (.int (j : Nat))] H') ⟨2, i, j, 2, i + 1, j, 1⟩ L4 hb4 nb s4 hpl (by omega) (fun H' f1 f2 f3 => hD' _ _ ⟨rfl, by rw [if_pos c]; exact f1, f2, f3⟩) t ht⟩
          · rw [decide_eq_false c]
            exact iteF (hD' _ _ ⟨rfl, by rw [if_neg c, List.append_nil]; exact L4, hb4, s4⟩)
        obtain ⟨rfl, L5, hb5, s5⟩ := hm
        have l5 : (A2 ++ (if i < x.length then [(⟨2, i, j, 2, i + 1, j, 1⟩ : Step7)] else [])).length ≤ 51007 := by have := one (i < x.length) ⟨2, i, j, 2, i + 1, j, 1⟩; rw [List.length_append]; omega
        generalize hA3 : A2 ++ (if i < x.length then [⟨2, i, j, 2, i + 1, j, 1⟩] else []) = A3 at L5 l5
        clear L4 hb4 s4
        refine seq_mid (fun σ H' => σ = [some (.str x), some (.str y), some (.int (e : Nat)), some (.ref pl), some (.ref b), some (.int (i : Nat)), some (.int (j : Nat))] ∧ StL H' pl (A3 ++ (if j < y.length then [(⟨2, i, j, 2, i, j + 1, 1⟩ : Step7)] else [])) ∧ H' b = some (.lst (es.map (endV x))) ∧ Same H H') (fun D' hD' => ?_) (fun σ H5 hm => ?_)
        · refine lt_by yl (K := K) rfl rfl _ ?_
          by_cases c : j < y.length
          · rw [decide_eq_true c]
            refine iteT ?_
            obtain ⟨xs, e1, _⟩ := L5.ex
            exact ⟨_, rfl, .inl ⟨rfl, _, SqL.of e1⟩, _, rfl, _, rfl, _, rfl, _, rfl, _, _, rfl, rfl, by show 7 ≤ sizeLine; decide, fun t ht => app7 (Q := fun _ H' => D'.nx [some (.str x), some (.str y), some (.int (e : Nat)), some (.ref pl), some (.ref b), some (.int (i : Nat)), some (.int (j : Nat))] H') ⟨2, i, j, 2, i, j + 1, 1⟩ L5 hb5 nb s5 hpl (by omega) (fun H' f1 f2 f3 => hD' _ _ ⟨rfl, by rw [if_pos c]; exact f1, f2, f3⟩) t ht⟩
          · rw [decide_eq_false c]
            exact iteF (hD' _ _ ⟨rfl, by rw [if_neg c, List.append_nil]; exact L5, hb5, s5⟩)
        obtain ⟨rfl, L6, hb6, s6⟩ := hm
        have l6 : (A3 ++ (if j < y.length then [(⟨2, i, j, 2, i, j + 1, 1⟩ : Step7)] else [])).length ≤ 51008 := by have := one (j < y.length) ⟨2, i, j, 2, i, j + 1, 1⟩; rw [List.length_append]; omega
        generalize hA4 : A3 ++ (if j < y.length then [(⟨2, i, j, 2, i, j + 1, 1⟩ : Step7)] else []) = A4 at L6 l6
        clear L5 hb5 s5
        refine seq_mid (fun σ H' => σ = [some (.str x), some (.str y), some (.int (e : Nat)), some (.ref pl), some (.ref b), some (.int (i : Nat)), some (.int (j : Nat))] ∧ StL H' pl (A4 ++ (if i < x.length ∧ j < y.length ∧ x.cps.toList[i]? = y.cps.toList[j]? then [(⟨1, i, j, 1, i + 1, j + 1, 0⟩ : Step7)] else [])) ∧ H' b = some (.lst (es.map (endV x))) ∧ Same H H') (fun D' hD' => ?_) (fun σ H6 hm => ?_)
        · refine and_by (p := i < x.length) (q := j < y.length ∧ x.cps.toList[i]? = y.cps.toList[j]?) (lt_by xl (K := K) rfl rfl) (fun ci k' q => and_by (p := j < y.length) (q := x.cps.toList[i]? = y.cps.toList[j]?) (lt_by yl (K := K) rfl rfl) (fun cj k' q => ?_) q) ?_
          · obtain ⟨c1, g1⟩ : ∃ c, x.cps.toList[i]? = some c := ⟨x.cps.toList[i]'(by omega), List.getElem?_eq_getElem (by omega)⟩
            obtain ⟨c2, g2⟩ : ∃ c, y.cps.toList[j]? = some c := ⟨y.cps.toList[j]'(by omega), List.getElem?_eq_getElem (by omega)⟩
            refine ⟨_, rfl, _, rfl, x, _, c1, rfl, rfl, xl, atI_nat g1, _, rfl, _, rfl, y, _, c2, rfl, rfl, yl, atI_nat g2, rfl, _, rfl, ?_⟩
            rw [show decide (V.str ⟨#[c1]⟩ = V.str ⟨#[c2]⟩) = decide (x.cps.toList[i]? = y.cps.toList[j]?) from decide_eq_decide.mpr ⟨fun z => by rw [g1, g2]; cases z; rfl, fun z => by rw [g1, g2] at z; cases z; rfl⟩]
            exact q
          by_cases c : i < x.length ∧ j < y.length ∧ x.cps.toList[i]? = y.cps.toList[j]?
          · rw [decide_eq_true c]
            refine iteT ?_
            obtain ⟨xs, e1, _⟩ := L6.ex
            exact ⟨_, rfl, .inl ⟨rfl, _, SqL.of e1⟩, _, rfl, _, rfl, _, rfl, _, _, rfl, rfl, _, rfl, _, _, rfl, rfl, by show 7 ≤ sizeLine; decide, fun t ht => app7 (Q := fun _ H' => D'.nx [some (.str x), some (.str y), some (.int (e : Nat)), some (.ref pl), some (.ref b), some (.int (i : Nat)), some (.int (j : Nat))] H') ⟨1, i, j, 1, i + 1, j + 1, 0⟩ L6 hb6 nb s6 hpl (by omega) (fun H' f1 f2 f3 => hD' _ _ ⟨rfl, by rw [if_pos c]; exact f1, f2, f3⟩) t ht⟩
          · rw [decide_eq_false c]
            exact iteF (hD' _ _ ⟨rfl, by rw [if_neg c, List.append_nil]; exact L6, hb6, s6⟩)
        obtain ⟨rfl, L7, hb7, s7⟩ := hm
        have l7 : (A4 ++ (if i < x.length ∧ j < y.length ∧ x.cps.toList[i]? = y.cps.toList[j]? then [(⟨1, i, j, 1, i + 1, j + 1, 0⟩ : Step7)] else [])).length ≤ 51009 := by have := one (i < x.length ∧ j < y.length ∧ x.cps.toList[i]? = y.cps.toList[j]?) ⟨1, i, j, 1, i + 1, j + 1, 0⟩; rw [List.length_append]; omega
        generalize hA5 : A4 ++ (if i < x.length ∧ j < y.length ∧ x.cps.toList[i]? = y.cps.toList[j]? then [(⟨1, i, j, 1, i + 1, j + 1, 0⟩ : Step7)] else []) = A5 at L7 l7
        clear L6 hb6 s6
        have fin : ∀ L : List Step7, (match leE x es i with | some t => if i < x.length then [(⟨1, i, j, 2, t, j, t - i + e⟩ : Step7)] else [] | none => []) = L → stepsAll x y (leE x es) e i ++ stepsRow x y (leE x es) e i (j + 1) = A5 ++ L := fun L hL => by
          rw [stepsRow_snoc, ← List.append_assoc, hA, ← hA5, ← hA4, ← hA3, ← hA2]
          unfold stepsAt
          rw [hL]
          simp only [List.append_assoc]
        refine and_by (p := i < x.length) (q := (leE x es i).isSome = true) (lt_by xl (K := K) rfl rfl) (fun ci k' q => ?_) ?_
        · obtain ⟨w0, hw⟩ : ∃ w0, es[i]? = some w0 := ⟨es[i]'(by omega), List.getElem?_eq_getElem (by omega)⟩
          have at1 : atI (es.map (endV x)) ((i : Nat) : Int) = some (endV x w0) := atI_nat (by rw [List.getElem?_map, hw]; rfl)
          refine ⟨_, rfl, _, rfl, b, _, _, _, rfl, rfl, SqL.of hb7, at1, rfl, _, rfl, ?_⟩
          have lE : leE x es i = if w0 ≤ x.length then some w0 else none := by unfold leE; rw [hw]
          rw [lE] at q
          by_cases c : w0 ≤ x.length
          · rw [if_pos c] at q
            rw [show endV x w0 = .int (w0 : Nat) from if_pos c, int_non']
            exact q
          · rw [if_neg c] at q
            rw [show endV x w0 = .non from if_neg c, non_non']
            exact q
        by_cases c : i < x.length ∧ (leE x es i).isSome = true
        · rw [decide_eq_true c]
          obtain ⟨ci, cs⟩ := c
          obtain ⟨w0, hw⟩ : ∃ w0, es[i]? = some w0 := ⟨es[i]'(by omega), List.getElem?_eq_getElem (by omega)⟩
          have lE : leE x es i = if w0 ≤ x.length then some w0 else none := by unfold leE; rw [hw]
          have c : w0 ≤ x.length := Decidable.byContradiction fun z => by rw [lE, if_neg z] at cs; cases cs
          rw [if_pos c] at lE
          have at1 : atI (es.map (endV x)) ((i : Nat) : Int) = some (.int (w0 : Nat)) := atI_nat (by rw [List.getElem?_map, hw]; exact congrArg some (if_pos c))
          have gt := (le i w0 hw).gt
          refine iteT ?_
          obtain ⟨xs, e1, _⟩ := L7.ex
          refine ⟨_, rfl, .inl ⟨rfl, _, SqL.of e1⟩, _, rfl, _, rfl, _, rfl, _, rfl, b, _, _, _, rfl, rfl, SqL.of hb7, at1, _, rfl, _, rfl, _, rfl, b, _, _, _, rfl, rfl, SqL.of hb7, at1, _, rfl, _, _, rfl, rfl, _, rfl, _, _, rfl, rfl, by show 7 ≤ sizeLine; decide, fun t ht => ?_⟩
          dsimp only
          rw [show ((w0 : Nat) : Int) - ((i : Nat) : Int) + ((e : Nat) : Int) = ((w0 - i + e : Nat) : Int) by omega]
          refine app7 (Q := fun _ H' => ∃ o6 : Option V, [some (.str x), some (.str y), some (.int (e : Nat)), some (.ref pl), some (.ref b), some (.int (i : Nat)), some (.int (j : Nat))] = [some (.str x), some (.str y), some (.int (e : Nat)), some (.ref pl), some (.ref b), some (.int (i : Nat)), o6] ∧ StL H' pl (stepsAll x y (leE x es) e i ++ stepsRow x y (leE x es) e i (j + 1)) ∧ H' b = some (.lst (es.map (endV x))) ∧ Same H H') ⟨1, i, j, 2, w0, j, w0 - i + e⟩ L7 hb7 nb s7 hpl (by omega) (fun H' f1 f2 f3 => ⟨_, rfl, ?_, f2, f3⟩) t ht
          rw [fin [⟨1, i, j, 2, w0, j, w0 - i + e⟩] (by rw [lE]; exact if_pos ci)]
          exact f1
        · rw [decide_eq_false c]
          refine iteF ⟨_, rfl, ?_, hb7, s7⟩
          rw [fin [] ?_, List.append_nil]
          · exact L7
          · cases q : leE x es i with
            | none => rfl
            | some t => exact if_neg fun z => c ⟨z, by rw [q]; rfl⟩
      · rintro σ H3 ⟨o6, rfl, L3, hb3, s3⟩
        rw [em, ← stepsAll_snoc] at L3
        exact ⟨_, _, rfl, L3, hb3, s3⟩
    · rintro σ H2 ⟨o5, o6, rfl, L2, hb2, s2⟩
      rw [en] at L2
      exact ⟨_, rfl, k pl es H2 el le L2 s2⟩
end
end Vk
set_option Elab.async false
set_option maxRecDepth 100000
set_option linter.all false
set_option maxHeartbeats 4000000
namespace Vk
open PySem PySem.Spec PyProof.Rows L2 StX
def gi (c : List Int) (j : Nat) : Int := c[j]?.getD 0
theorem at0 {a : V} {l : List V} : atI (a :: l) (0 : Int) = some a := atI_nat (j := 0) rfl
theorem at1 {a b : V} {l : List V} : atI (a :: b :: l) (1 : Int) = some b := atI_nat (j := 1) rfl
theorem gi_at {c : List Int} {j : Nat} (h : j < c.length) : atI (c.map V.int) ((j : Nat) : Int) = some (.int (gi c j)) := atI_nat (by
  unfold gi
  rw [List.getElem?_map, List.getElem?_eq_getElem h]
  rfl)
theorem ent_gi {L : List (List Int)} {i : Nat} {c : List Int} (h : L[i]? = some c) (j : Nat) : ent L i j = gi c j := by
  unfold ent gi
  rw [h]
  rfl
theorem gi_end {c : List Int} {n : Nat} (h : c.length = n + 1) : atI (c.map V.int) (-1) = some (.int (gi c n)) := atI_end (n := n) (by
  unfold gi
  rw [List.getElem?_map, List.getElem?_eq_getElem (by omega)]
  rfl) (by rw [List.length_map]; exact h)
theorem GridL.row {H : Hp} {n m : Nat} {v : V} {L : List (List Int)} (g : GridL H n m v L) {t : Addr} {rows : List V} (e : v = .ref t) (ht : H t = some (.tup rows)) {i : Nat} (hi : i < n) : ∃ u c, rows[i]? = some (.ref u) ∧ H u = some (.tup (c.map V.int)) ∧ L[i]? = some c ∧ c.length = m := by
  obtain ⟨rows2, h1, h2, h3⟩ := g
  cases h1.inj ⟨t, e, ht⟩
  have gl := paired_len h2
  obtain ⟨v, hv⟩ : ∃ v, rows[i]? = some v := ⟨rows[i]'(by omega), List.getElem?_eq_getElem (by omega)⟩
  obtain ⟨c, hc, ⟨u, rfl, hu⟩, hl⟩ := paired_at h2 hv
  exact ⟨u, c, hv, hu, hc, hl⟩
theorem GridL.size {H : Hp} {n m : Nat} {v : V} {L : List (List Int)} (g : GridL H n m v L) {t : Addr} {rows : List V} (e : v = .ref t) (ht : H t = some (.tup rows)) : rows.length = n := by
  obtain ⟨rows2, h1, h2, h3⟩ := g
  cases h1.inj ⟨t, e, ht⟩
  rw [paired_len h2, h3]

theorem GridL.at {H : Hp} {n m : Nat} {g : Addr} {L : List (List Int)} (gr : GridL H (n + 1) (m + 1) (.ref g) L) {i j : Nat} (hi : i ≤ n) (hj : j ≤ m) : ∃ (rows : List V) (u : Addr) (c : List Int), H g = some (.tup rows) ∧ atI rows ((i : Nat) : Int) = some (.ref u) ∧ H u = some (.tup (c.map V.int)) ∧ atI (c.map V.int) ((j : Nat) : Int) = some (.int (ent L i j)) := by
  obtain ⟨rows, ⟨g', e, hg⟩, _⟩ := id gr
  cases e
  obtain ⟨u, c, h1, h2, h3, h4⟩ := gr.row rfl hg (i := i) (by omega)
  exact ⟨rows, u, c, hg, atI_nat h1, h2, by rw [ent_gi h3]; exact gi_at (by omega)⟩
theorem GridL.last {H : Hp} {n m : Nat} {g : Addr} {L : List (List Int)} (gr : GridL H (n + 1) (m + 1) (.ref g) L) : ∃ (rows : List V) (u : Addr) (c : List Int), H g = some (.tup rows) ∧ atI rows (-1) = some (.ref u) ∧ H u = some (.tup (c.map V.int)) ∧ atI (c.map V.int) (-1) = some (.int (ent L n m)) := by
  obtain ⟨rows, ⟨g', e, hg⟩, _⟩ := id gr
  cases e
  have sz := gr.size rfl hg
  obtain ⟨u, c, h1, h2, h3, h4⟩ := gr.row rfl hg (i := n) (by omega)
  exact ⟨rows, u, c, hg, atI_end h1 (by omega), h2, by rw [ent_gi h3]; exact gi_end h4⟩
theorem GridL.ref {H : Hp} {n m : Nat} {v : V} {L : List (List Int)} (gr : GridL H n m v L) : ∃ g, v = .ref g := by
  obtain ⟨rows, ⟨g, e, hg⟩, _⟩ := gr
  exact ⟨g, e⟩
/-- the grid of a number: 1 the kept letters, 2 the windows -/
def sel (A F : List (List Int)) (k : Nat) : List (List Int) := if k = 1 then A else F
def Sat (A F : List (List Int)) (s : Step7) : Prop := ent (sel A F s.kb) s.ib s.jb ≤ ent (sel A F s.k) s.i s.j + (s.c : Nat)
structure StepOk (x y : Str) (s : Step7) : Prop where
  k : s.k = 1 ∨ s.k = 2
  kb : s.kb = 1 ∨ s.kb = 2
  i : s.i ≤ x.length
  j : s.j ≤ y.length
  ib : s.ib ≤ x.length
  jb : s.jb ≤ y.length
theorem mem_if {p : Prop} [Decidable p] {s t : Step7} (h : s ∈ (if p then [t] else [])) : p ∧ s = t := by
  split at h
  · rename_i q
    exact ⟨q, List.mem_singleton.mp h⟩
  · cases h
theorem stepsAt_mem {x y : Str} {ends : Nat → Option Nat} {e i j : Nat} {s : Step7} : s ∈ stepsAt x y ends e i j ↔ s = ⟨2, i, j, 1, i, j, 0⟩ ∨ (i < x.length ∧ s = ⟨2, i, j, 2, i + 1, j, 1⟩) ∨ (j < y.length ∧ s = ⟨2, i, j, 2, i, j + 1, 1⟩) ∨ ((i < x.length ∧ j < y.length ∧ x.cps.toList[i]? = y.cps.toList[j]?) ∧ s = ⟨1, i, j, 1, i + 1, j + 1, 0⟩) ∨ ∃ t, ends i = some t ∧ i < x.length ∧ s = ⟨1, i, j, 2, t, j, t - i + e⟩ := by
  unfold stepsAt
  rw [List.mem_append, List.mem_append, List.mem_append, List.mem_append, List.mem_singleton]
  constructor
  · rintro ((((h | h) | h) | h) | h)
    · exact .inl h
    · exact .inr (.inl (mem_if h))
    · exact .inr (.inr (.inl (mem_if h)))
    · exact .inr (.inr (.inr (.inl (mem_if h))))
    · cases q : ends i with
      | none => rw [q] at h; cases h
      | some t =>
        rw [q] at h
        exact .inr (.inr (.inr (.inr ⟨t, rfl, mem_if h⟩)))
  · rintro (h | ⟨c, h⟩ | ⟨c, h⟩ | ⟨c, h⟩ | ⟨t, q, c, h⟩)
    · exact .inl (.inl (.inl (.inl h)))
    · exact .inl (.inl (.inl (.inr (by rw [if_pos c]; exact List.mem_singleton.mpr h))))
    · exact .inl (.inl (.inr (by rw [if_pos c]; exact List.mem_singleton.mpr h)))
    · exact .inl (.inr (by rw [if_pos c]; exact List.mem_singleton.mpr h))
    · refine .inr ?_
      rw [q]
      show s ∈ (if i < x.length then _ else _)
      rw [if_pos c]
      exact List.mem_singleton.mpr h
theorem stepsAll_mem {x y : Str} {ends : Nat → Option Nat} {e n : Nat} {s : Step7} : s ∈ stepsAll x y ends e n ↔ ∃ i j, i < n ∧ j < y.length + 1 ∧ s ∈ stepsAt x y ends e i j := by
  unfold stepsAll stepsRow
  constructor
  · intro h
    obtain ⟨l, hl, hs⟩ := List.mem_flatten.mp h
    obtain ⟨i, hi, rfl⟩ := List.mem_map.mp hl
    obtain ⟨l2, hl2, hs2⟩ := List.mem_flatten.mp hs
    obtain ⟨j, hj, rfl⟩ := List.mem_map.mp hl2
    exact ⟨i, j, List.mem_range.mp hi, List.mem_range.mp hj, hs2⟩
  · rintro ⟨i, j, hi, hj, h⟩
    exact List.mem_flatten.mpr ⟨_, List.mem_map.mpr ⟨i, List.mem_range.mpr hi, rfl⟩, List.mem_flatten.mpr ⟨_, List.mem_map.mpr ⟨j, List.mem_range.mpr hj, rfl⟩, h⟩⟩
theorem leE_end {x : Str} {es : List Nat} (el : es.length = x.length) (le : ∀ i e, es[i]? = some e → Lend x i e) {i t : Nat} : leE x es i = some t ↔ EndX x i t := by
  rw [leE_es]
  constructor
  · rintro ⟨h1, h2⟩
    exact ⟨le i t h1, h2⟩
  · rintro ⟨h1, h2⟩
    have gt := h1.gt
    have hw : es[i]? = some (es[i]'(by omega)) := List.getElem?_eq_getElem (by omega)
    rw [lend_uniq h1 (le i _ hw)]
    exact ⟨hw, by rw [← lend_uniq h1 (le i _ hw)]; exact h2⟩
theorem steps_ok {x y : Str} {es : List Nat} (el : es.length = x.length) (le : ∀ i e, es[i]? = some e → Lend x i e) {e : Nat} {s : Step7} (h : s ∈ stepsAll x y (leE x es) e (x.length + 1)) : StepOk x y s := by
  obtain ⟨i, j, hi, hj, h⟩ := stepsAll_mem.mp h
  rcases stepsAt_mem.mp h with rfl | ⟨c, rfl⟩ | ⟨c, rfl⟩ | ⟨⟨c1, c2, _⟩, rfl⟩ | ⟨t, q, c, rfl⟩
  · exact ⟨.inr rfl, .inl rfl, by show i ≤ _; omega, by show j ≤ _; omega, by show i ≤ _; omega, by show j ≤ _; omega⟩
  · exact ⟨.inr rfl, .inr rfl, by show i ≤ _; omega, by show j ≤ _; omega, by show i + 1 ≤ _; omega, by show j ≤ _; omega⟩
  · exact ⟨.inr rfl, .inr rfl, by show i ≤ _; omega, by show j ≤ _; omega, by show i ≤ _; omega, by show j + 1 ≤ _; omega⟩
  · exact ⟨.inl rfl, .inl rfl, by show i ≤ _; omega, by show j ≤ _; omega, by show i + 1 ≤ _; omega, by show j + 1 ≤ _; omega⟩
  · have := ((leE_end el le).mp q).2
    exact ⟨.inl rfl, .inr rfl, by show i ≤ _; omega, by show j ≤ _; omega, by show t ≤ _; omega, by show j ≤ _; omega⟩
theorem steps_low {x y : Str} {es : List Nat} (el : es.length = x.length) (le : ∀ i e, es[i]? = some e → Lend x i e) {e : Nat} {A F : List (List Int)} : (∀ s ∈ stepsAll x y (leE x es) e (x.length + 1), Sat A F s) ↔ Low A F x y e := by
  constructor
  · intro h i j hi hj
    have at' : ∀ s ∈ stepsAt x y (leE x es) e i j, Sat A F s := fun s hs => h s (stepsAll_mem.mpr ⟨i, j, by omega, by omega, hs⟩)
    refine ⟨?_, fun c => ?_, fun c => ?_, fun c1 c2 c3 => ?_, fun t ht => ?_⟩
    · have q : ent A i j ≤ ent F i j + ((0 : Nat) : Int) := at' _ (stepsAt_mem.mpr (.inl rfl))
      omega
    · have q : ent F (i + 1) j ≤ ent F i j + ((1 : Nat) : Int) := at' _ (stepsAt_mem.mpr (.inr (.inl ⟨c, rfl⟩)))
      omega
    · have q : ent F i (j + 1) ≤ ent F i j + ((1 : Nat) : Int) := at' _ (stepsAt_mem.mpr (.inr (.inr (.inl ⟨c, rfl⟩))))
      omega
    · have q : ent A (i + 1) (j + 1) ≤ ent A i j + ((0 : Nat) : Int) := at' _ (stepsAt_mem.mpr (.inr (.inr (.inr (.inl ⟨⟨c1, c2, c3⟩, rfl⟩)))))
      omega
    · have gt := ht.1.gt
      have tl := ht.2
      have q : ent F t j ≤ ent A i j + ((t - i + e : Nat) : Int) := at' _ (stepsAt_mem.mpr (.inr (.inr (.inr (.inr ⟨t, (leE_end el le).mpr ht, by omega, rfl⟩)))))
      omega
  · intro h s hs
    obtain ⟨i, j, hi, hj, hs⟩ := stepsAll_mem.mp hs
    obtain ⟨a1, a2, a3, a4, a5⟩ := h i j (by omega) (by omega)
    rcases stepsAt_mem.mp hs with rfl | ⟨c, rfl⟩ | ⟨c, rfl⟩ | ⟨⟨c1, c2, c3⟩, rfl⟩ | ⟨t, q, c, rfl⟩
    · show ent A i j ≤ ent F i j + ((0 : Nat) : Int)
      omega
    · show ent F (i + 1) j ≤ ent F i j + ((1 : Nat) : Int)
      have := a2 c
      omega
    · show ent F i (j + 1) ≤ ent F i j + ((1 : Nat) : Int)
      have := a3 c
      omega
    · show ent A (i + 1) (j + 1) ≤ ent A i j + ((0 : Nat) : Int)
      have := a4 c1 c2 c3
      omega
    · have ht := (leE_end el le).mp q
      have gt := ht.1.gt
      have := a5 t ht
      show ent F t j ≤ ent A i j + ((t - i + e : Nat) : Int)
      omega
end Vk
set_option Elab.async false
set_option maxRecDepth 100000
set_option linter.all false
set_option maxHeartbeats 4000000
namespace Vk
open PySem PySem.Spec PyProof.Rows L2 StX
theorem v_of {σ : L2.St} {H : Hp} {n : Nat} {v : V} (h : σ[n]? = some (some v)) : ∀ Q : VK, Q v H → tVar n σ H Q := fun Q q => ⟨v, h, q⟩
theorem c_of {σ : L2.St} {H : Hp} {v : V} : ∀ Q : VK, Q v H → tC v σ H Q := fun Q q => q
theorem m1_of {σ : L2.St} {H : Hp} : ∀ Q : VK, Q (.int (-1)) H → tUn (rU fun i => V.int (-i)) (tC (.int 1)) σ H Q := fun Q q => ⟨_, rfl, q⟩
theorem gt_by {σ : L2.St} {H : Hp} {ta tb : TE} {a b : Int} (h1 : ∀ Q : VK, Q (.int a) H → ta σ H Q) (h2 : ∀ Q : VK, Q (.int b) H → tb σ H Q) : ∀ k' : Bool → Hp → Prop, k' (decide (b < a)) H → tTest (tOp (rI0 fun i j => V.bl (decide (j < i))) ta tb) σ H k' := fun k' q => h1 _ (h2 _ ⟨_, _, rfl, rfl, _, rfl, q⟩)
theorem add_by {σ : L2.St} {H : Hp} {ta tb : TE} {a b : Int} (h1 : ∀ Q : VK, Q (.int a) H → ta σ H Q) (h2 : ∀ Q : VK, Q (.int b) H → tb σ H Q) : ∀ Q : VK, Q (.int (a + b)) H → tOp (rI0 fun i j => V.int (i + j)) ta tb σ H Q := fun Q q => h1 _ (h2 _ ⟨_, _, rfl, rfl, q⟩)
theorem sub_by {σ : L2.St} {H : Hp} {ta tb : TE} {a b : Int} (h1 : ∀ Q : VK, Q (.int a) H → ta σ H Q) (h2 : ∀ Q : VK, Q (.int b) H → tb σ H Q) : ∀ Q : VK, Q (.int (a - b)) H → tOp (rI0 fun i j => V.int (i - j)) ta tb σ H Q := fun Q q => h1 _ (h2 _ ⟨_, _, rfl, rfl, q⟩)
theorem ne_by {σ : L2.St} {H : Hp} {ta tb : TE} {a b : Int} (h1 : ∀ Q : VK, Q (.int a) H → ta σ H Q) (h2 : ∀ Q : VK, Q (.int b) H → tb σ H Q) : ∀ k' : Bool → Hp → Prop, k' (decide (a ≠ b)) H → tTest (tOp rNe ta tb) σ H k' := fun k' q => h1 _ (h2 _ ⟨rfl, _, rfl, by
  rw [show (!decide (V.int a = V.int b)) = decide (a ≠ b) by
    by_cases c : a = b
    · rw [c]; simp
    · rw [decide_eq_false fun z => c (V.int.inj z), decide_eq_true c]; rfl]
  exact q⟩)
theorem ix_by {K : PySem.W.Frag} {σ : L2.St} {H : Hp} {tv tk : TE} {t : Addr} {xs : List V} {k : Int} {v : V} (ht : H t = some (.tup xs)) (e : atI xs k = some v) (h0 : ∀ Q : VK, Q (.ref t) H → tv σ H Q) (h1 : ∀ Q : VK, Q (.int k) H → tk σ H Q) : ∀ Q : VK, Q v H → tOp (rIxT K) tv tk σ H Q := fun Q q => h0 _ (h1 _ ⟨t, xs, k, v, rfl, rfl, SqT.of ht, e, q⟩)
theorem ent_by {K : PySem.W.Frag} {σ : L2.St} {H : Hp} {tg ti tj : TE} {g : Addr} {L : List (List Int)} {n m i j : Nat} (gr : GridL H (n + 1) (m + 1) (.ref g) L) (hi : i ≤ n) (hj : j ≤ m) (h0 : ∀ Q : VK, Q (.ref g) H → tg σ H Q) (h1 : ∀ Q : VK, Q (.int (i : Nat)) H → ti σ H Q) (h2 : ∀ Q : VK, Q (.int (j : Nat)) H → tj σ H Q) : ∀ Q : VK, Q (.int (ent L i j)) H → tOp (rIxT K) (tOp (rIxT K) tg ti) tj σ H Q := by
  obtain ⟨rows, u, c, a1, a2, a3, a4⟩ := gr.at hi hj
  exact ix_by a3 a4 (ix_by a1 a2 h0 h1) h2
theorem end_by {K : PySem.W.Frag} {σ : L2.St} {H : Hp} {tg : TE} {g : Addr} {L : List (List Int)} {n m : Nat} (gr : GridL H (n + 1) (m + 1) (.ref g) L) (h0 : ∀ Q : VK, Q (.ref g) H → tg σ H Q) : ∀ Q : VK, Q (.int (ent L n m)) H → tOp (rIxT K) (tOp (rIxT K) tg (tUn (rU fun i => V.int (-i)) (tC (.int 1)))) (tUn (rU fun i => V.int (-i)) (tC (.int 1))) σ H Q := by
  obtain ⟨rows, u, c, a1, a2, a3, a4⟩ := gr.last
  exact ix_by a3 a4 (ix_by a1 a2 h0 m1_of) m1_of
theorem at2 {a b c : V} {l : List V} : atI (a :: b :: c :: l) (2 : Int) = some c := atI_nat (j := 2) rfl
section
variable {P : Program} {w : World} {K : PySem.W.Frag} {mg : Str → Option Value} {base : Heap}
def spIsPr : Sp := fun vs H Q _ => ∃ (x y : Str) (tot : Int) (v : V) (e B : Nat), vs = [.str x, .str y, .int tot, v, .int (e : Nat)] ∧ IsV H B 3 v ∧ B ≤ 5000 ∧ x.length ≤ 100 ∧ y.length ≤ 100 ∧ ∀ b H', Same H H' → (b = true ↔ PriP H x y e tot v) → Q (.bl b) H'
theorem PriP.three {H : Hp} {x y : Str} {e : Nat} {tot : Int} {v : V} {xs : List V} (h : PriP H x y e tot v) (t : TupV H v xs) : ∃ a f A F, xs = [.str "prices", a, f] ∧ GridL H (x.length + 1) (y.length + 1) a A ∧ GridL H (x.length + 1) (y.length + 1) f F ∧ PricesL A F x y e tot := by
  obtain ⟨a, f, A, F, h1, h2, h3, h4⟩ := h
  exact ⟨a, f, A, F, t.inj h1, h2, h3, h4⟩
abbrev s_is_prices : Stmt := top 13
theorem sc_is_prices : FnScope ["one", "other", "number", "value", "each", "kind", "i", "j", "kind_behind", "i_behind", "j_behind", "cost"] ["one", "other", "number", "value", "each"] (defScope s_is_prices) := ⟨rfl, rfl, rfl, by decide +kernel, rfl, by decide +kernel, by decide +kernel⟩
theorem b_is_prices {f : Addr} {fd : FuncData} (F : Fun K "is_prices" "is_prices" s_is_prices f fd) (T : Txt mg) (c_is_grid : CalG P w K mg base CX0 2 "is_grid" spGridG) (c_steps_on : CalG P w K mg base CX0 3 "steps_on" spSteps) : FnG P w K mg base CX0 4 f fd ["one", "other", "number", "value", "each"] spIsPr := by
  refine okG0 F sc_is_prices (fun vs H Q E h => ?_) (fun cdv A outer s H vs Q E hg hr h => ?_)
  · obtain ⟨x, y, tot, v, e, B, rfl, _⟩ := h
    rfl
  · have hu := hu_of hr
    have hu64 := hr.units
    obtain ⟨x, y, tot, v, e, B, rfl, iv, hB, hx, hy, k⟩ := h
    have xl : x.length ≤ sizeLine := Nat.le_of_lt (fewL (by omega))
    have yl : y.length ≤ sizeLine := Nat.le_of_lt (fewL (by omega))
    obtain ⟨ty, tyx, ⟨bt, kt, ht1, ht0⟩, _⟩ := kit_any (K := K) iv
    refine ⟨_, (pss_cons (ps_if (PW.pt (pw_or (pt_not (pt_val (pe_callB call_isi (by rfl) T.isinstance (by decide +kernel) (pa_cons (pv 3) (pa_cons (pe_bltn (v := .ty "tuple") (by rfl) T.tuple rfl rfl) pa_nil))))) (pw_or (pt_cmpR op_ne (pe_callB call_len (by rfl) T.len (by decide +kernel) (pa_cons (pv 3) pa_nil)) pe_int (nomark _)) (pw_or1 (pt_cmpR (op_neAS hu64) (pe_ix ix_tup (pv 3) pe_int (fun _ _ => rfl)) pe_str (nomark _)))))) (pss_one (ps_ret pe_bl)) pss_nil)
      (pss_cons (ps_if (PW.pt (pw_or (pt_not (pt_val (pe_cG c_is_grid hg hr (by decide) pass0 (pa_cons (pe_ix ix_tup (pv 3) pe_int (fun _ _ => rfl)) (pa_cons (pe_op op_add (pe_callB call_len (by rfl) T.len (by decide +kernel) (pa_cons (pv 0) pa_nil)) pe_int) (pa_cons (pe_op op_add (pe_callB call_len (by rfl) T.len (by decide +kernel) (pa_cons (pv 1) pa_nil)) pe_int) pa_nil)))))) (pw_or1 (pt_not (pt_val (pe_cG c_is_grid hg hr (by decide) pass0 (pa_cons (pe_ix ix_tup (pv 3) pe_int (fun _ _ => rfl)) (pa_cons (pe_op op_add (pe_callB call_len (by rfl) T.len (by decide +kernel) (pa_cons (pv 0) pa_nil)) pe_int) (pa_cons (pe_op op_add (pe_callB call_len (by rfl) T.len (by decide +kernel) (pa_cons (pv 1) pa_nil)) pe_int) pa_nil))))))))) (pss_one (ps_ret pe_bl)) pss_nil)
      (pss_cons (ps_if (PW.pt (pw_or (pt_cmpR op_ne (pe_ix ix_tup (pe_ix ix_tup (pe_ix ix_tup (pv 3) pe_int (fun _ _ => rfl)) pe_int (fun _ _ => rfl)) pe_int (fun _ _ => rfl)) pe_int (nomark _)) (pw_or1 (pt_cmpR op_ne (pe_ix ix_tup (pe_ix ix_tup (pe_ix ix_tup (pv 3) pe_int (fun _ _ => rfl)) (pe_un un_neg pe_int) (fun _ _ => rfl)) (pe_un un_neg pe_int) (fun _ _ => rfl)) (pv 2) (nomark _))))) (pss_one (ps_ret pe_bl)) pss_nil)
      (pss_cons (ps_for PassesOwn.never rfl (pi_list (pe_cG c_steps_on hg hr (by decide) pass0 (pa_cons (pv 0) (pa_cons (pv 1) (pa_cons (pv 4) pa_nil))))) (pg_tup rfl (pgs_cons (pg_name (i := 5) sc_is_prices.nd rfl (Or.inl rfl)) (pgs_cons (pg_name (i := 6) sc_is_prices.nd rfl (Or.inl rfl)) (pgs_cons (pg_name (i := 7) sc_is_prices.nd rfl (Or.inl rfl)) (pgs_cons (pg_name (i := 8) sc_is_prices.nd rfl (Or.inl rfl)) (pgs_cons (pg_name (i := 9) sc_is_prices.nd rfl (Or.inl rfl)) (pgs_cons (pg_name (i := 10) sc_is_prices.nd rfl (Or.inl rfl)) (pgs_cons (pg_name (i := 11) sc_is_prices.nd rfl (Or.inl rfl)) pgs_nil)))))))) (pss_one (ps_if (pt_cmpR op_gt (pe_ix ix_tup (pe_ix ix_tup (pe_ix ix_tup (pv 3) (pv 8) (fun _ _ => rfl)) (pv 9) (fun _ _ => rfl)) (pv 10) (fun _ _ => rfl)) (pe_op op_add (pe_ix ix_tup (pe_ix ix_tup (pe_ix ix_tup (pv 3) (pv 5) (fun _ _ => rfl)) (pv 6) (fun _ _ => rfl)) (pv 7) (fun _ _ => rfl)) (pv 11)) (nomark _)) (pss_one (ps_ret pe_bl)) pss_nil)))
      (pss_one (ps_ret pe_bl)))))), ?_⟩
    refine ⟨_, rfl, v, .ty "tuple", ty, .type "tuple", bt, rfl, .ty "tuple", tyx, kt, ?_⟩
    cases bt with
    | false => exact ⟨false, rfl, iteT (k false H Same.rfl ⟨nofun, fun ⟨a, f, A, F, h, _⟩ => absurd h (ht0 rfl _)⟩)⟩
    | true =>
      obtain ⟨xs, t, rfl, ht⟩ := ht1 rfl
      have tv : TupV H (.ref t) xs := ⟨t, rfl, ht⟩
      have itm := iv.items tv
      refine ⟨true, rfl, iteF ?_⟩
      refine ⟨_, rfl, _, _, rfl, .inr ⟨_, SqT.of ht, rfl⟩, rfl, _, rfl, ?_⟩
      match xs, ht, tv, itm with
      | [va, vb, vc], ht, tv, itm =>
        refine iteF ?_
        refine ⟨_, rfl, t, _, _, _, rfl, rfl, SqT.of ht, at0, "prices", rfl, ?_⟩
        by_cases c1 : va = .str "prices"
        · subst c1
          refine .inl ⟨rfl, _, rfl, ?_⟩
          refine iteF ?_
          have ib := itm vb (by simp)
          have ic := itm vc (by simp)
          dsimp only [tNext]
          refine ⟨_, rfl, t, _, _, _, rfl, rfl, SqT.of ht, at1, _, rfl, _, _, rfl, ⟨xl, rfl⟩, _, _, rfl, rfl, _, rfl, _, _, rfl, ⟨yl, rfl⟩, _, _, rfl, rfl, vb, x, y, B, rfl, ib, hB, fun b H1 s1 hb => ?_⟩
          cases b with
          | false => exact ⟨false, rfl, iteT (k false H1 s1 ⟨nofun, fun h => by
              obtain ⟨a, f, A, F, e, h2, _⟩ := h.three tv
              cases e
              exact absurd (hb.mpr ⟨A, h2⟩) Bool.false_ne_true⟩)⟩
          | true =>
          obtain ⟨LA, grA0⟩ := hb.mp rfl
          refine ⟨true, rfl, iteF ?_⟩
          refine ⟨_, rfl, t, _, _, _, rfl, rfl, SqT.of (s1 _ _ ht), at2, _, rfl, _, _, rfl, ⟨xl, rfl⟩, _, _, rfl, rfl, _, rfl, _, _, rfl, ⟨yl, rfl⟩, _, _, rfl, rfl, vc, x, y, B, rfl, ic.keep (.same s1), hB, fun b2 H2 s2 hb2 => ?_⟩
          have s12 := s1.trans s2
          cases b2 with
          | false => exact ⟨false, rfl, iteT (k false H2 s12 ⟨nofun, fun h => by
              obtain ⟨a, f, A, F, e, _, h2, _⟩ := h.three tv
              cases e
              exact absurd (hb2.mpr ⟨F, h2.keep (.same s1)⟩) Bool.false_ne_true⟩)⟩
          | true =>
          obtain ⟨LF, grF1⟩ := hb2.mp rfl
          have grF0 := GridL.back ic (.same s1) grF1
          refine ⟨true, rfl, iteF ?_⟩
          obtain ⟨ga, rfl⟩ := grA0.ref
          obtain ⟨gf, rfl⟩ := grF0.ref
          have eq : ∀ tot, PriP H x y e tot (.ref t) ↔ PricesL LA LF x y e tot := fun tot => ⟨fun h => by
            obtain ⟨a, f, A, F, e, h2, h3, h4⟩ := h.three tv
            cases e
            cases grA0.inj h2
            cases grF0.inj h3
            exact h4, fun h => ⟨_, _, LA, LF, tv, grA0, grF0, h⟩⟩
          have grA := grA0.keep (.same s12)
          have grF := grF0.keep (.same s12)
          have ht2 := s12 _ _ ht
          dsimp only [tNext]
          refine or_by (p := ent LA 0 0 ≠ 0) (q := ent LA x.length y.length ≠ tot) (ne_by (ent_by (i := 0) (j := 0) grA (Nat.zero_le _) (Nat.zero_le _) (ix_by ht2 at1 (v_of rfl) c_of) c_of c_of) c_of) (fun _ => ne_by (end_by grA (ix_by ht2 at1 (v_of rfl) c_of)) (v_of rfl)) ?_
          by_cases z : ent LA 0 0 ≠ 0 ∨ ent LA x.length y.length ≠ tot
          · rw [decide_eq_true z]
            exact iteT (k false H2 s12 ⟨nofun, fun h => by
              obtain ⟨h1, h2, _⟩ := (eq tot).mp h
              rcases z with z | z
              · exact absurd h1 z
              · exact absurd h2 z⟩)
          · rw [decide_eq_false z]
            refine iteF ?_
            dsimp only [tNext]
            refine ⟨_, rfl, _, rfl, _, rfl, x, y, e, rfl, hx, hy, fun a es H3 el le sl s3 => ?_⟩
            obtain ⟨xs, ha, st⟩ := sl.ex
            have s13 := s12.trans s3
            refine ⟨a, rfl, ⟨_, SqL.of ha⟩, ?_⟩
            refine for_list (K := K) (a := a) (xs := xs) (fun i σ H' => (∃ o5 o6 o7 o8 o9 o10 o11 : Option V, σ = [some (.str x), some (.str y), some (.int tot), some (.ref t), some (.int (e : Nat)), o5, o6, o7, o8, o9, o10, o11]) ∧ Same H3 H' ∧ ∀ s ∈ (stepsAll x y (leE x es) e (x.length + 1)).take i, Sat LA LF s) ?_ ?_ ?_ ?_
            · exact ⟨⟨_, _, _, _, _, _, _, rfl⟩, Same.rfl, fun s hs => absurd hs (by rw [List.take_zero]; exact List.not_mem_nil)⟩
            · rintro i σ H4 _ ⟨_, s4, _⟩
              exact SqL.of (s4 _ _ ha)
            · rintro i v σ H4 hv ⟨⟨o5, o6, o7, o8, o9, o10, o11, rfl⟩, s4, sat⟩
              obtain ⟨s, hs, u, rfl, hut⟩ := paired_at st hv
              have so := steps_ok el le (List.mem_of_getElem? hs)
              have hu4 := s4 _ _ hut
              refine ⟨u, _, rfl, SqT.of hu4, rfl, _, _, rfl, _, _, rfl, _, _, rfl, _, _, rfl, _, _, rfl, _, _, rfl, _, _, rfl, rfl, ?_⟩
              have ht4 := s4 _ _ (s3 _ _ ht2)
              have s34 := s3.trans s4
              have selG : ∀ k : Nat, k = 1 ∨ k = 2 → ∃ g, atI [V.str "prices", .ref ga, .ref gf] ((k : Nat) : Int) = some (.ref g) ∧ GridL H4 (x.length + 1) (y.length + 1) (.ref g) (sel LA LF k) := fun k hk => by
                rcases hk with rfl | rfl
                · exact ⟨ga, at1, grA.keep (.same s34)⟩
                · exact ⟨gf, at2, grF.keep (.same s34)⟩
              obtain ⟨g1, e1, gr1⟩ := selG s.kb so.kb
              obtain ⟨g2, e2, gr2⟩ := selG s.k so.k
              dsimp only
              refine gt_by (ent_by gr1 so.ib so.jb (ix_by ht4 e1 (v_of rfl) (v_of rfl)) (v_of rfl) (v_of rfl)) (add_by (ent_by gr2 so.i so.j (ix_by ht4 e2 (v_of rfl) (v_of rfl)) (v_of rfl) (v_of rfl)) (v_of rfl)) _ ?_
              by_cases c : Sat LA LF s
              · have c2 := c
                unfold Sat at c2
                rw [decide_eq_false (by omega)]
                refine iteF ⟨⟨_, _, _, _, _, _, _, rfl⟩, s4, fun s' hs' => ?_⟩
                rw [take_snoc hs] at hs'
                rcases List.mem_append.mp hs' with h | h
                · exact sat s' h
                · rw [List.mem_singleton.mp h]
                  exact c
              · have c2 := c
                unfold Sat at c2
                rw [decide_eq_true (by omega)]
                exact iteT (k false H4 (s13.trans s4) ⟨nofun, fun h => absurd ((steps_low el le).mpr ((eq tot).mp h).2.2 s (List.mem_of_getElem? hs)) c⟩)
            · rintro σ H4 ⟨⟨o5, o6, o7, o8, o9, o10, o11, rfl⟩, s4, sat⟩
              rw [paired_len st, List.take_length] at sat
              refine k true H4 (s13.trans s4) ⟨fun _ => (eq tot).mpr ⟨?_, ?_, (steps_low el le).mp sat⟩, fun _ => rfl⟩
              · exact Decidable.byContradiction fun q => z (.inl q)
              · exact Decidable.byContradiction fun q => z (.inr q)
        · have no : ¬ PriP H x y e tot (.ref t) := fun h => by
            obtain ⟨a, f, A, F, e, _⟩ := h.three tv
            cases e
            exact c1 rfl
          have ia := itm va (by simp)
          rcases ia.ne_str "prices" with h | ⟨a, rfl, h⟩
          · refine .inl ⟨h, _, rfl, ?_⟩
            rw [decide_eq_false c1]
            exact iteT (k false H Same.rfl ⟨nofun, fun h => absurd h no⟩)
          · exact .inr ⟨a, rfl, h, _, rfl, iteT (k false H Same.rfl ⟨nofun, fun h => absurd h no⟩)⟩
      | [], ht, tv, itm => exact iteT (k false H Same.rfl ⟨nofun, fun h => by
          obtain ⟨a, f, A, F, e, _⟩ := h.three tv
          cases e⟩)
      | [va], ht, tv, itm => exact iteT (k false H Same.rfl ⟨nofun, fun h => by
          obtain ⟨a, f, A, F, e, _⟩ := h.three tv
          cases e⟩)
      | [va, vb], ht, tv, itm => exact iteT (k false H Same.rfl ⟨nofun, fun h => by
          obtain ⟨a, f, A, F, e, _⟩ := h.three tv
          cases e⟩)
      | va :: vb :: vc :: vd :: r, ht, tv, itm =>
        rw [show decide (V.int (((va :: vb :: vc :: vd :: r).length : Nat) : Int) = V.int 3) = false from decide_eq_false fun z => by
          have := V.int.inj z
          simp only [List.length_cons] at this
          omega]
        exact iteT (k false H Same.rfl ⟨nofun, fun h => by
          obtain ⟨a, f, A, F, e, _⟩ := h.three tv
          cases e⟩)
end
end Vk
set_option Elab.async false
set_option maxRecDepth 100000
set_option linter.all false
set_option maxHeartbeats 4000000
namespace Vk
open PySem PySem.Spec PyProof.Rows L2 StX
theorem tips_asc {x : Str} {i s : Nat} : (tipsL x i s).Pairwise (· < ·) := by
  unfold tipsL
  refine List.Pairwise.filter _ ?_
  rw [List.pairwise_map]
  exact List.pairwise_lt_range.imp fun h => by omega
/-- the first end is the least -/
theorem tips_head {x : Str} {i t : Nat} (hi : i ≤ x.length) : (tipsL x i (x.length - i)).head? = some t ↔ EndX x i t := by
  have one : ∀ {t}, EndX x i t → (tipsL x i (x.length - i)).head? = some t := fun {t} ht => by
    have m : t ∈ tipsL x i (x.length - i) := (tips_mem hi).mpr ⟨ht.1.gt, ht.2, ht.1.once ht.2⟩
    match q : tipsL x i (x.length - i), m with
    | h :: r, m =>
      have a := tips_asc (x := x) (i := i) (s := x.length - i)
      rw [q] at a
      have hm : h ∈ tipsL x i (x.length - i) := by rw [q]; exact List.mem_cons_self
      obtain ⟨h1, h2, h3⟩ := (tips_mem hi).mp hm
      have l1 := (ht.1.iff h1 h2).mp h3
      rcases List.mem_cons.mp m with z | z
      · rw [z]; rfl
      · have := (List.pairwise_cons.mp a).1 t z
        omega
  constructor
  · intro h
    have m := List.mem_of_head? h
    obtain ⟨h1, h2, h3⟩ := (tips_mem hi).mp m
    obtain ⟨u, hu, _⟩ := end_once h1 h2 h3
    rw [one hu] at h
    cases h
    exact hu
  · exact one
def tipV (x : Str) (i : Nat) : V := match (tipsL x i (x.length - i)).head? with | some t => .int (t : Nat) | none => .non
def tipsV (x : Str) (n : Nat) : List V := (List.range n).map (tipV x)
theorem tipsV_snoc {x : Str} {n : Nat} : tipsV x (n + 1) = tipsV x n ++ [tipV x n] := by
  unfold tipsV
  rw [List.range_succ, List.map_append]
  rfl
section
variable {P : Program} {w : World} {K : PySem.W.Frag} {mg : Str → Option Value} {base : Heap}
def spNends : Sp := fun vs H Q _ => ∃ (x : Str), vs = [.str x] ∧ x.length ≤ 100 ∧ ∀ (t : Addr) (H' : Hp), H' t = some (.lst (tipsV x (x.length + 1))) → Same H H' → Q (.ref t) H'
abbrev s_lnends : Stmt := top 28
theorem sc_lnends : FnScope ["_law_here", "_law_found", "_law_a", "_law_tips", "_law_b"] ["_law_here"] (defScope s_lnends) := ⟨rfl, rfl, rfl, by decide +kernel, rfl, by decide +kernel, by decide +kernel⟩
theorem b_lnends {f : Addr} {fd : FuncData} (F : Fun K "_law_nends" "_law_nends" s_lnends f fd) (T : Txt mg) (c_lnonce : CalG P w K mg base CX0 2 "_law_nonce" spNonce) : FnG P w K mg base CX0 3 f fd ["_law_here"] spNends := by
  refine okG0 F sc_lnends (fun vs H Q E h => ?_) (fun cdv A outer s H vs Q E hg hr h => ?_)
  · obtain ⟨x, rfl, _⟩ := h
    rfl
  · have hu := hu_of hr
    have hu64 := hr.units
    obtain ⟨x, rfl, hx, k⟩ := h
    have xl : x.length ≤ sizeLine := Nat.le_of_lt (fewL (by omega))
    refine ⟨_, (pss_cons (ps_set (i := 1) sc_lnends.nd rfl (Or.inl rfl) (pe_lst pa_nil))
      (pss_cons (ps_for PassesOwn.never rfl (pi_range1 rfl T.range (pa_cons (pe_op op_add (pe_callB call_len (by rfl) T.len (by decide +kernel) (pa_cons (pv 0) pa_nil)) pe_int) pa_nil)) (pg_name (i := 2) sc_lnends.nd rfl (Or.inr rfl)) (pss_cons (ps_set (i := 3) sc_lnends.nd rfl (Or.inl rfl) (pe_slice sl_list (pe_lc (own := [("_law_b", 4)]) (g := gName 4) rfl sc_lnends.nd (pi_range2 rfl T.range (pa_cons (pe_op op_add (pv 2) pe_int) (pa_cons (pe_op op_add (pe_callB call_len (by rfl) T.len (by decide +kernel) (pa_cons (pv 0) pa_nil)) pe_int) pa_nil))) (blkOk_by (own := [("_law_b", 4)]) (N := ["_law_here", "_law_found", "_law_a", "_law_tips", "_law_b"]) (sc := defScope s_lnends) (by decide +kernel)) (fun _ _ _ _ _ => (pg_name (i := 4) sc_lnends.nd rfl (Or.inl rfl))) (fun _ _ _ _ _ => (pts_one (pt_val (pe_cG c_lnonce hg hr (by decide) pass0 (pa_cons (pv 0) (pa_cons (pv 2) (pa_cons (pv 4) pa_nil))))))) (fun _ _ _ _ _ => (pv 4))) po_none (po_some pe_int)))
      (pss_one (ps_expr (pe_bm PySem.F.plainAttrs_list PySem.F.slot_list_append PySem.F.type_list_append mt_append (pv 1) (pa_cons (pe_ifExp (pt_cmpR (op_neNil hu64) (pv 3) (pe_lst pa_nil) (nomark _)) (pe_ix ix_list (pv 3) pe_int (fun _ _ => rfl)) pe_non) pa_nil))))))
      (pss_one (ps_ret (pv 1))))), ?_⟩
    refine ⟨by show 0 ≤ sizeLine; decide, fun pl hpl => ?_⟩
    have sp := same_new (o := .lst []) hpl
    refine name_go ⟨_, rfl, _, _, rfl, ⟨xl, rfl⟩, _, _, rfl, rfl, _, rfl, by omega, by omega, ?_⟩
    have en : ((((x.length : Nat) : Int) + 1)).toNat = x.length + 1 := by omega
    refine for_range (lo := 0) (fun i σ H' => ∃ (o2 o3 o4 : Option V), σ = [some (.str x), some (.ref pl), o2, o3, o4] ∧ H' pl = some (.lst (tipsV x i)) ∧ Same H H') ?_ ?_ ?_
    · exact ⟨_, _, _, rfl, upd_same, sp⟩
    · rintro i σ H2 hi ⟨o2, o3, o4, rfl, hp2, s2⟩
      rw [en] at hi
      rw [show (0 : Int) + ((i : Nat) : Int) = ((i : Nat) : Int) from Int.zero_add _]
      dsimp only
      refine name_go ⟨_, rfl, _, _, rfl, rfl, _, rfl, _, _, rfl, ⟨xl, rfl⟩, _, _, rfl, rfl, _, _, rfl, by omega, fun D hD => ?_⟩
      have sD := same_new (o := .lst []) hD
      have ed : (((x.length : Nat) : Int) + 1 - (((i : Nat) : Int) + 1)).toNat = x.length - i := by omega
      refine lc_range (lo := ((i : Nat) : Int) + 1) (n := (((x.length : Nat) : Int) + 1 - (((i : Nat) : Int) + 1)).toNat) (fun s H' => H' D = some (.lst ((tipsL x i s).map fun t => V.int (t : Nat))) ∧ Same H2 H') ?_ ?_ ?_
      · exact ⟨upd_same, sD⟩
      · rintro s H3 hs ⟨hD3, s3⟩
        rw [ed] at hs
        have es : ((i : Nat) : Int) + 1 + ((s : Nat) : Int) = ((i + 1 + s : Nat) : Int) := by omega
        rw [es]
        refine ⟨rfl, _, rfl, _, rfl, _, rfl, x, i, i + 1 + s, rfl, by omega, fun _ => by omega, fun H4 s4 => ⟨_, rfl, ?_⟩⟩
        by_cases c : i < i + 1 + s ∧ twB x i (i + 1 + s) = false
        · rw [decide_eq_true c]
          refine iteT ⟨_, rfl, _, s4 _ _ hD3, fewL (by rw [List.length_map]; have := tips_len (x := x) (i := i) (s := s); omega), ?_, upd_out hD (s3.trans s4)⟩
          rw [upd_same, tips_snoc, if_pos c, List.map_append]
          rfl
        · rw [decide_eq_false c]
          refine iteF ⟨?_, s3.trans s4⟩
          rw [s4 _ _ hD3, tips_snoc, if_neg c]
      · rintro H3 ⟨hD3, s3⟩
        rw [ed] at hD3
        refine ⟨_, rfl, D, _, rfl, SqL.of hD3, fun q hq => name_go ?_⟩
        have e1 : cutV ((tipsL x i (x.length - i)).map fun t => V.int (t : Nat)) none (some 1) = ((tipsL x i (x.length - i)).map fun t => V.int (t : Nat)).take 1 := cutV_take (k := 1)
        rw [e1]
        have sq := same_new (o := .lst (((tipsL x i (x.length - i)).map fun t => V.int (t : Nat)).take 1)) hq
        have hp3 := sq _ _ (s3 _ _ hp2)
        have hq3 : upd H3 q (.lst (((tipsL x i (x.length - i)).map fun t => V.int (t : Nat)).take 1)) q = some (.lst (((tipsL x i (x.length - i)).map fun t => V.int (t : Nat)).take 1)) := upd_same
        have s23 := (s2.trans s3).trans sq
        generalize upd H3 q (.lst (((tipsL x i (x.length - i)).map fun t => V.int (t : Nat)).take 1)) = H4 at hp3 hq3 s23 ⊢
        dsimp only
        refine ⟨_, rfl, .inl ⟨rfl, _, SqL.of hp3⟩, _, rfl, by show 0 ≤ sizeLine; decide, fun q2 hq2 => ?_⟩
        have sq2 := same_new (o := .lst []) hq2
        refine ⟨q, _, q2, rfl, rfl, SqL.of (sq2 _ _ hq3), SqL.of upd_same, _, rfl, ?_⟩
        have ln : (tipsV x i).length = i := by unfold tipsV; rw [List.length_map, List.length_range]
        have tv : tipV x i = match (tipsL x i (x.length - i)).head? with | some t => .int (t : Nat) | none => .non := rfl
        match hl : tipsL x i (x.length - i) with
        | [] =>
          rw [hl] at tv
          refine iteF ⟨pl, _, _, rfl, rfl, sq2 _ _ hp3, fewL (by omega), _, _, _, rfl, ?_, upd_out hpl (s23.trans sq2)⟩
          rw [upd_same, tipsV_snoc, tv]
          rfl
        | t :: r =>
          rw [hl] at tv hq3
          refine iteT ⟨_, rfl, q, _, _, .int (t : Nat), rfl, rfl, SqL.of (sq2 _ _ hq3), atI_nat (j := 0) rfl, pl, _, _, rfl, rfl, sq2 _ _ hp3, fewL (by omega), _, _, _, rfl, ?_, upd_out hpl (s23.trans sq2)⟩
          rw [upd_same, tipsV_snoc, tv]
          rfl
    · rintro σ H2 ⟨o2, o3, o4, rfl, hp2, s2⟩
      rw [en] at hp2
      exact ⟨_, rfl, k pl H2 hp2 s2⟩
/-- a letter of each -/
def spLow : Sp := fun vs H Q _ => ∃ (x y : Str) (e : Nat) (ga gf : Addr) (A F : List (List Int)), vs = [.str x, .str y, .int (e : Nat), .ref ga, .ref gf] ∧ GridL H (x.length + 1) (y.length + 1) (.ref ga) A ∧ GridL H (x.length + 1) (y.length + 1) (.ref gf) F ∧ x.length ≤ 100 ∧ y.length ≤ 100 ∧ ∀ b H', Same H H' → (b = true ↔ Low A F x y e) → Q (.bl b) H'
abbrev s_lnare_low : Stmt := top 29
theorem sc_lnare_low : FnScope ["_law_left", "_law_right", "_law_extra", "_law_kept", "_law_free", "_law_tips", "_law_i", "_law_j", "_law_price", "_law_tip"] ["_law_left", "_law_right", "_law_extra", "_law_kept", "_law_free"] (defScope s_lnare_low) := ⟨rfl, rfl, rfl, by decide +kernel, rfl, by decide +kernel, by decide +kernel⟩
theorem ltN_by {σ : L2.St} {H : Hp} {n m : Nat} {i : Nat} {x : Str} (hx : x.length ≤ sizeLine) {K : PySem.W.Frag} (h1 : σ[n]? = some (some (.int (i : Nat)))) (h2 : σ[m]? = some (some (.str x))) : ∀ k' : Bool → Hp → Prop, k' (decide (i < x.length)) H → tTest (tOp (rI0 fun i j => V.bl (decide (i < j))) (tVar n) (tCB (fun xs H Q => ∃ x n, xs = [x] ∧ LenV K x H n ∧ Q (V.int ((n : Nat) : Int)) H) (tCons (tVar m) tNil))) σ H k' := lt_by hx h1 h2
theorem s_of {σ : L2.St} {H : Hp} {n i : Nat} (h : σ[n]? = some (some (.int (i : Nat)))) : ∀ Q : VK, Q (.int ((i + 1 : Nat) : Int)) H → tOp (rI0 fun i j => V.int (i + j)) (tVar n) (tC (.int 1)) σ H Q := fun Q q => ⟨_, h, _, _, rfl, rfl, q⟩
theorem seq_midR {A B : TS} {D : Ends} {σ : L2.St} {H : Hp} (Mid : L2.St → Hp → Prop) (h1 : ∀ N : L2.St → Hp → Prop, (∀ σ H, Mid σ H → N σ H) → A { D with nx := N } σ H) (h2 : ∀ σ H, Mid σ H → B D σ H) : tSeq A B D σ H := h1 _ h2
theorem b_lnare_low {f : Addr} {fd : FuncData} (F : Fun K "_law_nare_low" "_law_nare_low" s_lnare_low f fd) (T : Txt mg) (c_lnends : CalG P w K mg base CX0 3 "_law_nends" spNends) : FnG P w K mg base CX0 4 f fd ["_law_left", "_law_right", "_law_extra", "_law_kept", "_law_free"] spLow := by
  refine okG0 F sc_lnare_low (fun vs H Q E h => ?_) (fun cdv A outer s H vs Q E hg hr h => ?_)
  · obtain ⟨x, y, e, ga, gf, LA, LF, rfl, _⟩ := h
    rfl
  · have hu := hu_of hr
    have hu64 := hr.units
    obtain ⟨x, y, e, ga, gf, LA, LF, rfl, grA, grF, hx, hy, k⟩ := h
    have xl : x.length ≤ sizeLine := Nat.le_of_lt (fewL (by omega))
    have yl : y.length ≤ sizeLine := Nat.le_of_lt (fewL (by omega))
    have lx : x.cps.toList.length = x.length := Array.length_toList
    have ly : y.cps.toList.length = y.length := Array.length_toList
    refine ⟨_, (pss_cons (ps_set (i := 5) sc_lnare_low.nd rfl (Or.inl rfl) (pe_cG c_lnends hg hr (by decide) pass0 (pa_cons (pv 0) pa_nil)))
      (pss_cons (ps_for PassesOwn.never rfl (pi_range1 rfl T.range (pa_cons (pe_op op_add (pe_callB call_len (by rfl) T.len (by decide +kernel) (pa_cons (pv 0) pa_nil)) pe_int) pa_nil)) (pg_name (i := 6) sc_lnare_low.nd rfl (Or.inl rfl)) (pss_one (ps_for PassesOwn.never rfl (pi_range1 rfl T.range (pa_cons (pe_op op_add (pe_callB call_len (by rfl) T.len (by decide +kernel) (pa_cons (pv 1) pa_nil)) pe_int) pa_nil)) (pg_name (i := 7) sc_lnare_low.nd rfl (Or.inl rfl)) (pss_cons (ps_if (PW.pt (pw_and (pt_cmpR op_lt (pv 6) (pe_callB call_len (by rfl) T.len (by decide +kernel) (pa_cons (pv 0) pa_nil)) (nomark _)) (pw_and (pt_cmpR op_eq (pe_slice sl_str (pv 0) (po_some (pv 6)) (po_some (pe_op op_add (pv 6) pe_int))) (pe_slice sl_str (pv 1) (po_some (pv 7)) (po_some (pe_op op_add (pv 7) pe_int))) (nomark _)) (pw_and1 (pt_cmpR op_gt (pe_ix ix_tup (pe_ix ix_tup (pv 3) (pe_op op_add (pv 6) pe_int) (fun _ _ => rfl)) (pe_op op_add (pv 7) pe_int) (fun _ _ => rfl)) (pe_ix ix_tup (pe_ix ix_tup (pv 3) (pv 6) (fun _ _ => rfl)) (pv 7) (fun _ _ => rfl)) (nomark _)))))) (pss_one (ps_ret pe_bl)) pss_nil)
      (pss_cons (ps_par (i := 8) (j := 9) (by rfl) sc_lnare_low.nd rfl rfl (by decide) rfl rfl (pa_cons (pe_ix ix_tup (pe_ix ix_tup (pv 3) (pv 6) (fun _ _ => rfl)) (pv 7) (fun _ _ => rfl)) (pa_cons (pe_ix ix_list (pv 5) (pv 6) (fun _ _ => rfl)) pa_nil)) (by rfl))
      (pss_cons (ps_if (PW.pt (pw_and (pt_cmpR op_notN (pv 9) pe_non (nomark _)) (pw_and1 (pt_cmpR op_gt (pe_ix ix_tup (pe_ix ix_tup (pv 4) (pv 9) (fun _ _ => rfl)) (pv 7) (fun _ _ => rfl)) (pe_op op_add (pe_op op_sub (pe_op op_add (pv 8) (pv 9)) (pv 6)) (pv 2)) (nomark _))))) (pss_one (ps_ret pe_bl)) pss_nil)
      (pss_cons (ps_if (PW.pt (pw_or (PW.pt (pw_and (pt_cmpR op_lt (pv 6) (pe_callB call_len (by rfl) T.len (by decide +kernel) (pa_cons (pv 0) pa_nil)) (nomark _)) (pw_and1 (pt_cmpR op_gt (pe_ix ix_tup (pe_ix ix_tup (pv 4) (pe_op op_add (pv 6) pe_int) (fun _ _ => rfl)) (pv 7) (fun _ _ => rfl)) (pe_op op_add (pe_ix ix_tup (pe_ix ix_tup (pv 4) (pv 6) (fun _ _ => rfl)) (pv 7) (fun _ _ => rfl)) pe_int) (nomark _))))) (pw_or1 (pt_cmpR op_gt (pe_ix ix_tup (pe_ix ix_tup (pv 3) (pv 6) (fun _ _ => rfl)) (pv 7) (fun _ _ => rfl)) (pe_ix ix_tup (pe_ix ix_tup (pv 4) (pv 6) (fun _ _ => rfl)) (pv 7) (fun _ _ => rfl)) (nomark _))))) (pss_one (ps_ret pe_bl)) pss_nil)
      (pss_one (ps_if (PW.pt (pw_and (pt_cmpR op_lt (pv 7) (pe_callB call_len (by rfl) T.len (by decide +kernel) (pa_cons (pv 1) pa_nil)) (nomark _)) (pw_and1 (pt_cmpR op_gt (pe_ix ix_tup (pe_ix ix_tup (pv 4) (pv 6) (fun _ _ => rfl)) (pe_op op_add (pv 7) pe_int) (fun _ _ => rfl)) (pe_op op_add (pe_ix ix_tup (pe_ix ix_tup (pv 4) (pv 6) (fun _ _ => rfl)) (pv 7) (fun _ _ => rfl)) pe_int) (nomark _))))) (pss_one (ps_ret pe_bl)) pss_nil)))))))))
      (pss_one (ps_ret pe_bl)))), ?_⟩
    refine ⟨_, rfl, x, rfl, hx, fun b H1 hb1 s1 => ?_⟩
    have en : ((((x.length : Nat) : Int) + 1)).toNat = x.length + 1 := by omega
    have em : ((((y.length : Nat) : Int) + 1)).toNat = y.length + 1 := by omega
    refine name_go ⟨_, rfl, _, _, rfl, ⟨xl, rfl⟩, _, _, rfl, rfl, _, rfl, by omega, by omega, ?_⟩
    refine for_range (lo := 0) (fun i σ H' => (∃ o6 o7 o8 o9 : Option V, σ = [some (.str x), some (.str y), some (.int (e : Nat)), some (.ref ga), some (.ref gf), some (.ref b), o6, o7, o8, o9]) ∧ H' = H1 ∧ ∀ i', i' < i → ∀ j, j ≤ y.length → LowAt LA LF x y e i' j) ?_ ?_ ?_
    · exact ⟨⟨_, _, _, _, rfl⟩, rfl, fun i' h => absurd h (Nat.not_lt_zero _)⟩
    · rintro i σ H' hi ⟨⟨o6, o7, o8, o9, rfl⟩, hH, low⟩
      obtain rfl := hH.symm
      rw [en] at hi
      rw [show (0 : Int) + ((i : Nat) : Int) = ((i : Nat) : Int) from Int.zero_add _]
      dsimp only
      refine name_go ⟨_, rfl, _, _, rfl, ⟨yl, rfl⟩, _, _, rfl, rfl, _, rfl, by omega, by omega, ?_⟩
      refine for_range (lo := 0) (fun j σ H' => (∃ o7 o8 o9 : Option V, σ = [some (.str x), some (.str y), some (.int (e : Nat)), some (.ref ga), some (.ref gf), some (.ref b), some (.int (i : Nat)), o7, o8, o9]) ∧ H' = H1 ∧ ∀ j', j' < j → LowAt LA LF x y e i j') ?_ ?_ ?_
      · exact ⟨⟨_, _, _, rfl⟩, rfl, fun j' h => absurd h (Nat.not_lt_zero _)⟩
      · rintro j σ H' hj ⟨⟨o7, o8, o9, rfl⟩, hH, lowj⟩
        obtain rfl := hH.symm
        rw [em] at hj
        rw [show (0 : Int) + ((j : Nat) : Int) = ((j : Nat) : Int) from Int.zero_add _]
        have gA := grA.keep (.same s1)
        have gF := grF.keep (.same s1)
        dsimp only
        refine name_go ?_
        have hi' : i ≤ x.length := by omega
        have hj' : j ≤ y.length := by omega
        -- a letter kept
        refine and_by (p := i < x.length) (q := x.cps.toList[i]? = y.cps.toList[j]? ∧ ent LA i j < ent LA (i + 1) (j + 1)) (ltN_by xl (K := K) rfl rfl) (fun ci k' q => and_by (p := x.cps.toList[i]? = y.cps.toList[j]?) (q := ent LA i j < ent LA (i + 1) (j + 1)) (fun k' q => ⟨_, rfl, _, rfl, _, rfl, _, rfl, _, _, rfl, rfl, _, rfl, x, rfl, xl, _, rfl, _, rfl, _, rfl, _, rfl, _, _, rfl, rfl, _, rfl, y, rfl, yl, rfl, _, rfl, by rw [one_letter ci]; exact q⟩) (fun c2 k' q => ?_) q) ?_
        · have cj : j < y.length := by
            rw [List.getElem?_eq_getElem (by omega)] at c2
            have := (List.getElem?_eq_some_iff.mp c2.symm).1
            omega
          exact gt_by (ent_by (i := i + 1) (j := j + 1) gA (by omega) (by omega) (v_of rfl) (s_of rfl) (s_of rfl)) (ent_by gA hi' hj' (v_of rfl) (v_of rfl) (v_of rfl)) k' q
        by_cases c1 : i < x.length ∧ x.cps.toList[i]? = y.cps.toList[j]? ∧ ent LA i j < ent LA (i + 1) (j + 1)
        · rw [decide_eq_true c1]
          exact iteT (k false H1 s1 ⟨nofun, fun h => by
            obtain ⟨c1, c2, c3⟩ := c1
            have cj : j < y.length := by
              have c2 := c2
              rw [List.getElem?_eq_getElem (by omega)] at c2
              have := (List.getElem?_eq_some_iff.mp c2.symm).1
              omega
            have := (h i j hi' hj').2.2.2.1 c1 cj c2
            omega⟩)
        rw [decide_eq_false c1]
        refine iteF ?_
        dsimp only [tNext]
        refine ent_by gA hi' hj' (v_of rfl) (v_of rfl) (v_of rfl) _ ?_
        have at5 : atI (tipsV x (x.length + 1)) ((i : Nat) : Int) = some (tipV x i) := atI_nat (by
          unfold tipsV
          rw [List.getElem?_map, List.getElem?_range (by omega)]
          rfl)
        refine ⟨_, rfl, _, rfl, b, _, _, tipV x i, rfl, rfl, SqL.of hb1, at5, _, _, rfl, ?_⟩
        dsimp only
        -- a window opened
        refine seq_midR (fun σ H' => σ = [some (.str x), some (.str y), some (.int (e : Nat)), some (.ref ga), some (.ref gf), some (.ref b), some (.int (i : Nat)), some (.int (j : Nat)), some (.int (ent LA i j)), some (tipV x i)] ∧ H' = H1 ∧ ∀ t, EndX x i t → ent LF t j ≤ ent LA i j + (t : Nat) - (i : Nat) + (e : Nat)) (fun N hD' => ?_) (fun σ H' hm => ?_)
        · cases q : (tipsL x i (x.length - i)).head? with
          | none =>
            have tv : tipV x i = .non := by unfold tipV; rw [q]
            rw [tv]
            rw [tv] at hD'
            refine ⟨_, rfl, rfl, _, rfl, ?_⟩
            rw [non_non']
            exact iteF (hD' _ _ ⟨rfl, rfl, fun t ht => by
              rw [(tips_head hi').mpr ht] at q
              cases q⟩)
          | some t =>
            have tv : tipV x i = .int (t : Nat) := by unfold tipV; rw [q]
            have et := (tips_head hi').mp q
            rw [tv]
            rw [tv] at hD'
            refine ⟨_, rfl, rfl, _, rfl, ?_⟩
            rw [int_non']
            refine iteT ?_
            refine gt_by (ent_by gF et.2 hj' (v_of rfl) (v_of rfl) (v_of rfl)) (add_by (sub_by (add_by (v_of rfl) (v_of rfl)) (v_of rfl)) (v_of rfl)) _ ?_
            by_cases c : ent LA i j + (t : Nat) - (i : Nat) + (e : Nat) < ent LF t j
            · rw [decide_eq_true c]
              exact iteT (k false H1 s1 ⟨nofun, fun h => by
                have := (h i j hi' hj').2.2.2.2 t et
                omega⟩)
            · rw [decide_eq_false c]
              exact iteF (hD' _ _ ⟨rfl, rfl, fun u hu => by
                rw [lend_uniq hu.1 et.1]
                omega⟩)
        obtain ⟨rfl, hH, c2⟩ := hm
        obtain rfl := hH.symm
        refine seq_midR (fun σ H' => σ = [some (.str x), some (.str y), some (.int (e : Nat)), some (.ref ga), some (.ref gf), some (.ref b), some (.int (i : Nat)), some (.int (j : Nat)), some (.int (ent LA i j)), some (tipV x i)] ∧ H' = H1 ∧ (i < x.length → ent LF (i + 1) j ≤ ent LF i j + 1) ∧ ent LA i j ≤ ent LF i j) (fun N hD' => ?_) (fun σ H' hm => ?_)
        · refine or_by (p := i < x.length ∧ ent LF i j + 1 < ent LF (i + 1) j) (q := ent LF i j < ent LA i j) (fun k' q => and_by (p := i < x.length) (q := ent LF i j + 1 < ent LF (i + 1) j) (ltN_by xl (K := K) rfl rfl) (fun ci => gt_by (ent_by (i := i + 1) (j := j) gF (by omega) hj' (v_of rfl) (s_of rfl) (v_of rfl)) (add_by (ent_by gF hi' hj' (v_of rfl) (v_of rfl) (v_of rfl)) c_of)) q) (fun _ => gt_by (ent_by gA hi' hj' (v_of rfl) (v_of rfl) (v_of rfl)) (ent_by gF hi' hj' (v_of rfl) (v_of rfl) (v_of rfl))) ?_
          by_cases c : (i < x.length ∧ ent LF i j + 1 < ent LF (i + 1) j) ∨ ent LF i j < ent LA i j
          · rw [decide_eq_true c]
            exact iteT (k false H1 s1 ⟨nofun, fun h => by
              obtain ⟨a1, a2, _⟩ := h i j hi' hj'
              rcases c with ⟨c, c'⟩ | c
              · have := a2 c
                omega
              · omega⟩)
          · rw [decide_eq_false c]
            refine iteF (hD' _ _ ⟨rfl, rfl, fun h => ?_, ?_⟩)
            · have : ¬ (ent LF i j + 1 < ent LF (i + 1) j) := fun z => c (.inl ⟨h, z⟩)
              omega
            · have : ¬ (ent LF i j < ent LA i j) := fun z => c (.inr z)
              omega
        obtain ⟨rfl, hH, c3, c4⟩ := hm
        obtain rfl := hH.symm
        refine and_by (p := j < y.length) (q := ent LF i j + 1 < ent LF i (j + 1)) (ltN_by yl (K := K) rfl rfl) (fun cj => gt_by (ent_by (i := i) (j := j + 1) gF hi' (by omega) (v_of rfl) (v_of rfl) (s_of rfl)) (add_by (ent_by gF hi' hj' (v_of rfl) (v_of rfl) (v_of rfl)) c_of)) ?_
        by_cases c5 : j < y.length ∧ ent LF i j + 1 < ent LF i (j + 1)
        · rw [decide_eq_true c5]
          exact iteT (k false H1 s1 ⟨nofun, fun h => by
            have := (h i j hi' hj').2.2.1 c5.1
            have := c5.2
            omega⟩)
        · rw [decide_eq_false c5]
          refine iteF ⟨⟨_, _, _, rfl⟩, rfl, fun j' hj2 => ?_⟩
          rcases Nat.lt_or_ge j' j with l | l
          · exact lowj j' l
          · obtain rfl : j = j' := by omega
            refine ⟨c4, c3, fun h => ?_, fun h1 h2 h3 => ?_, c2⟩
            · have : ¬ (ent LF i j + 1 < ent LF i (j + 1)) := fun z => c5 ⟨h, z⟩
              omega
            · have : ¬ (ent LA i j < ent LA (i + 1) (j + 1)) := fun z => c1 ⟨h1, h3, z⟩
              omega
      · rintro σ H' ⟨⟨o7, o8, o9, rfl⟩, hH, lowj⟩
        obtain rfl := hH.symm
        rw [em] at lowj
        refine ⟨⟨_, _, _, _, rfl⟩, rfl, fun i' hi' j hj => ?_⟩
        rcases Nat.lt_or_ge i' i with l | l
        · exact low i' l j hj
        · obtain rfl : i' = i := by omega
          exact lowj j (by omega)
    · rintro σ H' ⟨⟨o6, o7, o8, o9, rfl⟩, hH, low⟩
      obtain rfl := hH.symm
      rw [en] at low
      exact k true H1 s1 ⟨fun _ i j hi hj => low i (by omega) j hj, fun _ => rfl⟩
end
end Vk
set_option Elab.async false
set_option maxRecDepth 100000
set_option linter.all false
set_option maxHeartbeats 4000000
namespace Vk
open PySem PySem.Spec PyProof.Rows L2 StX
section
variable {P : Program} {w : World} {K : PySem.W.Frag} {mg : Str → Option Value} {base : Heap}
theorem slA {H : Hp} {q : Addr} {xs : List V} {lo hi : Option Int} {Q : VK} (h : H q = some (.tup xs)) (k : ∀ p H', Same H H' → H' p = some (.tup (cutV xs lo hi)) → Q (.ref p) H') : rSlA K (.ref q) lo hi H Q := by
  refine ⟨q, xs, rfl, SqT.of h, fun w => k q H Same.rfl ?_, fun _ p hp => k p _ (same_new hp) upd_same⟩
  rw [h]
  unfold cutV
  rw [w.1, w.2, List.drop_zero, Nat.sub_zero, List.take_length]
def spNisPr : Sp := fun vs H Q _ => ∃ (x y : Str) (tot : Int) (v : V) (e B : Nat), vs = [.str x, .str y, .int tot, .int (e : Nat), v] ∧ IsV H B 3 v ∧ B ≤ 5000 ∧ x.length ≤ 100 ∧ y.length ≤ 100 ∧ ∀ b H', Same H H' → (b = true ↔ PriP H x y e tot v) → Q (.bl b) H'
abbrev s_lnis_prices : Stmt := top 30
theorem sc_lnis_prices : FnScope ["_law_left", "_law_right", "_law_total", "_law_extra", "_law_thing", "_law_grid"] ["_law_left", "_law_right", "_law_total", "_law_extra", "_law_thing"] (defScope s_lnis_prices) := ⟨rfl, rfl, rfl, by decide +kernel, rfl, by decide +kernel, by decide +kernel⟩
theorem b_lnis_prices {f : Addr} {fd : FuncData} (F : Fun K "_law_nis_prices" "_law_nis_prices" s_lnis_prices f fd) (T : Txt mg) (c_lnis_grid : CalG P w K mg base CX0 1 "_law_nis_grid" spGridG) (c_lnare_low : CalG P w K mg base CX0 4 "_law_nare_low" spLow) : FnG P w K mg base CX0 5 f fd ["_law_left", "_law_right", "_law_total", "_law_extra", "_law_thing"] spNisPr := by
  refine okG0 F sc_lnis_prices (fun vs H Q E h => ?_) (fun cdv A outer s H vs Q E hg hr h => ?_)
  · obtain ⟨x, y, tot, v, e, B, rfl, _⟩ := h
    rfl
  · have hu := hu_of hr
    have hu64 := hr.units
    obtain ⟨x, y, tot, v, e, B, rfl, iv, hB, hx, hy, k⟩ := h
    have xl : x.length ≤ sizeLine := Nat.le_of_lt (fewL (by omega))
    have yl : y.length ≤ sizeLine := Nat.le_of_lt (fewL (by omega))
    obtain ⟨ty, tyx, ⟨bt, kt, ht1, ht0⟩, _⟩ := kit_any (K := K) iv
    refine ⟨_, (pss_cons (ps_if (PW.pt (pw_or (pt_not (pt_val (pe_callB call_isi (by rfl) T.isinstance (by decide +kernel) (pa_cons (pv 4) (pa_cons (pe_bltn (v := .ty "tuple") (by rfl) T.tuple rfl rfl) pa_nil))))) (pw_or (pt_cmpR op_ne (pe_callB call_len (by rfl) T.len (by decide +kernel) (pa_cons (pv 4) pa_nil)) pe_int (nomark _)) (pw_or (pt_not (pt_val (pe_callB call_isi (by rfl) T.isinstance (by decide +kernel) (pa_cons (pe_ix ix_tup (pv 4) pe_int (fun _ _ => rfl)) (pa_cons (pe_bltn (v := .ty "str") (by rfl) T.str rfl rfl) pa_nil))))) (pw_or1 (pt_cmpR op_ne (pe_ix ix_tup (pv 4) pe_int (fun _ _ => rfl)) pe_str (nomark _))))))) (pss_one (ps_ret pe_bl)) pss_nil)
      (pss_cons (ps_if (pt_cmpR (op_neNil hu64) (pe_lc (own := [("_law_grid", 5)]) (g := gName 5) rfl sc_lnis_prices.nd (pi_tup (pe_slice sl_tupA (pv 4) (po_some pe_int) po_none)) (blkOk_by (own := [("_law_grid", 5)]) (N := ["_law_left", "_law_right", "_law_total", "_law_extra", "_law_thing", "_law_grid"]) (sc := defScope s_lnis_prices) (by decide +kernel)) (fun _ _ _ _ _ => (pg_name (i := 5) sc_lnis_prices.nd rfl (Or.inl rfl))) (fun _ _ _ _ _ => (pts_one (pt_not (pt_val (pe_cG c_lnis_grid hg hr (by decide) pass0 (pa_cons (pv 5) (pa_cons (pe_op op_add (pe_callB (call_lenK (K := K) rfl) (by rfl) T.len (by decide +kernel) (pa_cons (pv 0) pa_nil)) pe_int) (pa_cons (pe_op op_add (pe_callB (call_lenK (K := K) rfl) (by rfl) T.len (by decide +kernel) (pa_cons (pv 1) pa_nil)) pe_int) pa_nil)))))))) (fun _ _ _ _ _ => (pv 5))) (pe_lst pa_nil) (nomark _)) (pss_one (ps_ret pe_bl)) pss_nil)
      (pss_cons (ps_if (PW.pt (pw_or (pt_cmpR op_ne (pe_ix ix_tup (pe_ix ix_tup (pe_ix ix_tup (pv 4) pe_int (fun _ _ => rfl)) pe_int (fun _ _ => rfl)) pe_int (fun _ _ => rfl)) pe_int (nomark _)) (pw_or1 (pt_cmpR op_ne (pe_ix ix_tup (pe_ix ix_tup (pe_ix ix_tup (pv 4) pe_int (fun _ _ => rfl)) (pe_un un_neg pe_int) (fun _ _ => rfl)) (pe_un un_neg pe_int) (fun _ _ => rfl)) (pv 2) (nomark _))))) (pss_one (ps_ret pe_bl)) pss_nil)
      (pss_one (ps_ret (pe_cG c_lnare_low hg hr (by decide) pass0 (pa_cons (pv 0) (pa_cons (pv 1) (pa_cons (pv 3) (pa_cons (pe_ix ix_tup (pv 4) pe_int (fun _ _ => rfl)) (pa_cons (pe_ix ix_tup (pv 4) pe_int (fun _ _ => rfl)) pa_nil))))))))))), ?_⟩
    refine ⟨_, rfl, v, .ty "tuple", ty, .type "tuple", bt, rfl, .ty "tuple", tyx, kt, ?_⟩
    cases bt with
    | false => exact ⟨false, rfl, iteT (k false H Same.rfl ⟨nofun, fun ⟨a, f, A, F, h, _⟩ => absurd h (ht0 rfl _)⟩)⟩
    | true =>
      obtain ⟨xs, t, rfl, ht⟩ := ht1 rfl
      have tv : TupV H (.ref t) xs := ⟨t, rfl, ht⟩
      have itm := iv.items tv
      refine ⟨true, rfl, iteF ?_⟩
      refine ⟨_, rfl, _, _, rfl, .inr ⟨_, SqT.of ht, rfl⟩, rfl, _, rfl, ?_⟩
      match xs, ht, tv, itm with
      | [va, vb, vc], ht, tv, itm =>
        refine iteF ?_
        have ia := itm va (by simp)
        have ib := itm vb (by simp)
        have ic := itm vc (by simp)
        obtain ⟨tya, tyxa, _, _, _, ⟨bs, ks, hs1, hs0⟩⟩ := kit_any (K := K) ia
        refine ⟨_, rfl, t, _, _, _, rfl, rfl, SqT.of ht, at0, va, .ty "str", tya, .type "str", bs, rfl, .ty "str", tyxa, ks, ?_⟩
        cases bs with
        | false => exact ⟨false, rfl, iteT (k false H Same.rfl ⟨nofun, fun h => by
            obtain ⟨a, f, A, F, e, _⟩ := h.three tv
            cases e
            exact absurd rfl (hs0 rfl "prices")⟩)⟩
        | true =>
          obtain ⟨z, rfl⟩ := hs1 rfl
          refine ⟨true, rfl, iteF ?_⟩
          refine ⟨_, rfl, t, _, _, _, rfl, rfl, SqT.of ht, at0, rfl, _, rfl, ?_⟩
          by_cases c1 : V.str z = .str "prices"
          · cases c1
            refine iteF ?_
            dsimp only [tNext]
            refine ⟨_, rfl, _, rfl, ?_⟩
            dsimp only [tNoPart]
            refine slA ht fun p H1 s1 hp => ?_
            have hp : H1 p = some (.tup [vb, vc]) := hp
            refine ⟨p, rfl, ⟨_, SqT.of hp⟩, fun D hD => ?_⟩
            have sD := same_new (o := .lst []) hD
            haveI dG : DecidablePred (fun v : V => ∃ L, GridL H (x.length + 1) (y.length + 1) v L) := fun _ => Classical.propDecidable _
            refine lc_tup (K := K) (a := p) (xs := [vb, vc]) (fun i H' => H' D = some (.lst (([vb, vc].take i).filter fun v => decide (¬ ∃ L, GridL H (x.length + 1) (y.length + 1) v L))) ∧ Same H1 H') ?_ ?_ ?_ ?_
            · exact ⟨upd_same, sD⟩
            · rintro i H' _ ⟨_, s2⟩
              exact SqT.of (s2 _ _ hp)
            · rintro i v H2 hv ⟨hD2, s2⟩
              have iv2 : IsV H B 2 v := by
                rcases List.mem_cons.mp (List.mem_of_getElem? hv) with rfl | h
                · exact ib
                · rw [List.mem_singleton.mp h]; exact ic
              refine ⟨rfl, _, rfl, _, rfl, _, _, rfl, ⟨xl, rfl⟩, _, _, rfl, rfl, _, rfl, _, _, rfl, ⟨yl, rfl⟩, _, _, rfl, rfl, v, x, y, B, rfl, iv2.keep (.same (s1.trans s2)), hB, fun b H3 s3 hb => ⟨_, rfl, ?_⟩⟩
              have hb' : b = true ↔ ∃ L, GridL H (x.length + 1) (y.length + 1) v L := hb.trans ⟨fun ⟨L, g⟩ => ⟨L, GridL.back iv2 (.same (s1.trans s2)) g⟩, fun ⟨L, g⟩ => ⟨L, g.keep (.same (s1.trans s2))⟩⟩
              have fl : (([vb, vc].take i).filter fun v => decide (¬ ∃ L, GridL H (x.length + 1) (y.length + 1) v L)).length ≤ 2 := by
                refine Nat.le_trans (List.length_filter_le _ _) ?_
                rw [List.length_take]
                exact Nat.min_le_right _ _
              cases b with
              | false =>
                have no : ¬ ∃ L, GridL H (x.length + 1) (y.length + 1) v L := fun h => Bool.false_ne_true (hb'.mpr h)
                refine iteT ⟨_, rfl, _, s3 _ _ hD2, fewL (by omega), ?_, upd_out hD (s2.trans s3)⟩
                rw [upd_same, take_snoc hv, List.filter_append, List.filter_cons_of_pos (by rw [decide_eq_true no]), List.filter_nil]
              | true =>
                have is := hb'.mp rfl
                refine iteF ⟨?_, s2.trans s3⟩
                rw [s3 _ _ hD2, take_snoc hv, List.filter_append, List.filter_cons_of_neg (by rw [decide_eq_false (not_not_intro is)]; exact Bool.false_ne_true), List.filter_nil, List.append_nil]
            · rintro H2 ⟨hD2, s2⟩
              have hD2 : H2 D = some (.lst ([vb, vc].filter fun v => decide (¬ ∃ L, GridL H (x.length + 1) (y.length + 1) v L))) := hD2
              refine ⟨by show 0 ≤ sizeLine; decide, fun q hq => ?_⟩
              have sq := same_new (o := .lst []) hq
              refine ⟨D, _, q, rfl, rfl, SqL.of (sq _ _ hD2), SqL.of upd_same, _, rfl, ?_⟩
              have s13 := (s1.trans s2).trans sq
              by_cases gb : ∃ L, GridL H (x.length + 1) (y.length + 1) vb L
              · by_cases gc : ∃ L, GridL H (x.length + 1) (y.length + 1) vc L
                · rw [show ([vb, vc].filter fun v => decide (¬ ∃ L, GridL H (x.length + 1) (y.length + 1) v L)) = [] by
                    rw [List.filter_cons_of_neg (by rw [decide_eq_false (not_not_intro gb)]; exact Bool.false_ne_true), List.filter_cons_of_neg (by rw [decide_eq_false (not_not_intro gc)]; exact Bool.false_ne_true), List.filter_nil]]
                  refine iteF ?_
                  obtain ⟨LA, grA0⟩ := gb
                  obtain ⟨LF, grF0⟩ := gc
                  obtain ⟨ga, rfl⟩ := grA0.ref
                  obtain ⟨gf, rfl⟩ := grF0.ref
                  have eq : ∀ tot, PriP H x y e tot (.ref t) ↔ PricesL LA LF x y e tot := fun tot => ⟨fun h => by
                    obtain ⟨a, f, A, F, e, h2, h3, h4⟩ := h.three tv
                    cases e
                    cases grA0.inj h2
                    cases grF0.inj h3
                    exact h4, fun h => ⟨_, _, LA, LF, tv, grA0, grF0, h⟩⟩
                  generalize upd H2 q (.lst []) = H4 at s13
                  have grA := grA0.keep (.same s13)
                  have grF := grF0.keep (.same s13)
                  have ht2 := s13 _ _ ht
                  dsimp only [tNext]
                  refine or_by (p := ent LA 0 0 ≠ 0) (q := ent LA x.length y.length ≠ tot) (ne_by (ent_by (i := 0) (j := 0) grA (Nat.zero_le _) (Nat.zero_le _) (ix_by ht2 at1 (v_of rfl) c_of) c_of c_of) c_of) (fun _ => ne_by (end_by grA (ix_by ht2 at1 (v_of rfl) c_of)) (v_of rfl)) ?_
                  by_cases z : ent LA 0 0 ≠ 0 ∨ ent LA x.length y.length ≠ tot
                  · rw [decide_eq_true z]
                    exact iteT (k false H4 s13 ⟨nofun, fun h => by
                      obtain ⟨h1, h2, _⟩ := (eq tot).mp h
                      rcases z with z | z
                      · exact absurd h1 z
                      · exact absurd h2 z⟩)
                  · rw [decide_eq_false z]
                    refine iteF ?_
                    dsimp only [tNext]
                    refine ⟨_, rfl, _, rfl, _, rfl, ?_⟩
                    refine ⟨_, rfl, t, _, _, _, rfl, rfl, SqT.of ht2, at1, _, rfl, t, _, _, _, rfl, rfl, SqT.of ht2, at2, x, y, e, ga, gf, LA, LF, rfl, grA, grF, hx, hy, fun b H5 s5 hb => k b H5 (s13.trans s5) (hb.trans ⟨fun h => (eq tot).mpr ⟨?_, ?_, h⟩, fun h => ((eq tot).mp h).2.2⟩)⟩
                    · exact Decidable.byContradiction fun q => z (.inl q)
                    · exact Decidable.byContradiction fun q => z (.inr q)
                · have ne : ([vb, vc].filter fun v => decide (¬ ∃ L, GridL H (x.length + 1) (y.length + 1) v L)).length ≠ 0 := fun z => by
                    have := List.filter_eq_nil_iff.mp (List.eq_nil_of_length_eq_zero z) vc (by simp)
                    exact this (decide_eq_true gc)
                  rw [decide_eq_false ne]
                  exact iteT (k false _ s13 ⟨nofun, fun h => by
                    obtain ⟨a, f, A, F, e, _, h3, _⟩ := h.three tv
                    cases e
                    exact absurd ⟨F, h3⟩ gc⟩)
              · have ne : ([vb, vc].filter fun v => decide (¬ ∃ L, GridL H (x.length + 1) (y.length + 1) v L)).length ≠ 0 := fun z => by
                  have := List.filter_eq_nil_iff.mp (List.eq_nil_of_length_eq_zero z) vb (by simp)
                  exact this (decide_eq_true gb)
                rw [decide_eq_false ne]
                exact iteT (k false _ s13 ⟨nofun, fun h => by
                  obtain ⟨a, f, A, F, e, h2, _⟩ := h.three tv
                  cases e
                  exact absurd ⟨A, h2⟩ gb⟩)
          · rw [decide_eq_false c1]
            exact iteT (k false H Same.rfl ⟨nofun, fun h => by
              obtain ⟨a, f, A, F, e, _⟩ := h.three tv
              cases e
              exact absurd rfl c1⟩)
      | [], ht, tv, itm => exact iteT (k false H Same.rfl ⟨nofun, fun h => by
          obtain ⟨a, f, A, F, e, _⟩ := h.three tv
          cases e⟩)
      | [va], ht, tv, itm => exact iteT (k false H Same.rfl ⟨nofun, fun h => by
          obtain ⟨a, f, A, F, e, _⟩ := h.three tv
          cases e⟩)
      | [va, vb], ht, tv, itm => exact iteT (k false H Same.rfl ⟨nofun, fun h => by
          obtain ⟨a, f, A, F, e, _⟩ := h.three tv
          cases e⟩)
      | va :: vb :: vc :: vd :: r, ht, tv, itm =>
        rw [show decide (V.int (((va :: vb :: vc :: vd :: r).length : Nat) : Int) = V.int 3) = false from decide_eq_false fun z => by
          have := V.int.inj z
          simp only [List.length_cons] at this
          omega]
        exact iteT (k false H Same.rfl ⟨nofun, fun h => by
          obtain ⟨a, f, A, F, e, _⟩ := h.three tv
          cases e⟩)
end
end Vk
set_option Elab.async false
set_option maxRecDepth 100000
set_option linter.all false
set_option maxHeartbeats 4000000
namespace Vk
open PySem PySem.Spec PyProof.Rows L2
theorem cutV_to {xs : List V} {k : Nat} : (cutV xs none (some (k : Int))).length ≤ k := by
  unfold cutV
  rw [List.length_take, HT.sIx_nat]
  omega
theorem cutV_from {xs : List V} {k : Nat} (h : k < xs.length) : (cutV xs (some ((k : Int) + 1)) none).length ≤ xs.length - (k + 1) := by
  unfold cutV
  have e : ((k : Int) + 1) = ((k + 1 : Nat) : Int) := by omega
  rw [List.length_take, List.length_drop, e, HT.sIx_nat]
  omega
section
variable {K : PySem.W.Frag} {H : Hp}
theorem sl_go {t : Addr} {xs : List V} {lo hi : Option Int} {Q : VK} (hx : H t = some (.tup xs)) (q : ∀ u ys H', Same H H' → H' u = some (.tup ys) → ys.length ≤ xs.length → (∀ y ∈ ys, y ∈ xs) → (ys = cutV xs lo hi ∨ ys = xs ∧ HT.sIx xs.length 0 lo = 0 ∧ HT.sIx xs.length xs.length hi = xs.length) → Q (.ref u) H') : rSlA K (.ref t) lo hi H Q :=
  ⟨t, xs, rfl, SqT.of hx, fun h => q t xs H Same.rfl hx (Nat.le_refl _) (fun y hy => hy) (.inr ⟨rfl, h⟩), fun _ p hp => q p _ _ (same_new hp) upd_same (cutV_length _ _ _) (fun y hy => cutV_mem hy) (.inl rfl)⟩
theorem cat_go {a b : Addr} {xs ys : List V} {Q : VK} (ha : H a = some (.tup xs)) (hb : H b = some (.tup ys)) (hl : xs.length + ys.length ≤ sizeLine) (q : ∀ u H', Same H H' → H' u = some (.tup (xs ++ ys)) → Q (.ref u) H') : rCatA K (.ref a) (.ref b) H Q := by
  refine ⟨a, b, xs, ys, rfl, rfl, SqT.of ha, SqT.of hb, hl, fun e => ?_, fun _ e => ?_, fun _ _ p hp => q p _ (same_new hp) upd_same⟩
  · subst e
    exact q b H Same.rfl hb
  · subst e
    exact q a H Same.rfl (by rw [List.append_nil]; exact ha)
end
theorem IsV.sub {H H1 : Hp} {B C n : Nat} {t u : Addr} {xs ys : List V} (iv : IsV H B n (.ref t)) (ht : H t = some (.tup xs)) (hu : H1 u = some (.tup ys)) (k : Kp H H1) (hC : B ≤ C) (hl : ys.length ≤ C) (m : ∀ y ∈ ys, y ∈ xs) : IsV H1 C n (.ref u) := by
  cases iv with
  | lst e => rw [e] at ht; cases ht
  | dct e => rw [e] at ht; cases ht
  | nil e =>
    rw [e] at ht; cases ht
    match ys, m, hu with
    | [], _, hu => exact .nil hu
    | y :: ys, m, _ => exact absurd (m y List.mem_cons_self) List.not_mem_nil
  | tup e l q =>
    rw [e] at ht; cases ht
    exact .tup hu hl fun y hy => ((q y (m y hy)).keep k).mono hC
theorem cutV_one {xs ys : List V} (c3 : ys = cutV xs none (some (1 : Int)) ∨ ys = xs ∧ HT.sIx xs.length 0 none = 0 ∧ HT.sIx xs.length xs.length (some (1 : Int)) = xs.length) : ys.length ≤ 1 := by
  rcases c3 with rfl | ⟨rfl, _, c3⟩
  · exact cutV_to (k := 1)
  · have := HT.sIx_nat ys.length ys.length 1
    rw [show ((1 : Nat) : Int) = 1 from rfl, c3] at this
    omega
theorem cut_til {xs ys : List V} {d : Int} (h0 : 0 ≤ d) (c3 : ys = cutV xs none (some d) ∨ ys = xs ∧ HT.sIx xs.length 0 none = 0 ∧ HT.sIx xs.length xs.length (some d) = xs.length) : ys.length ≤ d.toNat := by
  have e : ((d.toNat : Nat) : Int) = d := Int.toNat_of_nonneg h0
  rcases c3 with rfl | ⟨rfl, _, c3⟩
  · rw [← e]; exact cutV_to
  · have := HT.sIx_nat ys.length ys.length d.toNat
    rw [e, c3] at this
    omega
theorem cut_behind {xs ys : List V} {d : Int} (h0 : 0 ≤ d) (h1 : d < (xs.length : Int)) (c3 : ys = cutV xs (some (d + 1)) none ∨ ys = xs ∧ HT.sIx xs.length 0 (some (d + 1)) = 0 ∧ HT.sIx xs.length xs.length none = xs.length) : ys.length ≤ xs.length - (d.toNat + 1) := by
  have e : ((d.toNat : Nat) : Int) = d := Int.toNat_of_nonneg h0
  rcases c3 with rfl | ⟨rfl, c3, _⟩
  · rw [← e]; exact cutV_from (by omega)
  · have := HT.sIx_nat ys.length 0 (d.toNat + 1)
    rw [show (((d.toNat + 1 : Nat) : Nat) : Int) = d + 1 by omega, c3] at this
    omega
section
variable {P : Program} {w : World} {K : PySem.W.Frag} {mg : Str → Option Value} {base : Heap}
theorem nxt_go {D : Ends} {σ : L2.St} {H : Hp} (h : D.nx σ H) : tNext D σ H := h
theorem nop_go {σ : L2.St} {H : Hp} {Q : Option Int → Hp → Prop} (h : Q none H) : tNoPart σ H Q := h
theorem join {A : TT} {σ : L2.St} {H : Hp} {X Y : Hp → Prop} (R : Hp → Prop) (hy : ∀ H1, R H1 → Y H1) (h : (∀ H1, R H1 → Y H1) → A σ H (fun b H1 => if b = true then X H1 else Y H1)) : A σ H (fun b H1 => if b = true then X H1 else Y H1) := h hy
def spBent : Nat → Sp
  | 0 => fun _ _ _ _ => False
  | n + 1 => fun vs H Q _ => ∃ (p c : Addr) (T : Nat) (v : V) (B : Nat), vs = [.ref p, v] ∧ IsV H B n v ∧ 200 ≤ B ∧ B ≤ 3900 ∧ Pen H p c T ∧ T + 2 * n + 10 < 1000000000 ∧ ∀ v' H', IsV H' (B + 8) n v' → Pen H' p c (T + 2 * n + 2) → Ext p H H' → Q v' H'
abbrev s_lnbent : Stmt := top 27
theorem sc_lnbent : FnScope ["_law_pen_here", "_law_thing", "_law_k"] ["_law_pen_here", "_law_thing"] (defScope s_lnbent) := ⟨rfl, rfl, rfl, by decide +kernel, rfl, by decide +kernel, by decide +kernel⟩
theorem pick_end {H : Hp} {p c q : Addr} {T B d : Nat} {xs : List V} {Q : VK} {E : XK} (hq : H q = some (.lst xs)) (ne : xs ≠ []) (hl : xs.length ≤ 1000) (hall : ∀ v ∈ xs, IsV H B d v) (P0 : Pen H p c T) (hT : T < 1000000000) (k : ∀ v H', IsV H' B d v → Pen H' p c (T + 1) → Ext p H H' → Q v H') : spPick K [.ref p, .ref q] H Q E :=
  ⟨p, c, .ref q, xs, T, rfl, .lst (SqL.of hq), ne, hl, P0, hT, fun v H6 m6 P6 x6 => k v H6 ((hall v m6).keep (.pen P0 x6 P6)) P6 x6⟩
theorem b_lnbent (n : Nat) (hn : n ≤ 10) {f : Addr} {fd : FuncData} (F : Fun K "_law_nbent" "_law_nbent" s_lnbent f fd) (T : Txt mg) (c_ldraw : CalG P w K mg base CX0 1 "_law_draw" spDraw) (c_lpick : CalG P w K mg base CX0 2 "_law_pick" (spPick K)) (c_lnbent : CalG P w K mg base CX0 (2 + n) "_law_nbent" (spBent n)) : FnG P w K mg base CX0 (2 + n + 1) f fd ["_law_pen_here", "_law_thing"] (spBent (n + 1)) := by
  refine okG0 F sc_lnbent (fun vs H Q E h => ?_) (fun cdv A outer s H vs Q E hg hr h => ?_)
  · obtain ⟨p, c, T0, v, B, rfl, _⟩ := h
    rfl
  · have hu := hu_of hr
    have hu64 := hr.units
    obtain ⟨p, c, T0, v, B, rfl, iv, hB, hB2, hpen, hT, k⟩ := h
    obtain ⟨ty, tyx, ⟨bt, kt, ht1, ht0⟩, ⟨bi, ki, i1, i0⟩, _, ⟨bs, ks, s1, s0⟩⟩ := kit_any (K := K) iv
    refine ⟨_, (pss_cons (ps_if (PW.pt (pw_and (pt_val (pe_callB call_isi (by rfl) T.isinstance (by decide +kernel) (pa_cons (pv 1) (pa_cons (pe_bltn (v := .ty "tuple") (by rfl) T.tuple rfl rfl) pa_nil)))) (pw_and (pt_cmpR (op_neNilT hu64) (pv 1) (pe_tup pa_nil) (nomark _)) (pw_and1 (pt_cmpR op_gt (pe_cG c_ldraw hg hr (by omega) pass0 (pa_cons (pv 0) (pa_cons pe_int pa_nil))) pe_int (nomark _)))))) (pss_cons (ps_set (i := 2) sc_lnbent.nd rfl (Or.inl rfl) (pe_cG c_ldraw hg hr (by omega) pass0 (pa_cons (pv 0) (pa_cons (pe_callB call_len (by rfl) T.len (by decide +kernel) (pa_cons (pv 1) pa_nil)) pa_nil))))
      (pss_one (ps_ret (pe_op op_catA (pe_op op_catA (pe_slice sl_tupA (pv 1) po_none (po_some (pv 2))) (pe_tup (pa_cons (pe_cG c_lnbent hg hr (by omega) pass0 (pa_cons (pv 0) (pa_cons (pe_ix ix_tup (pv 1) (pv 2) (fun _ _ => rfl)) pa_nil))) pa_nil))) (pe_slice sl_tupA (pv 1) (po_some (pe_op op_add (pv 2) pe_int)) po_none))))) pss_nil)
      (pss_cons (ps_if (pt_val (pe_callB call_isi (by rfl) T.isinstance (by decide +kernel) (pa_cons (pv 1) (pa_cons (pe_bltn (v := .ty "tuple") (by rfl) T.tuple rfl rfl) pa_nil)))) (pss_one (ps_ret (pe_cG c_lpick hg hr (by omega) pass0 (pa_cons (pv 0) (pa_cons (pe_lst (pa_cons (pe_slice sl_tupA (pv 1) (po_some pe_int) po_none) (pa_cons (pe_op op_catA (pv 1) (pe_slice sl_tupA (pv 1) po_none (po_some pe_int))) (pa_cons (pe_callTy call_list_of (by rfl) T.list (by decide +kernel) (pa_cons (pv 1) pa_nil)) (pa_cons pe_non (pa_cons pe_dnewK pa_nil)))))) pa_nil))))) pss_nil)
      (pss_cons (ps_if (pt_val (pe_callB call_isi (by rfl) T.isinstance (by decide +kernel) (pa_cons (pv 1) (pa_cons (pe_bltn (v := .ty "int") (by rfl) T.int rfl rfl) pa_nil)))) (pss_one (ps_ret (pe_cG c_lpick hg hr (by omega) pass0 (pa_cons (pv 0) (pa_cons (pe_lst (pa_cons (pe_op op_addNB (pv 1) pe_int) (pa_cons (pe_op op_subNB (pv 1) pe_int) (pa_cons (pe_op op_addNB (pv 1) pe_int) (pa_cons (pe_op op_subNB (pv 1) pe_int) (pa_cons (pe_op op_addNB (pv 1) pe_int) (pa_cons (pe_callTy call_bool1 (by rfl) T.bool (by decide +kernel) (pa_cons (pv 1) pa_nil)) (pa_cons (pe_callTy Vk.call_strNB (by rfl) T.str (by decide +kernel) (pa_cons (pv 1) pa_nil)) (pa_cons pe_non pa_nil))))))))) pa_nil))))) pss_nil)
      (pss_cons (ps_if (pt_val (pe_callB call_isi (by rfl) T.isinstance (by decide +kernel) (pa_cons (pv 1) (pa_cons (pe_bltn (v := .ty "str") (by rfl) T.str rfl rfl) pa_nil)))) (pss_one (ps_ret (pe_cG c_lpick hg hr (by omega) pass0 (pa_cons (pv 0) (pa_cons (pe_lst (pa_cons pe_str (pa_cons pe_str (pa_cons (pe_op op_add_str (pv 1) pe_str) (pa_cons pe_str (pa_cons pe_non (pa_cons pe_int (pa_cons (pe_tup pa_nil) pa_nil)))))))) pa_nil))))) pss_nil)
      (pss_one (ps_ret (pe_cG c_lpick hg hr (by omega) pass0 (pa_cons (pv 0) (pa_cons (pe_lst (pa_cons pe_int (pa_cons pe_int (pa_cons (pe_tup pa_nil) pa_nil)))) pa_nil))))))))), ?_⟩
    refine ⟨_, rfl, v, .ty "tuple", ty, .type "tuple", bt, rfl, .ty "tuple", tyx, kt, ?_⟩
    cases bt with
    | false =>
      refine ⟨false, rfl, iteF (iteF ?_)⟩
      refine ⟨_, rfl, v, .ty "tuple", ty, .type "tuple", false, rfl, .ty "tuple", tyx, kt, false, rfl, iteF ?_⟩
      refine ⟨_, rfl, v, .ty "int", ty, .type "int", bi, rfl, .ty "int", tyx, ki, bi, rfl, ?_⟩
      cases bi with
      | true =>
        obtain ⟨i, nv⟩ := i1 rfl
        refine iteT ?_
        have nb : i.natAbs ≤ 1000000 + B := by
          cases nv with
          | int =>
            cases iv with
            | int _ h => exact h (by omega)
          | bl b => cases b <;> (show (_ : Nat) ≤ _; simp [ivB]) <;> omega
        have shw : Showy (.int i) 0 101 := Showy.int (Nat.lt_of_le_of_lt (Nat.le_trans nb (show 1000000 + B ≤ 1003900 by omega)) (by decide +kernel))
        have lg : i.natAbs.log2 < 1920 := of_decide_eq_true shw.sh
        have sl : (Str.ofString (toString i)).length ≤ 101 := shw.ln
        have fin : ∀ (w1 w2 : V), (∀ H', IsV H' (B + 8) n w1) → (∀ H', IsV H' (B + 8) n w2) → ∀ q, H q = none → spPick K [.ref p, .ref q] (upd H q (.lst [.int (i + 1), .int (i - 1), .int (i + 1), .int (i - 1), .int (i + 7), w1, w2, .non])) Q E0 := fun w1 w2 h1 h2 q hq => by
          have sq := same_new (o := .lst [.int (i + 1), .int (i - 1), .int (i + 1), .int (i - 1), .int (i + 7), w1, w2, .non]) hq
          refine pick_end (E := E0) (B := B + 8) (d := n) upd_same (fun z => nomatch z) (Nat.le_of_ble_eq_true rfl) (fun v hv => ?_) (hpen.stay sq) (by omega) fun v' H8 iv' P8 x8 => k v' H8 iv' (P8.mono (by omega)) ((Ext.same sq).trans x8)
          rcases List.mem_cons.mp hv with rfl | hv
          · exact .int _ fun _ => by omega
          rcases List.mem_cons.mp hv with rfl | hv
          · exact .int _ fun _ => by omega
          rcases List.mem_cons.mp hv with rfl | hv
          · exact .int _ fun _ => by omega
          rcases List.mem_cons.mp hv with rfl | hv
          · exact .int _ fun _ => by omega
          rcases List.mem_cons.mp hv with rfl | hv
          · exact .int _ fun _ => by omega
          rcases List.mem_cons.mp hv with rfl | hv
          · exact h1 _
          rcases List.mem_cons.mp hv with rfl | hv
          · exact h2 _
          rcases List.mem_cons.mp hv with rfl | hv
          · exact .non
          · cases hv
        cases nv with
        | int =>
          refine ⟨_, rfl, _, rfl, _, _, .int _, rfl, _, rfl, _, _, .int _, rfl, _, rfl, _, _, .int _, rfl, _, rfl, _, _, .int _, rfl, _, rfl, _, _, .int _, rfl, _, rfl, .inl ⟨_, rfl, ?_⟩⟩
          refine ⟨_, rfl, _, _, rfl, .int _, lg, fun j e => ?_, fun b e => nomatch e⟩
          cases e
          exact ⟨by show 8 ≤ sizeLine; decide, fun q hq => fin _ _ (fun _ => .bl _) (fun _ => .str _ (by omega)) q hq⟩
        | bl b =>
          refine ⟨_, rfl, _, rfl, _, _, .bl _, rfl, _, rfl, _, _, .bl _, rfl, _, rfl, _, _, .bl _, rfl, _, rfl, _, _, .bl _, rfl, _, rfl, _, _, .bl _, rfl, _, rfl, .inr ⟨_, rfl, ?_⟩⟩
          refine ⟨_, rfl, _, _, rfl, .bl _, lg, (by intro j e; cases e), fun b' e => ?_⟩
          cases e
          exact ⟨by show 8 ≤ sizeLine; decide, fun q hq => fin _ _ (fun _ => .bl _) (fun _ => .str _ (by cases b <;> exact Nat.le_trans (Nat.le_of_ble_eq_true (m := 200) rfl) (by omega))) q hq⟩
      | false =>
        refine iteF ?_
        refine ⟨_, rfl, v, .ty "str", ty, .type "str", bs, rfl, .ty "str", tyx, ks, bs, rfl, ?_⟩
        cases bs with
        | true =>
          obtain ⟨z, rfl⟩ := s1 rfl
          have zl : z.length ≤ B := by
            cases iv with
            | str _ h => exact h
          have e39 : 4000 ≤ sizeLine := by decide
          refine iteT ?_
          refine ⟨_, rfl, _, rfl, _, _, rfl, rfl, (show z.length + 1 ≤ sizeLine by omega), ?_⟩
          refine ⟨by show 0 ≤ sizeLine; decide, fun q1 hq1 => ?_⟩
          refine ⟨by show 7 ≤ sizeLine; decide, fun q hq => ?_⟩
          have s1 := same_new (o := .tup []) hq1
          have sq := same_new (o := .lst [.str "far", .str "prices", .str (z ++ "x"), .str "", .non, .int 1, .ref q1]) hq
          refine pick_end (E := E0) (B := B + 8) (d := n) upd_same (fun z => nomatch z) (Nat.le_of_ble_eq_true rfl) (fun v hv => ?_) ((hpen.stay s1).stay sq) (by omega) fun v' H8 iv' P8 x8 => k v' H8 iv' (P8.mono (by omega)) ((Ext.same (s1.trans sq)).trans x8)
          rcases List.mem_cons.mp hv with rfl | hv
          · exact .str _ (show 3 ≤ B + 8 by omega)
          rcases List.mem_cons.mp hv with rfl | hv
          · exact .str _ (show 6 ≤ B + 8 by omega)
          rcases List.mem_cons.mp hv with rfl | hv
          · refine .str _ ?_
            rw [Str.length_append]
            show z.length + 1 ≤ B + 8
            omega
          rcases List.mem_cons.mp hv with rfl | hv
          · exact .str _ (show 0 ≤ B + 8 by omega)
          rcases List.mem_cons.mp hv with rfl | hv
          · exact .non
          rcases List.mem_cons.mp hv with rfl | hv
          · exact .int _ fun _ => (show 1 ≤ 1000000 + (B + 8) by omega)
          rcases List.mem_cons.mp hv with rfl | hv
          · exact .nil (sq _ _ upd_same)
          · cases hv
        | false =>
          refine iteF ?_
          refine nxt_go ⟨_, rfl, by show 0 ≤ sizeLine; decide, fun q1 hq1 => ?_⟩
          refine ⟨by show 3 ≤ sizeLine; decide, fun q hq => ?_⟩
          have s1 := same_new (o := .tup []) hq1
          have sq := same_new (o := .lst [.int 0, .int 1, .ref q1]) hq
          refine pick_end (E := E0) (B := B + 8) (d := n) upd_same (fun z => nomatch z) (Nat.le_of_ble_eq_true rfl) (fun v hv => ?_) ((hpen.stay s1).stay sq) (by omega) fun v' H8 iv' P8 x8 => k v' H8 iv' (P8.mono (by omega)) ((Ext.same (s1.trans sq)).trans x8)
          rcases List.mem_cons.mp hv with rfl | hv
          · exact .int _ fun _ => (show 0 ≤ 1000000 + (B + 8) by omega)
          rcases List.mem_cons.mp hv with rfl | hv
          · exact .int _ fun _ => (show 1 ≤ 1000000 + (B + 8) by omega)
          rcases List.mem_cons.mp hv with rfl | hv
          · exact .nil (sq _ _ upd_same)
          · cases hv
    | true =>
      obtain ⟨xs, t, rfl, ht⟩ := ht1 rfl
      have tv : TupV H (.ref t) xs := ⟨t, rfl, ht⟩
      have xl := iv.len tv
      have e39 : 3900 + 3900 ≤ sizeLine := by decide
      refine ⟨true, rfl, iteT ?_⟩
      refine join (fun H1 => ∃ T1, Pen H1 p c T1 ∧ T1 ≤ T0 + 1 ∧ Ext p H H1) ?_ (fun hy => ?_)
      · rintro H1 ⟨T1, P1, hT1, x1⟩
        have kp := Kp.pen hpen x1 P1
        have h1 := kp.tup _ _ ht
        refine ⟨_, rfl, .ref t, .ty "tuple", .type "tuple", .type "tuple", true, rfl, .ty "tuple", .base (.tup h1), kit_ty (by decide +kernel), true, rfl, iteT ?_⟩
        refine ⟨_, rfl, _, rfl, _, rfl, nop_go ?_⟩
        refine sl_go h1 fun u2 ys2 H2 s2 hu2 l2 m2 _ => ?_
        have h2 := s2 _ _ h1
        refine ⟨_, rfl, _, rfl, nop_go ⟨_, rfl, ?_⟩⟩
        refine sl_go h2 fun u3 ys3 H3 s3 hu3 l3 m3 c3 => ?_
        have h3 := s3 _ _ h2
        refine cat_go h3 hu3 (by omega) fun u4 H4 s4 hu4 => ?_
        have h4 := s4 _ _ h3
        refine ⟨_, rfl, t, xs, rfl, .inr (SqT.of h4), fun q5 hq5 => ?_⟩
        have s5 := same_new (o := .lst xs) hq5
        refine fun d6 hd6 => ?_
        have s6 := same_new (o := .dK []) hd6
        refine ⟨by show 5 ≤ sizeLine; decide, fun q7 hq7 => ?_⟩
        have s7 := same_new (o := .lst [.ref u2, .ref u4, .ref q5, .non, .ref d6]) hq7
        have s17 : Same H1 _ := (((((s2.trans s3).trans s4).trans s5).trans s6).trans s7)
        have k17 : Kp H1 _ := .same s17
        have l3' : ys3.length ≤ 1 := cutV_one c3
        refine pick_end (E := E0) (B := B + 8) (d := n) upd_same (fun z => nomatch z) (Nat.le_of_ble_eq_true rfl) (fun v hv => ?_) (P1.stay s17) (by omega) fun v' H8 iv' P8 x8 => k v' H8 iv' (P8.mono (by omega)) ((x1.trans (.same s17)).trans x8)
        have kk := kp.trans k17
        rcases List.mem_cons.mp hv with rfl | hv
        · exact iv.sub ht (((((s3.trans s4).trans s5).trans s6).trans s7) _ _ hu2) kk (by omega) (by omega) m2
        rcases List.mem_cons.mp hv with rfl | hv
        · exact iv.sub ht (((s5.trans s6).trans s7) _ _ hu4) kk (by omega) (by rw [List.length_append]; omega) fun y hy => by
            rcases List.mem_append.mp hy with hy | hy
            · exact hy
            · exact m3 y hy
        rcases List.mem_cons.mp hv with rfl | hv
        · exact .lst ((s6.trans s7) _ _ upd_same)
        rcases List.mem_cons.mp hv with rfl | hv
        · exact .non
        rcases List.mem_cons.mp hv with rfl | hv
        · exact .dct (s7 _ _ upd_same)
        · cases hv
      · refine ⟨_, rfl, by show 0 ≤ sizeLine; decide, fun q hq => ?_⟩
        have sq := same_new (o := .tup []) hq
        refine ⟨t, xs, q, rfl, rfl, SqT.of (sq _ _ ht), SqT.of upd_same, _, rfl, ?_⟩
        cases xs with
        | nil => exact iteF (iteF (hy _ ⟨T0, hpen.stay sq, by omega, .same sq⟩))
        | cons x0 xr =>
          refine iteT ?_
          refine ⟨_, rfl, p, c, 8, T0, rfl, by decide, by decide, hpen.stay sq, by omega, fun d1 H1 d1a d1b P1 x1 => ?_⟩
          have x1 := (Ext.same sq).trans x1
          refine ⟨_, _, rfl, rfl, _, rfl, ?_⟩
          by_cases d0 : 0 < d1
          · rw [decide_eq_true d0]
            refine iteT ?_
            have kp1 := Kp.pen hpen x1 P1
            have h1 := kp1.tup _ _ ht
            refine ⟨_, rfl, _, rfl, _, _, rfl, .inr ⟨_, SqT.of h1, rfl⟩, ?_⟩
            have xl2 : ((x0 :: xr).length : Int) ≤ 3900 := by omega
            have xl3 : 0 < (x0 :: xr).length := Nat.succ_pos _
            generalize hxs : x0 :: xr = xs at *
            refine ⟨p, c, _, T0 + 1, rfl, by omega, by omega, P1, by omega, fun d2 H2 d2a d2b P2 x2 => ?_⟩
            have x12 := x1.trans x2
            have kp2 := Kp.pen hpen x12 P2
            have h2 := kp2.tup _ _ ht
            cases n with
            | zero =>
              cases iv with
              | lst e => rw [e] at ht; cases ht
              | dct e => rw [e] at ht; cases ht
              | nil e => rw [e] at ht; cases ht; cases xl3
            | succ m =>
              have itm := iv.items tv
              refine name_go ⟨_, rfl, nop_go ⟨_, rfl, _, rfl, ?_⟩⟩
              refine sl_go h2 fun u3 ys3 H3 s3 hu3 l3 m3 c3 => ?_
              have h3 := s3 _ _ h2
              obtain ⟨xk, hxk⟩ : ∃ xk, xs[d2.toNat]? = some xk := ⟨xs[d2.toNat]'(by omega), List.getElem?_eq_getElem (by omega)⟩
              have ea : atI xs d2 = some xk := by
                have := atI_nat hxk
                rw [Int.toNat_of_nonneg d2a] at this
                exact this
              have ik := (itm xk (List.mem_of_getElem? hxk)).keep (kp2.trans (.same s3))
              refine ⟨_, rfl, _, rfl, _, rfl, t, _, _, xk, rfl, rfl, SqT.of h3, ea, p, c, T0 + 2, xk, B, rfl, ik, hB, hB2, P2.stay s3, by omega, fun v' H4 iv' P4 x4 => ?_⟩
              have x14 := (x12.trans (.same s3)).trans x4
              have k34 := Kp.pen (P2.stay s3) x4 P4
              have h4 := k34.tup _ _ h3
              have hu4 := k34.tup _ _ hu3
              refine ⟨by show 1 ≤ sizeLine; decide, fun q5 hq5 => ?_⟩
              have s5 := same_new (o := .tup [v']) hq5
              have l3' := cut_til d2a c3
              refine cat_go (s5 _ _ hu4) upd_same (by rw [List.length_singleton]; omega) fun u6 H6 s6 hu6 => ?_
              have h6 := s6 _ _ (s5 _ _ h4)
              refine ⟨_, rfl, _, rfl, _, _, rfl, rfl, _, rfl, nop_go ?_⟩
              refine sl_go h6 fun u7 ys7 H7 s7 hu7 l7 m7 c7 => ?_
              have l7' := cut_behind d2a d2b c7
              refine cat_go (s7 _ _ hu6) hu7 (by rw [List.length_append, List.length_singleton]; omega) fun u8 H8 s8 hu8 => ?_
              have s48 := ((s5.trans s6).trans s7).trans s8
              refine k _ H8 (.tup hu8 (by rw [List.length_append, List.length_append, List.length_singleton]; omega) fun y hy => ?_) ((P4.stay s48).mono (by omega)) (x14.trans (.same s48))
              have k8 : Kp H H8 := .pen hpen (x14.trans (.same s48)) (P4.stay s48)
              rcases List.mem_append.mp hy with hy | hy
              · rcases List.mem_append.mp hy with hy | hy
                · exact ((itm y (m3 y hy)).keep k8).mono (by omega)
                · rw [List.mem_singleton.mp hy]
                  exact iv'.keep (.same s48)
              · exact ((itm y (m7 y hy)).keep k8).mono (by omega)
          · rw [decide_eq_false d0]
            exact iteF (hy _ ⟨T0 + 1, P1, Nat.le_refl _, x1⟩)
end
end Vk
set_option Elab.async false
set_option maxRecDepth 100000
set_option linter.all false
set_option maxHeartbeats 4000000
namespace Vk
open PySem PySem.Spec PyProof.Rows L2 StX
theorem GridL.isV {H : Hp} {n m B : Nat} {v : V} {L : List (List Int)} (g : GridL H n m v L) (hn : n ≤ B) (hm : m ≤ B) (hL : ∀ r ∈ L, ∀ i ∈ r, i.natAbs ≤ 1000000) : IsV H B 2 v := by
  obtain ⟨rows, ⟨t, rfl, ht⟩, h2, h3⟩ := g
  refine .tup ht (by rw [paired_len h2, h3]; exact hn) fun r hr => ?_
  obtain ⟨c, hc, ⟨u, rfl, hu⟩, hl⟩ := paired_mem h2 hr
  refine .tup hu (by rw [List.length_map, hl]; exact hm) fun e he => ?_
  obtain ⟨i, hi, rfl⟩ := List.mem_map.mp he
  exact .int i fun _ => Nat.le_trans (hL c hc i hi) (by omega)
theorem gridOf_small {G : Nat → Nat → Nat} {n m : Nat} (h : ∀ i j, G i j ≤ 1000000) : ∀ r ∈ gridOf G n m, ∀ i ∈ r, i.natAbs ≤ 1000000 := fun r hr i hi => by
  obtain ⟨k, _, rfl⟩ := List.mem_map.mp hr
  obtain ⟨j, _, rfl⟩ := List.mem_map.mp hi
  rw [Int.natAbs_natCast]
  exact h k j
theorem gridOf_cut {G : Nat → Nat → Nat} {n m M : Nat} (h : ∀ i j, G i j ≤ M) : gridOf G n m = gridOf (fun i j => min (G i j) M) n m := by
  have : G = fun i j => min (G i j) M := funext fun i => funext fun j => (Nat.min_eq_left (h i j)).symm
  exact congrArg (fun G => gridOf G n m) this
theorem kX_top {x y : Str} {e i j : Nat} : kX x y e i j ≤ beyond x.cps.toList y.cps.toList e := (kF_least (a := x.cps.toList) (b := y.cps.toList) (once := onceX x) (e := e) i j).top
theorem gX_top {x y : Str} {e i j : Nat} : gX x y e i j ≤ beyond x.cps.toList y.cps.toList e := (gF_least (a := x.cps.toList) (b := y.cps.toList) (once := onceX x) (e := e) i j).top
/-- a paper of prices made of the cut tables -/
theorem pri_of {H : Hp} {M e : Nat} {x y : Str} {t a f : Addr} (ht : H t = some (.tup [.str "prices", .ref a, .ref f])) (ga : GridL H (x.length + 1) (y.length + 1) (.ref a) (gridOf (fun i j => min (kX x y e i j) M) x.length y.length)) (gf : GridL H (x.length + 1) (y.length + 1) (.ref f) (gridOf (fun i j => min (gX x y e i j) M) x.length y.length)) (hM : M ≤ 1000000) (hx : x.length ≤ 100) (hy : y.length ≤ 100) : IsV H 200 3 (.ref t) ∧ PriP H x y e ((min (kX x y e x.length y.length) M : Nat) : Int) (.ref t) := by
  refine ⟨.tup ht (Nat.le_of_ble_eq_true rfl) fun v hv => ?_, .ref a, .ref f, _, _, ⟨t, rfl, ht⟩, ga, gf, prices_own⟩
  rcases List.mem_cons.mp hv with rfl | hv
  · exact .str _ (Nat.le_of_ble_eq_true rfl)
  rcases List.mem_cons.mp hv with rfl | hv
  · exact ga.isV (by omega) (by omega) (gridOf_small fun i j => by omega)
  rcases List.mem_cons.mp hv with rfl | hv
  · exact gf.isV (by omega) (by omega) (gridOf_small fun i j => by omega)
  · cases hv
theorem pri_told {H : Hp} {e : Nat} {x y : Str} {t a f : Addr} (ht : H t = some (.tup [.str "prices", .ref a, .ref f])) (ga : GridL H (x.length + 1) (y.length + 1) (.ref a) (gridOf (kX x y e) x.length y.length)) (gf : GridL H (x.length + 1) (y.length + 1) (.ref f) (gridOf (gX x y e) x.length y.length)) (hx : x.length ≤ 100) (hy : y.length ≤ 100) (he : e ≤ 1000) : IsV H 200 3 (.ref t) ∧ PriP H x y e ((kX x y e x.length y.length : Nat) : Int) (.ref t) := by
  have lx : x.cps.toList.length = x.length := Array.length_toList
  have ly : y.cps.toList.length = y.length := Array.length_toList
  have b : beyond x.cps.toList y.cps.toList e ≤ 201 * 1001 := by
    unfold beyond
    rw [lx, ly]
    exact Nat.mul_le_mul (by omega) (by omega)
  rw [gridOf_cut (M := beyond x.cps.toList y.cps.toList e) fun i j => kX_top] at ga
  rw [gridOf_cut (M := beyond x.cps.toList y.cps.toList e) fun i j => gX_top] at gf
  obtain ⟨h1, h2⟩ := pri_of ht ga gf (Nat.le_trans b (by decide)) hx hy
  rw [Nat.min_eq_left kX_top] at h2
  exact ⟨h1, h2⟩
/-! ## what is no paper of prices -/
def NoPri (H : Hp) (x y : Str) (e : Nat) (v : V) : Prop := ∀ tot, ¬ PriP H x y e tot v
theorem no_grid0 {H : Hp} {n m B : Nat} {v : V} {L : List (List Int)} (i : IsV H B 0 v) : ¬ GridL H (n + 1) m v L := by
  rintro ⟨rows, ⟨t, rfl, ht⟩, h3, h4⟩
  have l := paired_len h3
  cases i with
  | lst e => rw [e] at ht; cases ht
  | dct e => rw [e] at ht; cases ht
  | nil e =>
    rw [e] at ht; cases ht
    rw [h4] at l
    cases l
theorem no_leaf {H : Hp} {x y : Str} {e : Nat} {v : V} {B : Nat} (i : IsV H B 1 v) : NoPri H x y e v := by
  rintro tot ⟨a, f, A, F, h1, h2, _⟩
  exact no_grid0 (i.items h1 a (by simp)) h2
theorem no_tup {H : Hp} {x y : Str} {e : Nat} {t : Addr} {xs : List V} (ht : H t = some (.tup xs)) (h : ∀ a f A F, xs = [.str "prices", a, f] → GridL H (x.length + 1) (y.length + 1) a A → GridL H (x.length + 1) (y.length + 1) f F → False) : NoPri H x y e (.ref t) := by
  rintro tot ⟨a, f, A, F, h1, h2, h3, _⟩
  exact h a f A F (TupV.inj ⟨t, rfl, ht⟩ h1) h2 h3
theorem no_lst {H : Hp} {x y : Str} {e : Nat} {t : Addr} {xs : List V} (ht : H t = some (.lst xs)) : NoPri H x y e (.ref t) := by
  rintro tot ⟨a, f, A, F, ⟨t2, e, h1⟩, _⟩
  cases e
  rw [ht] at h1
  cases h1
theorem no_empty {H : Hp} {n m : Nat} {t : Addr} {L : List (List Int)} (ht : H t = some (.tup [])) : ¬ GridL H (n + 1) m (.ref t) L := by
  rintro ⟨rows, h1, h3, h4⟩
  have e := TupV.inj ⟨t, rfl, ht⟩ h1
  rw [← e] at h3
  have l := paired_len h3
  rw [h4] at l
  cases l
theorem NoPri.keep {H H1 : Hp} {x y : Str} {e : Nat} {v : V} {B : Nat} (i : IsV H B 3 v) (h : NoPri H x y e v) (k : Kp H H1) : NoPri H1 x y e v := fun tot f => h tot (f.back i k)
noncomputable def tabG (x y : Str) (e : Nat) : Nat → Nat → Nat → Nat
  | 0 => kX x y e
  | _ + 1 => gX x y e
/-! ## rows that are tuples of a table's rows, under way -/
def rowI (G : Nat → Nat → Nat) (m i : Nat) : List Int := (List.range (m + 1)).map fun j => ((G i j : Nat) : Int)
def RowC (H : Hp) (G : Nat → Nat → Nat) (m : Nat) : List V → List Nat → Prop := Paired (fun v k => ∃ t, v = V.ref t ∧ H t = some (.tup ((rowI G m k).map V.int)))
theorem RowC.keep {H H1 : Hp} {G : Nat → Nat → Nat} {m : Nat} {xs : List V} {ks : List Nat} (h : RowC H G m xs ks) (s : Same H H1) : RowC H1 G m xs ks := pair_mono (fun v p ⟨t, e, ht⟩ => ⟨t, e, s _ _ ht⟩) h
theorem RowC.keepT {H H1 : Hp} {G : Nat → Nat → Nat} {m : Nat} {xs : List V} {ks : List Nat} (h : RowC H G m xs ks) (s : ∀ u ws, H u = some (.tup ws) → H1 u = some (.tup ws)) : RowC H1 G m xs ks := pair_mono (fun v p ⟨t, e, ht⟩ => ⟨t, e, s _ _ ht⟩) h
theorem pair_mapR {α β γ : Type} {R : α → γ → Prop} {f : β → γ} : ∀ {xs : List α} {ys : List β}, Paired (fun a b => R a (f b)) xs ys → Paired R xs (ys.map f)
  | _, _, .nil => .nil
  | _, _, .cons a t => .cons a (pair_mapR t)
theorem RowC.grid {H : Hp} {G : Nat → Nat → Nat} {n m : Nat} {rows : List V} {g : Addr} (hg : H g = some (.tup rows)) (h : RowC H G m rows (List.range (n + 1))) : GridL H (n + 1) (m + 1) (.ref g) (gridOf G n m) := by
  refine ⟨rows, ⟨g, rfl, hg⟩, ?_, by unfold gridOf; rw [List.length_map, List.length_range]⟩
  show Paired _ _ ((List.range (n + 1)).map (rowI G m))
  exact pair_mapR (pair_mono (fun v k ⟨t, e, ht⟩ => ⟨⟨t, e, ht⟩, by unfold rowI; rw [List.length_map, List.length_range]⟩) h)
end Vk
set_option Elab.async false
set_option maxRecDepth 100000
set_option linter.all false
set_option maxHeartbeats 4000000
namespace Vk
open PySem PySem.Spec PyProof.Rows L2
/-! ## calls with values of the def's own, and with arguments of both kinds -/
structure CalD (P : Program) (w : World) (K : PySem.W.Frag) (mg : Str → Option Value) (base : Heap) (CX : CXT) (k : Nat) (x : Str) (sp : Sp) (dv : List V) : Prop where
  ex : ∃ (f : Addr) (fd : FuncData) (ps : List Str) (ds : List Value), FnG P w K mg base CX k f fd ps sp ∧ mg x = some (.ref f) ∧ PySem.W.keepIn K (.ref f) = true ∧ Vals dv ds ∧ Binds K fd ps ds
structure CalM (P : Program) (w : World) (K : PySem.W.Frag) (mg : Str → Option Value) (base : Heap) (CX : CXT) (k : Nat) (x : Str) (sp : Sp) (m : Nat) (ks : List Str) : Prop where
  ex : ∃ (f : Addr) (fd : FuncData) (ps : List Str), FnG P w K mg base CX k f fd ps sp ∧ mg x = some (.ref f) ∧ PySem.W.keepIn K (.ref f) = true ∧
    ∀ (s : Shared) (us ws : List Value), K.In s.heap → us.length = m → ws.length = ks.length → BindsTo s fd ⟨us, ks.zip ws⟩ (ps.zip (us ++ ws))
def tCallM (m n : Nat) (sp : Sp) (E : XK) (ta tk : TA) : TE := fun σ H Q => ta σ H fun vs H1 => vs.length = m ∧ tk σ H1 fun ws H2 => ws.length = n ∧ sp (vs ++ ws) H2 Q E
section
variable {X : Cx} {CX : CXT} {j k m : Nat} {sp : Sp} {E : XK} {x : Str} {p pos : Pos} {e : Expr} {es : List Expr} {t ta tk : TA} {dv : List V} {kws : List Keyword} {ks : List Str}
theorem pe_cM (c : CalM X.prog X.w X.K X.mg X.base CX k x sp m ks) (hg : X.A.guards = some []) (hr : Room j X.A) (hk : k ≤ j) (hx : Passes CX X E) (ha : PA X (e :: es) ta) (hkw : PK X kws tk) (gl : Gl X x := by rfl)
    (hall : (backToKw pos (keywordEach kws X.env)).all (·.1.isSome) = true := by rfl) (hks : (backToKw pos (keywordEach kws X.env)).filterMap (·.1) = ks := by rfl) (hdb : (x == ("__debug__" : Str)) = false := by decide)
    (hpl : ((backTo pos (starEach (e :: es) X.env)).any (·.1) || (backToKw pos (keywordEach kws X.env)).any (·.1.isNone)) = false := by rfl) (he : starEach (e :: es) X.env = (false, eval e X.env) :: starEach es X.env := by rfl) :
    PE X (.Call (.Name x p) (e :: es) kws pos) (tCallM m ks.length sp E ta tk) := by
  obtain ⟨f, fd, ps, F, hm, kp, hb⟩ := c.ex
  refine ⟨fun pins s σ H Q I h => wpAny_Call_Name_kw (ld_glob I gl hm (PySem.W.callWith_KW (h₀ := X.base) I.ok.mod.kin kp hall (thn (ha.run pos pins s σ H _ I h) fun us s1 hh => ?_) hpl he) hdb)⟩
  obtain ⟨vs, H1, I1, r1, l1, q1⟩ := hh
  refine thn (hkw.run pos pins s1 σ H1 _ I1 q1) fun ws s2 hh2 => ?_
  obtain ⟨zs, H2, I2, r2, l2, q2⟩ := hh2
  refine ⟨I2.kIn, ?_⟩
  rw [hks]
  refine wpAny_call (codeAny_mono (F.run X.A X.stack s2 H2 ⟨us, ks.zip ws⟩ (us ++ ws) (vs ++ zs) Q E hg (hr.mono hk) I2.env0 (hb s2 us ws I2.kIn (r1.length.symm.trans l1) (r2.length.symm.trans l2)) (r1.append r2) q2) (fun res s3 hq => ?_))
  match res, hq with
  | .error e, hq => exact hx pins σ H2 s2 e s3 I2 hq
  | .ok (.ret u), hq => exact I2.after hq
  | .ok .next, hq => exact hq.elim
  | .ok .brk, hq => exact hq.elim
  | .ok .cont, hq => exact hq.elim
end
section
variable {K : PySem.W.Frag} {x y qual : Str} {st : Stmt} {f : Addr} {fd : FuncData} {ps ks : List Str} {m : Nat}
theorem _root_.L2.Fun.kwm (F : Fun K x qual st f fd)
    (h : ∀ (kV doc pm : Value) (an : Option Addr) (cdv ct : Value) (us ws : List Value), us.length = m → ws.length = ks.length → bindArgs (PySem.W.fnOf x qual (defArgs st) (defBody st) (defScope st) .none kV doc pm an cdv ct) ⟨us, ks.zip ws⟩ = pure (ps.zip (us ++ ws))) :
    ∀ (s : Shared) (us ws : List Value), K.In s.heap → us.length = m → ws.length = ks.length → BindsTo s fd ⟨us, ks.zip ws⟩ (ps.zip (us ++ ws)) := by
  obtain ⟨oc, od, kV, doc, pm, an, cdv, ct, osl, rfl, lk, hcd⟩ := F.ex
  exact fun s us ws _ h1 h2 => .of_eq (h kV doc pm an cdv ct us ws h1 h2)
end
end Vk
set_option Elab.async false
set_option maxRecDepth 100000
set_option linter.all false
set_option maxHeartbeats 4000000
namespace Vk
open PySem PySem.Spec PyProof.Rows L2 StX
theorem int_non {i : Int} : decide (V.int i = V.non) = false := decide_eq_false nofun
theorem non_non : decide (V.non = V.non) = true := decide_eq_true rfl
theorem noPart_go {σ : L2.St} {H : Hp} {Q : Option Int → Hp → Prop} (h : Q none H) : tNoPart σ H Q := h
theorem pi_tupK {X : Cx} {K : PySem.W.Frag} {tg l : Expr} {tl : TE} (h : X.K = K) (hl : PE X l tl) : PI X tg l (iTup K tl) := h ▸ pi_tup hl
section
variable {P : Program} {w : World} {K : PySem.W.Frag} {mg : Str → Option Value} {base : Heap}
def spLaw (K : PySem.W.Frag) : Sp := fun vs H Q _ => ∃ (a : Addr) (ns : List Int), vs = [.ref a] ∧ SqL K H a (ns.map V.int) ∧ ns.length ≤ 63 ∧ ∀ H', Q (.bl true) H'
abbrev s_law : Stmt := top 31
theorem sc_law : FnScope ["_law_script", "_law_pen_here", "_law_turn", "_law_signs_here", "_law_here", "_law_away", "_law_extra", "_law_few_here", "_law_told", "_law_less", "_law_own", "_law_grid", "_law_rows", "_law_item", "_law_row", "_law_thing", "_law_again", "_law_total", "_law_due", "_law_some"] ["_law_script"] (defScope s_law) := ⟨rfl, rfl, rfl, by decide +kernel, rfl, by decide +kernel, by decide +kernel⟩
theorem b_law {f : Addr} {fd : FuncData} (F : Fun K "law" "law" s_law f fd) (T : Txt mg) (c_lpen : CalG P w K mg base CX0 1 "_law_pen" (spPen K)) (c_lfew : CalG P w K mg base CX0 3 "_law_few" spFew) (c_ldraw : CalG P w K mg base CX0 1 "_law_draw" spDraw) (c_lpick : CalG P w K mg base CX0 2 "_law_pick" (spPick K)) (c_lntext : CalG P w K mg base CX0 4 "_law_ntext" spNtext) (c_lany_value : CalG P w K mg base CX0 3 "_law_any_value" spAny) (c_lnbest : CalG P w K mg base CX0 3 "_law_nbest" spNbest) (c_lnbent : CalG P w K mg base CX0 6 "_law_nbent" (spBent 4)) (c_lnis_prices : CalG P w K mg base CX0 5 "_law_nis_prices" spNisPr)
    (q_prices : CalM P w K mg base CX0 5 "prices" spPri 2 ["each"]) (q_is_prices : CalM P w K mg base CX0 4 "is_prices" spIsPr 4 ["each"]) (k_is_prices : CalK P w K mg base CX0 4 "is_prices" spIsPr ["each", "value", "number", "other", "one"] List.reverse) : FnG P w K mg base CX0 7 f fd ["_law_script"] (spLaw K) := by
  refine okG0 F sc_law (fun vs H Q E h => ?_) (fun cdv A outer s H vs Q E hg hr h => ?_)
  · obtain ⟨a, ns, rfl, _⟩ := h
    rfl
  · have hu := hu_of hr
    have hu64 := hr.units
    obtain ⟨a, ns, rfl, hS, hlen, k⟩ := h
    refine ⟨_, (pss_cons (ps_set (i := 1) sc_law.nd rfl (Or.inl rfl) (pe_cG c_lpen hg hr (by decide) pass0 (pa_cons (pv 0) pa_nil)))
      (pss_cons (ps_for PassesOwn.never rfl (pi_range1 rfl T.range (pa_cons (pe_op op_add pe_int (pe_callB (call_min2 rfl) (by rfl) T.min (by decide +kernel) (pa_cons pe_int (pa_cons (pe_callB call_len (by rfl) T.len (by decide +kernel) (pa_cons (pv 0) pa_nil)) pa_nil)))) pa_nil)) (pg_name (i := 2) sc_law.nd rfl (Or.inl rfl)) (pss_cons (ps_set (i := 3) sc_law.nd rfl (Or.inl rfl) (pe_cG c_lfew hg hr (by decide) pass0 (pa_cons (pv 1) pa_nil)))
      (pss_cons (ps_par (i := 4) (j := 5) (by rfl) sc_law.nd rfl rfl (by decide) rfl rfl (pa_cons (pe_cG c_lntext hg hr (by decide) pass0 (pa_cons (pv 1) (pa_cons (pv 3) (pa_cons pe_int pa_nil)))) (pa_cons (pe_cG c_lntext hg hr (by decide) pass0 (pa_cons (pv 1) (pa_cons (pv 3) (pa_cons pe_int pa_nil)))) pa_nil)) (by rfl))
      (pss_cons (ps_set (i := 6) sc_law.nd rfl (Or.inl rfl) (pe_cG c_lpick hg hr (by decide) pass0 (pa_cons (pv 1) (pa_cons (pe_lst (pa_cons pe_int (pa_cons pe_int (pa_cons pe_int (pa_cons pe_int pa_nil))))) pa_nil))))
      (pss_cons (ps_par (i := 7) (j := 8) (by rfl) sc_law.nd rfl rfl (by decide) rfl rfl (pa_cons (pe_cG c_lnbest hg hr (by decide) pass0 (pa_cons (pv 4) (pa_cons (pv 5) (pa_cons (pv 6) pa_nil)))) (pa_cons (pe_cM q_prices hg hr (by decide) pass0 (pa_cons (pv 4) (pa_cons (pv 5) pa_nil)) (pk_cons (pv 6) pk_nil)) pa_nil)) (by rfl))
      (pss_cons (ps_if (PW.pt (pw_or (pt_cmpR op_isN (pv 7) pe_non (nomark _)) (pw_or1 (pt_not (pt_val (pe_cG c_lnis_prices hg hr (by decide) pass0 (pa_cons (pv 4) (pa_cons (pv 5) (pa_cons (pv 7) (pa_cons (pv 6) (pa_cons (pv 8) pa_nil))))))))))) (pss_cons (ps_if (PW.pt (pw_or (pt_cmpR op_notN (pv 7) pe_non (nomark _)) (pw_or1 (pt_cmpR op_notN (pv 8) pe_non (nomark _))))) (pss_one (ps_ret pe_bl)) pss_nil)
      (pss_one ps_continue)) pss_nil)
      (pss_cons (ps_set (i := 9) sc_law.nd rfl (Or.inr rfl) (pe_callB (call_max2 rfl) (by rfl) T.max (by decide +kernel) (pa_cons pe_int (pa_cons (pe_op op_sub (pv 7) (pe_cG c_ldraw hg hr (by decide) pass0 (pa_cons (pv 1) (pa_cons pe_int pa_nil)))) pa_nil))))
      (pss_cons (ps_set (i := 10) sc_law.nd rfl (Or.inl rfl) (pe_tup (pa_cons pe_str pa_nil)))
      (pss_cons (ps_for PassesOwn.never rfl (pi_tup (pe_slice sl_tupA (pv 8) (po_some pe_int) po_none)) (pg_name (i := 11) sc_law.nd rfl (Or.inl rfl)) (pss_cons (ps_setLc (i := 12) (own := [("_law_row", 14)]) (g := gName 14) (tt := tYes) rfl sc_law.nd rfl rfl (sw_true rfl rfl rfl (by decide +kernel)) (pi_tup (pv 11)) (blkOk_by (own := [("_law_row", 14)]) (N := ["_law_script", "_law_pen_here", "_law_turn", "_law_signs_here", "_law_here", "_law_away", "_law_extra", "_law_few_here", "_law_told", "_law_less", "_law_own", "_law_grid", "_law_rows", "_law_item", "_law_row", "_law_thing", "_law_again", "_law_total", "_law_due", "_law_some"]) (sc := defScope s_law) (by decide +kernel)) (fun _ _ _ _ _ => (pg_name (i := 14) sc_law.nd rfl (Or.inl rfl))) (fun _ _ _ _ _ => pts_nil) (fun _ _ _ _ _ => (pe_callTy (call_tuple_ofK (K := K) rfl) (by rfl) T.tuple (by decide +kernel) (pa_cons (pe_lc (own := [("_law_item", 13)]) (g := gName 13) (tt := tYes) rfl sc_law.nd (pi_tupK (K := K) rfl (pv 14)) (blkOk_by (own := [("_law_item", 13)]) (N := ["_law_script", "_law_pen_here", "_law_turn", "_law_signs_here", "_law_here", "_law_away", "_law_extra", "_law_few_here", "_law_told", "_law_less", "_law_own", "_law_grid", "_law_rows", "_law_item", "_law_row", "_law_thing", "_law_again", "_law_total", "_law_due", "_law_some"]) (sc := relabel { kind := ScopeKind.function, names := [(".0", NameKind.local), ("_law_row", NameKind.local), ("tuple", NameKind.globalImplicit), ("_law_less", NameKind.free)], isGenerator := false, isCoroutine := false } (envOfC "law" (defScope s_law) 0 0 .none)) (by decide +kernel)) (fun _ _ _ _ _ => (pg_name (i := 13) sc_law.nd rfl (Or.inl rfl))) (fun _ _ _ _ _ => pts_nil) (fun _ _ _ _ _ => (pe_callB (call_min2 rfl) (by rfl) T.min (by decide +kernel) (pa_cons (pv 13) (pa_cons (pv 9) pa_nil))))) pa_nil))))
      (pss_one (ps_set (i := 10) sc_law.nd rfl (Or.inl rfl) (pe_op op_catA (pv 10) (pe_tup (pa_cons (pe_callTy call_tuple_of (by rfl) T.tuple (by decide +kernel) (pa_cons (pv 12) pa_nil)) pa_nil)))))))
      (pss_cons (ps_if (pt_cmpR op_notBl (pe_kw k_is_prices hg hr (by decide) pass0 (pk_cons (pv 6) (pk_cons (pv 10) (pk_cons (pv 9) (pk_cons (pv 5) (pk_cons (pv 4) pk_nil)))))) pe_bl (nomark _)) (pss_one (ps_ret pe_bl)) pss_nil)
      (pss_cons (ps_set (i := 15) sc_law.nd rfl (Or.inl rfl) (pv 8))
      (pss_cons (ps_for PassesOwn.never rfl (pi_range1 rfl T.range (pa_cons pe_int pa_nil)) (pg_name (i := 16) sc_law.nd rfl (Or.inl rfl)) (pss_cons (ps_set (i := 15) sc_law.nd rfl (Or.inl rfl) (pe_cG c_lnbent hg hr (by decide) pass0 (pa_cons (pv 1) (pa_cons (pe_cG c_lpick hg hr (by decide) pass0 (pa_cons (pv 1) (pa_cons (pe_lst (pa_cons (pv 8) (pa_cons (pv 8) (pa_cons (pv 10) (pa_cons (pv 15) pa_nil))))) pa_nil))) pa_nil))))
      (pss_cons (ps_if (pt_not (pt_val (pe_callB call_isi (by rfl) T.isinstance (by decide +kernel) (pa_cons (pv 15) (pa_cons (pe_bltn (v := .ty "tuple") (by rfl) T.tuple rfl rfl) pa_nil))))) (pss_one (ps_set (i := 15) sc_law.nd rfl (Or.inl rfl) (pv 8))) pss_nil)
      (pss_cons (ps_set (i := 17) sc_law.nd rfl (Or.inl rfl) (pe_cG c_lpick hg hr (by decide) pass0 (pa_cons (pv 1) (pa_cons (pe_lst (pa_cons (pv 7) (pa_cons (pv 7) (pa_cons (pv 9) (pa_cons (pe_op op_add (pv 7) pe_int) pa_nil))))) pa_nil))))
      (pss_cons (ps_set (i := 18) sc_law.nd rfl (Or.inl rfl) (pe_cG c_lnis_prices hg hr (by decide) pass0 (pa_cons (pv 4) (pa_cons (pv 5) (pa_cons (pv 17) (pa_cons (pv 6) (pa_cons (pv 15) pa_nil)))))))
      (pss_one (ps_if (PW.pt (pw_or (pt_cmpR op_ne (pe_callB (Vk.call_reprD hg hu64) (by rfl) T.repr (by decide +kernel) (pa_cons (pe_cM q_is_prices hg hr (by decide) pass0 (pa_cons (pv 4) (pa_cons (pv 5) (pa_cons (pv 17) (pa_cons (pv 15) pa_nil)))) (pk_cons (pv 6) pk_nil)) pa_nil)) (pe_callB (Vk.call_reprD hg hu64) (by rfl) T.repr (by decide +kernel) (pa_cons (pv 18) pa_nil)) (nomark _)) (pw_or1 (PW.pt (pw_and (pt_val (pv 18)) (pw_and1 (pt_cmpR op_gt (pv 17) (pv 7) (nomark _)))))))) (pss_one (ps_ret pe_bl)) pss_nil)))))))
      (pss_cons (ps_set (i := 19) sc_law.nd rfl (Or.inl rfl) (pe_lst (pa_cons (pe_cG c_lany_value hg hr (by decide) pass0 (pa_cons (pv 1) pa_nil)) (pa_cons (pe_slice sl_tupA (pv 8) po_none (po_some pe_int)) (pa_cons (pe_op op_catA (pv 8) (pe_tup (pa_cons (pe_tup pa_nil) pa_nil))) (pa_cons (pe_tup (pa_cons pe_str (pa_cons (pe_tup pa_nil) (pa_cons (pe_tup pa_nil) pa_nil)))) (pa_cons (pe_tup (pa_cons pe_str (pa_cons (pe_ix ix_tup (pv 8) pe_int (fun _ _ => rfl)) (pa_cons pe_non pa_nil)))) (pa_cons (pe_lst (pa_cons (pv 8) pa_nil)) pa_nil))))))))
      (pss_one (ps_for PassesOwn.never rfl (pi_list (pv 19)) (pg_name (i := 15) sc_law.nd rfl (Or.inl rfl)) (pss_one (ps_if (pt_cmpR op_notBl (pe_cM q_is_prices hg hr (by decide) pass0 (pa_cons (pv 4) (pa_cons (pv 5) (pa_cons (pv 7) (pa_cons (pv 15) pa_nil)))) (pk_cons (pv 6) pk_nil)) pe_bl (nomark _)) (pss_one (ps_ret pe_bl)) pss_nil)))))))))))))))))
      (pss_one (ps_ret pe_bl)))), ?_⟩
    refine ⟨_, rfl, a, ns, rfl, hS, fun p pc H1 hp0 Pn0 s1 => ?_⟩
    refine ⟨_, rfl, _, _, rfl, .inl ⟨_, s1.seq hS, rfl⟩, _, _, rfl, _, _, rfl, rfl, _, rfl, ?_, ?_, ?_⟩
    · split <;> omega
    · split <;> omega
    refine for_range (lo := 0) (fun i σ H' => ∃ o2 o3 o4 o5 o6 o7 o8 o9 o10 o11 o12 o13 o14 o15 o16 o17 o18 o19 : Option V, σ = [some (.ref a), some (.ref p), o2, o3, o4, o5, o6, o7, o8, o9, o10, o11, o12, o13, o14, o15, o16, o17, o18, o19] ∧ Pen H' p pc (5000 * i)) ?_ ?_ ?_
    · exact ⟨_, _, _, _, _, _, _, _, _, _, _, _, _, _, _, _, _, _, rfl, Pn0⟩
    · rintro i σ H2 hi ⟨o2, o3, o4, o5, o6, o7, o8, o9, o10, o11, o12, o13, o14, o15, o16, o17, o18, o19, rfl, P2⟩
      have hi8 : i ≤ 20 := by
        have : i < 21 := by
          revert hi
          split <;> omega
        omega
      refine ⟨_, rfl, p, pc, 5000 * i, rfl, P2, by omega, fun sg H3 fz P3 x3 => ?_⟩
      refine name_go ⟨_, rfl, _, rfl, p, pc, sg, 6, _, rfl, fz, by decide, P3, by omega, fun x H4 hx xt P4 x4 => ?_⟩
      refine ⟨_, rfl, _, rfl, p, pc, sg, 6, _, rfl, fz, by decide, P4, by omega, fun y H5 hy yt P5 x5 => ?_⟩
      refine ⟨_, _, rfl, ?_⟩
      refine ⟨_, rfl, by show 4 ≤ sizeLine; decide, fun b hb => ?_⟩
      have sb := same_new (o := .lst [.int 0, .int 0, .int 1, .int 7]) hb
      refine ⟨p, pc, _, _, _, rfl, .lst (SqL.of upd_same), (fun z => by cases z), by show 4 ≤ 1000; decide, P5.stay sb, by omega, fun v H6 hv P6 x6 => ?_⟩
      have ev : ∃ e : Nat, v = .int (e : Nat) ∧ e ≤ 7 := by
        simp only [List.mem_cons, List.not_mem_nil, or_false] at hv
        rcases hv with rfl | rfl | rfl | rfl
        · exact ⟨0, rfl, by omega⟩
        · exact ⟨0, rfl, by omega⟩
        · exact ⟨1, rfl, by omega⟩
        · exact ⟨7, rfl, by omega⟩
      obtain ⟨e, rfl, he⟩ := ev
      refine ⟨_, rfl, _, rfl, _, rfl, x, y, e, rfl, by omega, by omega, fun H7 s7 => ?_⟩
      refine ⟨_, rfl, _, rfl, rfl, _, rfl, rfl, x, y, e, rfl, by omega, by omega, by omega, fun no => ?_, fun yes t ga gf H8 ht8 gA8 gF8 s8 => ?_⟩
      · have bn := best_no (e := e) no
        refine ⟨_, _, rfl, ?_⟩
        rw [bn]
        dsimp only
        refine ⟨_, rfl, rfl, _, rfl, ?_⟩
        rw [non_non]
        refine iteT ?_
        refine ⟨_, rfl, rfl, _, rfl, ?_⟩
        rw [non_non']
        refine iteF ⟨_, rfl, rfl, _, rfl, ?_⟩
        rw [non_non']
        exact iteF ⟨_, _, _, _, _, _, _, _, _, _, _, _, _, _, _, _, _, _, rfl, (P6.stay s7).mono (by omega)⟩
      · have bi := best_is (e := e) (show x.length ≤ 8 by omega) (show y.length ≤ 8 by omega) (by omega) yes
        obtain ⟨l0, w0⟩ := kX_lt (e := e) yes
        obtain ⟨iv1, fp1⟩ := pri_told ht8 gA8 gF8 (by omega) (by omega) (by omega)
        have P8 := (P6.stay s7).stay s8
        refine ⟨_, _, rfl, ?_⟩
        rw [bi.1]
        have few6 := bi.2
        generalize hfew : kX x y e x.length y.length = few at w0 few6 fp1
        dsimp only
        refine ⟨_, rfl, rfl, _, rfl, ?_⟩
        rw [int_non]
        refine iteF ?_
        refine ⟨_, rfl, _, rfl, _, rfl, _, rfl, _, rfl, x, y, (few : Nat), .ref t, e, 200, rfl, iv1, by decide, by omega, by omega, fun b9 H9 s9 hb9 => ?_⟩
        have b9t : b9 = true := hb9.mpr fp1
        subst b9t
        refine ⟨true, rfl, iteF ?_⟩
        dsimp only [tNext]
        have P9 := P8.stay s9
        refine ⟨_, rfl, _, rfl, p, pc, 4, _, rfl, by decide, by decide, P9, by omega, fun ls H10 ls0 ls1 P10 x10 => ?_⟩
        obtain ⟨lz, rfl⟩ : ∃ n : Nat, ls = (n : Nat) := ⟨ls.toNat, by omega⟩
        have kp10 := (Kp.same s9).trans (Kp.pen P9 x10 P10)
        have ht10 := kp10.tup _ _ ht8
        have gA10 := gA8.keep kp10
        have gF10 := gF8.keep kp10
        have iv1 := iv1.keep kp10
        have fp1 := fp1.keep kp10
        obtain ⟨M, hM⟩ : ∃ M, M = few - lz := ⟨_, rfl⟩
        have cutM : (if ((few : Nat) : Int) - ((lz : Nat) : Int) > 0 then ((few : Nat) : Int) - ((lz : Nat) : Int) else 0) = ((M : Nat) : Int) := by split <;> omega
        refine ⟨_, _, rfl, rfl, _, _, rfl, ?_⟩
        rw [cutM]
        refine name_go ?_
        refine ⟨by show 1 ≤ sizeLine; decide, fun o0 ho0 => name_go ?_⟩
        have so0 := same_new (o := .tup [.str "prices"]) ho0
        dsimp only
        refine ⟨_, rfl, _, rfl, noPart_go ?_⟩
        have ht11 := so0 _ _ ht10
        refine slA ht11 fun pp H12 s12 hpp => ?_
        have hpp : H12 pp = some (.tup [.ref ga, .ref gf]) := hpp
        refine ⟨pp, rfl, ⟨_, SqT.of hpp⟩, ?_⟩
        have s1012 := so0.trans s12
        have gA12 := gA10.keep (.same s1012)
        have gF12 := gF10.keep (.same s1012)
        refine for_tup (xs := [.ref ga, .ref gf]) (fun i2 σ H' => ∃ (o : Addr) (gs : List Addr) (o11 o12 o13 o14 : Option V), σ = [some (.ref a), some (.ref p), some (.int (0 + (i : Int))), some (.str sg), some (.str x), some (.str y), some (.int (e : Nat)), some (.int (few : Nat)), some (.ref t), some (.int (M : Nat)), some (.ref o), o11, o12, o13, o14, o15, o16, o17, o18, o19] ∧ H' o = some (.tup (.str "prices" :: gs.map V.ref)) ∧ gs.length = i2 ∧ (∀ j g, gs[j]? = some g → GridL H' (x.length + 1) (y.length + 1) (.ref g) (gridOf (fun c d => min (tabG x y e j c d) M) x.length y.length)) ∧ Same H12 H') ?_ ?_ ?_ ?_
        · exact ⟨o0, [], _, _, _, _, rfl, s12 _ _ upd_same, rfl, (fun j g h => by simp at h), Same.rfl⟩
        · rintro i2 σ H' _ ⟨o, gs, o11, o12, o13, o14, rfl, _, _, _, s13⟩
          exact SqT.of (s13 _ _ hpp)
        · rintro i2 v σ H13 hv ⟨o, gs, o11, o12, o13, o14, rfl, ho13, gl13, gg13, s13⟩
          obtain ⟨g, rfl, gr, i22⟩ : ∃ g, v = .ref g ∧ GridL H13 (x.length + 1) (y.length + 1) (.ref g) (gridOf (tabG x y e i2) x.length y.length) ∧ i2 < 2 := by
            match i2, hv with
            | 0, hv => cases hv; exact ⟨ga, rfl, gA12.keep (.same s13), by omega⟩
            | 1, hv => cases hv; exact ⟨gf, rfl, gF12.keep (.same s13), by omega⟩
            | n + 2, hv => simp at hv
          generalize hG : tabG x y e i2 = G at gr
          obtain ⟨rows, ⟨g', eg, hg'⟩, pr, lr⟩ := id gr
          cases eg
          have gl := paired_len pr
          rw [lr] at gl
          refine name_go ⟨_, rfl, g, rfl, ⟨_, SqT.of hg'⟩, fun D hD => ?_⟩
          have sD := same_new (o := .lst []) hD
          refine lc_tup (K := K) (a := g) (xs := rows) (fun i3 H' => ∃ got, H' D = some (.lst got) ∧ RowC H' (fun c d => min (G c d) M) y.length got (List.range i3) ∧ Same H13 H') ?_ ?_ ?_ ?_
          · exact ⟨[], upd_same, .nil, sD⟩
          · rintro i3 H' _ ⟨got, _, _, s14⟩
            exact SqT.of (s14 _ _ hg')
          · rintro i3 v H14 hv3 ⟨got, hD14, rc14, s14⟩
            have li := (List.getElem?_eq_some_iff.mp hv3).1
            obtain ⟨c, hc, ⟨u, rfl, hu14⟩, hl⟩ := paired_at pr hv3
            have ec : c = rowI G y.length i3 := by
              unfold gridOf at hc
              rw [List.getElem?_map, List.getElem?_range (by omega)] at hc
              cases hc
              rfl
            subst ec
            have g3 := paired_len rc14
            rw [List.length_range] at g3
            refine ⟨rfl, _, rfl, u, rfl, ⟨_, SqT.of (s14 _ _ hu14)⟩, fun D2 hD2 => ?_⟩
            have sD2 := same_new (o := .lst []) hD2
            refine lc_tup (K := K) (a := u) (xs := (rowI G y.length i3).map V.int) (fun j H' => H' D2 = some (.lst ((List.range j).map fun k => V.int ((min (G i3 k) M : Nat) : Int))) ∧ Same H14 H') ?_ ?_ ?_ ?_
            · exact ⟨upd_same, sD2⟩
            · rintro j H' _ ⟨_, s15⟩
              exact SqT.of (s15 _ _ (s14 _ _ hu14))
            · rintro j v H15 hv4 ⟨hD15, s15⟩
              have lj := (List.getElem?_eq_some_iff.mp hv4).1
              rw [List.length_map, hl] at lj
              have ej : v = .int (G i3 j : Nat) := by
                unfold rowI at hv4
                rw [List.getElem?_map, List.getElem?_map, List.getElem?_range (by omega)] at hv4
                cases hv4
                rfl
              subst ej
              refine ⟨rfl, _, rfl, _, rfl, _, _, rfl, ?_⟩
              have e4 : (if ((M : Nat) : Int) < ((G i3 j : Nat) : Int) then ((M : Nat) : Int) else ((G i3 j : Nat) : Int)) = ((min (G i3 j) M : Nat) : Int) := by split <;> omega
              rw [e4]
              refine ⟨_, hD15, fewL (by rw [List.length_map, List.length_range]; omega), ?_, upd_out hD2 s15⟩
              rw [upd_same, List.range_succ, List.map_append]
              rfl
            · rintro H15 ⟨hD15, s15⟩
              rw [List.length_map, hl] at hD15
              have er : ((List.range (y.length + 1)).map fun k => V.int ((min (G i3 k) M : Nat) : Int)) = (rowI (fun c d => min (G c d) M) y.length i3).map V.int := by
                unfold rowI
                rw [List.map_map]
                rfl
              rw [er] at hD15
              refine ⟨D2, _, rfl, .inl ⟨SqL.of hD15, fun w hw => ?_⟩⟩
              have sw := same_new (o := .tup ((rowI (fun c d => min (G c d) M) y.length i3).map V.int)) hw
              have hDw := sw _ _ (s15 _ _ hD14)
              refine ⟨_, hDw, fewL (by omega), got ++ [.ref w], upd_same, ?_, upd_out hD ((s14.trans s15).trans sw)⟩
              rw [List.range_succ]
              exact Paired.snoc ((rc14.keep (s15.trans sw)).keepT (upd_list hDw)) ⟨w, rfl, upd_list hDw _ _ upd_same⟩
          · rintro H14 ⟨got, hD14, rc14, s14⟩
            rw [gl] at rc14
            refine name_go ?_
            refine ⟨_, rfl, _, rfl, D, _, rfl, .inl ⟨SqL.of hD14, fun g2 hg2 => ⟨by show 1 ≤ sizeLine; decide, fun q hq => ?_⟩⟩⟩
            have sg2 := same_new (o := .tup got) hg2
            have sq := same_new (o := .tup [.ref g2]) hq
            have s1q := (s14.trans sg2).trans sq
            refine cat_go (s1q _ _ ho13) upd_same (by rw [List.length_cons, List.length_map]; exact Nat.le_of_lt (fewL (by show _ + 1 + 1 ≤ _; omega))) fun u H' su hu' => name_go ?_
            refine ⟨u, gs ++ [g2], _, _, _, _, rfl, by rw [hu', List.map_append]; rfl, by rw [List.length_append, gl13]; rfl, fun j g' hj => ?_, ((s13.trans s1q).trans su)⟩
            rcases Nat.lt_or_ge j gs.length with l | l
            · rw [List.getElem?_append_left l] at hj
              exact (gg13 j g' hj).keep (.same (s1q.trans su))
            · rw [List.getElem?_append_right l] at hj
              have ej : j = i2 := by
                have := (List.getElem?_eq_some_iff.mp hj).1
                rw [List.length_singleton] at this
                omega
              subst ej
              rw [gl13, Nat.sub_self] at hj
              cases hj
              rw [hG]
              exact RowC.grid (su _ _ (sq _ _ upd_same)) ((rc14.keep (sg2.trans sq)).keep su)
        · rintro σ H13 ⟨o, gs, o11, o12, o13, o14, rfl, ho13, gl13, gg13, s13⟩
          obtain ⟨g1, g2, rfl⟩ : ∃ g1 g2, gs = [g1, g2] := by
            match gs, gl13 with
            | [g1, g2], _ => exact ⟨g1, g2, rfl⟩
          obtain ⟨iv2, fp2⟩ := pri_of (e := e) (M := M) ho13 (gg13 0 g1 rfl) (gg13 1 g2 rfl) (by omega) (by omega) (by omega)
          rw [hfew, show min few M = M by omega] at fp2
          have s1013 := s1012.trans s13
          have P15 := P10.stay s1013
          have kp13 := kp10.trans (.same s1013)
          have ht13 := s1013 _ _ ht10
          have iv1 := iv1.keep (.same s1013)
          have fp1 := fp1.keep (.same s1013)
          refine ⟨_, rfl, _, rfl, _, rfl, _, rfl, _, rfl, rfl, x, y, (M : Nat), .ref o, e, 200, rfl, iv2, by decide, by omega, by omega, fun b16 H16 s16 hb16 => ?_⟩
          have b16t : b16 = true := hb16.mpr fp2
          subst b16t
          refine ⟨_, _, rfl, rfl, _, rfl, iteF ?_⟩
          have ht16 := s16 _ _ ht13
          have iv1 := iv1.keep (.same s16)
          have iv2 := iv2.keep (.same s16)
          have fp1 := fp1.keep (.same s16)
          have P16 := P15.stay s16
          have gA16 := gA10.keep (.same (s1013.trans s16))
          have gF16 := gF10.keep (.same (s1013.trans s16))
          refine ⟨_, rfl, name_go ?_⟩
          refine ⟨10, rfl, by decide, by decide, ?_⟩
          refine for_range (lo := 0) (n := (10 : Int).toNat) (fun r σ H' => ∃ (o16 o17 o18 : Option V) (th : V), σ = [some (.ref a), some (.ref p), some (.int (0 + (i : Int))), some (.str sg), some (.str x), some (.str y), some (.int (e : Nat)), some (.int (few : Nat)), some (.ref t), some (.int (M : Nat)), some (.ref o), o11, o12, o13, o14, some th, o16, o17, o18, o19] ∧ IsV H' (200 + 8 * r) 3 th ∧ Kp H16 H' ∧ Pen H' p pc (5000 * i + 1000 + 100 * r)) ?_ ?_ ?_
          · exact ⟨_, _, _, _, rfl, iv1, Kp.rfl, P16.mono (by omega)⟩
          · rintro r σ H17 hr10 ⟨o16, o17, o18, th, rfl, ivt, kp17, P17⟩
            have r10 : r < 10 := hr10
            refine name_go ⟨_, rfl, _, rfl, _, rfl, _, rfl, _, rfl, _, rfl, by show 4 ≤ sizeLine; decide, fun q hq => ?_⟩
            have sq := same_new (o := .lst [.ref t, .ref t, .ref o, th]) hq
            have kq := kp17.trans (.same sq)
            refine pick_end (E := E0) (B := 200 + 8 * r) (d := 3) upd_same (fun z => nomatch z) (Nat.le_of_ble_eq_true rfl) (fun v hv => ?_) (P17.stay sq) (by omega) fun v1 H18 iv18 P18 x18 => ?_
            · rcases List.mem_cons.mp hv with rfl | hv
              · exact (iv1.keep kq).mono (by omega)
              rcases List.mem_cons.mp hv with rfl | hv
              · exact (iv1.keep kq).mono (by omega)
              rcases List.mem_cons.mp hv with rfl | hv
              · exact (iv2.keep kq).mono (by omega)
              rcases List.mem_cons.mp hv with rfl | hv
              · exact ivt.keep (.same sq)
              · cases hv
            have k18 := kq.trans (Kp.pen (P17.stay sq) x18 P18)
            refine ⟨p, pc, _, v1, 200 + 8 * r, rfl, iv18, by omega, by omega, P18, (by show _ + 2 * 3 + 10 < _; omega), fun v2 H19 iv19 P19 x19 => ?_⟩
            have k19 := k18.trans (Kp.pen P18 x19 P19)
            have e8 : 200 + 8 * r + 8 = 200 + 8 * (r + 1) := by omega
            rw [e8] at iv19
            replace P19 : Pen H19 p pc (5000 * i + 1000 + 100 * r + 1 + 2 * 3 + 2) := P19
            refine name_go ?_
            dsimp only
            refine seq_midR (fun σ H' => ∃ (th : V), σ = [some (.ref a), some (.ref p), some (.int (0 + (i : Int))), some (.str sg), some (.str x), some (.str y), some (.int (e : Nat)), some (.int (few : Nat)), some (.ref t), some (.int (M : Nat)), some (.ref o), o11, o12, o13, o14, some th, some (.int (0 + (r : Int))), o17, o18, o19] ∧ IsV H' (200 + 8 * (r + 1)) 3 th ∧ Kp H16 H' ∧ Pen H' p pc (5000 * i + 1020 + 100 * r)) (fun N hD' => ?_) (fun σ H20 hm => ?_)
            · obtain ⟨ty, tyx, ⟨bt, kt, _, _⟩, _⟩ := kit_any (K := K) iv19
              refine ⟨_, rfl, v2, .ty "tuple", ty, .type "tuple", bt, rfl, .ty "tuple", tyx, kt, bt, rfl, ?_⟩
              cases bt with
              | false => exact iteT ⟨_, rfl, hD' _ _ ⟨_, rfl, (iv1.keep k19).mono (by omega), k19, P19.mono (by omega)⟩⟩
              | true => exact iteF (hD' _ _ ⟨_, rfl, iv19, k19, P19.mono (by omega)⟩)
            obtain ⟨th, rfl, iv20, k20, P20⟩ := hm
            refine ⟨_, rfl, _, rfl, _, rfl, _, rfl, _, rfl, _, _, rfl, rfl, by show 4 ≤ sizeLine; decide, fun q2 hq2 => ?_⟩
            have sq2 := same_new (o := .lst [.int (few : Nat), .int (few : Nat), .int (M : Nat), .int ((few : Nat) + 1)]) hq2
            have P22 := P20.stay sq2
            refine ⟨p, pc, .ref q2, _, _, rfl, .lst (SqL.of upd_same), (fun z => nomatch z), Nat.le_of_ble_eq_true rfl, P22, by omega, fun v H23 m23 P23 x23 => ?_⟩
            obtain ⟨tot, rfl⟩ : ∃ tot, v = .int tot := by
              rcases List.mem_cons.mp m23 with rfl | m23
              · exact ⟨_, rfl⟩
              rcases List.mem_cons.mp m23 with rfl | m23
              · exact ⟨_, rfl⟩
              rcases List.mem_cons.mp m23 with rfl | m23
              · exact ⟨_, rfl⟩
              rcases List.mem_cons.mp m23 with rfl | m23
              · exact ⟨_, rfl⟩
              · cases m23
            have k23 : Kp H20 H23 := (Kp.same sq2).trans (Kp.pen P22 x23 P23)
            have iv23 := iv20.keep k23
            have k23 := k20.trans k23
            refine name_go ⟨_, rfl, _, rfl, _, rfl, _, rfl, _, rfl, x, y, tot, th, e, _, rfl, iv23, by omega, by omega, by omega, fun bd H24 s24 hbd => ?_⟩
            refine name_go ⟨_, rfl, _, rfl, _, rfl, _, rfl, rfl, _, rfl, rfl, x, y, tot, th, e, _, rfl, iv23.keep (.same s24), by omega, by omega, by omega, fun be H25 s25 hbe => ?_⟩
            have eb : be = bd := by
              rw [Bool.eq_iff_iff, hbe, hbd]
              exact ⟨fun h => h.back iv23 (.same s24), fun h => h.keep (.same s24)⟩
            subst eb
            refine ⟨_, .bool be, rfl, .bl be, rfl, rfl, Nat.zero_le _, by cases be <;> decide, _, rfl, _, .bool be, rfl, .bl be, rfl, rfl, Nat.zero_le _, by cases be <;> decide, rfl, _, rfl, ?_⟩
            rw [decide_eq_true rfl]
            refine iteF ⟨_, rfl, be, rfl, ?_⟩
            have fin : ∃ (o16 o17 o18 : Option V) (th' : V), [some (.ref a), some (.ref p), some (.int (0 + (i : Int))), some (.str sg), some (.str x), some (.str y), some (.int (e : Nat)), some (.int (few : Nat)), some (.ref t), some (.int (M : Nat)), some (.ref o), o11, o12, o13, o14, some th, some (.int (0 + (r : Int))), some (.int tot), some (.bl be), o19] = [some (.ref a), some (.ref p), some (.int (0 + (i : Int))), some (.str sg), some (.str x), some (.str y), some (.int (e : Nat)), some (.int (few : Nat)), some (.ref t), some (.int (M : Nat)), some (.ref o), o11, o12, o13, o14, some th', o16, o17, o18, o19] ∧ IsV H25 (200 + 8 * (r + 1)) 3 th' ∧ Kp H16 H25 ∧ Pen H25 p pc (5000 * i + 1000 + 100 * (r + 1)) := ⟨_, _, _, _, rfl, iv23.keep (.same (s24.trans s25)), k23.trans (.same (s24.trans s25)), (P23.stay (s24.trans s25)).mono (by omega)⟩
            cases be with
            | false => exact iteF (iteF fin)
            | true =>
              refine iteT ⟨_, rfl, _, rfl, _, _, rfl, rfl, _, rfl, ?_⟩
              obtain ⟨_, _, LA, LF, _, _, _, fl⟩ := hbd.mp rfl
              have le := prices_le fl w0
              rw [show decide (((few : Nat) : Int) < tot) = false from decide_eq_false (by omega)]
              exact iteF fin
          · rintro σ H17 ⟨o16, o17, o18, th, rfl, ivt, kp17, P17⟩
            refine ⟨_, rfl, p, pc, _, rfl, P17, by omega, fun v0 d0 H20 th0 ok0 _ P20 x20 => ?_⟩
            have k20 := kp17.trans (Kp.pen P17 x20 P20)
            have h20 := k20.tup _ _ ht16
            have gA20 := gA16.keep k20
            have gF20 := gF16.keep k20
            have iv20 := iv1.keep k20
            refine ⟨_, rfl, noPart_go ⟨_, rfl, ?_⟩⟩
            refine slA h20 fun u3 H21 s21 hu3 => ?_
            have hu3 : H21 u3 = some (.tup [.str "prices", .ref ga]) := hu3
            refine ⟨_, rfl, by show 0 ≤ sizeLine; decide, fun e4 he4 => ⟨by show 1 ≤ sizeLine; decide, fun w4 hw4 => ?_⟩⟩
            have se4 := same_new (o := .tup []) he4
            have sw4 := same_new (o := .tup [.ref e4]) hw4
            have s4 := se4.trans sw4
            refine cat_go (s4 _ _ (s21 _ _ h20)) upd_same (by show 3 + 1 ≤ sizeLine; decide) fun u4 H24 s24 hu4 => ?_
            have hu4 : H24 u4 = some (.tup [.str "prices", .ref ga, .ref gf, .ref e4]) := hu4
            have he4' : H24 e4 = some (.tup []) := s24 _ _ (sw4 _ _ upd_same)
            have c24 := (s21.trans s4).trans s24
            have hu3 := s24 _ _ (s4 _ _ hu3)
            have h24 := c24 _ _ h20
            refine ⟨by show 0 ≤ sizeLine; decide, fun e5 he5 => ⟨by show 0 ≤ sizeLine; decide, fun e6 he6 => ⟨by show 3 ≤ sizeLine; decide, fun u5 hu5 => ?_⟩⟩⟩
            have se5 := same_new (o := .tup []) he5
            have se6 := same_new (o := .tup []) he6
            have s5 := same_new (o := .tup [.str "prices", .ref e5, .ref e6]) hu5
            have c25 := (se5.trans se6).trans s5
            refine ⟨_, rfl, t, _, _, _, rfl, rfl, SqT.of (c25 _ _ h24), at1, by show 3 ≤ sizeLine; decide, fun u6 hu6 => ?_⟩
            have s6 := same_new (o := .tup [.str "prices", .ref ga, .non]) hu6
            refine ⟨_, rfl, by show 1 ≤ sizeLine; decide, fun l7 hl7 => ?_⟩
            have s7 := same_new (o := .lst [.ref t]) hl7
            refine ⟨by show 6 ≤ sizeLine; decide, fun q8 hq8 => name_go ⟨_, rfl, q8, rfl, ⟨_, SqL.of upd_same⟩, ?_⟩⟩
            have s8 := same_new (o := .lst [v0, .ref u3, .ref u4, .ref u5, .ref u6, .ref l7]) hq8
            have hq8' : (upd (upd (upd (upd (upd (upd H24 e5 (.tup [])) e6 (.tup [])) u5 (.tup [.str "prices", .ref e5, .ref e6])) u6 (.tup [.str "prices", .ref ga, .non])) l7 (.lst [.ref t])) q8 (.lst [v0, .ref u3, .ref u4, .ref u5, .ref u6, .ref l7])) q8 = some (.lst [v0, .ref u3, .ref u4, .ref u5, .ref u6, .ref l7]) := upd_same
            have s78 := s7.trans s8
            have s68 := s6.trans s78
            have s58 := s5.trans s68
            have he5' := (se6.trans s58) _ _ (upd_same (a := e5) (o := .tup []))
            have he6' := s58 _ _ (upd_same (a := e6) (o := .tup []))
            have hu5' := s68 _ _ (upd_same (a := u5) (o := .tup [.str "prices", .ref e5, .ref e6]))
            have hu6' := s78 _ _ (upd_same (a := u6) (o := .tup [.str "prices", .ref ga, .non]))
            have hl7' := s8 _ _ (upd_same (a := l7) (o := .lst [.ref t]))
            have s48 := (se5.trans se6).trans s58
            have hu3' := s48 _ _ hu3
            have hu4' := s48 _ _ hu4
            have he4'' := s48 _ _ he4'
            have c28 := c24.trans s48
            have h28 := c28 _ _ h20
            have iv28 := iv20.keep (.same c28)
            have iv0 := (th0.isV ok0).keep (.same c28)
            have P28 := P20.stay c28
            generalize (upd (upd (upd (upd (upd (upd H24 e5 (.tup [])) e6 (.tup [])) u5 (.tup [.str "prices", .ref e5, .ref e6])) u6 (.tup [.str "prices", .ref ga, .non])) l7 (.lst [.ref t])) q8 (.lst [v0, .ref u3, .ref u4, .ref u5, .ref u6, .ref l7])) = H28 at hq8' he5' he6' hu5' hu6' hl7' hu3' hu4' he4'' h28 iv28 iv0 P28 ⊢
            have itm := iv28.items ⟨t, rfl, h28⟩
            have iga : IsV H28 5000 2 (.ref ga) := (itm (.ref ga) (by simp)).mono (by omega)
            have igf : IsV H28 5000 2 (.ref gf) := (itm (.ref gf) (by simp)).mono (by omega)
            have ist : IsV H28 5000 2 (.str "prices") := .str _ (Nat.le_of_ble_eq_true rfl)
            have tupI : ∀ {u : Addr} {xs : List V}, H28 u = some (.tup xs) → xs.length ≤ 5000 → (∀ z ∈ xs, IsV H28 5000 2 z) → IsV H28 5000 3 (.ref u) := fun h l q => .tup h l q
            have all : ∀ v ∈ [v0, .ref u3, .ref u4, .ref u5, .ref u6, .ref l7], IsV H28 5000 3 v ∧ NoPri H28 x y e v := fun v hv => by
              rcases List.mem_cons.mp hv with rfl | hv
              · exact ⟨iv0.deep.deep, no_leaf iv0⟩
              rcases List.mem_cons.mp hv with rfl | hv
              · refine ⟨tupI hu3' (Nat.le_of_ble_eq_true rfl) fun z hz => ?_, no_tup hu3' fun a f A F e => by cases e⟩
                simp only [List.mem_cons, List.not_mem_nil, or_false] at hz
                rcases hz with rfl | rfl
                · exact ist
                · exact iga
              rcases List.mem_cons.mp hv with rfl | hv
              · refine ⟨tupI hu4' (Nat.le_of_ble_eq_true rfl) fun z hz => ?_, no_tup hu4' fun a f A F e => by cases e⟩
                simp only [List.mem_cons, List.not_mem_nil, or_false] at hz
                rcases hz with rfl | rfl | rfl | rfl
                · exact ist
                · exact iga
                · exact igf
                · exact .nil he4''
              rcases List.mem_cons.mp hv with rfl | hv
              · refine ⟨tupI hu5' (Nat.le_of_ble_eq_true rfl) fun z hz => ?_, no_tup hu5' fun a f A F e h _ => by cases e; exact no_empty he5' h⟩
                simp only [List.mem_cons, List.not_mem_nil, or_false] at hz
                rcases hz with rfl | rfl | rfl
                · exact ist
                · exact .nil he5'
                · exact .nil he6'
              rcases List.mem_cons.mp hv with rfl | hv
              · refine ⟨tupI hu6' (Nat.le_of_ble_eq_true rfl) fun z hz => ?_, no_tup hu6' fun a f A F e _ h => by
                  cases e
                  obtain ⟨g, z⟩ := h.ref
                  cases z⟩
                simp only [List.mem_cons, List.not_mem_nil, or_false] at hz
                rcases hz with rfl | rfl | rfl
                · exact ist
                · exact iga
                · exact .non
              rcases List.mem_cons.mp hv with rfl | hv
              · exact ⟨.lst hl7', no_lst hl7'⟩
              · cases hv
            refine for_list (xs := [v0, .ref u3, .ref u4, .ref u5, .ref u6, .ref l7]) (fun j σ H' => ∃ (th : V), σ = [some (.ref a), some (.ref p), some (.int (0 + (i : Int))), some (.str sg), some (.str x), some (.str y), some (.int (e : Nat)), some (.int (few : Nat)), some (.ref t), some (.int (M : Nat)), some (.ref o), o11, o12, o13, o14, some th, o16, o17, o18, some (.ref q8)] ∧ Same H28 H') ?_ ?_ ?_ ?_
            · exact ⟨_, rfl, Same.rfl⟩
            · rintro j σ H' _ ⟨th, rfl, s9⟩
              exact SqL.of (s9 _ _ hq8')
            · rintro j v σ H29 hv ⟨th, rfl, s9⟩
              obtain ⟨iv, nf⟩ := all v (List.mem_of_getElem? hv)
              refine name_go ⟨_, rfl, _, rfl, _, rfl, _, rfl, rfl, _, rfl, rfl, x, y, _, v, e, 5000, rfl, iv.keep (.same s9), Nat.le_refl _, by omega, by omega, fun b H30 s30 hb => ?_⟩
              have bf : b = false := by
                cases b with
                | false => rfl
                | true => exact absurd (hb.mp rfl) (nf.keep iv (.same s9) _)
              subst bf
              exact ⟨_, _, rfl, rfl, _, rfl, iteF ⟨_, rfl, s9.trans s30⟩⟩
            · rintro σ H' ⟨th, rfl, s9⟩
              exact ⟨_, _, _, _, _, _, _, _, _, _, _, _, _, _, _, _, _, _, rfl, (P28.stay s9).mono (by omega)⟩
    · rintro σ H2 ⟨o2, o3, o4, o5, o6, o7, o8, o9, o10, o11, o12, o13, o14, o15, o16, o17, o18, o19, rfl, P2⟩
      exact k _
end
end Vk
set_option Elab.async false
set_option maxRecDepth 100000
set_option maxHeartbeats 4000000
set_option linter.all false
namespace Vk
open PySem PySem.Spec PyProof.Rows L2 PySem.W
theorem walkX {l : PySem.W.OpenLaw} {n k : Nat} {q : Program} {loose : List Str} {XP : (Str → Option Value) → Heap → Prop} {YP : World → Heap → Prop} {d : DefRec} {K : Params → PySem.W.Frag} {CX : CXT} {sp : PySem.W.Frag → Sp} {x : Str}
    (hn : l.most = some n) (hn2 : n ≤ sizeLine) (hdf : d.params.defaults = []) (hr : Room k callerA) (hY : ∀ (w : World) (h : Heap), YP w h → (K w.params).In h)
    (F : ∀ (w : World) (mg : Str → Option Value) (fa : Addr) (h : Heap), (K w.params).In h → (∃ s0 mb, PySem.W.Ground q loose [] XP w s0 mg mb h) → mg d.name = some (.ref fa) →
      ∃ fd : FuncData, (∀ (s : Shared) (u : Value), BindsTo s fd ⟨[u], []⟩ [(x, u)]) ∧ ∀ base : Heap, (K w.params).In base → base.Ns mainGlobals mg → FnG l.prog w (K w.params) mg base CX k fa fd [x] (sp (K w.params)))
    (hsp : ∀ (K : PySem.W.Frag) (H : Hp) (a : Addr) (ns : List Int), ns.length ≤ n → Only H → SqL K H a (ns.map V.int) → sp K [.ref a] H (fun v _ => v = .bl true) fun _ _ _ => False)
    (noX : ∀ (H : Hp) (s : Shared) (e : Value) (s2 : Shared), CX [] H s (fun _ _ _ => False) e s2 → False) : PySem.W.WalkO q loose XP YP l.row.toRowW d [] (fun f vs => PySem.call f vs) := by
  refine Att.attach_call hn hdf ?_
  intro w s0 s1 mg mb fa o pm cd doc a vs ns G Y _ _ _ hmg scr hints hlen gens0
  obtain ⟨fd, hb, hF⟩ := F w mg fa _ (hY w _ Y) ⟨s0, mb, G⟩ hmg
  exact lawG (hY w _ Y) G.T.g G.T.b G.T.builtins G.T.nolimit gens0 scr hints (Nat.le_trans hlen hn2) hr hF hb (fun H h1 h2 => hsp _ H a ns hlen h1 h2) (fun H => noX H s1)
end Vk
set_option Elab.async false
set_option maxRecDepth 100000
set_option linter.all false
set_option maxHeartbeats 4000000
namespace Vk
open PySem PySem.Spec PyProof.Rows L2 LamX NdefX StX PySem.VkX
theorem all {l : PySem.W.OpenLaw} {w : World} {K : PySem.W.Frag} {h : Heap} {mg : Str → Option Value} {fa : Addr} (X : K.In h) (G : h.Ns mainGlobals mg) (hfa : mg "law" = some (.ref fa))
    (d_lsigns : ∃ (f : Addr) (fd : FuncData), At K "_law_signs" s_lsigns f fd)
    (d_stands_twice : ∃ (f : Addr) (fd : FuncData), At K "stands_twice" s_stands_twice f fd)
    (d_ldraw : ∃ (f : Addr) (fd : FuncData), At K "_law_draw" s_ldraw f fd)
    (d_lpen : ∃ (f : Addr) (fd : FuncData), At K "_law_pen" s_lpen f fd)
    (d_lpick : ∃ (f : Addr) (fd : FuncData), At K "_law_pick" s_lpick f fd)
    (d_lfew : ∃ (f : Addr) (fd : FuncData), At K "_law_few" s_lfew f fd)
    (d_lword : ∃ (f : Addr) (fd : FuncData), At K "_law_word" s_lword f fd)
    (d_lplaces : ∃ (f : Addr) (fd : FuncData), At K "_law_places" s_lplaces f fd)
    (d_lntext : ∃ (f : Addr) (fd : FuncData), At K "_law_ntext" s_lntext f fd)
    (d_lnonce : ∃ (f : Addr) (fd : FuncData), At K "_law_nonce" s_lnonce f fd)
    (d_lany_value : ∃ (f : Addr) (fd : FuncData), At K "_law_any_value" s_lany_value f fd)
    (d_least_ends : ∃ (f : Addr) (fd : FuncData), At K "least_ends" s_least_ends f fd)
    (d_openings : ∃ (f : Addr) (fd : FuncData), At K "openings" s_openings f fd)
    (d_price_tables : ∃ (f : Addr) (fd : FuncData), At K "price_tables" s_price_tables f fd)
    (d_has_exchange : ∃ (f : Addr) (fd : FuncData), At K "has_exchange" s_has_exchange f fd)
    (d_lnbest : ∃ (f : Addr) (fd : FuncData), At K "_law_nbest" s_lnbest f fd)
    (d_is_integer : ∃ (f : Addr) (fd : FuncData), At K "is_integer" s_is_integer f fd)
    (d_is_grid : ∃ (f : Addr) (fd : FuncData), At K "is_grid" s_is_grid f fd)
    (d_lnis_grid : ∃ (f : Addr) (fd : FuncData), At K "_law_nis_grid" s_lnis_grid f fd)
    (d_prices : ∃ (f : Addr) (fd : FuncData), At K "prices" s_prices f fd)
    (d_steps_on : ∃ (f : Addr) (fd : FuncData), At K "steps_on" s_steps_on f fd)
    (d_is_prices : ∃ (f : Addr) (fd : FuncData), At K "is_prices" s_is_prices f fd)
    (d_lnends : ∃ (f : Addr) (fd : FuncData), At K "_law_nends" s_lnends f fd)
    (d_lnare_low : ∃ (f : Addr) (fd : FuncData), At K "_law_nare_low" s_lnare_low f fd)
    (d_lnis_prices : ∃ (f : Addr) (fd : FuncData), At K "_law_nis_prices" s_lnis_prices f fd)
    (d_lnbent : ∃ (f : Addr) (fd : FuncData), At K "_law_nbent" s_lnbent f fd)
    (d_law : ∃ (f : Addr) (fd : FuncData), At K "law" s_law f fd)
    (z_str : PySem.W.nsIn K mainGlobals "str" = some none)
    (z_tuple : PySem.W.nsIn K mainGlobals "tuple" = some none)
    (z_enumerate : PySem.W.nsIn K mainGlobals "enumerate" = some none)
    (z_bool : PySem.W.nsIn K mainGlobals "bool" = some none)
    (z_sum : PySem.W.nsIn K mainGlobals "sum" = some none)
    (z_max : PySem.W.nsIn K mainGlobals "max" = some none)
    (z_ValueError : PySem.W.nsIn K mainGlobals "ValueError" = some none)
    (z_len : PySem.W.nsIn K mainGlobals "len" = some none)
    (z_list : PySem.W.nsIn K mainGlobals "list" = some none)
    (z_int : PySem.W.nsIn K mainGlobals "int" = some none)
    (z_abs : PySem.W.nsIn K mainGlobals "abs" = some none)
    (z_range : PySem.W.nsIn K mainGlobals "range" = some none)
    (z_min : PySem.W.nsIn K mainGlobals "min" = some none)
    (z_repr : PySem.W.nsIn K mainGlobals "repr" = some none)
    (z_reversed : PySem.W.nsIn K mainGlobals "reversed" = some none)
    (z_all : PySem.W.nsIn K mainGlobals "all" = some none)
    (z_isinstance : PySem.W.nsIn K mainGlobals "isinstance" = some none)
    : ∃ (fd : FuncData), (∀ (s : Shared) (v : Value), BindsTo s fd ⟨[v], []⟩ [("_law_script", v)]) ∧ ∀ base : Heap, K.In base → base.Ns mainGlobals mg → FnG l.prog w K mg base CX0 7 fa fd ["_law_script"] (spLaw K) := by
  obtain ⟨f_lsigns, fd_lsigns, A_lsigns⟩ := d_lsigns
  have m_lsigns := PySem.W.mg_of X G A_lsigns.ns
  obtain ⟨f_stands_twice, fd_stands_twice, A_stands_twice⟩ := d_stands_twice
  have m_stands_twice := PySem.W.mg_of X G A_stands_twice.ns
  obtain ⟨f_ldraw, fd_ldraw, A_ldraw⟩ := d_ldraw
  have m_ldraw := PySem.W.mg_of X G A_ldraw.ns
  obtain ⟨f_lpen, fd_lpen, A_lpen⟩ := d_lpen
  have m_lpen := PySem.W.mg_of X G A_lpen.ns
  obtain ⟨f_lpick, fd_lpick, A_lpick⟩ := d_lpick
  have m_lpick := PySem.W.mg_of X G A_lpick.ns
  obtain ⟨f_lfew, fd_lfew, A_lfew⟩ := d_lfew
  have m_lfew := PySem.W.mg_of X G A_lfew.ns
  obtain ⟨f_lword, fd_lword, A_lword⟩ := d_lword
  have m_lword := PySem.W.mg_of X G A_lword.ns
  obtain ⟨f_lplaces, fd_lplaces, A_lplaces⟩ := d_lplaces
  have m_lplaces := PySem.W.mg_of X G A_lplaces.ns
  obtain ⟨f_lntext, fd_lntext, A_lntext⟩ := d_lntext
  have m_lntext := PySem.W.mg_of X G A_lntext.ns
  obtain ⟨f_lnonce, fd_lnonce, A_lnonce⟩ := d_lnonce
  have m_lnonce := PySem.W.mg_of X G A_lnonce.ns
  obtain ⟨f_lany_value, fd_lany_value, A_lany_value⟩ := d_lany_value
  have m_lany_value := PySem.W.mg_of X G A_lany_value.ns
  obtain ⟨f_least_ends, fd_least_ends, A_least_ends⟩ := d_least_ends
  have m_least_ends := PySem.W.mg_of X G A_least_ends.ns
  obtain ⟨f_openings, fd_openings, A_openings⟩ := d_openings
  have m_openings := PySem.W.mg_of X G A_openings.ns
  obtain ⟨f_price_tables, fd_price_tables, A_price_tables⟩ := d_price_tables
  have m_price_tables := PySem.W.mg_of X G A_price_tables.ns
  obtain ⟨f_has_exchange, fd_has_exchange, A_has_exchange⟩ := d_has_exchange
  have m_has_exchange := PySem.W.mg_of X G A_has_exchange.ns
  obtain ⟨f_lnbest, fd_lnbest, A_lnbest⟩ := d_lnbest
  have m_lnbest := PySem.W.mg_of X G A_lnbest.ns
  obtain ⟨f_is_integer, fd_is_integer, A_is_integer⟩ := d_is_integer
  have m_is_integer := PySem.W.mg_of X G A_is_integer.ns
  obtain ⟨f_is_grid, fd_is_grid, A_is_grid⟩ := d_is_grid
  have m_is_grid := PySem.W.mg_of X G A_is_grid.ns
  obtain ⟨f_lnis_grid, fd_lnis_grid, A_lnis_grid⟩ := d_lnis_grid
  have m_lnis_grid := PySem.W.mg_of X G A_lnis_grid.ns
  obtain ⟨f_prices, fd_prices, A_prices⟩ := d_prices
  have m_prices := PySem.W.mg_of X G A_prices.ns
  obtain ⟨f_steps_on, fd_steps_on, A_steps_on⟩ := d_steps_on
  have m_steps_on := PySem.W.mg_of X G A_steps_on.ns
  obtain ⟨f_is_prices, fd_is_prices, A_is_prices⟩ := d_is_prices
  have m_is_prices := PySem.W.mg_of X G A_is_prices.ns
  obtain ⟨f_lnends, fd_lnends, A_lnends⟩ := d_lnends
  have m_lnends := PySem.W.mg_of X G A_lnends.ns
  obtain ⟨f_lnare_low, fd_lnare_low, A_lnare_low⟩ := d_lnare_low
  have m_lnare_low := PySem.W.mg_of X G A_lnare_low.ns
  obtain ⟨f_lnis_prices, fd_lnis_prices, A_lnis_prices⟩ := d_lnis_prices
  have m_lnis_prices := PySem.W.mg_of X G A_lnis_prices.ns
  obtain ⟨f_lnbent, fd_lnbent, A_lnbent⟩ := d_lnbent
  have m_lnbent := PySem.W.mg_of X G A_lnbent.ns
  obtain ⟨f_law, fd_law, A_law⟩ := d_law
  have m_law := PySem.W.mg_of X G A_law.ns
  have e := hfa.symm.trans m_law
  cases e
  have T : Txt mg := ⟨PySem.W.mg_none_of X G z_str, PySem.W.mg_none_of X G z_tuple, PySem.W.mg_none_of X G z_enumerate, PySem.W.mg_none_of X G z_bool, PySem.W.mg_none_of X G z_sum, PySem.W.mg_none_of X G z_max, PySem.W.mg_none_of X G z_ValueError, PySem.W.mg_none_of X G z_len, PySem.W.mg_none_of X G z_list, PySem.W.mg_none_of X G z_int, PySem.W.mg_none_of X G z_abs, PySem.W.mg_none_of X G z_range, PySem.W.mg_none_of X G z_min, PySem.W.mg_none_of X G z_repr, PySem.W.mg_none_of X G z_reversed, PySem.W.mg_none_of X G z_all, PySem.W.mg_none_of X G z_isinstance⟩
  have bd_lsigns : Binds K fd_lsigns [] [] := A_lsigns.fn.binds (ps := []) fun _ _ _ _ _ _ us hl => match us, hl with | [], _ => rfl
  have bd_stands_twice : Binds K fd_stands_twice ["text", "word"] [] := A_stands_twice.fn.binds (ps := ["text", "word"]) fun _ _ _ _ _ _ us hl => match us, hl with | [_, _], _ => rfl
  have bd_ldraw : Binds K fd_ldraw ["_law_pen_here", "_law_many"] [] := A_ldraw.fn.binds (ps := ["_law_pen_here", "_law_many"]) fun _ _ _ _ _ _ us hl => match us, hl with | [_, _], _ => rfl
  have bd_lpen : Binds K fd_lpen ["_law_script"] [] := A_lpen.fn.binds (ps := ["_law_script"]) fun _ _ _ _ _ _ us hl => match us, hl with | [_], _ => rfl
  have bd_lpick : Binds K fd_lpick ["_law_pen_here", "_law_options"] [] := A_lpick.fn.binds (ps := ["_law_pen_here", "_law_options"]) fun _ _ _ _ _ _ us hl => match us, hl with | [_, _], _ => rfl
  have bd_lfew : Binds K fd_lfew ["_law_pen_here"] [] := A_lfew.fn.binds (ps := ["_law_pen_here"]) fun _ _ _ _ _ _ us hl => match us, hl with | [_], _ => rfl
  have bd_lword : Binds K fd_lword ["_law_pen_here", "_law_signs_here", "_law_least", "_law_most_letters"] [] := A_lword.fn.binds (ps := ["_law_pen_here", "_law_signs_here", "_law_least", "_law_most_letters"]) fun _ _ _ _ _ _ us hl => match us, hl with | [_, _, _, _], _ => rfl
  have bd_lplaces : Binds K fd_lplaces ["_law_text_here", "_law_was"] [] := A_lplaces.fn.binds (ps := ["_law_text_here", "_law_was"]) fun _ _ _ _ _ _ us hl => match us, hl with | [_, _], _ => rfl
  have bd_lntext : Binds K fd_lntext ["_law_pen_here", "_law_signs_here", "_law_most_letters"] [] := A_lntext.fn.binds (ps := ["_law_pen_here", "_law_signs_here", "_law_most_letters"]) fun _ _ _ _ _ _ us hl => match us, hl with | [_, _, _], _ => rfl
  have bd_lnonce : Binds K fd_lnonce ["_law_text_here", "_law_a", "_law_b"] [] := A_lnonce.fn.binds (ps := ["_law_text_here", "_law_a", "_law_b"]) fun _ _ _ _ _ _ us hl => match us, hl with | [_, _, _], _ => rfl
  have bd_lany_value : Binds K fd_lany_value ["_law_pen_here"] [] := A_lany_value.fn.binds (ps := ["_law_pen_here"]) fun _ _ _ _ _ _ us hl => match us, hl with | [_], _ => rfl
  have bd_least_ends : Binds K fd_least_ends ["text"] [] := A_least_ends.fn.binds (ps := ["text"]) fun _ _ _ _ _ _ us hl => match us, hl with | [_], _ => rfl
  have bd_openings : Binds K fd_openings ["text"] [] := A_openings.fn.binds (ps := ["text"]) fun _ _ _ _ _ _ us hl => match us, hl with | [_], _ => rfl
  have bd_price_tables : Binds K fd_price_tables ["one", "other", "each"] [] := A_price_tables.fn.binds (ps := ["one", "other", "each"]) fun _ _ _ _ _ _ us hl => match us, hl with | [_, _, _], _ => rfl
  have bd_has_exchange : Binds K fd_has_exchange ["one", "other"] [] := A_has_exchange.fn.binds (ps := ["one", "other"]) fun _ _ _ _ _ _ us hl => match us, hl with | [_, _], _ => rfl
  have bd_lnbest : Binds K fd_lnbest ["_law_left", "_law_right", "_law_extra"] [] := A_lnbest.fn.binds (ps := ["_law_left", "_law_right", "_law_extra"]) fun _ _ _ _ _ _ us hl => match us, hl with | [_, _, _], _ => rfl
  have bd_is_integer : Binds K fd_is_integer ["value"] [] := A_is_integer.fn.binds (ps := ["value"]) fun _ _ _ _ _ _ us hl => match us, hl with | [_], _ => rfl
  have bd_is_grid : Binds K fd_is_grid ["value", "height", "width"] [] := A_is_grid.fn.binds (ps := ["value", "height", "width"]) fun _ _ _ _ _ _ us hl => match us, hl with | [_, _, _], _ => rfl
  have bd_lnis_grid : Binds K fd_lnis_grid ["_law_thing", "_law_size", "_law_many"] [] := A_lnis_grid.fn.binds (ps := ["_law_thing", "_law_size", "_law_many"]) fun _ _ _ _ _ _ us hl => match us, hl with | [_, _, _], _ => rfl
  have bd_steps_on : Binds K fd_steps_on ["one", "other", "each"] [] := A_steps_on.fn.binds (ps := ["one", "other", "each"]) fun _ _ _ _ _ _ us hl => match us, hl with | [_, _, _], _ => rfl
  have bd_lnends : Binds K fd_lnends ["_law_here"] [] := A_lnends.fn.binds (ps := ["_law_here"]) fun _ _ _ _ _ _ us hl => match us, hl with | [_], _ => rfl
  have bd_lnare_low : Binds K fd_lnare_low ["_law_left", "_law_right", "_law_extra", "_law_kept", "_law_free"] [] := A_lnare_low.fn.binds (ps := ["_law_left", "_law_right", "_law_extra", "_law_kept", "_law_free"]) fun _ _ _ _ _ _ us hl => match us, hl with | [_, _, _, _, _], _ => rfl
  have bd_lnis_prices : Binds K fd_lnis_prices ["_law_left", "_law_right", "_law_total", "_law_extra", "_law_thing"] [] := A_lnis_prices.fn.binds (ps := ["_law_left", "_law_right", "_law_total", "_law_extra", "_law_thing"]) fun _ _ _ _ _ _ us hl => match us, hl with | [_, _, _, _, _], _ => rfl
  have bd_lnbent : Binds K fd_lnbent ["_law_pen_here", "_law_thing"] [] := A_lnbent.fn.binds (ps := ["_law_pen_here", "_law_thing"]) fun _ _ _ _ _ _ us hl => match us, hl with | [_, _], _ => rfl
  refine ⟨fd_law, fun s v => A_law.fn.binds1 rfl s v, fun base _ _ => ?_⟩
  have t_signs : FnT l.prog w K mg base 1 "_law_signs" letS := okT A_lsigns.fn sc_lsigns m_lsigns bd_lsigns rfl
  have c_lsigns : CalG l.prog w K mg base CX0 1 "_law_signs" spSigns := ⟨f_lsigns, fd_lsigns, _, b_lsigns A_lsigns.fn T, m_lsigns, A_lsigns.fn.kp, bd_lsigns⟩
  have c_stands_twice : CalG l.prog w K mg base CX0 1 "stands_twice" spTwice := ⟨f_stands_twice, fd_stands_twice, _, b_stands_twice A_stands_twice.fn T, m_stands_twice, A_stands_twice.fn.kp, bd_stands_twice⟩
  have c_ldraw : CalG l.prog w K mg base CX0 1 "_law_draw" spDraw := ⟨f_ldraw, fd_ldraw, _, b_ldraw A_ldraw.fn T, m_ldraw, A_ldraw.fn.kp, bd_ldraw⟩
  have c_lpen : CalG l.prog w K mg base CX0 1 "_law_pen" (spPen K) := ⟨f_lpen, fd_lpen, _, b_lpen A_lpen.fn T, m_lpen, A_lpen.fn.kp, bd_lpen⟩
  have c_lpick : CalG l.prog w K mg base CX0 2 "_law_pick" (spPick K) := ⟨f_lpick, fd_lpick, _, b_lpick A_lpick.fn T c_ldraw, m_lpick, A_lpick.fn.kp, bd_lpick⟩
  have c_lfew : CalG l.prog w K mg base CX0 3 "_law_few" spFew := ⟨f_lfew, fd_lfew, _, b_lfew A_lfew.fn T c_lpick t_signs, m_lfew, A_lfew.fn.kp, bd_lfew⟩
  have c_lword : CalG l.prog w K mg base CX0 3 "_law_word" spWord := ⟨f_lword, fd_lword, _, b_lword A_lword.fn T c_ldraw c_lpick, m_lword, A_lword.fn.kp, bd_lword⟩
  have c_lplaces : CalG l.prog w K mg base CX0 1 "_law_places" (spPlaces K) := ⟨f_lplaces, fd_lplaces, _, b_lplaces A_lplaces.fn T, m_lplaces, A_lplaces.fn.kp, bd_lplaces⟩
  have c_lntext : CalG l.prog w K mg base CX0 4 "_law_ntext" spNtext := ⟨f_lntext, fd_lntext, _, b_lntext A_lntext.fn T c_ldraw c_lpick c_lword, m_lntext, A_lntext.fn.kp, bd_lntext⟩
  have c_lnonce : CalG l.prog w K mg base CX0 2 "_law_nonce" spNonce := ⟨f_lnonce, fd_lnonce, _, b_lnonce A_lnonce.fn T c_lplaces, m_lnonce, A_lnonce.fn.kp, bd_lnonce⟩
  have c_lany_value : CalG l.prog w K mg base CX0 3 "_law_any_value" spAny := ⟨f_lany_value, fd_lany_value, _, b_lany_value A_lany_value.fn T c_lpick, m_lany_value, A_lany_value.fn.kp, bd_lany_value⟩
  have c_least_ends : CalG l.prog w K mg base CX0 2 "least_ends" spEnds := ⟨f_least_ends, fd_least_ends, _, b_least_ends A_least_ends.fn T c_stands_twice, m_least_ends, A_least_ends.fn.kp, bd_least_ends⟩
  have c_openings : CalG l.prog w K mg base CX0 3 "openings" spOpen := ⟨f_openings, fd_openings, _, b_openings A_openings.fn T c_least_ends, m_openings, A_openings.fn.kp, bd_openings⟩
  have c_price_tables : CalG l.prog w K mg base CX0 4 "price_tables" spPrices := ⟨f_price_tables, fd_price_tables, _, b_price_tables A_price_tables.fn T c_openings, m_price_tables, A_price_tables.fn.kp, bd_price_tables⟩
  have c_has_exchange : CalG l.prog w K mg base CX0 1 "has_exchange" spHas := ⟨f_has_exchange, fd_has_exchange, _, b_has_exchange A_has_exchange.fn T, m_has_exchange, A_has_exchange.fn.kp, bd_has_exchange⟩
  have c_lnbest : CalG l.prog w K mg base CX0 3 "_law_nbest" spNbest := ⟨f_lnbest, fd_lnbest, _, b_lnbest A_lnbest.fn T c_lnonce, m_lnbest, A_lnbest.fn.kp, bd_lnbest⟩
  have c_is_integer : CalG l.prog w K mg base CX0 1 "is_integer" spIsIntV := ⟨f_is_integer, fd_is_integer, _, b_is_integerV A_is_integer.fn T, m_is_integer, A_is_integer.fn.kp, bd_is_integer⟩
  have c_is_grid : CalG l.prog w K mg base CX0 2 "is_grid" spGridG := ⟨f_is_grid, fd_is_grid, _, b_is_grid A_is_grid.fn T c_is_integer, m_is_grid, A_is_grid.fn.kp, bd_is_grid⟩
  have c_lnis_grid : CalG l.prog w K mg base CX0 1 "_law_nis_grid" spGridG := ⟨f_lnis_grid, fd_lnis_grid, _, b_lnis_grid A_lnis_grid.fn T, m_lnis_grid, A_lnis_grid.fn.kp, bd_lnis_grid⟩
  have c_steps_on : CalG l.prog w K mg base CX0 3 "steps_on" spSteps := ⟨f_steps_on, fd_steps_on, _, b_steps_on A_steps_on.fn T c_least_ends, m_steps_on, A_steps_on.fn.kp, bd_steps_on⟩
  have c_lnends : CalG l.prog w K mg base CX0 3 "_law_nends" spNends := ⟨f_lnends, fd_lnends, _, b_lnends A_lnends.fn T c_lnonce, m_lnends, A_lnends.fn.kp, bd_lnends⟩
  have c_lnare_low : CalG l.prog w K mg base CX0 4 "_law_nare_low" spLow := ⟨f_lnare_low, fd_lnare_low, _, b_lnare_low A_lnare_low.fn T c_lnends, m_lnare_low, A_lnare_low.fn.kp, bd_lnare_low⟩
  have c_lnis_prices : CalG l.prog w K mg base CX0 5 "_law_nis_prices" spNisPr := ⟨f_lnis_prices, fd_lnis_prices, _, b_lnis_prices A_lnis_prices.fn T c_lnis_grid c_lnare_low, m_lnis_prices, A_lnis_prices.fn.kp, bd_lnis_prices⟩
  have c_lnbent : CalG l.prog w K mg base CX0 6 "_law_nbent" (spBent 4) := by
    have z0 : CalG l.prog w K mg base CX0 2 "_law_nbent" (spBent 0) := ⟨f_lnbent, fd_lnbent, _, ⟨fun _ _ _ _ h => h.elim, fun _ _ _ _ _ _ _ _ _ _ _ _ _ _ h => h.elim⟩, m_lnbent, A_lnbent.fn.kp, bd_lnbent⟩
    have z1 : CalG l.prog w K mg base CX0 3 "_law_nbent" (spBent 1) := ⟨f_lnbent, fd_lnbent, _, b_lnbent 0 (by omega) A_lnbent.fn T c_ldraw c_lpick z0, m_lnbent, A_lnbent.fn.kp, bd_lnbent⟩
    have z2 : CalG l.prog w K mg base CX0 4 "_law_nbent" (spBent 2) := ⟨f_lnbent, fd_lnbent, _, b_lnbent 1 (by omega) A_lnbent.fn T c_ldraw c_lpick z1, m_lnbent, A_lnbent.fn.kp, bd_lnbent⟩
    have z3 : CalG l.prog w K mg base CX0 5 "_law_nbent" (spBent 3) := ⟨f_lnbent, fd_lnbent, _, b_lnbent 2 (by omega) A_lnbent.fn T c_ldraw c_lpick z2, m_lnbent, A_lnbent.fn.kp, bd_lnbent⟩
    exact ⟨f_lnbent, fd_lnbent, _, b_lnbent 3 (by omega) A_lnbent.fn T c_ldraw c_lpick z3, m_lnbent, A_lnbent.fn.kp, bd_lnbent⟩
  have k_is_prices : CalK l.prog w K mg base CX0 4 "is_prices" spIsPr ["each", "value", "number", "other", "one"] List.reverse := ⟨f_is_prices, fd_is_prices, ["one", "other", "number", "value", "each"], b_is_prices A_is_prices.fn T c_is_grid c_steps_on, m_is_prices, A_is_prices.fn.kp, A_is_prices.fn.kwb fun _ _ _ _ _ _ us hl => match us, hl with | [_, _, _, _, _], _ => rfl, fun _ _ r _ => vals_rev r⟩
  have q_prices : CalM l.prog w K mg base CX0 5 "prices" spPri 2 ["each"] := ⟨f_prices, fd_prices, ["one", "other", "each"], b_prices A_prices.fn T c_price_tables c_has_exchange, m_prices, A_prices.fn.kp, A_prices.fn.kwm fun _ _ _ _ _ _ us ws h1 h2 => match us, ws, h1, h2 with | [_, _], [_], _, _ => rfl⟩
  have q_is_prices : CalM l.prog w K mg base CX0 4 "is_prices" spIsPr 4 ["each"] := ⟨f_is_prices, fd_is_prices, ["one", "other", "number", "value", "each"], b_is_prices A_is_prices.fn T c_is_grid c_steps_on, m_is_prices, A_is_prices.fn.kp, A_is_prices.fn.kwm fun _ _ _ _ _ _ us ws h1 h2 => match us, ws, h1, h2 with | [_, _, _, _], [_], _, _ => rfl⟩
  exact b_law A_law.fn T c_lpen c_lfew c_ldraw c_lpick c_lntext c_lany_value c_lnbest c_lnbent c_lnis_prices q_prices q_is_prices k_is_prices
end Vk
set_option Elab.async false
set_option maxRecDepth 100000
set_option linter.all false
open PySem PySem.W PyProof.Rows
set_option maxRecDepth 100000 in
set_option maxHeartbeats 0 in
theorem PySem.Challenge.cw_anchoredits_k64_whole_papers_of_prices_holds : PySem.Challenge.rw_anchoredits_k64_whole_papers_of_prices.Holds := by
  w_on; o_law; k_headL; (case hw => w_witness2)
  k_fill
  refine Vk.walkX (l := PySem.Challenge.rw_anchoredits_k64_whole_papers_of_prices) (n := 63) (k := 7) (x := "_law_script") (CX := L2.CX0) (sp := Vk.spLaw) rfl (by decide) rfl ⟨rfl, by decide, by decide⟩ (fun w h Y => PySem.W.kIn_of Y) ?F (fun K H a ns hl _ hS => ⟨a, ns, rfl, hS, hl, fun _ => rfl⟩) (fun _ _ _ _ z => z)
  case F =>
    intro w mg fa h KX Gr hmg
    obtain ⟨s0, mb, Gr⟩ := Gr
    refine' Vk.all KX Gr.T.g hmg ?d_lsigns ?d_stands_twice ?d_ldraw ?d_lpen ?d_lpick ?d_lfew ?d_lword ?d_lplaces ?d_lntext ?d_lnonce ?d_lany_value ?d_least_ends ?d_openings ?d_price_tables ?d_has_exchange ?d_lnbest ?d_is_integer ?d_is_grid ?d_lnis_grid ?d_prices ?d_steps_on ?d_is_prices ?d_lnends ?d_lnare_low ?d_lnis_prices ?d_lnbent ?d_law ?z_str ?z_tuple ?z_enumerate ?z_bool ?z_sum ?z_max ?z_ValueError ?z_len ?z_list ?z_int ?z_abs ?z_range ?z_min ?z_repr ?z_reversed ?z_all ?z_isinstance
    (case d_lsigns => as_aux_lemma => (refine' ⟨_, _, Vk.at_mk ?a ?l ?c ?k⟩; (case a => k_is); (case l => k_is); (case c => k_is); (case k => k_is)))
    (case d_stands_twice => as_aux_lemma => (refine' ⟨_, _, Vk.at_mk ?a ?l ?c ?k⟩; (case a => k_is); (case l => k_is); (case c => k_is); (case k => k_is)))
    (case d_ldraw => as_aux_lemma => (refine' ⟨_, _, Vk.at_mk ?a ?l ?c ?k⟩; (case a => k_is); (case l => k_is); (case c => k_is); (case k => k_is)))
    (case d_lpen => as_aux_lemma => (refine' ⟨_, _, Vk.at_mk ?a ?l ?c ?k⟩; (case a => k_is); (case l => k_is); (case c => k_is); (case k => k_is)))
    (case d_lpick => as_aux_lemma => (refine' ⟨_, _, Vk.at_mk ?a ?l ?c ?k⟩; (case a => k_is); (case l => k_is); (case c => k_is); (case k => k_is)))
    (case d_lfew => as_aux_lemma => (refine' ⟨_, _, Vk.at_mk ?a ?l ?c ?k⟩; (case a => k_is); (case l => k_is); (case c => k_is); (case k => k_is)))
    (case d_lword => as_aux_lemma => (refine' ⟨_, _, Vk.at_mk ?a ?l ?c ?k⟩; (case a => k_is); (case l => k_is); (case c => k_is); (case k => k_is)))
    (case d_lplaces => as_aux_lemma => (refine' ⟨_, _, Vk.at_mk ?a ?l ?c ?k⟩; (case a => k_is); (case l => k_is); (case c => k_is); (case k => k_is)))
    (case d_lntext => as_aux_lemma => (refine' ⟨_, _, Vk.at_mk ?a ?l ?c ?k⟩; (case a => k_is); (case l => k_is); (case c => k_is); (case k => k_is)))
    (case d_lnonce => as_aux_lemma => (refine' ⟨_, _, Vk.at_mk ?a ?l ?c ?k⟩; (case a => k_is); (case l => k_is); (case c => k_is); (case k => k_is)))
    (case d_lany_value => as_aux_lemma => (refine' ⟨_, _, Vk.at_mk ?a ?l ?c ?k⟩; (case a => k_is); (case l => k_is); (case c => k_is); (case k => k_is)))
    (case d_least_ends => as_aux_lemma => (refine' ⟨_, _, Vk.at_mk ?a ?l ?c ?k⟩; (case a => k_is); (case l => k_is); (case c => k_is); (case k => k_is)))
    (case d_openings => as_aux_lemma => (refine' ⟨_, _, Vk.at_mk ?a ?l ?c ?k⟩; (case a => k_is); (case l => k_is); (case c => k_is); (case k => k_is)))
    (case d_price_tables => as_aux_lemma => (refine' ⟨_, _, Vk.at_mk ?a ?l ?c ?k⟩; (case a => k_is); (case l => k_is); (case c => k_is); (case k => k_is)))
    (case d_has_exchange => as_aux_lemma => (refine' ⟨_, _, Vk.at_mk ?a ?l ?c ?k⟩; (case a => k_is); (case l => k_is); (case c => k_is); (case k => k_is)))
    (case d_lnbest => as_aux_lemma => (refine' ⟨_, _, Vk.at_mk ?a ?l ?c ?k⟩; (case a => k_is); (case l => k_is); (case c => k_is); (case k => k_is)))
    (case d_is_integer => as_aux_lemma => (refine' ⟨_, _, Vk.at_mk ?a ?l ?c ?k⟩; (case a => k_is); (case l => k_is); (case c => k_is); (case k => k_is)))
    (case d_is_grid => as_aux_lemma => (refine' ⟨_, _, Vk.at_mk ?a ?l ?c ?k⟩; (case a => k_is); (case l => k_is); (case c => k_is); (case k => k_is)))
    (case d_lnis_grid => as_aux_lemma => (refine' ⟨_, _, Vk.at_mk ?a ?l ?c ?k⟩; (case a => k_is); (case l => k_is); (case c => k_is); (case k => k_is)))
    (case d_prices => as_aux_lemma => (refine' ⟨_, _, Vk.at_mk ?a ?l ?c ?k⟩; (case a => k_is); (case l => k_is); (case c => k_is); (case k => k_is)))
    (case d_steps_on => as_aux_lemma => (refine' ⟨_, _, Vk.at_mk ?a ?l ?c ?k⟩; (case a => k_is); (case l => k_is); (case c => k_is); (case k => k_is)))
    (case d_is_prices => as_aux_lemma => (refine' ⟨_, _, Vk.at_mk ?a ?l ?c ?k⟩; (case a => k_is); (case l => k_is); (case c => k_is); (case k => k_is)))
    (case d_lnends => as_aux_lemma => (refine' ⟨_, _, Vk.at_mk ?a ?l ?c ?k⟩; (case a => k_is); (case l => k_is); (case c => k_is); (case k => k_is)))
    (case d_lnare_low => as_aux_lemma => (refine' ⟨_, _, Vk.at_mk ?a ?l ?c ?k⟩; (case a => k_is); (case l => k_is); (case c => k_is); (case k => k_is)))
    (case d_lnis_prices => as_aux_lemma => (refine' ⟨_, _, Vk.at_mk ?a ?l ?c ?k⟩; (case a => k_is); (case l => k_is); (case c => k_is); (case k => k_is)))
    (case d_lnbent => as_aux_lemma => (refine' ⟨_, _, Vk.at_mk ?a ?l ?c ?k⟩; (case a => k_is); (case l => k_is); (case c => k_is); (case k => k_is)))
    (case d_law => as_aux_lemma => (refine' ⟨_, _, Vk.at_mk ?a ?l ?c ?k⟩; (case a => k_is); (case l => k_is); (case c => k_is); (case k => k_is)))
    (case z_str => as_aux_lemma => k_is)
    (case z_tuple => as_aux_lemma => k_is)
    (case z_enumerate => as_aux_lemma => k_is)
    (case z_bool => as_aux_lemma => k_is)
    (case z_sum => as_aux_lemma => k_is)
    (case z_max => as_aux_lemma => k_is)
    (case z_ValueError => as_aux_lemma => k_is)
    (case z_len => as_aux_lemma => k_is)
    (case z_list => as_aux_lemma => k_is)
    (case z_int => as_aux_lemma => k_is)
    (case z_abs => as_aux_lemma => k_is)
    (case z_range => as_aux_lemma => k_is)
    (case z_min => as_aux_lemma => k_is)
    (case z_repr => as_aux_lemma => k_is)
    (case z_reversed => as_aux_lemma => k_is)
    (case z_all => as_aux_lemma => k_is)
    (case z_isinstance => as_aux_lemma => k_is)
#print axioms PySem.Challenge.cw_anchoredits_k64_whole_papers_of_prices_holds
