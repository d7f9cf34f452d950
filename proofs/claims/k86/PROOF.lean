import PyProof.Rows.All
import Wide.All
import OpenK.AllK
import Wide.FinOn
import HandS.Base
import HandS.Call
import HandS.List
import HandS.Comp
import HandS.Ends
import HandS.Text
import HandS.Words
import HandS.StrMore
import HandS.ForMost
import HandS.Codes
import HandS.Replace
import HandS.FStrTup
import PyProof.StrBlock2
import HandS.Exc
import HandS.ExcInit
import HandS.ExcIs
import HandS.ExcField
import KE.KExcIs
import HandS.IsInst
import HandS.Zip
import HandS.Nested
import HandS.OwnEq
import HandS.More
import HandS.Star
import HandS.ClsMeth
import HandS.Property
import HandS.Iter
import HandS.Zip0
import KE.GoesMore
import KE.GoesEnum
import HandS.NoneIn
import PyProof.StrLawsRepr
import HandS.EndTab
import HandS.ListEq
import KE.LtData
import PySem.Challenge.RW_anchoredits_k86_whole_equal_however_cut
import KE.KTryMore
import KE.KRevSl
import HandS.Style
import HandS.TupAny
import HandS.Defaults
import PyProof.EnumMake
import PyProof.LongRange
import KE.OsRunLaw
set_option Elab.async false
set_option maxRecDepth 100000
set_option linter.all false
namespace Vk
open PySem PySem.Spec PyProof.Rows L2
/-! ## defs that may show values: no guard is under way -/
structure FnG (P : Program) (w : World) (K : PySem.W.Frag) (mg : Str → Option Value) (base : Heap) (CX : CXT) (k : Nat) (f : Addr) (fd : FuncData) (ps : List Str) (sp : Sp) : Prop where
  len : ∀ vs H Q E, sp vs H Q E → vs.length = ps.length
  run : ∀ (A : Around) (outer : List Env) (s : Shared) (H : Hp) (args : Args) (us : List Value) (vs : List V) (Q : VK) (E : XK), A.guards = some [] → Room k A → Env0 P w K mg base A outer s H → BindsTo s fd args (ps.zip us) → Vals vs us → sp vs H Q E →
    codeAny (model P w) A (.call (.ref f) args) (CR CX outer P w H s Q E) s
theorem FnG.of {P : Program} {w : World} {K : PySem.W.Frag} {mg : Str → Option Value} {base : Heap} {CX : CXT} {k : Nat} {f : Addr} {fd : FuncData} {ps : List Str} {sp : Sp} (F : FnOk P w K mg base CX k f fd ps sp) : FnG P w K mg base CX k f fd ps sp :=
  ⟨F.len, fun A outer s H args us vs Q E _ => F.run A outer s H args us vs Q E⟩
section
variable {P : Program} {w : World} {K : PySem.W.Frag} {mg : Str → Option Value} {base : Heap}
theorem okG {CX : CXT} {x qual : Str} {st : Stmt} {f : Addr} {fd : FuncData} {N ps : List Str} {k : Nat} {sp : Sp} (F : Fun K x qual st f fd) (S : FnScope N ps (defScope st)) (hlen : ∀ vs H Q E, sp vs H Q E → vs.length = ps.length)
    (hbody : ∀ (cdv : Value) (A : Around) (outer : List Env) (s : Shared) (H : Hp) (vs : List V) (Q : VK) (E : XK), A.guards = some [] → Room k (A.deeper (envOfC qual (defScope st) s.heap.objs.size f cdv)) → sp vs H Q E →
      ∃ t, PSs (cxOf CX P w K mg base N qual (defScope st) f cdv A outer s H E) (defBody st) t ∧ t { nx := fun _ H' => Q .non H', rt := Q } (start N vs) H) : FnG P w K mg base CX (k + 1) f fd ps sp := by
  obtain ⟨oc, od, kV, doc, pm, an, cdv, ct, osl, rfl, lk, hcd⟩ := F.ex
  refine ⟨hlen, fun A outer s H args us vs Q E hg hr e0 hb r hsp => ?_⟩
  have hvl := hlen _ _ _ _ hsp
  have KX := e0.mod.kin.keeps (fun b o e => (e0.bs b o e).1 : ∀ b o, base.get? b = some o → s.heap.get? b = some o)
  have noLim := e0.mod.nolimit.keeps (fun b o e => (e0.bs b o e).1 : ∀ b o, base.get? b = some o → s.heap.get? b = some o)
  have kinds : ∀ y ∈ ps.zip us, (defScope st).names.lookup y.1 = some .local ∨ ((defScope st).names.lookup y.1 = some .cell ∧ ((cellsFrom (s.heap.objs.size + 1) (defScope st).names []).lookup y.1).isSome = true) := by
    rintro ⟨n, v⟩ hy
    have hy1 := (List.of_mem_zip hy).1
    cases S.par n hy1 with
    | inl q => exact Or.inl q
    | inr q => exact Or.inr (And.intro q (PySem.W.cellsFrom_some _ _ _ (Or.inl q)))
  refine codeAny_call_function hr.depth (KX f _ lk) rfl S.co S.gen rfl (PySem.W.codeRec_of KX hcd) (hb _ _ _ _ (wpAny_newFunctionEnv_cells S.kind kinds fun env he s1 x => ?_))
  cases he
  refine And.intro (noLim.keeps x.toInCall.keep) (codeAny_func ?_)
  obtain ⟨t, ht, hq⟩ := hbody cdv A outer s H vs Q E hg (hr.deeper _) hsp
  have I0 := inv_start (CX := CX) (E := E) S hr.hd e0 hvl r x
  refine wpAny_mono (ht.run [] s1 (start N vs) H _ I0 hq) (fun fl s2 hs => ?_) (fun e s2 hs => hs)
  have close : ∀ {σ2 : L2.St} {H2 : Hp} {v : V} {u : Value}, Inv (cxOf CX P w K mg base N qual (defScope st) f cdv A outer s H E) [] σ2 H2 s2 → RelV v u → Q v H2 → CE outer P w H s Q u s2 := by
    intro σ2 H2 v u J rv q
    exact ⟨v, H2, And.intro J.os (And.intro J.bare (And.intro J.base (And.intro J.hok (And.intro rv q))))⟩
  match fl, hs with
  | .ret u, ⟨v, σ2, H2, J, rv, q⟩ => exact close J rv q
  | .next, ⟨σ2, H2, J, q⟩ => exact close (v := V.non) (u := Value.none) J rfl q
  | .brk, ⟨_, _, _, q⟩ => exact q.elim
  | .cont, ⟨_, _, _, q⟩ => exact q.elim
end
section
variable {P : Program} {w : World} {K : PySem.W.Frag} {mg : Str → Option Value} {base : Heap}
theorem okG0 {x qual : Str} {st : Stmt} {f : Addr} {fd : FuncData} {N ps : List Str} {k : Nat} {sp : Sp} (F : Fun K x qual st f fd) (S : FnScope N ps (defScope st)) (hlen : ∀ vs H Q E, sp vs H Q E → vs.length = ps.length)
    (hbody : ∀ (cdv : Value) (A : Around) (outer : List Env) (s : Shared) (H : Hp) (vs : List V) (Q : VK) (E : XK), A.guards = some [] → Room k (A.deeper (envOfC qual (defScope st) s.heap.objs.size f cdv)) → sp vs H Q E →
      ∃ t, PSs (cxOf CX0 P w K mg base N qual (defScope st) f cdv A outer s H E).nox (defBody st) t ∧ t { nx := fun _ H' => Q .non H', rt := Q } (start N vs) H) : FnG P w K mg base CX0 (k + 1) f fd ps sp :=
  okG F S hlen fun cdv A outer s H vs Q E hg hr hsp => match hbody cdv A outer s H vs Q E hg hr hsp with | ⟨t, h, q⟩ => ⟨t, h.nox, q⟩
end
/-- a def of the module by its name -/
structure CalG (P : Program) (w : World) (K : PySem.W.Frag) (mg : Str → Option Value) (base : Heap) (CX : CXT) (k : Nat) (x : Str) (sp : Sp) : Prop where
  ex : ∃ (f : Addr) (fd : FuncData) (ps : List Str), FnG P w K mg base CX k f fd ps sp ∧ mg x = some (.ref f) ∧ PySem.W.keepIn K (.ref f) = true ∧ Binds K fd ps []
section
variable {X : Cx} {CX : CXT} {j k : Nat} {f : Addr} {fd : FuncData} {ps : List Str} {sp : Sp} {E : XK} {x : Str} {p pos : Pos} {e : Expr} {es : List Expr} {t : TA}
theorem run_fnG {pins : List (Addr × Obj)} {σ : L2.St} {H : Hp} {s : Shared} {Q : VK} {us : List Value} {vs : List V} (F : FnG X.prog X.w X.K X.mg X.base CX k f fd ps sp) (hg : X.A.guards = some []) (hr : Room k X.A) (hb : Binds X.K fd ps []) (hx : Passes CX X E)
    (I : Inv X pins σ H s) (r : Vals vs us) (h : sp vs H Q E) : wpAny (model X.prog X.w) X.A (call (.ref f) us) (EP X pins σ Q) X.xe s := by
  have hl : us.length = ps.length := r.length.symm.trans (F.len _ _ _ _ h)
  have b := hb s us I.kIn ((congrArg List.length (List.append_nil us)).trans hl)
  rw [List.append_nil] at b
  refine wpAny_call (codeAny_mono (F.run X.A X.stack s H ⟨us, []⟩ us vs Q E hg hr I.env0 b r h) (fun res s2 hq => ?_))
  match res, hq with
  | .error e, hq => exact hx pins σ H s e s2 I hq
  | .ok (.ret u), hq => exact I.after hq
  | .ok .next, hq => exact hq.elim
  | .ok .brk, hq => exact hq.elim
  | .ok .cont, hq => exact hq.elim
theorem pe_cG (c : CalG X.prog X.w X.K X.mg X.base CX k x sp) (hg : X.A.guards = some []) (hr : Room j X.A) (hk : k ≤ j) (hx : Passes CX X E) (ha : PA X (e :: es) t) (gl : Gl X x := by rfl)
    (hdb : (x == ("__debug__" : Str)) = false := by decide) (he : starEach (e :: es) X.env = (false, eval e X.env) :: starEach es X.env := by rfl) (hpl : (backTo pos (starEach es X.env)).any (·.1) = false := by rfl) :
    PE X (.Call (.Name x p) (e :: es) [] pos) (tCall sp [] E t) := by
  obtain ⟨f, fd, ps, F, hm, kp, hb⟩ := c.ex
  refine ⟨fun pins s σ H Q I h => wpAny_Call_Name_kw (ld_glob I gl hm (PySem.W.callWith_K (h₀ := X.base) I.ok.mod.kin kp (thn (ha.run pos pins s σ H _ I h) fun us s1 hh => ?_) he hpl) hdb)⟩
  obtain ⟨vs, H1, I1, r, q⟩ := hh
  rw [List.append_nil] at q
  exact ⟨I1.kIn, run_fnG F hg (hr.mono hk) hb hx I1 r q⟩
end
/-! ## repr -/
section
variable {X : Cx}
theorem call_reprD (hg : X.A.guards = some []) (hu : X.A.units + 64 < cLine) : CallR X (.builtin "repr") (fun xs H Q => ∃ x d, xs = [x] ∧ Dp X.K H x d ∧ d.showable = true ∧ d.hasDict = false ∧ d.depth ≤ 60 ∧ d.shown.length ≤ sizeLine ∧ Q (.str d.shown) H) := by
  intro pins s σ H xs us Q I r h
  obtain ⟨x, d, rfl, hd, hs, hn, hdp, hz, q⟩ := h
  cases r with
  | cons r1 r2 =>
  cases r2
  obtain ⟨as, rd⟩ := Dp.reads I d x _ hd r1
  cases hd with
  | non => cases r1; exact PySem.P.repr_of_none ⟨V.str _, H, I.tok _, ⟨_, rfl⟩, q⟩
  | bl b => cases r1; exact PySem.P.repr_of_bool ⟨V.str _, H, I.tok _, ⟨_, rfl⟩, q⟩
  | int i =>
    obtain ⟨t, rfl⟩ := r1
    exact PySem.P.repr_of_int (of_decide_eq_true hs) ⟨V.str _, H, I.tok _, ⟨_, rfl⟩, q⟩
  | str z =>
    obtain ⟨t, rfl⟩ := r1
    exact PySem.P.repr_of_str ⟨V.str _, H, I.tok _, ⟨_, rfl⟩, q⟩ hz
  | lst h1 h2 =>
    cases r1
    exact repr_of_reads' rd hs (PyData.noDict_hsm hn) hg (by omega) (fun _ _ e => e) (fun h' u tk hk => ⟨V.str _, H, I.kept hk, ⟨u, rfl⟩, q⟩) hz
  | tup h1 h2 =>
    cases r1
    exact repr_of_reads' rd hs (PyData.noDict_hsm hn) hg (by omega) (fun _ _ e => e) (fun h' u tk hk => ⟨V.str _, H, I.kept hk, ⟨u, rfl⟩, q⟩) hz
end
/-! ## the law's own call -/
theorem lawG {P : Program} {w : World} {K : PySem.W.Frag} {mg mb : Str → Option Value} {CX : CXT} {k : Nat} {fa a : Addr} {fd : FuncData} {x : Str} {sp : Sp} {s1 : Shared} {vs : List Value} {ns : List Int}
    (KX : K.In s1.heap) (gns : s1.heap.Ns mainGlobals mg) (bns : s1.heap.Ns builtinsNs mb) (bbt : ∀ x : Str, x ≠ "__name__" → mb x = bootBuiltins x) (nolim : s1.heap.NoLimit) (gens0 : s1.gens = #[])
    (scr : s1.heap.get? a = some { cls := .type "list", data := .seq vs.toArray }) (hints : IntsAre vs ns) (short : ns.length ≤ sizeLine) (room : Room k callerA)
    (F : ∀ base : Heap, K.In base → base.Ns mainGlobals mg → FnG P w K mg base CX k fa fd [x] sp) (bind1 : ∀ (s : Shared) (u : Value), BindsTo s fd ⟨[u], []⟩ [(x, u)])
    (prom : ∀ H : Hp, Only H → SqL K H a (ns.map V.int) → sp [.ref a] H (fun v _ => v = .bl true) fun _ _ _ => False)
    (noX : ∀ H e s2, CX [] H s1 (fun _ _ _ => False) e s2 → False) :
    codeAny (model P w) callerA (.call (.ref fa) ⟨[.ref a], []⟩) (fun r s2 => r = .ok (.ret (.bool true)) ∧ OldK s1.heap s2.heap ∧ s2.os = s1.os ∧ AllBare s2.gens) s1 := by
  have rel := vals_ints hints
  have main : ∀ H : Hp, Only H → SqL K H a (ns.map V.int) → HOk P w H s1.heap → (∀ b u, H b = some u → b = a) → (∀ u, H a = some u → K.lookup a = none) →
      codeAny (model P w) callerA (.call (.ref fa) ⟨[.ref a], []⟩) (fun r s2 => r = .ok (.ret (.bool true)) ∧ OldK s1.heap s2.heap ∧ s2.os = s1.os ∧ AllBare s2.gens) s1 := by
    intro H only seq ok at1 un1
    have dictFree : ∀ {b : Addr} {o : Obj} {es : Array DictEntry} {ep : Nat}, s1.heap.get? b = some o → o.data = .dict es ep → H b = none := by
      intro b o es ep e d
      match q : H b with
      | none => rfl
      | some u =>
        have eb := at1 b u q
        subst eb
        rw [scr] at e
        cases e
        exact nomatch (show Data.seq vs.toArray _ = Data.dict es ep from d)
    have nsAt : ∀ {b : Addr} {m : Str → Option Value}, s1.heap.Ns b m → (hidT s1.heap H).Ns b m := by
      rintro b m ⟨o, es, ep, e, d, r⟩
      exact ⟨o, es, ep, hidT_get e (dictFree e d), d, r⟩
    have inK : K.In (hidT s1.heap H) := by
      intro b o e
      refine hidT_get (KX b o e) ?_
      match q : H b with
      | none => rfl
      | some u =>
        have eb := at1 b u q
        subst eb
        exact nomatch (un1 u q).symm.trans e
    have limAt : (hidT s1.heap H).NoLimit := match nolim with | ⟨mc, h1, h2⟩ => ⟨mc, nsAt h1, h2⟩
    have mod1 : Mod K mg (hidT s1.heap H) := ⟨inK, nsAt gns, ⟨mb, nsAt bns, bbt⟩, limAt⟩
    have start0 : Env0 P w K mg (hidT s1.heap H) callerA [] s1 H := ⟨rfl, mod1, fun b o => of_hidT, Nat.le_of_eq (hidT_size s1.heap H), trivial, (fun b hb => absurd hb (List.not_mem_nil (a := b))), ok, AllBare.of_eq gens0⟩
    refine codeAny_mono ((F _ inK (nsAt gns)).run callerA [] s1 H ⟨[.ref a], []⟩ [.ref a] [.ref a] _ _ rfl room start0 (bind1 s1 (.ref a)) (.cons rfl .nil) (prom H only seq)) ?_
    intro res s2 h
    match res, h with
    | .error e, h => exact (noX H e s2 h).elim
    | .ok .next, h => exact h.elim
    | .ok .brk, h => exact h.elim
    | .ok .cont, h => exact h.elim
    | .ok (.ret u), ⟨v, H2, os, bare, un, ok2, r2, (hv : v = .bl true)⟩ =>
      cases hv
      have hu : u = Value.bool true := r2
      cases hu
      refine ⟨rfl, OldK.of_keep ?_, os, bare⟩
      intro b o e
      match q : H b with
      | none => exact un.keep b o e q (fun z => nomatch z) (fun z => nomatch z)
      | some u =>
        cases only b with
        | inl z => exact nomatch z.symm.trans q
        | inr z =>
          obtain ⟨ob, xs, z⟩ := z
          have c1 := (ok b _ z).1
          have c2 := (ok2 b _ (un.frzs b ob _ z)).1
          exact c2.trans (c1.symm.trans e)
  match hk : K.lookup a with
  | some o =>
    have e := (KX a o hk).symm.trans scr
    cases e
    refine main (fun _ => none) (fun _ => Or.inl rfl) (Or.inr ⟨_, vs.toArray, _, hk, rfl, rfl, rfl, ?_, ?_⟩) (fun b u z => nomatch (show (none : Option HO) = some u from z)) (fun b u z => nomatch (show (none : Option HO) = some u from z)) (fun u z => nomatch (show (none : Option HO) = some u from z))
    · rw [List.size_toArray, hints.length]
      exact short
    · simpa using rel
  | none =>
    refine main (fun b => if b = a then some (.frz { cls := .type "list", data := .seq vs.toArray } (.lst (ns.map V.int))) else none) ?_ (Or.inl (Or.inr ⟨_, if_pos rfl⟩)) ?_ ?_ (fun _ _ => hk)
    · intro b
      by_cases hb : b = a
      · exact Or.inr ⟨_, _, if_pos hb⟩
      · exact Or.inl (if_neg hb)
    · intro b u z
      by_cases hb : b = a
      · subst hb
        have z1 := (if_pos rfl).symm.trans z
        cases z1
        exact ⟨scr, (by rw [List.length_map]; exact short), vs, _, rel, scr⟩
      · exact nomatch (if_neg hb).symm.trans z
    · intro b u z
      by_cases hb : b = a
      · exact hb
      · exact nomatch (if_neg hb).symm.trans z
end Vk
set_option Elab.async false
set_option maxRecDepth 100000
set_option linter.all false
namespace Vk
open PySem PySem.Spec PyProof.Rows L2
/-! ## what stays -/
/-- all that was tracked stays, but what stands at p -/
def Ext (p : Addr) (H H' : Hp) : Prop := ∀ b o, H b = some o → b ≠ p → H' b = some o
theorem Ext.rfl {p : Addr} {H : Hp} : Ext p H H := fun _ _ h _ => h
theorem Ext.trans {p : Addr} {H H1 H2 : Hp} (a : Ext p H H1) (b : Ext p H1 H2) : Ext p H H2 := fun c o h n => b c o (a c o h n) n
theorem Ext.same {p : Addr} {H H1 : Hp} (a : Same H H1) : Ext p H H1 := fun c o h _ => a c o h
theorem Ext.at {p : Addr} {H : Hp} {o : HO} : Ext p H (upd H p o) := fun c u h n => (upd_ne n).trans h
theorem same_new {H : Hp} {a : Addr} {o : HO} (h : H a = none) : Same H (upd H a o) := fun c u e => (upd_ne (ne_of_none e h)).trans e
theorem Ext.new {p a : Addr} {H : Hp} {o : HO} (h : H a = none) : Ext p H (upd H a o) := .same (same_new h)
theorem Ext.set {p a : Addr} {H H1 : Hp} {o : HO} (x : Ext p H H1) (h : H a = none) : Ext p H (upd H1 a o) := fun c u e n => (upd_ne (ne_of_none e h)).trans (x c u e n)
theorem Ext.none_of {p a : Addr} {H H1 : Hp} (x : Ext p H H1) (hp : a ≠ p) (h : H1 a = none) : H a = none := by
  match q : H a with
  | none => rfl
  | some o => exact nomatch (x a o q hp).symm.trans h
theorem up_new {H : Hp} {a b : Addr} {o u : HO} (h : H a = some o) (hb : H b = none) : upd H b u a = some o := same_new hb a o h
/-! ## the pen -/
def penL (c : Addr) (t l : Int) : List (Key × V) := [(.inr "cells", .ref c), (.inr "turn", .int t), (.inr "left", .int l)]
theorem k_ct : ¬ ((Str.ofString "cells") = Str.ofString "turn") := by decide +kernel
theorem k_cl : ¬ ((Str.ofString "cells") = Str.ofString "left") := by decide +kernel
theorem k_tl : ¬ ((Str.ofString "turn") = Str.ofString "left") := by decide +kernel
theorem k_lt : ¬ ((Str.ofString "left") = Str.ofString "turn") := by decide +kernel
theorem pen_cells (c : Addr) (t l : Int) : valV (penL c t l) (Sum.inr "cells" : Key) = some (.ref c) := valV_pos rfl
theorem pen_turn (c : Addr) (t l : Int) : valV (penL c t l) (Sum.inr "turn" : Key) = some (.int t) := (valV_neg (fun e => k_ct (Sum.inr.inj e))).trans (valV_pos rfl)
theorem pen_left (c : Addr) (t l : Int) : valV (penL c t l) (Sum.inr "left" : Key) = some (.int l) := (valV_neg (fun e => k_cl (Sum.inr.inj e))).trans ((valV_neg (fun e => k_tl (Sum.inr.inj e))).trans (valV_pos rfl))
theorem pen_put_turn (c : Addr) (t l u : Int) : putK (penL c t l) (Sum.inr "turn" : Key) (.int u) = penL c u l := by
  unfold putK
  rw [valV_any, pen_turn]
  simp [penL, k_ct, k_lt]
theorem pen_put_left (c : Addr) (t l u : Int) : putK (penL c t l) (Sum.inr "left" : Key) (.int u) = penL c t u := by
  unfold putK
  rw [valV_any, pen_left]
  simp [penL, k_cl, k_tl]
theorem pen_made (c : Addr) (t l : Int) : mergeK [] (penL c t l) = penL c t l := by
  simp [mergeK, penL, putK, k_ct, k_cl, k_tl]
structure Pen (H : Hp) (p c : Addr) (T : Nat) : Prop where
  ex : ∃ (ns : List Int) (t l : Int), H p = some (.dK (penL c t l)) ∧ H c = some (.lst (ns.map V.int)) ∧ ns.length ≤ 63 ∧ 0 ≤ t ∧ t ≤ T ∧ 0 ≤ l
section
variable {H H1 : Hp} {p c a : Addr} {T U : Nat} {o : HO} {xs : List V}
theorem Pen.mono (x : Pen H p c T) (h : T ≤ U) : Pen H p c U := by
  obtain ⟨ns, t, l, h1, h2, h3, h4, h5, h6⟩ := x.ex
  exact ⟨ns, t, l, h1, h2, h3, h4, by omega, h6⟩
theorem Pen.stay (x : Pen H p c T) (s : Same H H1) : Pen H1 p c T := by
  obtain ⟨ns, t, l, h1, h2, r⟩ := x.ex
  exact ⟨ns, t, l, s _ _ h1, s _ _ h2, r⟩
theorem Pen.new (x : Pen H p c T) (h : H a = none) : Pen (upd H a o) p c T := x.stay (same_new h)
theorem Pen.is (x : Pen H p c T) : ∃ t l, H p = some (.dK (penL c t l)) := by
  obtain ⟨ns, t, l, h1, _⟩ := x.ex
  exact ⟨t, l, h1⟩
theorem Pen.ne (x : Pen H p c T) (h : H a = some (.lst xs)) : a ≠ p := by
  obtain ⟨t, l, h1⟩ := x.is
  exact ne_of h h1 (by intro z; cases z)
/-- another thing is changed -/
theorem Pen.set (x : Pen H p c T) (h1 : a ≠ p) (h2 : a ≠ c) : Pen (upd H a o) p c T := by
  obtain ⟨ns, t, l, g1, g2, r⟩ := x.ex
  exact ⟨ns, t, l, (upd_ne h1.symm).trans g1, (upd_ne h2.symm).trans g2, r⟩
/-- a thing that was not there when the pen stood is neither the pen nor its cells -/
theorem Pen.apart (x : Pen H p c T) (h : H a = none) : a ≠ p ∧ a ≠ c := by
  obtain ⟨ns, t, l, g1, g2, r⟩ := x.ex
  exact ⟨(ne_of_none g1 h).symm, (ne_of_none g2 h).symm⟩
end
/-- draw's promise -/
def spDraw : Sp := fun vs H Q _ => ∃ (p c : Addr) (m : Int) (T : Nat), vs = [.ref p, .int m] ∧ 0 < m ∧ m < 1073741824 ∧ Pen H p c T ∧ T < 1000000000 ∧
  ∀ (d : Int) (H' : Hp), 0 ≤ d → d < m → Pen H' p c (T + 1) → Ext p H H' → Q (.int d) H'
def spPen (K : PySem.W.Frag) : Sp := fun vs H Q _ => ∃ (a : Addr) (ns : List Int), vs = [.ref a] ∧ SqL K H a (ns.map V.int) ∧
  ∀ (p c : Addr) (H' : Hp), H p = none → Pen H' p c 0 → Same H H' → Q (.ref p) H'
/-! ## draws' small facts -/
theorem ints_dp {K : PySem.W.Frag} {H : Hp} : ∀ ns : List Int, DpAll K H (ns.map V.int) (ns.map PyData.int)
  | [] => .nil
  | n :: ns => .cons (.int n) (ints_dp ns)
theorem ints_canLay : ∀ ns : List Int, PyData.canLayAll0 (ns.map PyData.int) = true
  | [] => rfl
  | n :: ns => by
    show (PyData.canLay0 (.int n) && PyData.canLayAll0 (ns.map PyData.int)) = true
    rw [ints_canLay ns]
    rfl
theorem ints_depth : ∀ ns : List Int, PyData.depthAll (ns.map PyData.int) = 0
  | [] => rfl
  | n :: ns => by
    show max (PyData.depth (.int n)) (PyData.depthAll (ns.map PyData.int)) = 0
    rw [ints_depth ns]
    rfl
theorem ints_shaped (ns : List Int) : SeqAt.shaped (.list (ns.map PyData.int)) = true := by
  have h1 : PyData.canLay0 (.list (ns.map PyData.int)) = true := ints_canLay ns
  have h2 : PyData.depth (.list (ns.map PyData.int)) = 1 := by
    show PyData.depthAll (ns.map PyData.int) + 1 = 1
    rw [ints_depth]
  unfold SeqAt.shaped
  rw [h1, h2]
  rfl
theorem ints_ne_nil (ns : List Int) : PyData.eqv (.list (ns.map PyData.int)) (.list []) = ns.isEmpty := by
  match ns with
  | [] => rfl
  | n :: r => rfl
theorem get_left {H : Hp} {p c : Addr} {t l : Int} (h : H p = some (.dK (penL c t l))) : DGet H p (.str "left") (some (.int l)) := pen_left c t l ▸ DGet.k (k := Sum.inr "left") h
theorem get_turn {H : Hp} {p c : Addr} {t l : Int} (h : H p = some (.dK (penL c t l))) : DGet H p (.str "turn") (some (.int t)) := pen_turn c t l ▸ DGet.k (k := Sum.inr "turn") h
theorem get_cells {H : Hp} {p c : Addr} {t l : Int} (h : H p = some (.dK (penL c t l))) : DGet H p (.str "cells") (some (.ref c)) := pen_cells c t l ▸ DGet.k (k := Sum.inr "cells") h
theorem put_left {H : Hp} {p c : Addr} {t l u : Int} (h : H p = some (.dK (penL c t l))) : DPut H p (.str "left") (.int u) (upd H p (.dK (penL c t u))) := pen_put_left c t l u ▸ DPut.k (k := Sum.inr "left") h (by show 3 < sizeLine; decide)
theorem put_turn {H : Hp} {p c : Addr} {t l u : Int} (h : H p = some (.dK (penL c t l))) : DPut H p (.str "turn") (.int u) (upd H p (.dK (penL c u l))) := pen_put_turn c t l u ▸ DPut.k (k := Sum.inr "turn") h (by show 3 < sizeLine; decide)
theorem at_mod {α : Type} {xs : List α} {i : Int} (h0 : 0 ≤ i) (h : i < (xs.length : Int)) : ∃ v, atI xs i = some v ∧ v ∈ xs := by
  have hj : i.toNat < xs.length := by omega
  refine ⟨xs[i.toNat], ?_, List.getElem_mem hj⟩
  have e : i = (i.toNat : Int) := by omega
  have q := atI_nat (List.getElem?_eq_getElem hj)
  rw [← e] at q
  exact q
def primes : List Int := [2147483629, 2147483647, 2147483587, 2147483563, 2147483579]
theorem primes_in {v : V} (h : v ∈ primes.map V.int) : ∃ i : Int, v = .int i ∧ 0 < i ∧ i < 2147483648 := by
  obtain ⟨i, hi, e⟩ := List.mem_map.mp h
  refine ⟨i, e.symm, ?_⟩
  have q : ∀ j ∈ primes, 0 < j ∧ j < 2147483648 := by decide
  exact q i hi
end Vk
set_option Elab.async false
set_option maxRecDepth 100000
set_option linter.all false
namespace Vk
open PySem PySem.Spec PyProof.Rows L2
/-! ## a def that returns one written text, and a replace of what it returns (a token is out behind it) -/
structure FnT (P : Program) (w : World) (K : PySem.W.Frag) (mg : Str → Option Value) (base : Heap) (k : Nat) (x : Str) (z : Str) : Prop where
  ex : ∃ f : Addr, mg x = some (.ref f) ∧ PySem.W.keepIn K (.ref f) = true ∧ ∀ (A : Around) (outer : List Env) (s : Shared) (H : Hp) (Q : VK), Room k A → Env0 P w K mg base A outer s H → Q (.str z) H →
    codeAny (model P w) A (.call (.ref f) ⟨[], []⟩) (fun r s2 => 1 ≤ s2.toks ∧ CR CX0 outer P w H s Q E0 r s2) s
section
variable {P : Program} {w : World} {K : PySem.W.Frag} {mg : Str → Option Value} {base : Heap}
theorem okT {x : Str} {st : Stmt} {f : Addr} {fd : FuncData} {z : Str} {j : Nat} {p1 p2 : Pos} (F : Fun K x x st f fd) (S : FnScope [] [] (defScope st)) (hm : mg x = some (.ref f)) (hb : Binds K fd [] [])
    (body : defBody st = [.Return (some (.Constant (.str z) j p1)) p2]) : FnT P w K mg base 1 x z := by
  refine ⟨f, hm, F.kp, ?_⟩
  obtain ⟨oc, od, kV, doc, pm, an, cdv, ct, osl, rfl, lk, hcd⟩ := F.ex
  intro A outer s H Q hr e0 hsp
  have KX := e0.mod.kin.keeps (fun b o e => (e0.bs b o e).1 : ∀ b o, base.get? b = some o → s.heap.get? b = some o)
  have noLim := e0.mod.nolimit.keeps (fun b o e => (e0.bs b o e).1 : ∀ b o, base.get? b = some o → s.heap.get? b = some o)
  refine codeAny_call_function hr.depth (KX f _ lk) rfl S.co S.gen rfl (PySem.W.codeRec_of KX hcd) (hb s [] KX rfl _ _ _ _ (wpAny_newFunctionEnv_cells S.kind (fun y hy => absurd hy (List.not_mem_nil (a := y))) fun env he s1 x0 => ?_))
  cases he
  refine And.intro (noLim.keeps x0.toInCall.keep) (codeAny_func ?_)
  have I0 := inv_start (P := P) (CX := CX0) (E := E0) (us := []) (vs := []) S hr.hd e0 rfl .nil x0
  show wpAny _ _ (execs (defBody st) _) _ _ s1
  rw [body]
  refine wpAny_execs_cons (wpAny_Return_some (Calls.Constant_str ?_))
  exact ⟨Nat.succ_pos _, .str z, H, I0.os, I0.bare, (I0.tok (s1.toks + 1)).base, (I0.tok (s1.toks + 1)).hok, ⟨_, rfl⟩, hsp⟩
end
section
variable {X : Cx} {j k : Nat} {x z y v : Str} {q q2 apos pos c0 c1 : Pos} {j0 j1 : Nat}
theorem pe_replT (c : FnT X.prog X.w X.K X.mg X.base k x z) (hr : Room j X.A) (hk : k ≤ j) (hz : z.length + (z.length + 1) * v.length ≤ 16777216) (hyz : (y == v) = false) (gl : Gl X x := by rfl) (hdb : (x == ("__debug__" : Str)) = false := by decide)
    (hst : starEach [.Constant (.str y) j0 c0, .Constant (.str v) j1 c1] X.env = [(false, eval (.Constant (.str y) j0 c0) X.env), (false, eval (.Constant (.str v) j1 c1) X.env)] := by rfl)
    (hbase : attributeBase (.Call (.Name x q) [] [] q2) "replace" X.env (eval (.Call (.Name x q) [] [] q2) X.env) = eval (.Call (.Name x q) [] [] q2) X.env := by rfl) (hline : (apos.endLine == pos.line) = true := by rfl) :
    PE X (.Call (.Attribute (.Call (.Name x q) [] [] q2) "replace" apos) [.Constant (.str y) j0 c0, .Constant (.str v) j1 c1] [] pos) (fun σ H Q => Q (.str (Txt.replace z y v)) H) := by
  obtain ⟨f, hm, kp, run⟩ := c.ex
  refine ⟨fun pins s σ H Q I h => PySem.Call_method2 (Q := EP X pins σ Q) hbase hst hline (wpAny_mono (Q := fun u s1 => 1 ≤ s1.toks ∧ EP X pins σ (fun w H1 => w = .str z ∧ H1 = H) u s1) ?_ ?_ (fun _ _ e => e))⟩
  · refine wpAny_Call_Name_kw (ld_glob I gl hm (PySem.W.callWith_K0 I.kIn kp (wpAny_call (codeAny_mono (run X.A X.stack s H (fun w H1 => w = .str z ∧ H1 = H) (hr.mono hk) I.env0 ⟨rfl, rfl⟩) fun res s2 hq => ?_))) hdb)
    match res, hq with
    | .error e, hq => exact hq.2.elim
    | .ok (.ret u), hq => exact ⟨hq.1, I.after hq.2⟩
    | .ok .next, hq => exact hq.2.elim
    | .ok .brk, hq => exact hq.2.elim
    | .ok .cont, hq => exact hq.2.elim
  · rintro u s1 ⟨ht, w, H1, I1, r1, rfl, rfl⟩
    obtain ⟨tx, rfl⟩ := r1
    refine ⟨"str", _, PySem.F.plainAttrs_str, PySem.F.slot_str_replace, PySem.F.type_str_replace, typeIs_str _ _ _, (fun _ e => nomatch e), Calls.callWith_builtin rfl (Calls.evalArgs_plain (Calls.spliced_cons (Calls.Constant_str (Calls.spliced_cons (Calls.Constant_str (Calls.spliced_nil ?_))))))⟩
    exact PySem.SC.replace (Nat.ne_of_gt ht) (Nat.succ_ne_zero _) (by show s1.toks ≠ s1.toks + 1; omega) hyz hz fun t' kk => ⟨V.str _, _, I1.tok kk, ⟨t', rfl⟩, h⟩
end
/-! ## options to pick from -/
def OneS (c : Nat) : V := .str ⟨#[c]⟩
inductive Opts (K : PySem.W.Frag) (H : Hp) : V → List V → Prop
  | str (z : Str) (h : z.length ≤ 1000) : Opts K H (.str z) (z.cps.toList.map OneS)
  | lst {a : Addr} {xs : List V} (h : SqL K H a xs) : Opts K H (.ref a) xs
  | tup {a : Addr} {xs : List V} (h : SqT K H a xs) : Opts K H (.ref a) xs
theorem Ext.sqL {K : PySem.W.Frag} {p a : Addr} {H H1 : Hp} {xs : List V} {kvs : List (Key × V)} (x : Ext p H H1) (hp : H p = some (.dK kvs)) (h : SqL K H a xs) : SqL K H1 a xs := by
  match h with
  | .inl (.inl e) => exact .inl (.inl (x _ _ e (ne_of e hp (by intro z; cases z))))
  | .inl (.inr ⟨o, e⟩) => exact .inl (.inr ⟨o, x _ _ e (ne_of e hp (by intro z; cases z))⟩)
  | .inr e => exact .inr e
theorem Ext.sqT {K : PySem.W.Frag} {p a : Addr} {H H1 : Hp} {xs : List V} {kvs : List (Key × V)} (x : Ext p H H1) (hp : H p = some (.dK kvs)) (h : SqT K H a xs) : SqT K H1 a xs := by
  match h with
  | .inl (.inl e) => exact .inl (.inl (x _ _ e (ne_of e hp (by intro z; cases z))))
  | .inl (.inr ⟨o, e⟩) => exact .inl (.inr ⟨o, x _ _ e (ne_of e hp (by intro z; cases z))⟩)
  | .inr e => exact .inr e
theorem Ext.is {p a : Addr} {H H1 : Hp} {xs : List V} {kvs : List (Key × V)} (x : Ext p H H1) (hp : H p = some (.dK kvs)) (h : H a = some (.lst xs)) : H1 a = some (.lst xs) := x _ _ h (ne_of h hp (by intro z; cases z))
theorem Ext.isT {p a : Addr} {H H1 : Hp} {xs : List V} {kvs : List (Key × V)} (x : Ext p H H1) (hp : H p = some (.dK kvs)) (h : H a = some (.tup xs)) : H1 a = some (.tup xs) := x _ _ h (ne_of h hp (by intro z; cases z))
theorem Pen.keepL {K : PySem.W.Frag} {p c a : Addr} {T : Nat} {H H1 : Hp} {xs : List V} (q : Pen H p c T) (x : Ext p H H1) (h : SqL K H a xs) : SqL K H1 a xs := by
  obtain ⟨t, l, hp⟩ := q.is
  exact x.sqL hp h
theorem Pen.keepT {K : PySem.W.Frag} {p c a : Addr} {T : Nat} {H H1 : Hp} {xs : List V} (q : Pen H p c T) (x : Ext p H H1) (h : SqT K H a xs) : SqT K H1 a xs := by
  obtain ⟨t, l, hp⟩ := q.is
  exact x.sqT hp h
theorem Pen.keepI {p c a : Addr} {T : Nat} {H H1 : Hp} {xs : List V} (q : Pen H p c T) (x : Ext p H H1) (h : H a = some (.lst xs)) : H1 a = some (.lst xs) := by
  obtain ⟨t, l, hp⟩ := q.is
  exact x.is hp h
def spPick (K : PySem.W.Frag) : Sp := fun vs H Q _ => ∃ (p c : Addr) (o : V) (xs : List V) (T : Nat), vs = [.ref p, o] ∧ Opts K H o xs ∧ xs ≠ [] ∧ xs.length ≤ 1000 ∧ Pen H p c T ∧ T < 1000000000 ∧
  ∀ (v : V) (H' : Hp), v ∈ xs → Pen H' p c (T + 1) → Ext p H H' → Q v H'
def letS : Str := "\n !\"#$&'()*+,-./0123456789:;<=>?@ABCDEFGHIJKLMNOPQRSTUVWXYZ[\\]^_`abcdefghijklmnopqrstuvwxyz{|}~"
def spSigns : Sp := fun vs H Q _ => vs = [] ∧ Q (.str letS) H
/-- what few gives: one to three letters -/
def Few (z : Str) : Prop := 1 ≤ z.length ∧ z.length ≤ 3 ∧ ∀ c ∈ z.cps.toList, c ∈ letS.cps.toList
/-- a word of the letters of z, a to b of them -/
def Word (z : Str) (a b : Nat) (x : Str) : Prop := a ≤ x.length ∧ x.length ≤ b ∧ ∀ c ∈ x.cps.toList, c ∈ z.cps.toList
def spWord : Sp := fun vs H Q _ => ∃ (p c : Addr) (z : Str) (a b T : Nat), vs = [.ref p, .str z, .int a, .int b] ∧ a ≤ b ∧ b ≤ 100 ∧ 1 ≤ z.length ∧ z.length ≤ 1000 ∧ Pen H p c T ∧ T + 200 < 1000000000 ∧
  ∀ (x : Str) (H' : Hp), Word z a b x → Pen H' p c (T + b + 1) → Ext p H H' → Q (.str x) H'
theorem cut63 (ns : List Int) : ∃ ms : List Int, cutV (ns.map V.int) none (some 63) = ms.map V.int ∧ ms.length ≤ 63 := by
  refine ⟨ns.take 63, ?_, List.length_take_le _ _⟩
  unfold cutV
  rw [HT.sIx_none, show (63 : Int) = ((63 : Nat) : Int) from rfl, HT.sIx_nat, List.drop_zero, Nat.sub_zero, List.map_take, Nat.min_comm, ← List.take_take]
  exact List.take_of_length_le (by rw [List.length_take]; omega)
theorem one_len (z : Str) : (z.cps.toList.map OneS).length = z.length := by
  rw [List.length_map]
  exact Array.length_toList
theorem join_nil : ∀ ls : List (List Nat), TL.joinL [] ls = ls.flatten
  | [] => rfl
  | [p] => by simp [TL.joinL]
  | p :: q :: r => by
    show p ++ ([] ++ TL.joinL [] (q :: r)) = _
    rw [List.nil_append, join_nil (q :: r)]
    rfl
theorem join_ones (cs : List Nat) : Txt.join "" (cs.map fun c => (⟨#[c]⟩ : Str)) = ⟨cs.toArray⟩ := by
  rw [TL.join_eq]
  refine TL.ext_tl ?_
  rw [TL.tl_join]
  refine (join_nil _).trans ?_
  show (List.map TL.tl (cs.map fun c => (⟨#[c]⟩ : Str))).flatten = cs
  rw [List.map_map]
  induction cs with
  | nil => rfl
  | cons c r ih => exact congrArg (c :: ·) ih
theorem ones_len (cs : List Nat) : ((cs.map fun c => (⟨#[c]⟩ : Str)).map (·.length)).sum = cs.length := by
  induction cs with
  | nil => rfl
  | cons c r ih =>
    rw [List.map_cons, List.map_cons, List.sum_cons, ih, List.length_cons]
    show 1 + r.length = r.length + 1
    omega
theorem ones_map (cs : List Nat) : (cs.map fun c => (⟨#[c]⟩ : Str)).map V.str = cs.map OneS := List.map_map
theorem noq_list : (Txt.replace letS "q" "").cps.toList = letS.cps.toList.filter (· != 113) := replace_strikes letS 113
theorem noq_len : (Txt.replace letS "q" "").length = 94 := by
  rw [show (Txt.replace letS "q" "").length = (Txt.replace letS "q" "").cps.toList.length from Array.length_toList.symm, noq_list]
  decide +kernel
theorem noq_in {c : Nat} (h : c ∈ (Txt.replace letS "q" "").cps.toList) : c ∈ letS.cps.toList := by
  rw [noq_list] at h
  exact (List.mem_filter.mp h).1
theorem ones_of {z : Str} {v : V} (h : v ∈ z.cps.toList.map OneS) : ∃ c, v = OneS c ∧ c ∈ z.cps.toList := by
  obtain ⟨c, hc, e⟩ := List.mem_map.mp h
  exact ⟨c, e.symm, hc⟩
theorem opts_ne {z : Str} (h : 1 ≤ z.length) : z.cps.toList.map OneS ≠ [] := fun e => by
  have q := one_len z
  rw [e] at q
  simp at q
  omega
theorem opts_le {z : Str} {n : Nat} (h : z.length ≤ n) : (z.cps.toList.map OneS).length ≤ n := by
  rw [one_len]
  exact h
theorem few_ones {cs : List Nat} (h1 : 1 ≤ cs.length) (h3 : cs.length ≤ 3) (h : ∀ c ∈ cs, c ∈ letS.cps.toList) : Few ⟨cs.toArray⟩ := ⟨by simpa [Str.length] using h1, by simpa [Str.length] using h3, by simpa using h⟩
/-! ## rules whose written part is named (within a comprehension's block) -/
section
variable {X : Cx} {K : PySem.W.Frag}
theorem ix_seqK (h : X.K = K) : IxR X (rIx K) := h ▸ ix_seq
theorem ix_tupK (h : X.K = K) : IxR X (rIxT K) := h ▸ ix_tup
theorem op_notIn_seqK (h : X.K = K) : OpR X (compareOp .NotIn) (rIn K true) := h ▸ op_notIn_seq
theorem sl_listK (h : X.K = K) : SlR X (rSlL K) := h ▸ sl_list
theorem call_lenK (h : X.K = K) : CallR X (.builtin "len") (fun xs H Q => ∃ x n, xs = [x] ∧ LenV K x H n ∧ Q (.int n) H) := h ▸ call_len
end
theorem cutV_mem {xs : List V} {lo hi : Option Int} {v : V} (h : v ∈ cutV xs lo hi) : v ∈ xs := List.mem_of_mem_drop (List.mem_of_mem_take h)
theorem cutV_all {xs : List V} {lo hi : Option Int} {f : V → Bool} (h : xs.all f = true) : (cutV xs lo hi).all f = true := List.all_eq_true.mpr fun v hv => List.all_eq_true.mp h v (cutV_mem hv)
theorem ones_flat (cs : List Nat) : (cs.map OneS).all flatV = true := List.all_eq_true.mpr fun v hv => by
  obtain ⟨c, _, rfl⟩ := List.mem_map.mp hv
  rfl
end Vk
set_option Elab.async false
set_option maxRecDepth 100000
set_option linter.all false
namespace Vk
open PySem PySem.Spec PyProof.Rows L2
/-! ## how long what is shown may be -/
theorem listText_le : ∀ ts : List Str, (listText ts).length ≤ piled ts + 2
  | [] => by decide +kernel
  | t :: r => by
    have h := textFrom_length_pos r 1 (("[" : Str) ++ (if (0 : Nat) > 0 then ", " else "" : String) ++ t) (Nat.succ_pos 0)
    have e : (listText (t :: r)).length = (textFrom 1 (("[" : Str) ++ (if (0 : Nat) > 0 then ", " else "" : String) ++ t) r).length + 1 := strLen_append _ _
    rw [e, h, strLen_append, strLen_append, piled_cons]
    show 1 + 0 + t.length + piled r + 1 ≤ _
    omega
theorem piled_le {ts : List Str} {n : Nat} (h : ∀ t ∈ ts, t.length ≤ n) : piled ts ≤ ts.length * (n + 2) := by
  induction ts with
  | nil => exact Nat.zero_le _
  | cons t r ih =>
    have h1 := h t List.mem_cons_self
    have h2 := ih fun u hu => h u (List.mem_cons_of_mem _ hu)
    rw [piled_cons, List.length_cons, Nat.succ_mul]
    omega
theorem shownAll_map : ∀ ds : List PyData, PyData.shownAll ds = ds.map PyData.shown
  | [] => rfl
  | d :: r => congrArg (d.shown :: ·) (shownAll_map r)
theorem showableAll_iff : ∀ {ds : List PyData}, (∀ d ∈ ds, d.showable = true) → PyData.showableAll ds = true
  | [], _ => rfl
  | d :: r, h => by
    show (d.showable && PyData.showableAll r) = true
    rw [h d List.mem_cons_self, showableAll_iff fun e he => h e (List.mem_cons_of_mem _ he)]
    rfl
theorem hasDictAll_of : ∀ {ds : List PyData}, (∀ d ∈ ds, d.hasDict = false) → PyData.hasDictAll ds = false
  | [], _ => rfl
  | d :: r, h => by
    show (d.hasDict || PyData.hasDictAll r) = false
    rw [h d List.mem_cons_self, hasDictAll_of fun e he => h e (List.mem_cons_of_mem _ he)]
    rfl
theorem depthAll_le : ∀ {ds : List PyData} {n : Nat}, (∀ d ∈ ds, d.depth ≤ n) → PyData.depthAll ds ≤ n
  | [], _, _ => Nat.zero_le _
  | d :: r, n, h => Nat.max_le.mpr ⟨h d List.mem_cons_self, depthAll_le fun e he => h e (List.mem_cons_of_mem _ he)⟩
/-- d may be shown, in at most n signs, at most k deep -/
structure Showy (d : PyData) (k n : Nat) : Prop where
  sh : d.showable = true
  nd : d.hasDict = false
  dp : d.depth ≤ k
  ln : d.shown.length ≤ n
theorem Showy.list {ds : List PyData} {k n : Nat} (h : ∀ d ∈ ds, Showy d k n) : Showy (.list ds) (k + 1) (ds.length * (n + 2) + 2) := by
  refine ⟨showableAll_iff fun d hd => (h d hd).sh, hasDictAll_of fun d hd => (h d hd).nd, Nat.succ_le_succ (depthAll_le fun d hd => (h d hd).dp), ?_⟩
  show (listText (PyData.shownAll ds)).length ≤ _
  rw [shownAll_map]
  have h1 := listText_le (ds.map PyData.shown)
  have h2 := piled_le (ts := ds.map PyData.shown) (n := n) fun t ht => by
    obtain ⟨d, hd, rfl⟩ := List.mem_map.mp ht
    exact (h d hd).ln
  rw [List.length_map] at h2
  omega
theorem Showy.tuple {ds : List PyData} {k n : Nat} (h : ∀ d ∈ ds, Showy d k n) : Showy (.tuple ds) (k + 1) (ds.length * (n + 2) + 2) := by
  refine ⟨showableAll_iff fun d hd => (h d hd).sh, hasDictAll_of fun d hd => (h d hd).nd, Nat.succ_le_succ (depthAll_le fun d hd => (h d hd).dp), ?_⟩
  show (tupleText (PyData.shownAll ds)).length ≤ _
  rw [shownAll_map]
  have h1 := fmt_text (ds.map PyData.shown)
  have h2 := piled_le (ts := ds.map PyData.shown) (n := n) fun t ht => by
    obtain ⟨d, hd, rfl⟩ := List.mem_map.mp ht
    exact (h d hd).ln
  rw [List.length_map] at h2
  omega
theorem Showy.int {i : Int} (h : i.natAbs < 10 ^ 100) : Showy (.int i) 0 101 := by
  have hl : i.natAbs.log2 < 1920 := by
    by_cases h0 : i.natAbs = 0
    · rw [h0]; decide
    · exact (Nat.log2_lt h0).mpr (Nat.lt_of_lt_of_le h (by decide +kernel))
  refine ⟨decide_eq_true hl, rfl, Nat.le_refl _, ?_⟩
  show (Str.ofString (toString i)).length ≤ 101
  rw [PySem.ofString_length]
  exact int_text_length_le10 (k := 100) (by decide) h
theorem Showy.mono {d : PyData} {k k' n n' : Nat} (h : Showy d k n) (h1 : k ≤ k') (h2 : n ≤ n') : Showy d k' n' := ⟨h.sh, h.nd, Nat.le_trans h.dp h1, Nat.le_trans h.ln h2⟩
/-! ## places of words -/
end Vk
set_option Elab.async false
set_option maxRecDepth 100000
set_option linter.all false
namespace Vk
open PySem PySem.Spec PyProof.Rows L2
/-! ## a text some times -/
theorem mulOk {x : Str} {n : Int} (h0 : 0 ≤ n) (h1 : n ≤ 1000000) (h : x.length * n.toNat ≤ 10000000) (hx : x.length ≤ 10000000) : MulOk x n := by
  refine ⟨?_, fun a _ c => ?_, fun _ _ => ?_⟩
  · rw [decide_eq_false (by omega), decide_eq_false (by omega)]
    rfl
  · have hn : 0 < n := by omega
    have q : (10000000 : Int) ≤ (2 ^ 63 - 1) / n := (Int.le_ediv_iff_mul_le hn).mpr (by omega)
    omega
  · unfold Builtin.Str.tooLong sizeLine
    exact decide_eq_false (by omega)
def CMulS (x : Str) (n : Int) : Prop := 0 ≤ n ∧ n ≤ 1000000 ∧ x.length * n.toNat ≤ 10000000 ∧ x.length ≤ 10000000
def rMulS : R2 := fun x y H Q => ∃ (z : Str) (n : Int), x = .str z ∧ y = .int n ∧ CMulS z n ∧ Q (.str (Txt.mul z n)) H
section
variable {X : Cx}
theorem op_mulS : OpR X (binaryOp .Mult) rMulS := by
  intro pins s σ H x y v u Q I rx ry h
  obtain ⟨z, n, rfl, rfl, ⟨h0, h1, h2, h3⟩, q⟩ := h
  obtain ⟨t, rfl⟩ := rx
  obtain ⟨t2, rfl⟩ := ry
  exact SB.mul (mulOk h0 h1 h2 h3) fun t' k => ⟨V.str _, H, I.tok k, ⟨t', rfl⟩, q⟩
end
theorem foldl_cat : ∀ (l : List (Array Nat)) (acc : Array Nat), (l.foldl (· ++ ·) acc).toList = acc.toList ++ (l.map Array.toList).flatten
  | [], acc => by simp
  | a :: r, acc => by
    rw [List.foldl_cons, foldl_cat r]
    simp
theorem mul_list (x : Str) (n : Int) (h : 0 ≤ n) : (Txt.mul x n).cps.toList = (List.replicate n.toNat x.cps.toList).flatten := by
  unfold Txt.mul
  split
  · rw [show n.toNat = 0 by omega]
    rfl
  · split
    · rename_i h1 h2
      rw [Bool.or_eq_true] at h2
      rcases h2 with h2 | h2
      · rw [show n = 1 from eq_of_beq h2]
        simp
      · have e : x.cps.toList = [] := List.eq_nil_of_length_eq_zero (Array.length_toList.trans (eq_of_beq h2))
        rw [e]
        simp
    · show ((List.replicate n.toNat x.cps).foldl (· ++ ·) #[]).toList = _
      rw [foldl_cat, List.map_replicate]
      rfl
theorem len_list (x : Str) : x.length = x.cps.toList.length := Array.length_toList.symm
theorem mul_len (x : Str) (n : Int) (h : 0 ≤ n) : (Txt.mul x n).length = n.toNat * x.length := by
  rw [len_list, mul_list x n h, len_list x]
  simp [List.length_flatten]
/-! ## a def called by keywords alone -/
structure CalK (P : Program) (w : World) (K : PySem.W.Frag) (mg : Str → Option Value) (base : Heap) (CX : CXT) (k : Nat) (x : Str) (sp : Sp) (ks : List Str) (g : {α : Type} → List α → List α) : Prop where
  ex : ∃ (f : Addr) (fd : FuncData) (ps : List Str), FnG P w K mg base CX k f fd ps sp ∧ mg x = some (.ref f) ∧ PySem.W.keepIn K (.ref f) = true ∧
    (∀ (s : Shared) (ws : List Value), K.In s.heap → ws.length = ks.length → BindsTo s fd ⟨[], ks.zip ws⟩ (ps.zip (g ws))) ∧ ∀ (vs : List V) (ws : List Value), Vals vs ws → vs.length = ks.length → Vals (g vs) (g ws)
section
variable {X : Cx} {CX : CXT} {j k : Nat} {sp : Sp} {E : XK} {x : Str} {p pos : Pos} {kws : List Keyword} {tk : TA} {ks : List Str} {g : {α : Type} → List α → List α}
end
/-! ## a def of the text as the head leaves it -/
structure At (K : PySem.W.Frag) (x : Str) (st : Stmt) (f : Addr) (fd : FuncData) : Prop where
  ns : PySem.W.nsIn K mainGlobals x = some (some (.ref f))
  fn : Fun K x x st f fd
theorem at_mk {K : PySem.W.Frag} {x : Str} {st : Stmt} {f : Addr} {oc : Value} {od an : Option Addr} {sl : Array (Option Value)} {kV doc pm cd ct : Value} (a : PySem.W.nsIn K mainGlobals x = some (some (.ref f)))
    (l : K.lookup f = some ⟨oc, od, .func (PySem.W.fnOf x x (defArgs st) (defBody st) (defScope st) .none kV doc pm an cd ct), sl⟩) (c : PySem.W.codeIn K cd x = true) (k : PySem.W.keepIn K (.ref f) = true) :
    At K x st f (PySem.W.fnOf x x (defArgs st) (defBody st) (defScope st) .none kV doc pm an cd ct) := ⟨a, fun_mk l c k⟩
section
variable {K : PySem.W.Frag} {x y qual : Str} {st : Stmt} {f : Addr} {fd : FuncData} {ps ks : List Str} {g : List Value → List Value}
theorem _root_.L2.Fun.binds1 (F : Fun K x qual st f fd)
    (h : ∀ {kV doc pm : Value} {an : Option Addr} {cdv ct : Value} {v : Value}, bindArgs (PySem.W.fnOf x qual (defArgs st) (defBody st) (defScope st) .none kV doc pm an cdv ct) ⟨[v], []⟩ = pure [(y, v)]) :
    ∀ (s : Shared) (v : Value), BindsTo s fd ⟨[v], []⟩ [(y, v)] := by
  obtain ⟨oc, od, kV, doc, pm, an, cdv, ct, osl, rfl, lk, hcd⟩ := F.ex
  exact fun s v => .of_eq h
end
end Vk
set_option Elab.async false
set_option maxRecDepth 100000
set_option maxHeartbeats 4000000
set_option linter.all false
namespace PySem
namespace VkX
open PySem.W PySem.Calls PyProof.Rows Builtin Builtin.ObjectAttr PySem.HandSPX
/-! ## own exception classes straight below one of the four -/
structure ExB (B newId initId : String) (tl : List Value) : Prop where
  F : ExcBaseFacts B newId initId tl
  pass : ∀ self : Value, refuseLoop self "__setattr__" tl = pure ()
  obj : tl.contains (.type "object") = true
  refs : tl.all (fun v => match v with | .type _ => true | _ => false) = true
section
variable {M : Model} {A : Around} {E : Value → Shared → Prop} {h : Heap} {g : Array GenState} {d : Drawn} {t : Nat} {os : OsState}
variable {nm q : Str} {C N : Addr} {bs bm : List Value} {hdct : Bool} {sn : List Str} {sub : List Value} {ab : Bool} {col : Option Bool} {dd : Option Addr} {k0 k1 k2 k3 k5 : Option Value} {B newId initId : String}
end
section
variable {prog : Program} {w : World} {A : Around} {E : Value → Shared → Prop} {R : Result → Shared → Prop} {h : Heap} {g : Array GenState} {d : Drawn} {t : Nat} {os : OsState}
variable {nm q : Str} {C N : Addr} {bs bm : List Value} {hdct : Bool} {sn : List Str} {sub : List Value} {ab : Bool} {col : Option Bool} {dd : Option Addr} {k0 k1 k2 k3 k5 : Option Value} {B newId initId : String}
end
end VkX
end PySem
set_option Elab.async false
set_option maxRecDepth 100000
set_option maxHeartbeats 4000000
set_option linter.all false
namespace PySem
namespace VkX
open PySem.W PySem.Calls PyProof.Rows Builtin Builtin.ObjectAttr PySem.HandSPX
section
variable {prog : Program} {w : World} {A : Around} {E : Value → Shared → Prop} {R : Result → Shared → Prop} {hp : Heap} {g : Array GenState} {d : Drawn} {t : Nat} {os : OsState}
end
end VkX
end PySem
namespace Vk
open L2 PySem PySem.Spec PyProof.Rows PySem.VkX
/-- what the written part says of an own exception class over one of the four -/
structure OexK (K : PySem.W.Frag) (C : Addr) : Prop where
  cls : ∃ B newId initId tl nm q N bs sn sub ab col dd k0 k1 k2 k3 k5, ExB B newId initId tl ∧ K.lookup C = some (excClassObj nm q C N bs tl true sn sub ab col dd k0 k1 k2 k3 k5 newId)
  sa : PySem.W.findIn K (.ref C) "__setattr__" = some (some (.builtin "object.__setattr__"))
  kC : PySem.W.keepIn K (.ref C) = true
  xf : XfC K C
  ic : ExcC K C
section
variable {X : Cx} {pins : List (Addr × Obj)} {σ : L2.St} {H : Hp} {s : Shared} {a C dx : Addr} {f : Str} {y : V} {u : Value} {fs : List (Str × V)} {Q : Unit → Shared → Prop} {E : Value → Shared → Prop} {A : Around}
end
section
variable {X : Cx} {o e : Expr} {es : List Expr} {to te : TE} {ta : TA} {f : Str} {p p' p1 p2 pos : Pos}
end
end Vk
set_option Elab.async false
set_option maxRecDepth 100000
set_option maxHeartbeats 4000000
set_option linter.all false
namespace Vk
open L2 PySem PySem.Spec PyProof.Rows PySem.VkX
/-! ## making one -/
/-- __init__(self, f1, ..): the fields stored in their order -/
def spIni (C : Addr) (fsn : List Str) : Sp := fun vs H Q E => ∃ a ws, vs = .ref a :: ws ∧ ws.length = fsn.length ∧ H a = some (exo a C none) ∧
  (fsn = [] → Q .non H) ∧ (fsn ≠ [] → ∀ d, H d = none → d ≠ a → Q .non (upd (upd H d (exd d (fsn.zip ws).reverse)) a (exo a C (some d))))
structure ClsI (P : Program) (w : World) (K : PySem.W.Frag) (mg : Str → Option Value) (base : Heap) (k : Nat) (x : Str) (C : Addr) (fsn : List Str) : Prop where
  T : OexK K C
  hm : mg x = some (.ref C)
  no : ∀ f ∈ fsn, PySem.W.findIn K (.ref C) f = some none
  ex : ∃ (fI : Addr) (fd : FuncData), PySem.W.findIn K (.ref C) "__init__" = some (some (.ref fI)) ∧ PySem.W.typeIn K (.ref fI) = some (.type "function") ∧ FnG P w K mg base CX0 k fI fd (("self" : Str) :: fsn) (spIni C fsn) ∧ Binds K fd (("self" : Str) :: fsn) [] ∧
    (∀ (s : Shared) (v : Value) (ws : List Value), K.In s.heap → ws.length = fsn.length → BindsTo s fd ⟨[v], fsn.reverse.zip ws⟩ ((("self" : Str) :: fsn).zip (v :: ws.reverse)))
section
variable {X : Cx} {j k : Nat} {x : Str} {C : Addr} {fsn : List Str} {p pos : Pos} {e : Expr} {es : List Expr} {t : TA}
theorem few_len {n : Nat} (h : n ≤ 1000) : n ≤ sizeLine := Nat.le_trans h (by rw [sizeLine_eq]; decide)
end
end Vk
set_option Elab.async false
set_option maxRecDepth 100000
set_option maxHeartbeats 4000000
set_option linter.all false
namespace Vk
open L2 PySem PySem.Spec PyProof.Rows PySem.VkX
/-- the j-th statement of a class -/
def mtd (st : Stmt) (j : Nat) : Stmt := match st with
  | .ClassDef _ _ _ b _ _ _ _ _ _ _ => b.getD j (.Pass ⟨0, 0, 0, 0⟩)
  | _ => .Pass ⟨0, 0, 0, 0⟩
theorem no1 {P : Str → Prop} {a : Str} (h : P a) : ∀ f ∈ ([a] : List Str), P f := fun f z => by
  rw [List.mem_singleton] at z
  exact z ▸ h
theorem no2 {P : Str → Prop} {a b : Str} (h : P a) (h2 : P b) : ∀ f ∈ ([a, b] : List Str), P f := fun f z => by
  rcases List.mem_cons.mp z with z | z
  · exact z ▸ h
  · rw [List.mem_singleton] at z
    exact z ▸ h2
/-- the class at C has the name x and these classes behind it -/
def ClsN (K : PySem.W.Frag) (C : Addr) (x : Str) (tl : List Value) : Prop := ∃ newId q N bs sn sub ab col dd k0 k1 k2 k3 k5, K.lookup C = some (excClassObj x q C N bs tl true sn sub ab col dd k0 k1 k2 k3 k5 newId)
structure ExcTxt (K : PySem.W.Frag) (x qual : Str) (st : Stmt) (C fI : Addr) (fd : FuncData) (fsn : List Str) (tl : List Value) : Prop where
  cn : ClsN K C x tl
  ns : PySem.W.nsIn K mainGlobals x = some (some (.ref C))
  T : OexK K C
  iC : PySem.W.findIn K (.ref C) "__init__" = some (some (.ref fI))
  tI : PySem.W.typeIn K (.ref fI) = some (.type "function")
  no : ∀ f ∈ fsn, PySem.W.findIn K (.ref C) f = some none
  fn : Fun K "__init__" qual st fI fd
section
variable {P : Program} {w : World} {K : PySem.W.Frag} {mg : Str → Option Value} {base h : Heap} {x qual f f2 : Str} {st : Stmt} {C fI : Addr} {fd : FuncData} {p1 p2 p3 p4 q1 q2 q3 q4 : Pos}
end
end Vk
namespace Vk
open L2 PySem PySem.Spec PyProof.Rows PySem.VkX
end Vk
set_option Elab.async false
set_option maxRecDepth 100000
set_option maxHeartbeats 4000000
set_option linter.all false
namespace Vk
open L2 PySem PySem.Spec PyProof.Rows PySem.VkX
/-! ## values that are shown, dicts among them -/
inductive Atm : V → PyData → Prop
  | non : Atm .non .none
  | bl (b : Bool) : Atm (.bl b) (.bool b)
  | int (i : Int) : Atm (.int i) (.int i)
  | str (x : Str) : Atm (.str x) (.str x)
def kvS (ps : List (Str × Str)) : List (Key × V) := ps.map fun p => (Sum.inr p.1, V.str p.2)
def kvD (ps : List (Str × Str)) : List (PyData × PyData) := ps.map fun p => (.str p.1, .str p.2)
/-- one level deep -/
inductive Th (H : Hp) : V → PyData → Prop
  | atm {v : V} {d : PyData} : Atm v d → Th H v d
  | lst {a : Addr} {xs : List V} {ds : List PyData} : H a = some (.lst xs) → a ≠ sysModules → Paired Atm xs ds → Th H (.ref a) (.list ds)
  | tup {a : Addr} {xs : List V} {ds : List PyData} : H a = some (.tup xs) → Paired Atm xs ds → Th H (.ref a) (.tuple ds)
  | dct {a : Addr} {ps : List (Str × Str)} : H a = some (.dK (kvS ps)) → Th H (.ref a) (.dict (kvD ps))
theorem Th.keep {H H' : Hp} {v : V} {d : PyData} (h : Th H v d) (k : ∀ a o, H a = some o → H' a = some o) : Th H' v d := by
  cases h with
  | atm h => exact .atm h
  | lst e n h => exact .lst (k _ _ e) n h
  | tup e h => exact .tup (k _ _ e) h
  | dct e => exact .dct (k _ _ e)
section
variable {X : Cx} {pins : List (Addr × Obj)} {σ : L2.St} {H : Hp} {s : Shared}
theorem Atm.reads {h : Heap} {v : V} {u : Value} {d : PyData} (a : Atm v d) (r : RelV v u) : Reads h u d [] ∧ d.hasDict = false := by
  cases a with
  | non => cases r; exact ⟨Reads.none, by simp only [PyData.hasDict]⟩
  | bl b => cases r; exact ⟨Reads.bool b, by simp only [PyData.hasDict]⟩
  | int i => obtain ⟨t, rfl⟩ := r; exact ⟨Reads.int i t, by simp only [PyData.hasDict]⟩
  | str x => obtain ⟨t, rfl⟩ := r; exact ⟨Reads.str x t, by simp only [PyData.hasDict]⟩
theorem atms_reads {h : Heap} : ∀ {vs : List V} {ds : List PyData} {us : List Value}, Paired Atm vs ds → Vals vs us → ReadsAll h us ds [] ∧ PyData.hasDictAll ds = false
  | _, _, _, .nil, .nil => ⟨ReadsAll.nil, by simp only [PyData.hasDictAll]⟩
  | _, _, _, .cons a t, .cons r rs => by
    obtain ⟨h1, n1⟩ := a.reads (h := h) r
    obtain ⟨h2, n2⟩ := atms_reads (h := h) t rs
    exact ⟨ReadsAll.cons h1 h2, by simp only [PyData.hasDictAll, n1, n2, Bool.or_false]⟩
theorem strs_read {P : Program} {w : World} {h : Heap} : ∀ {ps : List (Str × Str)} {vs : List (Key × Value)} {es : List DictEntry}, KV (kvS ps) vs → Pairs (mixKind P w) es vs →
    ReadsAll h (es.map (·.key)) ((kvD ps).map (·.1)) [] ∧ ReadsAll h (es.map (·.val)) ((kvD ps).map (·.2)) []
  | [], _, _, .nil, .nil => ⟨ReadsAll.nil, ReadsAll.nil⟩
  | p :: ps, _, _, .cons a t, .cons k v r => by
    obtain ⟨h1, h2⟩ := strs_read (P := P) (w := w) (h := h) (ps := ps) t r
    obtain ⟨e1, e2⟩ := a
    rw [mixKind_is, ← e1] at k
    obtain ⟨y, ey⟩ := (show ∃ y, _ = Value.str p.2 y from e2)
    rcases keyIs_shape k with ⟨i, t, z, _⟩ | ⟨x, t, z, z2⟩
    · cases z
    · cases z
      refine ⟨?_, ?_⟩
      · have q := ReadsAll.cons (Reads.str (h := h) p.1 t) h1
        rw [← z2] at q
        exact q
      · have q := ReadsAll.cons (Reads.str (h := h) p.2 y) h2
        rw [← ey, ← v] at q
        exact q
theorem Th.reads (I : Inv X pins σ H s) {v : V} {u : Value} {d : PyData} (h : Th H v d) (r : RelV v u) : ∃ as, Reads s.heap u d as ∧ sysModules ∉ as := by
  cases h with
  | atm a =>
    obtain ⟨h1, n⟩ := a.reads (h := s.heap) r
    exact ⟨_, h1, List.not_mem_nil⟩
  | lst e ne a =>
    cases r
    obtain ⟨its, rv, ⟨o, n, ho, hc, _, hd⟩, _⟩ := I.list (SqL.of e)
    obtain ⟨h1, n1⟩ := atms_reads (h := s.heap) a rv
    exact ⟨_, Reads.list ho hc hd h1, fun z => by simp at z; exact ne z.symm⟩
  | tup e a =>
    cases r
    obtain ⟨its, rv, ⟨o, ho, hc, n, hd⟩, _⟩ := I.tuple (SqT.of e)
    obtain ⟨h1, n1⟩ := atms_reads (h := s.heap) a rv
    exact ⟨_, Reads.tuple ho hc hd h1, List.not_mem_nil⟩
  | @dct a ps e =>
    cases r
    obtain ⟨_, ne, vs, kv, o, es, ep, ho, ex, hd, _, pr, _⟩ := (show ObjOk X.prog X.w H s.heap a (.dK (kvS ps)) from I.hok a _ e)
    obtain ⟨h1, h2⟩ := strs_read (h := s.heap) kv pr
    refine ⟨_, Reads.dict ho ex.1 hd h1 h2, fun hm => ?_⟩
    have z : sysModules = a := by simpa using hm
    rw [← z] at ne
    exact absurd ne (by decide)
/-- what is handed to repr -/
def Shw (H : Hp) (x : V) (d : PyData) : Prop := Th H x d ∨ ∃ q y e, x = .ref q ∧ H q = some (.lst [y, y]) ∧ q ≠ sysModules ∧ Th H y e ∧ d = .list [e, e]
theorem Shw.reads (I : Inv X pins σ H s) {v : V} {u : Value} {d : PyData} (h : Shw H v d) (r : RelV v u) : ∃ as, Reads s.heap u d as ∧ (d.hasDict = true → sysModules ∉ as) := by
  rcases h with h | ⟨q, y, d, rfl, e, ne, t, rfl⟩
  · obtain ⟨as, h1, n1⟩ := h.reads I r
    exact ⟨as, h1, fun _ => n1⟩
  · cases r
    obtain ⟨its, rv, ⟨o, n, ho, hc, _, hd⟩, _⟩ := I.list (SqL.of e)
    cases rv with
    | cons r1 rv =>
      cases rv with
      | cons r2 rv =>
        cases rv
        obtain ⟨as, h1, n1⟩ := t.reads I r1
        obtain ⟨bs, h2, n2⟩ := t.reads I r2
        refine ⟨_, Reads.list ho hc hd (ReadsAll.cons h1 (ReadsAll.cons h2 ReadsAll.nil)), fun z => ?_⟩
        simp only [PyData.hasDict, PyData.hasDictAll, Bool.or_false, Bool.or_self] at z
        have m1 := n1
        have m2 := n2
        simp only [List.append_nil, List.mem_cons, List.mem_append, not_or]
        exact ⟨fun w => ne w.symm, m1, m2⟩
end
section
variable {X : Cx} {es : List Expr} {pos : Pos} {t : TA}
end
end Vk
set_option Elab.async false
set_option maxRecDepth 100000
set_option maxHeartbeats 4000000
set_option linter.all false
namespace Vk
open L2 PySem PySem.Spec PyProof.Rows PySem.VkX
/-! ## isinstance among own exception classes -/
section
variable {K : PySem.W.Frag} {C D : Addr} {x y : Str} {tl tl2 : List Value}
theorem ClsN.cls (c : ClsN K C x tl) : ∃ cd, PySem.W.clsIn K C = some cd ∧ cd.name = x ∧ cd.mro = .ref C :: tl ∧ PySem.W.typeIn K (.ref C) = some (.type "type") := by
  obtain ⟨newId, q, N, bs, sn, sub, ab, col, dd, k0, k1, k2, k3, k5, e⟩ := c
  refine ⟨{ name := x, bases := bs, mro := .ref C :: tl, ns := N, qualname := q, hasDict := true, slotNames := sn, subclasses := sub, abstract := ab, collection := col, hasDel := false }, ?_, rfl, rfl, ?_⟩
  · unfold PySem.W.clsIn; rw [e] <;> rfl
  · show (K.lookup C).map (·.cls) = _
    rw [e] <;> rfl
theorem ClsN.inj (c : ClsN K C x tl) (d : ClsN K D y tl2) : (C == D) = true → x = y := by
  intro h
  have e : C = D := by simpa using h
  subst e
  obtain ⟨cd, h1, h2, _⟩ := c.cls
  obtain ⟨ce, g1, g2, _⟩ := d.cls
  cases h1.symm.trans g1
  exact h2.symm.trans g2
/-- what stands at a name is one class -/
structure One (K : PySem.W.Frag) (C : Addr) (x : Str) (tl : List Value) : Prop where
  cn : ClsN K C x tl
  ns : PySem.W.nsIn K mainGlobals x = some (some (.ref C))
  rf : tl.all (fun v => match v with | .type _ => true | _ => false) = true
end
/-! ## list.count -/
/-! ## a comprehension over zip of two lists of one length -/
end Vk
set_option Elab.async false
set_option maxRecDepth 100000
set_option maxHeartbeats 4000000
set_option linter.all false
namespace Vk
open L2 PySem PySem.Spec PyProof.Rows PySem.VkX
/-! ## what is laid, told by what it shows -/
theorem Same.rfl {H : Hp} : Same H H := fun _ _ h => h
theorem Same.trans {H H1 H2 : Hp} (a : Same H H1) (b : Same H1 H2) : Same H H2 := fun c o h => b c o (a c o h)
def Mk (t : TE) (d : PyData) : Prop := ∀ σ H Q, (∀ v H', Same H H' → Th H' v d → Q v H') → t σ H Q
section
variable {t te : TE} {ta : TA} {d : PyData} {ds : List PyData}
theorem paired_len {α β : Type} {R : α → β → Prop} : ∀ {xs : List α} {ys : List β}, Paired R xs ys → xs.length = ys.length
  | _, _, .nil => rfl
  | _, _, .cons _ t => congrArg (· + 1) (paired_len t)
theorem ths_keep {H H' : Hp} (k : Same H H') : ∀ {vs : List V} {ds : List PyData}, Paired (Th H) vs ds → Paired (Th H') vs ds
  | _, _, .nil => .nil
  | _, _, .cons a t => .cons (a.keep k) (ths_keep k t)
theorem paired_app {α β : Type} {R : α → β → Prop} : ∀ {xs : List α} {ys : List β} {us : List α} {vs : List β}, Paired R xs ys → Paired R us vs → Paired R (xs ++ us) (ys ++ vs)
  | _, _, _, _, .nil, b => b
  | _, _, _, _, .cons a t, b => .cons a (paired_app t b)
end
/-- nothing of such a value is the pen -/
theorem Th.ext {H H' : Hp} {p c : Addr} {T : Nat} {v : V} {d : PyData} (h : Th H v d) (hp : Pen H p c T) (x : Ext p H H') : Th H' v d := by
  obtain ⟨ns, t, l, hpp, _⟩ := hp.ex
  cases h with
  | atm a => exact .atm a
  | lst e n a => exact .lst (x _ _ e (fun z => by rw [z, hpp] at e; cases e)) n a
  | tup e a => exact .tup (x _ _ e (fun z => by rw [z, hpp] at e; cases e)) a
  | @dct a ps e =>
    refine .dct (x _ _ e (fun z => ?_))
    rw [z, hpp] at e
    have e2 : penL c t l = kvS ps := HO.dK.inj (Option.some.inj e)
    match ps, e2 with
    | [], e2 => cases e2
    | q :: r, e2 =>
      have z := congrArg (fun l => (l.head?).map (·.2)) e2
      cases z
end Vk
namespace Vk
open L2 PySem PySem.Spec PyProof.Rows PySem.VkX
theorem seq_asg {te : TE} {g : TG} {u : TS} {D : Ends} {σ : L2.St} {H : Hp} (h : te σ H fun v H1 => g v σ H1 (u D)) : tSeq (tAsg te g) u D σ H := h
end Vk
namespace Vk
open L2 PySem PySem.Spec PyProof.Rows PySem.VkX
end Vk
set_option Elab.async false
set_option maxRecDepth 100000
set_option maxHeartbeats 4000000
set_option linter.all false
namespace Vk
open L2 PySem PySem.Spec PyProof.Rows PySem.VkX
/-! ## several except clauses, with a name or without -/
abbrev Sui := Addr → Value → Option Addr → TS
inductive Clz
  | only (c : Value) (ts : Sui)
  | named (c : Value) (i : Nat) (ts : Sui)
def SuiOk (X : Cx) (ss : List Stmt) (ts : Sui) : Prop := ∀ (a : Addr) (oe : Obj) (cls : Value) (d : Option Addr) (pn : List (Addr × Obj)), Zc cls d oe → (∃ vs, oe.data = .fields vs) → PSs (X.suite a ((a, oe) :: pn)) ss (ts a cls d)
inductive ClzOk (X : Cx) : List ExceptHandler → List Clz → Prop
  | nil : ClzOk X [] []
  | only {x : Str} {c : Value} {ts : Sui} {s0 : Stmt} {ss : List Stmt} {p1 p2 : Pos} {hs : List ExceptHandler} {l : List Clz} (hc : Names X x c) (su : SuiOk X (s0 :: ss) ts) (r : ClzOk X hs l) : ClzOk X (.ExceptHandler (some (.Name x p1)) none (s0 :: ss) p2 :: hs) (.only c ts :: l)
  | named {x n : Str} {c : Value} {i : Nat} {ts : Sui} {s0 : Stmt} {ss : List Stmt} {p1 p2 : Pos} {hs : List ExceptHandler} {l : List Clz} (hi : X.N[i]? = some n) (hl : X.env.kindOf n = some .local) (hc : Names X x c) (su : SuiOk X (s0 :: ss) ts) (r : ClzOk X hs l) :
      ClzOk X (.ExceptHandler (some (.Name x p1)) (some n) (s0 :: ss) p2 :: hs) (.named c i ts :: l)
section
variable {X : Cx} {body : List Stmt} {e0 : ExceptHandler} {es : List ExceptHandler} {l : List Clz} {pos : Pos} {tb : WX → TS} {W0 : WX}
end
end Vk
set_option Elab.async false
set_option maxRecDepth 100000
set_option maxHeartbeats 4000000
set_option linter.all false
namespace Vk
open L2 PySem PySem.Spec PyProof.Rows PySem.VkX
/-! ## C(e, ..) to be raised -/
section
variable {X : Cx} {j k : Nat} {x : Str} {C : Addr} {fsn : List Str} {p pos : Pos} {e : Expr} {es : List Expr} {t : TA}
end
end Vk
set_option Elab.async false
set_option maxRecDepth 100000
set_option maxHeartbeats 4000000
set_option linter.all false
namespace Vk
open L2 PySem PySem.Spec PyProof.Rows PySem.VkX
/-! ## instances of own classes whose __init__ may raise, made by position and by all keywords in the other order -/
structure MakI (P : Program) (w : World) (K : PySem.W.Frag) (mg : Str → Option Value) (base : Heap) (CX : CXT) (k : Nat) (x : Str) (C : Addr) (fsn : List Str) (sp : Sp) : Prop where
  hm : mg x = some (.ref C)
  ex : ∃ (fI : Addr) (fd : FuncData), L2.Mk K C fI ∧ FnG P w K mg base CX k fI fd (("self" : Str) :: fsn) sp ∧ Binds K fd (("self" : Str) :: fsn) [] ∧
    (∀ (s : Shared) (v : Value) (ws : List Value), K.In s.heap → ws.length = fsn.length → BindsTo s fd ⟨[v], fsn.reverse.zip ws⟩ ((("self" : Str) :: fsn).zip (v :: ws.reverse)))
def Born (C : Addr) (sp : Sp) (vs : List V) (H : Hp) (Q : VK) (E : XK) : Prop := ∀ a dx, H a = none → H dx = none → dx ≠ a → sp (.ref a :: vs) (upd (upd H dx (.own a)) a (.ins C dx [])) (fun v H2 => v = .non ∧ Q (.ref a) H2) E
section
variable {X : Cx} {CX : CXT} {E : XK} {j k : Nat} {x : Str} {C : Addr} {fsn : List Str} {sp : Sp} {p pos : Pos} {e : Expr} {es : List Expr} {t : TA}
end
end Vk
set_option Elab.async false
set_option maxRecDepth 100000
set_option maxHeartbeats 4000000
set_option linter.all false
namespace Vk
open L2 PySem PySem.Spec PyProof.Rows PySem.VkX LamX NdefX
/-! ## a lambda as a value: made in a def, kept in lists, handed to a def that calls it -/
structure LF where
  qual : Str
  params : Arguments
  body : Expr
  scope : Scope
  cl : List (Str × Addr)
  c : Addr
def LamO (f : Addr) (F : LF) : HO := .ext fun h => ∃ pm ctv : Value, h.get? f = some (PySem.W.kla_obj "<lambda>" F.qual F.params F.body F.scope F.cl pm F.c ctv)
section
variable {X : Cx} {pins : List (Addr × Obj)} {σ : L2.St} {H : Hp} {s : Shared}
end
section
variable {X : Cx}
end
/-! ### what it does -/
abbrev SpL := List (Option V) → Hp → VK → XK → Prop
structure LamK (P : Program) (w : World) (K : PySem.W.Frag) (mg : Str → Option Value) (base : Heap) (k : Nat) (F : LF) (fr : List Str) (sp : SpL) : Prop where
  run : ∀ (A : Around) (outer : List Env) (s : Shared) (H : Hp) (f : Addr) (ws : List (Option V)) (Q : VK) (E : XK), A.guards = some [] → Room k A → Env0 P w K mg base A outer s H → H f = some (LamO f F) → H F.c = some (CodeO F.c F.qual) → CellsAt F.cl fr ws s.heap H → sp ws H Q E →
    codeAny (model P w) A (.call (.ref f) ⟨[], []⟩) (CR (L2.CX P w) outer P w H s Q E) s
section
variable {P : Program} {w : World} {K : PySem.W.Frag} {mg : Str → Option Value} {base : Heap} {N fr : List Str} {F : LF} {k j : Nat} {sp : SpL}
theorem LamK.mono (l : LamK P w K mg base j F fr sp) (h : j ≤ k) : LamK P w K mg base k F fr sp := ⟨fun A outer s H f ws Q E hg hr => l.run A outer s H f ws Q E hg (hr.mono h)⟩
end
/-! ### called by the def that got it -/
section
variable {X : Cx} {F : LF} {fr : List Str} {ws : List (Option V)} {i j k : Nat} {x : Str} {sp : SpL} {E : XK} {p pos : Pos} {f0 : Addr}
end
/-! ### defs whose promise speaks of the cells that the heap holds -/
structure FnH (P : Program) (w : World) (K : PySem.W.Frag) (mg : Str → Option Value) (base : Heap) (CX : CXT) (k : Nat) (f : Addr) (fd : FuncData) (ps : List Str) (sp : Heap → Sp) : Prop where
  len : ∀ h vs H Q E, sp h vs H Q E → vs.length = ps.length
  run : ∀ (A : Around) (outer : List Env) (s : Shared) (H : Hp) (args : Args) (us : List Value) (vs : List V) (Q : VK) (E : XK), A.guards = some [] → Room k A → Env0 P w K mg base A outer s H → BindsTo s fd args (ps.zip us) → Vals vs us → sp s.heap vs H Q E →
    codeAny (model P w) A (.call (.ref f) args) (CR CX outer P w H s Q E) s
structure CalH (P : Program) (w : World) (K : PySem.W.Frag) (mg : Str → Option Value) (base : Heap) (CX : CXT) (k : Nat) (x : Str) (sp : Heap → Sp) : Prop where
  ex : ∃ (f : Addr) (fd : FuncData) (ps : List Str), FnH P w K mg base CX k f fd ps sp ∧ mg x = some (.ref f) ∧ PySem.W.keepIn K (.ref f) = true ∧ Binds K fd ps []
section
variable {X : Cx} {CX : CXT} {j k : Nat} {x : Str} {sp : Heap → Sp} {E : XK} {p pos : Pos} {e : Expr} {es : List Expr} {t : TA} {rd : L2.St → List V → Hp → VK → Prop}
end
/-! ### isinstance(e, T) of a caught exception that has fields -/
/-! ### a def whose code object is known -/
structure FunC (K : PySem.W.Frag) (x qual : Str) (st : Stmt) (f : Addr) (fd : FuncData) (c : Addr) : Prop where
  ex : ∃ (oc : Value) (od : Option Addr) (kV doc pm : Value) (an : Option Addr) (ct : Value) (sl : Array (Option Value)), fd = PySem.W.fnOf x qual (defArgs st) (defBody st) (defScope st) .none kV doc pm an (.ref c) ct ∧ K.lookup f = some ⟨oc, od, .func fd, sl⟩ ∧ PySem.W.codeIn K (.ref c) qual = true
  kp : PySem.W.keepIn K (.ref f) = true
theorem FunC.fn {K : PySem.W.Frag} {x qual : Str} {st : Stmt} {f c : Addr} {fd : FuncData} (F : FunC K x qual st f fd c) : Fun K x qual st f fd := by
  obtain ⟨oc, od, kV, doc, pm, an, ct, sl, e, l, hc⟩ := F.ex
  exact ⟨⟨oc, od, kV, doc, pm, an, .ref c, ct, sl, e, l, hc⟩, F.kp⟩
end Vk
set_option Elab.async false
set_option maxRecDepth 100000
set_option maxHeartbeats 4000000
set_option linter.all false
namespace Vk
open PySem PySem.Spec PyProof.Rows PySem.SeqAt L2
open Builtin
section
variable {prog : Program} {w : World} {A : Around} {E : Value → Shared → Prop} {s : Shared} {K : PySem.W.Frag} {x C : Addr} {ox : Obj} {od : Option Obj}
theorem ifBound_objNe {M : Model} {args : List Value} {Q : Option Value → Shared → Prop} (X : K.In s.heap) (I : PySem.W.InstAt s.heap x ox C od) (hs : PySem.W.findIn K (.ref C) "__ne__" = some (some (.builtin "object.__ne__")))
    (h : wpAny M A (call (.builtin "object.__ne__") (.ref x :: args)) (fun v => Q (some v)) E s) : wpAny M A (callSpecialIfBound? (.ref x) "__ne__" args) Q E s := by
  simp only [callSpecialIfBound?, bindSpecialIfBound?]
  refine wpAny_holding (wpAny_bind (wpAny_bind (wpAny_bind (I.type.here ((PySem.W.looks_findIn X hs).here ?_)))))
  refine wpAny_bind (wpAny_askSetting (wpAny_ite ?_))
  have whole : wpAny M A (call (.builtin "object.__ne__") ([.ref x] ++ args) >>= fun v => pure (some v)) Q E s := wpAny_bind (wpAny_mono h (fun v s' q => wpAny_pure q) fun _ _ q => q)
  split
  · exact wpAny_bind (wpAny_of_eq (F.cmp_object.ne.bind _) (wpAny_pure (by exact whole)))
  · exact wpAny_tryCatch (wpAny_bind (wpAny_of_eq (F.cmp_object.ne.bind _) (wpAny_pure (by exact whole))))
/-- x != b by the own == -/
theorem ne_K {b tb : Value} {f : Addr} {Q : Value → Shared → Prop} (hu : A.units + 1 < cLine) (X : K.In s.heap) (I : PySem.W.InstAt s.heap x ox C od) (hb : PySem.W.Looks (model prog w) s.heap (typeOf b) tb) (hn : PySem.W.notFirst K C tb = true)
    (hne : PySem.W.findIn K (.ref C) "__ne__" = some (some (.builtin "object.__ne__"))) (hobj : PySem.W.mroIn K C (.type "object") = some true) (hs : PySem.W.findIn K (.ref C) "__eq__" = some (some (.ref f))) (hf : PySem.W.isFn K (.ref f) = true)
    (h : wpAny (model prog w) A.in1 (call (.ref f) [.ref x, b]) (fun v s' => ∃ r, v = .bool r ∧ Q (.bool (!r)) s') E s) : wpAny (model prog w) A (richCompare .NotEq (.ref x) b) Q E s := by
  have one : wpAny (model prog w) A (tryCompare (.ref x) "__ne__" b) (fun r s' => ∃ v, r = some v ∧ Q v s') E s := by
    unfold tryCompare
    refine wpAny_bind (ifBound_objNe X I hne (wpAny_call (codeAny_call_builtin F.cmp_object.ne.plain F.cmpEntry_ne (PySem.W.check_slot F.cmpKind_ne F.cmpSplit_ne (I.type.andThen (PySem.W.looks_mroIn X hobj)) (F.cmpArgs_ne _ _) ?_))))
    unfold Builtin.«object.__ne__»
    repeat (first
      | with_reducible refine wpAny_cRoomFor (A := A.in1) hu ?_
      | (refine wpAny_bind (m := callSpecialIfBound? (.ref x) (Str.ofString "__eq__") [b]) (PySem.W.ifBound_K X I hs hf (wpAny_mono h (fun r s' hr => ?_) fun _ _ e => e)))
      | wp_step)
    obtain ⟨r, rfl, q⟩ := hr
    repeat (first | (refine wpAny_bind (m := truthy (.bool _)) (wpAny_truthy_bool ?_)) | wp_step)
    exact ⟨_, rfl, q⟩
  simp only [richCompare, cmpInfo_NotEq, oneThing_ref]
  refine wpAny_holding (wpAny_bind (wpAny_cRoomFor (Nat.lt_of_succ_lt hu) ?_))
  refine wpAny_bind (I.type.here (wpAny_bind (hb.here ?_)))
  have done : ∀ r s', (∃ v, r = some v ∧ Q v s') → wpAny (model prog w) A (match r with | some v => pure v | none => pure .none) Q E s' := fun r s' ⟨v, e, q⟩ => by subst e; exact wpAny_pure q
  split
  · rename_i q
    have e : PySem.W.subIn K tb (.ref C) = some false := by
      rcases Bool.or_eq_true_iff.mp hn with e | e
      · rw [beq_iff_eq.mp e] at q; simp at q
      · exact beq_iff_eq.mp e
    refine wpAny_bind ((PySem.W.looks_subIn X e).here ?_)
    simp only [Bool.false_eq_true, if_false]
    refine wpAny_bind (wpAny_mono one (fun r s' z => ?_) fun _ _ e => e)
    obtain ⟨v, rfl, hq⟩ := z
    exact wpAny_pure hq
  · refine wpAny_bind (wpAny_pure ?_)
    simp only [Bool.false_eq_true, if_false]
    refine wpAny_bind (wpAny_mono one (fun r s' z => ?_) fun _ _ e => e)
    obtain ⟨v, rfl, hq⟩ := z
    exact wpAny_pure hq
end
end Vk
set_option Elab.async false
set_option maxRecDepth 100000
set_option maxHeartbeats 4000000
set_option linter.all false
namespace Vk
open PySem PySem.Spec PyProof.Rows PySem.SeqAt L2
open Builtin
/-! ## == and != and in, on the left an instance of an own class with its own == -/
inductive TyE (H : Hp) : V → Value → Prop
  | non : TyE H .non (.type "NoneType")
  | bl (b : Bool) : TyE H (.bl b) (.type "bool")
  | int (i : Int) : TyE H (.int i) (.type "int")
  | str (z : Str) : TyE H (.str z) (.type "str")
  | tup {a : Addr} {xs : List V} (e : H a = some (.tup xs)) : TyE H (.ref a) (.type "tuple")
  | lst {a : Addr} {xs : List V} (e : H a = some (.lst xs)) : TyE H (.ref a) (.type "list")
  | ins {a C dx : Addr} {fs : List (Str × V)} (e : H a = some (.ins C dx fs)) : TyE H (.ref a) (.ref C)
section
variable {X : Cx} {pins : List (Addr × Obj)} {σ : L2.St} {H : Hp} {s : Shared}
theorem looks_of {T : String} {u : Value} (h : ∀ s2 : Shared, (∀ b o, s.heap.get? b = some o → s2.heap.get? b = some o) → s2.TypeIs u T) : PySem.W.Looks (model X.prog X.w) s.heap (typeOf u) (.type T) := fun A Q E s2 k q => wpAny_typeOf (h s2 k) q
theorem TyE.looks {y : V} {u t : Value} (I : Inv X pins σ H s) (h : TyE H y t) (r : RelV y u) : PySem.W.Looks (model X.prog X.w) s.heap (typeOf u) t := by
  cases h with
  | non => cases (show u = Value.none from r); exact looks_of fun _ _ => rfl
  | bl b => cases (show u = Value.bool b from r); exact looks_of fun _ _ => rfl
  | int i => obtain ⟨t, rfl⟩ := (show ∃ t, u = Value.int i t from r); exact looks_of fun _ _ => rfl
  | str z => obtain ⟨t, rfl⟩ := (show ∃ t, u = Value.str z t from r); exact looks_of fun _ _ => rfl
  | tup e =>
    cases (show u = Value.ref _ from r)
    obtain ⟨its, rv, ⟨o, ho, hc, n, hd⟩, _⟩ := I.tuple (SqT.of e)
    exact looks_of fun s2 k => ⟨o, k _ _ ho, hc⟩
  | lst e =>
    cases (show u = Value.ref _ from r)
    obtain ⟨its, rv, ⟨o, n, ho, hc, _, hd⟩, _⟩ := I.list (SqL.of e)
    exact looks_of fun s2 k => ⟨o, k _ _ ho, hc⟩
  | ins e =>
    cases (show u = Value.ref _ from r)
    obtain ⟨mA, O, _⟩ := ins_get I.hok e
    obtain ⟨od, J, _⟩ := O.look
    exact J.type
end
/-- the own == of the class at C -/
structure EqI (P : Program) (w : World) (K : PySem.W.Frag) (mg : Str → Option Value) (base : Heap) (k : Nat) (C : Addr) (sp : Sp) : Prop where
  ex : ∃ (f : Addr) (fd : FuncData), PySem.W.findIn K (.ref C) "__eq__" = some (some (.ref f)) ∧ PySem.W.isFn K (.ref f) = true ∧ FnOk P w K mg base CX0 k f fd ["self", "other"] sp ∧ Binds K fd ["self", "other"] []
  ne : PySem.W.findIn K (.ref C) "__ne__" = some (some (.builtin "object.__ne__"))
  obj : PySem.W.mroIn K C (.type "object") = some true
  no1 : PySem.W.mroIn K C (.type "tuple") = some false
  no2 : PySem.W.mroIn K C (.type "list") = some false
  no3 : PySem.W.mroIn K C (.type "str") = some false
  no4 : PySem.W.mroIn K C (.type "NoneType") = some false
def rEqI (K : PySem.W.Frag) (C : Addr) (sp : Sp) (g : Bool → Bool) : R2 := fun x y H Q => ∃ a dx fs tb, x = .ref a ∧ H a = some (.ins C dx fs) ∧ TyE H y tb ∧ PySem.W.notFirst K C tb = true ∧ sp [x, y] H (fun v H' => ∃ b, v = .bl b ∧ Q (.bl (g b)) H') E0
section
variable {X : Cx} {k j : Nat} {C : Addr} {sp : Sp}
/-- the items that give way to the instance's own == -/
inductive Dec (H : Hp) : V → Prop
  | non : Dec H .non
  | str (z : Str) : Dec H (.str z)
  | tup {a : Addr} {xs : List V} (e : H a = some (.tup xs)) : Dec H (.ref a)
  | lst {a : Addr} {xs : List V} (e : H a = some (.lst xs)) : Dec H (.ref a)
end
end Vk
set_option Elab.async false
set_option maxRecDepth 100000
set_option maxHeartbeats 4000000
set_option linter.all false
namespace Vk
open PySem PySem.Spec PyProof.Rows L2 StX
/-! ## def f(self, *parts), with nothing under way -/
def FnRG (P : Program) (w : World) (K : PySem.W.Frag) (mg : Str → Option Value) (base : Heap) (CX : CXT) (k : Nat) (f : Addr) (sp : Sp) : Prop :=
  ∀ (A : Around) (outer : List Env) (s : Shared) (H : Hp) (us : List Value) (vs : List V) (Q : VK) (E : XK), A.guards = some [] → Room k A → Env0 P w K mg base A outer s H → Vals vs us → sp vs H Q E →
    codeAny (model P w) A (.call (.ref f) ⟨us, []⟩) (CR CX outer P w H s Q E) s
theorem passesF {X : Cx} : Passes (L2.CX X.prog X.w) X (fun _ _ _ => False) := by
  rintro pins σ H s e s' I ⟨a, B, H', cls, d, _, _, _, _, _, _, _, h⟩
  exact h.elim
section
variable {CX : CXT} {P : Program} {w : World} {K : PySem.W.Frag} {mg : Str → Option Value} {base : Heap} {k : Nat} {x qual : Str} {st : Stmt} {f : Addr} {fd : FuncData} {N ps : List Str} {sp : Sp}
end
section
variable {X : Cx} {CX : CXT} {k j : Nat} {C f : Addr} {sp : Sp} {E : XK} {x : Str} {p pos : Pos} {e : Expr} {es : List Expr} {t : TA}
theorem star_run {pins : List (Addr × Obj)} {σ : L2.St} {H : Hp} {s : Shared} {Q : VK} {us : List Value} {vs : List V} (M : L2.Mk X.K C f) (F : FnRG X.prog X.w X.K X.mg X.base CX k f sp) (hg : X.A.guards = some []) (hr : Room (k + 1) X.A) (hx : Passes CX X E) (I : Inv X pins σ H s) (r : Vals vs us) (q : Born C sp vs H Q E) :
    wpAny (model X.prog X.w) X.A (call (.ref C) us) (EP X pins σ Q) X.xe s := by
  have I2 := Inv.made (C := C) I
  have asked := q (s.heap.objs.size + 1) s.heap.objs.size (I.hok.fresh (Nat.le_succ _)) (I.hok.fresh (Nat.le_refl _)) (Nat.ne_of_lt (Nat.lt_succ_self _))
  refine wpAny_call (make_map (f := f) I.kIn M.makes M.init (beq_iff_eq.mp M.fn) (codeAny_mono (F _ X.stack _ _ (Value.ref (s.heap.objs.size + 1) :: us) (V.ref (s.heap.objs.size + 1) :: vs) _ E ?_ (hr.make C us []) (I2.env0.make C us []) (.cons rfl r) asked) fun res s3 hz => ?_))
  · first
      | exact hg
      | (simpa [Around.under, Code.isGuard, guardIds] using hg)
  · match res, hz with
    | .error er, hz => exact hx pins σ _ _ er s3 I2 hz
    | .ok (.ret u), hz =>
      obtain ⟨v, H2, I3, rv, ev, q3⟩ := I2.after hz
      subst ev
      exact ⟨rv, V.ref (s.heap.objs.size + 1), H2, I3, rfl, q3⟩
    | .ok .next, hz => exact hz.elim
    | .ok .brk, hz => exact hz.elim
    | .ok .cont, hz => exact hz.elim
def tStarI (C : Addr) (sp : Sp) (E : XK) (t : TA) : TE := fun σ H Q => t σ H fun vs H1 => Born C sp vs H1 Q E
theorem pe_starI (M : L2.Mk X.K C f) (F : FnRG X.prog X.w X.K X.mg X.base CX k f sp) (hg : X.A.guards = some []) (hr : Room j X.A) (hk : k + 1 ≤ j) (hm : X.mg x = some (.ref C)) (hx : Passes CX X E) (ha : PA X (e :: es) t) (gl : Gl X x := by rfl) (hdb : (x == ("__debug__" : Str)) = false := by decide)
    (he : starEach (e :: es) X.env = (false, eval e X.env) :: starEach es X.env := by rfl) (hpl : (backTo pos (starEach es X.env)).any (·.1) = false := by rfl) : PE X (.Call (.Name x p) (e :: es) [] pos) (tStarI C sp E t) := by
  refine ⟨fun pins s σ H Q I h => wpAny_Call_Name_kw (ld_glob I gl hm (PySem.W.callWith_K (h₀ := X.base) I.ok.mod.kin M.kp (thn (ha.run pos pins s σ H _ I h) fun us s1 hh => ?_) he hpl) hdb)⟩
  obtain ⟨vs, H1, I1, r, q⟩ := hh
  exact ⟨I1.kIn, star_run M F hg (hr.mono hk) hx I1 r q⟩
theorem pe_starI0 (M : L2.Mk X.K C f) (F : FnRG X.prog X.w X.K X.mg X.base CX k f sp) (hg : X.A.guards = some []) (hr : Room j X.A) (hk : k + 1 ≤ j) (hm : X.mg x = some (.ref C)) (hx : Passes CX X E) (gl : Gl X x := by rfl) (hdb : (x == ("__debug__" : Str)) = false := by decide) :
    PE X (.Call (.Name x p) [] [] pos) (tStarI C sp E tNil) :=
  ⟨fun pins s σ H Q I h => wpAny_Call_Name_kw (ld_glob I gl hm (PySem.W.callWith_K0 I.kIn M.kp (star_run M F hg (hr.mono hk) hx I .nil h)) hdb)⟩
end
theorem pg_tupK {X : Cx} {K : PySem.W.Frag} {es : List Expr} {k : Nat} {t : TGs} {n : Nat} {pos : Pos} (hK : X.K = K) (hc : X.calm = true) (h : PGs X es t)
    (hn : (assignEach es X.env).length = n := by rfl) (hst : (assignEach es X.env).findIdx? (·.1) = none := by rfl) : PG X (.Tuple es k pos) (gTup K n t) := hK ▸ pg_tup hc h hn hst
end Vk
set_option Elab.async false
set_option maxRecDepth 100000
set_option maxHeartbeats 4000000
set_option linter.all false
namespace Vk
open PySem PySem.Spec PyProof.Rows L2
/-! ## for i, x in enumerate(t), t a tuple -/
theorem enum_new1 (t : Addr) (items : Array Value) : Meets (Builtin.«enumerate.__new__» ⟨[.type "enumerate", .ref t], []⟩) (fun _ R s => s.heap.IsTuple t items ∧
    R (.ok (.ret (.ref (s.heap.push { cls := .type "tuple_iterator", data := .fields #[.ref t, .int 0 0] }).objs.size)))
      { s with heap := (s.heap.push { cls := .type "tuple_iterator", data := .fields #[.ref t, .int 0 0] }).push { cls := .type "enumerate", data := .fields #[.none, .bool false, .ref s.heap.objs.size, rawInt 0, .none, .none] } }) :=
  .of_wp fun prog w A R s h => by
    obtain ⟨hp, g, d, tk, os⟩ := s
    obtain ⟨isT, k⟩ := h
    have sub := sub_enumerate
    have it1 : ∀ {A1 : Around} {E1 : Value → Shared → Prop} {Q1 : Value → Shared → Prop}, Q1 (.ref hp.objs.size) ⟨hp.push { cls := .type "tuple_iterator", data := .fields #[.ref t, .int 0 0] }, g, d, tk, os⟩ → wpAny (model prog w) A1 (pyIter (.ref t)) Q1 E1 ⟨hp, g, d, tk, os⟩ := fun q => wpAny_pyIter_tuple isT q
    wp_walk
    refine wpAny_stack_any fun st => wpAny_pure ?_
    split
    · rename_i c _ _ _ _ _
      cases (c == Value.type "enumerate")
      · wp_walk using it1
        exact ⟨_, rfl, k⟩
      · wp_walk using it1
        exact ⟨_, rfl, k⟩
    · wp_walk using it1
      exact ⟨_, rfl, k⟩
section
variable {prog : Program} {w : World} {A : Around} {E : Value → Shared → Prop} {s : Shared}
theorem call_enumT {t : Addr} {items : Array Value} {Q : Value → Shared → Prop} (isT : s.heap.IsTuple t items)
    (h : ∀ h2, IsEnum h2 (s.heap.objs.size + 1) s.heap.objs.size 0 .none → h2.IsTupleIter s.heap.objs.size t 0 → (∀ b o, s.heap.get? b = some o → h2.get? b = some o) → Q (.ref (s.heap.objs.size + 1)) { s with heap := h2 }) :
    wpAny (model prog w) A (call (.type "enumerate") [.ref t]) Q E s := by
  refine callType_new F.called_enumerate (by decide) (F.typeCall_enumerate_1 _) (F.newCall_enumerate_1 _) (fun obj => F.args_object_init_2 obj _) F.entry_enumerate_new (enum_new1 t items) ⟨isT, ?_⟩
  have one : (s.heap.push { cls := .type "tuple_iterator", data := .fields #[.ref t, .int 0 0] }).objs.size = s.heap.objs.size + 1 := Heap.size_push ..
  show _ ∧ _
  rw [one]
  have at1 : IsEnum ((s.heap.push { cls := .type "tuple_iterator", data := .fields #[.ref t, .int 0 0] }).push
      { cls := .type "enumerate", data := .fields #[.none, .bool false, .ref s.heap.objs.size, rawInt 0, .none, .none] }) (s.heap.objs.size + 1) s.heap.objs.size 0 .none := by
    have z := Heap.get?_push_size (s.heap.push { cls := .type "tuple_iterator", data := .fields #[.ref t, .int 0 0] })
      (o := { cls := .type "enumerate", data := .fields #[.none, .bool false, .ref s.heap.objs.size, rawInt 0, .none, .none] }) rfl
    rw [one] at z
    exact z
  exact ⟨⟨_, at1, rfl⟩, h _ at1 ⟨_, Heap.get?_push_of_some _ (Heap.get?_push_size _ rfl), rfl, rfl⟩ fun b o z => Heap.get?_push_of_some _ (Heap.get?_push_of_some _ z)⟩
end
/-- the tuple at a, each item in a new pair -/
def Itet (a : Addr) : It :=
  ⟨fun i H => ∃ (xs : List V) (x : V), H a = some (.tup xs) ∧ xs[i]? = some x, fun i H v H' => ∃ T x xs, v = .ref T ∧ H T = none ∧ H' = upd H T (.tup [.int (i : Nat), x]) ∧ H a = some (.tup xs) ∧ xs[i]? = some x, fun i H => ∃ xs : List V, H a = some (.tup xs) ∧ xs.length = i⟩
theorem turn_enumT {P : Program} {w : World} {K : PySem.W.Frag} {elts : List Expr} {kk : Nat} {tpos : Pos} (a e it : Addr) :
    Turn P w K (.Tuple elts kk tpos) (Itet a) [e, it] e (fun i h => (∃ old, IsEnum h e it ((i : Nat) : Int) old) ∧ h.IsTupleIter it a i ∧ e ≠ it ∧ a ≠ it ∧ e ≠ a) where
  mem := by simp
  obj := fun i h st b hb => by
    obtain ⟨⟨old, he⟩, ⟨o, ho, hc, hd⟩, _⟩ := st
    rcases List.mem_cons.mp hb with z | z
    · exact z ▸ ⟨_, he, fun v q => nomatch q⟩
    · rw [List.mem_singleton] at z
      exact z ▸ ⟨o, ho, fun v q => by rw [hd] at q; cases q⟩
  keep := fun i h h' st k => by
    obtain ⟨⟨old, he⟩, hi, rest⟩ := st
    exact ⟨⟨old, k e List.mem_cons_self _ he⟩, hi.at fun o q => k it (List.mem_cons_of_mem _ List.mem_cons_self) o q, rest⟩
  item := by
    intro X hP hw hK hc i pins s σ H E I hf st hg
    subst hP hw hK
    obtain ⟨⟨old, he⟩, hit, hne, hat, hea⟩ := st
    obtain ⟨xs, x, hq, hx⟩ := hg
    obtain ⟨its, rv, isT, hz⟩ := I.tuple (SqT.of hq)
    obtain ⟨u, hu, ru⟩ := rv.get hx
    have lt : i < its.toArray.size := by
      have := (List.getElem?_eq_some_iff.mp hu).1
      simpa using this
    have big1 : e < s.heap.objs.size := Heap.lt_size he
    have big2 : it < s.heap.objs.size := by obtain ⟨_, q, _⟩ := hit; exact Heap.lt_size q
    refine wpAny_pyNext_enum_itemD (Draws.tuple (A := X.A.in1) (I.ok.hd hc) it a hat its.toArray) he ⟨hit, isT⟩ lt hne (by simp [hne, hea]) fun u2 h2 tk hu2 ho st2 hT hsz hk => ?_
    obtain ⟨hit2, _⟩ := st2
    have eu : u2 = u := by
      have q := hu2
      simp only [List.getElem?_toArray] at q
      rw [hu] at q
      exact (Option.some.inj q).symm
    subst eu
    refine ⟨_, rfl, wpAny_letOwnedTupleGo_enum (s := { s with heap := h2, toks := tk + 1 }) ho fun h3 he3 sb => ?_⟩
    have hT3 : h3.get? s.heap.objs.size = some { cls := .type "tuple", data := .seq #[.int i tk, u2] } := (sb.2 _ (Nat.ne_of_gt big1)).trans hT
    have laid : ObjOk X.prog X.w (upd H s.heap.objs.size (.tup [.int (i : Nat), x])) h3 s.heap.objs.size (.tup [.int (i : Nat), x]) := ⟨few_len (Nat.le_of_ble_eq_true rfl), [.int i tk, u2], .cons ⟨_, rfl⟩ (.cons ru .nil), ⟨_, hT3, rfl, _, rfl⟩⟩
    have I1 : Inv X pins σ (upd H s.heap.objs.size (.tup [.int (i : Nat), x])) { s with heap := h3, toks := tk + 1 } :=
      I.turnedNew (ch := [e, it]) (fun b ob hb q => (sb.2 b (fun z => hb (by simp [z]))).trans (hk b ob (fun z => hb (by simp [z])) (fun z => hb (by simp [z])) q)) hf (Nat.le_refl _) laid
    refine ⟨.ref s.heap.objs.size, _, I1, rfl, ⟨_, x, xs, rfl, I.hok.fresh (Nat.le_refl _), rfl, hq, hx⟩, ⟨⟨u2, ?_⟩, hit2.at fun o q => (sb.2 it (Ne.symm hne)).trans q, hne, hat, hea⟩, fun b hb => ?_⟩
    · rw [show ((i + 1 : Nat) : Int) = (i : Int) + 1 by omega]
      exact he3
    · have old1 : b < s.heap.objs.size := by
        rcases List.mem_cons.mp hb with z | z
        · exact z ▸ big1
        · rw [List.mem_singleton] at z
          exact z ▸ big2
      exact (upd_ne (Nat.ne_of_lt old1)).trans (hf b hb).1
  done := by
    intro X hP hw hK hc i pins s σ H E I hf st hg
    subst hP hw hK
    obtain ⟨⟨old, he⟩, hit, hne, hat, hea⟩ := st
    obtain ⟨xs, hq, hx⟩ := hg
    obtain ⟨its, rv, isT, hz⟩ := I.tuple (SqT.of hq)
    obtain ⟨f0, f1, f2, f3, f4, f5⟩ := hf it (List.mem_cons_of_mem _ List.mem_cons_self)
    have le : i = its.toArray.size := by rw [← hx, rv.length, List.size_toArray]
    exact wpAny_pyNext_enum_endD (Draws.tuple (A := X.A.in1) (I.ok.hd hc) it a hat its.toArray) he ⟨le ▸ hit, isT⟩ fun h' eb => ⟨rfl, I.turned (t' := s.toks) (fun b o hb q => eb b o hb q) f0 f1 f3 f4 f5⟩
  self := fun A i s Q E st h => let ⟨⟨_, he⟩, _⟩ := st; wpAny_pyIter_enum he h
def iEnumT (ta : TA) : TI := fun σ H R => ta σ H fun vs H1 => ∃ a xs, vs = [.ref a] ∧ H1 a = some (.tup xs) ∧ R (Itet a) H1
theorem pi_enumT {X : Cx} {e : Expr} {ta : TA} {p pos tpos : Pos} {elts : List Expr} {kk : Nat} (gl : Gl X "enumerate") (hm : X.mg "enumerate" = none) (ha : PA X [e] ta) (hs : starEach [e] X.env = [(false, eval e X.env)] := by rfl) :
    PI X (.Tuple elts kk tpos) (.Call (.Name "enumerate" p) [e] [] pos) (iEnumT ta) := by
  refine ⟨fun pins s σ H R I h => Call_ (ld_blt I gl hm boot_enumerate (PyProof.Rows.callWith_type1 (thn (ha.run pos pins s σ H _ I h) fun us s1 hh => ?_) hs rfl))⟩
  obtain ⟨vs, H1, I1, r1, a, xs, rfl, hq, q⟩ := hh
  obtain ⟨u, rfl, ru⟩ := r1.one
  cases (show u = Value.ref a from ru)
  obtain ⟨its, rv, isT, hz⟩ := I1.tuple (SqT.of hq)
  have lta : a < s1.heap.objs.size := by obtain ⟨o, ho, _⟩ := isT; exact Heap.lt_size ho
  refine call_enumT isT fun h2 he hit hk => wpAny_pyIter_enum he ?_
  have I2 : Inv X pins σ H1 { s1 with heap := h2 } := I1.kept (t' := s1.toks) hk
  refine ⟨s1.heap.objs.size + 1, [s1.heap.objs.size + 1, s1.heap.objs.size], _, _, H1, rfl, I2, turn_enumT a (s1.heap.objs.size + 1) s1.heap.objs.size, ⟨⟨.none, he⟩, hit, Nat.succ_ne_self _, Nat.ne_of_lt lta, Nat.ne_of_gt (Nat.lt_succ_of_lt lta)⟩, fun b hb => ?_, q⟩
  have le : s1.heap.objs.size ≤ b := by
    rcases List.mem_cons.mp hb with z | z
    · rw [z]; exact Nat.le_succ _
    · rw [List.mem_singleton.mp z]; exact Nat.le_refl _
  exact I1.fpOk le (I1.hok.fresh le)
end Vk
set_option Elab.async false
set_option maxRecDepth 100000
set_option maxHeartbeats 4000000
set_option linter.all false
namespace Vk
open PySem PySem.Spec PyProof.Rows L2
/-- what repr asks -/
def Shn (d : PyData) : Prop := d.showable = true ∧ d.depth ≤ 60 ∧ d.shown.length ≤ sizeLine
/-- .. with room for a list around -/
def Shs (d : PyData) : Prop := d.showable = true ∧ d.depth ≤ 59 ∧ d.shown.length ≤ 100000 ∧ PyData.strOk d.shown = true
theorem Shs.shn {d : PyData} (h : Shs d) : Shn d := ⟨h.1, Nat.le_succ_of_le h.2.1, Nat.le_trans h.2.2.1 (by rw [sizeLine_eq]; decide)⟩
section
variable {X : Cx}
/-- e.f, a property, e an instance of one of some classes -/
structure PrI (P : Program) (w : World) (K : PySem.W.Frag) (mg : Str → Option Value) (base : Heap) (k : Nat) (C : Addr) (f fa : Str) : Prop where
  ex : ∃ (p g : Addr) (fd : FuncData), Cls K C ∧ PropOf K C f p g ∧ FnOk P w K mg base CX0 k g fd ["self"] (getSp C fa) ∧ Binds K fd ["self"] []
def tPropN (N : Nat) (Cs : Nat → Addr) (fa : Str) (ta : TE) : TE := fun σ H Q => ta σ H fun x H1 => ∃ n a dx fs v, n < N ∧ x = .ref a ∧ H1 a = some (.ins (Cs n) dx fs) ∧ fs.lookup fa = some v ∧ Q v H1
theorem pe_propN {N : Nat} {Cs : Nat → Addr} {f fa : Str} {k j : Nat} {e : Expr} {ta : TE} {pos : Pos} (he : PE X e ta) (h : ∀ n, n < N → PrI X.prog X.w X.K X.mg X.base k (Cs n) f fa) (hr : Room j X.A) (hk : k + 1 ≤ j) (hab : attributeBase e f X.env (eval e X.env) = eval e X.env := by rfl) :
    PE X (.Attribute e f pos) (tPropN N Cs fa ta) := by
  refine ⟨fun pins s σ H Q I hh => attr_of hab (thn (he.run pins s σ H _ I hh) fun u s1 q1 => ?_)⟩
  obtain ⟨x, H1, I1, rx, n, a, dx, fs, v, hn, rfl, ea, l, q⟩ := q1
  obtain ⟨p, g, fd, c, hp, F, hb⟩ := (h n hn).ex
  cases (show u = Value.ref a from rx)
  exact getprop_ok (ds := []) (dvs := []) (E := E0) I1 ea c hp F (hr.mono hk) hb .nil (fun _ _ _ _ _ _ _ z => z.elim) ⟨a, dx, fs, v, rfl, ea, l, q⟩
end
end Vk
set_option Elab.async false
set_option maxRecDepth 100000
set_option maxHeartbeats 4000000
set_option linter.all false
namespace Vk
open L2 PySem PySem.Spec PyProof.Rows
/-! ## lstrip leaves nothing of a string exactly if all its signs are to be stripped -/
theorem take_all {α : Type} (g : α → Bool) : ∀ l : List α, (l.takeWhile g).length = l.length ↔ l.all g = true
  | [] => by simp
  | a :: r => by
    rw [List.takeWhile_cons, List.all_cons]
    cases h : g a with
    | true =>
      rw [if_pos rfl, List.length_cons, List.length_cons, Bool.true_and]
      exact ⟨fun z => (take_all g r).mp (Nat.succ.inj z), fun z => congrArg Nat.succ ((take_all g r).mpr z)⟩
    | false =>
      rw [if_neg (by decide)]
      simp
theorem take_le {α : Type} (g : α → Bool) : ∀ l : List α, (l.takeWhile g).length ≤ l.length
  | [] => Nat.le_refl _
  | a :: r => by
    rw [List.takeWhile_cons]
    split
    · exact Nat.succ_le_succ (take_le g r)
    · exact Nat.zero_le _
theorem str_empty {z : Str} : z = "" ↔ z.cps.toList = [] := by
  constructor
  · rintro rfl
    rfl
  · intro h
    cases z with
    | mk c =>
      have e : c = #[] := by simpa using h
      subst e
      rfl
theorem lstrip_all {z y : Str} : Txt.lstripChars z y = "" ↔ z.cps.toList.all y.cps.contains = true := by
  unfold Txt.lstripChars Txt.stripBy
  have len : z.length = z.cps.toList.length := by simp [Str.length]
  have lo : stripLo y.cps.contains true z = (z.cps.toList.takeWhile y.cps.contains).length := rfl
  have hi : ∀ n, stripHi y.cps.contains false z n = z.length := fun n => rfl
  rw [← take_all]
  by_cases h0 : (z.cps.toList.takeWhile y.cps.contains).length = 0
  · have same : stripSame y.cps.contains true false z = true := by
      unfold stripSame
      rw [hi, lo, h0]
      simp
    rw [if_pos same, str_empty, h0]
    exact ⟨fun e => by rw [e]; rfl, fun e => List.length_eq_zero_iff.mp e.symm⟩
  · have same : ¬ (stripSame y.cps.contains true false z = true) := by
      unfold stripSame
      rw [hi, lo]
      simpa using fun e => absurd (by simpa using e) h0
    rw [if_neg same, str_empty]
    have sub : (stripped y.cps.contains true false z).cps.toList = z.cps.toList.drop (z.cps.toList.takeWhile y.cps.contains).length := by
      unfold stripped
      rw [hi, lo]
      show ((z.cps.extract _ z.length).toList) = _
      rw [Array.toList_extract, List.extract_eq_drop_take, len]
      rw [List.take_of_length_le (by rw [List.length_drop]; exact Nat.le_refl _)]
    rw [sub, List.drop_eq_nil_iff]
    have le := take_le y.cps.contains z.cps.toList
    exact ⟨fun e => Nat.le_antisymm le e, fun e => Nat.le_of_eq e.symm⟩
end Vk
namespace Vk
open L2 PySem PySem.Spec PyProof.Rows
/-- a comprehension over the signs of a string -/
theorem lc_str {z : Str} {g : TG} {tt : TT} {te : TE} {vs : List Nat} {σ : L2.St} {H1 : Hp} {D : Addr} {Qd : Hp → Prop} (Pv : Nat → Hp → Prop) (h0 : Pv 0 (upd H1 D (.lst [])))
    (hs : ∀ i c H, z.cps[i]? = some c → Pv i H → g (.str ⟨#[c]⟩) (wipe σ vs) H fun σ2 H2 => wipe σ2 vs = wipe σ vs ∧ tt σ2 H2 fun b H3 =>
      if b = true then te σ2 H3 fun y H4 => ∃ acc, H4 D = some (.lst acc) ∧ acc.length < sizeLine ∧ Pv (i + 1) (upd H4 D (.lst (acc ++ [y]))) else Pv (i + 1) H3) (hd : ∀ H, Pv z.cps.size H → Qd H) :
    ∃ W : Nat → Nat → Hp → Prop, (∃ m, W 0 m (upd H1 D (.lst []))) ∧ ∀ i m H, W i m H →
      ((Its z).stop i H ∧ Qd H) ∨ ((Its z).go i H ∧ ∃ Nx : Hp → Prop, (∀ H', Nx H' → ∃ m', m' < m ∧ W (i + 1) m' H') ∧ ∀ x H', (Its z).yld i H x H' → g x (wipe σ vs) H' fun σ2 H2 => wipe σ2 vs = wipe σ vs ∧ tt σ2 H2 fun b H3 =>
        if b = true then te σ2 H3 fun y H4 => ∃ acc, H4 D = some (.lst acc) ∧ acc.length < sizeLine ∧ Nx (upd H4 D (.lst (acc ++ [y]))) else Nx H3) := by
  refine ⟨fun i m H => m = z.cps.size - i ∧ i ≤ z.cps.size ∧ Pv i H, ⟨z.cps.size, rfl, Nat.zero_le _, h0⟩, ?_⟩
  rintro i m H ⟨rfl, hi, p⟩
  by_cases lt : i < z.cps.size
  · refine .inr ⟨lt, Pv (i + 1), fun H2 p2 => ⟨z.cps.size - (i + 1), by omega, rfl, lt, p2⟩, fun v H2 w => ?_⟩
    obtain ⟨rfl, c, hc, rfl⟩ := w
    exact hs i c _ hc p
  · have e : i = z.cps.size := by omega
    subst e
    exact .inl ⟨Nat.le_refl _, hd H p⟩
end Vk
set_option Elab.async false
set_option maxRecDepth 100000
set_option maxHeartbeats 4000000
set_option linter.all false
namespace Vk
open PySem PySem.Spec PyProof.Rows L2 LamX
/-! ## the law's own call, one def of the text makes lambdas (its code object c, its table P) -/
theorem const_i {p : Program} {loose : List Str} {mean : ExcName → Option Value} {mg mb : Str → Option Value} {h : Heap} (T : PyProof.Rows.Top p loose mean mg mb h) {x : Str} {i : Int} (e : PyProof.Rows.valOf p x = some (.int i)) : ∃ u, mg x = some u ∧ RelV (.int i) u := by
  obtain ⟨v, hv, r⟩ := T.const x _ e
  cases r h with
  | int i t => exact ⟨_, hv, ⟨t, rfl⟩⟩
theorem const_s {p : Program} {loose : List Str} {mean : ExcName → Option Value} {mg mb : Str → Option Value} {h : Heap} (T : PyProof.Rows.Top p loose mean mg mb h) {x z : Str} (e : PyProof.Rows.valOf p x = some (.str z)) : ∃ u, mg x = some u ∧ RelV (.str z) u := by
  obtain ⟨v, hv, r⟩ := T.const x _ e
  cases r h with
  | str i t => exact ⟨_, hv, ⟨t, rfl⟩⟩
end Vk
set_option Elab.async false
set_option maxRecDepth 100000
set_option maxHeartbeats 4000000
set_option linter.all false
namespace Vk
open PySem PySem.Spec PyProof.Rows L2 LamX
/-! ## where the modules are told lies a dict -/
section
variable {X : Cx} {pins : List (Addr × Obj)} {σ : L2.St} {H : Hp} {s : Shared}
end
/-! ## == of a list and the empty list -/
section
open Builtin
theorem list_far {prog : Program} {w : World} {A : Around} {s : Shared} {l b : Addr} {items items2 : Array Value} (hl : s.heap.IsList l items) (hb : s.heap.IsList b items2) (hsz : items.size ≠ items2.size) (hu : A.units < cLine) (E Q : Value → Shared → Prop)
    (h : Q (.bool false) s) : wpAny (model prog w) A (richCompare .Eq (.ref l) (.ref b)) Q E s := by
  obtain ⟨⟨cls, dd, data, sl⟩, ho, hc, n, hd⟩ := id hl
  obtain ⟨⟨cls2, dd2, data2, sl2⟩, ho2, hc2, n2, hd2⟩ := id hb
  simp only at hc hd hc2 hd2
  subst hc hd hc2 hd2
  have ta : s.TypeIs (.ref l) "list" := ⟨_, ho, rfl⟩
  have tb : s.TypeIs (.ref b) "list" := ⟨_, ho2, rfl⟩
  refine wpAny_richCompare_same_room (op := .Eq) ta tb F.slot_list_eq (GQ.call_here F.slot_list_eq ta F.entry_list_eq (F.args_list_eq_2 _ _) ?_) hu
  have f3 := AutoSeq1.sub_list_list
  have hne : (items.size != items2.size) = true := by simpa using hsz
  obtain ⟨hp, g, d, tk, os⟩ := s
  wp_walk using AutoSeq1.wpAny_loadPart' ho, AutoSeq1.wpAny_loadPart' ho2
  exact ⟨(fun x => nomatch x), h⟩
end
def rEqNil (K : PySem.W.Frag) : R2 := fun x y H Q => ∃ a xs b, x = .ref a ∧ y = .ref b ∧ SqL K H a xs ∧ SqL K H b [] ∧ Q (.bl (decide (xs.length = 0))) H
theorem op_eqNil {X : Cx} (hu : X.A.units + 64 < cLine) : OpR X (compareOp .Eq) (rEqNil X.K) := by
  intro pins s σ H x y v u Q I rx ry h
  obtain ⟨a, xs, b, rfl, rfl, ha, hb, q⟩ := h
  cases (show v = Value.ref a from rx)
  cases (show u = Value.ref b from ry)
  obtain ⟨us, r1, p1, _⟩ := I.list ha
  obtain ⟨ws, r2, p2, _⟩ := I.list hb
  cases r2
  show wpAny (model X.prog X.w) X.A (richCompare .Eq (.ref a) (.ref b)) (EP X pins σ Q) X.xe s
  cases xs with
  | nil =>
    cases r1
    exact SeqAt.rcP_lists (e := fun _ => true) p1.isList p2.isList rfl (by omega) (fun j h1 h2 => absurd h1 (by simp)) _ _ ⟨.bl true, H, I, rfl, q⟩
  | cons y ys =>
    cases r1 with
    | cons r rs => exact list_far p1.isList p2.isList (by simp) (by omega) _ _ ⟨.bl false, H, I, rfl, q⟩
/-! ## the law's own call, one def of the text makes lambdas (its code object c, its table P) -/
end Vk
set_option Elab.async false
set_option maxRecDepth 100000
set_option maxHeartbeats 4000000
set_option linter.all false
namespace Vk
open L2 PySem PySem.Spec PyProof.Rows PySem.VkX
/-! ## what is made is new -/
def New (H : Hp) (v : V) : Prop := ∀ b, v = .ref b → H b = none
theorem New.same {H H1 : Hp} {v : V} (n : New H1 v) (s : Same H H1) : New H v := fun b e => by
  match q : H b with
  | none => rfl
  | some o => exact nomatch (s b o q).symm.trans (n b e)
theorem New.ext {H H1 : Hp} {v : V} {p c : Addr} {T : Nat} (n : New H1 v) (x : Ext p H H1) (P : Pen H1 p c T) : New H v := fun b e => by
  match q : H b with
  | none => rfl
  | some o =>
    obtain ⟨t, l, hp⟩ := P.is
    by_cases hb : b = p
    · rw [hb] at e
      exact nomatch hp.symm.trans (n p e)
    · exact nomatch (x b o q hb).symm.trans (n b e)
theorem Atm.new {H : Hp} {v : V} {d : PyData} (a : Atm v d) : New H v := fun b e => by
  subst e
  cases a
theorem New.ne {H : Hp} {v : V} {D : Addr} {o : HO} (n : New H v) (h : H D = some o) : v ≠ .ref D := fun e => nomatch h.symm.trans (n D e)
theorem Th.at {H : Hp} {v : V} {d : PyData} {D : Addr} {o : HO} (h : Th H v d) (n : v ≠ .ref D) : Th (upd H D o) v d := by
  cases h with
  | atm a => exact .atm a
  | @lst a xs ds e ne p => exact .lst ((upd_ne fun z => n (congrArg V.ref z)).trans e) ne p
  | @tup a xs ds e p => exact .tup ((upd_ne fun z => n (congrArg V.ref z)).trans e) p
  | @dct a ps e => exact .dct ((upd_ne fun z => n (congrArg V.ref z)).trans e)
section
variable {t te : TE} {ta : TA} {d : PyData} {ds : List PyData}
end
end Vk
set_option Elab.async false
set_option maxRecDepth 100000
set_option linter.all false
namespace Vk
open PySem PySem.Spec PyProof.Rows L2
/-! ## lists whose items stand for items of another list -/
theorem paired_at {α β : Type} {R : α → β → Prop} : ∀ {xs : List α} {ys : List β} {i : Nat} {x : α}, Paired R xs ys → xs[i]? = some x → ∃ y, ys[i]? = some y ∧ R x y
  | _, _, 0, _, .cons a t, h => by cases h; exact ⟨_, rfl, a⟩
  | _, _, i + 1, _, .cons a t, h => paired_at (i := i) t h
theorem drop_at {α : Type} : ∀ {l : List α} {i : Nat} {x : α}, l[i]? = some x → l.drop i = x :: l.drop (i + 1)
  | a :: l, 0, x, h => by cases h; rfl
  | a :: l, i + 1, x, h => by simpa using drop_at (l := l) (i := i) (x := x) (by simpa using h)
end Vk
set_option Elab.async false
set_option maxRecDepth 100000
set_option maxHeartbeats 4000000
set_option linter.all false
namespace Vk
open PySem PySem.Spec PyProof.Rows L2
theorem fewL {n : Nat} (h : n ≤ 100000) : n < sizeLine := Nat.lt_of_le_of_lt h (by rw [sizeLine_eq]; decide)
theorem pair_mono {α β : Type} {R S : α → β → Prop} (h : ∀ a b, R a b → S a b) : ∀ {xs : List α} {ys : List β}, Paired R xs ys → Paired S xs ys
  | _, _, .nil => .nil
  | _, _, .cons a t => .cons (h _ _ a) (pair_mono h t)
theorem upd_list {H : Hp} {l : Addr} {xs : List V} {o : HO} (h : H l = some (.lst xs)) (u : Addr) (ws : List V) (hu : H u = some (.tup ws)) : (upd H l o) u = some (.tup ws) := by
  rw [upd_ne (fun e => by rw [e, h] at hu; cases hu)]
  exact hu
theorem upd_out {H H1 : Hp} {l : Addr} {o : HO} (hl : H l = none) (s : Same H H1) : Same H (upd H1 l o) := fun b o2 h => by
  rw [upd_ne (ne_of_none h hl)]
  exact s _ _ h
theorem cut_ab {x : Str} {a b : Nat} (h1 : a ≤ b) (h2 : b ≤ x.length) : cutS x (some (a : Int)) (some (b : Int)) = ⟨((x.cps.toList.drop a).take (b - a)).toArray⟩ := by
  unfold cutS
  rw [HT.sIx_nat, HT.sIx_nat, Nat.min_eq_left h2, Nat.min_eq_left (Nat.le_trans h1 h2)]
/-- pairs of numbers -/
def PrN (H : Hp) : List V → List (Nat × Nat) → Prop := Paired (fun v (p : Nat × Nat) => ∃ t, v = V.ref t ∧ H t = some (.tup [.int (p.1 : Nat), .int (p.2 : Nat)]))
theorem PrN.keep {H H1 : Hp} {xs : List V} {ps : List (Nat × Nat)} (h : PrN H xs ps) (s : Same H H1) : PrN H1 xs ps := pair_mono (fun v p ⟨t, e, ht⟩ => ⟨t, e, s _ _ ht⟩) h
theorem PrN.keepT {H H1 : Hp} {xs : List V} {ps : List (Nat × Nat)} (h : PrN H xs ps) (s : ∀ u ws, H u = some (.tup ws) → H1 u = some (.tup ws)) : PrN H1 xs ps := pair_mono (fun v p ⟨t, e, ht⟩ => ⟨t, e, s _ _ ht⟩) h
/-! ## windows -/
/-- the least end of a window from a that stands once; behind the text if there is none -/
theorem cutV_take {xs : List V} {k : Nat} : cutV xs none (some (k : Int)) = xs.take k := by
  unfold cutV
  rw [HT.sIx_none, HT.sIx_nat]
  simp
theorem cut_to {x : Str} {a : Nat} : (cutS x none (some (a : Int))).cps.toList = x.cps.toList.take a := by
  show ((x.cps.toList.drop (HT.sIx x.length 0 none)).take (HT.sIx x.length x.length (some (a : Int)) - HT.sIx x.length 0 none)).toArray.toList = _
  have lx : x.cps.toList.length = x.length := Array.length_toList
  rw [HT.sIx_none, HT.sIx_nat, Nat.sub_zero, List.drop_zero, List.toList_toArray]
  by_cases h : a ≤ x.length
  · rw [Nat.min_eq_left h]
  · rw [Nat.min_eq_right (by omega), List.take_of_length_le (by omega), List.take_of_length_le (by omega)]
theorem cut_from {x : Str} {a : Nat} : (cutS x (some (a : Int)) none).cps.toList = x.cps.toList.drop a := by
  show ((x.cps.toList.drop (HT.sIx x.length 0 (some (a : Int)))).take (HT.sIx x.length x.length none - HT.sIx x.length 0 (some (a : Int)))).toArray.toList = _
  have lx : x.cps.toList.length = x.length := Array.length_toList
  rw [HT.sIx_none, HT.sIx_nat, List.toList_toArray]
  by_cases h : a ≤ x.length
  · rw [Nat.min_eq_left h, List.take_of_length_le (by rw [List.length_drop]; omega)]
  · rw [Nat.min_eq_right (by omega), Nat.sub_self, List.take_zero, List.drop_of_length_le (by omega)]
theorem ok_letters {x : Str} (h : ∀ c ∈ x.cps.toList, c ∈ letS.cps.toList) : PyData.strOk x = true := by
  have all : ∀ c ∈ letS.cps.toList, c < 0x110000 := by decide +kernel
  show x.cps.all (· < 0x110000) = true
  rw [Array.all_eq_true_iff_forall_mem]
  intro c hc
  simpa using all c (h c (by simpa using hc))
theorem more_list {z y : Str} : (z ++ y).cps.toList = z.cps.toList ++ y.cps.toList := by
  show (z.cps ++ y.cps).toList = _
  simp
end Vk
set_option Elab.async false
set_option maxRecDepth 100000
set_option linter.all false
namespace Vk
open PySem PySem.Spec PyProof.Rows L2
def top (i : Nat) : Stmt := PySem.Challenge.pw_anchoredits_k86_whole_equal_however_cut.main.body.getD i (.Pass ⟨0, 0, 0, 0⟩)
structure Txt (mg : Str → Option Value) : Prop where
  str : mg "str" = none
  tuple : mg "tuple" = none
  enumerate : mg "enumerate" = none
  bool : mg "bool" = none
  sum : mg "sum" = none
  max : mg "max" = none
  ValueError : mg "ValueError" = none
  len : mg "len" = none
  list : mg "list" = none
  int : mg "int" = none
  abs : mg "abs" = none
  range : mg "range" = none
  min : mg "min" = none
  repr : mg "repr" = none
  reversed : mg "reversed" = none
  isinstance : mg "isinstance" = none
section
variable {P : Program} {w : World} {K : PySem.W.Frag} {mg : Str → Option Value} {base : Heap}
def isStr : PyData → Bool
  | .str _ => true
  | _ => false
theorem kit_str {H : Hp} {v : V} {d : PyData} (h : Th H v d) : ∃ t b, TyX K H v t ∧ PySem.W.kitOne K t (.type "str") = some b ∧ b = isStr d := by
  cases h with
  | atm a => cases a with
    | non => exact ⟨.type "NoneType", false, .base .non, kit_ty (by decide +kernel), rfl⟩
    | bl b => exact ⟨.type "bool", false, .base (.bl b), kit_ty (by decide +kernel), rfl⟩
    | int i => exact ⟨.type "int", false, .base (.int i), kit_ty (by decide +kernel), rfl⟩
    | str x => exact ⟨.type "str", true, .base (.str x), kit_ty (by decide +kernel), rfl⟩
  | lst e _ _ => exact ⟨.type "list", false, .base (.lst e), kit_ty (by decide +kernel), rfl⟩
  | tup e _ => exact ⟨.type "tuple", false, .base (.tup e), kit_ty (by decide +kernel), rfl⟩
  | dct e => exact ⟨.type "dict", false, .base (.dK e), kit_ty (by decide +kernel), rfl⟩
/-- a text: a string of letters -/
def isT : PyData → Bool
  | .str z => decide (V.str (Txt.lstripChars z letS) = V.str "")
  | _ => false
def isNew (d : PyData) : Bool := isT d && match d with | .str z => decide ((z.length : Int) ≤ 40) | _ => false
def isOld (d : PyData) : Bool := isNew d && match d with | .str z => !decide (V.str z = V.str "") | _ => false
/-- strings of values are short -/
def Srt (d : PyData) : Prop := match d with | .str z => z.length ≤ 1000 ∧ PyData.strOk z = true | _ => True
def spTest (f : PyData → Bool) : Sp := fun vs H Q _ => ∃ v d, vs = [v] ∧ Th H v d ∧ Srt d ∧ Q (.bl (f d)) H
abbrev s_is_text : Stmt := top 9
theorem sc_is_text : FnScope ["value"] ["value"] (defScope s_is_text) := ⟨rfl, rfl, rfl, by decide +kernel, rfl, by decide +kernel, by decide +kernel⟩
theorem b_is_text {f : Addr} {fd : FuncData} (F : Fun K "is_text" "is_text" s_is_text f fd) (T : Txt mg) (g_LETTERS : ∃ u, mg "LETTERS" = some u ∧ RelV (.str letS) u) : FnG P w K mg base CX0 1 f fd ["value"] (spTest isT) := by
  refine okG0 F sc_is_text (fun vs H Q E h => ?_) (fun cdv A outer s H vs Q E hg hr h => ?_)
  · obtain ⟨v, d, rfl, _⟩ := h
    rfl
  · have hu := hu_of hr
    have hu64 := hr.units
    obtain ⟨v, d, rfl, th, sr, k⟩ := h
    obtain ⟨t, b, ty, kt, hb⟩ := kit_str (K := K) th
    refine ⟨_, (pss_one (ps_ret (pe_and (pe_callB call_isi (by rfl) T.isinstance (by decide +kernel) (pa_cons (pv 0) (pa_cons (pe_bltn (v := .ty "str") (by rfl) T.str rfl rfl) pa_nil))) (pe_one (pe_cmpR op_eq (pe_bm PySem.F.plainAttrs_str PySem.F.slot_str_lstrip PySem.F.type_str_lstrip mt_lstripChars (pv 0) (pa_cons (C8.pe_gc (by rfl) g_LETTERS) pa_nil)) pe_str (nomark _)))))), ?_⟩
    refine ⟨_, rfl, v, .ty "str", t, .type "str", b, rfl, .ty "str", ty, kt, _, rfl, ?_⟩
    cases th with
    | atm a =>
      cases a with
      | str x =>
        subst hb
        refine iteT ⟨_, rfl, rfl, x, _, rfl, rfl, few_len sr.1, rfl, ?_⟩
        exact k
      | _ => subst hb; exact iteF k
    | _ => subst hb; exact iteF k

theorem isT_str {d : PyData} (h : isT d = true) : ∃ z, d = .str z := by
  cases d with
  | str z => exact ⟨z, rfl⟩
  | _ => cases h
theorem isNew_str {d : PyData} (h : isNew d = true) : ∃ z, d = .str z := by
  refine isT_str ?_
  unfold isNew at h
  rw [Bool.and_eq_true] at h
  exact h.1
theorem th_str {H : Hp} {v : V} {z : Str} (h : Th H v (.str z)) : v = .str z := by
  cases h with
  | atm a => cases a; rfl
theorem isT_all {z : Str} : isT (.str z) = z.cps.toList.all letS.cps.contains := by
  unfold isT
  rw [Bool.eq_iff_iff, ← lstrip_all]
  simp
abbrev s_lsigns : Stmt := top 42
theorem sc_lsigns : FnScope [] [] (defScope s_lsigns) := ⟨rfl, rfl, rfl, by decide +kernel, rfl, by decide +kernel, by decide +kernel⟩
theorem b_lsigns {f : Addr} {fd : FuncData} (F : Fun K "_law_signs" "_law_signs" s_lsigns f fd) (T : Txt mg) : FnG P w K mg base CX0 1 f fd [] spSigns := by
  refine okG0 F sc_lsigns (fun vs H Q E h => ?_) (fun cdv A outer s H vs Q E hg hr h => ?_)
  · obtain ⟨rfl, _⟩ := h
    rfl
  · have hu := hu_of hr
    have hu64 := hr.units
    obtain ⟨rfl, k⟩ := h
    exact ⟨_, (pss_one (ps_ret pe_str)), k⟩

def isIntB : PyData → Bool
  | .int _ => true
  | _ => false
theorem kit_int {H : Hp} {v : V} {d : PyData} (h : Th H v d) : ∃ t b c, TyX K H v t ∧ PySem.W.kitOne K t (.type "int") = some b ∧ PySem.W.kitOne K t (.type "bool") = some c ∧ (b && !c) = isIntB d ∧ (isIntB d = false → b = true → c = true) := by
  cases h with
  | atm a => cases a with
    | non => exact ⟨.type "NoneType", false, false, .base .non, kit_ty (by decide +kernel), kit_ty (by decide +kernel), rfl, fun _ z => nomatch z⟩
    | bl b => exact ⟨.type "bool", true, true, .base (.bl b), kit_ty (by decide +kernel), kit_ty (by decide +kernel), rfl, fun _ _ => rfl⟩
    | int i => exact ⟨.type "int", true, false, .base (.int i), kit_ty (by decide +kernel), kit_ty (by decide +kernel), rfl, fun z => nomatch z⟩
    | str x => exact ⟨.type "str", false, false, .base (.str x), kit_ty (by decide +kernel), kit_ty (by decide +kernel), rfl, fun _ z => nomatch z⟩
  | lst e _ _ => exact ⟨.type "list", false, false, .base (.lst e), kit_ty (by decide +kernel), kit_ty (by decide +kernel), rfl, fun _ z => nomatch z⟩
  | tup e _ => exact ⟨.type "tuple", false, false, .base (.tup e), kit_ty (by decide +kernel), kit_ty (by decide +kernel), rfl, fun _ z => nomatch z⟩
  | dct e => exact ⟨.type "dict", false, false, .base (.dK e), kit_ty (by decide +kernel), kit_ty (by decide +kernel), rfl, fun _ z => nomatch z⟩
theorem kit_tup {H : Hp} {v : V} {d : PyData} (h : Th H v d) : ∃ t b, TyX K H v t ∧ PySem.W.kitOne K t (.type "tuple") = some b ∧ b = (match d with | .tuple _ => true | _ => false) := by
  cases h with
  | atm a => cases a with
    | non => exact ⟨.type "NoneType", false, .base .non, kit_ty (by decide +kernel), rfl⟩
    | bl b => exact ⟨.type "bool", false, .base (.bl b), kit_ty (by decide +kernel), rfl⟩
    | int i => exact ⟨.type "int", false, .base (.int i), kit_ty (by decide +kernel), rfl⟩
    | str x => exact ⟨.type "str", false, .base (.str x), kit_ty (by decide +kernel), rfl⟩
  | lst e _ _ => exact ⟨.type "list", false, .base (.lst e), kit_ty (by decide +kernel), rfl⟩
  | tup e _ => exact ⟨.type "tuple", true, .base (.tup e), kit_ty (by decide +kernel), rfl⟩
  | dct e => exact ⟨.type "dict", false, .base (.dK e), kit_ty (by decide +kernel), rfl⟩
def inI (d : PyData) (lo hi : Int) : Bool := match d with | .int i => decide (lo ≤ i) && decide (i ≤ hi) | _ => false
def spIsInt : Sp := fun vs H Q _ => ∃ v d, vs = [v] ∧ Th H v d ∧ Q (.bl (isIntB d)) H
def spInI : Sp := fun vs H Q _ => ∃ v d lo hi, vs = [v, .int lo, .int hi] ∧ Th H v d ∧ Q (.bl (inI d lo hi)) H
theorem int_th {H : Hp} {v : V} {d : PyData} (h : Th H v d) (z : isIntB d = true) : ∃ i, d = .int i ∧ v = .int i := by
  cases h with
  | atm a => cases a with
    | int i => exact ⟨i, rfl, rfl⟩
    | _ => cases z
  | _ => cases z
theorem inI_no {d : PyData} {lo hi : Int} (z : isIntB d = false) : inI d lo hi = false := by
  cases d with
  | int i => cases z
  | _ => rfl
abbrev s_is_integer : Stmt := top 18
theorem sc_is_integer : FnScope ["value"] ["value"] (defScope s_is_integer) := ⟨rfl, rfl, rfl, by decide +kernel, rfl, by decide +kernel, by decide +kernel⟩
theorem b_is_integer {f : Addr} {fd : FuncData} (F : Fun K "is_integer" "is_integer" s_is_integer f fd) (T : Txt mg) : FnG P w K mg base CX0 1 f fd ["value"] spIsInt := by
  refine okG0 F sc_is_integer (fun vs H Q E h => ?_) (fun cdv A outer s H vs Q E hg hr h => ?_)
  · obtain ⟨v, d, rfl, _⟩ := h
    rfl
  · have hu := hu_of hr
    have hu64 := hr.units
    obtain ⟨v, d, rfl, th, k⟩ := h
    obtain ⟨t, b, c, ty, kt, kc, hb, _⟩ := kit_int (K := K) th
    refine ⟨_, (pss_one (ps_ret (pe_and (pe_callB call_isi (by rfl) T.isinstance (by decide +kernel) (pa_cons (pv 0) (pa_cons (pe_bltn (v := .ty "int") (by rfl) T.int rfl rfl) pa_nil))) (pe_one (pe_not (pe_callB call_isi (by rfl) T.isinstance (by decide +kernel) (pa_cons (pv 0) (pa_cons (pe_bltn (v := .ty "bool") (by rfl) T.bool rfl rfl) pa_nil)))))))), ?_⟩
    refine ⟨_, rfl, v, .ty "int", t, .type "int", b, rfl, .ty "int", ty, kt, _, rfl, ?_⟩
    rw [← hb] at k
    cases b with
    | false => exact iteF k
    | true => exact iteT ⟨_, rfl, v, .ty "bool", t, .type "bool", c, rfl, .ty "bool", ty, kc, _, rfl, k⟩

abbrev s_is_integer_in : Stmt := top 19
theorem sc_is_integer_in : FnScope ["value", "low", "high"] ["value", "low", "high"] (defScope s_is_integer_in) := ⟨rfl, rfl, rfl, by decide +kernel, rfl, by decide +kernel, by decide +kernel⟩
theorem b_is_integer_in {f : Addr} {fd : FuncData} (F : Fun K "is_integer_in" "is_integer_in" s_is_integer_in f fd) (T : Txt mg) (c_is_integer : CalG P w K mg base CX0 1 "is_integer" spIsInt) : FnG P w K mg base CX0 2 f fd ["value", "low", "high"] spInI := by
  refine okG0 F sc_is_integer_in (fun vs H Q E h => ?_) (fun cdv A outer s H vs Q E hg hr h => ?_)
  · obtain ⟨v, d, lo, hi, rfl, _⟩ := h
    rfl
  · have hu := hu_of hr
    have hu64 := hr.units
    obtain ⟨v, d, lo, hi, rfl, th, k⟩ := h
    refine ⟨_, (pss_one (ps_ret (pe_and (pe_cG c_is_integer hg hr (by decide) pass0 (pa_cons (pv 0) pa_nil)) (pe_one (pe_chain op_le op_le (pv 1) (pv 0) (pv 2)))))), ?_⟩
    refine ⟨_, rfl, v, d, rfl, th, _, rfl, ?_⟩
    cases hI : isIntB d with
    | false =>
      rw [inI_no hI] at k
      exact iteF k
    | true =>
      obtain ⟨i, rfl, rfl⟩ := int_th th hI
      have k : Q (.bl (decide (lo ≤ i) && decide (i ≤ hi))) H := k
      refine iteT ⟨_, rfl, _, rfl, ?_⟩
      refine ⟨_, _, rfl, rfl, _, rfl, ?_⟩
      cases h1 : decide (lo ≤ i) with
      | false =>
        rw [h1, Bool.false_and] at k
        exact iteF k
      | true =>
        rw [h1, Bool.true_and] at k
        exact iteT ⟨_, rfl, _, _, rfl, rfl, k⟩

end
end Vk
set_option Elab.async false
set_option maxRecDepth 100000
set_option maxHeartbeats 4000000
set_option linter.all false
namespace Vk
open L2 PySem PySem.Spec PyProof.Rows PySem.VkX
/-! ## several except clauses, two classes in one among them -/
inductive Cly
  | only (c : Value) (ts : Sui)
  | named (c : Value) (i : Nat) (ts : Sui)
  | pair (c1 c2 : Value) (ts : Sui)
inductive ClyOk (X : Cx) : List ExceptHandler → List Cly → Prop
  | nil : ClyOk X [] []
  | only {x : Str} {c : Value} {ts : Sui} {s0 : Stmt} {ss : List Stmt} {p1 p2 : Pos} {hs : List ExceptHandler} {l : List Cly} (hc : Names X x c) (su : SuiOk X (s0 :: ss) ts) (r : ClyOk X hs l) : ClyOk X (.ExceptHandler (some (.Name x p1)) none (s0 :: ss) p2 :: hs) (.only c ts :: l)
  | named {x n : Str} {c : Value} {i : Nat} {ts : Sui} {s0 : Stmt} {ss : List Stmt} {p1 p2 : Pos} {hs : List ExceptHandler} {l : List Cly} (hi : X.N[i]? = some n) (hl : X.env.kindOf n = some .local) (hc : Names X x c) (su : SuiOk X (s0 :: ss) ts) (r : ClyOk X hs l) :
      ClyOk X (.ExceptHandler (some (.Name x p1)) (some n) (s0 :: ss) p2 :: hs) (.named c i ts :: l)
  | pair {x y : Str} {c1 c2 : Value} {ts : Sui} {s0 : Stmt} {ss : List Stmt} {p1 p2 p3 pt : Pos} {kk : Nat} {hs : List ExceptHandler} {l : List Cly} (hx : Names X x c1) (hy : Names X y c2) (su : SuiOk X (s0 :: ss) ts) (r : ClyOk X hs l) :
      ClyOk X (.ExceptHandler (some (.Tuple [.Name x p1, .Name y p3] kk pt)) none (s0 :: ss) p2 :: hs) (.pair c1 c2 ts :: l)
section
variable {X : Cx} {body : List Stmt} {e0 : ExceptHandler} {es : List ExceptHandler} {l : List Cly} {pos : Pos} {tb : WX → TS} {W0 : WX}
end
end Vk
set_option Elab.async false
set_option maxRecDepth 100000
set_option maxHeartbeats 4000000
set_option linter.all false
namespace Vk
open PySem PySem.Spec PyProof.Rows L2
/-! ## x[::-1], x a text -/
end Vk
set_option Elab.async false
set_option maxRecDepth 100000
set_option maxHeartbeats 4000000
set_option linter.all false
namespace Vk
open PySem PySem.Spec PyProof.Rows L2 HT
/-! ## t[::-1], t a tuple -/
section
variable {prog : Program} {w : World} {A : Around} {E : Value → Shared → Prop} {s : Shared}
end
end Vk
set_option Elab.async false
set_option maxRecDepth 100000
set_option maxHeartbeats 4000000
set_option linter.all false
namespace Vk
open PySem PySem.Spec PyProof.Rows L2 LamX
/-! ## things: a value, or a list or a tuple of values -/
inductive Tg (H : Hp) : V → PyData → Prop
  | one {v : V} {d : PyData} : Th H v d → (∀ ds, d ≠ .tuple ds) → Tg H v d
  | lst {a : Addr} {vs : List V} {ds : List PyData} : H a = some (.lst vs) → Paired (Th H) vs ds → Tg H (.ref a) (.list ds)
  | tup {a : Addr} {vs : List V} {ds : List PyData} : H a = some (.tup vs) → Paired (Th H) vs ds → Tg H (.ref a) (.tuple ds)
theorem Tg.keep {H H' : Hp} {v : V} {d : PyData} (h : Tg H v d) (s : Same H H') : Tg H' v d := by
  cases h with
  | one th n => exact .one (th.keep s) n
  | lst e p => exact .lst (s _ _ e) (ths_keep s p)
  | tup e p => exact .tup (s _ _ e) (ths_keep s p)
theorem ths_ext {H H' : Hp} {p c : Addr} {T : Nat} (hp : Pen H p c T) (x : Ext p H H') : ∀ {vs : List V} {ds : List PyData}, Paired (Th H) vs ds → Paired (Th H') vs ds
  | _, _, .nil => .nil
  | _, _, .cons a t => .cons (a.ext hp x) (ths_ext hp x t)
theorem Tg.ext {H H' : Hp} {p c : Addr} {T : Nat} {v : V} {d : PyData} (h : Tg H v d) (hp : Pen H p c T) (x : Ext p H H') : Tg H' v d := by
  have ne : ∀ {a o}, H a = some o → (∀ k, o ≠ .dK k) → H' a = some o := fun {a o} e n => x _ _ e fun z => by
    obtain ⟨t, l, hl⟩ := hp.is
    rw [z, hl] at e
    exact n _ (Option.some.inj e).symm
  cases h with
  | one th n => exact .one (th.ext hp x) n
  | lst e p => exact .lst (ne e fun _ z => nomatch z) (ths_ext hp x p)
  | tup e p => exact .tup (ne e fun _ z => nomatch z) (ths_ext hp x p)
end Vk
set_option Elab.async false
set_option maxRecDepth 100000
set_option linter.all false
set_option maxHeartbeats 4000000
namespace Vk
open PySem PySem.Spec PyProof.Rows L2
section
variable {P : Program} {w : World} {K : PySem.W.Frag} {mg : Str → Option Value} {base : Heap}
/-- parts -/
def Rw3 (H : Hp) : List V → List (Nat × Nat × Str) → Prop := Paired (fun v (r : Nat × Nat × Str) => ∃ t, v = V.ref t ∧ H t = some (.tup [.int (r.1 : Nat), .int (r.2.1 : Nat), .str r.2.2]))
theorem Rw3.keep {H H1 : Hp} {xs : List V} {rs : List (Nat × Nat × Str)} (h : Rw3 H xs rs) (s : Same H H1) : Rw3 H1 xs rs := pair_mono (fun v p ⟨t, e, ht⟩ => ⟨t, e, s _ _ ht⟩) h
theorem Rw3.keepT {H H1 : Hp} {xs : List V} {rs : List (Nat × Nat × Str)} (h : Rw3 H xs rs) (s : ∀ u ws, H u = some (.tup ws) → H1 u = some (.tup ws)) : Rw3 H1 xs rs := pair_mono (fun v p ⟨t, e, ht⟩ => ⟨t, e, s _ _ ht⟩) h
end
end Vk
set_option Elab.async false
set_option maxRecDepth 100000
set_option linter.all false
set_option maxHeartbeats 4000000
namespace Vk
open PySem PySem.Spec PyProof.Rows L2
section
variable {P : Program} {w : World} {K : PySem.W.Frag} {mg : Str → Option Value} {base : Heap}
abbrev Ltr (x : Str) : Prop := ∀ c ∈ x.cps.toList, c ∈ letS.cps.toList
theorem lt_ok {x : Str} (h : Ltr x) : PyData.strOk x = true := ok_letters h
theorem cutS_lt {x : Str} (h : Ltr x) (a b : Option Int) : Ltr (cutS x a b) := fun c hc => by
  have hc2 : c ∈ (List.toArray ((x.cps.toList.drop (HT.sIx x.length 0 a)).take (HT.sIx x.length x.length b - HT.sIx x.length 0 a))).toList := hc
  rw [List.toList_toArray] at hc2
  exact h c (List.mem_of_mem_drop (List.mem_of_mem_take hc2))
theorem lt_more {z y : Str} (h1 : Ltr z) (h2 : Ltr y) : Ltr (z ++ y) := fun c hc => by
  rw [more_list] at hc
  rcases List.mem_append.mp hc with h | h
  · exact h1 c h
  · exact h2 c h
abbrev s_ldraw : Stmt := top 39
theorem sc_ldraw : FnScope ["_law_pen_here", "_law_many", "_law_digit", "_law_turn", "_law_cell", "_law_primes", "_law_prime", "_law_drawn"] ["_law_pen_here", "_law_many"] (defScope s_ldraw) := ⟨rfl, rfl, rfl, by decide +kernel, rfl, by decide +kernel, by decide +kernel⟩
theorem b_ldraw {f : Addr} {fd : FuncData} (F : Fun K "_law_draw" "_law_draw" s_ldraw f fd) (T : Txt mg) : FnG P w K mg base CX0 1 f fd ["_law_pen_here", "_law_many"] spDraw := by
  refine okG0 F sc_ldraw (fun vs H Q E h => ?_) (fun cdv A outer s H vs Q E hg hr h => ?_)
  · obtain ⟨p, c, m, T0, rfl, _⟩ := h
    rfl
  · have hu := hu_of hr
    have hu64 := hr.units
    obtain ⟨p, c, m, T0, rfl, m0, m1, ⟨ns, t, l, hp, hc, hn, t0, tT, l0⟩, hT, k⟩ := h
    have ncp : c ≠ p := ne_of hc hp (by intro z; cases z)
    have lenns : (ns.map V.int).length = ns.length := List.length_map _
    refine ⟨_, (pss_cons (ps_if (pt_cmpR op_gt (pe_dget hu (pv 0) pe_str (fun _ _ => rfl)) pe_int (nomark _)) (pss_cons (ps_set (i := 2) sc_ldraw.nd rfl (Or.inl rfl) (pe_op op_mod (pe_callTy call_int1 (by rfl) T.int (by decide +kernel) (pa_cons (pe_dget hu (pv 0) pe_str (fun _ _ => rfl)) pa_nil)) (pv 1)))
      (pss_cons (ps_dput hu (pv 0) pe_str (pe_op op_fdiv (pe_dget hu (pv 0) pe_str (fun _ _ => rfl)) (pv 1)) rfl)
      (pss_one (ps_ret (pv 2))))) pss_nil)
      (pss_cons (ps_set (i := 3) sc_ldraw.nd rfl (Or.inl rfl) (pe_dget hu (pv 0) pe_str (fun _ _ => rfl)))
      (pss_cons (ps_dput hu (pv 0) pe_str (pe_op op_add (pv 3) pe_int) rfl)
      (pss_cons (ps_set (i := 4) sc_ldraw.nd rfl (Or.inl rfl) (pe_op op_add (pe_op op_mul pe_int (pv 3)) pe_int))
      (C8.pss_cut (ps_if (pt_cmpR (op_neD hu64) (pe_dget hu (pv 0) pe_str (fun _ _ => rfl)) (pe_lst pa_nil) (nomark _)) (pss_one (ps_set (i := 4) sc_ldraw.nd rfl (Or.inl rfl) (pe_ix ix_seq (pe_dget hu (pv 0) pe_str (fun _ _ => rfl)) (pe_op op_mod (pe_callTy call_int1 (by rfl) T.int (by decide +kernel) (pa_cons (pv 3) pa_nil)) (pe_callB call_len (by rfl) T.len (by decide +kernel) (pa_cons (pe_dget hu (pv 0) pe_str (fun _ _ => rfl)) pa_nil))) (fun _ _ => rfl)))) pss_nil)
      (C8.pss_cut (ps_if (PW.pt (pw_and (pt_cmpR op_lt (pv 3) (pe_callB call_len (by rfl) T.len (by decide +kernel) (pa_cons (pe_dget hu (pv 0) pe_str (fun _ _ => rfl)) pa_nil)) (nomark _)) (pw_and1 (pt_cmpR op_ge (pe_callB call_abs (by rfl) T.abs (by decide +kernel) (pa_cons (pv 4) pa_nil)) (pe_op op_pow pe_int pe_int) (nomark _))))) (pss_cons (ps_dput hu (pv 0) pe_str (pe_op op_fdiv (pe_op op_sub (pe_callB call_abs (by rfl) T.abs (by decide +kernel) (pa_cons (pv 4) pa_nil)) (pe_op op_pow pe_int pe_int)) (pv 1)) rfl)
      (pss_one (ps_ret (pe_op op_mod (pe_op op_sub (pe_callB call_abs (by rfl) T.abs (by decide +kernel) (pa_cons (pv 4) pa_nil)) (pe_op op_pow pe_int pe_int)) (pv 1))))) pss_nil)
      (pss_cons (ps_set (i := 5) sc_ldraw.nd rfl (Or.inl rfl) (pe_lst (pa_cons pe_int (pa_cons pe_int (pa_cons pe_int (pa_cons pe_int (pa_cons pe_int pa_nil)))))))
      (pss_cons (ps_set (i := 6) sc_ldraw.nd rfl (Or.inl rfl) (pe_ix ix_seq (pv 5) (pe_op op_mod (pe_callTy call_int1 (by rfl) T.int (by decide +kernel) (pa_cons (pv 3) pa_nil)) pe_int) (fun _ _ => rfl)))
      (pss_cons (ps_set (i := 7) sc_ldraw.nd rfl (Or.inl rfl) (pe_op op_mod (pe_callTy call_int1 (by rfl) T.int (by decide +kernel) (pa_cons (pe_op op_add (pe_op op_add (pe_op op_mul (pe_op op_mod (pe_callTy call_int1 (by rfl) T.int (by decide +kernel) (pa_cons (pv 4) pa_nil)) (pv 6)) pe_int) (pe_op op_mul (pv 3) (pe_op op_add (pe_op op_mul pe_int (pv 3)) pe_int))) pe_int) pa_nil)) (pv 6)))
      (pss_cons (ps_set (i := 7) sc_ldraw.nd rfl (Or.inl rfl) (pe_op op_mod (pe_callTy call_int1 (by rfl) T.int (by decide +kernel) (pa_cons (pe_op op_mul (pv 7) (pe_op op_add (pv 7) pe_int)) pa_nil)) (pe_ix ix_seq (pv 5) (pe_op op_mod (pe_callTy call_int1 (by rfl) T.int (by decide +kernel) (pa_cons (pe_op op_add (pv 3) pe_int) pa_nil)) pe_int) (fun _ _ => rfl))))
      (pss_one (ps_ret (pe_op op_mod (pe_callTy call_int1 (by rfl) T.int (by decide +kernel) (pa_cons (pe_op op_fdiv (pe_op op_mod (pe_callTy call_int1 (by rfl) T.int (by decide +kernel) (pa_cons (pe_op op_add (pe_op op_add (pe_op op_mul (pv 7) (pv 7)) (pe_op op_mul pe_int (pv 7))) (pv 3)) pa_nil)) pe_int) pe_int) pa_nil)) (pv 1)))))))))))))), ?_⟩
    refine ⟨_, rfl, p, _, rfl, get_left hp, _, _, rfl, rfl, _, rfl, ?_⟩
    refine ite2 (fun hl => ?_) (fun hl => ?_)
    · refine ⟨_, rfl, p, _, rfl, get_left hp, .inl ⟨_, rfl, ?_⟩⟩
      refine ⟨_, rfl, _, _, rfl, rfl, m0, ?_⟩
      refine ⟨_, rfl, p, _, rfl, get_left hp, _, rfl, _, _, rfl, rfl, ⟨by omega, by omega⟩, ?_⟩
      refine ⟨_, rfl, p, _, rfl, put_left hp, _, rfl, ?_⟩
      refine k _ _ (Int.emod_nonneg _ (by omega)) (Int.emod_lt_of_pos _ m0) ⟨ns, t, _, upd_same, (upd_ne ncp).trans hc, hn, t0, by omega, Int.ediv_nonneg l0 (by omega)⟩ Ext.at
    · refine ⟨_, rfl, p, _, rfl, get_turn hp, ?_⟩
      refine ⟨_, rfl, _, _, rfl, rfl, _, rfl, p, _, rfl, put_turn hp, ?_⟩
      generalize hH1 : upd H p (.dK (penL c (t + 1) l)) = H1
      have hp1 : H1 p = some (.dK (penL c (t + 1) l)) := by rw [← hH1]; exact upd_same
      have hc1 : H1 c = some (.lst (ns.map V.int)) := by rw [← hH1]; exact (upd_ne ncp).trans hc
      have e1 : Ext p H H1 := by rw [← hH1]; exact Ext.at
      refine ⟨_, rfl, _, _, rfl, rfl, .inl ⟨by decide, by decide⟩, _, _, rfl, rfl, ?_⟩
      refine ⟨fun σ' H2 => ∃ z : Int, σ' = [some (.ref p), some (.int m), none, some (.int t), some (.int z), none, none, none] ∧ H2 p = some (.dK (penL c (t + 1) l)) ∧ H2 c = some (.lst (ns.map V.int)) ∧ Ext p H H2, ?_, ?_⟩
      · refine ⟨_, rfl, p, _, rfl, get_cells hp1, by decide, fun b hb => ?_⟩
        have hp2 := up_new (u := .lst []) hp1 hb
        have hc2 := up_new (u := .lst []) hc1 hb
        refine ⟨.list (ns.map .int), .list [], .lst (SqL.of hc2) (ints_dp ns), .lst (SqL.of upd_same) .nil, ints_shaped ns, by decide +kernel, _, rfl, ?_⟩
        rw [ints_ne_nil]
        refine ite2 (fun hne => ?_) (fun _ => ?_)
        · have hpos : 0 < ns.length := by
            cases ns with
            | nil => simp at hne
            | cons a r => exact Nat.succ_pos _
          refine ⟨_, rfl, p, _, rfl, get_cells hp2, _, rfl, .inl ⟨_, rfl, _, rfl, p, _, rfl, get_cells hp2, _, _, rfl, .inl ⟨_, SqL.of hc2, rfl⟩, _, _, rfl, rfl, ?_, ?_⟩⟩
          · rw [lenns]; omega
          · obtain ⟨v, hv, hm⟩ := at_mod (xs := ns.map V.int) (i := t % ((ns.map V.int).length : Int)) (Int.emod_nonneg _ (by rw [lenns]; omega)) (Int.emod_lt_of_pos _ (by rw [lenns]; omega))
            obtain ⟨z, _, rfl⟩ := List.mem_map.mp hm
            refine .inl ⟨_, _, _, _, rfl, rfl, SqL.of hc2, hv, z, rfl, hp2, hc2, e1.set (e1.none_of ?_ hb)⟩
            exact (ne_of_none hp1 hb).symm
        · exact ⟨_, rfl, hp2, hc2, e1.set (e1.none_of (ne_of_none hp1 hb).symm hb)⟩
      · rintro σ2 H2 ⟨z, rfl, hp2, hc2, e2⟩
        refine ⟨fun σ' H3 => σ' = [some (.ref p), some (.int m), none, some (.int t), some (.int z), none, none, none] ∧ H3 = H2, ?_, ?_⟩
        · refine ⟨_, rfl, _, rfl, p, _, rfl, get_cells hp2, _, _, rfl, .inl ⟨_, SqL.of hc2, rfl⟩, _, _, rfl, rfl, _, rfl, ?_⟩
          refine ite2 (fun _ => ?_) (fun _ => ?_)
          · refine ⟨_, rfl, _, rfl, _, _, rfl, rfl, ⟨by decide, by decide, by decide⟩, _, _, rfl, rfl, _, rfl, ?_⟩
            refine ite2 (fun hbig => ?_) (fun _ => ?_)
            · have big := of_decide_eq_true hbig
              refine ⟨_, rfl, _, rfl, _, _, rfl, rfl, ⟨by decide, by decide, by decide⟩, _, _, rfl, rfl, _, rfl, _, _, rfl, rfl, ⟨by omega, by omega⟩, ?_⟩
              refine ⟨_, rfl, p, _, rfl, put_left hp2, ?_⟩
              refine ⟨_, rfl, _, rfl, _, _, rfl, rfl, ⟨by decide, by decide, by decide⟩, _, _, rfl, rfl, _, rfl, _, _, rfl, rfl, m0, ?_⟩
              refine k _ _ (Int.emod_nonneg _ (by omega)) (Int.emod_lt_of_pos _ m0) ⟨ns, t + 1, _, upd_same, (upd_ne ncp).trans hc2, hn, by omega, by omega, Int.ediv_nonneg (by omega) (by omega)⟩ (e2.trans Ext.at)
            · exact ⟨rfl, rfl⟩
          · exact ⟨rfl, rfl⟩
        · rintro σ3 H3 ⟨rfl, rfl⟩
          refine ⟨by decide, fun q hq => ?_⟩
          have hp3 := up_new (u := .lst (primes.map V.int)) hp2 hq
          have hc3 := up_new (u := .lst (primes.map V.int)) hc2 hq
          have e3 : Ext p H (upd H3 q (.lst (primes.map V.int))) := e2.set (e2.none_of (ne_of_none hp2 hq).symm hq)
          have hq3 : (upd H3 q (.lst (primes.map V.int))) q = some (.lst (primes.map V.int)) := upd_same
          have pick : ∀ i : Int, 0 ≤ i → i < 5 → ∃ z : Int, atI (primes.map V.int) i = some (.int z) ∧ 0 < z ∧ z < 2147483648 := fun i h0 h5 => by
            obtain ⟨v, hv, hm⟩ := at_mod (xs := primes.map V.int) h0 h5
            obtain ⟨z, rfl, hz⟩ := primes_in hm
            exact ⟨z, hv, hz⟩
          obtain ⟨a1, ha1, a1p, a1b⟩ := pick (t % 5) (Int.emod_nonneg _ (by decide)) (Int.emod_lt_of_pos _ (by decide))
          obtain ⟨a2, ha2, a2p, a2b⟩ := pick ((t + 2) % 5) (Int.emod_nonneg _ (by decide)) (Int.emod_lt_of_pos _ (by decide))
          refine ⟨_, rfl, _, rfl, .inl ⟨_, rfl, _, _, rfl, rfl, (by show (0 : Int) < 5; decide), .inl ⟨_, _, _, _, rfl, rfl, SqL.of hq3, ha1, ?_⟩⟩⟩
          have b1 := Int.emod_nonneg z (show a1 ≠ 0 by omega)
          have b2 := Int.emod_lt_of_pos z a1p
          refine ⟨_, rfl, .inl ⟨_, rfl, _, rfl, _, _, rfl, rfl, a1p, _, _, rfl, rfl, .inr ⟨by decide, by decide⟩, ?_⟩⟩
          refine ⟨_, rfl, _, rfl, _, _, rfl, rfl, .inl ⟨by decide, by decide⟩, _, _, rfl, rfl, _, _, rfl, rfl, .inl ⟨by omega, by omega⟩, _, _, rfl, rfl, _, _, rfl, rfl, .inl ⟨_, rfl, _, rfl, _, _, rfl, rfl, a1p, ?_⟩⟩
          have d1 := Int.emod_nonneg (z % a1 * 39373 + t * (30011 * t + 8117) + 23) (show a1 ≠ 0 by omega)
          have d2 := Int.emod_lt_of_pos (z % a1 * 39373 + t * (30011 * t + 8117) + 23) a1p
          refine ⟨_, rfl, _, rfl, _, _, rfl, rfl, _, _, rfl, rfl, .inl ⟨by omega, by omega⟩, .inl ⟨_, rfl, _, rfl, _, rfl, _, _, rfl, rfl, .inl ⟨_, rfl, _, _, rfl, rfl, (by show (0 : Int) < 5; decide), .inl ⟨_, _, _, _, rfl, rfl, SqL.of hq3, ha2, _, _, rfl, rfl, a2p, ?_⟩⟩⟩⟩
          have f1 := Int.emod_nonneg (((z % a1 * 39373 + t * (30011 * t + 8117) + 23) % a1) * (((z % a1 * 39373 + t * (30011 * t + 8117) + 23) % a1) + 69621)) (show a2 ≠ 0 by omega)
          have f2 := Int.emod_lt_of_pos (((z % a1 * 39373 + t * (30011 * t + 8117) + 23) % a1) * (((z % a1 * 39373 + t * (30011 * t + 8117) + 23) % a1) + 69621)) a2p
          refine ⟨_, rfl, _, rfl, _, _, rfl, rfl, .inl ⟨by omega, by omega⟩, _, rfl, _, _, rfl, rfl, .inl ⟨by decide, by decide⟩, _, _, rfl, rfl, _, rfl, _, _, rfl, rfl, .inl ⟨_, rfl, _, _, rfl, rfl, (by show (0 : Int) < 2147483549; decide), _, _, rfl, rfl, ⟨by decide, by decide⟩, .inl ⟨_, rfl, _, rfl, _, _, rfl, rfl, m0, ?_⟩⟩⟩
          exact k _ _ (Int.emod_nonneg _ (by omega)) (Int.emod_lt_of_pos _ m0) ⟨ns, t + 1, l, hp3, hc3, hn, by omega, by omega, l0⟩ e3

abbrev s_lpen : Stmt := top 38
theorem sc_lpen : FnScope ["_law_script"] ["_law_script"] (defScope s_lpen) := ⟨rfl, rfl, rfl, by decide +kernel, rfl, by decide +kernel, by decide +kernel⟩
theorem b_lpen {f : Addr} {fd : FuncData} (F : Fun K "_law_pen" "_law_pen" s_lpen f fd) (T : Txt mg) : FnG P w K mg base CX0 1 f fd ["_law_script"] (spPen K) := by
  refine okG0 F sc_lpen (fun vs H Q E h => ?_) (fun cdv A outer s H vs Q E hg hr h => ?_)
  · obtain ⟨a, ns, rfl, _⟩ := h
    rfl
  · have hu := hu_of hr
    have hu64 := hr.units
    obtain ⟨a, ns, rfl, hs, k⟩ := h
    refine ⟨_, (pss_one (ps_ret (pe_disp (pps_cons pe_str (pe_callTy call_list_of (by rfl) T.list (by decide +kernel) (pa_cons (pe_slice sl_list (pv 0) po_none (po_some pe_int)) pa_nil)) (pps_cons pe_str pe_int (pps_cons pe_str pe_int pps_nil))) (by rfl) (by rfl) (fun z => by cases z) (by decide)))), ?_⟩
    intro p hp
    obtain ⟨ms, hms, hml⟩ := cut63 ns
    refine ⟨_, rfl, 63, rfl, a, _, rfl, (same_new hp).seq hs, fun q hq => ?_⟩
    refine ⟨q, _, rfl, .inl (SqL.of upd_same), fun c hc => ?_⟩
    rw [hms] at hc ⊢
    have nqp : p ≠ q := fun e => by rw [← e, upd_same] at hq; cases hq
    have ncp : p ≠ c := fun e => by rw [← e, upd_ne nqp, upd_same] at hc; cases hc
    have hp2 : (upd (upd (upd H p (.dK [])) q (.lst (ms.map V.int))) c (.lst (ms.map V.int))) p = some (.dK []) := by rw [upd_ne ncp, upd_ne nqp, upd_same]
    refine ⟨hp2, penL c 0 0, rfl, (by show 3 ≤ 15; decide), ?_⟩
    rw [pen_made]
    refine k p c _ hp ⟨ms, 0, 0, upd_same, by rw [upd_ne ncp.symm, upd_same], hml, Int.le_refl _, Int.le_refl _, Int.le_refl _⟩ fun b o e => ?_
    rw [upd_ne (ne_of_none e hp), upd_ne ?_, upd_ne ?_, upd_ne (ne_of_none e hp)]
    · exact e
    · rintro rfl
      rw [upd_ne (ne_of_none e hp)] at hq
      rw [hq] at e
      cases e
    · rintro rfl
      by_cases ebq : b = q
      · subst ebq
        rw [upd_ne nqp.symm] at hq
        rw [hq] at e
        cases e
      · rw [upd_ne ebq, upd_ne (ne_of_none e hp)] at hc
        rw [hc] at e
        cases e

abbrev s_lpick : Stmt := top 40
theorem sc_lpick : FnScope ["_law_pen_here", "_law_options"] ["_law_pen_here", "_law_options"] (defScope s_lpick) := ⟨rfl, rfl, rfl, by decide +kernel, rfl, by decide +kernel, by decide +kernel⟩
theorem b_lpick {f : Addr} {fd : FuncData} (F : Fun K "_law_pick" "_law_pick" s_lpick f fd) (T : Txt mg) (c_ldraw : CalG P w K mg base CX0 1 "_law_draw" spDraw) : FnG P w K mg base CX0 2 f fd ["_law_pen_here", "_law_options"] (spPick K) := by
  refine okG0 F sc_lpick (fun vs H Q E h => ?_) (fun cdv A outer s H vs Q E hg hr h => ?_)
  · obtain ⟨p, c, o, xs, T0, rfl, _⟩ := h
    rfl
  · have hu := hu_of hr
    have hu64 := hr.units
    obtain ⟨p, c, o, xs, T0, rfl, ho, hne, hlen, hpen, hT, k⟩ := h
    have hpos : 0 < xs.length := List.length_pos_iff.mpr hne
    have hr1 : Room 1 _ := hr
    refine ⟨_, (pss_one (ps_ret (pe_ix ix_seq (pv 1) (pe_cG c_ldraw hg hr (by decide) pass0 (pa_cons (pv 0) (pa_cons (pe_callB call_len (by rfl) T.len (by decide +kernel) (pa_cons (pv 1) pa_nil)) pa_nil))) (fun _ _ => rfl)))), ?_⟩

    cases ho with
    | str z hz =>
      have e := one_len z
      have hz24 : z.length ≤ sizeLine := Nat.le_trans hz (by decide)
      refine ⟨_, rfl, _, rfl, _, rfl, _, _, rfl, ⟨hz24, rfl⟩, p, c, _, T0, rfl, by omega, by omega, hpen, hT, fun d H' d0 d1 hpen' x => ?_⟩
      obtain ⟨e1, hc, hm⟩ := at_mod (xs := z.cps.toList) d0 (by rw [show (z.cps.toList.length : Int) = (z.length : Int) from congrArg Nat.cast Array.length_toList]; exact d1)
      exact .inr (.inr ⟨z, d, e1, rfl, rfl, hz24, hc, k _ _ (List.mem_map_of_mem (f := OneS) hm) hpen' x⟩)
    | lst hs =>
      refine ⟨_, rfl, _, rfl, _, rfl, _, _, rfl, .inl ⟨_, hs, rfl⟩, p, c, _, T0, rfl, by omega, by omega, hpen, hT, fun d H' d0 d1 hpen' x => ?_⟩
      obtain ⟨v, hv, hm⟩ := at_mod d0 d1
      exact .inl ⟨_, xs, d, v, rfl, rfl, hpen.keepL x hs, hv, k _ _ hm hpen' x⟩
    | tup hs =>
      refine ⟨_, rfl, _, rfl, _, rfl, _, _, rfl, .inr ⟨_, hs, rfl⟩, p, c, _, T0, rfl, by omega, by omega, hpen, hT, fun d H' d0 d1 hpen' x => ?_⟩
      obtain ⟨v, hv, hm⟩ := at_mod d0 d1
      exact .inr (.inl ⟨_, xs, d, v, rfl, rfl, hpen.keepT x hs, hv, k _ _ hm hpen' x⟩)

abbrev s_lfew : Stmt := top 43
theorem sc_lfew : FnScope ["_law_pen_here", "_law_some", "_law_rare", "_law_k"] ["_law_pen_here"] (defScope s_lfew) := ⟨rfl, rfl, rfl, by decide +kernel, rfl, by decide +kernel, by decide +kernel⟩
abbrev s_lword : Stmt := top 44
theorem sc_lword : FnScope ["_law_pen_here", "_law_signs_here", "_law_least", "_law_most_letters", "_law_many", "_law_k"] ["_law_pen_here", "_law_signs_here", "_law_least", "_law_most_letters"] (defScope s_lword) := ⟨rfl, rfl, rfl, by decide +kernel, rfl, by decide +kernel, by decide +kernel⟩
theorem b_lword {f : Addr} {fd : FuncData} (F : Fun K "_law_word" "_law_word" s_lword f fd) (T : Txt mg) (c_ldraw : CalG P w K mg base CX0 1 "_law_draw" spDraw) (c_lpick : CalG P w K mg base CX0 2 "_law_pick" (spPick K)) : FnG P w K mg base CX0 3 f fd ["_law_pen_here", "_law_signs_here", "_law_least", "_law_most_letters"] spWord := by
  refine okG0 F sc_lword (fun vs H Q E h => ?_) (fun cdv A outer s H vs Q E hg hr h => ?_)
  · obtain ⟨p, pc, z, a, b, T0, rfl, _⟩ := h
    rfl
  · have hu := hu_of hr
    have hu64 := hr.units
    obtain ⟨p, pc, z, a, b, T0, rfl, hab, hb, hz1, hz, hpen, hT, k⟩ := h
    have hr2 : Room 2 _ := hr
    refine ⟨_, (pss_cons (ps_set (i := 4) sc_lword.nd rfl (Or.inl rfl) (pe_op op_add (pv 2) (pe_cG c_ldraw hg hr (by decide) pass0 (pa_cons (pv 0) (pa_cons (pe_op op_add (pe_op op_sub (pv 3) (pv 2)) pe_int) pa_nil)))))
      (pss_one (ps_ret (pe_join pe_str (pe_lc (own := [("_law_k", 5)]) (g := gName 5) (tt := tYes) rfl sc_lword.nd (pi_range1 rfl T.range (pa_cons (pv 4) pa_nil)) (blkOk_by (own := [("_law_k", 5)]) (N := ["_law_pen_here", "_law_signs_here", "_law_least", "_law_most_letters", "_law_many", "_law_k"]) (sc := defScope s_lword) (by decide +kernel)) (fun _ _ _ _ _ => (pg_name (i := 5) sc_lword.nd rfl (Or.inl rfl))) (fun _ _ _ _ _ => pts_nil) (fun _ _ _ _ _ => (pe_cG c_lpick hg hr (by decide) pass0 (pa_cons (pv 0) (pa_cons (pv 1) pa_nil))))))))), ?_⟩
    refine ⟨_, rfl, _, rfl, _, rfl, _, rfl, _, _, rfl, rfl, _, _, rfl, rfl, p, pc, _, T0, rfl, by omega, by omega, hpen, by omega, fun d H1 d0 d1 P1 x1 => ?_⟩
    refine ⟨_, _, rfl, rfl, ⟨_, rfl⟩, ?_⟩
    obtain ⟨n, rfl⟩ : ∃ n : Nat, d = (n : Int) := ⟨d.toNat, by omega⟩
    refine ⟨_, rfl, _, rfl, by omega, by omega, fun D hD => ?_⟩
    have en : ((a : Int) + (n : Int)).toNat = a + n := by omega
    have hn : a + n ≤ b := by omega
    obtain ⟨nDp, nDc⟩ := P1.apart hD
    refine lc_range (lo := 0) (n := ((a : Int) + (n : Int)).toNat) (fun i H' => ∃ cs : List Nat, H' D = some (.lst (cs.map OneS)) ∧ cs.length = i ∧ (∀ c ∈ cs, c ∈ z.cps.toList) ∧ Pen H' p pc (T0 + 1 + i) ∧ Ext p H H') ?_ ?_ ?_
    · refine ⟨[], upd_same, rfl, fun c hc => absurd hc List.not_mem_nil, P1.new hD, x1.trans (Ext.new hD)⟩
    · rintro i H2 hi ⟨cs, hDc, hcl, hcm, P2, x2⟩
      rw [en] at hi
      refine ⟨rfl, _, rfl, _, rfl, p, pc, _, _, T0 + 1 + i, rfl, .str z hz, opts_ne hz1, opts_le hz, P2, by omega, fun v H3 hm P3 x3 => ?_⟩
      obtain ⟨c, rfl, hc⟩ := ones_of hm
      have d3 := P2.keepI x3 hDc
      refine ⟨_, d3, by rw [List.length_map, hcl]; exact Nat.lt_of_lt_of_le hi (Nat.le_trans hn (Nat.le_trans hb (by decide))), cs ++ [c], ?_, by rw [List.length_append, hcl]; rfl, ?_, ?_, ?_⟩
      · rw [upd_same, List.map_append]
        rfl
      · intro e he
        rcases List.mem_append.mp he with he | he
        · exact hcm e he
        · rw [List.mem_singleton.mp he]
          exact hc
      · exact P3.set nDp nDc
      · exact fun b o e hb => by
          rw [upd_ne (fun q => by rw [q, x1.none_of nDp hD] at e; cases e)]
          exact x3 b o (x2 b o e hb) hb
    · rintro H2 ⟨cs, hDc, hcl, hcm, P2, x2⟩
      refine ⟨_, D, cs.map fun c => ⟨#[c]⟩, rfl, rfl, .inl (SqL.of (by rw [ones_map]; exact hDc)), ?_, ?_⟩
      · rw [ones_len]
        show cs.length + _ * 0 ≤ _
        omega
      · rw [join_ones]
        rw [en] at hcl P2
        exact k _ H2 ⟨by show a ≤ cs.toArray.size; rw [List.size_toArray]; omega, by show cs.toArray.size ≤ b; rw [List.size_toArray]; omega, by simpa using hcm⟩ (P2.mono (by omega)) x2

end
end Vk
set_option Elab.async false
set_option maxRecDepth 100000
set_option linter.all false
set_option maxHeartbeats 4000000
namespace Vk
open PySem PySem.Spec PyProof.Rows L2
section
variable {P : Program} {w : World} {K : PySem.W.Frag} {mg : Str → Option Value} {base : Heap}
theorem pen_tup {H H1 : Hp} {p c : Addr} {T : Nat} (q : Pen H p c T) (x : Ext p H H1) : ∀ u ws, H u = some (.tup ws) → H1 u = some (.tup ws) := fun u ws h => x u _ h fun e => by
  obtain ⟨t, l, z⟩ := q.is
  rw [e, z] at h
  cases h
end
end Vk
set_option Elab.async false
set_option maxRecDepth 100000
set_option linter.all false
namespace Vk
open PySem PySem.Spec PyProof.Rows L2
section
variable {P : Program} {w : World} {K : PySem.W.Frag} {mg : Str → Option Value} {base : Heap}
end
end Vk
set_option Elab.async false
set_option maxRecDepth 100000
set_option linter.all false
set_option maxHeartbeats 4000000
namespace Vk
open PySem PySem.Spec PyProof.Rows L2
section
variable {P : Program} {w : World} {K : PySem.W.Frag} {mg : Str → Option Value} {base : Heap}
end
end Vk
set_option Elab.async false
set_option maxRecDepth 100000
set_option linter.all false
set_option maxHeartbeats 4000000
namespace Vk
open PySem PySem.Spec PyProof.Rows L2
section
variable {P : Program} {w : World} {K : PySem.W.Frag} {mg : Str → Option Value} {base : Heap}
end
end Vk
set_option Elab.async false
set_option maxRecDepth 100000
set_option linter.all false
set_option maxHeartbeats 4000000
namespace Vk
open PySem PySem.Spec PyProof.Rows L2
section
variable {P : Program} {w : World} {K : PySem.W.Frag} {mg : Str → Option Value} {base : Heap}
end
end Vk
set_option Elab.async false
set_option maxRecDepth 100000
set_option linter.all false
set_option maxHeartbeats 4000000
namespace Vk
open PySem PySem.Spec PyProof.Rows L2
section
variable {P : Program} {w : World} {K : PySem.W.Frag} {mg : Str → Option Value} {base : Heap}
end
end Vk
set_option Elab.async false
set_option maxRecDepth 100000
set_option linter.all false
set_option maxHeartbeats 4000000
namespace Vk
open PySem PySem.Spec PyProof.Rows L2
/-! ## runs: a piece, so many times -/
theorem flat_len {p : List Nat} : ∀ c, (List.replicate c p).flatten.length = c * p.length
  | 0 => by simp
  | c + 1 => by
    rw [List.replicate_succ, List.flatten_cons, List.length_append, flat_len c, Nat.succ_mul, Nat.add_comm]
theorem flat_get {p : List Nat} : ∀ c i, i < c * p.length → (List.replicate c p).flatten[i]? = p[i % p.length]?
  | 0, i, h => by rw [Nat.zero_mul] at h; exact absurd h (Nat.not_lt_zero _)
  | c + 1, i, h => by
    rw [List.replicate_succ, List.flatten_cons]
    rcases Nat.lt_or_ge i p.length with l | l
    · rw [List.getElem?_append_left l, Nat.mod_eq_of_lt l]
    · rw [List.getElem?_append_right l, flat_get c (i - p.length) (by rw [Nat.succ_mul] at h; omega), Nat.mod_eq_sub_mod l]
/-- what cut tells: n letters of the piece written on and on, from a -/
def cutL (p : List Nat) (a n : Nat) : List Nat := (List.range n).map fun k => p.getD ((a + k) % p.length) 0
theorem cutL_len {p : List Nat} {a n : Nat} : (cutL p a n).length = n := by unfold cutL; rw [List.length_map, List.length_range]
theorem cut_flat {p : List Nat} (hp : 0 < p.length) {a n c : Nat} (h : a % p.length + n ≤ c * p.length) : (((List.replicate c p).flatten.drop (a % p.length)).take n) = cutL p a n := by
  refine List.ext_getElem? fun k => ?_
  unfold cutL
  rcases Nat.lt_or_ge k n with l | l
  · rw [List.getElem?_take_of_lt l, List.getElem?_drop, flat_get c _ (by omega), List.getElem?_map, List.getElem?_range l]
    have e : (a % p.length + k) % p.length = (a + k) % p.length := by rw [Nat.mod_add_mod]
    rw [e]
    have lt : (a + k) % p.length < p.length := Nat.mod_lt _ hp
    rw [List.getElem?_eq_getElem lt]
    show some _ = some (p.getD ((a + k) % p.length) 0)
    rw [List.getD_eq_getElem?_getD, List.getElem?_eq_getElem lt]
    rfl
  · rw [List.getElem?_eq_none (by rw [List.length_take]; omega), List.getElem?_eq_none (by rw [List.length_map, List.length_range]; omega)]
theorem cutL_app {p : List Nat} {a m n : Nat} : cutL p a m ++ cutL p (a + m) n = cutL p a (m + n) := by
  unfold cutL
  rw [List.range_add, List.map_append, List.map_map]
  congr 1
  refine List.map_congr_left fun k _ => ?_
  show _ = p.getD ((a + (m + k)) % p.length) 0
  rw [Nat.add_assoc]
theorem cutL_turn {p : List Nat} {a n : Nat} : cutL p (a + p.length) n = cutL p a n := by
  unfold cutL
  refine List.map_congr_left fun k _ => ?_
  rw [show a + p.length + k = a + k + p.length by omega, Nat.add_mod_right]
/-- c turns from a -/
theorem cutL_turns {p : List Nat} {a : Nat} : ∀ c, (List.replicate c (cutL p a p.length)).flatten = cutL p a (c * p.length)
  | 0 => by rw [Nat.zero_mul]; rfl
  | c + 1 => by
    rw [List.replicate_succ, List.flatten_cons, cutL_turns c, show (c + 1) * p.length = p.length + c * p.length by rw [Nat.succ_mul]; omega, ← cutL_app, cutL_turn]
abbrev Run := Str × Nat
def lenP (r : Run) : Nat := r.1.length * r.2
def lenR (rs : List Run) : Nat := (rs.map lenP).sum
/-- the letter at a place -/
def letA : List Run → Nat → Nat
  | [], _ => 0
  | r :: rs, i => if i < lenP r then r.1.cps.toList.getD (i % r.1.length) 0 else letA rs (i - lenP r)
/-- what cut tells, as a text -/
def cutS2 (p : Str) (a n : Nat) : Str := ⟨(cutL p.cps.toList a n).toArray⟩
theorem cutS2_ll {p : Str} {a n : Nat} : (cutS2 p a n).cps.toList = cutL p.cps.toList a n := by unfold cutS2; simp
theorem cutS2_len {p : Str} {a n : Nat} : (cutS2 p a n).length = n := by
  show (cutS2 p a n).cps.size = n
  rw [← Array.length_toList, cutS2_ll, cutL_len]
/-- runs written out -/
def flatR (rs : List Run) : List Nat := (rs.map fun r => (List.replicate r.2 r.1.cps.toList).flatten).flatten
theorem flatR_nil : flatR [] = [] := rfl
theorem flatR_app {rs rt : List Run} : flatR (rs ++ rt) = flatR rs ++ flatR rt := by unfold flatR; rw [List.map_append, List.flatten_append]
theorem flatR_one {r : Run} : flatR [r] = (List.replicate r.2 r.1.cps.toList).flatten := by unfold flatR; simp
theorem flatR_cons {r : Run} {rs : List Run} : flatR (r :: rs) = (List.replicate r.2 r.1.cps.toList).flatten ++ flatR rs := by unfold flatR; simp
theorem lenR_cons {r : Run} {rs : List Run} : lenR (r :: rs) = lenP r + lenR rs := by unfold lenR; rw [List.map_cons, List.sum_cons]
theorem lenR_app {rs rt : List Run} : lenR (rs ++ rt) = lenR rs + lenR rt := by unfold lenR; rw [List.map_append, List.sum_append]
theorem lenR_nil : lenR [] = 0 := rfl
theorem flatR_len {rs : List Run} : (flatR rs).length = lenR rs := by
  induction rs with
  | nil => rfl
  | cons r t ih =>
    rw [flatR_cons, List.length_append, flat_len, ih, lenR_cons, Array.length_toList]
    congr 1
    exact Nat.mul_comm _ _
end Vk
set_option Elab.async false
set_option maxRecDepth 100000
set_option linter.all false
set_option maxHeartbeats 4000000
namespace Vk
open PySem PySem.Spec PyProof.Rows L2
/-! ## calls with values of the def's own, and with arguments of both kinds -/
structure CalD (P : Program) (w : World) (K : PySem.W.Frag) (mg : Str → Option Value) (base : Heap) (CX : CXT) (k : Nat) (x : Str) (sp : Sp) (dv : List V) : Prop where
  ex : ∃ (f : Addr) (fd : FuncData) (ps : List Str) (ds : List Value), FnG P w K mg base CX k f fd ps sp ∧ mg x = some (.ref f) ∧ PySem.W.keepIn K (.ref f) = true ∧ Vals dv ds ∧ Binds K fd ps ds
structure CalM (P : Program) (w : World) (K : PySem.W.Frag) (mg : Str → Option Value) (base : Heap) (CX : CXT) (k : Nat) (x : Str) (sp : Sp) (m : Nat) (ks : List Str) : Prop where
  ex : ∃ (f : Addr) (fd : FuncData) (ps : List Str), FnG P w K mg base CX k f fd ps sp ∧ mg x = some (.ref f) ∧ PySem.W.keepIn K (.ref f) = true ∧
    ∀ (s : Shared) (us ws : List Value), K.In s.heap → us.length = m → ws.length = ks.length → BindsTo s fd ⟨us, ks.zip ws⟩ (ps.zip (us ++ ws))
section
variable {X : Cx} {CX : CXT} {j k m : Nat} {sp : Sp} {E : XK} {x : Str} {p pos : Pos} {e : Expr} {es : List Expr} {t ta tk : TA} {dv : List V} {kws : List Keyword} {ks : List Str}
end
section
variable {K : PySem.W.Frag} {x y qual : Str} {st : Stmt} {f : Addr} {fd : FuncData} {ps ks : List Str} {m : Nat}
end
end Vk
set_option Elab.async false
set_option maxRecDepth 100000
set_option maxHeartbeats 4000000
set_option linter.all false
namespace Vk
open PySem PySem.Spec PyProof.Rows L2 PySem.W
theorem walkX {l : PySem.W.OpenLaw} {n k : Nat} {q : Program} {loose : List Str} {XP : (Str → Option Value) → Heap → Prop} {YP : World → Heap → Prop} {d : DefRec} {K : Params → PySem.W.Frag} {CX : CXT} {sp : PySem.W.Frag → Sp} {x : Str}
    (hn : l.most = some n) (hn2 : n ≤ sizeLine) (hdf : d.params.defaults = []) (hr : Room k callerA) (hY : ∀ (w : World) (h : Heap), YP w h → (K w.params).In h)
    (F : ∀ (w : World) (mg : Str → Option Value) (fa : Addr) (h : Heap), (K w.params).In h → (∃ s0 mb, PySem.W.Ground q loose [] XP w s0 mg mb h) → mg d.name = some (.ref fa) →
      ∃ fd : FuncData, (∀ (s : Shared) (u : Value), BindsTo s fd ⟨[u], []⟩ [(x, u)]) ∧ ∀ base : Heap, (K w.params).In base → base.Ns mainGlobals mg → FnG l.prog w (K w.params) mg base CX k fa fd [x] (sp (K w.params)))
    (hsp : ∀ (K : PySem.W.Frag) (H : Hp) (a : Addr) (ns : List Int), ns.length ≤ n → Only H → SqL K H a (ns.map V.int) → sp K [.ref a] H (fun v _ => v = .bl true) fun _ _ _ => False)
    (noX : ∀ (H : Hp) (s : Shared) (e : Value) (s2 : Shared), CX [] H s (fun _ _ _ => False) e s2 → False) : PySem.W.WalkO q loose XP YP l.row.toRowW d [] (fun f vs => PySem.call f vs) := by
  refine Att.attach_call hn hdf ?_
  intro w s0 s1 mg mb fa o pm cd doc a vs ns G Y _ _ _ hmg scr hints hlen gens0
  obtain ⟨fd, hb, hF⟩ := F w mg fa _ (hY w _ Y) ⟨s0, mb, G⟩ hmg
  exact lawG (hY w _ Y) G.T.g G.T.b G.T.builtins G.T.nolimit gens0 scr hints (Nat.le_trans hlen hn2) hr hF hb (fun H h1 h2 => hsp _ H a ns hlen h1 h2) (fun H => noX H s1)
end Vk
set_option Elab.async false
set_option maxRecDepth 100000
set_option linter.all false
set_option maxHeartbeats 4000000
namespace Vk
open PySem PySem.Spec PyProof.Rows L2
section
variable {P : Program} {w : World} {K : PySem.W.Frag} {mg : Str → Option Value} {base : Heap}
/-- runs on the heap -/
def RunsV (H : Hp) : List V → List Run → Prop := Paired (fun v (r : Run) => ∃ t, v = V.ref t ∧ H t = some (.tup [.str r.1, .int (r.2 : Nat)]))
theorem RunsV.keep {H H1 : Hp} {xs : List V} {rs : List Run} (h : RunsV H xs rs) (s : Same H H1) : RunsV H1 xs rs := pair_mono (fun v p ⟨t, e, ht⟩ => ⟨t, e, s _ _ ht⟩) h
theorem RunsV.keepT {H H1 : Hp} {xs : List V} {rs : List Run} (h : RunsV H xs rs) (s : ∀ u ws, H u = some (.tup ws) → H1 u = some (.tup ws)) : RunsV H1 xs rs := pair_mono (fun v p ⟨t, e, ht⟩ => ⟨t, e, s _ _ ht⟩) h
/-- runs that a long text may hold -/
def OkRun (r : Run) : Prop := 1 ≤ r.1.length ∧ r.1.length ≤ 40 ∧ 1 ≤ r.2
def OkRs (rs : List Run) : Prop := rs.length ≤ 1000 ∧ ∀ r ∈ rs, OkRun r
def spLenOf : Sp := fun vs H Q _ => ∃ q xs rs, vs = [.ref q] ∧ H q = some (.tup xs) ∧ RunsV H xs rs ∧ OkRs rs ∧ ∀ H', Same H H' → Q (.int (lenR rs : Nat)) H'
theorem lenR_int (rs : List Run) : (rs.map fun r => ((lenP r : Nat) : Int)).sum = ((lenR rs : Nat) : Int) := by
  induction rs with
  | nil => rfl
  | cons a t ih => rw [List.map_cons, List.sum_cons, ih, lenR_cons]; omega
theorem lenP_int (r : Run) : ((r.1.length : Nat) : Int) * ((r.2 : Nat) : Int) = ((lenP r : Nat) : Int) := by unfold lenP; rw [Int.natCast_mul]
theorem cm_len {r : Run} (h : OkRun r) {j : Int} : CMul ((r.1.length : Nat) : Int) j := .inl (by have := h.2.1; omega)
abbrev s_length_of : Stmt := top 21
theorem sc_length_of : FnScope ["runs", "piece", "times"] ["runs"] (defScope s_length_of) := ⟨rfl, rfl, rfl, by decide +kernel, rfl, by decide +kernel, by decide +kernel⟩
theorem b_length_of {f : Addr} {fd : FuncData} (F : Fun K "length_of" "length_of" s_length_of f fd) (T : Txt mg) : FnG P w K mg base CX0 1 f fd ["runs"] spLenOf := by
  refine okG0 F sc_length_of (fun vs H Q E h => ?_) (fun cdv A outer s H vs Q E hg hr h => ?_)
  · obtain ⟨q, xs, rs, rfl, _⟩ := h
    rfl
  · have hu := hu_of hr
    have hu64 := hr.units
    obtain ⟨q, xs, rs, rfl, hq, rw0, ⟨hl, ok⟩, k⟩ := h
    have glen := paired_len rw0
    refine ⟨_, (pss_one (ps_ret (pe_callB (cr_sum rfl) (by rfl) T.sum (by decide +kernel) (pa_cons (pe_lc (own := [("piece", 1), ("times", 2)]) (g := (gTup K 2 (gCons (gName 1) (gCons (gName 2) gNil)))) (tt := tYes) rfl sc_length_of.nd (pi_tup (pv 0)) (blkOk_by (own := [("piece", 1), ("times", 2)]) (N := ["runs", "piece", "times"]) (sc := defScope s_length_of) (by decide +kernel)) (fun _ _ _ _ _ => (pg_tupK (K := K) (n := 2) rfl rfl (pgs_cons (pg_name (i := 1) sc_length_of.nd rfl (Or.inl rfl)) (pgs_cons (pg_name (i := 2) sc_length_of.nd rfl (Or.inl rfl)) pgs_nil)))) (fun _ _ _ _ _ => pts_nil) (fun _ _ _ _ _ => (pe_op op_mul (pe_callB (call_lenK (K := K) rfl) (by rfl) T.len (by decide +kernel) (pa_cons (pv 1) pa_nil)) (pv 2)))) pa_nil)))), ?_⟩
    refine ⟨_, rfl, q, rfl, ⟨_, SqT.of hq⟩, fun D hD => ?_⟩
    have sD := same_new (o := .lst []) hD
    refine lc_tup (K := K) (a := q) (xs := xs) (fun n H' => H' D = some (.lst ((rs.take n).map fun r => V.int (lenP r : Nat))) ∧ Same H H') ?_ ?_ ?_ ?_
    · exact ⟨upd_same, sD⟩
    · rintro n H' _ ⟨_, sm⟩
      exact SqT.of (sm _ _ hq)
    · rintro n v H' hv ⟨hDz, sm⟩
      obtain ⟨r, hr1, t, rfl, ht⟩ := paired_at rw0 hv
      have okr := ok r (List.mem_of_getElem? hr1)
      have zl : r.1.length ≤ sizeLine := Nat.le_of_lt (fewL (by have := okr.2.1; omega))
      refine ⟨t, _, rfl, SqT.of (sm _ _ ht), rfl, _, _, rfl, _, _, rfl, rfl, ?_⟩
      refine ⟨rfl, _, rfl, _, _, rfl, ⟨zl, rfl⟩, _, rfl, _, _, rfl, rfl, cm_len okr, ?_⟩
      refine ⟨_, hDz, fewL (by rw [List.length_map, List.length_take]; omega), ?_, upd_out hD sm⟩
      rw [upd_same, List.take_add_one, hr1, Option.toList_some, List.map_append]
      show some (HO.lst (_ ++ [V.int (((r.1.length : Nat) : Int) * ((r.2 : Nat) : Int))])) = _
      rw [lenP_int]
      rfl
    · rintro H2 ⟨hD2, s2⟩
      rw [List.take_of_length_le (by omega)] at hD2
      refine ⟨D, rs.map (fun r => ((lenP r : Nat) : Int)), rfl, SqL.of ?_, ?_⟩
      · rw [hD2, List.map_map]
        rfl
      · rw [lenR_int]
        exact k _ s2
theorem few_len2 {n : Nat} (h : n ≤ 2000000) : n ≤ sizeLine := by rw [sizeLine_eq]; omega
/-- letters of a piece that is written on and on -/
def spCut : Sp := fun vs H Q _ => ∃ (p : Str) (a n : Nat), vs = [.str p, .int a, .int n] ∧ 1 ≤ p.length ∧ p.length ≤ 1000 ∧ n ≤ 1000 ∧ Q (.str (cutS2 p a n)) H
abbrev s_cut : Stmt := top 22
theorem sc_cut : FnScope ["piece", "first", "number", "begin", "copies"] ["piece", "first", "number"] (defScope s_cut) := ⟨rfl, rfl, rfl, by decide +kernel, rfl, by decide +kernel, by decide +kernel⟩
theorem cut_copies {p : Str} {a n : Nat} (h1 : 1 ≤ p.length) : ∃ c : Nat, ((((a : Int) % (p.length : Nat)) + (n : Nat) - 1) / (p.length : Nat) + 1) = (c : Nat) ∧ a % p.length + n ≤ c * p.length ∧ c ≤ n + 1 := by
  have e1 : ((a : Int) % (p.length : Nat)) = ((a % p.length : Nat) : Int) := (Int.natCast_emod _ _).symm
  have lt := Nat.mod_lt a h1
  rw [e1]
  generalize a % p.length = b at *
  generalize hL : p.length = L at *
  rcases Nat.eq_zero_or_pos (b + n) with z | z
  · refine ⟨0, ?_, by omega, by omega⟩
    have : (((b : Nat) : Int) + ((n : Nat) : Int) - 1) / ((L : Nat) : Int) = -1 := by
      rw [show ((b : Nat) : Int) + ((n : Nat) : Int) - 1 = -1 by omega]
      exact Int.ediv_eq_neg_one_of_neg_of_le (by omega) (by omega)
    rw [this]
    rfl
  · refine ⟨(b + n - 1) / L + 1, ?_, ?_, ?_⟩
    · have : (((b : Nat) : Int) + ((n : Nat) : Int) - 1) / ((L : Nat) : Int) = (((b + n - 1) / L : Nat) : Int) := by
        rw [Int.natCast_ediv]
        congr 1
        omega
      rw [this]
      omega
    · have := Nat.div_add_mod (b + n - 1) L
      have l2 := Nat.mod_lt (b + n - 1) h1
      rw [Nat.succ_mul, Nat.mul_comm]
      omega
    · have : (b + n - 1) / L ≤ n := by
        rcases Nat.eq_zero_or_pos n with q | q
        · subst q
          rw [Nat.div_eq_of_lt (by omega)]
          exact Nat.zero_le _
        · refine Nat.div_le_of_le_mul ?_
          have : L * n = L * (n - 1) + L := by
            rw [← Nat.mul_succ]
            congr 1
            omega
          have : n - 1 ≤ L * (n - 1) := Nat.le_mul_of_pos_left _ h1
          omega
      omega
theorem b_cut {f : Addr} {fd : FuncData} (F : Fun K "cut" "cut" s_cut f fd) (T : Txt mg) : FnG P w K mg base CX0 1 f fd ["piece", "first", "number"] spCut := by
  refine okG0 F sc_cut (fun vs H Q E h => ?_) (fun cdv A outer s H vs Q E hg hr h => ?_)
  · obtain ⟨p, a, n, rfl, _⟩ := h
    rfl
  · have hu := hu_of hr
    have hu64 := hr.units
    obtain ⟨p, a, n, rfl, h1, h2, hn, k⟩ := h
    obtain ⟨c, ec, hc, cn⟩ := cut_copies (a := a) (n := n) h1
    have pl : p.length ≤ sizeLine := few_len h2
    refine ⟨_, (pss_cons (ps_set (i := 3) sc_cut.nd rfl (Or.inl rfl) (pe_op op_mod (pv 1) (pe_callB call_len (by rfl) T.len (by decide +kernel) (pa_cons (pv 0) pa_nil))))
      (pss_cons (ps_set (i := 4) sc_cut.nd rfl (Or.inl rfl) (pe_op op_add (pe_op op_fdiv (pe_op op_sub (pe_op op_add (pv 3) (pv 2)) pe_int) (pe_callB call_len (by rfl) T.len (by decide +kernel) (pa_cons (pv 0) pa_nil))) pe_int))
      (pss_one (ps_ret (pe_slice sl_str (pe_op op_mulS (pv 0) (pv 4)) (po_some (pv 3)) (po_some (pe_op op_add (pv 3) (pv 2)))))))), ?_⟩
    refine ⟨_, rfl, _, rfl, _, _, rfl, ⟨pl, rfl⟩, _, _, rfl, rfl, by omega, ?_⟩
    refine ⟨_, rfl, _, rfl, _, _, rfl, rfl, _, _, rfl, rfl, _, rfl, _, _, rfl, ⟨pl, rfl⟩, _, _, rfl, rfl, ⟨by omega, by omega⟩, _, _, rfl, rfl, ?_⟩
    show gName 4 (V.int ((((a : Int) % (p.length : Nat)) + (n : Nat) - 1) / (p.length : Nat) + 1)) _ H _
    rw [ec]
    have e1 : ((a : Int) % (p.length : Nat)) = ((a % p.length : Nat) : Int) := (Int.natCast_emod _ _).symm
    have b1 : p.length * c ≤ 1000 * 1001 := Nat.mul_le_mul h2 (by omega)
    have ml := mul_len p (c : Nat) (by omega)
    rw [Int.toNat_natCast, Nat.mul_comm] at ml
    refine ⟨_, rfl, _, rfl, p, _, rfl, rfl, ⟨by omega, by omega, by rw [Int.toNat_natCast]; omega, by omega⟩, _, rfl, _, rfl, _, rfl, _, rfl, _, _, rfl, rfl, _, rfl, Txt.mul p (c : Nat), rfl, few_len2 (by omega), ?_⟩
    have hc2 := hc
    rw [Nat.mul_comm] at hc2
    have e2 : ((a % p.length : Nat) : Int) + (n : Nat) = ((a % p.length + n : Nat) : Int) := by omega
    rw [e1, e2, cut_ab (by omega) (by omega), mul_list _ _ (by omega), Int.toNat_natCast, show a % p.length + n - a % p.length = n by omega]
    have e3 := cut_flat (p := p.cps.toList) (a := a) (n := n) (c := c) (by rw [← len_list]; omega) (by rw [← len_list]; exact hc)
    rw [← len_list] at e3
    rw [e3]
    exact k
theorem seq_mid {A B : TS} {D : Ends} {σ : L2.St} {H : Hp} (Mid : L2.St → Hp → Prop) (h1 : ∀ D', (∀ σ H, Mid σ H → D'.nx σ H) → A D' σ H) (h2 : ∀ σ H, Mid σ H → B D σ H) : tSeq A B D σ H := h1 _ h2
theorem name_go {i : Nat} {v : V} {σ : L2.St} {H : Hp} {Q : L2.St → Hp → Prop} (h : Q (σ.set i (some v)) H) : gName i v σ H Q := h
/-- one more run at the end of a list -/
theorem RunsV.more {H : Hp} {l t : Addr} {xs : List V} {rs : List Run} {r : Run} (h : RunsV H xs rs) (hl : H l = some (.lst xs)) (ht : H t = none) : RunsV (upd (upd H t (.tup [.str r.1, .int (r.2 : Nat)])) l (.lst (xs ++ [.ref t]))) (xs ++ [.ref t]) (rs ++ [r]) := by
  have st := same_new (o := .tup [.str r.1, .int (r.2 : Nat)]) ht
  have hl2 := st _ _ hl
  exact Paired.snoc ((h.keep st).keepT (upd_list hl2)) ⟨t, rfl, upd_list hl2 _ _ upd_same⟩
theorem take_snoc {α : Type} {l : List α} {i : Nat} {a : α} (h : l[i]? = some a) : l.take (i + 1) = l.take i ++ [a] := by rw [List.take_add_one, h]; rfl
theorem paired_catR {xs zs : List V} {rs rt : List Run} {H : Hp} : RunsV H xs rs → RunsV H zs rt → RunsV H (xs ++ zs) (rs ++ rt) := paired_app
end
end Vk
set_option Elab.async false
set_option maxRecDepth 100000
set_option maxHeartbeats 4000000
set_option linter.all false
namespace Vk
open PySem PySem.Spec PyProof.Rows L2
/-! ## for i, c in enumerate(x), x a text -/
/-- the letters of x, each in a new pair -/
def Ites (x : Str) : It :=
  ⟨fun i H => i < x.cps.size, fun i H v H' => ∃ T c, v = .ref T ∧ H T = none ∧ H' = upd H T (.tup [.int (i : Nat), .str ⟨#[c]⟩]) ∧ x.cps[i]? = some c, fun i H => x.cps.size = i⟩
theorem turn_enumS {P : Program} {w : World} {K : PySem.W.Frag} {elts : List Expr} {kk : Nat} {tpos : Pos} (x : Str) (t : Tok) (e it : Addr) :
    Turn P w K (.Tuple elts kk tpos) (Ites x) [e, it] e (fun i h => (∃ old, IsEnum h e it ((i : Nat) : Int) old) ∧ h.IsStrIter it (strIterType x) x t i ∧ e ≠ it) where
  mem := by simp
  obj := fun i h st b hb => by
    obtain ⟨⟨old, he⟩, ⟨o, ho, hc, hd⟩, _⟩ := st
    rcases List.mem_cons.mp hb with z | z
    · exact z ▸ ⟨_, he, fun v q => nomatch q⟩
    · rw [List.mem_singleton] at z
      exact z ▸ ⟨o, ho, fun v q => by rw [hd] at q; cases q⟩
  keep := fun i h h' st k => by
    obtain ⟨⟨old, he⟩, ⟨o, ho, r⟩, rest⟩ := st
    exact ⟨⟨old, k e List.mem_cons_self _ he⟩, ⟨o, k it (List.mem_cons_of_mem _ List.mem_cons_self) o ho, r⟩, rest⟩
  item := by
    intro X hP hw hK hc i pins s σ H E I hf st hg
    subst hP hw hK
    obtain ⟨⟨old, he⟩, hit, hne⟩ := st
    have big1 : e < s.heap.objs.size := Heap.lt_size he
    have big2 : it < s.heap.objs.size := by obtain ⟨_, q, _⟩ := hit; exact Heap.lt_size q
    refine wpAny_pyNext_enum_itemD (Draws.text (A := X.A.in1) (I.ok.hd hc) it x t) he hit hg hne (by simp [hne]) fun u2 h2 tk hu2 ho st2 hT hsz hk => ?_
    obtain ⟨c, u, hcx, rfl⟩ := hu2
    refine ⟨_, rfl, wpAny_letOwnedTupleGo_enum (s := { s with heap := h2, toks := tk + 1 }) ho fun h3 he3 sb => ?_⟩
    have hT3 : h3.get? s.heap.objs.size = some { cls := .type "tuple", data := .seq #[.int i tk, .str ⟨#[c]⟩ u] } := (sb.2 _ (Nat.ne_of_gt big1)).trans hT
    have laid : ObjOk X.prog X.w (upd H s.heap.objs.size (.tup [.int (i : Nat), .str ⟨#[c]⟩])) h3 s.heap.objs.size (.tup [.int (i : Nat), .str ⟨#[c]⟩]) := ⟨(by show 2 ≤ sizeLine; decide), [.int i tk, .str ⟨#[c]⟩ u], .cons ⟨_, rfl⟩ (.cons ⟨_, rfl⟩ .nil), ⟨_, hT3, rfl, _, rfl⟩⟩
    have I1 : Inv X pins σ (upd H s.heap.objs.size (.tup [.int (i : Nat), .str ⟨#[c]⟩])) { s with heap := h3, toks := tk + 1 } :=
      I.turnedNew (ch := [e, it]) (fun b ob hb q => (sb.2 b (fun z => hb (by simp [z]))).trans (hk b ob (fun z => hb (by simp [z])) (fun z => hb (by simp [z])) q)) hf (Nat.le_refl _) laid
    refine ⟨.ref s.heap.objs.size, _, I1, rfl, ⟨_, c, rfl, I.hok.fresh (Nat.le_refl _), rfl, hcx⟩, ⟨⟨.str ⟨#[c]⟩ u, ?_⟩, ?_, hne⟩, fun b hb => ?_⟩
    · rw [show ((i + 1 : Nat) : Int) = (i : Int) + 1 by omega]
      exact he3
    · obtain ⟨o2, q2, r2⟩ := st2
      exact ⟨o2, (sb.2 it (Ne.symm hne)).trans q2, r2⟩
    · have old1 : b < s.heap.objs.size := by
        rcases List.mem_cons.mp hb with z | z
        · exact z ▸ big1
        · rw [List.mem_singleton] at z
          exact z ▸ big2
      exact (upd_ne (Nat.ne_of_lt old1)).trans (hf b hb).1
  done := by
    intro X hP hw hK hc i pins s σ H E I hf st hg
    subst hP hw hK
    obtain ⟨⟨old, he⟩, hit, hne⟩ := st
    obtain ⟨f0, f1, f2, f3, f4, f5⟩ := hf it (List.mem_cons_of_mem _ List.mem_cons_self)
    have le : i = x.cps.size := hg.symm
    exact wpAny_pyNext_enum_endD (Draws.text (A := X.A.in1) (I.ok.hd hc) it x t) he (le ▸ hit) fun h' eb => ⟨rfl, I.turned (t' := s.toks) (fun b o hb q => eb b o hb q) f0 f1 f3 f4 f5⟩
  self := fun A i s Q E st h => let ⟨⟨_, he⟩, _⟩ := st; wpAny_pyIter_enum he h
def iEnumS (ta : TA) : TI := fun σ H R => ta σ H fun vs H1 => ∃ x, vs = [.str x] ∧ R (Ites x) H1
theorem pi_enumS {X : Cx} {e : Expr} {ta : TA} {p pos tpos : Pos} {elts : List Expr} {kk : Nat} (gl : Gl X "enumerate") (hm : X.mg "enumerate" = none) (ha : PA X [e] ta) (hs : starEach [e] X.env = [(false, eval e X.env)] := by rfl) :
    PI X (.Tuple elts kk tpos) (.Call (.Name "enumerate" p) [e] [] pos) (iEnumS ta) := by
  refine ⟨fun pins s σ H R I h => Call_ (ld_blt I gl hm boot_enumerate (PyProof.Rows.callWith_type1 (thn (ha.run pos pins s σ H _ I h) fun us s1 hh => ?_) hs rfl))⟩
  obtain ⟨vs, H1, I1, r1, x, rfl, q⟩ := hh
  obtain ⟨u, rfl, ru⟩ := r1.one
  obtain ⟨t, rfl⟩ := ru
  refine call_enumerate_str fun h2 he hit _ hk => wpAny_pyIter_enum he ?_
  have I2 : Inv X pins σ H1 { s1 with heap := h2 } := I1.kept (t' := s1.toks) hk
  refine ⟨s1.heap.objs.size + 1, [s1.heap.objs.size + 1, s1.heap.objs.size], _, _, H1, rfl, I2, turn_enumS x t (s1.heap.objs.size + 1) s1.heap.objs.size, ⟨⟨.none, he⟩, hit, Nat.succ_ne_self _⟩, fun b hb => ?_, q⟩
  have le : s1.heap.objs.size ≤ b := by
    rcases List.mem_cons.mp hb with z | z
    · rw [z]; exact Nat.le_succ _
    · rw [List.mem_singleton.mp z]; exact Nat.le_refl _
  exact I1.fpOk le (I1.hok.fresh le)
/-! ## loops over these -/
theorem for_enumS {x : Str} {g : TG} {tb : TS} {D : Ends} {σ : L2.St} {H : Hp} (Pv : Nat → L2.St → Hp → Prop) (h0 : Pv 0 σ H)
    (hs : ∀ i c σ H T, x.cps[i]? = some c → H T = none → Pv i σ H → g (.ref T) σ (upd H T (.tup [.int (i : Nat), .str ⟨#[c]⟩])) fun σ2 H2 => tb { D with nx := Pv (i + 1), ct := Pv (i + 1), bk := D.nx } σ2 H2) (hd : ∀ σ H, Pv x.cps.size σ H → D.nx σ H) :
    ∃ W : Nat → Nat → L2.St → Hp → Prop, (∃ m, W 0 m σ H) ∧ ∀ i m σ H, W i m σ H →
      ((Ites x).stop i H ∧ D.nx σ H) ∨ ((Ites x).go i H ∧ ∃ N : L2.St → Hp → Prop, (∀ σ' H', N σ' H' → ∃ m', m' < m ∧ W (i + 1) m' σ' H') ∧ ∀ x1 H', (Ites x).yld i H x1 H' → g x1 σ H' fun σ2 H2 => tb { D with nx := N, ct := N, bk := D.nx } σ2 H2) := by
  refine ⟨fun i m σ H => m = x.cps.size - i ∧ i ≤ x.cps.size ∧ Pv i σ H, ⟨x.cps.size, by simp, Nat.zero_le _, h0⟩, ?_⟩
  rintro i m σ H ⟨rfl, hi, p⟩
  by_cases hlt : i < x.cps.size
  · refine .inr ⟨hlt, Pv (i + 1), fun σ' H' p' => ⟨x.cps.size - (i + 1), by omega, rfl, hlt, p'⟩, ?_⟩
    rintro x1 H' ⟨T, c, rfl, hT, rfl, hc⟩
    exact hs i c σ H T hc hT p
  · have e : i = x.cps.size := by omega
    subst e
    exact .inl ⟨rfl, hd σ H p⟩
end Vk
set_option Elab.async false
set_option maxRecDepth 100000
set_option linter.all false
set_option maxHeartbeats 4000000
namespace Vk
open PySem PySem.Spec PyProof.Rows L2
/-! ## an iteration of one of two kinds; enumerate over a tuple -/
theorem for_enumT {a : Addr} {xs : List V} {g : TG} {tb : TS} {D : Ends} {σ : L2.St} {H : Hp} (Pv : Nat → L2.St → Hp → Prop) (h0 : Pv 0 σ H) (hl : ∀ i σ H, i ≤ xs.length → Pv i σ H → H a = some (.tup xs))
    (hs : ∀ i v σ H T, xs[i]? = some v → H T = none → Pv i σ H → g (.ref T) σ (upd H T (.tup [.int (i : Nat), v])) fun σ2 H2 => tb { D with nx := Pv (i + 1), ct := Pv (i + 1), bk := D.nx } σ2 H2) (hd : ∀ σ H, Pv xs.length σ H → D.nx σ H) :
    ∃ W : Nat → Nat → L2.St → Hp → Prop, (∃ m, W 0 m σ H) ∧ ∀ i m σ H, W i m σ H →
      ((Itet a).stop i H ∧ D.nx σ H) ∨ ((Itet a).go i H ∧ ∃ N : L2.St → Hp → Prop, (∀ σ' H', N σ' H' → ∃ m', m' < m ∧ W (i + 1) m' σ' H') ∧ ∀ x1 H', (Itet a).yld i H x1 H' → g x1 σ H' fun σ2 H2 => tb { D with nx := N, ct := N, bk := D.nx } σ2 H2) := by
  refine ⟨fun i m σ H => m = xs.length - i ∧ i ≤ xs.length ∧ Pv i σ H, ⟨xs.length, by simp, Nat.zero_le _, h0⟩, ?_⟩
  rintro i m σ H ⟨rfl, hi, p⟩
  have q := hl i σ H hi p
  by_cases hlt : i < xs.length
  · refine .inr ⟨⟨xs, xs[i], q, by simp [hlt]⟩, Pv (i + 1), fun σ' H' p' => ⟨xs.length - (i + 1), by omega, rfl, hlt, p'⟩, ?_⟩
    rintro x1 H' ⟨T, v, xs', rfl, hT, rfl, hq, hv⟩
    rw [q] at hq
    cases hq
    exact hs i v σ H T hv hT p
  · have e : i = xs.length := by omega
    subst e
    exact .inl ⟨⟨xs, q, rfl⟩, hd σ H p⟩
end Vk
set_option Elab.async false
set_option maxRecDepth 100000
set_option linter.all false
set_option maxHeartbeats 4000000
namespace Vk
open PySem PySem.Spec PyProof.Rows L2
section
variable {P : Program} {w : World} {K : PySem.W.Frag} {mg : Str → Option Value} {base : Heap}
abbrev s_first_unlike_letter : Stmt := top 26
abbrev s_is_new : Stmt := top 15
theorem sc_is_new : FnScope ["value"] ["value"] (defScope s_is_new) := ⟨rfl, rfl, rfl, by decide +kernel, rfl, by decide +kernel, by decide +kernel⟩
theorem b_is_new {f : Addr} {fd : FuncData} (F : Fun K "is_new" "is_new" s_is_new f fd) (T : Txt mg) (c_is_text : CalG P w K mg base CX0 1 "is_text" (spTest isT)) (g_MAX_WORD : ∃ u, mg "MAX_WORD" = some u ∧ RelV (.int 40) u) : FnG P w K mg base CX0 2 f fd ["value"] (spTest isNew) := by
  refine okG0 F sc_is_new (fun vs H Q E h => ?_) (fun cdv A outer s H vs Q E hg hr h => ?_)
  · obtain ⟨v, d, rfl, _⟩ := h
    rfl
  · have hu := hu_of hr
    have hu64 := hr.units
    obtain ⟨v, d, rfl, th, sr, k⟩ := h
    refine ⟨_, (pss_one (ps_ret (pe_and (pe_cG c_is_text hg hr (by decide) pass0 (pa_cons (pv 0) pa_nil)) (pe_one (pe_cmpR op_le (pe_callB call_len (by rfl) T.len (by decide +kernel) (pa_cons (pv 0) pa_nil)) (C8.pe_gc (by rfl) g_MAX_WORD) (nomark _)))))), ?_⟩
    refine ⟨_, rfl, v, d, rfl, th, sr, _, rfl, ?_⟩
    match hT : isT d with
    | false =>
      have e : isNew d = false := by unfold isNew; rw [hT, Bool.false_and]
      rw [e] at k
      exact iteF k
    | true =>
      obtain ⟨z, rfl⟩ := isT_str hT
      cases th_str th
      rw [isNew, hT] at k
      exact iteT ⟨_, rfl, _, _, rfl, ⟨few_len sr.1, rfl⟩, _, _, rfl, rfl, k⟩
abbrev s_is_old : Stmt := top 16
theorem sc_is_old : FnScope ["value"] ["value"] (defScope s_is_old) := ⟨rfl, rfl, rfl, by decide +kernel, rfl, by decide +kernel, by decide +kernel⟩
theorem b_is_old {f : Addr} {fd : FuncData} (F : Fun K "is_old" "is_old" s_is_old f fd) (T : Txt mg) (c_is_new : CalG P w K mg base CX0 2 "is_new" (spTest isNew)) : FnG P w K mg base CX0 3 f fd ["value"] (spTest isOld) := by
  refine okG0 F sc_is_old (fun vs H Q E h => ?_) (fun cdv A outer s H vs Q E hg hr h => ?_)
  · obtain ⟨v, d, rfl, _⟩ := h
    rfl
  · have hu := hu_of hr
    have hu64 := hr.units
    obtain ⟨v, d, rfl, th, sr, k⟩ := h
    refine ⟨_, (pss_one (ps_ret (pe_and (pe_cG c_is_new hg hr (by decide) pass0 (pa_cons (pv 0) pa_nil)) (pe_one (pe_cmpR op_ne (pv 0) pe_str (nomark _)))))), ?_⟩
    refine ⟨_, rfl, v, d, rfl, th, sr, _, rfl, ?_⟩
    match hT : isNew d with
    | false =>
      have e : isOld d = false := by unfold isOld; rw [hT, Bool.false_and]
      rw [e] at k
      exact iteF k
    | true =>
      obtain ⟨z, rfl⟩ := isNew_str hT
      cases th_str th
      rw [isOld, hT] at k
      exact iteT ⟨_, rfl, rfl, k⟩
/-- a run that may be given -/
def FitRun (r : Run) : Prop := OkRun r ∧ isOld (.str r.1) = true ∧ PyData.strOk r.1 = true ∧ r.2 ≤ 10 ^ 30
def spIsRun : Sp := fun vs H Q _ => ∃ (t : Addr) (r : Run), vs = [.ref t] ∧ H t = some (.tup [.str r.1, .int (r.2 : Nat)]) ∧ FitRun r ∧ Q (.bl true) H
abbrev s_is_run : Stmt := top 34
theorem sc_is_run : FnScope ["value"] ["value"] (defScope s_is_run) := ⟨rfl, rfl, rfl, by decide +kernel, rfl, by decide +kernel, by decide +kernel⟩
theorem b_is_run {f : Addr} {fd : FuncData} (F : Fun K "is_run" "is_run" s_is_run f fd) (T : Txt mg) (c_is_old : CalG P w K mg base CX0 3 "is_old" (spTest isOld)) (c_is_integer_in : CalG P w K mg base CX0 2 "is_integer_in" spInI) (g_MAX_TIMES : ∃ u, mg "MAX_TIMES" = some u ∧ RelV (.int 1000000000000000000000000000000) u) : FnG P w K mg base CX0 4 f fd ["value"] spIsRun := by
  refine okG0 F sc_is_run (fun vs H Q E h => ?_) (fun cdv A outer s H vs Q E hg hr h => ?_)
  · obtain ⟨t, r, rfl, _⟩ := h
    rfl
  · have hu := hu_of hr
    have hu64 := hr.units
    obtain ⟨t, r, rfl, ht, ⟨ok, old, so, mx⟩, k⟩ := h
    have th : Th H (.ref t) (.tuple [.str r.1, .int (r.2 : Nat)]) := .tup ht (.cons (.str _) (.cons (.int _) .nil))
    obtain ⟨ty, b, tyx, kt, hb⟩ := kit_tup (K := K) th
    subst hb
    refine ⟨_, (pss_one (ps_ret (pe_and (pe_callB call_isi (by rfl) T.isinstance (by decide +kernel) (pa_cons (pv 0) (pa_cons (pe_bltn (v := .ty "tuple") (by rfl) T.tuple rfl rfl) pa_nil))) (pe_and (pe_cmpR op_eq (pe_callB call_len (by rfl) T.len (by decide +kernel) (pa_cons (pv 0) pa_nil)) pe_int (nomark _)) (pe_and (pe_cG c_is_old hg hr (by decide) pass0 (pa_cons (pe_ix ix_tup (pv 0) pe_int (fun _ _ => rfl)) pa_nil)) (pe_one (pe_cG c_is_integer_in hg hr (by decide) pass0 (pa_cons (pe_ix ix_tup (pv 0) pe_int (fun _ _ => rfl)) (pa_cons pe_int (pa_cons (C8.pe_gc (by rfl) g_MAX_TIMES) pa_nil)))))))))), ?_⟩
    refine ⟨_, rfl, .ref t, .ty "tuple", ty, .type "tuple", true, rfl, .ty "tuple", tyx, kt, _, rfl, iteT ?_⟩
    refine ⟨_, rfl, _, _, rfl, .inr ⟨_, SqT.of ht, rfl⟩, rfl, _, rfl, iteT ?_⟩
    refine ⟨_, rfl, t, _, 0, _, rfl, rfl, SqT.of ht, rfl, .str r.1, .str r.1, rfl, .atm (.str _), ⟨Nat.le_trans ok.2.1 (by decide), so⟩, _, rfl, ?_⟩
    rw [old]
    refine iteT ?_
    refine ⟨_, rfl, t, _, 1, _, rfl, rfl, SqT.of ht, rfl, .int (r.2 : Nat), .int (r.2 : Nat), 1, _, rfl, .atm (.int _), ?_⟩
    have e : inI (.int ((r.2 : Nat) : Int)) 1 1000000000000000000000000000000 = true := by
      show (decide _ && decide _) = true
      rw [decide_eq_true (show (1 : Int) ≤ ((r.2 : Nat) : Int) by have := ok.2.2; omega), decide_eq_true (show ((r.2 : Nat) : Int) ≤ 1000000000000000000000000000000 by have h2 : r.2 ≤ 1000000000000000000000000000000 := mx; omega)]
      rfl
    rw [e]
    exact k
abbrev s_check_runs : Stmt := top 35
theorem sc_check_runs : FnScope ["runs", "index", "run"] ["runs"] (defScope s_check_runs) := ⟨rfl, rfl, rfl, by decide +kernel, rfl, by decide +kernel, by decide +kernel⟩
def spChkRuns : Sp := fun vs H Q _ => ∃ (q : Addr) (xs : List V) (rs : List Run), vs = [.ref q] ∧ H q = some (.tup xs) ∧ RunsV H xs rs ∧ rs.length ≤ 20 ∧ (∀ r ∈ rs, FitRun r) ∧ ∀ H', Same H H' → Q .non H'
theorem b_check_runs {f : Addr} {fd : FuncData} (F : Fun K "check_runs" "check_runs" s_check_runs f fd) (T : Txt mg) (c_is_run : CalG P w K mg base CX0 4 "is_run" spIsRun) (g_MAX_RUNS : ∃ u, mg "MAX_RUNS" = some u ∧ RelV (.int 20) u) : FnG P w K mg base CX0 5 f fd ["runs"] spChkRuns := by
  refine okG0 F sc_check_runs (fun vs H Q E h => ?_) (fun cdv A outer s H vs Q E hg hr h => ?_)
  · obtain ⟨q, xs, rs, rfl, _⟩ := h
    rfl
  · have hu := hu_of hr
    have hu64 := hr.units
    obtain ⟨q, xs, rs, rfl, hq, rw0, hl, ok, k⟩ := h
    have glen := paired_len rw0
    refine ⟨_, (pss_cons (ps_for PassesOwn.never rfl (pi_enumT (by rfl) T.enumerate (pa_cons (pv 0) pa_nil)) (pg_tup rfl (pgs_cons (pg_name (i := 1) sc_check_runs.nd rfl (Or.inl rfl)) (pgs_cons (pg_name (i := 2) sc_check_runs.nd rfl (Or.inl rfl)) pgs_nil))) (pss_one (ps_if (pt_not (pt_val (pe_cG c_is_run hg hr (by decide) pass0 (pa_cons (pv 2) pa_nil)))) (pss_one ps_never) pss_nil)))
      (pss_one (ps_if (pt_cmpR op_gt (pe_callB call_len (by rfl) T.len (by decide +kernel) (pa_cons (pv 0) pa_nil)) (C8.pe_gc (by rfl) g_MAX_RUNS) (nomark _)) (pss_one ps_never) pss_nil))), ?_⟩
    refine ⟨_, rfl, q, _, rfl, hq, for_enumT (xs := xs) (fun i σ H2 => (∃ o1 o2, σ = [some (.ref q), o1, o2]) ∧ Same H H2) ⟨⟨_, _, rfl⟩, Same.rfl⟩ ?_ ?_ ?_⟩
    · rintro i σ H2 _ ⟨_, sm⟩
      exact sm _ _ hq
    · rintro i v σ H2 T2 hv hT ⟨⟨o1, o2, rfl⟩, sm⟩
      obtain ⟨r, hr1, t, rfl, ht⟩ := paired_at rw0 hv
      have s2 := same_new (o := .tup [.int (i : Nat), .ref t]) hT
      refine ⟨T2, _, rfl, SqT.of upd_same, rfl, _, _, rfl, _, _, rfl, rfl, ?_⟩
      refine ⟨_, rfl, t, r, rfl, s2 _ _ (sm _ _ ht), ok r (List.mem_of_getElem? hr1), _, rfl, ?_⟩
      refine iteF ⟨⟨_, _, rfl⟩, sm.trans s2⟩
    · rintro σ H2 ⟨⟨o1, o2, rfl⟩, sm⟩
      refine ⟨_, rfl, _, _, rfl, .inr ⟨_, SqT.of (sm _ _ hq), rfl⟩, _, _, rfl, rfl, _, rfl, ?_⟩
      rw [decide_eq_false (show ¬ (20 : Int) < ((xs.length : Nat) : Int) by omega)]
      exact iteF (k _ sm)
end
end Vk
set_option Elab.async false
set_option maxRecDepth 100000
set_option linter.all false
set_option maxHeartbeats 4000000
namespace Vk
open PySem PySem.Spec PyProof.Rows L2
/-! ## the first difference of two rows of letters -/
def fdL : List Nat → List Nat → Nat → Option Nat
  | a :: as, b :: bs, i => if a = b then fdL as bs (i + 1) else some i
  | [], [], _ => none
  | [], _ :: _, i => some i
  | _ :: _, [], i => some i
theorem fdL_same : ∀ (as : List Nat) (i : Nat), fdL as as i = none
  | [], _ => rfl
  | a :: as, i => by rw [fdL, if_pos rfl]; exact fdL_same as (i + 1)
theorem fdL_none : ∀ {as bs : List Nat} {i : Nat}, fdL as bs i = none → as = bs
  | [], [], _, _ => rfl
  | [], _ :: _, _, h => by simp [fdL] at h
  | _ :: _, [], _, h => by simp [fdL] at h
  | a :: as, b :: bs, i, h => by
    rw [fdL] at h
    split at h
    · rename_i e
      rw [e, fdL_none h]
    · cases h
theorem fdL_symm : ∀ (as bs : List Nat) (i : Nat), fdL as bs i = fdL bs as i
  | [], [], _ => rfl
  | [], _ :: _, _ => rfl
  | _ :: _, [], _ => rfl
  | a :: as, b :: bs, i => by
    rw [fdL, fdL]
    by_cases e : a = b
    · rw [if_pos e, if_pos e.symm]
      exact fdL_symm as bs (i + 1)
    · rw [if_neg e, if_neg (fun z => e z.symm)]
/-- a common beginning -/
theorem fdL_app : ∀ (cs as bs : List Nat) (i : Nat), fdL (cs ++ as) (cs ++ bs) i = fdL as bs (i + cs.length)
  | [], _, _, _ => rfl
  | c :: cs, as, bs, i => by
    rw [List.cons_append, List.cons_append, fdL, if_pos rfl, fdL_app cs as bs (i + 1), List.length_cons]
    congr 1
    omega
/-- beginnings of one length that differ -/
theorem fdL_cut : ∀ {as bs xs ys : List Nat} {i k : Nat}, as.length = bs.length → fdL as bs i = some k → fdL (as ++ xs) (bs ++ ys) i = some k
  | [], [], _, _, _, _, _, h => by cases h
  | [], _ :: _, _, _, _, _, e, _ => by simp at e
  | _ :: _, [], _, _, _, _, e, _ => by simp at e
  | a :: as, b :: bs, xs, ys, i, k, e, h => by
    rw [fdL] at h
    rw [List.cons_append, List.cons_append, fdL]
    split
    · rename_i z
      rw [if_pos z] at h
      exact fdL_cut (by simpa using e) h
    · rename_i z
      rw [if_neg z] at h
      exact h
theorem fdL_shift : ∀ (as bs : List Nat) (i j : Nat), fdL as bs (i + j) = (fdL as bs i).map (· + j)
  | [], [], _, _ => rfl
  | [], _ :: _, _, _ => rfl
  | _ :: _, [], _, _ => rfl
  | a :: as, b :: bs, i, j => by
    rw [fdL, fdL]
    split
    · rw [show i + j + 1 = i + 1 + j by omega]
      exact fdL_shift as bs (i + 1) j
    · rfl
/-- where two rows differ first -/
theorem fdL_at : ∀ {as bs : List Nat} {i k : Nat}, (∀ j < k, as[j]? = bs[j]?) → as[k]? ≠ bs[k]? → fdL as bs i = some (i + k)
  | [], [], _, k, _, h => absurd rfl h
  | [], b :: bs, i, 0, _, _ => rfl
  | [], b :: bs, i, k + 1, h, _ => by have := h 0 (Nat.succ_pos _); simp at this
  | a :: as, [], i, 0, _, _ => rfl
  | a :: as, [], i, k + 1, h, _ => by have := h 0 (Nat.succ_pos _); simp at this
  | a :: as, b :: bs, i, 0, _, h => by
    rw [fdL, if_neg (fun e => h (by rw [e]; rfl))]
    rfl
  | a :: as, b :: bs, i, k + 1, h, hk => by
    have e : a = b := by have := h 0 (Nat.succ_pos _); simpa using this
    rw [fdL, if_pos e, fdL_at (k := k) (fun j hj => by have := h (j + 1) (Nat.succ_lt_succ hj); simpa using this) (by simpa using hk)]
    congr 1
    omega
theorem fdL_some : ∀ {as bs : List Nat} {i k : Nat}, fdL as bs i = some k → ∃ m, k = i + m ∧ (∀ j < m, as[j]? = bs[j]?) ∧ as[m]? ≠ bs[m]?
  | [], [], _, _, h => by cases h
  | [], b :: bs, i, k, h => by
    cases h
    exact ⟨0, rfl, fun j hj => absurd hj (Nat.not_lt_zero _), by simp⟩
  | a :: as, [], i, k, h => by
    cases h
    exact ⟨0, rfl, fun j hj => absurd hj (Nat.not_lt_zero _), by simp⟩
  | a :: as, b :: bs, i, k, h => by
    rw [fdL] at h
    split at h
    · rename_i e
      obtain ⟨m, h1, h2, h3⟩ := fdL_some h
      refine ⟨m + 1, by omega, fun j hj => ?_, by simpa using h3⟩
      cases j with
      | zero => simp [e]
      | succ j => simpa using h2 j (by omega)
    · rename_i e
      cases h
      exact ⟨0, rfl, fun j hj => absurd hj (Nat.not_lt_zero _), by simpa using e⟩
/-! ## pieces that come again and agree long enough agree for ever -/
def ext2 (p : List Nat) (a k : Nat) : Nat := p.getD ((a + k) % p.length) 0
theorem ext2_turn {p : List Nat} {a k : Nat} : ext2 p a (k + p.length) = ext2 p a k := by
  unfold ext2
  rw [show a + (k + p.length) = a + k + p.length by omega, Nat.add_mod_right]
theorem ext_agree {p q : List Nat} {a b : Nat} (hp : 0 < p.length) (hq : 0 < q.length) (h : ∀ k < p.length + q.length, ext2 p a k = ext2 q b k) : ∀ n, ext2 p a n = ext2 q b n := by
  intro n
  induction n using Nat.strongRecOn with
  | ind n ih =>
    by_cases l : n < p.length + q.length
    · exact h n l
    · have e1 : ext2 p a n = ext2 p a (n - p.length) := by
        have := ext2_turn (p := p) (a := a) (k := n - p.length)
        rw [← this]
        congr 1
        omega
      have e2 : ext2 q b (n - p.length) = ext2 q b (n - p.length - q.length) := by
        have := ext2_turn (p := q) (a := b) (k := n - p.length - q.length)
        rw [← this]
        congr 1
        omega
      have e3 : ext2 p a (n - q.length) = ext2 p a (n - p.length - q.length) := by
        have := ext2_turn (p := p) (a := a) (k := n - p.length - q.length)
        rw [← this]
        congr 1
        omega
      have e4 : ext2 q b n = ext2 q b (n - q.length) := by
        have := ext2_turn (p := q) (a := b) (k := n - q.length)
        rw [← this]
        congr 1
        omega
      rw [e1, ih (n - p.length) (by omega), e2, ← ih (n - p.length - q.length) (by omega), ← e3, ih (n - q.length) (by omega), e4]
theorem cutL_get {p : List Nat} {a n k : Nat} (h : k < n) : (cutL p a n)[k]? = some (ext2 p a k) := by
  unfold cutL
  rw [List.getElem?_map, List.getElem?_range h]
  rfl
theorem cutL_eq {p q : List Nat} {a b n : Nat} : cutL p a n = cutL q b n ↔ ∀ k < n, ext2 p a k = ext2 q b k := by
  constructor
  · intro h k hk
    have e := congrArg (fun l => l[k]?) h
    rw [cutL_get hk, cutL_get hk] at e
    exact Option.some.inj e
  · intro h
    refine List.ext_getElem? fun k => ?_
    rcases Nat.lt_or_ge k n with l | l
    · rw [cutL_get l, cutL_get l, h k l]
    · rw [List.getElem?_eq_none (by rw [cutL_len]; exact l), List.getElem?_eq_none (by rw [cutL_len]; exact l)]
/-- equal on as many letters as both pieces have: equal on any number -/
theorem cutL_agree {p q : List Nat} {a b n m : Nat} (hp : 0 < p.length) (hq : 0 < q.length) (h : cutL p a n = cutL q b n) (hn : n = m ∨ p.length + q.length ≤ n) : cutL p a m = cutL q b m := by
  rcases hn with rfl | hn
  · exact h
  · exact cutL_eq.mpr fun k _ => ext_agree hp hq (fun j hj => cutL_eq.mp h j (by omega)) k
/-! ## what is left of runs behind the done letters of the run with an index -/
def remR (rs : List Run) (i d : Nat) : List Nat := match rs.drop i with
  | [] => []
  | r :: t => cutL r.1.cps.toList d (lenP r - d) ++ flatR t
theorem flat_cut {r : Run} : (List.replicate r.2 r.1.cps.toList).flatten = cutL r.1.cps.toList 0 (lenP r) := by
  have e : r.1.cps.toList.length = r.1.length := Array.length_toList
  have := cutL_turns (p := r.1.cps.toList) (a := 0) r.2
  have self : cutL r.1.cps.toList 0 r.1.cps.toList.length = r.1.cps.toList := by
    refine List.ext_getElem? fun k => ?_
    rcases Nat.lt_or_ge k r.1.cps.toList.length with l | l
    · rw [cutL_get l]
      unfold ext2
      rw [Nat.zero_add, Nat.mod_eq_of_lt l, List.getD_eq_getElem?_getD, List.getElem?_eq_getElem l]
      rfl
    · rw [List.getElem?_eq_none (by rw [cutL_len]; exact l), List.getElem?_eq_none l]
  rw [self] at this
  rw [this, e, Nat.mul_comm]
  rfl
theorem remR_zero {rs : List Run} {i : Nat} : remR rs i 0 = flatR (rs.drop i) := by
  unfold remR
  cases h : rs.drop i with
  | nil => rfl
  | cons r t =>
    rw [flatR_cons, flat_cut]
    rfl
theorem remR_at {rs : List Run} {i d : Nat} {r : Run} (h : rs[i]? = some r) : remR rs i d = cutL r.1.cps.toList d (lenP r - d) ++ flatR (rs.drop (i + 1)) := by
  unfold remR
  obtain ⟨l, e⟩ := List.getElem?_eq_some_iff.mp h
  rw [List.drop_eq_getElem_cons l, e]
theorem remR_end {rs : List Run} {i d : Nat} (h : rs.length ≤ i) : remR rs i d = [] := by
  unfold remR
  rw [List.drop_eq_nil_of_le h]
/-- the remaining letters, some of them told apart -/
theorem remR_some {rs : List Run} {i d n : Nat} {r : Run} (h : rs[i]? = some r) (hn : d + n ≤ lenP r) : remR rs i d = cutL r.1.cps.toList d n ++ (cutL r.1.cps.toList (d + n) (lenP r - (d + n)) ++ flatR (rs.drop (i + 1))) := by
  rw [remR_at h, ← List.append_assoc, cutL_app]
  congr 2
  omega
theorem remR_next {rs : List Run} {i d n : Nat} {r : Run} (h : rs[i]? = some r) (hn : d + n ≤ lenP r) : cutL r.1.cps.toList (d + n) (lenP r - (d + n)) ++ flatR (rs.drop (i + 1)) = (if d + n = lenP r then remR rs (i + 1) 0 else remR rs i (d + n)) := by
  split
  · rename_i e
    rw [e, Nat.sub_self, remR_zero]
    rfl
  · rw [remR_at h]
end Vk
set_option Elab.async false
set_option maxRecDepth 100000
set_option linter.all false
set_option maxHeartbeats 4000000
namespace Vk
open PySem PySem.Spec PyProof.Rows L2 StX
section
variable {P : Program} {w : World} {K : PySem.W.Frag} {mg : Str → Option Value} {base : Heap}
/-- the first index at which two texts of one length that differ do so -/
def spFul : Sp := fun vs H Q _ => ∃ (x y : Str) (k : Nat), vs = [.str x, .str y] ∧ x.length = y.length ∧ x.length ≤ 1000 ∧ fdL x.cps.toList y.cps.toList 0 = some k ∧ ∀ H', Same H H' → Q (.int (k : Nat)) H'
theorem sc_first_unlike_letter : FnScope ["one", "other", "index", "letter"] ["one", "other"] (defScope s_first_unlike_letter) := ⟨rfl, rfl, rfl, by decide +kernel, rfl, by decide +kernel, by decide +kernel⟩
theorem b_first_unlike_letter {f : Addr} {fd : FuncData} (F : Fun K "first_unlike_letter" "first_unlike_letter" s_first_unlike_letter f fd) (T : Txt mg) : FnG P w K mg base CX0 1 f fd ["one", "other"] spFul := by
  refine okG0 F sc_first_unlike_letter (fun vs H Q E h => ?_) (fun cdv A outer s H vs Q E hg hr h => ?_)
  · obtain ⟨x, y, k0, rfl, _⟩ := h
    rfl
  · have hu := hu_of hr
    have hu64 := hr.units
    obtain ⟨x, y, m, rfl, hl, hx, hf, k⟩ := h
    have xe : x.cps.toList.length = x.length := Array.length_toList
    have ye : y.cps.toList.length = y.length := Array.length_toList
    have yl : y.length ≤ sizeLine := few_len (by omega)
    obtain ⟨m', em, h1, h2⟩ := fdL_some hf
    rw [Nat.zero_add] at em
    subst em
    have ml : m < x.length := by
      rcases Nat.lt_or_ge m x.length with l | l
      · exact l
      · rw [List.getElem?_eq_none (by omega), List.getElem?_eq_none (by omega)] at h2
        exact absurd rfl h2
    refine ⟨_, (pss_cons (ps_for PassesOwn.never rfl (pi_enumS (by rfl) T.enumerate (pa_cons (pv 0) pa_nil)) (pg_tup rfl (pgs_cons (pg_name (i := 2) sc_first_unlike_letter.nd rfl (Or.inl rfl)) (pgs_cons (pg_name (i := 3) sc_first_unlike_letter.nd rfl (Or.inl rfl)) pgs_nil))) (pss_one (ps_if (pt_cmpR op_ne (pv 3) (pe_ix ix_str (pv 1) (pv 2) (fun _ _ => rfl)) (nomark _)) (pss_one (ps_ret (pv 2))) pss_nil)))
      (pss_one (ps_ret (pe_callB call_len (by rfl) T.len (by decide +kernel) (pa_cons (pv 0) pa_nil))))), ?_⟩
    refine ⟨_, rfl, x, rfl, for_enumS (fun i σ H2 => ∃ o2 o3 : Option V, σ = [some (.str x), some (.str y), o2, o3] ∧ i ≤ m ∧ Same H H2) ?_ ?_ ?_⟩
    · exact ⟨_, _, rfl, Nat.zero_le _, Same.rfl⟩
    · rintro i c σ H2 t hc ht ⟨o2, o3, rfl, im, sm⟩
      have st := same_new (o := .tup [.int (i : Nat), .str ⟨#[c]⟩]) ht
      have hc2 : x.cps.toList[i]? = some c := by rw [Array.getElem?_toList]; exact hc
      refine ⟨t, _, rfl, SqT.of upd_same, rfl, _, _, rfl, _, _, rfl, rfl, ?_⟩
      have il : i < y.cps.toList.length := by omega
      refine ⟨_, rfl, _, rfl, _, rfl, y, _, y.cps.toList[i], rfl, rfl, yl, atI_nat (List.getElem?_eq_getElem il), ?_⟩
      refine ⟨rfl, _, rfl, ?_⟩
      rcases Nat.lt_or_ge i m with l | l
      · have e := h1 i l
        rw [hc2, List.getElem?_eq_getElem il] at e
        have e := Option.some.inj e
        rw [← e]
        exact iteNS rfl ⟨_, _, rfl, l, sm.trans st⟩
      · have ei : i = m := by omega
        subst ei
        have ne : c ≠ y.cps.toList[i] := fun e => h2 (by rw [hc2, List.getElem?_eq_getElem il, e])
        have dn : (!decide (V.str ⟨#[c]⟩ = V.str ⟨#[y.cps.toList[i]]⟩)) = true := by
          rw [decide_eq_false (fun z => ne (by
            have := congrArg (fun v => match v with | V.str s => s.cps.toList | _ => []) z
            simpa using this))]
          rfl
        show if (!decide (V.str ⟨#[c]⟩ = V.str ⟨#[y.cps.toList[i]]⟩)) = true then _ else _
        rw [dn]
        exact iteT ⟨_, rfl, k _ (sm.trans st)⟩
    · rintro σ H2 ⟨o2, o3, rfl, im, sm⟩
      have : x.cps.size = x.length := rfl
      omega
def oV : Option Nat → V
  | none => .non
  | some k => .int (k : Nat)
/-- where two long texts differ first -/
def spUnlike : Sp := fun vs H Q _ => ∃ (q u : Addr) (xs zs : List V) (rs rt : List Run), vs = [.ref q, .ref u] ∧ H q = some (.tup xs) ∧ RunsV H xs rs ∧ H u = some (.tup zs) ∧ RunsV H zs rt ∧ OkRs rs ∧ OkRs rt ∧ ∀ H', Same H H' → Q (oV (fdL (flatR rs) (flatR rt) 0)) H'
abbrev s_first_unlike : Stmt := top 27
theorem sc_first_unlike : FnScope ["runs", "others", "place", "index", "other_index", "done", "other_done", "piece", "times", "other_piece", "other_times", "room", "seen", "one", "other"] ["runs", "others"] (defScope s_first_unlike) := ⟨rfl, rfl, rfl, by decide +kernel, rfl, by decide +kernel, by decide +kernel⟩
theorem remR_ne {rs : List Run} {i d : Nat} {r : Run} (h : rs[i]? = some r) (hd : d < lenP r) : ∃ b bs, remR rs i d = b :: bs := by
  rw [remR_at h]
  cases e : cutL r.1.cps.toList d (lenP r - d) with
  | nil =>
    have := cutL_len (p := r.1.cps.toList) (a := d) (n := lenP r - d)
    rw [e, List.length_nil] at this
    omega
  | cons b bs => exact ⟨b, bs ++ flatR (rs.drop (i + 1)), rfl⟩
theorem len_of {rs : List Run} {i : Nat} {r : Run} (h : rs[i]? = some r) : i < rs.length := (List.getElem?_eq_some_iff.mp h).1
theorem ltr_len {x : Str} : x.cps.toList.length = x.length := Array.length_toList
theorem b_first_unlike {f : Addr} {fd : FuncData} (F : Fun K "first_unlike" "first_unlike" s_first_unlike f fd) (T : Txt mg) (c_cut : CalG P w K mg base CX0 1 "cut" spCut) (c_first_unlike_letter : CalG P w K mg base CX0 1 "first_unlike_letter" spFul) : FnG P w K mg base CX0 2 f fd ["runs", "others"] spUnlike := by
  refine okG0 F sc_first_unlike (fun vs H Q E h => ?_) (fun cdv A outer s H vs Q E hg hr h => ?_)
  · obtain ⟨q, u, xs, zs, rs, rt, rfl, _⟩ := h
    rfl
  · have hu := hu_of hr
    have hu64 := hr.units
    obtain ⟨q, u, xs, zs, rs, rt, rfl, hq, rx, hu2, rz, ⟨hl, ok⟩, ⟨hl2, ok2⟩, k⟩ := h
    have lx := paired_len rx
    have lz := paired_len rz
    have xl : xs.length ≤ sizeLine := few_len (by omega)
    have zl : zs.length ≤ sizeLine := few_len (by omega)
    refine ⟨_, (pss_cons (ps_asg (pe_tup (pa_cons pe_int (pa_cons pe_int (pa_cons pe_int pa_nil)))) (pg_tup rfl (pgs_cons (pg_name (i := 2) sc_first_unlike.nd rfl (Or.inl rfl)) (pgs_cons (pg_name (i := 3) sc_first_unlike.nd rfl (Or.inl rfl)) (pgs_cons (pg_name (i := 4) sc_first_unlike.nd rfl (Or.inl rfl)) pgs_nil)))))
      (pss_cons (ps_asg (pe_tup (pa_cons pe_int (pa_cons pe_int pa_nil))) (pg_tup rfl (pgs_cons (pg_name (i := 5) sc_first_unlike.nd rfl (Or.inl rfl)) (pgs_cons (pg_name (i := 6) sc_first_unlike.nd rfl (Or.inl rfl)) pgs_nil))))
      (pss_cons (ps_while PassesOwn.never (PW.pt (pw_and (pt_cmpR op_lt (pv 3) (pe_callB call_len (by rfl) T.len (by decide +kernel) (pa_cons (pv 0) pa_nil)) (nomark _)) (pw_and1 (pt_cmpR op_lt (pv 4) (pe_callB call_len (by rfl) T.len (by decide +kernel) (pa_cons (pv 1) pa_nil)) (nomark _))))) (pss_cons (ps_asg (pe_ix ix_tup (pv 0) (pv 3) (fun _ _ => rfl)) (pg_tup rfl (pgs_cons (pg_name (i := 7) sc_first_unlike.nd rfl (Or.inl rfl)) (pgs_cons (pg_name (i := 8) sc_first_unlike.nd rfl (Or.inl rfl)) pgs_nil))))
      (pss_cons (ps_asg (pe_ix ix_tup (pv 1) (pv 4) (fun _ _ => rfl)) (pg_tup rfl (pgs_cons (pg_name (i := 9) sc_first_unlike.nd rfl (Or.inl rfl)) (pgs_cons (pg_name (i := 10) sc_first_unlike.nd rfl (Or.inl rfl)) pgs_nil))))
      (pss_cons (ps_set (i := 11) sc_first_unlike.nd rfl (Or.inl rfl) (pe_callB (call_min2 rfl) (by rfl) T.min (by decide +kernel) (pa_cons (pe_op op_sub (pe_op op_mul (pe_callB call_len (by rfl) T.len (by decide +kernel) (pa_cons (pv 7) pa_nil)) (pv 8)) (pv 5)) (pa_cons (pe_op op_sub (pe_op op_mul (pe_callB call_len (by rfl) T.len (by decide +kernel) (pa_cons (pv 9) pa_nil)) (pv 10)) (pv 6)) pa_nil))))
      (pss_cons (ps_set (i := 12) sc_first_unlike.nd rfl (Or.inl rfl) (pe_callB (call_min2 rfl) (by rfl) T.min (by decide +kernel) (pa_cons (pv 11) (pa_cons (pe_op op_add (pe_callB call_len (by rfl) T.len (by decide +kernel) (pa_cons (pv 7) pa_nil)) (pe_callB call_len (by rfl) T.len (by decide +kernel) (pa_cons (pv 9) pa_nil))) pa_nil))))
      (pss_cons (ps_par (i := 13) (j := 14) (by rfl) sc_first_unlike.nd rfl rfl (by decide) rfl rfl (pa_cons (pe_cG c_cut hg hr (by decide) pass0 (pa_cons (pv 7) (pa_cons (pv 5) (pa_cons (pv 12) pa_nil)))) (pa_cons (pe_cG c_cut hg hr (by decide) pass0 (pa_cons (pv 9) (pa_cons (pv 6) (pa_cons (pv 12) pa_nil)))) pa_nil)) (by rfl))
      (pss_cons (ps_if (pt_cmpR op_ne (pv 13) (pv 14) (nomark _)) (pss_one (ps_ret (pe_op op_add (pv 2) (pe_cG c_first_unlike_letter hg hr (by decide) pass0 (pa_cons (pv 13) (pa_cons (pv 14) pa_nil)))))) pss_nil)
      (pss_cons (ps_par3 (i := 2) (j := 5) (l := 6) (by rfl) sc_first_unlike.nd rfl rfl rfl (by decide) (by decide) (by decide) rfl rfl rfl (pa_cons (pe_op op_add (pv 2) (pv 11)) (pa_cons (pe_op op_add (pv 5) (pv 11)) (pa_cons (pe_op op_add (pv 6) (pv 11)) pa_nil))) (by rfl))
      (pss_cons (ps_if (pt_cmpR op_eq (pv 5) (pe_op op_mul (pe_callB call_len (by rfl) T.len (by decide +kernel) (pa_cons (pv 7) pa_nil)) (pv 8)) (nomark _)) (pss_one (ps_par (i := 3) (j := 5) (by rfl) sc_first_unlike.nd rfl rfl (by decide) rfl rfl (pa_cons (pe_op op_add (pv 3) pe_int) (pa_cons pe_int pa_nil)) (by rfl))) pss_nil)
      (pss_one (ps_if (pt_cmpR op_eq (pv 6) (pe_op op_mul (pe_callB call_len (by rfl) T.len (by decide +kernel) (pa_cons (pv 9) pa_nil)) (pv 10)) (nomark _)) (pss_one (ps_par (i := 4) (j := 6) (by rfl) sc_first_unlike.nd rfl rfl (by decide) rfl rfl (pa_cons (pe_op op_add (pv 4) pe_int) (pa_cons pe_int pa_nil)) (by rfl))) pss_nil)))))))))))
      (pss_cons (ps_if (PW.pt (pw_and (pt_cmpR op_eq (pv 3) (pe_callB call_len (by rfl) T.len (by decide +kernel) (pa_cons (pv 0) pa_nil)) (nomark _)) (pw_and1 (pt_cmpR op_eq (pv 4) (pe_callB call_len (by rfl) T.len (by decide +kernel) (pa_cons (pv 1) pa_nil)) (nomark _))))) (pss_one (ps_ret pe_non)) pss_nil)
      (pss_one (ps_ret (pv 2))))))), ?_⟩
    refine ⟨few_len (n := 3) (by omega), fun t ht => ⟨t, _, rfl, SqT.of upd_same, rfl, _, _, rfl, _, _, rfl, _, _, rfl, rfl, ?_⟩⟩
    have st := same_new (o := .tup [.int 0, .int 0, .int 0]) ht
    refine ⟨few_len (n := 2) (by omega), fun t2 ht2 => ⟨t2, _, rfl, SqT.of upd_same, rfl, _, _, rfl, _, _, rfl, rfl, ?_⟩⟩
    have st2 := same_new (o := .tup [.int 0, .int 0]) ht2
    refine ⟨fun m σ H' => ∃ (i j d e pc : Nat) (o7 o8 o9 o10 o11 o12 o13 o14 : Option V), σ = [some (.ref q), some (.ref u), some (.int (pc : Nat)), some (.int (i : Nat)), some (.int (j : Nat)), some (.int (d : Nat)), some (.int (e : Nat)), o7, o8, o9, o10, o11, o12, o13, o14] ∧ Same H H' ∧ i ≤ rs.length ∧ j ≤ rt.length ∧ (∀ r, rs[i]? = some r → d < lenP r) ∧ (∀ r, rt[j]? = some r → e < lenP r) ∧ fdL (flatR rs) (flatR rt) 0 = fdL (remR rs i d) (remR rt j e) pc ∧ m = (rs.length - i) + (rt.length - j), ⟨_, 0, 0, 0, 0, 0, _, _, _, _, _, _, _, _, rfl, st.trans st2, Nat.zero_le _, Nat.zero_le _, ?_, ?_, ?_, rfl⟩, ?_⟩
    · exact fun r hr => Nat.mul_pos (ok r (List.mem_of_getElem? hr)).1 (ok r (List.mem_of_getElem? hr)).2.2
    · exact fun r hr => Nat.mul_pos (ok2 r (List.mem_of_getElem? hr)).1 (ok2 r (List.mem_of_getElem? hr)).2.2
    · rw [remR_zero, remR_zero]
      rfl
    rintro m σ H2 ⟨i, j, d, e, pc, o7, o8, o9, o10, o11, o12, o13, o14, rfl, sm, il, jl, hd, he, hf, rfl⟩
    refine ⟨_, rfl, _, rfl, _, _, rfl, .inr ⟨xs, SqT.of (sm _ _ hq), rfl⟩, _, _, rfl, rfl, _, rfl, ?_⟩
    by_cases c : i < rs.length
    · rw [decide_eq_true (show ((i : Nat) : Int) < (xs.length : Nat) by omega)]
      refine iteT ⟨_, rfl, _, rfl, _, _, rfl, .inr ⟨zs, SqT.of (sm _ _ hu2), rfl⟩, _, _, rfl, rfl, _, rfl, ?_⟩
      by_cases c2 : j < rt.length
      · rw [decide_eq_true (show ((j : Nat) : Int) < (zs.length : Nat) by omega)]
        have h1 : xs[i]? = some xs[i] := List.getElem?_eq_getElem (by omega)
        have h2 : zs[j]? = some zs[j] := List.getElem?_eq_getElem (by omega)
        obtain ⟨r, hr1, t3, e3, ht3⟩ := paired_at rx h1
        obtain ⟨r2, hr2, t4, e4, ht4⟩ := paired_at rz h2
        rw [e3] at h1
        rw [e4] at h2
        have okr := ok r (List.mem_of_getElem? hr1)
        have okr2 := ok2 r2 (List.mem_of_getElem? hr2)
        have pl : r.1.length ≤ sizeLine := few_len (by have := okr.2.1; omega)
        have pl2 : r2.1.length ≤ sizeLine := few_len (by have := okr2.2.1; omega)
        have dl := hd r hr1
        have el := he r2 hr2
        obtain ⟨room, er⟩ : ∃ n, n = min (lenP r - d) (lenP r2 - e) := ⟨_, rfl⟩
        obtain ⟨seen, es⟩ : ∃ n, n = min room (r.1.length + r2.1.length) := ⟨_, rfl⟩
        have eA := lenP_int r
        have eB := lenP_int r2
        have em : (if ((r2.1.length : Nat) : Int) * ((r2.2 : Nat) : Int) - ((e : Nat) : Int) < ((r.1.length : Nat) : Int) * ((r.2 : Nat) : Int) - ((d : Nat) : Int) then ((r2.1.length : Nat) : Int) * ((r2.2 : Nat) : Int) - ((e : Nat) : Int) else ((r.1.length : Nat) : Int) * ((r.2 : Nat) : Int) - ((d : Nat) : Int)) = ((room : Nat) : Int) := by
          rw [eA, eB]
          split <;> omega
        have en : (if ((r.1.length : Nat) : Int) + ((r2.1.length : Nat) : Int) < ((room : Nat) : Int) then ((r.1.length : Nat) : Int) + ((r2.1.length : Nat) : Int) else ((room : Nat) : Int)) = ((seen : Nat) : Int) := by
          split <;> omega
        refine iteT ⟨fun σ' H' => ∃ (i' j' d' e' pc : Nat) (o7 o8 o9 o10 o11 o12 o13 o14 : Option V), σ' = [some (.ref q), some (.ref u), some (.int (pc : Nat)), some (.int (i' : Nat)), some (.int (j' : Nat)), some (.int (d' : Nat)), some (.int (e' : Nat)), o7, o8, o9, o10, o11, o12, o13, o14] ∧ Same H H' ∧ i' ≤ rs.length ∧ j' ≤ rt.length ∧ (∀ r, rs[i']? = some r → d' < lenP r) ∧ (∀ r, rt[j']? = some r → e' < lenP r) ∧ fdL (flatR rs) (flatR rt) 0 = fdL (remR rs i' d') (remR rt j' e') pc ∧ (rs.length - i') + (rt.length - j') < (rs.length - i) + (rt.length - j), ?_, ?_⟩
        · rintro σ' H' ⟨i', j', d', e', pc', o7, o8, o9, o10, o11, o12, o13, o14, rfl, sm2, a1, a2, a3, a4, a5, a6⟩
          exact ⟨_, a6, i', j', d', e', pc', _, _, _, _, _, _, _, _, rfl, sm2, a1, a2, a3, a4, a5, rfl⟩
        · refine ⟨_, rfl, _, rfl, q, xs, _, _, rfl, rfl, SqT.of (sm _ _ hq), atI_nat h1, t3, _, rfl, SqT.of (sm _ _ ht3), rfl, _, _, rfl, _, _, rfl, rfl, ?_⟩
          refine ⟨_, rfl, _, rfl, u, zs, _, _, rfl, rfl, SqT.of (sm _ _ hu2), atI_nat h2, t4, _, rfl, SqT.of (sm _ _ ht4), rfl, _, _, rfl, _, _, rfl, rfl, ?_⟩
          refine ⟨_, rfl, _, _, rfl, ⟨pl, rfl⟩, _, rfl, _, _, rfl, rfl, cm_len okr, _, rfl, _, _, rfl, rfl, _, rfl, _, _, rfl, ⟨pl2, rfl⟩, _, rfl, _, _, rfl, rfl, cm_len okr2, _, rfl, _, _, rfl, rfl, _, _, rfl, ?_⟩
          show gName 11 (V.int (if ((r2.1.length : Nat) : Int) * ((r2.2 : Nat) : Int) - ((e : Nat) : Int) < ((r.1.length : Nat) : Int) * ((r.2 : Nat) : Int) - ((d : Nat) : Int) then ((r2.1.length : Nat) : Int) * ((r2.2 : Nat) : Int) - ((e : Nat) : Int) else ((r.1.length : Nat) : Int) * ((r.2 : Nat) : Int) - ((d : Nat) : Int))) _ H2 _
          rw [em]
          refine ⟨_, rfl, _, rfl, _, _, rfl, ⟨pl, rfl⟩, _, rfl, _, _, rfl, ⟨pl2, rfl⟩, _, _, rfl, rfl, _, _, rfl, ?_⟩
          show gName 12 (V.int (if ((r.1.length : Nat) : Int) + ((r2.1.length : Nat) : Int) < ((room : Nat) : Int) then ((r.1.length : Nat) : Int) + ((r2.1.length : Nat) : Int) else ((room : Nat) : Int))) _ H2 _
          rw [en]
          have b1 := okr.1
          have b2 := okr.2.1
          have b3 := okr2.1
          have b4 := okr2.2.1
          refine ⟨_, rfl, _, rfl, _, rfl, r.1, d, seen, rfl, okr.1, by omega, by omega, _, rfl, _, rfl, _, rfl, r2.1, e, seen, rfl, okr2.1, by omega, by omega, _, _, rfl, ?_⟩
          refine ⟨_, rfl, _, rfl, rfl, _, rfl, ?_⟩
          show if (!decide (V.str (cutS2 r.1 d seen) = V.str (cutS2 r2.1 e seen))) = true then _ else _
          by_cases eq : cutL r.1.cps.toList d seen = cutL r2.1.cps.toList e seen
          · have eS : cutS2 r.1 d seen = cutS2 r2.1 e seen := by unfold cutS2; rw [eq]
            rw [eS]
            refine iteNS rfl ?_
            have agree : cutL r.1.cps.toList d room = cutL r2.1.cps.toList e room := cutL_agree (by rw [ltr_len]; exact okr.1) (by rw [ltr_len]; exact okr2.1) eq (by rw [ltr_len, ltr_len]; omega)
            have hf2 : fdL (flatR rs) (flatR rt) 0 = fdL (if d + room = lenP r then remR rs (i + 1) 0 else remR rs i (d + room)) (if e + room = lenP r2 then remR rt (j + 1) 0 else remR rt j (e + room)) (pc + room) := by
              rw [hf, remR_some hr1 (show d + room ≤ lenP r by omega), remR_some hr2 (show e + room ≤ lenP r2 by omega), agree, fdL_app, cutL_len, remR_next hr1 (by omega), remR_next hr2 (by omega)]
            refine ⟨_, rfl, _, rfl, _, _, rfl, rfl, _, rfl, _, rfl, _, _, rfl, rfl, _, rfl, _, rfl, _, _, rfl, rfl, _, _, _, rfl, ?_⟩
            refine ⟨_, rfl, _, rfl, _, _, rfl, ⟨pl, rfl⟩, _, rfl, _, _, rfl, rfl, cm_len okr, rfl, _, rfl, ?_⟩
            have dA : decide (V.int (((d : Nat) : Int) + ((room : Nat) : Int)) = V.int (((r.1.length : Nat) : Int) * ((r.2 : Nat) : Int))) = decide (d + room = lenP r) := by
              rw [eA]
              by_cases z : d + room = lenP r
              · rw [decide_eq_true z, decide_eq_true (by rw [← z]; rfl)]
              · rw [decide_eq_false z, decide_eq_false (fun w => z (by
                  have := V.int.inj w
                  omega))]
            have dB : decide (V.int (((e : Nat) : Int) + ((room : Nat) : Int)) = V.int (((r2.1.length : Nat) : Int) * ((r2.2 : Nat) : Int))) = decide (e + room = lenP r2) := by
              rw [eB]
              by_cases z : e + room = lenP r2
              · rw [decide_eq_true z, decide_eq_true (by rw [← z]; rfl)]
              · rw [decide_eq_false z, decide_eq_false (fun w => z (by
                  have := V.int.inj w
                  omega))]
            have lenA := len_of hr1
            have lenB := len_of hr2
            have first : ∀ {rs : List Run} {i : Nat}, (∀ r ∈ rs, OkRun r) → ∀ r, rs[i]? = some r → 0 < lenP r := fun ok r hr => Nat.mul_pos (ok r (List.mem_of_getElem? hr)).1 (ok r (List.mem_of_getElem? hr)).2.2
            show if decide (V.int (((d : Nat) : Int) + ((room : Nat) : Int)) = V.int (((r.1.length : Nat) : Int) * ((r.2 : Nat) : Int))) = true then _ else _
            rw [dA]
            by_cases zA : d + room = lenP r
            · rw [decide_eq_true zA]
              rw [if_pos zA] at hf2
              refine iteT ⟨_, rfl, _, _, rfl, rfl, _, _, rfl, ?_⟩
              refine ⟨_, rfl, _, rfl, _, _, rfl, ⟨pl2, rfl⟩, _, rfl, _, _, rfl, rfl, cm_len okr2, rfl, _, rfl, ?_⟩
              show if decide (V.int (((e : Nat) : Int) + ((room : Nat) : Int)) = V.int (((r2.1.length : Nat) : Int) * ((r2.2 : Nat) : Int))) = true then _ else _
              rw [dB]
              by_cases zB : e + room = lenP r2
              · rw [decide_eq_true zB]
                rw [if_pos zB] at hf2
                refine iteT ⟨_, rfl, _, _, rfl, rfl, _, _, rfl, ?_⟩
                exact ⟨i + 1, j + 1, 0, 0, pc + room, _, _, _, _, _, _, _, _, rfl, sm, by omega, by omega, first ok, first ok2, hf2, by omega⟩
              · rw [decide_eq_false zB]
                rw [if_neg zB] at hf2
                refine iteF ?_
                exact ⟨i + 1, j, 0, e + room, pc + room, _, _, _, _, _, _, _, _, rfl, sm, by omega, by omega, first ok, (fun r3 h3 => by rw [hr2] at h3; cases h3; omega), hf2, by omega⟩
            · rw [decide_eq_false zA]
              rw [if_neg zA] at hf2
              refine iteF ?_
              refine ⟨_, rfl, _, rfl, _, _, rfl, ⟨pl2, rfl⟩, _, rfl, _, _, rfl, rfl, cm_len okr2, rfl, _, rfl, ?_⟩
              show if decide (V.int (((e : Nat) : Int) + ((room : Nat) : Int)) = V.int (((r2.1.length : Nat) : Int) * ((r2.2 : Nat) : Int))) = true then _ else _
              rw [dB]
              by_cases zB : e + room = lenP r2
              · rw [decide_eq_true zB]
                rw [if_pos zB] at hf2
                refine iteT ⟨_, rfl, _, _, rfl, rfl, _, _, rfl, ?_⟩
                exact ⟨i, j + 1, d + room, 0, pc + room, _, _, _, _, _, _, _, _, rfl, sm, by omega, by omega, (fun r3 h3 => by rw [hr1] at h3; cases h3; omega), first ok2, hf2, by omega⟩
              · omega
          · cases hk : fdL (cutL r.1.cps.toList d seen) (cutL r2.1.cps.toList e seen) 0 with
            | none => exact absurd (fdL_none hk) eq
            | some k0 =>
              have ne : (!decide (V.str (cutS2 r.1 d seen) = V.str (cutS2 r2.1 e seen))) = true := by
                rw [decide_eq_false (fun z => eq (by
                  have := congrArg (fun v => match v with | V.str s => s.cps.toList | _ => []) z
                  simpa [cutS2_ll] using this))]
                rfl
              rw [ne]
              have hf2 : fdL (flatR rs) (flatR rt) 0 = some (k0 + pc) := by
                have sh := fdL_shift (cutL r.1.cps.toList d seen) (cutL r2.1.cps.toList e seen) 0 pc
                rw [hk, Nat.zero_add] at sh
                rw [hf, remR_some hr1 (show d + seen ≤ lenP r by omega), remR_some hr2 (show e + seen ≤ lenP r2 by omega)]
                exact fdL_cut (by rw [cutL_len, cutL_len]) sh
              refine iteT ⟨_, rfl, _, rfl, _, rfl, cutS2 r.1 d seen, cutS2 r2.1 e seen, k0, rfl, by rw [cutS2_len, cutS2_len], by rw [cutS2_len]; omega, by rw [cutS2_ll, cutS2_ll]; exact hk, fun H5 s5 => ⟨_, _, rfl, rfl, ?_⟩⟩
              have kk := k H5 (sm.trans s5)
              rw [hf2] at kk
              have kk2 : Q (V.int (((pc : Nat) : Int) + ((k0 : Nat) : Int))) H5 := by
                rw [show ((pc : Nat) : Int) + ((k0 : Nat) : Int) = ((k0 + pc : Nat) : Int) by omega]
                exact kk
              exact kk2
      · rw [decide_eq_false (show ¬ ((j : Nat) : Int) < (zs.length : Nat) by omega)]
        refine iteF ?_
        have h1 : rs[i]? = some rs[i] := List.getElem?_eq_getElem c
        obtain ⟨b, bs, eb⟩ := remR_ne h1 (hd _ h1)
        rw [eb, remR_end (show rt.length ≤ j by omega)] at hf
        refine ⟨_, rfl, _, rfl, _, _, rfl, .inr ⟨xs, SqT.of (sm _ _ hq), rfl⟩, rfl, _, rfl, ?_⟩
        rw [show decide (V.int ((i : Nat) : Int) = V.int ((xs.length : Nat) : Int)) = false from decide_eq_false (fun z => by have := V.int.inj z; omega)]
        refine iteF ⟨_, rfl, ?_⟩
        have kk := k H2 sm
        rw [hf] at kk
        exact kk
    · rw [decide_eq_false (show ¬ ((i : Nat) : Int) < (xs.length : Nat) by omega)]
      refine iteF ?_
      rw [remR_end (show rs.length ≤ i by omega)] at hf
      refine ⟨_, rfl, _, rfl, _, _, rfl, .inr ⟨xs, SqT.of (sm _ _ hq), rfl⟩, rfl, _, rfl, ?_⟩
      rw [show decide (V.int ((i : Nat) : Int) = V.int ((xs.length : Nat) : Int)) = true from decide_eq_true (by rw [show i = xs.length by omega])]
      refine iteT ⟨_, rfl, _, rfl, _, _, rfl, .inr ⟨zs, SqT.of (sm _ _ hu2), rfl⟩, rfl, _, rfl, ?_⟩
      by_cases c2 : j < rt.length
      · rw [show decide (V.int ((j : Nat) : Int) = V.int ((zs.length : Nat) : Int)) = false from decide_eq_false (fun z => by have := V.int.inj z; omega)]
        have h2 : rt[j]? = some rt[j] := List.getElem?_eq_getElem c2
        obtain ⟨b, bs, eb⟩ := remR_ne h2 (he _ h2)
        rw [eb] at hf
        refine iteF ⟨_, rfl, ?_⟩
        have kk := k H2 sm
        rw [hf] at kk
        exact kk
      · rw [show decide (V.int ((j : Nat) : Int) = V.int ((zs.length : Nat) : Int)) = true from decide_eq_true (by rw [show j = zs.length by omega])]
        rw [remR_end (show rt.length ≤ j by omega)] at hf
        have kk := k H2 sm
        rw [hf] at kk
        exact iteT kk
end
end Vk
set_option Elab.async false
set_option maxRecDepth 100000
set_option maxHeartbeats 4000000
set_option linter.all false
namespace Vk
open PySem PySem.Spec PyProof.Rows L2 StX
/-! ## def f(self, *rest, y=dv) -/
structure FunKd (K : PySem.W.Frag) (x qual : Str) (st : Stmt) (y : Str) (dv : Value) (f : Addr) (fd : FuncData) : Prop where
  ex : ∃ oc od D doc pm an cdv ct osl, fd = PySem.W.fnOf x qual (defArgs st) (defBody st) (defScope st) .none (.ref D) doc pm an cdv ct ∧ K.lookup f = some { cls := oc, dict := od, data := Data.func fd, slots := osl } ∧ PySem.W.codeIn K cdv qual = true ∧ PySem.W.nsIn K D y = some (some dv)
  kp : PySem.W.keepIn K (.ref f) = true
/-- the run where y is given -/
def FnMG (P : Program) (w : World) (K : PySem.W.Frag) (mg : Str → Option Value) (base : Heap) (CX : CXT) (k : Nat) (f : Addr) (y : Str) (sp : Sp) : Prop :=
  ∀ (A : Around) (outer : List Env) (s : Shared) (H : Hp) (u m : Value) (a b : V) (Q : VK) (E : XK), A.guards = some [] → Room k A → Env0 P w K mg base A outer s H → RelV a u → RelV b m → sp [a, b] H Q E →
    codeAny (model P w) A (.call (.ref f) ⟨[u], [(y, m)]⟩) (CR CX outer P w H s Q E) s
section
variable {CX : CXT} {P : Program} {w : World} {K : PySem.W.Frag} {mg : Str → Option Value} {base : Heap} {k : Nat} {x qual y p1 pv : Str} {dv : Value} {dV : V} {st : Stmt} {f : Addr} {fd : FuncData} {N : List Str} {sp : Sp}
theorem okStarK (F : FunKd K x qual st y dv f fd) (S : FnScope N [p1, y, pv] (defScope st)) (hCX : CXUp CX) (rd : RelV dV dv)
    (hb : ∀ (D : Addr) (doc pm : Value) (an : Option Addr) (cdv ct : Value) (u : Value) (rest : List Value), ∃ (β γ : Type) (k1 : Option Value → Sem β) (k2 : β → Sem γ) (k3 : γ → Sem (List (Str × Value))) (z : β),
      bindArgs (PySem.W.fnOf x qual (defArgs st) (defBody st) (defScope st) .none (.ref D) doc pm an cdv ct) ⟨u :: rest, []⟩ = nsGet D y >>= k1 >>= k2 >>= k3 ∧ k1 (some dv) = pure z ∧ (k2 z >>= k3) = (newTuple rest >>= fun t => pure ([p1, y, pv].zip [u, dv, t])))
    (body : ∀ (cdv : Value) (A : Around) (outer : List Env) (s : Shared) (H : Hp) (vs : List V) (Q : VK) (E : XK), A.guards = some [] → Room k (A.deeper (envOfC qual (defScope st) s.heap.objs.size f cdv)) → sp vs H Q E →
      ∃ t, PSs (cxOf CX P w K mg base N qual (defScope st) f cdv A outer s H E) (defBody st) t ∧ t { nx := fun _ H' => Q .non H', rt := Q } (start N vs) H) :
    FnRG P w K mg base CX (k + 1) f (fun vs H Q E => ∃ a rest, vs = a :: rest ∧ rest.length ≤ sizeLine ∧ ∀ p, H p = none → sp [a, dV, .ref p] (upd H p (.tup rest)) Q E) := by
  intro A outer s H us vs Q E hg hr e0 r hsp
  obtain ⟨a, rest, rfl, hz, q⟩ := hsp
  obtain ⟨oc, od, D, doc, pm, an, cdv, ct, osl, rfl, lk, hcd, hns⟩ := F.ex
  cases r with
  | @cons _ u _ u2 r1 r2 =>
  have free : H s.heap.objs.size = none := e0.hok.fresh (Nat.le_refl _)
  have l2 : u2.length ≤ sizeLine := by rw [← r2.length]; exact hz
  refine run_bnd lk hcd S hr e0 (G := fun xs H2 => ∃ p, H p = none ∧ xs = [a, dV, V.ref p] ∧ H2 = upd H p (.tup rest)) (fun A1 E1 Q1 h => ?_) (fun s2 H2 xs g hr2 => ?_)
  · obtain ⟨β, γ, k1, k2, k3, z, e1, e2, e3⟩ := hb D doc pm an cdv ct u u2
    rw [e1, bind_assoc, bind_assoc]
    refine wpAny_bind (PySem.W.looks_nsIn e0.mod.kin hns _ _ _ s (fun b o hb => (e0.bs b o hb).1) ?_)
    rw [e2, pure_bind, e3]
    refine wpAny_bind (wpAny_newTuple (wpAny_pure ?_) l2)
    have laid : ObjOk P w (upd H s.heap.objs.size (.tup rest)) (s.heap.push ({ cls := .type "tuple", data := .seq u2.toArray } : Obj)) s.heap.objs.size (.tup rest) := ⟨hz, u2, r2, ⟨_, Heap.get?_push_size _ rfl, rfl, _, rfl⟩⟩
    have un1 := un_laid (fs := frs outer) (s := s) (o := ({ cls := .type "tuple", data := .seq u2.toArray } : Obj)) (u := .tup rest) free
    exact h _ _ [a, dV, V.ref s.heap.objs.size] [u, dv, Value.ref s.heap.objs.size] (env0_laid e0 laid) un1 rfl (fun e s3 => hCX outer s H _ _ E e s3 un1 (fun b o z => Heap.get?_push_of_some _ z) rfl) (.cons r1 (.cons rd (.cons rfl .nil))) rfl ⟨_, free, rfl, rfl⟩
  · obtain ⟨p, hp, rfl, rfl⟩ := g
    exact body cdv A outer s2 _ _ Q E hg hr2 (q p hp)
theorem okStarM (F : FunKd K x qual st y dv f fd) (S : FnScope N [p1, y, pv] (defScope st)) (hCX : CXUp CX)
    (hb : ∀ (D : Addr) (doc pm : Value) (an : Option Addr) (cdv ct : Value) (u m : Value),
      bindArgs (PySem.W.fnOf x qual (defArgs st) (defBody st) (defScope st) .none (.ref D) doc pm an cdv ct) ⟨[u], [(y, m)]⟩ = (newTuple [] >>= fun t => pure ([p1, y, pv].zip [u, m, t])))
    (body : ∀ (cdv : Value) (A : Around) (outer : List Env) (s : Shared) (H : Hp) (vs : List V) (Q : VK) (E : XK), A.guards = some [] → Room k (A.deeper (envOfC qual (defScope st) s.heap.objs.size f cdv)) → sp vs H Q E →
      ∃ t, PSs (cxOf CX P w K mg base N qual (defScope st) f cdv A outer s H E) (defBody st) t ∧ t { nx := fun _ H' => Q .non H', rt := Q } (start N vs) H) :
    FnMG P w K mg base CX (k + 1) f y (fun vs H Q E => ∃ a m, vs = [a, m] ∧ ∀ p, H p = none → sp [a, m, .ref p] (upd H p (.tup [])) Q E) := by
  intro A outer s H u m0 a b Q E hg hr e0 r1 rm hsp
  obtain ⟨a, m, ee, q⟩ := hsp
  cases ee
  obtain ⟨oc, od, D, doc, pm, an, cdv, ct, osl, rfl, lk, hcd, hns⟩ := F.ex
  have free : H s.heap.objs.size = none := e0.hok.fresh (Nat.le_refl _)
  refine run_bnd lk hcd S hr e0 (G := fun xs H2 => ∃ p, H p = none ∧ xs = [a, b, V.ref p] ∧ H2 = upd H p (.tup [])) (fun A1 E1 Q1 h => ?_) (fun s2 H2 xs g hr2 => ?_)
  · rw [hb D doc pm an cdv ct u m0]
    refine wpAny_bind (wpAny_newTuple (wpAny_pure ?_) (Nat.zero_le _))
    have laid : ObjOk P w (upd H s.heap.objs.size (.tup [])) (s.heap.push ({ cls := .type "tuple", data := .seq ([] : List Value).toArray } : Obj)) s.heap.objs.size (.tup []) := ⟨Nat.zero_le _, [], .nil, ⟨_, Heap.get?_push_size _ rfl, rfl, _, rfl⟩⟩
    have un1 := un_laid (fs := frs outer) (s := s) (o := ({ cls := .type "tuple", data := .seq ([] : List Value).toArray } : Obj)) (u := .tup []) free
    exact h _ _ [a, b, V.ref s.heap.objs.size] [u, m0, Value.ref s.heap.objs.size] (env0_laid e0 laid) un1 rfl (fun e s3 => hCX outer s H _ _ E e s3 un1 (fun b o z => Heap.get?_push_of_some _ z) rfl) (.cons r1 (.cons rm (.cons rfl .nil))) rfl ⟨_, free, rfl, rfl⟩
  · obtain ⟨p, hp, rfl, rfl⟩ := g
    exact body cdv A outer s2 _ _ Q E hg hr2 (q p hp)
end
/-! ## C(y=e) -/
section
variable {X : Cx} {CX : CXT} {k j : Nat} {C f : Addr} {sp : Sp} {E : XK} {x y : Str} {p pos kpos : Pos} {e : Expr} {te : TE} {kws : List Keyword} {tk : TA}
def tMakeY (C : Addr) (sp : Sp) (E : XK) (t : TA) : TE := fun σ H Q => t σ H fun vs H1 => ∃ m, vs = [m] ∧ Born C sp [m] H1 Q E
theorem pe_makeY (M : L2.Mk X.K C f) (F : FnMG X.prog X.w X.K X.mg X.base CX k f y sp) (hg : X.A.guards = some []) (hr : Room j X.A) (hk : k + 1 ≤ j) (hm : X.mg x = some (.ref C)) (hx : Passes CX X E) (hkw : PK X kws tk) (gl : Gl X x := by rfl)
    (hall : (backToKw pos (keywordEach kws X.env)).all (·.1.isSome) = true := by rfl) (hks : (backToKw pos (keywordEach kws X.env)).filterMap (·.1) = [y] := by rfl) (hdb : (x == ("__debug__" : Str)) = false := by decide)
    (hpl : ((backTo pos (starEach [] X.env)).any (·.1) || (backToKw pos (keywordEach kws X.env)).any (·.1.isNone)) = false := by rfl) :
    PE X (.Call (.Name x p) [] kws pos) (tMakeY C sp E tk) := by
  refine ⟨fun pins s σ H Q I h => wpAny_Call_Name_kw (ld_glob I gl hm (PySem.W.callWith_KW0 (h₀ := X.base) I.ok.mod.kin M.kp hall (thn (hkw.run pos pins s σ H _ I h) fun ws s2 hh => ?_) hpl) hdb)⟩
  obtain ⟨vs, H2, I2, rz, m, rfl, q⟩ := hh
  refine ⟨I2.kIn, ?_⟩
  rw [hks]
  cases rz with
  | @cons _ u _ u2 r1 r2 =>
  cases r2
  have I3 := Inv.made (C := C) I2
  have asked := q (s2.heap.objs.size + 1) s2.heap.objs.size (I2.hok.fresh (Nat.le_succ _)) (I2.hok.fresh (Nat.le_refl _)) (Nat.ne_of_lt (Nat.lt_succ_self _))
  show wpAny (model X.prog X.w) X.A (call (.ref C) [] [(y, u)]) (EP X pins σ Q) X.xe s2
  refine wpAny_call (make_map (f := f) I2.kIn M.makes M.init (beq_iff_eq.mp M.fn) (codeAny_mono (F _ X.stack _ _ (Value.ref (s2.heap.objs.size + 1)) u (V.ref (s2.heap.objs.size + 1)) m _ E ?_ ((hr.mono hk).make C [] [(y, u)]) (I3.env0.make C [] [(y, u)]) rfl r1 asked) fun res s3 hz => ?_))
  · first
      | exact hg
      | (simpa [Around.under, Code.isGuard, guardIds] using hg)
  · match res, hz with
    | .error er, hz => exact hx pins σ _ _ er s3 I3 hz
    | .ok (.ret u), hz =>
      obtain ⟨v, H2, I3, rv, ev, q3⟩ := I3.after hz
      subst ev
      exact ⟨rv, V.ref (s2.heap.objs.size + 1), H2, I3, rfl, q3⟩
    | .ok .next, hz => exact hz.elim
    | .ok .brk, hz => exact hz.elim
    | .ok .cont, hz => exact hz.elim
end
/-! ## a + b by the class's own __add__ -/
structure AddI (P : Program) (w : World) (K : PySem.W.Frag) (mg : Str → Option Value) (base : Heap) (CX : CXT) (k : Nat) (C : Addr) (sp : Sp) : Prop where
  ex : ∃ (f : Addr) (fd : FuncData), PySem.W.findIn K (.ref C) "__add__" = some (some (.ref f)) ∧ PySem.W.isFn K (.ref f) = true ∧ FnG P w K mg base CX k f fd ["self", "other"] sp ∧ Binds K fd ["self", "other"] []
  self : PySem.W.selfFirst K C = true
def rAddI (C : Addr) (sp : Sp) (E : XK) : R2 := fun x y H Q => ∃ a dx fs b dy gs, x = .ref a ∧ H a = some (.ins C dx fs) ∧ y = .ref b ∧ H b = some (.ins C dy gs) ∧ sp [x, y] H (fun v H' => (∃ c, v = .ref c) ∧ Q v H') E
section
variable {X : Cx} {CX : CXT} {k j : Nat} {C : Addr} {sp : Sp} {E : XK}
theorem op_addI (e : AddI X.prog X.w X.K X.mg X.base CX k C sp) (hg : X.A.guards = some []) (hr : Room j X.A) (hk : k ≤ j) (hx : Passes CX X E) : OpR X (binaryOp .Add) (rAddI C sp E) := by
  intro pins s σ H x y v u Q I rx ry h
  obtain ⟨a, dx, fs, b, dy, gs, rfl, ha, rfl, hb, q⟩ := h
  cases (show v = Value.ref a from rx)
  cases (show u = Value.ref b from ry)
  obtain ⟨f, fd, hs, hf, F, hbd⟩ := e.ex
  obtain ⟨mA, O, _⟩ := ins_get I.hok ha
  obtain ⟨od, J, _⟩ := O.look
  obtain ⟨mB, O2, _⟩ := ins_get I.hok hb
  obtain ⟨od2, J2, _⟩ := O2.look
  obtain ⟨m, hF⟩ := I.fr
  refine PySem.W.binop_K hF I.ok.mod.kin J (J2.type) e.self hs hf (wpAny_mono (run_fnG (us := [.ref a, .ref b]) (vs := [.ref a, .ref b]) F hg (hr.mono hk) hbd hx I (.cons rfl (.cons rfl .nil)) q) (fun v1 s1 z => ?_) fun _ _ z => z)
  obtain ⟨z1, H1, I1, rz, ⟨c, rfl⟩, q1⟩ := z
  cases (show v1 = Value.ref c from rz)
  exact ⟨.ref c, H1, I1, rfl, q1⟩
end
/-! ## own == where the guards are known -/
structure EqIG (P : Program) (w : World) (K : PySem.W.Frag) (mg : Str → Option Value) (base : Heap) (k : Nat) (C : Addr) (sp : Sp) : Prop where
  ex : ∃ (f : Addr) (fd : FuncData), PySem.W.findIn K (.ref C) "__eq__" = some (some (.ref f)) ∧ PySem.W.isFn K (.ref f) = true ∧ FnG P w K mg base CX0 k f fd ["self", "other"] sp ∧ Binds K fd ["self", "other"] []
section
variable {X : Cx} {k j : Nat} {C : Addr} {sp : Sp}
theorem op_eqIG (e : EqIG X.prog X.w X.K X.mg X.base k C sp) (hg : X.A.guards = some []) (hr : Room j X.A) (hk : k ≤ j) : OpR X (compareOp .Eq) (rEqI X.K C sp id) := by
  intro pins s σ H x y v u Q I rx ry h
  obtain ⟨a, dx, fs, tb, rfl, ha, ty, hn, q⟩ := h
  cases (show v = Value.ref a from rx)
  obtain ⟨f, fd, hs, hf, F, hb⟩ := e.ex
  obtain ⟨mA, O, _⟩ := ins_get I.hok ha
  obtain ⟨od, J, _⟩ := O.look
  obtain ⟨m, hF⟩ := I.fr
  show wpAny (model X.prog X.w) X.A (richCompare .Eq (.ref a) u) (EP X pins σ Q) X.xe s
  refine PySem.W.cmp_K (op := .Eq) hr.units0 hF I.ok.mod.kin J (ty.looks I ry) hn hs hf (wpAny_mono (run_fnG (us := [.ref a, u]) (vs := [.ref a, y]) F hg (hr.mono hk) hb pass0 I (.cons rfl (.cons ry .nil)) q) (fun v1 s1 z => ?_) fun _ _ z => z)
  obtain ⟨z1, H1, I1, rz, b, rfl, q1⟩ := z
  cases (show v1 = Value.bool b from rz)
  exact ⟨.bl b, H1, I1, rfl, q1⟩
end
/-! ## a method called by keywords alone -/
structure MthK (P : Program) (w : World) (K : PySem.W.Frag) (mg : Str → Option Value) (base : Heap) (CX : CXT) (k : Nat) (C : Addr) (m : Str) (sp : Sp) (ks : List Str) (g : {α : Type} → List α → List α) : Prop where
  ex : ∃ (f : Addr) (fd : FuncData) (ps : List Str), Meth K C m f ∧ FnG P w K mg base CX k f fd ps sp ∧
    (∀ (s : Shared) (v : Value) (ws : List Value), K.In s.heap → ws.length = ks.length → BindsTo s fd ⟨[v], ks.zip ws⟩ (ps.zip (v :: g ws))) ∧ ∀ (vs : List V) (ws : List Value), Vals vs ws → vs.length = ks.length → Vals (g vs) (g ws)
section
variable {X : Cx} {CX : CXT} {k j : Nat} {C : Addr} {m : Str} {sp : Sp} {E : XK} {o : Expr} {ta : TE} {tk : TA} {apos pos : Pos} {kws : List Keyword} {ks : List Str} {g : {α : Type} → List α → List α}
end
end Vk
set_option Elab.async false
set_option maxRecDepth 100000
set_option linter.all false
set_option maxHeartbeats 4000000
namespace Vk
open PySem PySem.Spec PyProof.Rows L2
/-! ## what is never reached -/
/-! ## methods with nothing under way -/
structure MthG (P : Program) (w : World) (K : PySem.W.Frag) (mg : Str → Option Value) (base : Heap) (CX : CXT) (k : Nat) (C : Addr) (m : Str) (sp : Sp) : Prop where
  ex : ∃ (f : Addr) (fd : FuncData) (ps : List Str), Meth K C m f ∧ FnG P w K mg base CX k f fd ps sp ∧ Binds K fd ps []
section
variable {X : Cx} {CX : CXT} {k j : Nat} {C : Addr} {m : Str} {sp : Sp} {E : XK} {o e : Expr} {es : List Expr} {ta : TE} {t : TA} {apos pos : Pos}
theorem pe_methG {pl : Sem Bool} (he : PE X o ta) (c : Cls X.K C) (M : MthG X.prog X.w X.K X.mg X.base CX k C m sp) (hg : X.A.guards = some []) (hr : Room j X.A) (hk : k ≤ j) (hx : Passes CX X E) (ha : PA X (e :: es) t)
    (hst : starEach (e :: es) X.env = (false, eval e X.env) :: starEach es X.env := by rfl) (hpl : (backTo pos (starEach es X.env)).any (·.1) = false := by rfl)
    (ht : eval (.Call (.Attribute o m apos) (e :: es) [] pos) X.env = (do
      let ov ← eval o X.env
      standAt apos.atName
      let (f, first) ← holding [ov] (getMethod ov m pl)
      callWith pos f first (backTo pos (starEach (e :: es) X.env)) (backToKw pos (keywordEach [] X.env))) := by rfl) :
    PE X (.Call (.Attribute o m apos) (e :: es) [] pos) (tMeth C m sp [] E ta t) := by
  obtain ⟨f, fd, ps, hm, F, hb⟩ := M.ex
  refine ⟨fun pins s σ H Q I h => PySem.W.methodCall_KW (pl := pl) (thn (he.run pins s σ H _ I h) fun u s1 hh => ?_) ht⟩
  obtain ⟨x, H1, I1, rx, a, dx, fs, rfl, ea, l, q⟩ := hh
  cases (show u = Value.ref a from rx)
  refine getmeth_ok I1 ea c hm l (PySem.W.callWith_K (first := [.ref a]) (h₀ := X.base) I.ok.mod.kin hm.kp (thn (ha.run pos pins s1 σ H1 _ I1 q) fun us s2 hh2 => ?_) hst hpl)
  obtain ⟨vs, H2, I2, r, q2⟩ := hh2
  rw [List.append_nil] at q2
  exact ⟨I2.kIn, run_fnG (us := .ref a :: us) (vs := .ref a :: vs) F hg (hr.mono hk) hb hx I2 (.cons rfl r) q2⟩
end
end Vk
set_option Elab.async false
set_option maxRecDepth 100000
set_option linter.all false
set_option maxHeartbeats 4000000
namespace Vk
open PySem PySem.Spec PyProof.Rows L2 StX
section
variable {P : Program} {w : World} {K : PySem.W.Frag} {mg : Str → Option Value} {base : Heap}
variable {C_LongText C_OutOfRange : Addr}
abbrev longF (q : Addr) (n : Nat) : List (Str × V) := [("_runs", .ref q), ("_length", .int (n : Nat))]
/-- a long text -/
def IsLong (C : Addr) (H : Hp) (a : Addr) (rs : List Run) : Prop := ∃ dx q xs, H a = some (.ins C dx (longF q (lenR rs))) ∧ H q = some (.tup xs) ∧ RunsV H xs rs
theorem IsLong.keep {C a : Addr} {H H1 : Hp} {rs : List Run} (h : IsLong C H a rs) (s : Same H H1) : IsLong C H1 a rs := by
  obtain ⟨dx, q, xs, h1, h2, h3⟩ := h
  exact ⟨dx, q, xs, s _ _ h1, s _ _ h2, h3.keep s⟩
theorem same_updA {H H1 : Hp} {a : Addr} {o : HO} (s : Same H H1) : Same (upd H a o) (upd H1 a o) := fun x u e => by
  by_cases z : x = a
  · subst z
    rw [upd_same] at e ⊢
    exact e
  · rw [upd_ne z] at e ⊢
    exact s _ _ e
abbrev m_init : Stmt := mtd (top 36) 0
theorem sc_init : FnScope ["self", "made", "runs"] ["self", "made", "runs"] (defScope m_init) := ⟨rfl, rfl, rfl, by decide +kernel, rfl, by decide +kernel, by decide +kernel⟩
def spInitL (C : Addr) : Sp := fun vs H Q _ => ∃ a dx v p ys q xs rs, vs = [.ref a, v, .ref p] ∧ H a = some (.ins C dx []) ∧ H p = some (.tup ys) ∧ ((v = .non ∧ q = p ∧ rs.length ≤ 20 ∧ ∀ r ∈ rs, FitRun r) ∨ v = .ref q) ∧ H q = some (.tup xs) ∧ RunsV H xs rs ∧ OkRs rs ∧
  ∀ H', Same (upd H a (.ins C dx [("_runs", .ref q)])) H' → Q .non (upd H' a (.ins C dx (longF q (lenR rs))))
theorem body_init {f : Addr} (T : Txt mg) (cl : Cls K C_LongText) (n1 : NoAttr K C_LongText "_runs") (n2 : NoAttr K C_LongText "_length") (c_check_runs : CalG P w K mg base CX0 5 "check_runs" spChkRuns) (c_length_of : CalG P w K mg base CX0 1 "length_of" spLenOf)
    (cdv : Value) (A : Around) (outer : List Env) (s : Shared) (H : Hp) (vs : List V) (Q : VK) (E : XK) (hg : A.guards = some []) (hr : Room 5 (A.deeper (envOfC "LongText.__init__" (defScope m_init) s.heap.objs.size f cdv))) (h : spInitL C_LongText vs H Q E) :
    ∃ t, PSs (cxOf (L2.CX P w) P w K mg base ["self", "made", "runs"] "LongText.__init__" (defScope m_init) f cdv A outer s H E) (defBody m_init) t ∧ t { nx := fun _ H' => Q .non H', rt := Q } (start ["self", "made", "runs"] vs) H := by
  have hu := hu_of hr
  have hu64 := hr.units
  obtain ⟨a, dx, v, p, ys, q, xs, rs, rfl, ha, hp, hv, hq, rv, ok, k⟩ := h
  refine ⟨_, (pss_cons (ps_if (pt_cmpR op_isN (pv 1) pe_non (nomark _)) (pss_cons (ps_expr (pe_cG c_check_runs hg hr (by decide) pass0 (pa_cons (pv 2) pa_nil)))
      (pss_one (ps_fld (pv 0) (pv 2) rfl))) (pss_one (ps_fld (pv 0) (pv 1) rfl)))
      (pss_one (ps_fld (pv 0) (pe_cG c_length_of hg hr (by decide) pass0 (pa_cons (pe_fld (pv 0) rfl) pa_nil)) rfl))), ?_⟩
  have naq : q ≠ a := fun z => by rw [z, ha] at hq; cases hq
  have sT : ∀ u ws, H u = some (.tup ws) → (upd H a (.ins C_LongText dx [("_runs", .ref q)])) u = some (.tup ws) := fun u ws e => by
    rw [upd_ne (fun z => by rw [z, ha] at e; cases e)]
    exact e
  refine seq_mid (fun σ H2 => σ = [some (.ref a), some v, some (.ref p)] ∧ Same (upd H a (.ins C_LongText dx [("_runs", .ref q)])) H2) (fun D' hD => ?_) ?_
  · refine ⟨_, rfl, rfl, _, rfl, ?_⟩
    rcases hv with ⟨rfl, rfl, l20, fit⟩ | rfl
    · refine iteT ⟨_, rfl, q, xs, rs, rfl, hq, rv, l20, fit, fun H2 s2 => ?_⟩
      exact ⟨_, rfl, _, rfl, a, C_LongText, dx, [], rfl, s2 _ _ ha, cl, n1, by decide, hD _ _ ⟨rfl, same_updA s2⟩⟩
    · refine iteF ?_
      exact ⟨_, rfl, _, rfl, a, C_LongText, dx, [], rfl, ha, cl, n1, by decide, hD _ _ ⟨rfl, Same.rfl⟩⟩
  · rintro σ H2 ⟨rfl, sm⟩
    have h2a := sm _ _ upd_same
    have rv2 := (rv.keepT sT).keep sm
    refine ⟨_, rfl, a, C_LongText, dx, _, _, rfl, h2a, cl, n1, rfl, q, xs, rs, rfl, sm _ _ (sT _ _ hq), rv2, ok, fun H3 s3 => ?_⟩
    exact ⟨_, rfl, a, C_LongText, dx, _, rfl, s3 _ _ h2a, cl, n2, Nat.le_of_ble_eq_true rfl, k _ (sm.trans s3)⟩
/-- LongText(..) -/
abbrev spLongS (C : Addr) : Sp := fun vs H Q E => ∃ a rest, vs = a :: rest ∧ rest.length ≤ sizeLine ∧ ∀ p, H p = none → spInitL C [a, .non, .ref p] (upd H p (.tup rest)) Q E
/-- LongText(made=..) -/
abbrev spLongM (C : Addr) : Sp := fun vs H Q E => ∃ a m, vs = [a, m] ∧ ∀ p, H p = none → spInitL C [a, m, .ref p] (upd H p (.tup [])) Q E
theorem b_longS {f : Addr} {fd : FuncData} (F : FunKd K "__init__" "LongText.__init__" m_init "made" .none f fd) (T : Txt mg) (cl : Cls K C_LongText) (n1 : NoAttr K C_LongText "_runs") (n2 : NoAttr K C_LongText "_length") (c_check_runs : CalG P w K mg base CX0 5 "check_runs" spChkRuns) (c_length_of : CalG P w K mg base CX0 1 "length_of" spLenOf) :
    FnRG P w K mg base (L2.CX P w) 6 f (spLongS C_LongText) :=
  okStarK F sc_init cxUp rfl (fun D doc pm an cdv ct u rest => by
    cases rest with
    | nil => exact ⟨_, _, _, _, _, _, rfl, rfl, rfl⟩
    | cons r rs => exact ⟨_, _, _, _, _, _, rfl, rfl, rfl⟩) (body_init T cl n1 n2 c_check_runs c_length_of)
theorem b_longM {f : Addr} {fd : FuncData} (F : FunKd K "__init__" "LongText.__init__" m_init "made" .none f fd) (T : Txt mg) (cl : Cls K C_LongText) (n1 : NoAttr K C_LongText "_runs") (n2 : NoAttr K C_LongText "_length") (c_check_runs : CalG P w K mg base CX0 5 "check_runs" spChkRuns) (c_length_of : CalG P w K mg base CX0 1 "length_of" spLenOf) :
    FnMG P w K mg base (L2.CX P w) 6 f "made" (spLongM C_LongText) :=
  okStarM F sc_init cxUp (fun D doc pm an cdv ct u m => rfl) (body_init T cl n1 n2 c_check_runs c_length_of)
/-- a new long text of runs that are fit -/
theorem born_longS {C : Addr} {xs : List V} {rs : List Run} {H : Hp} {Q : VK} {E : XK} (rv : RunsV H xs rs) (l20 : rs.length ≤ 20) (fit : ∀ r ∈ rs, FitRun r) (k : ∀ b H', H b = none → Same H H' → IsLong C H' b rs → Q (.ref b) H') : Born C (spLongS C) xs H Q E := by
  intro a dx ha hdx ne
  have x1 : Same H (upd (upd H dx (.own a)) a (.ins C dx [])) := fun b o h => by
    rw [upd_ne (ne_of_none h ha), upd_ne (ne_of_none h hdx)]
    exact h
  have lx := paired_len rv
  refine ⟨.ref a, xs, rfl, few_len (by omega), fun p hp => ?_⟩
  have sp := same_new (o := .tup xs) hp
  have x2 := x1.trans sp
  refine ⟨a, dx, .non, p, xs, p, xs, rs, rfl, sp _ _ upd_same, upd_same, .inl ⟨rfl, rfl, l20, fit⟩, upd_same, rv.keep x2, ⟨by omega, fun r h => (fit r h).1⟩, fun H' s' => ⟨rfl, ?_⟩⟩
  have nap : p ≠ a := fun z => by
    rw [z, upd_same] at hp
    cases hp
  have key : ∀ x o, H x = some o → H' x = some o := fun x o e => s' _ _ (by
    rw [upd_ne (fun z => by rw [z, ha] at e; cases e)]
    exact x2 _ _ e)
  refine k a _ ha (fun x o e => ?_) ⟨dx, p, xs, upd_same, ?_, ?_⟩
  · rw [upd_ne (fun z => by rw [z, ha] at e; cases e)]
    exact key _ _ e
  · rw [upd_ne nap]
    exact s' _ _ (by rw [upd_ne nap]; exact upd_same)
  · exact rv.keep fun x o e => by
      rw [upd_ne (fun z => by rw [z, ha] at e; cases e)]
      exact key _ _ e
theorem born_longM {C q : Addr} {xs : List V} {rs : List Run} {H : Hp} {Q : VK} {E : XK} (hq : H q = some (.tup xs)) (rv : RunsV H xs rs) (ok : OkRs rs) (k : ∀ b H', H b = none → Same H H' → IsLong C H' b rs → Q (.ref b) H') : Born C (spLongM C) [.ref q] H Q E := by
  intro a dx ha hdx ne
  have x1 : Same H (upd (upd H dx (.own a)) a (.ins C dx [])) := fun b o h => by
    rw [upd_ne (ne_of_none h ha), upd_ne (ne_of_none h hdx)]
    exact h
  refine ⟨.ref a, .ref q, rfl, fun p hp => ?_⟩
  have sp := same_new (o := .tup []) hp
  have x2 := x1.trans sp
  refine ⟨a, dx, .ref q, p, [], q, xs, rs, rfl, sp _ _ upd_same, upd_same, .inr rfl, x2 _ _ hq, rv.keep x2, ok, fun H' s' => ⟨rfl, ?_⟩⟩
  have key : ∀ x o, H x = some o → H' x = some o := fun x o e => s' _ _ (by
    rw [upd_ne (fun z => by rw [z, ha] at e; cases e)]
    exact x2 _ _ e)
  have key2 : Same H (upd H' a (.ins C dx (longF q (lenR rs)))) := fun x o e => by
    rw [upd_ne (fun z => by rw [z, ha] at e; cases e)]
    exact key _ _ e
  exact k a _ ha key2 ⟨dx, q, xs, upd_same, key2 _ _ hq, rv.keep key2⟩
abbrev m_eqL : Stmt := mtd (top 36) 4
theorem sc_eqL : FnScope ["self", "other"] ["self", "other"] (defScope m_eqL) := ⟨rfl, rfl, rfl, by decide +kernel, rfl, by decide +kernel, by decide +kernel⟩
abbrev m_difference : Stmt := mtd (top 36) 8
theorem sc_difference : FnScope ["self", "other"] ["self", "other"] (defScope m_difference) := ⟨rfl, rfl, rfl, by decide +kernel, rfl, by decide +kernel, by decide +kernel⟩
abbrev m_addL : Stmt := mtd (top 36) 5
theorem sc_addL : FnScope ["self", "other"] ["self", "other"] (defScope m_addL) := ⟨rfl, rfl, rfl, by decide +kernel, rfl, by decide +kernel, by decide +kernel⟩
def spAddL (C : Addr) : Sp := fun vs H Q _ => ∃ a b rs rt, vs = [.ref a, .ref b] ∧ IsLong C H a rs ∧ IsLong C H b rt ∧ OkRs (rs ++ rt) ∧ ∀ c H', H c = none → Same H H' → IsLong C H' c (rs ++ rt) → Q (.ref c) H'
theorem b_addL {f fI : Addr} {fd : FuncData} (F : Fun K "__add__" "LongText.__add__" m_addL f fd) (T : Txt mg) (cl : Cls K C_LongText) (n1 : NoAttr K C_LongText "_runs") (pr_runs : ∀ n, n < 1 → PrI P w K mg base 1 ((fun _ => C_LongText) n) "runs" "_runs") (n_LongText : mg "LongText" = some (.ref C_LongText)) (ML : L2.Mk K C_LongText fI) (FM : FnMG P w K mg base (L2.CX P w) 6 fI "made" (spLongM C_LongText)) : FnG P w K mg base (L2.CX P w) 8 f fd ["self", "other"] (spAddL C_LongText) := by
  refine okG F sc_addL (fun vs H Q E h => ?_) (fun cdv A outer s H vs Q E hg hr h => ?_)
  · obtain ⟨a, b, rs, rt, rfl, _⟩ := h
    rfl
  · have hu := hu_of hr
    have hu64 := hr.units
    obtain ⟨a, b, rs, rt, rfl, ⟨dx, q, xs, ha, hq, rv⟩, ⟨dy, u, zs, hb, hu2, rz⟩, ok, k⟩ := h
    refine ⟨_, (pss_one (ps_ret (pe_makeY ML FM hg hr (by decide) n_LongText passesF (pk_cons (pe_tup (pa_star (pe_fld (pv 0) rfl) (pa_star (pe_propN (pv 1) pr_runs hr (by decide)) pa_nil))) pk_nil)))), ?_⟩
    have l1 := paired_len rv
    have l2 := paired_len rz
    have l3 := ok.1
    rw [List.length_append] at l3
    refine ⟨_, rfl, a, C_LongText, dx, _, _, rfl, ha, cl, n1, rfl, q, xs, rfl, .inl (SqT.of hq), _, rfl, 0, b, dy, _, _, by decide, rfl, hb, rfl, u, zs, rfl, .inl (SqT.of hu2), few_len (by rw [List.append_nil, List.length_append]; omega), fun p hp => ?_⟩
    have sp := same_new (o := .tup (xs ++ (zs ++ []))) hp
    have rr : RunsV (upd H p (.tup (xs ++ (zs ++ [])))) (xs ++ (zs ++ [])) (rs ++ rt) := by
      rw [List.append_nil] at sp ⊢
      exact (paired_catR rv rz).keep sp
    refine ⟨_, rfl, born_longM upd_same rr ok fun c H' hc s' il => ?_⟩
    refine k c H' ?_ (sp.trans s') il
    cases e : H c with
    | none => rfl
    | some o => rw [sp _ _ e] at hc; cases hc
end
end Vk
set_option Elab.async false
set_option maxRecDepth 100000
set_option linter.all false
set_option maxHeartbeats 4000000
namespace Vk
open PySem PySem.Spec PyProof.Rows L2 StX
section
variable {P : Program} {w : World} {K : PySem.W.Frag} {mg : Str → Option Value} {base : Heap}
variable {C_LongText : Addr}
abbrev fdR (rs rt : List Run) : Option Nat := fdL (flatR rs) (flatR rt) 0
def eqB (rs rt : List Run) : Bool := decide (oV (fdR rs rt) = V.non)
theorem eqB_true {rs rt : List Run} (h : flatR rs = flatR rt) : eqB rs rt = true := by
  unfold eqB fdR
  rw [h, fdL_same]
  exact decide_eq_true rfl
def spEqL (C : Addr) : Sp := fun vs H Q _ => ∃ a b rs rt, vs = [.ref a, .ref b] ∧ IsLong C H a rs ∧ IsLong C H b rt ∧ OkRs rs ∧ OkRs rt ∧ ∀ H', Same H H' → Q (.bl (eqB rs rt)) H'
theorem b_eqL {f : Addr} {fd : FuncData} (F : Fun K "__eq__" "LongText.__eq__" m_eqL f fd) (T : Txt mg) (cl : Cls K C_LongText) (n1 : NoAttr K C_LongText "_runs") (n_LongText : mg "LongText" = some (.ref C_LongText)) (tyP : ∀ {H : Hp} {a dx : Addr} {fs : List (Str × V)}, H a = some (.ins C_LongText dx fs) → TyX K H (.ref a) (.ref C_LongText)) (kL : PySem.W.kitOne K (.ref C_LongText) (.ref C_LongText) = some true) (c_first_unlike : CalG P w K mg base CX0 2 "first_unlike" spUnlike) : FnG P w K mg base CX0 3 f fd ["self", "other"] (spEqL C_LongText) := by
  refine okG0 F sc_eqL (fun vs H Q E h => ?_) (fun cdv A outer s H vs Q E hg hr h => ?_)
  · obtain ⟨a, b, rs, rt, rfl, _⟩ := h
    rfl
  · have hu := hu_of hr
    have hu64 := hr.units
    obtain ⟨a, b, rs, rt, rfl, ⟨dx, q, xs, ha, hq, rv⟩, ⟨dy, u, zs, hb, hu2, rz⟩, ok, ok2, k⟩ := h
    refine ⟨_, (pss_one (ps_ret (pe_and (pe_callB call_isi (by rfl) T.isinstance (by decide +kernel) (pa_cons (pv 1) (pa_cons (pe_glob (v := .ref C_LongText) (by rfl) n_LongText rfl) pa_nil))) (pe_one (pe_cmpR op_isN (pe_cG c_first_unlike hg hr (by decide) pass0 (pa_cons (pe_fld (pv 0) rfl) (pa_cons (pe_fld (pv 1) rfl) pa_nil))) pe_non (nomark _)))))), ?_⟩
    refine ⟨_, rfl, .ref b, .ref C_LongText, .ref C_LongText, .ref C_LongText, true, rfl, .own C_LongText, tyP hb, kL, _, rfl, iteT ?_⟩
    refine ⟨_, rfl, a, C_LongText, dx, _, _, rfl, ha, cl, n1, rfl, _, rfl, b, C_LongText, dy, _, _, rfl, hb, cl, n1, rfl, q, u, xs, zs, rs, rt, rfl, hq, rv, hu2, rz, ok, ok2, fun H' s' => ?_⟩
    exact ⟨rfl, k H' s'⟩
def spDiffL (C : Addr) : Sp := fun vs H Q _ => ∃ a b rs rt, vs = [.ref a, .ref b] ∧ IsLong C H a rs ∧ IsLong C H b rt ∧ OkRs rs ∧ OkRs rt ∧ ∀ H', Same H H' → Q (oV (fdR rs rt)) H'
theorem b_difference {f : Addr} {fd : FuncData} (F : Fun K "difference" "LongText.difference" m_difference f fd) (T : Txt mg) (cl : Cls K C_LongText) (n1 : NoAttr K C_LongText "_runs") (pr_runs : ∀ n, n < 1 → PrI P w K mg base 1 ((fun _ => C_LongText) n) "runs" "_runs") (c_first_unlike : CalG P w K mg base CX0 2 "first_unlike" spUnlike) : FnG P w K mg base CX0 3 f fd ["self", "other"] (spDiffL C_LongText) := by
  refine okG0 F sc_difference (fun vs H Q E h => ?_) (fun cdv A outer s H vs Q E hg hr h => ?_)
  · obtain ⟨a, b, rs, rt, rfl, _⟩ := h
    rfl
  · have hu := hu_of hr
    have hu64 := hr.units
    obtain ⟨a, b, rs, rt, rfl, ⟨dx, q, xs, ha, hq, rv⟩, ⟨dy, u, zs, hb, hu2, rz⟩, ok, ok2, k⟩ := h
    refine ⟨_, (pss_one (ps_ret (pe_cG c_first_unlike hg hr (by decide) pass0 (pa_cons (pe_fld (pv 0) rfl) (pa_cons (pe_propN (pv 1) pr_runs hr (by decide)) pa_nil))))), ?_⟩
    refine ⟨_, rfl, a, C_LongText, dx, _, _, rfl, ha, cl, n1, rfl, _, rfl, 0, b, dy, _, _, by decide, rfl, hb, rfl, q, u, xs, zs, rs, rt, rfl, hq, rv, hu2, rz, ok, ok2, fun H' s' => ?_⟩
    exact k H' s'
end
end Vk
set_option Elab.async false
set_option maxRecDepth 100000
set_option linter.all false
set_option maxHeartbeats 4000000
namespace Vk
open PySem PySem.Spec PyProof.Rows L2 StX
section
variable {P : Program} {w : World} {K : PySem.W.Frag} {mg : Str → Option Value} {base : Heap}
variable {C_LongText C_OutOfRange : Addr}
/-! ## what the law makes -/
def spGreat : Sp := fun vs H Q _ => ∃ (p c : Addr) (n T : Nat), vs = [.ref p, .int (n : Nat)] ∧ n ≤ 40 ∧ Pen H p c T ∧ T + 100 < 1000000000 ∧ ∀ (g : Nat) (H' : Hp), g < 10 ^ n → Pen H' p c (T + 40) → Ext p H H' → Q (.int (g : Nat)) H'
abbrev s_lgreat : Stmt := top 41
theorem sc_lgreat : FnScope ["_law_pen_here", "_law_digits", "_law_found", "_law_k"] ["_law_pen_here", "_law_digits"] (defScope s_lgreat) := ⟨rfl, rfl, rfl, by decide +kernel, rfl, by decide +kernel, by decide +kernel⟩
theorem b_lgreat {f : Addr} {fd : FuncData} (F : Fun K "_law_great" "_law_great" s_lgreat f fd) (T : Txt mg) (c_ldraw : CalG P w K mg base CX0 1 "_law_draw" spDraw) : FnG P w K mg base CX0 2 f fd ["_law_pen_here", "_law_digits"] spGreat := by
  refine okG0 F sc_lgreat (fun vs H Q E h => ?_) (fun cdv A outer s H vs Q E hg hr h => ?_)
  · obtain ⟨p, pc, n, T0, rfl, _⟩ := h
    rfl
  · have hu := hu_of hr
    have hu64 := hr.units
    obtain ⟨p, pc, n, T0, rfl, hn, hpen, hT, k⟩ := h
    refine ⟨_, (pss_cons (ps_set (i := 2) sc_lgreat.nd rfl (Or.inl rfl) pe_int)
      (pss_cons (ps_for PassesOwn.never rfl (pi_range1 rfl T.range (pa_cons (pv 1) pa_nil)) (pg_name (i := 3) sc_lgreat.nd rfl (Or.inl rfl)) (pss_one (ps_set (i := 2) sc_lgreat.nd rfl (Or.inl rfl) (pe_op op_add (pe_op op_mul pe_int (pv 2)) (pe_cG c_ldraw hg hr (by decide) pass0 (pa_cons (pv 0) (pa_cons pe_int pa_nil)))))))
      (pss_one (ps_ret (pv 2))))), ?_⟩
    refine ⟨_, rfl, _, rfl, by omega, by omega, ?_⟩
    refine for_range (lo := 0) (n := ((n : Nat) : Int).toNat) (fun i σ H' => ∃ (o3 : Option V) (g : Nat), σ = [some (.ref p), some (.int (n : Nat)), some (.int (g : Nat)), o3] ∧ g < 10 ^ i ∧ Pen H' p pc (T0 + i) ∧ Ext p H H') ?_ ?_ ?_
    · exact ⟨_, 0, rfl, by decide, hpen, Ext.rfl⟩
    · rintro i σ H2 hi ⟨o3, g, rfl, hg1, P2, x2⟩
      rw [Int.toNat_natCast] at hi
      refine ⟨_, rfl, _, _, rfl, rfl, .inl ⟨by decide, by decide⟩, _, rfl, p, pc, 10, T0 + i, rfl, by decide, by decide, P2, by omega, fun d H3 d0 d1 P3 x3 => ?_⟩
      obtain ⟨e, rfl⟩ : ∃ e : Nat, d = (e : Nat) := ⟨d.toNat, by omega⟩
      refine ⟨_, _, rfl, rfl, ?_⟩
      refine ⟨_, 10 * g + e, rfl, ?_, P3, x2.trans x3⟩
      rw [Nat.pow_succ]
      omega
    · rintro σ H2 ⟨o3, g, rfl, hg1, P2, x2⟩
      rw [Int.toNat_natCast] at hg1 P2
      exact ⟨_, rfl, k g H2 hg1 (P2.mono (by omega)) x2⟩
def FitW (r : Run) : Prop := FitRun r ∧ r.1.length ≤ 6 ∧ Ltr r.1
def spRuns : Sp := fun vs H Q _ => ∃ (p c tl : Addr) (z : Str) (ns : List Nat) (T : Nat), vs = [.ref p, .str z, .int 4, .int 6, .ref tl] ∧ 1 ≤ z.length ∧ z.length ≤ 10 ∧ Ltr z ∧ H tl = some (.lst (ns.map fun (n : Nat) => V.int (n : Nat))) ∧ ns ≠ [] ∧ ns.length ≤ 10 ∧ (∀ n ∈ ns, 1 ≤ n ∧ n ≤ 10 ^ 30) ∧ Pen H p c T ∧ T + 1000 < 1000000000 ∧
  ∀ (l : Addr) xs rs (H' : Hp), H l = none → H' l = some (.lst xs) → RunsV H' xs rs → rs.length ≤ 4 → (∀ r ∈ rs, FitW r ∧ ∀ c ∈ r.1.cps.toList, c ∈ z.cps.toList) → Pen H' p c (T + 50) → Ext p H H' → Q (.ref l) H'
abbrev s_lruns : Stmt := top 45
theorem sc_lruns : FnScope ["_law_pen_here", "_law_signs_here", "_law_many", "_law_wide", "_law_tops", "_law_k"] ["_law_pen_here", "_law_signs_here", "_law_many", "_law_wide", "_law_tops"] (defScope s_lruns) := ⟨rfl, rfl, rfl, by decide +kernel, rfl, by decide +kernel, by decide +kernel⟩
theorem old_ltr {x : Str} (h : Ltr x) (h1 : 1 ≤ x.length) (h40 : x.length ≤ 40) : isOld (.str x) = true := by
  unfold isOld isNew
  rw [isT_all]
  have e1 : x.cps.toList.all letS.cps.contains = true := List.all_eq_true.mpr fun c hc => by
    have := h c hc
    simpa using this
  rw [e1]
  show ((true && decide ((x.length : Int) ≤ 40)) && (!decide (V.str x = V.str ""))) = true
  rw [decide_eq_true (by omega)]
  rw [decide_eq_false (fun z => by cases z; exact absurd h1 (by decide))]
  rfl
theorem b_lruns {f : Addr} {fd : FuncData} (F : Fun K "_law_runs" "_law_runs" s_lruns f fd) (T : Txt mg) (c_ldraw : CalG P w K mg base CX0 1 "_law_draw" spDraw) (c_lpick : CalG P w K mg base CX0 2 "_law_pick" (spPick K)) (c_lword : CalG P w K mg base CX0 3 "_law_word" spWord) : FnG P w K mg base CX0 4 f fd ["_law_pen_here", "_law_signs_here", "_law_many", "_law_wide", "_law_tops"] spRuns := by
  refine okG0 F sc_lruns (fun vs H Q E h => ?_) (fun cdv A outer s H vs Q E hg hr h => ?_)
  · obtain ⟨p, pc, tl, z, ns, T0, rfl, _⟩ := h
    rfl
  · have hu := hu_of hr
    have hu64 := hr.units
    have hr3 : Room 3 _ := hr
    obtain ⟨p, pc, tl, z, ns, T0, rfl, z1, z10, zl, htl, ne, nl, nb, hpen, hT, k⟩ := h
    refine ⟨_, (pss_one (ps_ret (pe_lc (own := [("_law_k", 5)]) (g := gName 5) (tt := tYes) rfl sc_lruns.nd (pi_range1 rfl T.range (pa_cons (pe_cG c_ldraw hg hr (by decide) pass0 (pa_cons (pv 0) (pa_cons (pe_op op_add (pv 2) pe_int) pa_nil))) pa_nil)) (blkOk_by (own := [("_law_k", 5)]) (N := ["_law_pen_here", "_law_signs_here", "_law_many", "_law_wide", "_law_tops", "_law_k"]) (sc := defScope s_lruns) (by decide +kernel)) (fun _ _ _ _ _ => (pg_name (i := 5) sc_lruns.nd rfl (Or.inl rfl))) (fun _ _ _ _ _ => pts_nil) (fun _ _ _ _ _ => (pe_tup (pa_cons (pe_cG c_lword hg hr (by decide) pass0 (pa_cons (pv 0) (pa_cons (pv 1) (pa_cons pe_int (pa_cons (pv 3) pa_nil))))) (pa_cons (pe_cG c_lpick hg hr (by decide) pass0 (pa_cons (pv 0) (pa_cons (pv 4) pa_nil))) pa_nil))))))), ?_⟩
    refine ⟨_, rfl, _, rfl, _, _, rfl, rfl, p, pc, _, T0, rfl, by decide, by decide, hpen, by omega, fun d H1 d0 d1 P1 x1 => ?_⟩
    obtain ⟨n, rfl⟩ : ∃ n : Nat, d = (n : Int) := ⟨d.toNat, by omega⟩
    have en : ((n : Nat) : Int).toNat = n := Int.toNat_natCast n
    have n4 : n ≤ 4 := by omega
    refine ⟨_, rfl, by omega, by omega, fun D hD => ?_⟩
    obtain ⟨nDp, nDc⟩ := P1.apart hD
    have fresh : H D = none := x1.none_of nDp hD
    have htl1 := hpen.keepI x1 htl
    refine lc_range (lo := 0) (n := ((n : Nat) : Int).toNat) (fun i H' => ∃ (xs : List V) (rs : List Run), H' D = some (.lst xs) ∧ RunsV H' xs rs ∧ rs.length = i ∧ (∀ r ∈ rs, FitW r ∧ ∀ c ∈ r.1.cps.toList, c ∈ z.cps.toList) ∧ Pen H' p pc (T0 + 1 + 9 * i) ∧ Ext p H H') ?_ ?_ ?_
    · exact ⟨[], [], upd_same, .nil, rfl, fun r hr => absurd hr List.not_mem_nil, P1.new hD, x1.trans (Ext.new hD)⟩
    · rintro i H2 hi ⟨xs, rs, hDx, rv, rl, fit, P2, x2⟩
      rw [en] at hi
      have lx := paired_len rv
      refine ⟨rfl, _, rfl, _, rfl, _, rfl, p, pc, z, 1, 6, T0 + 1 + 9 * i, rfl, by decide, by decide, z1, by omega, P2, by omega, fun x H3 gx P3 x3 => ?_⟩
      have hD3 := P2.keepI x3 hDx
      have rv3 := rv.keepT (pen_tup P2 x3)
      have htl3 := hpen.keepI (x2.trans x3) htl
      refine ⟨_, rfl, _, rfl, p, pc, .ref tl, _, _, rfl, .lst (SqL.of htl3), fun e => ne (List.map_eq_nil_iff.mp e), by rw [List.length_map]; omega, P3, by omega, fun v H4 hv P4 x4 => ?_⟩
      obtain ⟨m, hm, rfl⟩ := List.mem_map.mp hv
      obtain ⟨m1, m2⟩ := nb m hm
      have hD4 := P3.keepI x4 hD3
      have rv4 := rv3.keepT (pen_tup P3 x4)
      refine ⟨few_len (n := 2) (by omega), fun t ht => ?_⟩
      have st := same_new (o := .tup [.str x, .int (m : Nat)]) ht
      have lt : Ltr x := fun c hc => zl c (gx.2.2 c hc)
      have fx : FitW (x, m) ∧ ∀ c ∈ (x, m).1.cps.toList, c ∈ z.cps.toList := ⟨⟨⟨⟨gx.1, Nat.le_trans gx.2.1 (by decide), m1⟩, old_ltr lt gx.1 (Nat.le_trans gx.2.1 (by decide)), ok_letters lt, m2⟩, gx.2.1, lt⟩, gx.2.2⟩
      refine ⟨_, st _ _ hD4, fewL (by omega), xs ++ [.ref t], rs ++ [(x, m)], upd_same, RunsV.more (r := (x, m)) rv4 hD4 ht, by rw [List.length_append, rl]; rfl, fun r hr => ?_, ?_, ?_⟩
      · rcases List.mem_append.mp hr with h | h
        · exact fit r h
        · rw [List.mem_singleton.mp h]
          exact fx
      · exact ((P4.stay st).set nDp nDc).mono (by omega)
      · exact fun b o e hb => by
          rw [upd_ne (fun q => by rw [q, fresh] at e; cases e)]
          exact st _ _ (x4 _ _ (x3 b o (x2 b o e hb) hb) hb)
    · rintro H2 ⟨xs, rs, hDx, rv, rl, fit, P2, x2⟩
      rw [en] at rl P2
      exact k D xs rs H2 fresh hDx rv (by omega) fit (P2.mono (by omega)) x2
/-- the same sum, of a list -/
def spSpan : Sp := fun vs H Q _ => ∃ (q : Addr) (xs : List V) (rs : List Run), vs = [.ref q] ∧ H q = some (.lst xs) ∧ RunsV H xs rs ∧ OkRs rs ∧ ∀ H', Same H H' → Q (.int (lenR rs : Nat)) H'
abbrev s_lspan : Stmt := top 47
theorem sc_lspan : FnScope ["_law_runs_here", "_law_piece", "_law_times"] ["_law_runs_here"] (defScope s_lspan) := ⟨rfl, rfl, rfl, by decide +kernel, rfl, by decide +kernel, by decide +kernel⟩
theorem b_lspan {f : Addr} {fd : FuncData} (F : Fun K "_law_span" "_law_span" s_lspan f fd) (T : Txt mg) : FnG P w K mg base CX0 1 f fd ["_law_runs_here"] spSpan := by
  refine okG0 F sc_lspan (fun vs H Q E h => ?_) (fun cdv A outer s H vs Q E hg hr h => ?_)
  · obtain ⟨q, xs, rs, rfl, _⟩ := h
    rfl
  · have hu := hu_of hr
    have hu64 := hr.units
    obtain ⟨q, xs, rs, rfl, hq, rw0, ⟨hl, ok⟩, k⟩ := h
    have glen := paired_len rw0
    refine ⟨_, (pss_one (ps_ret (pe_callB (cr_sum rfl) (by rfl) T.sum (by decide +kernel) (pa_cons (pe_lc (own := [("_law_piece", 1), ("_law_times", 2)]) (g := (gTup K 2 (gCons (gName 1) (gCons (gName 2) gNil)))) (tt := tYes) rfl sc_lspan.nd (pi_list (pv 0)) (blkOk_by (own := [("_law_piece", 1), ("_law_times", 2)]) (N := ["_law_runs_here", "_law_piece", "_law_times"]) (sc := defScope s_lspan) (by decide +kernel)) (fun _ _ _ _ _ => (pg_tupK (K := K) (n := 2) rfl rfl (pgs_cons (pg_name (i := 1) sc_lspan.nd rfl (Or.inl rfl)) (pgs_cons (pg_name (i := 2) sc_lspan.nd rfl (Or.inl rfl)) pgs_nil)))) (fun _ _ _ _ _ => pts_nil) (fun _ _ _ _ _ => (pe_op op_mul (pe_callB (call_lenK (K := K) rfl) (by rfl) T.len (by decide +kernel) (pa_cons (pv 1) pa_nil)) (pv 2)))) pa_nil)))), ?_⟩
    refine ⟨_, rfl, q, rfl, ⟨_, SqL.of hq⟩, fun D hD => ?_⟩
    have sD := same_new (o := .lst []) hD
    refine lc_list (K := K) (a := q) (xs := xs) (fun n H' => H' D = some (.lst ((rs.take n).map fun r => V.int (lenP r : Nat))) ∧ Same H H') ?_ ?_ ?_ ?_
    · exact ⟨upd_same, sD⟩
    · rintro n H' _ ⟨_, sm⟩
      exact SqL.of (sm _ _ hq)
    · rintro n v H' hv ⟨hDz, sm⟩
      obtain ⟨r, hr1, t, rfl, ht⟩ := paired_at rw0 hv
      have okr := ok r (List.mem_of_getElem? hr1)
      have zl : r.1.length ≤ sizeLine := Nat.le_of_lt (fewL (by have := okr.2.1; omega))
      refine ⟨t, _, rfl, SqT.of (sm _ _ ht), rfl, _, _, rfl, _, _, rfl, rfl, ?_⟩
      refine ⟨rfl, _, rfl, _, _, rfl, ⟨zl, rfl⟩, _, rfl, _, _, rfl, rfl, cm_len okr, ?_⟩
      refine ⟨_, hDz, fewL (by rw [List.length_map, List.length_take]; omega), ?_, upd_out hD sm⟩
      rw [upd_same, List.take_add_one, hr1, Option.toList_some, List.map_append]
      show some (HO.lst (_ ++ [V.int (((r.1.length : Nat) : Int) * ((r.2 : Nat) : Int))])) = _
      rw [lenP_int]
      rfl
    · rintro H2 ⟨hD2, s2⟩
      rw [List.take_of_length_le (by omega)] at hD2
      refine ⟨D, rs.map (fun r => ((lenP r : Nat) : Int)), rfl, SqL.of ?_, ?_⟩
      · rw [hD2, List.map_map]
        rfl
      · rw [lenR_int]
        exact k _ s2
end
end Vk
set_option Elab.async false
set_option maxRecDepth 100000
set_option maxHeartbeats 4000000
set_option linter.all false
namespace Vk
open PySem PySem.Spec PyProof.Rows L2
/-! ## for i in range(a, b), a and b of any size -/
end Vk
set_option Elab.async false
set_option maxRecDepth 100000
set_option linter.all false
set_option maxHeartbeats 4000000
namespace Vk
open PySem PySem.Spec PyProof.Rows L2 StX
section
variable {P : Program} {w : World} {K : PySem.W.Frag} {mg : Str → Option Value} {base : Heap}
variable {C_LongText C_OutOfRange : Addr}
theorem letA_app : ∀ (as bs : List Run) (i : Nat), letA (as ++ bs) i = if i < lenR as then letA as i else letA bs (i - lenR as)
  | [], bs, i => by rw [lenR_nil, if_neg (Nat.not_lt_zero _)]; rfl
  | a :: as, bs, i => by
    rw [List.cons_append, letA, letA, letA_app as bs, lenR_cons]
    by_cases c : i < lenP a
    · rw [if_pos c, if_pos (by omega), if_pos c]
    · rw [if_neg c, if_neg c]
      by_cases c2 : i - lenP a < lenR as
      · rw [if_pos c2, if_pos (by omega)]
      · rw [if_neg c2, if_neg (by omega), Nat.sub_sub]
theorem letA_at {rs : List Run} {r : Run} {i n : Nat} (h : rs[n]? = some r) (h1 : lenR (rs.take n) ≤ i) (h2 : i < lenR (rs.take n) + lenP r) : letA rs i = r.1.cps.toList.getD ((i - lenR (rs.take n)) % r.1.length) 0 := by
  have e : rs = rs.take n ++ r :: rs.drop (n + 1) := by
    have := List.take_append_drop n rs
    rw [drop_at h] at this
    exact this.symm
  have q := letA_app (rs.take n) (r :: rs.drop (n + 1)) i
  rw [← e, if_neg (by omega), letA, if_pos (by omega)] at q
  exact q
theorem flat_letA : ∀ {rs : List Run} {i : Nat}, (∀ r ∈ rs, 1 ≤ r.1.length) → i < lenR rs → (flatR rs)[i]? = some (letA rs i)
  | [], i, _, h => absurd h (Nat.not_lt_zero _)
  | r :: rs, i, ok, h => by
    have e : r.1.cps.toList.length = r.1.length := Array.length_toList
    have l1 : ((List.replicate r.2 r.1.cps.toList).flatten).length = lenP r := by rw [flat_len, e, Nat.mul_comm]; rfl
    have pos := ok r List.mem_cons_self
    rw [flatR_cons, letA]
    split
    · rename_i c
      rw [List.getElem?_append_left (by omega), flat_get _ _ (by rw [e, Nat.mul_comm]; exact c), e]
      have lt : i % r.1.length < r.1.cps.toList.length := by rw [e]; exact Nat.mod_lt _ pos
      rw [List.getD_eq_getElem?_getD, List.getElem?_eq_getElem lt]
      rfl
    · rename_i c
      rw [List.getElem?_append_right (by omega), l1]
      refine flat_letA (fun r hr => ok r (List.mem_cons_of_mem _ hr)) ?_
      have e2 : lenR (r :: rs) = lenP r + lenR rs := rfl
      omega
theorem flat_lenR {rs : List Run} : (flatR rs).length = lenR rs := flatR_len
/-- the letter at a place; none behind the end -/
def chr (rs : List Run) (i : Nat) : Str := match (flatR rs)[i]? with | some c => ⟨#[c]⟩ | none => ""
theorem chr_in {rs : List Run} {i : Nat} (ok : ∀ r ∈ rs, 1 ≤ r.1.length) (h : i < lenR rs) : chr rs i = ⟨#[letA rs i]⟩ := by
  unfold chr
  rw [flat_letA ok h]
theorem chr_out {rs : List Run} {i : Nat} (h : lenR rs ≤ i) : chr rs i = "" := by
  unfold chr
  rw [List.getElem?_eq_none (by rw [flat_lenR]; exact h)]
theorem lenR_takeS {rs : List Run} {n : Nat} : lenR (rs.take n) ≤ lenR rs := by
  have := List.take_append_drop n rs
  have h : lenR (rs.take n ++ rs.drop n) = lenR rs := by rw [this]
  rw [lenR_app] at h
  omega
def spLetAt : Sp := fun vs H Q _ => ∃ (l : Addr) (xs : List V) (rs : List Run) (i : Nat), vs = [.ref l, .int (i : Nat)] ∧ H l = some (.lst xs) ∧ RunsV H xs rs ∧ OkRs rs ∧ Q (.str (chr rs i)) H
abbrev s_lletter_at : Stmt := top 48
theorem sc_lletter_at : FnScope ["_law_runs_here", "_law_spot", "_law_piece", "_law_times"] ["_law_runs_here", "_law_spot"] (defScope s_lletter_at) := ⟨rfl, rfl, rfl, by decide +kernel, rfl, by decide +kernel, by decide +kernel⟩
theorem b_lletter_at {f : Addr} {fd : FuncData} (F : Fun K "_law_letter_at" "_law_letter_at" s_lletter_at f fd) (T : Txt mg) : FnG P w K mg base CX0 1 f fd ["_law_runs_here", "_law_spot"] spLetAt := by
  refine okG0 F sc_lletter_at (fun vs H Q E h => ?_) (fun cdv A outer s H vs Q E hg hr h => ?_)
  · obtain ⟨l, xs, rs, i, rfl, _⟩ := h
    rfl
  · have hu := hu_of hr
    have hu64 := hr.units
    obtain ⟨l, xs, rs, i, rfl, hl, rv, ⟨l100, ok⟩, k⟩ := h
    have lx := paired_len rv
    refine ⟨_, (pss_cons (ps_for PassesOwn.never rfl (pi_list (pv 0)) (pg_tup rfl (pgs_cons (pg_name (i := 2) sc_lletter_at.nd rfl (Or.inl rfl)) (pgs_cons (pg_name (i := 3) sc_lletter_at.nd rfl (Or.inl rfl)) pgs_nil))) (pss_cons (ps_if (pt_cmpR op_lt (pv 1) (pe_op op_mul (pe_callB call_len (by rfl) T.len (by decide +kernel) (pa_cons (pv 2) pa_nil)) (pv 3)) (nomark _)) (pss_one (ps_ret (pe_ix ix_str (pv 2) (pe_op op_mod (pe_callTy call_int1 (by rfl) T.int (by decide +kernel) (pa_cons (pv 1) pa_nil)) (pe_callB call_len (by rfl) T.len (by decide +kernel) (pa_cons (pv 2) pa_nil))) (fun _ _ => rfl)))) pss_nil)
      (pss_one (ps_set (i := 1) sc_lletter_at.nd rfl (Or.inl rfl) (pe_op op_sub (pv 1) (pe_op op_mul (pe_callB call_len (by rfl) T.len (by decide +kernel) (pa_cons (pv 2) pa_nil)) (pv 3)))))))
      (pss_one (ps_ret pe_str))), ?_⟩
    refine ⟨_, rfl, l, rfl, ⟨_, SqL.of hl⟩, for_list (xs := xs) (fun n σ H2 => ∃ o2 o3, σ = [some (.ref l), some (.int ((i - lenR (rs.take n) : Nat) : Int)), o2, o3] ∧ H2 = H ∧ lenR (rs.take n) ≤ i) ?_ ?_ ?_ ?_⟩
    · exact ⟨_, _, rfl, rfl, Nat.zero_le _⟩
    · rintro n σ H2 _ ⟨o2, o3, rfl, rfl, _⟩
      exact SqL.of hl
    · rintro n v σ H2 hv ⟨o2, o3, rfl, rfl, il2⟩
      obtain ⟨r, hr1, t, rfl, ht⟩ := paired_at rv hv
      have okr := ok r (List.mem_of_getElem? hr1)
      have pl : r.1.length ≤ sizeLine := few_len (by have := okr.2.1; omega)
      have eP := lenP_int r
      have pos : 1 ≤ r.1.length := okr.1
      refine ⟨t, _, rfl, SqT.of ht, rfl, _, _, rfl, _, _, rfl, rfl, ?_⟩
      refine ⟨_, rfl, _, rfl, _, _, rfl, ⟨pl, rfl⟩, _, rfl, _, _, rfl, rfl, cm_len okr, _, _, rfl, rfl, _, rfl, ?_⟩
      rw [eP]
      by_cases c : i - lenR (rs.take n) < lenP r
      · rw [decide_eq_true (show ((i - lenR (rs.take n) : Nat) : Int) < ((lenP r : Nat) : Int) by omega)]
        have e := letA_at hr1 il2 (by omega)
        have lsn : lenR (rs.take (n + 1)) = lenR (rs.take n) + lenP r := by
          rw [take_snoc hr1, lenR_app, lenR_cons, lenR_nil]
          omega
        have lts := lenR_takeS (rs := rs) (n := n + 1)
        rw [chr_in (fun r hr => (ok r hr).1) (by omega)] at k
        have lt : (i - lenR (rs.take n)) % r.1.length < r.1.length := Nat.mod_lt _ pos
        have em : ((i - lenR (rs.take n) : Nat) : Int) % ((r.1.length : Nat) : Int) = (((i - lenR (rs.take n)) % r.1.length : Nat) : Int) := (Int.natCast_emod _ _).symm
        refine iteT ⟨_, rfl, _, rfl, .inl ⟨_, rfl, _, rfl, _, _, rfl, ⟨pl, rfl⟩, _, _, rfl, rfl, by omega, r.1, _, letA rs i, rfl, rfl, pl, ?_, k⟩⟩
        rw [em]
        refine atI_nat ?_
        rw [e, List.getD_eq_getElem?_getD, List.getElem?_eq_getElem (by rw [← len_list]; exact lt)]
        rfl
      · rw [decide_eq_false (show ¬ ((i - lenR (rs.take n) : Nat) : Int) < ((lenP r : Nat) : Int) by omega)]
        refine iteF ⟨_, rfl, _, rfl, _, _, rfl, ⟨pl, rfl⟩, _, rfl, _, _, rfl, rfl, cm_len okr, _, _, rfl, rfl, ?_⟩
        have lsn : lenR (rs.take (n + 1)) = lenR (rs.take n) + lenP r := by
          rw [take_snoc hr1, lenR_app, lenR_cons, lenR_nil]
          omega
        refine ⟨some (.str r.1), some (.int (r.2 : Nat)), ?_, rfl, by omega⟩
        rw [lsn]
        have e2 : ((i - lenR (rs.take n) : Nat) : Int) - ((r.1.length : Nat) : Int) * ((r.2 : Nat) : Int) = ((i - (lenR (rs.take n) + lenP r) : Nat) : Int) := by
          rw [eP]
          omega
        rw [← e2]
        rfl
    · rintro σ H2 ⟨o2, o3, rfl, rfl, il2⟩
      rw [List.take_of_length_le (by omega)] at il2
      rw [chr_out il2] at k
      exact k
theorem paired_takeR {α β : Type} {R : α → β → Prop} : ∀ (n : Nat) {xs : List α} {ys : List β}, Paired R xs ys → Paired R (xs.take n) (ys.take n)
  | 0, _, _, _ => .nil
  | n + 1, _, _, .nil => .nil
  | n + 1, _, _, .cons a t => .cons a (paired_takeR n t)
theorem paired_dropR {α β : Type} {R : α → β → Prop} : ∀ (n : Nat) {xs : List α} {ys : List β}, Paired R xs ys → Paired R (xs.drop n) (ys.drop n)
  | 0, _, _, h => h
  | n + 1, _, _, .nil => .nil
  | n + 1, _, _, .cons _ t => paired_dropR n t
def spLong (C : Addr) : Sp := fun vs H Q _ => ∃ (l : Addr) (xs : List V) (rs : List Run), vs = [.ref l] ∧ H l = some (.lst xs) ∧ RunsV H xs rs ∧ rs.length ≤ 400 ∧ (∀ r ∈ rs, FitRun r) ∧ ∀ b H', Same H H' → IsLong C H' b rs → Q (.ref b) H'
abbrev s_llong : Stmt := top 46
theorem sc_llong : FnScope ["_law_runs_here", "_law_found", "_law_one"] ["_law_runs_here"] (defScope s_llong) := ⟨rfl, rfl, rfl, by decide +kernel, rfl, by decide +kernel, by decide +kernel⟩
theorem b_llong {f fI : Addr} {fd : FuncData} (F : Fun K "_law_long" "_law_long" s_llong f fd) (n_LongText : mg "LongText" = some (.ref C_LongText)) (ML : L2.Mk K C_LongText fI) (FL : FnRG P w K mg base (L2.CX P w) 6 fI (spLongS C_LongText)) (addL : AddI P w K mg base (L2.CX P w) 8 C_LongText (spAddL C_LongText)) : FnG P w K mg base CX0 9 f fd ["_law_runs_here"] (spLong C_LongText) := by
  refine okG0 F sc_llong (fun vs H Q E h => ?_) (fun cdv A outer s H vs Q E hg hr h => ?_)
  · obtain ⟨l, xs, rs, rfl, _⟩ := h
    rfl
  · have hu := hu_of hr
    have hu64 := hr.units
    obtain ⟨l, xs, rs, rfl, hl, rv, l20, fit, k⟩ := h
    have lx := paired_len rv
    refine ⟨_, (pss_cons (ps_set (i := 1) sc_llong.nd rfl (Or.inl rfl) (pe_starI0 ML FL hg hr (by decide) n_LongText passesF))
      (pss_cons (ps_for PassesOwn.never rfl (pi_list (pv 0)) (pg_name (i := 2) sc_llong.nd rfl (Or.inl rfl)) (pss_one (ps_set (i := 1) sc_llong.nd rfl (Or.inl rfl) (pe_op (op_addI addL hg hr (by decide) passesF) (pv 1) (pe_starI ML FL hg hr (by decide) n_LongText passesF (pa_cons (pv 2) pa_nil))))))
      (pss_one (ps_ret (pv 1))))), ?_⟩
    refine seq_asg ?_
    dsimp only [tStarI, tNil]
    refine born_longS (xs := []) (rs := []) .nil (by decide) (fun r hr => absurd hr List.not_mem_nil) fun b0 H1 _ s1 il1 => ?_
    refine ⟨_, rfl, l, rfl, ⟨_, SqL.of (s1 _ _ hl)⟩, for_list (xs := xs) (fun i σ H2 => ∃ (b : Addr) (o2 : Option V), σ = [some (.ref l), some (.ref b), o2] ∧ Same H H2 ∧ IsLong C_LongText H2 b (rs.take i)) ?_ ?_ ?_ ?_⟩
    · exact ⟨b0, _, rfl, s1, il1⟩
    · rintro i σ H2 _ ⟨b, o2, rfl, s2, _⟩
      exact SqL.of (s2 _ _ hl)
    · rintro i v σ H2 hv ⟨b, o2, rfl, s2, il⟩
      obtain ⟨r, hr1, t, rfl, ht⟩ := paired_at rv hv
      have mem := List.mem_of_getElem? hr1
      have one : RunsV H2 [.ref t] [r] := .cons ⟨t, rfl, s2 _ _ ht⟩ .nil
      refine ⟨_, rfl, _, rfl, ?_⟩
      dsimp only [tNil]
      refine born_longS one (by show 1 ≤ 20; decide) (fun r2 h => by rw [List.mem_singleton.mp h]; exact fit r mem) fun c H3 _ s3 il3 => ?_
      have il' := il.keep s3
      obtain ⟨dx, q, xs1, h1, h2, h3⟩ := il'
      obtain ⟨dy, u, zs1, h4, h5, h6⟩ := il3
      refine ⟨b, dx, _, c, dy, _, rfl, h1, rfl, h4, b, c, rs.take i, [r], rfl, ⟨dx, q, xs1, h1, h2, h3⟩, ⟨dy, u, zs1, h4, h5, h6⟩, ⟨by rw [List.length_append, List.length_take]; show _ + 1 ≤ 1000; omega, fun r2 h => ?_⟩, fun e H4 _ s4 il4 => ⟨⟨e, rfl⟩, ?_⟩⟩
      · rcases List.mem_append.mp h with h | h
        · exact (fit r2 (List.mem_of_mem_take h)).1
        · rw [List.mem_singleton.mp h]
          exact (fit r mem).1
      · refine ⟨e, _, rfl, (s2.trans s3).trans s4, ?_⟩
        rw [take_snoc hr1]
        exact il4
    · rintro σ H2 ⟨b, o2, rfl, s2, il⟩
      rw [List.take_of_length_le (by omega)] at il
      exact ⟨_, rfl, k b H2 s2 il⟩
end
end Vk
set_option Elab.async false
set_option maxRecDepth 100000
set_option maxHeartbeats 4000000
set_option linter.all false
namespace Vk
open PySem PySem.Spec PyProof.Rows L2 StX
/-! ## own != where the guards are known -/
structure NeG (K : PySem.W.Frag) (C : Addr) : Prop where
  ne : PySem.W.findIn K (.ref C) "__ne__" = some (some (.builtin "object.__ne__"))
  obj : PySem.W.mroIn K C (.type "object") = some true
section
variable {X : Cx} {k j : Nat} {C : Addr} {sp : Sp}
theorem eq_runG {A : Around} {pins : List (Addr × Obj)} {σ : L2.St} {H : Hp} {s : Shared} {Q : VK} {a f : Addr} {fd : FuncData} {y : V} {u : Value} {E' : Value → Shared → Prop} (F : FnG X.prog X.w X.K X.mg X.base CX0 k f fd ["self", "other"] sp) (hb : Binds X.K fd ["self", "other"] []) (hg : A.guards = some []) (hr : Room k A) (hfr : A.frames = X.A.frames)
    (I : Inv X pins σ H s) (r : RelV y u) (h : sp [.ref a, y] H Q E0) : wpAny (model X.prog X.w) A (call (.ref f) [.ref a, u]) (EP X pins σ Q) E' s := by
  have e0 : Env0 X.prog X.w X.K X.mg X.base A X.stack s H := by
    have e := I.env0
    exact ⟨hfr.trans e.frames, e.mod, e.bs, e.bsz, e.funs, e.frf, e.hok, e.bare⟩
  have bound := hb s [.ref a, u] I.kIn rfl
  rw [List.append_nil] at bound
  refine wpAny_call (codeAny_mono (F.run A X.stack s H ⟨[.ref a, u], []⟩ [.ref a, u] [.ref a, y] Q E0 hg hr e0 bound (.cons rfl (.cons r .nil)) h) fun res s' hq => ?_)
  match res, hq with
  | .error e, hq => exact hq.elim
  | .ok (.ret u), hq => exact I.after hq
  | .ok .next, hq => exact hq.elim
  | .ok .brk, hq => exact hq.elim
  | .ok .cont, hq => exact hq.elim
theorem op_neIG (e : EqIG X.prog X.w X.K X.mg X.base k C sp) (n : NeG X.K C) (hg : X.A.guards = some []) (hr : Room j X.A) (hk : k + 1 ≤ j) : OpR X (compareOp .NotEq) (rEqI X.K C sp not) := by
  intro pins s σ H x y v u Q I rx ry h
  obtain ⟨a, dx, fs, tb, rfl, ha, ty, hn, q⟩ := h
  cases (show v = Value.ref a from rx)
  obtain ⟨f, fd, hs, hf, F, hb⟩ := e.ex
  obtain ⟨mA, O, _⟩ := ins_get I.hok ha
  obtain ⟨od, J, _⟩ := O.look
  have hr1 := hr.mono hk
  show wpAny (model X.prog X.w) X.A (richCompare .NotEq (.ref a) u) (EP X pins σ Q) X.xe s
  refine ne_K (by have := hr.units; omega) I.kIn J (ty.looks I ry) hn n.ne n.obj hs hf (wpAny_mono (eq_runG F hb hg hr1.in1 rfl I ry q) (fun v1 s1 z => ?_) fun _ _ z => z)
  obtain ⟨z1, H1, I1, rz, b, rfl, q1⟩ := z
  cases (show v1 = Value.bool b from rz)
  exact ⟨b, rfl, .bl (!b), H1, I1, rfl, q1⟩
end
end Vk
set_option Elab.async false
set_option maxRecDepth 100000
set_option linter.all false
set_option maxHeartbeats 4000000
namespace Vk
open PySem PySem.Spec PyProof.Rows L2 StX
section
variable {P : Program} {w : World} {K : PySem.W.Frag} {mg : Str → Option Value} {base : Heap}
/-- a run of the law: at most 40 letters -/
def Fit2 (r : Run) : Prop := 1 ≤ r.1.length ∧ r.1.length ≤ 40 ∧ Ltr r.1 ∧ 1 ≤ r.2 ∧ r.2 ≤ 10 ^ 30
theorem Fit2.fit {r : Run} (h : Fit2 r) : FitRun r := ⟨⟨h.1, h.2.1, h.2.2.2.1⟩, old_ltr h.2.2.1 h.1 h.2.1, lt_ok h.2.2.1, h.2.2.2.2⟩
theorem fit2_of {r : Run} (h : FitW r) : Fit2 r := ⟨h.1.1.1, h.1.1.2.1, h.2.2, h.1.1.2.2, h.1.2.2.2⟩
abbrev Fit2s (rs : List Run) : Prop := ∀ r ∈ rs, Fit2 r
theorem Fit2s.ok {rs : List Run} (h : Fit2s rs) (l : rs.length ≤ 1000) : OkRs rs := ⟨l, fun r hr => (h r hr).fit.1⟩
theorem flat_rep {p : List Nat} {a b : Nat} : (List.replicate a p).flatten ++ (List.replicate b p).flatten = (List.replicate (a + b) p).flatten := by
  rw [← List.flatten_append, List.replicate_append_replicate]
theorem flatR_two {a b : Run} : flatR [a, b] = flatR [a] ++ flatR [b] := by unfold flatR; simp
theorem flatR_three {a b c : Run} : flatR [a, b, c] = flatR [a] ++ (flatR [b] ++ flatR [c]) := by unfold flatR; simp
theorem flatR_one1 {p : Str} : flatR [(p, 1)] = p.cps.toList := by rw [flatR_one]; simp
/-- a run in two -/
theorem split_a {p : Str} {t f : Nat} (h : f ≤ t) : flatR [(p, f), (p, t - f)] = flatR [(p, t)] := by
  rw [flatR_two, flatR_one, flatR_one, flatR_one, flat_rep, show f + (t - f) = t by omega]
theorem rep_twice {p : List Nat} : ∀ n, (List.replicate n (p ++ p)).flatten = (List.replicate (2 * n) p).flatten
  | 0 => rfl
  | n + 1 => by
    rw [List.replicate_succ, List.flatten_cons, rep_twice n, show 2 * (n + 1) = 2 * n + 1 + 1 by omega, List.replicate_succ, List.replicate_succ, List.flatten_cons, List.flatten_cons, List.append_assoc]
/-- pieces twice -/
theorem split_b {p : Str} {t : Nat} : flatR ([(Txt.mul p 2, t / 2)] ++ List.replicate (t % 2) (p, 1)) = flatR [(p, t)] := by
  have e : (Txt.mul p 2).cps.toList = p.cps.toList ++ p.cps.toList := by
    rw [mul_list _ _ (by omega)]
    simp [List.replicate]
  rw [flatR_app, flatR_one, flatR_one]
  show (List.replicate (t / 2) (Txt.mul p 2).cps.toList).flatten ++ _ = _
  rw [e, rep_twice]
  rcases Nat.mod_two_eq_zero_or_one t with h | h
  · rw [h, List.replicate_zero, flatR_nil, List.append_nil, show 2 * (t / 2) = t by omega]
  · rw [h, show List.replicate 1 (p, 1) = [(p, 1)] from rfl, flatR_one, flat_rep, show 2 * (t / 2) + 1 = t by omega]
theorem rep_turn {a b : List Nat} : ∀ n, a ++ ((List.replicate n (b ++ a)).flatten ++ b) = (List.replicate (n + 1) (a ++ b)).flatten
  | 0 => by simp
  | n + 1 => by
    rw [List.replicate_succ, List.flatten_cons, List.replicate_succ, List.flatten_cons, ← rep_turn n]
    simp only [List.append_assoc]
/-- begun at another letter -/
theorem split_c {p a b : Str} {t : Nat} (h : p.cps.toList = a.cps.toList ++ b.cps.toList) (ht : 1 ≤ t) : flatR [(a, 1), (b ++ a, t - 1), (b, 1)] = flatR [(p, t)] := by
  rw [flatR_three, flatR_one1, flatR_one1, flatR_one, flatR_one]
  show a.cps.toList ++ ((List.replicate (t - 1) (b ++ a).cps.toList).flatten ++ b.cps.toList) = _
  rw [more_list, rep_turn, h, show t - 1 + 1 = t by omega]
theorem seq_midR {A B : TS} {D : Ends} {σ : L2.St} {H : Hp} (Mid : L2.St → Hp → Prop) (h1 : ∀ N : L2.St → Hp → Prop, (∀ σ H, Mid σ H → N σ H) → A { D with nx := N } σ H) (h2 : ∀ σ H, Mid σ H → B D σ H) : tSeq A B D σ H := h1 _ h2
theorem ext_none {H H1 : Hp} {p c l : Addr} {T : Nat} (P : Pen H1 p c T) (x : Ext p H H1) (h : H1 l = none) : H l = none := x.none_of (fun z => by
  obtain ⟨t, l', hp⟩ := P.is
  rw [z, hp] at h
  cases h) h
theorem mid_dec {i j : Int} : decide (V.int i = V.int j) = decide (i = j) := by
  by_cases z : i = j
  · rw [decide_eq_true z, decide_eq_true (by rw [z])]
  · rw [decide_eq_false z, decide_eq_false (fun w => z (V.int.inj w))]
theorem run_int {H : Hp} {t : Addr} {z : Str} {i : Int} {n : Nat} (e : i = (n : Nat)) (h : H t = some (.tup [.str z, .int i])) : H t = some (.tup [.str z, .int (n : Nat)]) := by rw [← e]; exact h
def spSplit : Sp := fun vs H Q _ => ∃ (p c t : Addr) (r : Run) (T : Nat), vs = [.ref p, .ref t] ∧ H t = some (.tup [.str r.1, .int (r.2 : Nat)]) ∧ Fit2 r ∧ Pen H p c T ∧ T + 1000 < 1000000000 ∧ ∀ (l : Addr) xs rs (H' : Hp), H l = none → H' l = some (.lst xs) → RunsV H' xs rs → rs.length ≤ 3 → Fit2s rs → flatR rs = flatR [r] → Pen H' p c (T + 50) → Ext p H H' → Q (.ref l) H'
abbrev s_lsplit_run : Stmt := top 49
theorem sc_lsplit_run : FnScope ["_law_pen_here", "_law_one", "_law_piece", "_law_times", "_law_way", "_law_few_here", "_law_k"] ["_law_pen_here", "_law_one"] (defScope s_lsplit_run) := ⟨rfl, rfl, rfl, by decide +kernel, rfl, by decide +kernel, by decide +kernel⟩
theorem b_lsplit_run {f : Addr} {fd : FuncData} (F : Fun K "_law_split_run" "_law_split_run" s_lsplit_run f fd) (T : Txt mg) (c_ldraw : CalG P w K mg base CX0 1 "_law_draw" spDraw) (c_lgreat : CalG P w K mg base CX0 2 "_law_great" spGreat) : FnG P w K mg base CX0 3 f fd ["_law_pen_here", "_law_one"] spSplit := by
  refine okG0 F sc_lsplit_run (fun vs H Q E h => ?_) (fun cdv A outer s H vs Q E hg hr h => ?_)
  · obtain ⟨p, c, t, r, T0, rfl, _⟩ := h
    rfl
  · have hu := hu_of hr
    have hu64 := hr.units
    obtain ⟨p, pc, t, ⟨z, n⟩, T0, rfl, ht, ⟨f1, f2, f3, f4, f5⟩, hpen, hT, k⟩ := h
    dsimp only at ht f1 f2 f3 f4 f5
    have zl : z.length ≤ sizeLine := few_len (by omega)
    refine ⟨_, (pss_cons (ps_asg (pv 1) (pg_tup rfl (pgs_cons (pg_name (i := 2) sc_lsplit_run.nd rfl (Or.inl rfl)) (pgs_cons (pg_name (i := 3) sc_lsplit_run.nd rfl (Or.inl rfl)) pgs_nil))))
      (pss_cons (ps_set (i := 4) sc_lsplit_run.nd rfl (Or.inl rfl) (pe_cG c_ldraw hg hr (by decide) pass0 (pa_cons (pv 0) (pa_cons pe_int pa_nil))))
      (pss_cons (ps_if (PW.pt (pw_and (pt_cmpR op_eq (pv 4) pe_int (nomark _)) (pw_and1 (pt_cmpR op_gt (pv 3) pe_int (nomark _))))) (pss_cons (ps_set (i := 5) sc_lsplit_run.nd rfl (Or.inl rfl) (pe_op op_add pe_int (pe_op op_mod (pe_callTy call_int1 (by rfl) T.int (by decide +kernel) (pa_cons (pe_cG c_lgreat hg hr (by decide) pass0 (pa_cons (pv 0) (pa_cons pe_int pa_nil))) pa_nil)) (pe_op op_sub (pv 3) pe_int))))
      (pss_one (ps_ret (pe_lst (pa_cons (pe_tup (pa_cons (pv 2) (pa_cons (pv 5) pa_nil))) (pa_cons (pe_tup (pa_cons (pv 2) (pa_cons (pe_op op_sub (pv 3) (pv 5)) pa_nil))) pa_nil)))))) pss_nil)
      (pss_cons (ps_if (PW.pt (pw_and (pt_cmpR op_eq (pv 4) pe_int (nomark _)) (pw_and (pt_cmpR op_lt (pe_callB call_len (by rfl) T.len (by decide +kernel) (pa_cons (pv 2) pa_nil)) pe_int (nomark _)) (pw_and1 (pt_cmpR op_gt (pv 3) pe_int (nomark _)))))) (pss_one (ps_ret (pe_op op_cat (pe_lst (pa_cons (pe_tup (pa_cons (pe_op op_mulS (pv 2) pe_int) (pa_cons (pe_op op_fdiv (pv 3) pe_int) pa_nil))) pa_nil)) (pe_op op_rep (pe_lst (pa_cons (pe_tup (pa_cons (pv 2) (pa_cons pe_int pa_nil))) pa_nil)) (pe_op op_mod (pe_callTy call_int1 (by rfl) T.int (by decide +kernel) (pa_cons (pv 3) pa_nil)) pe_int))))) pss_nil)
      (pss_cons (ps_if (PW.pt (pw_and (pt_cmpR op_eq (pv 4) pe_int (nomark _)) (pw_and (pt_cmpR op_gt (pe_callB call_len (by rfl) T.len (by decide +kernel) (pa_cons (pv 2) pa_nil)) pe_int (nomark _)) (pw_and1 (pt_cmpR op_gt (pv 3) pe_int (nomark _)))))) (pss_cons (ps_set (i := 6) sc_lsplit_run.nd rfl (Or.inl rfl) (pe_op op_add pe_int (pe_cG c_ldraw hg hr (by decide) pass0 (pa_cons (pv 0) (pa_cons (pe_op op_sub (pe_callB call_len (by rfl) T.len (by decide +kernel) (pa_cons (pv 2) pa_nil)) pe_int) pa_nil)))))
      (pss_one (ps_ret (pe_lst (pa_cons (pe_tup (pa_cons (pe_slice sl_str (pv 2) po_none (po_some (pv 6))) (pa_cons pe_int pa_nil))) (pa_cons (pe_tup (pa_cons (pe_op op_add_str (pe_slice sl_str (pv 2) (po_some (pv 6)) po_none) (pe_slice sl_str (pv 2) po_none (po_some (pv 6)))) (pa_cons (pe_op op_sub (pv 3) pe_int) pa_nil))) (pa_cons (pe_tup (pa_cons (pe_slice sl_str (pv 2) (po_some (pv 6)) po_none) (pa_cons pe_int pa_nil))) pa_nil))))))) pss_nil)
      (pss_one (ps_ret (pe_ifExp (PW.pt (pw_and (pt_cmpR op_eq (pv 4) pe_int (nomark _)) (pw_and1 (pt_cmpR op_gt (pv 3) pe_int (nomark _))))) (pe_lst (pa_cons (pe_tup (pa_cons (pv 2) (pa_cons pe_int pa_nil))) (pa_cons (pe_tup (pa_cons (pv 2) (pa_cons (pe_op op_sub (pv 3) pe_int) pa_nil))) pa_nil))) (pe_lst (pa_cons (pv 1) pa_nil)))))))))), ?_⟩
    refine ⟨_, rfl, t, _, rfl, SqT.of ht, rfl, _, _, rfl, _, _, rfl, rfl, ?_⟩
    refine ⟨_, rfl, p, pc, 5, _, rfl, by decide, by decide, hpen, by omega, fun way H1 w0 w1 P1 x1 => ?_⟩
    have ht1 := pen_tup hpen x1 _ _ ht
    have out : ∀ {H2 H3 : Hp} {T2 : Nat} {rs : List Run} {l : Addr} {xs : List V}, Ext p H H2 → Pen H2 p pc T2 → T2 ≤ T0 + 50 → Same H2 H3 → H3 l = none → RunsV (upd H3 l (.lst xs)) xs rs → rs.length ≤ 3 → Fit2s rs → flatR rs = flatR [(z, n)] → Q (.ref l) (upd H3 l (.lst xs)) := by
      intro H2 H3 T2 rs l xs x2 P2 t2 s3 hl rv l3 fit fl
      have x3 := x2.trans (Ext.same s3)
      have P3 := P2.stay s3
      have s4 := same_new (o := .lst xs) hl
      exact k l xs rs _ (ext_none P3 x3 hl) upd_same rv l3 fit fl ((P3.stay s4).mono t2) (x3.trans (Ext.same s4))
    obtain ⟨wy, rfl⟩ : ∃ w : Nat, way = (w : Nat) := ⟨way.toNat, by omega⟩
    refine name_go ?_
    dsimp only
    refine seq_midR (fun σ H' => σ = [some (.ref p), some (.ref t), some (.str z), some (.int (n : Nat)), some (.int (wy : Nat)), none, none] ∧ H' = H1) (fun N hN => ?_) ?_
    · refine ⟨_, rfl, rfl, _, rfl, ?_⟩
      show if decide (V.int ((wy : Nat) : Int) = V.int 0) = true then _ else _
      rw [mid_dec]
      refine ite2 (fun _ => ?_) (fun _ => hN _ _ ⟨rfl, rfl⟩)
      refine ⟨_, rfl, _, _, rfl, rfl, _, rfl, ite2 (fun c => ?_) (fun _ => hN _ _ ⟨rfl, rfl⟩)⟩
      have n1 : (1 : Int) < (n : Nat) := of_decide_eq_true c
      refine ⟨_, rfl, p, pc, 30, _, rfl, by decide, P1, by omega, fun g H2 hg1 P2 x2 => .inl ⟨_, rfl, _, rfl, _, _, rfl, rfl, _, _, rfl, rfl, by omega, _, _, rfl, rfl, ?_⟩⟩
      obtain ⟨fw, ef, fw1, fw2⟩ : ∃ fw : Nat, (1 : Int) + ((g : Nat) : Int) % (((n : Nat) : Int) - 1) = (fw : Nat) ∧ 1 ≤ fw ∧ fw < n := by
        have e1 := Int.emod_nonneg ((g : Nat) : Int) (show ((n : Nat) : Int) - 1 ≠ 0 by omega)
        have e2 := Int.emod_lt_of_pos ((g : Nat) : Int) (show 0 < ((n : Nat) : Int) - 1 by omega)
        exact ⟨(1 + ((g : Nat) : Int) % (((n : Nat) : Int) - 1)).toNat, by omega, by omega, by omega⟩
      show gName 5 (V.int ((1 : Int) + ((g : Nat) : Int) % (((n : Nat) : Int) - 1))) _ H2 _
      rw [ef]
      refine ⟨_, rfl, _, rfl, few_len (n := 2) (by omega), fun t1 ht1 => ⟨_, rfl, _, rfl, _, rfl, _, _, rfl, rfl, few_len (n := 2) (by omega), fun t2 ht2 => ⟨few_len (n := 2) (by omega), fun lo hlo => ?_⟩⟩⟩
      have a1 := same_new (o := .tup [.str z, .int (fw : Nat)]) ht1
      have a2 := same_new (o := .tup [.str z, .int (((n : Nat) : Int) - ((fw : Nat) : Int))]) ht2
      have a3 := same_new (o := .lst [.ref t1, .ref t2]) hlo
      exact out (x1.trans x2) P2 (by omega) (a1.trans a2) hlo (rs := [(z, fw), (z, n - fw)]) (.cons ⟨t1, rfl, a3 _ _ (a2 _ _ upd_same)⟩ (.cons ⟨t2, rfl, run_int (by omega) (a3 _ _ upd_same)⟩ .nil)) (by show 2 ≤ 3; decide)
        (fun r hr => by
          rcases List.mem_cons.mp hr with rfl | hr
          · exact ⟨f1, f2, f3, fw1, by omega⟩
          · rw [List.mem_singleton.mp hr]
            exact ⟨f1, f2, f3, by show 1 ≤ n - fw; omega, by show n - fw ≤ 10 ^ 30; omega⟩)
        (split_a (by omega))
    rintro σ H2 ⟨rfl, rfl⟩
    refine seq_midR (fun σ H' => σ = [some (.ref p), some (.ref t), some (.str z), some (.int (n : Nat)), some (.int (wy : Nat)), none, none] ∧ H' = H2) (fun N hN => ?_) ?_
    · refine ⟨_, rfl, rfl, _, rfl, ?_⟩
      show if decide (V.int ((wy : Nat) : Int) = V.int 1) = true then _ else _
      rw [mid_dec]
      refine ite2 (fun _ => ?_) (fun _ => hN _ _ ⟨rfl, rfl⟩)
      refine ⟨_, rfl, _, _, rfl, ⟨zl, rfl⟩, _, _, rfl, rfl, _, rfl, ite2 (fun c0 => ?_) (fun _ => hN _ _ ⟨rfl, rfl⟩)⟩
      refine ⟨_, rfl, _, _, rfl, rfl, _, rfl, ite2 (fun c => ?_) (fun _ => hN _ _ ⟨rfl, rfl⟩)⟩
      have n1 : (1 : Int) < (n : Nat) := of_decide_eq_true c
      have z21 : ((z.length : Nat) : Int) < 21 := of_decide_eq_true c0
      refine ⟨_, rfl, z, 2, rfl, rfl, ⟨by decide, by decide, by show z.length * 2 ≤ _; omega, by omega⟩, _, rfl, _, _, rfl, rfl, ⟨by decide, by decide⟩, few_len (n := 2) (by omega), fun t1 ht1 => ⟨few_len (n := 1) (by omega), fun l1 hl1 => ?_⟩⟩
      have a1 := same_new (o := .tup [.str (Txt.mul z 2), .int (((n : Nat) : Int) / 2)]) ht1
      have a2 := same_new (o := .lst [.ref t1]) hl1
      refine ⟨_, rfl, few_len (n := 2) (by omega), fun t2 ht2 => ⟨few_len (n := 1) (by omega), fun l2 hl2 => ⟨_, rfl, .inl ⟨_, rfl, _, _, rfl, rfl, (by show (0 : Int) < 2; decide), l2, _, [.ref t2], rfl, rfl, upd_same, ?_, ?_, ?_, fun l3 hl3 => ?_⟩⟩⟩⟩
      · have := Int.emod_nonneg ((n : Nat) : Int) (show (2 : Int) ≠ 0 by decide)
        omega
      · have := Int.emod_lt_of_pos ((n : Nat) : Int) (show (0 : Int) < 2 by decide)
        omega
      · refine few_len ?_
        have := Int.emod_lt_of_pos ((n : Nat) : Int) (show (0 : Int) < 2 by decide)
        show 1 * _ ≤ _
        omega
      have a3 := same_new (o := .tup [.str z, .int 1]) ht2
      have a4 := same_new (o := .lst [.ref t2]) hl2
      have a5 := same_new (o := .lst (List.replicate (((n : Nat) : Int) % 2).toNat [V.ref t2]).flatten) hl3
      have em : (((n : Nat) : Int) % 2).toNat = n % 2 := by omega
      refine ⟨l1, l3, _, _, rfl, rfl, a5 _ _ (a4 _ _ (a3 _ _ upd_same)), upd_same, few_len ?_, fun l4 hl4 => ?_⟩
      · rw [em]
        rcases Nat.mod_two_eq_zero_or_one n with h | h
        · rw [h]
          show 1 ≤ 1000
          decide
        · rw [h]
          show 2 ≤ 1000
          decide
      have a6 := same_new (o := .lst ([V.ref t1] ++ (List.replicate (((n : Nat) : Int) % 2).toNat [V.ref t2]).flatten)) hl4
      have m2 : (Txt.mul z 2).length = z.length * 2 := by rw [mul_len _ _ (by omega), Nat.mul_comm]; rfl
      have mt : Ltr (Txt.mul z 2) := fun c hc => by
        rw [mul_list _ _ (by omega)] at hc
        have : c ∈ z.cps.toList := by simpa [List.replicate] using hc
        exact f3 c this
      refine out x1 P1 (by omega) (a1.trans (a2.trans (a3.trans (a4.trans a5)))) hl4 (rs := [(Txt.mul z 2, n / 2)] ++ List.replicate (n % 2) (z, 1)) ?_ ?_ ?_ split_b
      · refine paired_catR (.cons ⟨t1, rfl, run_int (by omega) (a6 _ _ (a5 _ _ (a4 _ _ (a3 _ _ (a2 _ _ upd_same)))))⟩ .nil) ?_
        rw [em]
        rcases Nat.mod_two_eq_zero_or_one n with h | h
        · rw [h]
          exact .nil
        · rw [h]
          have e5 := a6 _ _ (a5 _ _ (a4 _ _ (upd_same (a := t2) (o := .tup [.str z, .int 1]))))
          rw [em, h] at e5
          exact .cons ⟨t2, rfl, e5⟩ .nil
      · rw [List.length_append, List.length_replicate]
        show 1 + _ ≤ 3
        omega
      · intro r hr
        rcases List.mem_append.mp hr with hr | hr
        · rw [List.mem_singleton.mp hr]
          exact ⟨by show 1 ≤ (Txt.mul z 2).length; omega, by show (Txt.mul z 2).length ≤ 40; omega, mt, by show 1 ≤ n / 2; omega, by show n / 2 ≤ 10 ^ 30; omega⟩
        · rw [(List.mem_replicate.mp hr).2]
          exact ⟨f1, f2, f3, (by show 1 ≤ 1; decide), (by show 1 ≤ 10 ^ 30; decide)⟩
    rintro σ H2 ⟨rfl, rfl⟩
    refine seq_midR (fun σ H' => σ = [some (.ref p), some (.ref t), some (.str z), some (.int (n : Nat)), some (.int (wy : Nat)), none, none] ∧ H' = H2) (fun N hN => ?_) ?_
    · refine ⟨_, rfl, rfl, _, rfl, ?_⟩
      show if decide (V.int ((wy : Nat) : Int) = V.int 2) = true then _ else _
      rw [mid_dec]
      refine ite2 (fun _ => ?_) (fun _ => hN _ _ ⟨rfl, rfl⟩)
      refine ⟨_, rfl, _, _, rfl, ⟨zl, rfl⟩, _, _, rfl, rfl, _, rfl, ite2 (fun c0 => ?_) (fun _ => hN _ _ ⟨rfl, rfl⟩)⟩
      refine ⟨_, rfl, _, _, rfl, rfl, _, rfl, ite2 (fun c => ?_) (fun _ => hN _ _ ⟨rfl, rfl⟩)⟩
      have n1 : (1 : Int) < (n : Nat) := of_decide_eq_true c
      have z1 : (1 : Int) < ((z.length : Nat) : Int) := of_decide_eq_true c0
      refine ⟨_, rfl, _, rfl, _, _, rfl, ⟨zl, rfl⟩, _, _, rfl, rfl, p, pc, _, _, rfl, by omega, by omega, P1, by omega, fun d H3 d0 d1 P3 x3 => ?_⟩
      obtain ⟨m, rfl⟩ : ∃ m : Nat, d = (m : Nat) := ⟨d.toNat, by omega⟩
      refine ⟨_, _, rfl, rfl, ?_⟩
      show gName 6 (V.int ((1 : Int) + ((m : Nat) : Int))) _ H3 _
      rw [show (1 : Int) + ((m : Nat) : Int) = ((m + 1 : Nat) : Int) by omega]
      obtain ⟨za, eza⟩ : ∃ y, y = cutS z none (some ((m + 1 : Nat) : Int)) := ⟨_, rfl⟩
      obtain ⟨zb, ezb⟩ : ∃ y, y = cutS z (some ((m + 1 : Nat) : Int)) none := ⟨_, rfl⟩
      have la : za.cps.toList = z.cps.toList.take (m + 1) := by rw [eza]; exact cut_to
      have lb : zb.cps.toList = z.cps.toList.drop (m + 1) := by rw [ezb]; exact cut_from
      have zz : z.cps.toList.length = z.length := Array.length_toList
      have aa : za.cps.toList.length = za.length := Array.length_toList
      have bb : zb.cps.toList.length = zb.length := Array.length_toList
      rw [la, List.length_take] at aa
      rw [lb, List.length_drop] at bb
      have ltra : Ltr za := by rw [eza]; exact cutS_lt f3 _ _
      have ltrb : Ltr zb := by rw [ezb]; exact cutS_lt f3 _ _
      have bal : (zb ++ za).length = zb.length + za.length := strLen_append zb za
      refine ⟨_, rfl, _, rfl, _, rfl, z, rfl, zl, few_len (n := 2) (by omega), fun t1 ht1 => ?_⟩
      rw [← eza]
      refine ⟨_, rfl, _, rfl, _, rfl, z, rfl, zl, ?_⟩
      rw [← ezb]
      refine ⟨_, rfl, _, rfl, _, rfl, z, rfl, zl, ?_⟩
      rw [← eza]
      refine ⟨_, _, rfl, rfl, few_len (n := zb.length + za.length) (by omega), _, rfl, _, _, rfl, rfl, few_len (n := 2) (by omega), fun t2 ht2 => ?_⟩
      refine ⟨_, rfl, _, rfl, _, rfl, z, rfl, zl, ?_⟩
      rw [← ezb]
      refine ⟨few_len (n := 2) (by omega), fun t3 ht3 => ⟨few_len (n := 3) (by omega), fun lo hlo => ?_⟩⟩
      have a1 := same_new (o := .tup [.str za, .int 1]) ht1
      have a2 := same_new (o := .tup [.str (zb ++ za), .int (((n : Nat) : Int) - 1)]) ht2
      have a3 := same_new (o := .tup [.str zb, .int 1]) ht3
      have a4 := same_new (o := .lst [.ref t1, .ref t2, .ref t3]) hlo
      refine out (x1.trans x3) P3 (by omega) (a1.trans (a2.trans a3)) hlo (rs := [(za, 1), (zb ++ za, n - 1), (zb, 1)]) (.cons ⟨t1, rfl, a4 _ _ (a3 _ _ (a2 _ _ upd_same))⟩ (.cons ⟨t2, rfl, run_int (by omega) (a4 _ _ (a3 _ _ upd_same))⟩ (.cons ⟨t3, rfl, a4 _ _ upd_same⟩ .nil))) (by show 3 ≤ 3; decide) ?_ ?_
      · intro r hr
        simp only [List.mem_cons, List.not_mem_nil, or_false] at hr
        rcases hr with rfl | rfl | rfl
        · exact ⟨by show 1 ≤ za.length; omega, by show za.length ≤ 40; omega, ltra, (by show 1 ≤ 1; decide), (by show 1 ≤ 10 ^ 30; decide)⟩
        · exact ⟨by show 1 ≤ (zb ++ za).length; omega, by show (zb ++ za).length ≤ 40; omega, lt_more ltrb ltra, by show 1 ≤ n - 1; omega, by show n - 1 ≤ 10 ^ 30; omega⟩
        · exact ⟨by show 1 ≤ zb.length; omega, by show zb.length ≤ 40; omega, ltrb, (by show 1 ≤ 1; decide), (by show 1 ≤ 10 ^ 30; decide)⟩
      · exact split_c (by rw [la, lb, List.take_append_drop]) f4
    rintro σ H2 ⟨rfl, rfl⟩
    have one : ∀ lo, H2 lo = none → Q (.ref lo) (upd H2 lo (.lst [.ref t])) := fun lo hlo => by
      have a4 := same_new (o := .lst [V.ref t]) hlo
      exact out x1 P1 (by omega) Same.rfl hlo (rs := [(z, n)]) (.cons ⟨t, rfl, a4 _ _ ht1⟩ .nil) (by show 1 ≤ 3; decide) (fun r hr => by rw [List.mem_singleton.mp hr]; exact ⟨f1, f2, f3, f4, f5⟩) rfl
    refine ⟨_, rfl, rfl, _, rfl, ?_⟩
    show if decide (V.int ((wy : Nat) : Int) = V.int 3) = true then _ else _
    rw [mid_dec]
    refine ite2 (fun _ => ?_) (fun _ => ?_)
    · refine ⟨_, rfl, _, _, rfl, rfl, _, rfl, ite2 (fun c => ?_) (fun _ => ⟨_, rfl, few_len (n := 1) (by omega), fun lo hlo => one lo hlo⟩)⟩
      have n1 : (1 : Int) < (n : Nat) := of_decide_eq_true c
      refine ⟨_, rfl, few_len (n := 2) (by omega), fun t1 ht1 => ⟨_, rfl, _, rfl, _, _, rfl, rfl, few_len (n := 2) (by omega), fun t2 ht2 => ⟨few_len (n := 2) (by omega), fun lo hlo => ?_⟩⟩⟩
      have a1 := same_new (o := .tup [.str z, .int 1]) ht1
      have a2 := same_new (o := .tup [.str z, .int (((n : Nat) : Int) - 1)]) ht2
      have a3 := same_new (o := .lst [.ref t1, .ref t2]) hlo
      exact out x1 P1 (by omega) (a1.trans a2) hlo (rs := [(z, 1), (z, n - 1)]) (.cons ⟨t1, rfl, a3 _ _ (a2 _ _ upd_same)⟩ (.cons ⟨t2, rfl, run_int (by omega) (a3 _ _ upd_same)⟩ .nil)) (by show 2 ≤ 3; decide)
        (fun r hr => by
          rcases List.mem_cons.mp hr with rfl | hr
          · exact ⟨f1, f2, f3, (by show 1 ≤ 1; decide), (by show 1 ≤ 10 ^ 30; decide)⟩
          · rw [List.mem_singleton.mp hr]
            exact ⟨f1, f2, f3, by show 1 ≤ n - 1; omega, by show n - 1 ≤ 10 ^ 30; omega⟩)
        (split_a (by omega))
    · exact ⟨_, rfl, few_len (n := 1) (by omega), fun lo hlo => one lo hlo⟩
end
end Vk
set_option Elab.async false
set_option maxRecDepth 100000
set_option linter.all false
set_option maxHeartbeats 4000000
namespace Vk
open PySem PySem.Spec PyProof.Rows L2 StX
section
variable {P : Program} {w : World} {K : PySem.W.Frag} {mg : Str → Option Value} {base : Heap}
theorem RunsV.ext {H H1 : Hp} {p c : Addr} {T : Nat} {xs : List V} {rs : List Run} (h : RunsV H xs rs) (P : Pen H p c T) (x : Ext p H H1) : RunsV H1 xs rs := h.keepT (pen_tup P x)
theorem Fit2s.app {rs rt : List Run} (h : Fit2s rs) (g : Fit2s rt) : Fit2s (rs ++ rt) := fun r hr => by
  rcases List.mem_append.mp hr with hr | hr
  · exact h r hr
  · exact g r hr
def spRecut : Sp := fun vs H Q _ => ∃ (p c l : Addr) (xs : List V) (rs : List Run) (T : Nat), vs = [.ref p, .ref l] ∧ H l = some (.lst xs) ∧ RunsV H xs rs ∧ rs.length ≤ 40 ∧ Fit2s rs ∧ Pen H p c T ∧ T + 20000 < 1000000000 ∧ ∀ (lo : Addr) zs rt (H' : Hp), H' lo = some (.lst zs) → RunsV H' zs rt → rt.length ≤ 9 * rs.length → Fit2s rt → flatR rt = flatR rs → Pen H' p c (T + 200 * rs.length) → Ext p H H' → Q (.ref lo) H'
abbrev s_lrecut : Stmt := top 50
theorem sc_lrecut : FnScope ["_law_pen_here", "_law_runs_here", "_law_found", "_law_one", "_law_other"] ["_law_pen_here", "_law_runs_here"] (defScope s_lrecut) := ⟨rfl, rfl, rfl, by decide +kernel, rfl, by decide +kernel, by decide +kernel⟩
theorem b_lrecut {f : Addr} {fd : FuncData} (F : Fun K "_law_recut" "_law_recut" s_lrecut f fd) (T : Txt mg) (c_lsplit_run : CalG P w K mg base CX0 3 "_law_split_run" spSplit) : FnG P w K mg base CX0 4 f fd ["_law_pen_here", "_law_runs_here"] spRecut := by
  refine okG0 F sc_lrecut (fun vs H Q E h => ?_) (fun cdv A outer s H vs Q E hg hr h => ?_)
  · obtain ⟨p, c, l, xs, rs, T0, rfl, _⟩ := h
    rfl
  · have hu := hu_of hr
    have hu64 := hr.units
    obtain ⟨p, pc, l, xs, rs, T0, rfl, hl, rv, l40, fit, hpen, hT, k⟩ := h
    have lx := paired_len rv
    refine ⟨_, (pss_cons (ps_set (i := 2) sc_lrecut.nd rfl (Or.inl rfl) (pe_lst pa_nil))
      (pss_cons (ps_for PassesOwn.never rfl (pi_list (pv 1)) (pg_name (i := 3) sc_lrecut.nd rfl (Or.inl rfl)) (pss_one (ps_for PassesOwn.never rfl (pi_list (pe_cG c_lsplit_run hg hr (by decide) pass0 (pa_cons (pv 0) (pa_cons (pv 3) pa_nil)))) (pg_name (i := 4) sc_lrecut.nd rfl (Or.inl rfl)) (pss_one (ps_set (i := 2) sc_lrecut.nd rfl (Or.inl rfl) (pe_op op_cat (pv 2) (pe_cG c_lsplit_run hg hr (by decide) pass0 (pa_cons (pv 0) (pa_cons (pv 4) pa_nil)))))))))
      (pss_one (ps_ret (pv 2))))), ?_⟩
    refine ⟨few_len (n := 0) (by omega), fun l0 hl0 => ?_⟩
    have s0 := same_new (o := .lst []) hl0
    refine ⟨_, rfl, l, rfl, ⟨_, SqL.of (s0 _ _ hl)⟩, for_list (xs := xs) (fun i σ H2 => ∃ (lo : Addr) (zs : List V) (rt : List Run) (o3 o4 : Option V), σ = [some (.ref p), some (.ref l), some (.ref lo), o3, o4] ∧ H2 lo = some (.lst zs) ∧ RunsV H2 zs rt ∧ rt.length ≤ 9 * i ∧ Fit2s rt ∧ flatR rt = flatR (rs.take i) ∧ Pen H2 p pc (T0 + 200 * i) ∧ Ext p H H2) ?_ ?_ ?_ ?_⟩
    · exact ⟨l0, [], [], _, _, rfl, upd_same, .nil, Nat.le_refl _, (fun r hr => absurd hr List.not_mem_nil), rfl, hpen.stay s0, Ext.same s0⟩
    · rintro i σ H2 _ ⟨lo, zs, rt, o3, o4, rfl, h1, h2, h3, h4, h5, h6, h7⟩
      exact SqL.of (hpen.keepI h7 hl)
    · rintro i v σ H2 hv ⟨lo, zs, rt, o3, o4, rfl, h1, h2, h3, h4, h5, P2, x2⟩
      obtain ⟨r, hr1, t, rfl, ht⟩ := paired_at rv hv
      have il : i < rs.length := (List.getElem?_eq_some_iff.mp hr1).1
      have fr := fit r (List.mem_of_getElem? hr1)
      have ht2 := pen_tup hpen x2 _ _ ht
      refine ⟨_, rfl, _, rfl, p, pc, t, r, _, rfl, ht2, fr, P2, by omega, fun la ys rs' H3 hla0 hla rv' l3 fit' fl' P3 x3 => ?_⟩
      have h1' := P2.keepI x3 h1
      have h2' := h2.ext P2 x3
      have x23 := x2.trans x3
      have ly := paired_len rv'
      refine ⟨la, rfl, ⟨_, SqL.of hla⟩, for_list (xs := ys) (fun j σ H4 => ∃ (lo : Addr) (zs : List V) (rt : List Run) (o4 : Option V), σ = [some (.ref p), some (.ref l), some (.ref lo), some (.ref t), o4] ∧ H4 lo = some (.lst zs) ∧ RunsV H4 zs rt ∧ rt.length ≤ 9 * i + 3 * j ∧ Fit2s rt ∧ flatR rt = flatR (rs.take i) ++ flatR (rs'.take j) ∧ Pen H4 p pc (T0 + 200 * i + 50 + 50 * j) ∧ Ext p H3 H4) ?_ ?_ ?_ ?_⟩
      · exact ⟨lo, zs, rt, _, rfl, h1', h2', by omega, h4, by rw [h5, List.take_zero, flatR_nil, List.append_nil], P3, fun _ _ h _ => h⟩
      · rintro j σ H4 _ ⟨lo, zs, rt, o4, rfl, a1, a2, a3, a4, a5, a6, a7⟩
        exact SqL.of (P3.keepI a7 hla)
      · rintro j v σ H4 hv ⟨lo, zs, rt, o4, rfl, a1, a2, a3, a4, a5, P4, x4⟩
        obtain ⟨r2, hr2, t2, rfl, ht2⟩ := paired_at rv' hv
        have fr2 := fit' r2 (List.mem_of_getElem? hr2)
        have jl : j < rs'.length := (List.getElem?_eq_some_iff.mp hr2).1
        have ht4 := pen_tup P3 x4 _ _ ht2
        refine ⟨_, rfl, _, rfl, _, rfl, p, pc, t2, r2, _, rfl, ht4, fr2, P4, by omega, fun lb ws rs2 H5 hlb0 hlb rv2 l32 fit2 fl2 P5 x5 => ?_⟩
        have lw := paired_len rv2
        have lz := paired_len a2
        refine ⟨lo, lb, zs, ws, rfl, rfl, P4.keepI x5 a1, hlb, few_len (by omega), fun q hq => ?_⟩
        have sq := same_new (o := .lst (zs ++ ws)) hq
        refine ⟨q, zs ++ ws, rt ++ rs2, _, rfl, upd_same, paired_catR ((a2.ext P4 x5).keep sq) (rv2.keep sq), by rw [List.length_append]; omega, a4.app fit2, ?_, (P5.stay sq).mono (by omega), (x4.trans x5).trans (Ext.same sq)⟩
        rw [flatR_app, a5, fl2, take_snoc hr2, flatR_app, List.append_assoc]
      · rintro σ H4 ⟨lo, zs, rt, o4, rfl, a1, a2, a3, a4, a5, P4, x4⟩
        rw [show rs'.take ys.length = rs' from List.take_of_length_le (by omega), fl'] at a5
        refine ⟨lo, zs, rt, _, _, rfl, a1, a2, by omega, a4, ?_, P4.mono (by omega), x23.trans x4⟩
        rw [a5, take_snoc hr1, flatR_app]
    · rintro σ H2 ⟨lo, zs, rt, o3, o4, rfl, h1, h2, h3, h4, h5, P2, x2⟩
      rw [List.take_of_length_le (by omega)] at h5
      rw [lx] at h3 P2
      exact ⟨_, rfl, k lo zs rt H2 h1 h2 h3 h4 h5 P2 x2⟩
end
end Vk
set_option Elab.async false
set_option maxRecDepth 100000
set_option linter.all false
set_option maxHeartbeats 4000000
namespace Vk
open PySem PySem.Spec PyProof.Rows L2 StX
section
variable {P : Program} {w : World} {K : PySem.W.Frag} {mg : Str → Option Value} {base : Heap}
theorem rep_cut {p : List Nat} {t m : Nat} (h : m < t * p.length) : (List.replicate t p).flatten = (List.replicate (m / p.length) p).flatten ++ (p ++ (List.replicate (t - m / p.length - 1) p).flatten) := by
  have pos : 0 < p.length := Nat.pos_of_ne_zero (fun z => by rw [z, Nat.mul_zero] at h; exact absurd h (Nat.not_lt_zero _))
  have q : m / p.length < t := (Nat.div_lt_iff_lt_mul pos).mpr h
  have e : p ++ (List.replicate (t - m / p.length - 1) p).flatten = (List.replicate (t - m / p.length - 1 + 1) p).flatten := by rw [List.replicate_succ, List.flatten_cons]
  rw [e, flat_rep]
  congr 2
  omega
theorem rep_take {p : List Nat} {t m : Nat} (h : m < t * p.length) : ((List.replicate t p).flatten).take m = (List.replicate (m / p.length) p).flatten ++ p.take (m % p.length) := by
  have pos : 0 < p.length := Nat.pos_of_ne_zero (fun z => by rw [z, Nat.mul_zero] at h; exact absurd h (Nat.not_lt_zero _))
  have dm := Nat.div_add_mod m p.length
  have ml := Nat.mod_lt m pos
  rw [rep_cut h, List.take_append, flat_len, List.take_of_length_le (by rw [flat_len, Nat.mul_comm]; omega), List.take_append]
  have e : m - m / p.length * p.length = m % p.length := by rw [Nat.mul_comm]; omega
  rw [e, show m % p.length - p.length = 0 by omega, List.take_zero, List.append_nil]
theorem rep_drop {p : List Nat} {t m : Nat} (h : m < t * p.length) : ((List.replicate t p).flatten).drop m = p.drop (m % p.length) ++ (List.replicate (t - m / p.length - 1) p).flatten := by
  have pos : 0 < p.length := Nat.pos_of_ne_zero (fun z => by rw [z, Nat.mul_zero] at h; exact absurd h (Nat.not_lt_zero _))
  have dm := Nat.div_add_mod m p.length
  have ml := Nat.mod_lt m pos
  rw [rep_cut h, List.drop_append, flat_len, List.drop_eq_nil_of_le (by rw [flat_len, Nat.mul_comm]; omega), List.nil_append, List.drop_append]
  have e : m - m / p.length * p.length = m % p.length := by rw [Nat.mul_comm]; omega
  rw [e, show m % p.length - p.length = 0 by omega, List.drop_zero]
/-- a run that may be empty -/
def Wk (r : Run) : Prop := r.1.length ≤ 40 ∧ Ltr r.1 ∧ r.2 ≤ 10 ^ 30
abbrev Wks (rs : List Run) : Prop := ∀ r ∈ rs, Wk r
theorem Wks.app {rs rt : List Run} (h : Wks rs) (g : Wks rt) : Wks (rs ++ rt) := fun r hr => by
  rcases List.mem_append.mp hr with hr | hr
  · exact h r hr
  · exact g r hr
def goodR (r : Run) : Bool := !decide (V.str r.1 = V.str "") && decide ((0 : Int) < ((r.2 : Nat) : Int))
theorem flat_good : ∀ rs : List Run, flatR (rs.filter goodR) = flatR rs
  | [] => rfl
  | r :: rs => by
    rw [List.filter_cons]
    split
    · rw [flatR_cons, flatR_cons, flat_good rs]
    · rename_i h
      rw [flatR_cons, flat_good rs]
      have e : (List.replicate r.2 r.1.cps.toList).flatten = [] := by
        unfold goodR at h
        rcases Nat.eq_zero_or_pos r.2 with z | z
        · rw [z]
          rfl
        · rw [decide_eq_true (show (0 : Int) < ((r.2 : Nat) : Int) by omega), Bool.and_true] at h
          have e1 : V.str r.1 = V.str "" := by simpa using h
          have e2 : r.1 = ("" : Str) := V.str.inj e1
          rw [e2]
          have e3 : (("" : Str).cps.toList) = [] := rfl
          rw [e3]
          simp
      rw [e, List.nil_append]
theorem good_fit {rs : List Run} (h : Wks rs) : Fit2s (rs.filter goodR) := fun r hr => by
  obtain ⟨m, g⟩ := List.mem_filter.mp hr
  obtain ⟨h1, h2, h3⟩ := h r m
  unfold goodR at g
  rw [Bool.and_eq_true] at g
  refine ⟨?_, h1, h2, by have := of_decide_eq_true g.2; omega, h3⟩
  rcases Nat.eq_zero_or_pos r.1.length with z | z
  · exfalso
    have e2 : r.1 = ("" : Str) := by
      have h0 : r.1.cps = #[] := Array.eq_empty_of_size_eq_zero z
      have e0 : ("" : Str) = ⟨#[]⟩ := by first | rfl | decide
      rw [e0, ← h0]
    have := g.1
    rw [e2] at this
    simp at this
  · exact z
def spUntil : Sp := fun vs H Q _ => ∃ (l : Addr) (xs : List V) (rs : List Run) (n : Nat), vs = [.ref l, .int (n : Nat)] ∧ H l = some (.lst xs) ∧ RunsV H xs rs ∧ rs.length ≤ 100 ∧ Fit2s rs ∧ ∀ (t lf ll : Addr) (ys zs : List V) (ra rb : List Run) (H' : Hp), H' t = some (.tup [.ref lf, .ref ll]) → H' lf = some (.lst ys) → RunsV H' ys ra → H' ll = some (.lst zs) → RunsV H' zs rb → ra.length ≤ 2 * rs.length → rb.length ≤ 2 * rs.length → Fit2s ra → Fit2s rb → flatR ra = (flatR rs).take n → flatR rb = (flatR rs).drop n → Same H H' → Q (.ref t) H'
abbrev s_luntil : Stmt := top 51
theorem sc_luntil : FnScope ["_law_runs_here", "_law_spot", "_law_front", "_law_later", "_law_piece", "_law_times", "_law_size", "_law_turns", "_law_k", "_law_one"] ["_law_runs_here", "_law_spot"] (defScope s_luntil) := ⟨rfl, rfl, rfl, by decide +kernel, rfl, by decide +kernel, by decide +kernel⟩
theorem b_luntil {f : Addr} {fd : FuncData} (F : Fun K "_law_until" "_law_until" s_luntil f fd) (T : Txt mg) : FnG P w K mg base CX0 1 f fd ["_law_runs_here", "_law_spot"] spUntil := by
  refine okG0 F sc_luntil (fun vs H Q E h => ?_) (fun cdv A outer s H vs Q E hg hr h => ?_)
  · obtain ⟨l, xs, rs, n, rfl, _⟩ := h
    rfl
  · have hu := hu_of hr
    have hu64 := hr.units
    obtain ⟨l, xs, rs, n, rfl, hl, rv, l100, fit, k⟩ := h
    have lx := paired_len rv
    refine ⟨_, (pss_cons (ps_par (i := 2) (j := 3) (by rfl) sc_luntil.nd rfl rfl (by decide) rfl rfl (pa_cons (pe_lst pa_nil) (pa_cons (pe_lst pa_nil) pa_nil)) (by rfl))
      (pss_cons (ps_for PassesOwn.never rfl (pi_list (pv 0)) (pg_tup rfl (pgs_cons (pg_name (i := 4) sc_luntil.nd rfl (Or.inl rfl)) (pgs_cons (pg_name (i := 5) sc_luntil.nd rfl (Or.inl rfl)) pgs_nil))) (pss_cons (ps_set (i := 6) sc_luntil.nd rfl (Or.inl rfl) (pe_op op_mul (pe_callB call_len (by rfl) T.len (by decide +kernel) (pa_cons (pv 4) pa_nil)) (pv 5)))
      (pss_cons (ps_if (pt_cmpR op_ge (pv 1) (pv 6) (nomark _)) (pss_one (ps_set (i := 2) sc_luntil.nd rfl (Or.inl rfl) (pe_op op_cat (pv 2) (pe_lst (pa_cons (pe_tup (pa_cons (pv 4) (pa_cons (pv 5) pa_nil))) pa_nil))))) (pss_one (ps_if (pt_cmpR op_le (pv 1) pe_int (nomark _)) (pss_one (ps_set (i := 3) sc_luntil.nd rfl (Or.inl rfl) (pe_op op_cat (pv 3) (pe_lst (pa_cons (pe_tup (pa_cons (pv 4) (pa_cons (pv 5) pa_nil))) pa_nil))))) (pss_cons (ps_par (i := 7) (j := 8) (by rfl) sc_luntil.nd rfl rfl (by decide) rfl rfl (pa_cons (pe_op op_fdiv (pv 1) (pe_callB call_len (by rfl) T.len (by decide +kernel) (pa_cons (pv 4) pa_nil))) (pa_cons (pe_op op_mod (pe_callTy call_int1 (by rfl) T.int (by decide +kernel) (pa_cons (pv 1) pa_nil)) (pe_callB call_len (by rfl) T.len (by decide +kernel) (pa_cons (pv 4) pa_nil))) pa_nil)) (by rfl))
      (pss_cons (ps_set (i := 2) sc_luntil.nd rfl (Or.inl rfl) (pe_op op_cat (pv 2) (pe_lst (pa_cons (pe_tup (pa_cons (pv 4) (pa_cons (pv 7) pa_nil))) (pa_cons (pe_tup (pa_cons (pe_slice sl_str (pv 4) po_none (po_some (pv 8))) (pa_cons pe_int pa_nil))) pa_nil)))))
      (pss_one (ps_set (i := 3) sc_luntil.nd rfl (Or.inl rfl) (pe_op op_cat (pv 3) (pe_lst (pa_cons (pe_tup (pa_cons (pe_slice sl_str (pv 4) (po_some (pv 8)) po_none) (pa_cons pe_int pa_nil))) (pa_cons (pe_tup (pa_cons (pv 4) (pa_cons (pe_op op_sub (pe_op op_sub (pv 5) (pv 7)) pe_int) pa_nil))) pa_nil)))))))))))
      (pss_one (ps_set (i := 1) sc_luntil.nd rfl (Or.inl rfl) (pe_op op_sub (pv 1) (pv 6)))))))
      (pss_cons (ps_setLc (i := 2) (own := [("_law_one", 9)]) (g := gName 9) rfl sc_luntil.nd rfl rfl (sw_true rfl rfl rfl (by decide +kernel)) (pi_list (pv 2)) (blkOk_by (own := [("_law_one", 9)]) (N := ["_law_runs_here", "_law_spot", "_law_front", "_law_later", "_law_piece", "_law_times", "_law_size", "_law_turns", "_law_k", "_law_one"]) (sc := defScope s_luntil) (by decide +kernel)) (fun _ _ _ _ _ => (pg_name (i := 9) sc_luntil.nd rfl (Or.inl rfl))) (fun _ _ _ _ _ => (pts_one (PW.pt (pw_and (pt_cmpR op_ne (pe_ix (ix_tupK (K := K) rfl) (pv 9) pe_int (fun _ _ => rfl)) pe_str (nomark _)) (pw_and1 (pt_cmpR op_gt (pe_ix (ix_tupK (K := K) rfl) (pv 9) pe_int (fun _ _ => rfl)) pe_int (nomark _))))))) (fun _ _ _ _ _ => (pv 9)))
      (pss_one (ps_ret (pe_tup (pa_cons (pv 2) (pa_cons (pe_lc (own := [("_law_one", 9)]) (g := gName 9) rfl sc_luntil.nd (pi_list (pv 3)) (blkOk_by (own := [("_law_one", 9)]) (N := ["_law_runs_here", "_law_spot", "_law_front", "_law_later", "_law_piece", "_law_times", "_law_size", "_law_turns", "_law_k", "_law_one"]) (sc := defScope s_luntil) (by decide +kernel)) (fun _ _ _ _ _ => (pg_name (i := 9) sc_luntil.nd rfl (Or.inl rfl))) (fun _ _ _ _ _ => (pts_one (PW.pt (pw_and (pt_cmpR op_ne (pe_ix (ix_tupK (K := K) rfl) (pv 9) pe_int (fun _ _ => rfl)) pe_str (nomark _)) (pw_and1 (pt_cmpR op_gt (pe_ix (ix_tupK (K := K) rfl) (pv 9) pe_int (fun _ _ => rfl)) pe_int (nomark _))))))) (fun _ _ _ _ _ => (pv 9))) pa_nil)))))))), ?_⟩
    refine ⟨few_len (n := 0) (by omega), fun l1 hl1 => ⟨few_len (n := 0) (by omega), fun l2 hl2 => ⟨_, _, rfl, ?_⟩⟩⟩
    have a1 := same_new (o := .lst []) hl1
    have a2 := same_new (o := .lst []) hl2
    have ne12 : l1 ≠ l2 := fun z => by
      rw [z, upd_same] at hl2
      cases hl2
    refine ⟨_, rfl, l, rfl, ⟨_, SqL.of (a2 _ _ (a1 _ _ hl))⟩, for_list (xs := xs) (fun i σ H2 => ∃ (lf ll : Addr) (ys zs : List V) (ra rb : List Run) (o4 o5 o6 o7 o8 o9 : Option V), σ = [some (.ref l), some (.int (((n : Nat) : Int) - ((lenR (rs.take i) : Nat) : Int))), some (.ref lf), some (.ref ll), o4, o5, o6, o7, o8, o9] ∧ H2 lf = some (.lst ys) ∧ RunsV H2 ys ra ∧ H2 ll = some (.lst zs) ∧ RunsV H2 zs rb ∧ ra.length ≤ 2 * i ∧ rb.length ≤ 2 * i ∧ Wks ra ∧ Wks rb ∧ flatR ra = (flatR (rs.take i)).take n ∧ flatR rb = (flatR (rs.take i)).drop n ∧ Same H H2) ?_ ?_ ?_ ?_⟩
    · exact ⟨l1, l2, [], [], [], [], _, _, _, _, _, _, rfl, a2 _ _ upd_same, .nil, upd_same, .nil, Nat.le_refl _, Nat.le_refl _, (fun r hr => absurd hr List.not_mem_nil), (fun r hr => absurd hr List.not_mem_nil), by rw [List.take_zero, flatR_nil, List.take_nil], by rw [List.take_zero, flatR_nil, List.drop_nil], a1.trans a2⟩
    · rintro i σ H2 _ ⟨lf, ll, ys, zs, ra, rb, o4, o5, o6, o7, o8, o9, rfl, h1, h2, h3, h4, h5, h6, h7, h8, h9, h10, sm⟩
      exact SqL.of (sm _ _ hl)
    · rintro i v σ H2 hv ⟨lf, ll, ys, zs, ra, rb, o4, o5, o6, o7, o8, o9, rfl, h1, h2, h3, h4, h5, h6, h7, h8, h9, h10, sm⟩
      obtain ⟨r, hr1, t, rfl, ht⟩ := paired_at rv hv
      have fr := fit r (List.mem_of_getElem? hr1)
      obtain ⟨f1, f2, f3, f4, f5⟩ := fr
      have il : i < rs.length := (List.getElem?_eq_some_iff.mp hr1).1
      have ly := paired_len h2
      have lz := paired_len h4
      have pl : r.1.length ≤ sizeLine := few_len (by omega)
      have eP := lenP_int r
      have ht2 := sm _ _ ht
      have lsn : lenR (rs.take (i + 1)) = lenR (rs.take i) + lenP r := by
        rw [take_snoc hr1, lenR_app, lenR_cons, lenR_nil]
        omega
      have fsn : flatR (rs.take (i + 1)) = flatR (rs.take i) ++ flatR [r] := by rw [take_snoc hr1, flatR_app]
      have r1l : (flatR [r]).length = lenP r := by rw [flat_lenR, lenR_cons, lenR_nil]; omega
      refine ⟨t, _, rfl, SqT.of ht2, rfl, _, _, rfl, _, _, rfl, rfl, ?_⟩
      refine ⟨_, rfl, _, _, rfl, ⟨pl, rfl⟩, _, rfl, _, _, rfl, rfl, cm_len ⟨f1, f2, f4⟩, ?_⟩
      show gName 6 (V.int (((r.1.length : Nat) : Int) * ((r.2 : Nat) : Int))) _ H2 _
      rw [eP]
      refine name_go ?_
      dsimp only
      refine seq_mid (fun σ H3 => ∃ (lf ll : Addr) (ys zs : List V) (ra rb : List Run) (o7 o8 : Option V), σ = [some (.ref l), some (.int (((n : Nat) : Int) - ((lenR (rs.take i) : Nat) : Int))), some (.ref lf), some (.ref ll), some (.str r.1), some (.int (r.2 : Nat)), some (.int (lenP r : Nat)), o7, o8, o9] ∧ H3 lf = some (.lst ys) ∧ RunsV H3 ys ra ∧ H3 ll = some (.lst zs) ∧ RunsV H3 zs rb ∧ ra.length ≤ 2 * (i + 1) ∧ rb.length ≤ 2 * (i + 1) ∧ Wks ra ∧ Wks rb ∧ flatR ra = (flatR (rs.take (i + 1))).take n ∧ flatR rb = (flatR (rs.take (i + 1))).drop n ∧ Same H2 H3) (fun D' hD' => ?_) ?_
      · have flen : (flatR (rs.take i)).length = lenR (rs.take i) := flat_lenR
        refine ⟨_, rfl, _, rfl, _, _, rfl, rfl, _, rfl, ite2 (fun c => ?_) (fun c => ?_)⟩
        · have c1 : ((lenP r : Nat) : Int) ≤ ((n : Nat) : Int) - ((lenR (rs.take i) : Nat) : Int) := of_decide_eq_true c
          refine ⟨_, rfl, _, rfl, _, rfl, few_len (n := 2) (by omega), fun t1 ht1 => ⟨few_len (n := 1) (by omega), fun l3 hl3 => ?_⟩⟩
          have b1 := same_new (o := .tup [.str r.1, .int (r.2 : Nat)]) ht1
          have b2 := same_new (o := .lst [.ref t1]) hl3
          refine ⟨lf, l3, ys, [.ref t1], rfl, rfl, b2 _ _ (b1 _ _ h1), upd_same, few_len (by show _ + 1 ≤ 1000; omega), fun l4 hl4 => ?_⟩
          have b3 := same_new (o := .lst (ys ++ [.ref t1])) hl4
          have b13 := (b1.trans b2).trans b3
          refine hD' _ _ ⟨l4, ll, ys ++ [.ref t1], zs, ra ++ [r], rb, _, _, rfl, upd_same, paired_catR (h2.keep b13) (.cons ⟨t1, rfl, b3 _ _ (b2 _ _ upd_same)⟩ .nil), b13 _ _ h3, h4.keep b13, by rw [List.length_append]; show _ + 1 ≤ _; omega, by omega, h7.app (fun r' hr' => by rw [List.mem_singleton.mp hr']; exact ⟨f2, f3, f5⟩), h8, ?_, ?_, b13⟩
          · rw [flatR_app, h9, fsn, List.take_append, flen, List.take_of_length_le (show (flatR [r]).length ≤ _ by omega)]
          · rw [h10, fsn, List.drop_append, flen, List.drop_eq_nil_of_le (show (flatR [r]).length ≤ _ by omega), List.append_nil]
        · have c1 : ¬ ((lenP r : Nat) : Int) ≤ ((n : Nat) : Int) - ((lenR (rs.take i) : Nat) : Int) := fun h => c (decide_eq_true h)
          refine ⟨_, rfl, _, _, rfl, rfl, _, rfl, ite2 (fun c2 => ?_) (fun c2 => ?_)⟩
          · have c3 : ((n : Nat) : Int) - ((lenR (rs.take i) : Nat) : Int) ≤ 0 := of_decide_eq_true c2
            refine ⟨_, rfl, _, rfl, _, rfl, few_len (n := 2) (by omega), fun t1 ht1 => ⟨few_len (n := 1) (by omega), fun l3 hl3 => ?_⟩⟩
            have b1 := same_new (o := .tup [.str r.1, .int (r.2 : Nat)]) ht1
            have b2 := same_new (o := .lst [.ref t1]) hl3
            refine ⟨ll, l3, zs, [.ref t1], rfl, rfl, b2 _ _ (b1 _ _ h3), upd_same, few_len (by show _ + 1 ≤ 1000; omega), fun l4 hl4 => ?_⟩
            have b3 := same_new (o := .lst (zs ++ [.ref t1])) hl4
            have b13 := (b1.trans b2).trans b3
            refine hD' _ _ ⟨lf, l4, ys, zs ++ [.ref t1], ra, rb ++ [r], _, _, rfl, b13 _ _ h1, h2.keep b13, upd_same, paired_catR (h4.keep b13) (.cons ⟨t1, rfl, b3 _ _ (b2 _ _ upd_same)⟩ .nil), by omega, by rw [List.length_append]; show _ + 1 ≤ _; omega, h7, h8.app (fun r' hr' => by rw [List.mem_singleton.mp hr']; exact ⟨f2, f3, f5⟩), ?_, ?_, b13⟩
            · rw [h9, fsn, List.take_append, flen, show n - lenR (rs.take i) = 0 by omega, List.take_zero, List.append_nil]
            · rw [flatR_app, h10, fsn, List.drop_append, flen, show n - lenR (rs.take i) = 0 by omega, List.drop_zero]
          · have c3 : ¬ ((n : Nat) : Int) - ((lenR (rs.take i) : Nat) : Int) ≤ 0 := fun h => c2 (decide_eq_true h)
            obtain ⟨m, em⟩ : ∃ m : Nat, m = n - lenR (rs.take i) := ⟨_, rfl⟩
            have emI : ((n : Nat) : Int) - ((lenR (rs.take i) : Nat) : Int) = ((m : Nat) : Int) := by omega
            have mP : m < lenP r := by omega
            rw [emI]
            refine ⟨_, rfl, _, rfl, _, _, rfl, ⟨pl, rfl⟩, _, _, rfl, rfl, ⟨by omega, by omega⟩, _, rfl, .inl ⟨_, rfl, _, rfl, _, _, rfl, ⟨pl, rfl⟩, _, _, rfl, rfl, by omega, _, _, rfl, ?_⟩⟩
            have eq1 : ((m : Nat) : Int) / ((r.1.length : Nat) : Int) = ((m / r.1.length : Nat) : Int) := (Int.natCast_ediv _ _).symm
            have eq2 : ((m : Nat) : Int) % ((r.1.length : Nat) : Int) = ((m % r.1.length : Nat) : Int) := (Int.natCast_emod _ _).symm
            dsimp only
            rw [eq1, eq2]
            have pp : r.1.cps.toList.length = r.1.length := Array.length_toList
            have mT : m < r.2 * r.1.cps.toList.length := by rw [pp, Nat.mul_comm]; exact mP
            obtain ⟨tn, etn⟩ : ∃ q, q = m / r.1.length := ⟨_, rfl⟩
            obtain ⟨kk, ekk⟩ : ∃ q, q = m % r.1.length := ⟨_, rfl⟩
            rw [← etn, ← ekk]
            have kl : kk < r.1.length := by rw [ekk]; exact Nat.mod_lt _ (by omega)
            have tl : tn < r.2 := by rw [etn]; exact (Nat.div_lt_iff_lt_mul (by omega)).mpr (by rw [← pp]; exact mT)
            obtain ⟨za, eza⟩ : ∃ y, y = cutS r.1 none (some ((kk : Nat) : Int)) := ⟨_, rfl⟩
            obtain ⟨zb, ezb⟩ : ∃ y, y = cutS r.1 (some ((kk : Nat) : Int)) none := ⟨_, rfl⟩
            have la : za.cps.toList = r.1.cps.toList.take kk := by rw [eza]; exact cut_to
            have lb : zb.cps.toList = r.1.cps.toList.drop kk := by rw [ezb]; exact cut_from
            have aa : za.cps.toList.length = za.length := Array.length_toList
            have bb : zb.cps.toList.length = zb.length := Array.length_toList
            rw [la, List.length_take] at aa
            rw [lb, List.length_drop] at bb
            have wa : Wk (za, 1) := ⟨by show za.length ≤ 40; omega, by show Ltr za; rw [eza]; exact cutS_lt f3 _ _, (by show 1 ≤ 10 ^ 30; decide)⟩
            have wb : Wk (zb, 1) := ⟨by show zb.length ≤ 40; omega, by show Ltr zb; rw [ezb]; exact cutS_lt f3 _ _, (by show 1 ≤ 10 ^ 30; decide)⟩
            have ft : flatR [(r.1, tn), (za, 1)] = (flatR [r]).take m := by
              rw [flatR_two, flatR_one, flatR_one1, flatR_one, rep_take mT, pp, ← etn, ← ekk, la]
            have fdp : flatR [(zb, 1), (r.1, r.2 - tn - 1)] = (flatR [r]).drop m := by
              rw [flatR_two, flatR_one1, flatR_one, flatR_one, rep_drop mT, pp, ← etn, ← ekk, lb]
            refine ⟨_, rfl, _, rfl, _, rfl, few_len (n := 2) (by omega), fun t1' ht1 => ⟨_, rfl, _, rfl, _, rfl, r.1, rfl, pl, ?_⟩⟩
            rw [← eza]
            refine ⟨few_len (n := 2) (by omega), fun t2' ht2 => ⟨few_len (n := 2) (by omega), fun l3 hl3 => ?_⟩⟩
            have b1 := same_new (o := .tup [.str r.1, .int (tn : Nat)]) ht1
            have b2 := same_new (o := .tup [.str za, .int 1]) ht2
            have b3 := same_new (o := .lst [.ref t1', .ref t2']) hl3
            refine ⟨lf, l3, ys, [.ref t1', .ref t2'], rfl, rfl, b3 _ _ (b2 _ _ (b1 _ _ h1)), upd_same, few_len (by show _ + 2 ≤ 1000; omega), fun l4 hl4 => ?_⟩
            have b4 := same_new (o := .lst (ys ++ [.ref t1', .ref t2'])) hl4
            have c14 := ((b1.trans b2).trans b3).trans b4
            have hF := upd_same (H := upd (upd (upd H2 t1' (.tup [.str r.1, .int (tn : Nat)])) t2' (.tup [.str za, .int 1])) l3 (.lst [.ref t1', .ref t2'])) (a := l4) (o := HO.lst (ys ++ [.ref t1', .ref t2']))
            have vF : RunsV (upd (upd (upd (upd H2 t1' (.tup [.str r.1, .int (tn : Nat)])) t2' (.tup [.str za, .int 1])) l3 (.lst [.ref t1', .ref t2'])) l4 (.lst (ys ++ [.ref t1', .ref t2']))) (ys ++ [.ref t1', .ref t2']) (ra ++ [(r.1, tn), (za, 1)]) := paired_catR (h2.keep c14) (.cons ⟨t1', rfl, b4 _ _ (b3 _ _ (b2 _ _ upd_same))⟩ (.cons ⟨t2', rfl, b4 _ _ (b3 _ _ upd_same)⟩ .nil))
            generalize upd (upd (upd (upd H2 t1' (.tup [.str r.1, .int (tn : Nat)])) t2' (.tup [.str za, .int 1])) l3 (.lst [.ref t1', .ref t2'])) l4 (.lst (ys ++ [.ref t1', .ref t2'])) = H5 at c14 hF vF ⊢
            clear b1 b2 b3 b4 ht1 ht2 hl3 hl4
            have h3' := c14 _ _ h3
            have h4' := h4.keep c14
            refine ⟨_, rfl, _, rfl, _, rfl, _, rfl, r.1, rfl, pl, ?_⟩
            rw [← ezb]
            refine ⟨few_len (n := 2) (by omega), fun t1 ht1 => ⟨_, rfl, _, rfl, _, rfl, _, _, rfl, rfl, _, _, rfl, rfl, few_len (n := 2) (by omega), fun t2 ht2 => ⟨few_len (n := 2) (by omega), fun l5 hl5 => ?_⟩⟩⟩
            have b1 := same_new (o := .tup [.str zb, .int 1]) ht1
            have b2 := same_new (o := .tup [.str r.1, .int (((r.2 : Nat) : Int) - ((tn : Nat) : Int) - 1)]) ht2
            have b3 := same_new (o := .lst [.ref t1, .ref t2]) hl5
            refine ⟨ll, l5, zs, [.ref t1, .ref t2], rfl, rfl, b3 _ _ (b2 _ _ (b1 _ _ h3')), upd_same, few_len (by show _ + 2 ≤ 1000; omega), fun l6 hl6 => ?_⟩
            have b4 := same_new (o := .lst (zs ++ [.ref t1, .ref t2])) hl6
            have c24 := ((b1.trans b2).trans b3).trans b4
            refine hD' _ _ ⟨l4, l6, ys ++ [.ref t1', .ref t2'], zs ++ [.ref t1, .ref t2], ra ++ [(r.1, tn), (za, 1)], rb ++ [(zb, 1), (r.1, r.2 - tn - 1)], some (.int (tn : Nat)), some (.int (kk : Nat)), by rw [emI]; rfl, c24 _ _ hF, vF.keep c24, upd_same, paired_catR (h4'.keep c24) (.cons ⟨t1, rfl, b4 _ _ (b3 _ _ (b2 _ _ upd_same))⟩ (.cons ⟨t2, rfl, run_int (by omega) (b4 _ _ (b3 _ _ upd_same))⟩ .nil)), by rw [List.length_append]; show _ + 2 ≤ _; omega, by rw [List.length_append]; show _ + 2 ≤ _; omega, h7.app (fun r' hr' => ?_), h8.app (fun r' hr' => ?_), ?_, ?_, c14.trans c24⟩
            · rcases List.mem_cons.mp hr' with rfl | hr'
              · exact ⟨f2, f3, by show tn ≤ 10 ^ 30; omega⟩
              · rw [List.mem_singleton.mp hr']
                exact wa
            · rcases List.mem_cons.mp hr' with rfl | hr'
              · exact wb
              · rw [List.mem_singleton.mp hr']
                exact ⟨f2, f3, by show r.2 - tn - 1 ≤ 10 ^ 30; omega⟩
            · rw [flatR_app, h9, fsn, List.take_append, flen, ← em, ft]
            · rw [flatR_app, h10, fsn, List.drop_append, flen, ← em, fdp]
      · rintro σ H3 ⟨lf, ll, ys, zs, ra, rb, o7, o8, rfl, a1, a2, a3, a4, a5, a6, a7, a8, a9, a10, s3⟩
        refine ⟨_, rfl, _, rfl, _, _, rfl, rfl, ?_⟩
        refine ⟨lf, ll, ys, zs, ra, rb, some (.str r.1), some (.int (r.2 : Nat)), some (.int (lenP r : Nat)), o7, o8, o9, ?_, a1, a2, a3, a4, a5, a6, a7, a8, a9, a10, sm.trans s3⟩
        rw [lsn]
        rw [show ((n : Nat) : Int) - ((lenR (rs.take i) + lenP r : Nat) : Int) = ((n : Nat) : Int) - ((lenR (rs.take i) : Nat) : Int) - ((lenP r : Nat) : Int) by omega]
        rfl
    · rintro σ H2 ⟨lf, ll, ys, zs, ra, rb, o4, o5, o6, o7, o8, o9, rfl, h1, h2, h3, h4, h5, h6, h7, h8, h9, h10, sm⟩
      rw [show rs.take xs.length = rs from List.take_of_length_le (by omega)] at h9 h10
      have ly := paired_len h2
      have lz := paired_len h4
      refine ⟨_, rfl, lf, rfl, ⟨_, SqL.of h1⟩, fun D hD => ?_⟩
      have sD := same_new (o := .lst []) hD
      refine lc_list (K := K) (a := lf) (xs := ys) (fun i H' => ∃ zs', H' D = some (.lst zs') ∧ zs'.length ≤ i ∧ RunsV H' zs' ((ra.take i).filter goodR) ∧ Same H2 H') ?_ ?_ ?_ ?_
      · exact ⟨[], upd_same, Nat.le_refl _, .nil, sD⟩
      · rintro i H' _ ⟨_, _, _, _, sm2⟩
        exact SqL.of (sm2 _ _ h1)
      · rintro i v H' hv ⟨zs', hDz, zl', rz, sm2⟩
        obtain ⟨r, hr1, t, rfl, ht⟩ := paired_at h2 hv
        have il : i < ra.length := (List.getElem?_eq_some_iff.mp hr1).1
        have ht2 := sm2 _ _ ht
        have fs : (ra.take (i + 1)).filter goodR = (ra.take i).filter goodR ++ (if goodR r = true then [r] else []) := by
          rw [take_snoc hr1, List.filter_append]
          congr 1
          rw [List.filter_cons]
          split <;> rfl
        have skip : goodR r = false → ∃ zs', H' D = some (.lst zs') ∧ zs'.length ≤ i + 1 ∧ RunsV H' zs' ((ra.take (i + 1)).filter goodR) ∧ Same H2 H' := fun z => ⟨zs', hDz, by omega, by rw [fs, z, if_neg (by decide), List.append_nil]; exact rz, sm2⟩
        refine ⟨rfl, _, rfl, t, _, 0, _, rfl, rfl, SqT.of ht2, rfl, rfl, _, rfl, ?_⟩
        show if (!decide (V.str r.1 = V.str "")) = true then _ else _
        refine ite2 (fun c1 => ?_) (fun c1 => ?_)
        · refine ⟨_, rfl, t, _, 1, _, rfl, rfl, SqT.of ht2, rfl, _, _, rfl, rfl, _, rfl, ite2 (fun c2 => ?_) (fun c2 => ?_)⟩
          · have g : goodR r = true := by
              unfold goodR
              rw [c1, show decide ((0 : Int) < ((r.2 : Nat) : Int)) = true from c2]
              rfl
            refine ⟨_, rfl, _, hDz, few_len (by omega), zs' ++ [.ref t], upd_same, by rw [List.length_append]; show _ + 1 ≤ _; omega, ?_, upd_out hD sm2⟩
            rw [fs, g, if_pos rfl]
            exact (paired_catR rz (.cons ⟨t, rfl, ht2⟩ .nil)).keepT (upd_list hDz)
          · refine skip ?_
            unfold goodR
            rw [show decide ((0 : Int) < ((r.2 : Nat) : Int)) = false from Bool.eq_false_iff.mpr c2, Bool.and_false]
        · refine skip ?_
          unfold goodR
          rw [show (!decide (V.str r.1 = V.str "")) = false from Bool.eq_false_iff.mpr c1, Bool.false_and]
      · rintro H3 ⟨ys', hDy, yl', ry, sm3⟩
        rw [List.take_of_length_le (show ra.length ≤ ys.length by omega)] at ry
        have h3b := sm3 _ _ h3
        have h4b := h4.keep sm3
        refine ⟨_, rfl, _, rfl, ll, rfl, ⟨_, SqL.of h3b⟩, fun D2 hD2 => ?_⟩
        have sD2 := same_new (o := .lst []) hD2
        refine lc_list (K := K) (a := ll) (xs := zs) (fun i H' => ∃ zs', H' D2 = some (.lst zs') ∧ zs'.length ≤ i ∧ RunsV H' zs' ((rb.take i).filter goodR) ∧ Same H3 H') ?_ ?_ ?_ ?_
        · exact ⟨[], upd_same, Nat.le_refl _, .nil, sD2⟩
        · rintro i H' _ ⟨_, _, _, _, sm2⟩
          exact SqL.of (sm2 _ _ h3b)
        · rintro i v H' hv ⟨zs', hDz, zl', rz, sm2⟩
          obtain ⟨r, hr1, t, rfl, ht⟩ := paired_at h4b hv
          have il : i < rb.length := (List.getElem?_eq_some_iff.mp hr1).1
          have ht2 := sm2 _ _ ht
          have fs : (rb.take (i + 1)).filter goodR = (rb.take i).filter goodR ++ (if goodR r = true then [r] else []) := by
            rw [take_snoc hr1, List.filter_append]
            congr 1
            rw [List.filter_cons]
            split <;> rfl
          have skip : goodR r = false → ∃ zs', H' D2 = some (.lst zs') ∧ zs'.length ≤ i + 1 ∧ RunsV H' zs' ((rb.take (i + 1)).filter goodR) ∧ Same H3 H' := fun z => ⟨zs', hDz, by omega, by rw [fs, z, if_neg (by decide), List.append_nil]; exact rz, sm2⟩
          refine ⟨rfl, _, rfl, t, _, 0, _, rfl, rfl, SqT.of ht2, rfl, rfl, _, rfl, ?_⟩
          show if (!decide (V.str r.1 = V.str "")) = true then _ else _
          refine ite2 (fun c1 => ?_) (fun c1 => ?_)
          · refine ⟨_, rfl, t, _, 1, _, rfl, rfl, SqT.of ht2, rfl, _, _, rfl, rfl, _, rfl, ite2 (fun c2 => ?_) (fun c2 => ?_)⟩
            · have g : goodR r = true := by
                unfold goodR
                rw [c1, show decide ((0 : Int) < ((r.2 : Nat) : Int)) = true from c2]
                rfl
              refine ⟨_, rfl, _, hDz, few_len (by omega), zs' ++ [.ref t], upd_same, by rw [List.length_append]; show _ + 1 ≤ _; omega, ?_, upd_out hD2 sm2⟩
              rw [fs, g, if_pos rfl]
              exact (paired_catR rz (.cons ⟨t, rfl, ht2⟩ .nil)).keepT (upd_list hDz)
            · refine skip ?_
              unfold goodR
              rw [show decide ((0 : Int) < ((r.2 : Nat) : Int)) = false from Bool.eq_false_iff.mpr c2, Bool.and_false]
          · refine skip ?_
            unfold goodR
            rw [show (!decide (V.str r.1 = V.str "")) = false from Bool.eq_false_iff.mpr c1, Bool.false_and]
        · rintro H4 ⟨zs', hDz, zl', rz, sm4⟩
          rw [List.take_of_length_le (show rb.length ≤ zs.length by omega)] at rz
          refine ⟨few_len (n := 2) (by omega), fun t ht => ?_⟩
          have st := same_new (o := .tup [.ref D, .ref D2]) ht
          have s34 := sm4.trans st
          exact k t D D2 ys' zs' (ra.filter goodR) (rb.filter goodR) _ upd_same (s34 _ _ hDy) (ry.keep s34) (st _ _ hDz) (rz.keep st) (Nat.le_trans (List.length_filter_le _ _) (by omega)) (Nat.le_trans (List.length_filter_le _ _) (by omega)) (good_fit h7) (good_fit h8) (by rw [flat_good]; exact h9) (by rw [flat_good]; exact h10) ((sm.trans sm3).trans s34)
end
end Vk
set_option Elab.async false
set_option maxRecDepth 100000
set_option linter.all false
set_option maxHeartbeats 4000000
namespace Vk
open PySem PySem.Spec PyProof.Rows L2 StX
section
variable {P : Program} {w : World} {K : PySem.W.Frag} {mg : Str → Option Value} {base : Heap}
/-- two or three letters, no two alike, Q and W not both -/
def FewD (z : Str) : Prop := Few z ∧ 2 ≤ z.length ∧ z.cps.toList.Nodup ∧ ¬ (81 ∈ z.cps.toList ∧ 87 ∈ z.cps.toList)
def spFewD : Sp := fun vs H Q _ => ∃ (p c : Addr) (T : Nat), vs = [.ref p] ∧ Pen H p c T ∧ T + 4 < 1000000000 ∧ ∀ (z : Str) (H' : Hp), FewD z → Pen H' p c (T + 4) → Ext p H H' → Q (.str z) H'
theorem fewd_of {z : Str} (h : (decide (2 ≤ z.length) && decide (z.length ≤ 3) && (z.cps.toList.all fun c => decide (c ∈ letS.cps.toList)) && decide (z.cps.toList.Nodup) && !decide (81 ∈ z.cps.toList)) = true) : FewD z := by
  simp only [Bool.and_eq_true, decide_eq_true_eq, List.all_eq_true, Bool.not_eq_true', decide_eq_false_iff_not] at h
  obtain ⟨⟨⟨⟨h1, h2⟩, h3⟩, h4⟩, h5⟩ := h
  exact ⟨⟨by omega, h2, h3⟩, h1, h4, fun q => h5 q.1⟩
theorem inV_ones {c : Nat} : ∀ cs : List Nat, inV (OneS c) (cs.map OneS) = decide (c ∈ cs)
  | [] => by simp [inV]
  | d :: cs => by
    have ih := inV_ones (c := c) cs
    unfold inV at ih ⊢
    rw [List.map_cons, List.any_cons, ih]
    have e : eqV (OneS d) (OneS c) = decide (c = d) := by
      show ((⟨#[d]⟩ : Str) == ⟨#[c]⟩) = decide (c = d)
      by_cases z : c = d
      · rw [z, decide_eq_true rfl]
        simp
      · rw [decide_eq_false z]
        refine beq_eq_false_iff_ne.mpr fun w => z ?_
        have := congrArg (fun s : Str => s.cps.toList) w
        simpa using this.symm
    rw [e]
    by_cases z : c = d
    · rw [decide_eq_true z, Bool.true_or, decide_eq_true (by rw [z]; exact List.mem_cons_self)]
    · rw [decide_eq_false z, Bool.false_or]
      by_cases m : c ∈ cs
      · rw [decide_eq_true m, decide_eq_true (List.mem_cons_of_mem _ m)]
      · rw [decide_eq_false m, decide_eq_false (fun h => by
          rcases List.mem_cons.mp h with h | h
          · exact z h
          · exact m h)]
theorem b_lfewD {f : Addr} {fd : FuncData} (F : Fun K "_law_few" "_law_few" s_lfew f fd) (T : Txt mg) (c_lpick : CalG P w K mg base CX0 2 "_law_pick" (spPick K)) (t_signs : FnT P w K mg base 1 "_law_signs" letS) : FnG P w K mg base CX0 3 f fd ["_law_pen_here"] spFewD := by
  refine okG0 F sc_lfew (fun vs H Q E h => ?_) (fun cdv A outer s H vs Q E hg hr h => ?_)
  · obtain ⟨p, pc, T0, rfl, _⟩ := h
    rfl
  · have hu := hu_of hr
    have hu64 := hr.units
    obtain ⟨p, pc, T0, rfl, hpen, hT, k⟩ := h
    have hr2 : Room 2 _ := hr
    refine ⟨_, (pss_cons (ps_set (i := 1) sc_lfew.nd rfl (Or.inr rfl) (pe_lst (pa_cons (pe_cG c_lpick hg hr (by decide) pass0 (pa_cons (pv 0) (pa_cons (pe_replT t_signs hr (by decide) (by decide +kernel) (by decide +kernel)) pa_nil))) (pa_cons (pe_cG c_lpick hg hr (by decide) pass0 (pa_cons (pv 0) (pa_cons pe_str pa_nil))) (pa_cons (pe_cG c_lpick hg hr (by decide) pass0 (pa_cons (pv 0) (pa_cons pe_str pa_nil))) pa_nil)))))
      (pss_cons (ps_set (i := 2) sc_lfew.nd rfl (Or.inl rfl) (pe_join pe_str (pe_lc (own := [("_law_k", 3)]) (g := gName 3) rfl sc_lfew.nd (pi_range1 rfl T.range (pa_cons pe_int pa_nil)) (blkOk_by (own := [("_law_k", 3)]) (N := ["_law_pen_here", "_law_some", "_law_rare", "_law_k"]) (sc := defScope s_lfew) (by decide +kernel)) (fun _ _ _ _ _ => (pg_name (i := 3) sc_lfew.nd rfl (Or.inl rfl))) (fun _ _ _ _ _ => (pts_one (pt_cmpR (op_notIn_seqK (K := K) rfl) (pe_ix (ix_seqK (K := K) rfl) (pv 1) (pv 3) (fun _ _ => rfl)) (pe_slice (sl_listK (K := K) rfl) (pv 1) po_none (po_some (pv 3))) (by rfl)))) (fun _ _ _ _ _ => (pe_ix (ix_seqK (K := K) rfl) (pv 1) (pv 3) (fun _ _ => rfl))))))
      (pss_one (ps_ret (pe_cG c_lpick hg hr (by decide) pass0 (pa_cons (pv 0) (pa_cons (pe_lst (pa_cons pe_str (pa_cons pe_str (pa_cons pe_str (pa_cons pe_str (pa_cons pe_str (pa_cons pe_str (pa_cons pe_str (pa_cons pe_str (pa_cons pe_str (pa_cons (pv 2) pa_nil))))))))))) pa_nil))))))), ?_⟩
    refine ⟨_, rfl, p, pc, _, _, T0, rfl, .str _ (by rw [noq_len]; decide), opts_ne (by rw [noq_len]; decide), opts_le (by rw [noq_len]; decide), hpen, by omega, fun v1 H1 m1 P1 x1 => ?_⟩
    obtain ⟨c1, rfl, k1⟩ := ones_of m1
    refine ⟨_, rfl, p, pc, _, _, T0 + 1, rfl, .str _ (by decide), opts_ne (by decide), opts_le (by decide), P1, by omega, fun v2 H2 m2 P2 x2 => ?_⟩
    obtain ⟨c2, rfl, k2⟩ := ones_of m2
    refine ⟨_, rfl, p, pc, _, _, T0 + 2, rfl, .str _ (by decide), opts_ne (by decide), opts_le (by decide), P2, by omega, fun v3 H3 m3 P3 x3 => ?_⟩
    obtain ⟨c3, rfl, k3⟩ := ones_of m3
    refine ⟨by show 3 ≤ sizeLine; decide, fun a ha => ?_⟩
    have hin : ∀ c ∈ [c1, c2, c3], c ∈ letS.cps.toList := by
      intro c hc
      simp only [List.mem_cons, List.not_mem_nil, or_false] at hc
      rcases hc with rfl | rfl | rfl
      · exact noq_in k1
      · exact (by decide +kernel : ∀ c ∈ (Str.ofString "yz").cps.toList, c ∈ letS.cps.toList) _ k2
      · exact (by decide +kernel : ∀ c ∈ (Str.ofString "(\n").cps.toList, c ∈ letS.cps.toList) _ k3
    have P4 := P3.new (o := .lst ([c1, c2, c3].map OneS)) ha
    have x4 : Ext p H (upd H3 a (.lst ([c1, c2, c3].map OneS))) := (x1.trans (x2.trans x3)).trans (Ext.new ha)
    have ha4 : (upd H3 a (.lst ([c1, c2, c3].map OneS))) a = some (.lst ([c1, c2, c3].map OneS)) := upd_same
    generalize hxs : ([c1, c2, c3].map OneS : List V) = xs at ha4 P4 x4
    have hxl : xs.length = 3 := by rw [← hxs]; rfl
    have hxf : xs.all flatV = true := by rw [← hxs]; exact ones_flat _
    have hxa : ∀ i : Nat, i < 3 → ∃ c, [c1, c2, c3][i]? = some c ∧ atI xs (0 + (i : Int)) = some (OneS c) := by
      intro i hi
      refine ⟨[c1, c2, c3][i], List.getElem?_eq_getElem hi, ?_⟩
      rw [Int.zero_add, ← hxs]
      refine atI_nat ?_
      rw [List.getElem?_map, List.getElem?_eq_getElem hi]
      rfl
    have hxt : ∀ i : Nat, cutV xs none (some (0 + (i : Int))) = ([c1, c2, c3].take i).map OneS := by
      intro i
      rw [Int.zero_add, cutV_take, ← hxs, List.map_take]
    have ha5 : (upd H3 a (.lst ([c1, c2, c3].map OneS))) = upd H3 a (.lst xs) := by rw [hxs]
    generalize hH4 : upd H3 a (.lst xs) = H4 at ha4 P4 x4 ha5
    refine ⟨⟨_, rfl⟩, ?_⟩
    show (iRng1 (tCons (tC (V.int 3)) tNil)) _ (upd H3 a (.lst ([c1, c2, c3].map OneS))) _
    rw [ha5]
    refine ⟨3, rfl, by decide, by decide, fun D hD => lc_range (lo := 0) (n := 3) (fun i H' => ∃ cs : List Nat, H' D = some (.lst (cs.map OneS)) ∧ cs.length ≤ i ∧ (∀ c, c ∈ cs ↔ c ∈ [c1, c2, c3].take i) ∧ cs.Nodup ∧ Same H4 H') ?_ ?_ ?_⟩
    · exact ⟨[], upd_same, Nat.le_refl _, fun c => by simp, List.nodup_nil, same_new hD⟩
    · rintro i H5 hi ⟨cs, hDc, hcl, hcm, hnd, sm⟩
      obtain ⟨c, hc3, hv⟩ := hxa i hi
      have tk : [c1, c2, c3].take (i + 1) = [c1, c2, c3].take i ++ [c] := take_snoc hc3
      have inb : inV (OneS c) (cutV xs none (some (0 + (i : Int)))) = decide (c ∈ [c1, c2, c3].take i) := by rw [hxt, inV_ones]
      have sa : SqL K H5 a xs := sm.seq (SqL.of ha4)
      refine ⟨rfl, _, rfl, _, rfl, .inl ⟨a, xs, _, _, rfl, rfl, sa, hv, _, rfl, _, rfl, _, rfl, a, xs, rfl, sa, fun q hq => ⟨q, _, rfl, .inl (SqL.of upd_same), rfl, cutV_all hxf, _, rfl, ?_⟩⟩⟩
      have sq : Same H4 (upd H5 q (.lst (cutV xs none (some (0 + (i : Int)))))) := sm.trans (same_new hq)
      have dq := up_new (u := .lst (cutV xs none (some (0 + (i : Int))))) hDc hq
      refine ite2 (fun hb => ?_) (fun hb => ?_)
      · refine ⟨_, rfl, _, rfl, .inl ⟨a, xs, _, _, rfl, rfl, sq.seq (SqL.of ha4), hv, _, dq, by rw [List.length_map]; exact Nat.lt_of_le_of_lt hcl (Nat.lt_trans hi (by decide)), cs ++ [c], ?_, ?_, fun d => ?_, ?_, ?_⟩⟩
        · rw [upd_same, List.map_append]
          rfl
        · rw [List.length_append]; exact Nat.add_le_add_right hcl 1
        · rw [tk, List.mem_append, List.mem_append, hcm d]
        · have hb2 : (!inV (OneS c) (cutV xs none (some (0 + (i : Int))))) = true := hb
          rw [inb] at hb2
          have nc : c ∉ [c1, c2, c3].take i := by simpa using hb2
          exact List.nodup_append.mpr ⟨hnd, List.nodup_cons.mpr ⟨List.not_mem_nil, List.nodup_nil⟩, fun x hx y hy => by
            rw [List.mem_singleton.mp hy]
            rintro rfl
            exact nc ((hcm x).mp hx)⟩
        · intro b o e
          by_cases hbD : b = D
          · rw [hbD, hD] at e
            cases e
          · exact (upd_ne hbD).trans (sq b o e)
      · refine ⟨cs, dq, Nat.le_succ_of_le hcl, fun d => ?_, hnd, sq⟩
        have hb2 : ¬ (!inV (OneS c) (cutV xs none (some (0 + (i : Int))))) = true := hb
        rw [inb] at hb2
        have ic : c ∈ [c1, c2, c3].take i := by simpa using hb2
        rw [tk, List.mem_append, hcm d]
        exact ⟨fun h => .inl h, fun h => by
          rcases h with h | h
          · exact h
          · rw [List.mem_singleton.mp h]
            exact ic⟩
    · rintro H5 ⟨cs, hDc, hcl, hcm, hnd, sm⟩
      refine ⟨_, D, cs.map fun c => ⟨#[c]⟩, rfl, rfl, .inl (SqL.of (by rw [ones_map]; exact hDc)), ?_, ?_⟩
      · rw [ones_len]
        show cs.length + _ * 0 ≤ _
        omega
      · rw [join_ones]
        have m3 : ∀ c, c ∈ cs ↔ c ∈ [c1, c2, c3] := hcm
        have n23 : c2 ≠ c3 := by
          rintro rfl
          exact absurd k3 ((by decide +kernel : ∀ c ∈ (Str.ofString "yz").cps.toList, c ∉ (Str.ofString "(\n").cps.toList) _ k2)
        have l2 : 2 ≤ cs.length := by
          have h2 : c2 ∈ cs := (m3 c2).mpr (by simp)
          have h3 : c3 ∈ cs := (m3 c3).mpr (by simp)
          match cs, h2, h3 with
          | [a], h2, h3 => exact absurd ((List.mem_singleton.mp h2).trans (List.mem_singleton.mp h3).symm) n23
          | a :: b :: r, _, _ => simp
        have far : ∀ c, c ∈ cs → c = 81 ∨ c = 87 → c = c1 := by
          intro c hc hq
          have := (m3 c).mp hc
          simp only [List.mem_cons, List.not_mem_nil, or_false] at this
          rcases this with h | h | h
          · exact h
          · subst h
            exact absurd hq ((by decide +kernel : ∀ c ∈ (Str.ofString "yz").cps.toList, ¬ (c = 81 ∨ c = 87)) _ k2)
          · subst h
            exact absurd hq ((by decide +kernel : ∀ c ∈ (Str.ofString "(\n").cps.toList, ¬ (c = 81 ∨ c = 87)) _ k3)
        have fz : FewD ⟨cs.toArray⟩ := ⟨few_ones (by omega) hcl (fun c hc => hin c ((m3 c).mp hc)), by simpa [Str.length] using l2, by simpa using hnd, fun h => by
          have h1 := far 81 (by simpa using h.1) (.inl rfl)
          have h2 := far 87 (by simpa using h.2) (.inr rfl)
          omega⟩
        have x5 : Ext p H H5 := x4.trans (Ext.same sm)
        have P5 := P4.stay sm
        refine ⟨_, rfl, _, rfl, by show 10 ≤ sizeLine; decide, fun q hq => ?_⟩
        refine ⟨p, pc, _, _, T0 + 3, rfl, .lst (SqL.of upd_same), by simp, by show 10 ≤ 1000; decide, P5.new hq, by omega, fun v H6 hm P6 x6 => ?_⟩
        have fin : ∃ z, v = .str z ∧ FewD z := by
          simp only [List.mem_cons, List.not_mem_nil, or_false] at hm
          rcases hm with rfl | rfl | rfl | rfl | rfl | rfl | rfl | rfl | rfl | rfl
          all_goals first
            | exact ⟨_, rfl, fz⟩
            | exact ⟨_, rfl, fewd_of (by decide +kernel)⟩
        obtain ⟨z, rfl, hz⟩ := fin
        exact k z H6 hz P6 (x5.trans ((Ext.new hq).trans x6))

end
end Vk
set_option Elab.async false
set_option maxRecDepth 100000
set_option linter.all false
set_option maxHeartbeats 4000000
namespace Vk
open PySem PySem.Spec PyProof.Rows L2 StX
section
variable {P : Program} {w : World} {K : PySem.W.Frag} {mg : Str → Option Value} {base : Heap}
/-- the law's own search for the first difference -/
def fuM (A B : List Nat) (n : Nat) : Nat → Option Nat
  | 0 => none
  | f + 1 => if A[n]? = B[n]? then (if A[n]? = none then none else fuM A B (n + 1) f) else some n
theorem chr_eq {rs rt : List Run} {i : Nat} : chr rs i = chr rt i ↔ (flatR rs)[i]? = (flatR rt)[i]? := by
  unfold chr
  have e1 : ∀ c : Nat, ((⟨#[c]⟩ : Str) = "") → False := fun c h => by
    have := congrArg (fun s : Str => s.cps.size) h
    cases this
  cases h1 : (flatR rs)[i]? with
  | none =>
    cases h2 : (flatR rt)[i]? with
    | none => simp
    | some d => exact ⟨fun h => (e1 d h.symm).elim, fun h => by cases h⟩
  | some c =>
    cases h2 : (flatR rt)[i]? with
    | none => exact ⟨fun h => (e1 c h).elim, fun h => by cases h⟩
    | some d =>
      refine ⟨fun h => ?_, fun h => by cases h; rfl⟩
      have := congrArg (fun s : Str => s.cps.toList) h
      simpa using this
theorem chr_none {rs : List Run} {i : Nat} : chr rs i = "" ↔ (flatR rs)[i]? = none := by
  unfold chr
  cases h1 : (flatR rs)[i]? with
  | none => simp
  | some c =>
    refine ⟨fun h => ?_, fun h => by cases h⟩
    have := congrArg (fun s : Str => s.cps.size) h
    cases this
def spFuL : Sp := fun vs H Q _ => ∃ (l m : Addr) (xs zs : List V) (rs rt : List Run) (n : Nat), vs = [.ref l, .ref m, .int (n : Nat)] ∧ H l = some (.lst xs) ∧ RunsV H xs rs ∧ H m = some (.lst zs) ∧ RunsV H zs rt ∧ OkRs rs ∧ OkRs rt ∧ Q (oV (fuM (flatR rs) (flatR rt) n 400)) H
abbrev s_lfirst_unlike : Stmt := top 52
theorem sc_lfirst_unlike : FnScope ["_law_one", "_law_two", "_law_spot", "_law_k"] ["_law_one", "_law_two", "_law_spot"] (defScope s_lfirst_unlike) := ⟨rfl, rfl, rfl, by decide +kernel, rfl, by decide +kernel, by decide +kernel⟩
theorem b_lfirst_unlike {f : Addr} {fd : FuncData} (F : Fun K "_law_first_unlike" "_law_first_unlike" s_lfirst_unlike f fd) (T : Txt mg) (c_lletter_at : CalG P w K mg base CX0 1 "_law_letter_at" spLetAt) : FnG P w K mg base CX0 2 f fd ["_law_one", "_law_two", "_law_spot"] spFuL := by
  refine okG0 F sc_lfirst_unlike (fun vs H Q E h => ?_) (fun cdv A outer s H vs Q E hg hr h => ?_)
  · obtain ⟨l, m, xs, zs, rs, rt, n, rfl, _⟩ := h
    rfl
  · have hu := hu_of hr
    have hu64 := hr.units
    obtain ⟨l, m, xs, zs, rs, rt, n, rfl, hl, rv, hm, rz, ok, ok2, k⟩ := h
    refine ⟨_, (pss_cons (ps_for PassesOwn.never rfl (pi_range1 rfl T.range (pa_cons pe_int pa_nil)) (pg_name (i := 3) sc_lfirst_unlike.nd rfl (Or.inl rfl)) (pss_cons (ps_if (pt_cmpR op_ne (pe_cG c_lletter_at hg hr (by decide) pass0 (pa_cons (pv 0) (pa_cons (pe_op op_add (pv 2) (pv 3)) pa_nil))) (pe_cG c_lletter_at hg hr (by decide) pass0 (pa_cons (pv 1) (pa_cons (pe_op op_add (pv 2) (pv 3)) pa_nil))) (nomark _)) (pss_one (ps_ret (pe_op op_add (pv 2) (pv 3)))) pss_nil)
      (pss_one (ps_if (pt_cmpR op_eq (pe_cG c_lletter_at hg hr (by decide) pass0 (pa_cons (pv 0) (pa_cons (pe_op op_add (pv 2) (pv 3)) pa_nil))) pe_str (nomark _)) (pss_one (ps_ret pe_non)) pss_nil))))
      (pss_one (ps_ret pe_non))), ?_⟩
    refine ⟨400, rfl, by decide, by decide, ?_⟩
    refine for_range (lo := 0) (n := 400) (fun i σ H' => ∃ o3 : Option V, σ = [some (.ref l), some (.ref m), some (.int (n : Nat)), o3] ∧ H' = H ∧ fuM (flatR rs) (flatR rt) n 400 = fuM (flatR rs) (flatR rt) (n + i) (400 - i)) ?_ ?_ ?_
    · exact ⟨_, rfl, rfl, rfl⟩
    · rintro i σ H2 hi ⟨o3, rfl, rfl, hf⟩
      have ei : ((n : Nat) : Int) + (0 + ((i : Nat) : Int)) = ((n + i : Nat) : Int) := by omega
      have e400 : 400 - i = (400 - (i + 1)) + 1 := by omega
      have hs : fuM (flatR rs) (flatR rt) (n + i) (400 - (i + 1) + 1) = if (flatR rs)[n + i]? = (flatR rt)[n + i]? then (if (flatR rs)[n + i]? = none then none else fuM (flatR rs) (flatR rt) (n + i + 1) (400 - (i + 1))) else some (n + i) := rfl
      rw [e400, hs] at hf
      refine ⟨_, rfl, _, rfl, _, rfl, _, _, rfl, rfl, ?_⟩
      refine ⟨l, xs, rs, n + i, congrArg (fun z => [V.ref l, V.int z]) ei, hl, rv, ok, _, rfl, _, rfl, _, rfl, _, _, rfl, rfl, m, zs, rt, n + i, congrArg (fun z => [V.ref m, V.int z]) ei, hm, rz, ok2, rfl, _, rfl, ?_⟩
      show if (!decide (V.str (chr rs (n + i)) = V.str (chr rt (n + i)))) = true then _ else _
      by_cases c : (flatR rs)[n + i]? = (flatR rt)[n + i]?
      · rw [if_pos c] at hf
        rw [chr_eq.mpr c]
        refine iteNS rfl ⟨_, rfl, _, rfl, _, rfl, _, _, rfl, rfl, l, xs, rs, n + i, congrArg (fun z => [V.ref l, V.int z]) ei, hl, rv, ok, rfl, _, rfl, ?_⟩
        show if decide (V.str (chr rs (n + i)) = V.str "") = true then _ else _
        by_cases c2 : (flatR rs)[n + i]? = none
        · rw [if_pos c2] at hf
          rw [hf] at k
          rw [chr_none.mpr c2, decide_eq_true rfl]
          exact iteT k
        · rw [if_neg c2] at hf
          rw [decide_eq_false (fun z => c2 (chr_none.mp (V.str.inj z)))]
          exact iteF ⟨_, rfl, rfl, by rw [hf, Nat.add_assoc]⟩
      · rw [if_neg c] at hf
        rw [decide_eq_false (fun z => c (chr_eq.mp (V.str.inj z)))]
        rw [hf] at k
        refine iteT ⟨_, rfl, _, rfl, _, _, rfl, rfl, ?_⟩
        have k2 : Q (V.int (((n : Nat) : Int) + (0 + ((i : Nat) : Int)))) H2 := by rw [ei]; exact k
        exact k2
    · rintro σ H2 ⟨o3, rfl, rfl, hf⟩
      rw [hf] at k
      exact k
end
end Vk
set_option Elab.async false
set_option maxRecDepth 100000
set_option linter.all false
set_option maxHeartbeats 4000000
namespace Vk
open PySem PySem.Spec PyProof.Rows L2 StX
section
variable {P : Program} {w : World} {K : PySem.W.Frag} {mg : Str → Option Value} {base : Heap}
variable {C_LongText : Addr}
theorem fuM_some {A B : List Nat} : ∀ {f n m : Nat}, fuM A B n f = some m → n ≤ m ∧ (∀ j, n ≤ j → j < m → A[j]? = B[j]?) ∧ A[m]? ≠ B[m]?
  | 0, _, _, h => by cases h
  | f + 1, n, m, h => by
    rw [fuM] at h
    split at h
    · rename_i e
      split at h
      · cases h
      · obtain ⟨h1, h2, h3⟩ := fuM_some h
        refine ⟨by omega, fun j j1 j2 => ?_, h3⟩
        by_cases z : j = n
        · rw [z]; exact e
        · exact h2 j (by omega) j2
    · rename_i e
      cases h
      exact ⟨Nat.le_refl _, fun j j1 j2 => by omega, e⟩
/-- one letter dropped -/
theorem drop_one {A B : List Nat} {n : Nat} (hn : n < A.length) (hB : B = A.take n ++ A.drop (n + 1)) : ∃ k, fdL A B 0 = some k ∧ n ≤ k ∧ ∀ m, fuM A B n 400 = some m → k = m := by
  have bl : B.length = A.length - 1 := by
    rw [hB, List.length_append, List.length_take, List.length_drop]
    omega
  cases h : fdL A B 0 with
  | none =>
    have e := fdL_none h
    rw [← e] at bl
    omega
  | some k =>
    obtain ⟨k', ek, h1, h2⟩ := fdL_some h
    rw [Nat.zero_add] at ek
    subst ek
    have ge : n ≤ k := by
      rcases Nat.lt_or_ge k n with l | l
      · exfalso
        apply h2
        rw [hB, List.getElem?_append_left (by rw [List.length_take]; omega), List.getElem?_take_of_lt l]
      · exact l
    refine ⟨k, rfl, ge, fun m hm => ?_⟩
    obtain ⟨m1, m2, m3⟩ := fuM_some hm
    rcases Nat.lt_trichotomy k m with l | l | l
    · exact absurd (m2 k ge l) h2
    · exact l
    · exact absurd (h1 m l) m3
theorem IsLong.keepK {C a : Addr} {H H1 : Hp} {rs : List Run} (h : IsLong C H a rs) (s1 : ∀ u ws, H u = some (.tup ws) → H1 u = some (.tup ws)) (s2 : ∀ u C dx fs, H u = some (.ins C dx fs) → H1 u = some (.ins C dx fs)) : IsLong C H1 a rs := by
  obtain ⟨dx, q, xs, h1, h2, h3⟩ := h
  exact ⟨dx, q, xs, s2 _ _ _ _ h1, s1 _ _ h2, h3.keepT s1⟩
theorem pen_ins {H H1 : Hp} {p c : Addr} {T : Nat} (q : Pen H p c T) (x : Ext p H H1) : ∀ u C dx fs, H u = some (.ins C dx fs) → H1 u = some (.ins C dx fs) := fun u C dx fs h => x u _ h fun e => by
  obtain ⟨t, l, z⟩ := q.is
  rw [e, z] at h
  cases h
theorem IsLong.ext {C a p c : Addr} {T : Nat} {H H1 : Hp} {rs : List Run} (h : IsLong C H a rs) (P : Pen H p c T) (x : Ext p H H1) : IsLong C H1 a rs := h.keepK (pen_tup P x) (pen_ins P x)
def spDrop : Sp := fun vs H Q _ => ∃ (p c l : Addr) (xs : List V) (rs : List Run) (T : Nat), vs = [.ref p, .ref l] ∧ H l = some (.lst xs) ∧ RunsV H xs rs ∧ rs.length ≤ 4 ∧ Fit2s rs ∧ 0 < lenR rs ∧ Pen H p c T ∧ T + 100000 < 1000000000 ∧ ∀ (H' : Hp), Pen H' p c (T + 10000) → Ext p H H' → Q (.bl true) H'
abbrev s_ldropped_right : Stmt := top 54
theorem sc_ldropped_right : FnScope ["_law_pen_here", "_law_runs_here", "_law_spot", "_law_front", "_law_later", "_law_other", "_law_due", "_law_told"] ["_law_pen_here", "_law_runs_here"] (defScope s_ldropped_right) := ⟨rfl, rfl, rfl, by decide +kernel, rfl, by decide +kernel, by decide +kernel⟩
theorem b_ldropped_right {f : Addr} {fd : FuncData} (F : Fun K "_law_dropped_right" "_law_dropped_right" s_ldropped_right f fd) (T : Txt mg) (c_lgreat : CalG P w K mg base CX0 2 "_law_great" spGreat) (c_lspan : CalG P w K mg base CX0 1 "_law_span" spSpan) (c_luntil : CalG P w K mg base CX0 1 "_law_until" spUntil) (c_lfirst_unlike : CalG P w K mg base CX0 2 "_law_first_unlike" spFuL) (c_llong : CalG P w K mg base CX0 9 "_law_long" (spLong C_LongText)) (c_lrecut : CalG P w K mg base CX0 4 "_law_recut" spRecut) (cl : Cls K C_LongText) (m_difference : MthG P w K mg base CX0 3 C_LongText "difference" (spDiffL C_LongText)) : FnG P w K mg base CX0 10 f fd ["_law_pen_here", "_law_runs_here"] spDrop := by
  refine okG0 F sc_ldropped_right (fun vs H Q E h => ?_) (fun cdv A outer s H vs Q E hg hr h => ?_)
  · obtain ⟨p, c, l, xs, rs, T0, rfl, _⟩ := h
    rfl
  · have hu := hu_of hr
    have hu64 := hr.units
    obtain ⟨p, pc, l, xs, rs, T0, rfl, hl, rv, l4, fit, pos, hpen, hT, k⟩ := h
    have okr := fit.ok (by omega)
    refine ⟨_, (pss_cons (ps_set (i := 2) sc_ldropped_right.nd rfl (Or.inl rfl) (pe_op op_mod (pe_callTy call_int1 (by rfl) T.int (by decide +kernel) (pa_cons (pe_cG c_lgreat hg hr (by decide) pass0 (pa_cons (pv 0) (pa_cons pe_int pa_nil))) pa_nil)) (pe_cG c_lspan hg hr (by decide) pass0 (pa_cons (pv 1) pa_nil))))
      (pss_cons (ps_asg (pe_cG c_luntil hg hr (by decide) pass0 (pa_cons (pv 1) (pa_cons (pv 2) pa_nil))) (pg_tup rfl (pgs_cons (pg_name (i := 3) sc_ldropped_right.nd rfl (Or.inl rfl)) (pgs_cons (pg_name (i := 4) sc_ldropped_right.nd rfl (Or.inl rfl)) pgs_nil))))
      (pss_cons (ps_set (i := 5) sc_ldropped_right.nd rfl (Or.inl rfl) (pe_op op_cat (pv 3) (pe_ix ix_tup (pe_cG c_luntil hg hr (by decide) pass0 (pa_cons (pv 4) (pa_cons pe_int pa_nil))) pe_int (fun _ _ => rfl))))
      (pss_cons (ps_set (i := 6) sc_ldropped_right.nd rfl (Or.inl rfl) (pe_cG c_lfirst_unlike hg hr (by decide) pass0 (pa_cons (pv 1) (pa_cons (pv 5) (pa_cons (pv 2) pa_nil)))))
      (pss_cons (ps_set (i := 7) sc_ldropped_right.nd rfl (Or.inl rfl) (pe_methG (pe_cG c_llong hg hr (by decide) pass0 (pa_cons (pv 1) pa_nil)) cl m_difference hg hr (by decide) pass0 (pa_cons (pe_cG c_llong hg hr (by decide) pass0 (pa_cons (pe_cG c_lrecut hg hr (by decide) pass0 (pa_cons (pv 0) (pa_cons (pv 5) pa_nil))) pa_nil)) pa_nil)))
      (pss_one (ps_ret (pe_and (pe_cmpR op_notN (pv 7) pe_non (nomark _)) (pe_and (pe_cmpR op_ge (pv 7) (pv 2) (nomark _)) (pe_one (pe_or (pe_cmpR op_isN (pv 6) pe_non (nomark _)) (pe_one (pe_cmpR op_eq (pv 7) (pv 6) (nomark _)))))))))))))), ?_⟩
    refine ⟨_, rfl, p, pc, 32, _, rfl, by decide, hpen, by omega, fun g H1 hg1 P1 x1 => .inl ⟨_, rfl, _, rfl, l, xs, rs, rfl, hpen.keepI x1 hl, rv.ext hpen x1, okr, fun H2 s2 => ⟨_, _, rfl, rfl, by omega, ?_⟩⟩⟩
    have x2 := x1.trans (Ext.same s2)
    have P2 := P1.stay s2
    have em : ((g : Nat) : Int) % ((lenR rs : Nat) : Int) = ((g % lenR rs : Nat) : Int) := (Int.natCast_emod _ _).symm
    have nl : g % lenR rs < lenR rs := Nat.mod_lt _ pos
    obtain ⟨n, en⟩ : ∃ n, n = g % lenR rs := ⟨_, rfl⟩
    rw [← en] at em nl
    show gName 2 (V.int (((g : Nat) : Int) % ((lenR rs : Nat) : Int))) _ H2 _
    rw [em]
    refine ⟨_, rfl, _, rfl, l, xs, rs, n, rfl, hpen.keepI x2 hl, rv.ext hpen x2, by omega, fit, fun t lf ll ys zs ra rb H3 ht hlf rva hll rvb la lb fa fb fla flb s3 => ⟨t, _, rfl, SqT.of ht, rfl, _, _, rfl, _, _, rfl, rfl, ?_⟩⟩
    have x3 := x2.trans (Ext.same s3)
    have P3 := P2.stay s3
    refine ⟨_, rfl, _, rfl, ll, zs, rb, 1, rfl, hll, rvb, by omega, fb, fun t2 lf2 ll2 ys2 zs2 ra2 rb2 H4 ht2 hlf2 rva2 hll2 rvb2 la2 lb2 fa2 fb2 fla2 flb2 s4 => ⟨t2, _, 1, _, rfl, rfl, SqT.of ht2, rfl, ?_⟩⟩
    have ly := paired_len rva
    have lz := paired_len rvb2
    refine ⟨lf, ll2, ys, zs2, rfl, rfl, s4 _ _ hlf, hll2, few_len (by omega), fun lo hlo => ?_⟩
    have s5 := same_new (o := .lst (ys ++ zs2)) hlo
    have x5 := (x3.trans (Ext.same s4)).trans (Ext.same s5)
    have P5 := (P3.stay s4).stay s5
    have h5 : (upd H4 lo (.lst (ys ++ zs2))) lo = some (.lst (ys ++ zs2)) := upd_same
    have rv5 : RunsV (upd H4 lo (.lst (ys ++ zs2))) (ys ++ zs2) (ra ++ rb2) := paired_catR ((rva.keep s4).keep s5) (rvb2.keep s5)
    generalize upd H4 lo (.lst (ys ++ zs2)) = H5 at s5 x5 P5 h5 rv5 ⊢
    have fB : flatR (ra ++ rb2) = (flatR rs).take n ++ (flatR rs).drop (n + 1) := by rw [flatR_app, fla, flb2, flb, List.drop_drop]
    have fitB : Fit2s (ra ++ rb2) := fa.app fb2
    have lB : (ra ++ rb2).length ≤ 40 := by rw [List.length_append]; omega
    obtain ⟨kk, k1, k2, k3⟩ := drop_one (A := flatR rs) (n := n) (by rw [flat_lenR]; exact nl) fB
    refine ⟨_, rfl, _, rfl, _, rfl, l, lo, xs, _, rs, ra ++ rb2, n, rfl, hpen.keepI x5 hl, rv.ext hpen x5, h5, rv5, okr, fitB.ok (by omega), ?_⟩
    refine ⟨_, rfl, l, xs, rs, rfl, hpen.keepI x5 hl, rv.ext hpen x5, by omega, fun r hr => (fit r hr).fit, fun b1 H6 s6 il1 => ?_⟩
    have P6 := P5.stay s6
    have il1' := il1
    obtain ⟨dx, q1, ws1, i1, i2, i3⟩ := il1'
    refine ⟨b1, dx, _, rfl, i1, rfl, _, rfl, _, rfl, p, pc, lo, _, ra ++ rb2, _, rfl, s6 _ _ h5, rv5.keep s6, lB, fitB, P6, by omega, fun l7 zs7 rt H7 h7 rv7 len7 fit7 fl7 P7 x7 => ?_⟩
    have x57 := (x5.trans (Ext.same s6)).trans x7
    refine ⟨l7, zs7, rt, rfl, h7, rv7, by omega, fun r hr => (fit7 r hr).fit, fun b2 H8 s8 il2 => ?_⟩
    have il1b := (il1.ext P6 x7).keep s8
    refine ⟨b1, b2, rs, rt, rfl, il1b, il2, okr, fit7.ok (by omega), fun H9 s9 => ?_⟩
    have efd : fdR rs rt = some kk := by
      unfold fdR
      rw [fl7, ← k1]
    rw [efd]
    have fin : Q (.bl true) H9 := k H9 (((P7.stay s8).stay s9).mono (by omega)) ((x57.trans (Ext.same s8)).trans (Ext.same s9))
    refine ⟨_, rfl, rfl, _, rfl, ?_⟩
    refine iteT ⟨_, rfl, _, rfl, _, _, rfl, rfl, _, rfl, ?_⟩
    rw [decide_eq_true (show ((n : Nat) : Int) ≤ ((kk : Nat) : Int) by omega)]
    refine iteT ⟨_, rfl, rfl, _, rfl, ?_⟩
    cases hf : fuM (flatR rs) (flatR (ra ++ rb2)) n 400 with
    | none =>
      rw [show decide (oV none = V.non) = true from decide_eq_true rfl]
      exact iteT fin
    | some m =>
      have em2 := k3 m hf
      subst em2
      rw [show decide (oV (some kk) = V.non) = false from decide_eq_false (fun z => by cases z)]
      refine iteF ⟨_, rfl, _, rfl, rfl, ?_⟩
      show Q (V.bl (decide (V.int ((kk : Nat) : Int) = V.int ((kk : Nat) : Int)))) H9
      rw [decide_eq_true rfl]
      exact fin
end
end Vk
set_option Elab.async false
set_option maxRecDepth 100000
set_option linter.all false
set_option maxHeartbeats 4000000
namespace Vk
open PySem PySem.Spec PyProof.Rows L2 StX
section
variable {P : Program} {w : World} {K : PySem.W.Frag} {mg : Str → Option Value} {base : Heap}
variable {C_LongText : Addr}
/-- a letter put in its place, put in, or the rest cut off -/
def othA (A : List Nat) (n q : Nat) : Nat → List Nat
  | 0 => A.take n ++ q :: (A.drop (n + 1))
  | 1 => A.take n ++ q :: (A.drop n)
  | _ => A.take n
theorem unlike_at {A : List Nat} {n q w : Nat} (hn : n ≤ A.length) (hq : q ∉ A) (h : w < 2 ∨ A.drop n ≠ []) : fdL A (othA A n q w) 0 = some n := by
  have tl : (A.take n).length = n := by rw [List.length_take]; omega
  have before : ∀ {X : List Nat} (j : Nat), j < n → A[j]? = (A.take n ++ X)[j]? := fun j hj => by
    rw [List.getElem?_append_left (by omega), List.getElem?_take_of_lt hj]
  have at_q : ∀ {X : List Nat}, A[n]? ≠ (A.take n ++ q :: X)[n]? := fun {X} h => by
    rw [List.getElem?_append_right (by omega), tl, Nat.sub_self] at h
    have h : A[n]? = some q := h
    exact hq (List.mem_of_getElem? h)
  have key := fun (B : List Nat) (h1 : ∀ j < n, A[j]? = B[j]?) (h2 : A[n]? ≠ B[n]?) => (fdL_at (as := A) (bs := B) (i := 0) (k := n) h1 h2).trans (by rw [Nat.zero_add])
  match w, h with
  | 0, _ => exact key _ before at_q
  | 1, _ => exact key _ before at_q
  | w + 2, h =>
    have hd : A.drop n ≠ [] := by
      rcases h with h | h
      · omega
      · exact h
    have ln : n < A.length := by
      rcases Nat.lt_or_ge n A.length with l | l
      · exact l
      · exact absurd (List.drop_eq_nil_of_le l) hd
    refine key _ (fun j hj => ?_) ?_
    · show A[j]? = (A.take n)[j]?
      rw [List.getElem?_take_of_lt hj]
    · show A[n]? ≠ (A.take n)[n]?
      rw [List.getElem?_eq_getElem ln, List.getElem?_eq_none (by omega)]
      exact fun z => by cases z
theorem unlike_end {A : List Nat} {n q w : Nat} (h : ¬ (w < 2 ∨ A.drop n ≠ [])) : othA A n q w = A := by
  have h1 : ¬ w < 2 := fun z => h (.inl z)
  have h2 : A.drop n = [] := Classical.not_not.mp fun z => h (.inr z)
  match w, h1 with
  | w + 2, _ =>
    have e := List.take_append_drop n A
    rw [h2, List.append_nil] at e
    exact e
theorem flat_ne {rs : List Run} (h : Fit2s rs) (n : rs ≠ []) : flatR rs ≠ [] := by
  cases rs with
  | nil => exact absurd rfl n
  | cons r rs =>
    intro e
    have l := congrArg List.length e
    rw [flat_lenR, lenR_cons] at l
    have f := h r List.mem_cons_self
    have : 0 < lenP r := Nat.mul_pos f.1 f.2.2.2.1
    simp at l
    omega
def oD : Option Nat → PyData
  | none => .none
  | some k => .int (k : Nat)
theorem oD_dp {K : PySem.W.Frag} {H : Hp} {o : Option Nat} : Dp K H (oV o) (oD o) := by
  cases o with
  | none => exact .non
  | some k => exact .int _
theorem oD_one {o : Option Nat} (h : ∀ k, o = some k → k < 10 ^ 39) : Showy (oD o) 0 101 := by
  cases o with
  | none => exact ⟨by decide +kernel, by decide +kernel, by decide +kernel, by decide +kernel⟩
  | some k => exact Showy.int (Nat.lt_of_lt_of_le (h k rfl) (by decide +kernel))
theorem oD_showy {o : Option Nat} (h : ∀ k, o = some k → k < 10 ^ 39) : Showy (.list [oD o, oD o]) 1 (2 * (101 + 2) + 2) := Showy.list (ds := [oD o, oD o]) fun d hd => by
  rcases List.mem_cons.mp hd with rfl | hd
  · exact oD_one h
  · rw [List.mem_singleton.mp hd]
    exact oD_one h
theorem bools_showy (a b : Bool) : Showy (.list [.bool a, .bool b]) 1 (2 * (101 + 2) + 2) := Showy.list (ds := [.bool a, .bool b]) fun d hd => by
  have one : ∀ c : Bool, Showy (.bool c) 0 101 := fun c => by cases c <;> exact ⟨by decide +kernel, by decide +kernel, by decide +kernel, by decide +kernel⟩
  rcases List.mem_cons.mp hd with rfl | hd
  · exact one _
  · rw [List.mem_singleton.mp hd]
    exact one _
def spUnr : Sp := fun vs H Q _ => ∃ (p c l : Addr) (xs : List V) (rs : List Run) (q T : Nat), vs = [.ref p, .ref l, OneS q] ∧ H l = some (.lst xs) ∧ RunsV H xs rs ∧ rs.length ≤ 4 ∧ Fit2s rs ∧ lenR rs < 10 ^ 38 ∧ q ∈ letS.cps.toList ∧ q ∉ flatR rs ∧ Pen H p c T ∧ T + 100000 < 1000000000 ∧ ∀ (H' : Hp), Pen H' p c (T + 10000) → Ext p H H' → Q (.bl true) H'
abbrev s_lunlike_right : Stmt := top 53
theorem sc_lunlike_right : FnScope ["_law_pen_here", "_law_runs_here", "_law_mark", "_law_spot", "_law_front", "_law_later", "_law_way", "_law_rest", "_law_other", "_law_one", "_law_two", "_law_due"] ["_law_pen_here", "_law_runs_here", "_law_mark"] (defScope s_lunlike_right) := ⟨rfl, rfl, rfl, by decide +kernel, rfl, by decide +kernel, by decide +kernel⟩
theorem b_lunlike_right {f : Addr} {fd : FuncData} (F : Fun K "_law_unlike_right" "_law_unlike_right" s_lunlike_right f fd) (T : Txt mg) (c_ldraw : CalG P w K mg base CX0 1 "_law_draw" spDraw) (c_lgreat : CalG P w K mg base CX0 2 "_law_great" spGreat) (c_lspan : CalG P w K mg base CX0 1 "_law_span" spSpan) (c_luntil : CalG P w K mg base CX0 1 "_law_until" spUntil) (c_llong : CalG P w K mg base CX0 9 "_law_long" (spLong C_LongText)) (c_lrecut : CalG P w K mg base CX0 4 "_law_recut" spRecut) (cl : Cls K C_LongText) (m_difference : MthG P w K mg base CX0 3 C_LongText "difference" (spDiffL C_LongText)) (eqL : EqIG P w K mg base 3 C_LongText (spEqL C_LongText)) (neL : NeG K C_LongText) : FnG P w K mg base CX0 10 f fd ["_law_pen_here", "_law_runs_here", "_law_mark"] spUnr := by
  refine okG0 F sc_lunlike_right (fun vs H Q E h => ?_) (fun cdv A outer s H vs Q E hg hr h => ?_)
  · obtain ⟨p, c, l, xs, rs, q, T0, rfl, _⟩ := h
    rfl
  · have hu := hu_of hr
    have hu64 := hr.units
    obtain ⟨p, pc, l, xs, rs, q, T0, rfl, hl, rv, l4, fit, big, hq, nq, hpen, hT, k⟩ := h
    have okr := fit.ok (by omega)
    refine ⟨_, (pss_cons (ps_set (i := 3) sc_lunlike_right.nd rfl (Or.inl rfl) (pe_op op_mod (pe_callTy call_int1 (by rfl) T.int (by decide +kernel) (pa_cons (pe_cG c_lgreat hg hr (by decide) pass0 (pa_cons (pv 0) (pa_cons pe_int pa_nil))) pa_nil)) (pe_op op_add (pe_cG c_lspan hg hr (by decide) pass0 (pa_cons (pv 1) pa_nil)) pe_int)))
      (pss_cons (ps_asg (pe_cG c_luntil hg hr (by decide) pass0 (pa_cons (pv 1) (pa_cons (pv 3) pa_nil))) (pg_tup rfl (pgs_cons (pg_name (i := 4) sc_lunlike_right.nd rfl (Or.inl rfl)) (pgs_cons (pg_name (i := 5) sc_lunlike_right.nd rfl (Or.inl rfl)) pgs_nil))))
      (pss_cons (ps_par (i := 6) (j := 7) (by rfl) sc_lunlike_right.nd rfl rfl (by decide) rfl rfl (pa_cons (pe_cG c_ldraw hg hr (by decide) pass0 (pa_cons (pv 0) (pa_cons pe_int pa_nil))) (pa_cons (pe_ix ix_tup (pe_cG c_luntil hg hr (by decide) pass0 (pa_cons (pv 5) (pa_cons pe_int pa_nil))) pe_int (fun _ _ => rfl)) pa_nil)) (by rfl))
      (pss_cons (ps_set (i := 8) sc_lunlike_right.nd rfl (Or.inl rfl) (pe_ix ix_seq (pe_lst (pa_cons (pe_op op_cat (pe_op op_cat (pv 4) (pe_lst (pa_cons (pe_tup (pa_cons (pv 2) (pa_cons pe_int pa_nil))) pa_nil))) (pv 7)) (pa_cons (pe_op op_cat (pe_op op_cat (pv 4) (pe_lst (pa_cons (pe_tup (pa_cons (pv 2) (pa_cons pe_int pa_nil))) pa_nil))) (pv 5)) (pa_cons (pv 4) pa_nil)))) (pv 6) (fun _ _ => rfl)))
      (pss_cons (ps_par (i := 9) (j := 10) (by rfl) sc_lunlike_right.nd rfl rfl (by decide) rfl rfl (pa_cons (pe_cG c_llong hg hr (by decide) pass0 (pa_cons (pe_cG c_lrecut hg hr (by decide) pass0 (pa_cons (pv 0) (pa_cons (pv 1) pa_nil))) pa_nil)) (pa_cons (pe_cG c_llong hg hr (by decide) pass0 (pa_cons (pe_cG c_lrecut hg hr (by decide) pass0 (pa_cons (pv 0) (pa_cons (pv 8) pa_nil))) pa_nil)) pa_nil)) (by rfl))
      (pss_cons (ps_set (i := 11) sc_lunlike_right.nd rfl (Or.inl rfl) (pe_ifExp (PW.pt (pw_and (pt_cmpR op_eq (pv 6) pe_int (nomark _)) (pw_and1 (pt_cmpR (op_eqNil hu64) (pv 5) (pe_lst pa_nil) (nomark _))))) pe_non (pv 3)))
      (pss_cons (ps_if (pt_cmpR op_ne (pe_callB (call_reprD hg hu64) (by rfl) T.repr (by decide +kernel) (pa_cons (pe_lst (pa_cons (pe_methG (pv 9) cl m_difference hg hr (by decide) pass0 (pa_cons (pv 10) pa_nil)) (pa_cons (pe_methG (pv 10) cl m_difference hg hr (by decide) pass0 (pa_cons (pv 9) pa_nil)) pa_nil))) pa_nil)) (pe_callB (call_reprD hg hu64) (by rfl) T.repr (by decide +kernel) (pa_cons (pe_lst (pa_cons (pv 11) (pa_cons (pv 11) pa_nil))) pa_nil)) (nomark _)) (pss_one (ps_ret pe_bl)) pss_nil)
      (pss_one (ps_ret (pe_cmpR op_eq (pe_callB (call_reprD hg hu64) (by rfl) T.repr (by decide +kernel) (pa_cons (pe_lst (pa_cons (pe_cmpR (op_eqIG eqL hg hr (by decide)) (pv 9) (pv 10) (nomark _)) (pa_cons (pe_cmpR (op_neIG eqL neL hg hr (by decide)) (pv 10) (pv 9) (nomark _)) pa_nil))) pa_nil)) (pe_callB (call_reprD hg hu64) (by rfl) T.repr (by decide +kernel) (pa_cons (pe_lst (pa_cons (pe_cmpR op_isN (pv 11) pe_non (nomark _)) (pa_cons (pe_cmpR op_notN (pv 11) pe_non (nomark _)) pa_nil))) pa_nil)) (nomark _))))))))))), ?_⟩
    refine ⟨_, rfl, p, pc, 32, _, rfl, by decide, hpen, by omega, fun g H1 hg1 P1 x1 => .inl ⟨_, rfl, _, rfl, l, xs, rs, rfl, hpen.keepI x1 hl, rv.ext hpen x1, okr, fun H2 s2 => ⟨_, _, rfl, rfl, _, _, rfl, rfl, by omega, ?_⟩⟩⟩
    have x2 := x1.trans (Ext.same s2)
    have P2 := P1.stay s2
    have em : ((g : Nat) : Int) % (((lenR rs : Nat) : Int) + 1) = ((g % (lenR rs + 1) : Nat) : Int) := by
      rw [Int.natCast_emod]
      rfl
    have nl : g % (lenR rs + 1) < lenR rs + 1 := Nat.mod_lt _ (Nat.succ_pos _)
    obtain ⟨n, en⟩ : ∃ n, n = g % (lenR rs + 1) := ⟨_, rfl⟩
    rw [← en] at em nl
    show gName 3 (V.int (((g : Nat) : Int) % (((lenR rs : Nat) : Int) + 1))) _ H2 _
    rw [em]
    refine ⟨_, rfl, _, rfl, l, xs, rs, n, rfl, hpen.keepI x2 hl, rv.ext hpen x2, by omega, fit, fun t lf ll ys zs ra rb H3 ht hlf rva hll rvb la lb fa fb fla flb s3 => ⟨t, _, rfl, SqT.of ht, rfl, _, _, rfl, _, _, rfl, rfl, ?_⟩⟩
    have x3 := x2.trans (Ext.same s3)
    have P3 := P2.stay s3
    refine ⟨_, rfl, p, pc, 3, _, rfl, by decide, by decide, P3, by omega, fun wy H4 w0 w1 P4 x4 => ?_⟩
    obtain ⟨wn, rfl⟩ : ∃ w : Nat, wy = (w : Nat) := ⟨wy.toNat, by omega⟩
    refine ⟨_, rfl, ll, zs, rb, 1, rfl, P3.keepI x4 hll, rvb.ext P3 x4, by omega, fb, fun t2 lf2 ll2 ys2 zs2 ra2 rb2 H5 ht2 hlf2 rva2 hll2 rvb2 la2 lb2 fa2 fb2 fla2 flb2 s5 => ⟨t2, _, 1, _, rfl, rfl, SqT.of ht2, rfl, ?_⟩⟩
    have P5 := P4.stay s5
    have x5 := (x3.trans x4).trans (Ext.same s5)
    have hlf5 := s5 _ _ (P3.keepI x4 hlf)
    have rva5 := (rva.ext P3 x4).keep s5
    have hll5 := s5 _ _ (P3.keepI x4 hll)
    have rvb5 := (rvb.ext P3 x4).keep s5
    have ly := paired_len rva
    have lz := paired_len rvb
    have lz2 := paired_len rvb2
    refine ⟨_, _, rfl, ?_⟩
    dsimp only
    refine seq_mid (fun σ H' => ∃ (lo : Addr) (os : List V) (ro : List Run), σ = [some (.ref p), some (.ref l), some (OneS q), some (.int (n : Nat)), some (.ref lf), some (.ref ll), some (.int (wn : Nat)), some (.ref ll2), some (.ref lo), none, none, none] ∧ H' lo = some (.lst os) ∧ RunsV H' os ro ∧ ro.length ≤ 40 ∧ Fit2s ro ∧ flatR ro = othA (flatR rs) n q wn ∧ Same H5 H') (fun D' hD' => ?_) ?_
    · refine ⟨_, rfl, _, rfl, few_len (n := 2) (by omega), fun t3 ht3 => ⟨few_len (n := 1) (by omega), fun l3 hl3 => ?_⟩⟩
      have b1 := same_new (o := .tup [OneS q, .int 1]) ht3
      have b2 := same_new (o := .lst [.ref t3]) hl3
      refine ⟨lf, l3, ys, [.ref t3], rfl, rfl, b2 _ _ (b1 _ _ hlf5), upd_same, few_len (by show _ + 1 ≤ 1000; omega), fun l4 hl4 => ?_⟩
      have b3 := same_new (o := .lst (ys ++ [.ref t3])) hl4
      have b13 := (b1.trans b2).trans b3
      refine ⟨_, rfl, l4, ll2, _, zs2, rfl, rfl, upd_same, b13 _ _ hll2, few_len (by rw [List.length_append]; show _ + 1 + _ ≤ 1000; omega), fun l5 hl5 => ?_⟩
      have b4 := same_new (o := .lst (ys ++ [.ref t3] ++ zs2)) hl5
      have qF : Fit2 (⟨#[q]⟩, 1) := ⟨(by show 1 ≤ 1; decide), (by show 1 ≤ 40; decide), (fun c hc => by
        have e : c ∈ [q] := hc
        rw [List.mem_singleton.mp e]
        exact hq), (by show 1 ≤ 1; decide), (by show 1 ≤ 10 ^ 30; decide)⟩
      have qFs : Fit2s [(⟨#[q]⟩, 1)] := fun r hr => by rw [List.mem_singleton.mp hr]; exact qF
      have flq : flatR [((⟨#[q]⟩ : Str), 1)] = [q] := flatR_one1
      have c14 := b13.trans b4
      have h5A : ((upd (upd (upd (upd H5 t3 (.tup [OneS q, .int 1])) l3 (.lst [.ref t3])) l4 (.lst (ys ++ [.ref t3]))) l5 (.lst (ys ++ [.ref t3] ++ zs2)))) l5 = some (.lst (ys ++ [.ref t3] ++ zs2)) := upd_same
      have vA : RunsV (upd (upd (upd (upd H5 t3 (.tup [OneS q, .int 1])) l3 (.lst [.ref t3])) l4 (.lst (ys ++ [.ref t3]))) l5 (.lst (ys ++ [.ref t3] ++ zs2))) (ys ++ [.ref t3] ++ zs2) (ra ++ [(⟨#[q]⟩, 1)] ++ rb2) := paired_catR (paired_catR (rva5.keep c14) (.cons ⟨t3, rfl, b4 _ _ (b3 _ _ (b2 _ _ upd_same))⟩ .nil)) (rvb2.keep c14)
      generalize upd (upd (upd (upd H5 t3 (.tup [OneS q, .int 1])) l3 (.lst [.ref t3])) l4 (.lst (ys ++ [.ref t3]))) l5 (.lst (ys ++ [.ref t3] ++ zs2)) = H6 at c14 h5A vA ⊢
      clear b1 b2 b3 b4 b13 ht3 hl3 hl4 hl5
      refine ⟨_, rfl, _, rfl, few_len (n := 2) (by omega), fun t3' ht3 => ⟨few_len (n := 1) (by omega), fun l3' hl3 => ?_⟩⟩
      have b1 := same_new (o := .tup [OneS q, .int 1]) ht3
      have b2 := same_new (o := .lst [.ref t3']) hl3
      refine ⟨lf, l3', ys, [.ref t3'], rfl, rfl, b2 _ _ (b1 _ _ (c14 _ _ hlf5)), upd_same, few_len (by show _ + 1 ≤ 1000; omega), fun l4' hl4 => ?_⟩
      have b3 := same_new (o := .lst (ys ++ [.ref t3'])) hl4
      have b13 := (b1.trans b2).trans b3
      refine ⟨_, rfl, l4', ll, _, zs, rfl, rfl, upd_same, b13 _ _ (c14 _ _ hll5), few_len (by rw [List.length_append]; show _ + 1 + _ ≤ 1000; omega), fun l5' hl5 => ?_⟩
      have b4 := same_new (o := .lst (ys ++ [.ref t3'] ++ zs)) hl5
      have c24 := b13.trans b4
      have h5B : ((upd (upd (upd (upd H6 t3' (.tup [OneS q, .int 1])) l3' (.lst [.ref t3'])) l4' (.lst (ys ++ [.ref t3']))) l5' (.lst (ys ++ [.ref t3'] ++ zs)))) l5' = some (.lst (ys ++ [.ref t3'] ++ zs)) := upd_same
      have vB : RunsV (upd (upd (upd (upd H6 t3' (.tup [OneS q, .int 1])) l3' (.lst [.ref t3'])) l4' (.lst (ys ++ [.ref t3']))) l5' (.lst (ys ++ [.ref t3'] ++ zs))) (ys ++ [.ref t3'] ++ zs) (ra ++ [(⟨#[q]⟩, 1)] ++ rb) := paired_catR (paired_catR ((rva5.keep c14).keep c24) (.cons ⟨t3', rfl, b4 _ _ (b3 _ _ (b2 _ _ upd_same))⟩ .nil)) ((rvb5.keep c14).keep c24)
      generalize upd (upd (upd (upd H6 t3' (.tup [OneS q, .int 1])) l3' (.lst [.ref t3'])) l4' (.lst (ys ++ [.ref t3']))) l5' (.lst (ys ++ [.ref t3'] ++ zs)) = H7 at c24 h5B vB ⊢
      clear b1 b2 b3 b4 b13 ht3 hl3 hl4 hl5
      refine ⟨_, rfl, few_len (n := 3) (by omega), fun l8 hl8 => ?_⟩
      have b8 := same_new (o := .lst [.ref l5, .ref l5', .ref lf]) hl8
      have c58 := (c14.trans c24).trans b8
      have h8 : (upd H7 l8 (.lst [.ref l5, .ref l5', .ref lf])) l8 = some (.lst [.ref l5, .ref l5', .ref lf]) := upd_same
      rcases (show wn = 0 ∨ wn = 1 ∨ wn = 2 by omega) with rfl | rfl | rfl
      · refine ⟨_, rfl, .inl ⟨l8, _, _, _, rfl, rfl, SqL.of h8, rfl, hD' _ _ ⟨l5, _, ra ++ [(⟨#[q]⟩, 1)] ++ rb2, rfl, b8 _ _ (c24 _ _ h5A), (vA.keep c24).keep b8, ?_, (fa.app qFs).app fb2, ?_, c58⟩⟩⟩
        · rw [List.length_append, List.length_append]
          show _ + 1 + _ ≤ 40
          omega
        · rw [flatR_app, flatR_app, fla, flq, flb2, flb, List.drop_drop, List.append_assoc]
          rfl
      · refine ⟨_, rfl, .inl ⟨l8, _, _, _, rfl, rfl, SqL.of h8, rfl, hD' _ _ ⟨l5', _, ra ++ [(⟨#[q]⟩, 1)] ++ rb, rfl, b8 _ _ h5B, vB.keep b8, ?_, (fa.app qFs).app fb, ?_, c58⟩⟩⟩
        · rw [List.length_append, List.length_append]
          show _ + 1 + _ ≤ 40
          omega
        · rw [flatR_app, flatR_app, fla, flq, flb, List.append_assoc]
          rfl
      · refine ⟨_, rfl, .inl ⟨l8, _, _, _, rfl, rfl, SqL.of h8, rfl, hD' _ _ ⟨lf, ys, ra, rfl, c58 _ _ hlf5, rva5.keep c58, by omega, fa, ?_, c58⟩⟩⟩
        rw [fla]
        rfl
    · rintro σ H6 ⟨lo, os, ro, rfl, hlo, rvo, lo40, fito, flo, s6⟩
      have P6 := P5.stay s6
      have x6 := x5.trans (Ext.same s6)
      refine ⟨_, rfl, _, rfl, p, pc, l, xs, rs, _, rfl, hpen.keepI x6 hl, rv.ext hpen x6, by omega, fit, P6, by omega, fun l7 zs7 rt H7 h7 rv7 len7 fit7 fl7 P7 x7 => ?_⟩
      refine ⟨l7, zs7, rt, rfl, h7, rv7, by omega, fun r hr => (fit7 r hr).fit, fun b1 H8 s8 il1 => ?_⟩
      have P8 := P7.stay s8
      have x68 := x7.trans (Ext.same s8)
      refine ⟨_, rfl, _, rfl, p, pc, lo, os, ro, _, rfl, P6.keepI x68 hlo, rvo.ext P6 x68, lo40, fito, P8, by omega, fun l9 zs9 ru H9 h9 rv9 len9 fit9 fl9 P9 x9 => ?_⟩
      refine ⟨l9, zs9, ru, rfl, h9, rv9, by omega, fun r hr => (fit9 r hr).fit, fun b2 H10 s10 il2 => ⟨_, _, rfl, ?_⟩⟩
      have P10 := P9.stay s10
      have x610 := (x68.trans x9).trans (Ext.same s10)
      have il1' := (il1.ext P8 x9).keep s10
      have hll10 : H10 ll = some (.lst zs) := P6.keepI x610 (s6 _ _ hll5)
      have x10 := x6.trans x610
      have ok1 := fit7.ok (by omega)
      have ok2 := fit9.ok (by omega)
      dsimp only
      refine seq_mid (fun σ H' => σ = [some (.ref p), some (.ref l), some (OneS q), some (.int (n : Nat)), some (.ref lf), some (.ref ll), some (.int (wn : Nat)), some (.ref ll2), some (.ref lo), some (.ref b1), some (.ref b2), some (oV (if wn < 2 ∨ (flatR rs).drop n ≠ [] then some n else none))] ∧ Same H10 H') (fun D' hD' => ?_) ?_
      · refine ⟨_, rfl, rfl, _, rfl, ?_⟩
        show if decide (V.int ((wn : Nat) : Int) = V.int 2) = true then _ else _
        rw [mid_dec]
        refine ite2 (fun c => ?_) (fun c => ⟨_, rfl, hD' _ _ ⟨by rw [if_pos (.inl (by have h2 : ¬ ((wn : Nat) : Int) = 2 := fun z => c (decide_eq_true z); omega))]; rfl, Same.rfl⟩⟩)
        have w2 : ((wn : Nat) : Int) = 2 := of_decide_eq_true c
        refine ⟨_, rfl, few_len (n := 0) (by omega), fun le hle => ?_⟩
        have se := same_new (o := .lst []) hle
        refine ⟨ll, zs, le, rfl, rfl, SqL.of (se _ _ hll10), SqL.of upd_same, _, rfl, ite2 (fun c2 => ?_) (fun c2 => ?_)⟩
        · have z0 : zs.length = 0 := of_decide_eq_true c2
          have rb0 : rb = [] := List.length_eq_zero_iff.mp (by omega)
          have d0 : (flatR rs).drop n = [] := by rw [← flb, rb0]; rfl
          exact hD' _ _ ⟨by rw [if_neg (fun h => h.elim (fun h => by omega) (fun h => h d0))]; rfl, se⟩
        · have z0 : zs.length ≠ 0 := fun z => c2 (decide_eq_true z)
          have d0 : (flatR rs).drop n ≠ [] := by rw [← flb]; exact flat_ne fb (fun z => z0 (by rw [z] at lz; exact lz))
          exact ⟨_, rfl, hD' _ _ ⟨by rw [if_pos (.inr d0)]; rfl, se⟩⟩
      · rintro σ H11 ⟨rfl, s11⟩
        have efd : fdR rt ru = if wn < 2 ∨ (flatR rs).drop n ≠ [] then some n else none := by
          unfold fdR
          rw [fl7, fl9, flo]
          split
          · rename_i h
            exact unlike_at (by rw [flat_lenR]; omega) nq h
          · rename_i h
            rw [unlike_end h]
            exact fdL_same _ _
        have efs : fdR ru rt = if wn < 2 ∨ (flatR rs).drop n ≠ [] then some n else none := by
          rw [← efd]
          exact fdL_symm _ _ _
        obtain ⟨o, eo, on⟩ : ∃ o, o = (if wn < 2 ∨ (flatR rs).drop n ≠ [] then some n else none) ∧ ∀ k, o = some k → k < 10 ^ 39 := ⟨_, rfl, fun k h => by
          split at h
          · cases h
            have : 10 ^ 38 < 10 ^ 39 := by decide
            omega
          · cases h⟩
        rw [← eo] at efd efs ⊢
        have sh := oD_showy on
        have shn : (PyData.list [oD o, oD o]).shown.length ≤ sizeLine := Nat.le_trans sh.ln (by show 2 * (101 + 2) + 2 ≤ sizeLine; rw [sizeLine_eq]; decide)
        have shd : (PyData.list [oD o, oD o]).depth ≤ 60 := Nat.le_trans sh.dp (by decide)
        have i1 := il1'.keep s11
        have i2 := il2.keep s11
        have P11 := P10.stay s11
        obtain ⟨d1, q1, w1s, e1, e2, e3⟩ := id i1
        obtain ⟨d2, q2, w2s, g1, g2, g3⟩ := id i2
        refine ⟨_, rfl, b1, d1, _, rfl, e1, rfl, _, rfl, b1, b2, rt, ru, rfl, i1, i2, ok1, ok2, fun H12 s12 => ?_⟩
        rw [efd]
        refine ⟨_, rfl, b2, d2, _, rfl, s12 _ _ g1, rfl, _, rfl, b2, b1, ru, rt, rfl, i2.keep s12, i1.keep s12, ok2, ok1, fun H13 s13 => ?_⟩
        rw [efs]
        refine ⟨few_len (n := 2) (by omega), fun la hla => ⟨_, _, rfl, .lst (SqL.of upd_same) (.cons oD_dp (.cons oD_dp .nil)), sh.sh, sh.nd, shd, shn, ?_⟩⟩
        have sa := same_new (o := .lst [oV o, oV o]) hla
        refine ⟨_, rfl, _, rfl, few_len (n := 2) (by omega), fun lb hlb => ⟨_, _, rfl, .lst (SqL.of upd_same) (.cons oD_dp (.cons oD_dp .nil)), sh.sh, sh.nd, shd, shn, rfl, _, rfl, iteNS rfl ?_⟩⟩
        have sb := same_new (o := .lst [oV o, oV o]) hlb
        have sab := (s12.trans s13).trans (sa.trans sb)
        have eb1 : eqB rt ru = decide (oV o = V.non) := by unfold eqB; rw [efd]
        have eb2 : eqB ru rt = decide (oV o = V.non) := by unfold eqB; rw [efs]
        have bs := bools_showy (decide (oV o = V.non)) (!decide (oV o = V.non))
        have bsn : (PyData.list [.bool (decide (oV o = V.non)), .bool (!decide (oV o = V.non))]).shown.length ≤ sizeLine := Nat.le_trans bs.ln (by show 2 * (101 + 2) + 2 ≤ sizeLine; rw [sizeLine_eq]; decide)
        have bsd : (PyData.list [.bool (decide (oV o = V.non)), .bool (!decide (oV o = V.non))]).depth ≤ 60 := Nat.le_trans bs.dp (by decide)
        refine ⟨_, rfl, _, rfl, b1, d1, _, .ref C_LongText, rfl, sab _ _ e1, .ins (sab _ _ g1), by unfold PySem.W.notFirst; simp, b1, b2, rt, ru, rfl, i1.keep sab, i2.keep sab, ok1, ok2, fun H14 s14 => ⟨_, rfl, ?_⟩⟩
        have s15 := sab.trans s14
        refine ⟨_, rfl, _, rfl, b2, d2, _, .ref C_LongText, rfl, s15 _ _ g1, .ins (s15 _ _ e1), by unfold PySem.W.notFirst; simp, b2, b1, ru, rt, rfl, i2.keep s15, i1.keep s15, ok2, ok1, fun H16 s16 => ⟨_, rfl, ?_⟩⟩
        rw [eb2]
        refine ⟨few_len (n := 2) (by omega), fun la2 hla2 => ⟨_, .list [.bool (decide (oV o = V.non)), .bool (!decide (oV o = V.non))], rfl, .lst (SqL.of upd_same) (.cons (by rw [← eb1]; exact .bl _) (.cons (.bl _) .nil)), bs.sh, bs.nd, bsd, bsn, ?_⟩⟩
        refine ⟨_, rfl, rfl, _, rfl, rfl, few_len (n := 2) (by omega), fun lb2 hlb2 => ⟨_, .list [.bool (decide (oV o = V.non)), .bool (!decide (oV o = V.non))], rfl, .lst (SqL.of upd_same) (.cons (.bl _) (.cons (.bl _) .nil)), bs.sh, bs.nd, bsd, bsn, rfl, ?_⟩⟩
        have c1 := same_new (o := .lst [V.bl (id (eqB rt ru)), V.bl (!decide (oV o = V.non))]) hla2
        have c2 := same_new (o := .lst [V.bl (decide (oV o = V.non)), V.bl (!decide (oV o = V.non))]) hlb2
        have sall := s15.trans (s16.trans (c1.trans c2))
        have fin := k _ ((P11.stay sall).mono (by omega)) (x10.trans (Ext.same (s11.trans sall)))
        rw [decide_eq_true rfl]
        exact fin
end
end Vk
set_option Elab.async false
set_option maxRecDepth 100000
set_option linter.all false
set_option maxHeartbeats 4000000
namespace Vk
open PySem PySem.Spec PyProof.Rows L2 StX
section
variable {P : Program} {w : World} {K : PySem.W.Frag} {mg : Str → Option Value} {base : Heap}
variable {C_LongText : Addr}
/-- words of two letters, each the one before twice over -/
def fbW : Nat → List Bool × List Bool
  | 0 => ([false], [false, true])
  | i + 1 => ((fbW i).2, (fbW i).2 ++ (fbW i).1)
theorem fbW_far : ∀ i, i < 7 → (∀ j, j < (fbW i).1.length + (fbW i).2.length - 2 → (fbW i).1[j % (fbW i).1.length]? = (fbW i).2[j % (fbW i).2.length]? ∧ (fbW i).1[j % (fbW i).1.length]? ≠ none) ∧
    (fbW i).1[((fbW i).1.length + (fbW i).2.length - 2) % (fbW i).1.length]? ≠ (fbW i).2[((fbW i).1.length + (fbW i).2.length - 2) % (fbW i).2.length]? ∧ 1 ≤ (fbW i).1.length ∧ (fbW i).1.length ≤ 40 ∧ 2 ≤ (fbW i).2.length ∧ (fbW i).2.length ≤ 40 := by decide +kernel
def abW (a b : Nat) (t : Bool) : Nat := if t then b else a
theorem abW_inj {a b : Nat} (h : a ≠ b) : ∀ {x y : Option Bool}, x.map (abW a b) = y.map (abW a b) → x = y := by
  intro x y e
  cases x with
  | none => cases y with
    | none => rfl
    | some y => cases e
  | some x => cases y with
    | none => cases e
    | some y =>
      have e := Option.some.inj e
      cases x <;> cases y
      · rfl
      · exact absurd e h
      · exact absurd e.symm h
      · rfl
theorem fuM_at {A B : List Nat} : ∀ {k f n : Nat}, k < f → (∀ j < k, A[n + j]? = B[n + j]? ∧ A[n + j]? ≠ none) → A[n + k]? ≠ B[n + k]? → fuM A B n f = some (n + k)
  | k, 0, _, h, _, _ => absurd h (Nat.not_lt_zero _)
  | 0, f + 1, n, _, _, h => by
    have h : A[n]? ≠ B[n]? := h
    rw [fuM, if_neg h]
    rfl
  | k + 1, f + 1, n, hk, h, h2 => by
    obtain ⟨e1, e2⟩ := h 0 (Nat.succ_pos _)
    rw [Nat.add_zero] at e1 e2
    rw [fuM, if_pos e1, if_neg e2, fuM_at (k := k) (f := f) (n := n + 1) (by omega) (fun j hj => by
      have := h (j + 1) (by omega)
      rw [show n + (j + 1) = n + 1 + j by omega] at this
      exact this) (by rw [show n + 1 + k = n + (k + 1) by omega]; exact h2)]
    congr 1
    omega
theorem central {a b i : Nat} (hab : a ≠ b) (hi : i < 7) {x y : Str} (hx : x.cps.toList = (fbW i).1.map (abW a b)) (hy : y.cps.toList = (fbW i).2.map (abW a b)) :
    fdL (flatR [(x, 10 ^ 30)]) (flatR [(y, 10 ^ 29)]) 0 = some (x.length + y.length - 2) ∧ fuM (flatR [(x, 10 ^ 30)]) (flatR [(y, 10 ^ 29)]) 0 400 = some (x.length + y.length - 2) ∧ 1 ≤ x.length ∧ x.length ≤ 40 ∧ 2 ≤ y.length ∧ y.length ≤ 40 := by
  obtain ⟨h1, h2, l1, l2, l3, l4⟩ := fbW_far i hi
  have ex : x.cps.toList.length = x.length := Array.length_toList
  have ey : y.cps.toList.length = y.length := Array.length_toList
  have lx : (fbW i).1.length = x.length := by rw [← ex, hx, List.length_map]
  have ly : (fbW i).2.length = y.length := by rw [← ey, hy, List.length_map]
  rw [lx, ly] at h1 h2
  rw [lx] at l1 l2
  rw [ly] at l3 l4
  have gx : ∀ j, j < 100 → (flatR [(x, 10 ^ 30)])[j]? = ((fbW i).1[j % x.length]?).map (abW a b) := fun j hj => by
    have big : j < 10 ^ 30 * x.cps.toList.length := by
      rw [ex]
      have : 10 ^ 30 * 1 ≤ 10 ^ 30 * x.length := Nat.mul_le_mul_left _ l1
      have : 100 < 10 ^ 30 := by decide
      omega
    rw [flatR_one]
    show (List.replicate (10 ^ 30) x.cps.toList).flatten[j]? = _
    rw [flat_get _ _ big, ex, hx, List.getElem?_map]
  have gy : ∀ j, j < 100 → (flatR [(y, 10 ^ 29)])[j]? = ((fbW i).2[j % y.length]?).map (abW a b) := fun j hj => by
    have big : j < 10 ^ 29 * y.cps.toList.length := by
      rw [ey]
      have : 10 ^ 29 * 1 ≤ 10 ^ 29 * y.length := Nat.mul_le_mul_left _ (by omega)
      have : 100 < 10 ^ 29 := by decide
      omega
    rw [flatR_one]
    show (List.replicate (10 ^ 29) y.cps.toList).flatten[j]? = _
    rw [flat_get _ _ big, ey, hy, List.getElem?_map]
  have d1 : ∀ j < x.length + y.length - 2, (flatR [(x, 10 ^ 30)])[j]? = (flatR [(y, 10 ^ 29)])[j]? ∧ (flatR [(x, 10 ^ 30)])[j]? ≠ none := fun j hj => by
    obtain ⟨e1, e2⟩ := h1 j hj
    rw [gx j (by omega), gy j (by omega), e1]
    refine ⟨rfl, fun z => ?_⟩
    rw [← e1] at z
    cases q : (fbW i).1[j % x.length]? with
    | none => exact e2 q
    | some t => rw [q] at z; cases z
  have d2 : (flatR [(x, 10 ^ 30)])[x.length + y.length - 2]? ≠ (flatR [(y, 10 ^ 29)])[x.length + y.length - 2]? := by
    rw [gx _ (by omega), gy _ (by omega)]
    exact fun z => h2 (abW_inj hab z)
  refine ⟨?_, ?_, l1, l2, l3, l4⟩
  · have := fdL_at (i := 0) (fun j hj => (d1 j hj).1) d2
    rw [Nat.zero_add] at this
    exact this
  · have := fuM_at (n := 0) (f := 400) (k := x.length + y.length - 2) (by omega) (fun j hj => by rw [Nat.zero_add]; exact d1 j hj) (by rw [Nat.zero_add]; exact d2)
    rw [Nat.zero_add] at this
    exact this
theorem ltr_map {a b : Nat} {x : Str} {l : List Bool} (ha : a ∈ letS.cps.toList) (hb : b ∈ letS.cps.toList) (h : x.cps.toList = l.map (abW a b)) : Ltr x := fun c hc => by
  rw [h] at hc
  obtain ⟨t, _, rfl⟩ := List.mem_map.mp hc
  cases t
  · exact ha
  · exact hb
def spCen : Sp := fun vs H Q _ => ∃ (p c : Addr) (z : Str) (T : Nat), vs = [.ref p, .str z] ∧ FewD z ∧ Pen H p c T ∧ T + 100000 < 1000000000 ∧ ∀ (H' : Hp), Pen H' p c (T + 100) → Ext p H H' → Q (.bl true) H'
abbrev s_lcentral_right : Stmt := top 55
theorem sc_lcentral_right : FnScope ["_law_pen_here", "_law_signs_here", "_law_one", "_law_two", "_law_k", "_law_left", "_law_right", "_law_told", "_law_due"] ["_law_pen_here", "_law_signs_here"] (defScope s_lcentral_right) := ⟨rfl, rfl, rfl, by decide +kernel, rfl, by decide +kernel, by decide +kernel⟩
theorem b_lcentral_right {f : Addr} {fd : FuncData} (F : Fun K "_law_central_right" "_law_central_right" s_lcentral_right f fd) (T : Txt mg) (c_ldraw : CalG P w K mg base CX0 1 "_law_draw" spDraw) (c_lfirst_unlike : CalG P w K mg base CX0 2 "_law_first_unlike" spFuL) (c_llong : CalG P w K mg base CX0 9 "_law_long" (spLong C_LongText)) (cl : Cls K C_LongText) (m_difference : MthG P w K mg base CX0 3 C_LongText "difference" (spDiffL C_LongText)) : FnG P w K mg base CX0 10 f fd ["_law_pen_here", "_law_signs_here"] spCen := by
  refine okG0 F sc_lcentral_right (fun vs H Q E h => ?_) (fun cdv A outer s H vs Q E hg hr h => ?_)
  · obtain ⟨p, c, z, T0, rfl, _⟩ := h
    rfl
  · have hu := hu_of hr
    have hu64 := hr.units
    obtain ⟨p, pc, z, T0, rfl, ⟨⟨z1, z3, zl⟩, z2, znd, _⟩, hpen, hT, k⟩ := h
    have ez : z.cps.toList.length = z.length := Array.length_toList
    have zz : z.length ≤ sizeLine := few_len (by omega)
    obtain ⟨a, b, r, ezl⟩ : ∃ a b r, z.cps.toList = a :: b :: r := by
      match h : z.cps.toList, (show 2 ≤ z.cps.toList.length by omega) with
      | a :: b :: r, _ => exact ⟨a, b, r, rfl⟩
    have hab : a ≠ b := fun e => by
      rw [ezl, e] at znd
      exact (List.nodup_cons.mp znd).1 List.mem_cons_self
    have la : a ∈ letS.cps.toList := zl a (by rw [ezl]; simp)
    have lb : b ∈ letS.cps.toList := zl b (by rw [ezl]; simp)
    have at0 : atI z.cps.toList ((0 : Nat) : Int) = some a := atI_nat (by rw [ezl]; rfl)
    have at1 : atI z.cps.toList ((1 : Nat) : Int) = some b := atI_nat (by rw [ezl]; rfl)
    refine ⟨_, (pss_cons (ps_par (i := 2) (j := 3) (by rfl) sc_lcentral_right.nd rfl rfl (by decide) rfl rfl (pa_cons (pe_ix ix_str (pv 1) pe_int (fun _ _ => rfl)) (pa_cons (pe_op op_add_str (pe_ix ix_str (pv 1) pe_int (fun _ _ => rfl)) (pe_ix ix_str (pv 1) pe_int (fun _ _ => rfl))) pa_nil)) (by rfl))
      (pss_cons (ps_for PassesOwn.never rfl (pi_range1 rfl T.range (pa_cons (pe_cG c_ldraw hg hr (by decide) pass0 (pa_cons (pv 0) (pa_cons pe_int pa_nil))) pa_nil)) (pg_name (i := 4) sc_lcentral_right.nd rfl (Or.inl rfl)) (pss_one (ps_par (i := 2) (j := 3) (by rfl) sc_lcentral_right.nd rfl rfl (by decide) rfl rfl (pa_cons (pv 3) (pa_cons (pe_op op_add_str (pv 3) (pv 2)) pa_nil)) (by rfl))))
      (pss_cons (ps_par (i := 5) (j := 6) (by rfl) sc_lcentral_right.nd rfl rfl (by decide) rfl rfl (pa_cons (pe_lst (pa_cons (pe_tup (pa_cons (pv 2) (pa_cons (pe_op op_pow pe_int pe_int) pa_nil))) pa_nil)) (pa_cons (pe_lst (pa_cons (pe_tup (pa_cons (pv 3) (pa_cons (pe_op op_pow pe_int pe_int) pa_nil))) pa_nil)) pa_nil)) (by rfl))
      (pss_cons (ps_par (i := 7) (j := 8) (by rfl) sc_lcentral_right.nd rfl rfl (by decide) rfl rfl (pa_cons (pe_methG (pe_cG c_llong hg hr (by decide) pass0 (pa_cons (pv 5) pa_nil)) cl m_difference hg hr (by decide) pass0 (pa_cons (pe_cG c_llong hg hr (by decide) pass0 (pa_cons (pv 6) pa_nil)) pa_nil)) (pa_cons (pe_cG c_lfirst_unlike hg hr (by decide) pass0 (pa_cons (pv 5) (pa_cons (pv 6) (pa_cons pe_int pa_nil)))) pa_nil)) (by rfl))
      (pss_one (ps_ret (pe_and (pe_cmpR op_eq (pe_callB (call_reprD hg hu64) (by rfl) T.repr (by decide +kernel) (pa_cons (pv 7) pa_nil)) (pe_callB (call_reprD hg hu64) (by rfl) T.repr (by decide +kernel) (pa_cons (pv 8) pa_nil)) (nomark _)) (pe_one (pe_cmpR op_eq (pv 8) (pe_op op_sub (pe_op op_add (pe_callB call_len (by rfl) T.len (by decide +kernel) (pa_cons (pv 2) pa_nil)) (pe_callB call_len (by rfl) T.len (by decide +kernel) (pa_cons (pv 3) pa_nil))) pe_int) (nomark _)))))))))), ?_⟩
    refine ⟨_, rfl, z, 0, a, rfl, rfl, zz, at0, _, rfl, z, 0, a, rfl, rfl, zz, at0, _, rfl, z, 1, b, rfl, rfl, zz, at1, _, _, rfl, rfl, few_len (n := 2) (by omega), _, _, rfl, ?_⟩
    refine ⟨_, rfl, p, pc, 7, _, rfl, by decide, by decide, hpen, by omega, fun m H1 m0 m1 P1 x1 => ⟨m, rfl, by omega, by omega, ?_⟩⟩
    refine for_range (lo := 0) (n := m.toNat) (fun i σ H' => ∃ (x y : Str) (o4 : Option V), σ = [some (.ref p), some (.str z), some (.str x), some (.str y), o4, none, none, none, none] ∧ x.cps.toList = (fbW i).1.map (abW a b) ∧ y.cps.toList = (fbW i).2.map (abW a b) ∧ H' = H1) ?_ ?_ ?_
    · exact ⟨⟨#[a]⟩, ⟨#[a]⟩ ++ ⟨#[b]⟩, _, rfl, rfl, by rw [more_list]; rfl, rfl⟩
    · rintro i σ H2 hi ⟨x, y, o4, rfl, ex, ey, rfl⟩
      have hi7 : i + 1 < 7 := by omega
      obtain ⟨_, _, g1, g2, g3, g4⟩ := central hab (show i < 7 by omega) ex ey
      refine ⟨_, rfl, _, rfl, _, rfl, _, _, rfl, rfl, few_len (n := y.length + x.length) (by omega), _, _, rfl, ?_⟩
      exact ⟨y, y ++ x, _, rfl, ey, by rw [more_list, ex, ey, ← List.map_append]; rfl, rfl⟩
    · rintro σ H2 ⟨x, y, o4, rfl, ex, ey, rfl⟩
      obtain ⟨c1, c2, g1, g2, g3, g4⟩ := central hab (show m.toNat < 7 by omega) ex ey
      have lx : Ltr x := ltr_map la lb ex
      have ly : Ltr y := ltr_map la lb ey
      have fx : Fit2s [(x, 10 ^ 30)] := fun r hr => by rw [List.mem_singleton.mp hr]; exact ⟨g1, g2, lx, by show 1 ≤ 10 ^ 30; decide, Nat.le_refl _⟩
      have fy : Fit2s [(y, 10 ^ 29)] := fun r hr => by rw [List.mem_singleton.mp hr]; exact ⟨by show 1 ≤ y.length; omega, g4, ly, by show 1 ≤ 10 ^ 29; decide, by show 10 ^ 29 ≤ 10 ^ 30; decide⟩
      have xl : x.length ≤ sizeLine := few_len (by omega)
      have yl : y.length ≤ sizeLine := few_len (by omega)
      refine ⟨_, rfl, _, _, rfl, rfl, ⟨by decide, by decide, by decide⟩, few_len (n := 2) (by omega), fun t1 ht1 => ⟨few_len (n := 1) (by omega), fun l1 hl1 => ?_⟩⟩
      have a1 := same_new (o := .tup [.str x, .int (10 ^ (30 : Int).toNat)]) ht1
      have a2 := same_new (o := .lst [.ref t1]) hl1
      refine ⟨_, rfl, _, _, rfl, rfl, ⟨by decide, by decide, by decide⟩, few_len (n := 2) (by omega), fun t2 ht2 => ⟨few_len (n := 1) (by omega), fun l2 hl2 => ⟨_, _, rfl, ?_⟩⟩⟩
      have a3 := same_new (o := .tup [.str y, .int (10 ^ (29 : Int).toNat)]) ht2
      have a4 := same_new (o := .lst [.ref t2]) hl2
      have h1 := a4 _ _ (a3 _ _ (upd_same (a := l1) (o := HO.lst [.ref t1]) (H := upd H2 t1 (.tup [.str x, .int (10 ^ (30 : Int).toNat)]))))
      have h2 : (upd (upd (upd (upd H2 t1 (.tup [.str x, .int (10 ^ (30 : Int).toNat)])) l1 (.lst [.ref t1])) t2 (.tup [.str y, .int (10 ^ (29 : Int).toNat)])) l2 (.lst [.ref t2])) l2 = some (.lst [.ref t2]) := upd_same
      have v1 : RunsV (upd (upd (upd (upd H2 t1 (.tup [.str x, .int (10 ^ (30 : Int).toNat)])) l1 (.lst [.ref t1])) t2 (.tup [.str y, .int (10 ^ (29 : Int).toNat)])) l2 (.lst [.ref t2])) [.ref t1] [(x, 10 ^ 30)] := .cons ⟨t1, rfl, run_int (by show (10 : Int) ^ (30 : Int).toNat = ((10 ^ 30 : Nat) : Int); decide) (a4 _ _ (a3 _ _ (a2 _ _ upd_same)))⟩ .nil
      have v2 : RunsV (upd (upd (upd (upd H2 t1 (.tup [.str x, .int (10 ^ (30 : Int).toNat)])) l1 (.lst [.ref t1])) t2 (.tup [.str y, .int (10 ^ (29 : Int).toNat)])) l2 (.lst [.ref t2])) [.ref t2] [(y, 10 ^ 29)] := .cons ⟨t2, rfl, run_int (by show (10 : Int) ^ (29 : Int).toNat = ((10 ^ 29 : Nat) : Int); decide) (a4 _ _ upd_same)⟩ .nil
      have s24 := (a1.trans a2).trans (a3.trans a4)
      generalize upd (upd (upd (upd H2 t1 (.tup [.str x, .int (10 ^ (30 : Int).toNat)])) l1 (.lst [.ref t1])) t2 (.tup [.str y, .int (10 ^ (29 : Int).toNat)])) l2 (.lst [.ref t2]) = H3 at h1 h2 v1 v2 s24 ⊢
      refine ⟨_, rfl, l1, [.ref t1], [(x, 10 ^ 30)], rfl, h1, v1, by show 1 ≤ 400; decide, fun r hr => (fx r hr).fit, fun b1 H4 s4 il1 => ?_⟩
      have il1' := il1
      obtain ⟨dx, q1, w1s, e1, e2, e3⟩ := il1'
      refine ⟨b1, dx, _, rfl, e1, rfl, _, rfl, l2, [.ref t2], [(y, 10 ^ 29)], rfl, s4 _ _ h2, v2.keep s4, by show 1 ≤ 400; decide, fun r hr => (fy r hr).fit, fun b2 H5 s5 il2 => ?_⟩
      refine ⟨b1, b2, _, _, rfl, il1.keep s5, il2, fx.ok (by show 1 ≤ 1000; decide), fy.ok (by show 1 ≤ 1000; decide), fun H6 s6 => ?_⟩
      have s36 := s4.trans (s5.trans s6)
      rw [show fdR [(x, 10 ^ 30)] [(y, 10 ^ 29)] = some (x.length + y.length - 2) from c1]
      refine ⟨_, rfl, _, rfl, l1, l2, _, _, [(x, 10 ^ 30)], [(y, 10 ^ 29)], 0, rfl, s36 _ _ h1, v1.keep s36, s36 _ _ h2, v2.keep s36, fx.ok (by show 1 ≤ 1000; decide), fy.ok (by show 1 ≤ 1000; decide), ?_⟩
      rw [c2]
      refine ⟨_, _, rfl, ?_⟩
      have sh : Showy (.int ((x.length + y.length - 2 : Nat) : Int)) 0 101 := Showy.int (Nat.lt_of_le_of_lt (show ((x.length + y.length - 2 : Nat) : Int).natAbs ≤ 100 by omega) (by decide +kernel))
      have shn : (PyData.int ((x.length + y.length - 2 : Nat) : Int)).shown.length ≤ sizeLine := Nat.le_trans sh.ln (by rw [sizeLine_eq]; decide)
      have shd : (PyData.int ((x.length + y.length - 2 : Nat) : Int)).depth ≤ 60 := Nat.le_trans sh.dp (by decide)
      refine ⟨_, rfl, _, _, rfl, .int _, sh.sh, sh.nd, shd, shn, _, rfl, _, _, rfl, .int _, sh.sh, sh.nd, shd, shn, rfl, _, rfl, ?_⟩
      rw [decide_eq_true rfl]
      refine iteT ⟨_, rfl, _, rfl, _, _, rfl, ⟨xl, rfl⟩, _, rfl, _, _, rfl, ⟨yl, rfl⟩, _, _, rfl, rfl, _, _, rfl, rfl, rfl, ?_⟩
      show Q (V.bl (decide (V.int ((x.length + y.length - 2 : Nat) : Int) = V.int (((x.length : Nat) : Int) + ((y.length : Nat) : Int) - 2)))) H6
      rw [decide_eq_true (by rw [show ((x.length + y.length - 2 : Nat) : Int) = ((x.length : Nat) : Int) + ((y.length : Nat) : Int) - 2 by omega])]
      exact k H6 ((P1.stay (s24.trans s36)).mono (by omega)) (x1.trans (Ext.same (s24.trans s36)))
end
end Vk
set_option Elab.async false
set_option maxRecDepth 100000
set_option linter.all false
set_option maxHeartbeats 4000000
namespace Vk
open PySem PySem.Spec PyProof.Rows L2 StX
section
variable {P : Program} {w : World} {K : PySem.W.Frag} {mg : Str → Option Value} {base : Heap}
variable {C_LongText : Addr}
theorem lenR_small : ∀ {rs : List Run}, rs.length ≤ 4 → (∀ r ∈ rs, FitW r) → lenR rs < 10 ^ 38 := by
  have one : ∀ {rs : List Run}, (∀ r ∈ rs, FitW r) → lenR rs ≤ rs.length * (6 * 10 ^ 30) := by
    intro rs
    induction rs with
    | nil => intro _; exact Nat.zero_le _
    | cons r rs ih =>
      intro h
      have f := h r List.mem_cons_self
      have e : lenR (r :: rs) = lenP r + lenR rs := rfl
      have i := ih fun x hx => h x (List.mem_cons_of_mem _ hx)
      have m : lenP r ≤ 6 * 10 ^ 30 := Nat.mul_le_mul f.2.1 f.1.2.2.2
      rw [e, List.length_cons, Nat.succ_mul]
      omega
  intro rs h f
  have := one f
  have m : rs.length * (6 * 10 ^ 30) ≤ 4 * (6 * 10 ^ 30) := Nat.mul_le_mul_right _ h
  have : 4 * (6 * 10 ^ 30) < 10 ^ 38 := by decide
  omega
theorem not_flat {rs : List Run} {z : List Nat} {q : Nat} (h : ∀ r ∈ rs, ∀ c ∈ r.1.cps.toList, c ∈ z) (hq : q ∉ z) : q ∉ flatR rs := fun m => by
  unfold flatR at m
  obtain ⟨l, hl, hm⟩ := List.mem_flatten.mp m
  obtain ⟨r, hr, rfl⟩ := List.mem_map.mp hl
  obtain ⟨l2, hl2, hm2⟩ := List.mem_flatten.mp hm
  rw [(List.mem_replicate.mp hl2).2] at hm2
  exact hq (h r hr q hm2)
/-- long texts of the same letters -/
def MadeV (C : Addr) (A : List Nat) (H : Hp) (vs : List V) : Prop := ∀ v ∈ vs, ∃ b rt, v = V.ref b ∧ IsLong C H b rt ∧ OkRs rt ∧ flatR rt = A
theorem MadeV.keep {C : Addr} {A : List Nat} {H H1 : Hp} {vs : List V} (h : MadeV C A H vs) (s : Same H H1) : MadeV C A H1 vs := fun v hv => by
  obtain ⟨b, rt, e, il, ok, fl⟩ := h v hv
  exact ⟨b, rt, e, il.keep s, ok, fl⟩
theorem MadeV.ext {C : Addr} {A : List Nat} {H H1 : Hp} {vs : List V} {p c : Addr} {T : Nat} (h : MadeV C A H vs) (P : Pen H p c T) (x : Ext p H H1) : MadeV C A H1 vs := fun v hv => by
  obtain ⟨b, rt, e, il, ok, fl⟩ := h v hv
  exact ⟨b, rt, e, il.ext P x, ok, fl⟩
theorem cutV_drop {xs : List V} {k : Nat} : cutV xs (some (k : Int)) none = xs.drop k := by
  unfold cutV
  rw [HT.sIx_none, HT.sIx_nat]
  rcases Nat.le_total k xs.length with h | h
  · rw [Nat.min_eq_left h, List.take_of_length_le (by rw [List.length_drop]; omega)]
  · rw [Nat.min_eq_right h, List.drop_eq_nil_of_le (Nat.le_refl _), List.drop_eq_nil_of_le h, List.take_nil]
def spLaw (K : PySem.W.Frag) : Sp := fun vs H Q _ => ∃ (a : Addr) (ns : List Int), vs = [.ref a] ∧ SqL K H a (ns.map V.int) ∧ ns.length ≤ 63 ∧ ∀ H', Q (.bl true) H'
abbrev s_law : Stmt := top 56
theorem sc_law : FnScope ["_law_script", "_law_pen_here", "_law_turn", "_law_signs_here", "_law_runs_here", "_law_some", "_law_made", "_law_one", "_law_other", "_law_k", "_law_sign"] ["_law_script"] (defScope s_law) := ⟨rfl, rfl, rfl, by decide +kernel, rfl, by decide +kernel, by decide +kernel⟩
theorem b_law {f : Addr} {fd : FuncData} (F : Fun K "law" "law" s_law f fd) (T : Txt mg) (c_lpen : CalG P w K mg base CX0 1 "_law_pen" (spPen K)) (c_lfew : CalG P w K mg base CX0 3 "_law_few" spFewD) (c_lruns : CalG P w K mg base CX0 4 "_law_runs" spRuns) (c_lgreat : CalG P w K mg base CX0 2 "_law_great" spGreat) (c_lrecut : CalG P w K mg base CX0 4 "_law_recut" spRecut) (c_llong : CalG P w K mg base CX0 9 "_law_long" (spLong C_LongText)) (c_lspan : CalG P w K mg base CX0 1 "_law_span" spSpan) (c_ldraw : CalG P w K mg base CX0 1 "_law_draw" spDraw)
    (c_lunlike_right : CalG P w K mg base CX0 10 "_law_unlike_right" spUnr) (c_ldropped_right : CalG P w K mg base CX0 10 "_law_dropped_right" spDrop) (c_lcentral_right : CalG P w K mg base CX0 10 "_law_central_right" spCen) (cl : Cls K C_LongText) (m_difference : MthG P w K mg base CX0 3 C_LongText "difference" (spDiffL C_LongText)) (addL : AddI P w K mg base (L2.CX P w) 8 C_LongText (spAddL C_LongText)) (eqL : EqIG P w K mg base 3 C_LongText (spEqL C_LongText)) (neL : NeG K C_LongText) : FnG P w K mg base CX0 11 f fd ["_law_script"] (spLaw K) := by
  refine okG0 F sc_law (fun vs H Q E h => ?_) (fun cdv A outer s H vs Q E hg hr h => ?_)
  · obtain ⟨a, ns, rfl, _⟩ := h
    rfl
  · have hu := hu_of hr
    have hu64 := hr.units
    obtain ⟨a, ns, rfl, hS, hlen, k⟩ := h
    refine ⟨_, (pss_cons (ps_set (i := 1) sc_law.nd rfl (Or.inl rfl) (pe_cG c_lpen hg hr (by decide) pass0 (pa_cons (pv 0) pa_nil)))
      (pss_cons (ps_for PassesOwn.never rfl (pi_range1 rfl T.range (pa_cons (pe_op op_add pe_int (pe_callB (call_min2 rfl) (by rfl) T.min (by decide +kernel) (pa_cons pe_int (pa_cons (pe_callB call_len (by rfl) T.len (by decide +kernel) (pa_cons (pv 0) pa_nil)) pa_nil)))) pa_nil)) (pg_name (i := 2) sc_law.nd rfl (Or.inl rfl)) (pss_cons (ps_set (i := 3) sc_law.nd rfl (Or.inr rfl) (pe_cG c_lfew hg hr (by decide) pass0 (pa_cons (pv 1) pa_nil)))
      (pss_cons (ps_set (i := 4) sc_law.nd rfl (Or.inl rfl) (pe_cG c_lruns hg hr (by decide) pass0 (pa_cons (pv 1) (pa_cons (pv 3) (pa_cons pe_int (pa_cons pe_int (pa_cons (pe_lst (pa_cons pe_int (pa_cons pe_int (pa_cons pe_int (pa_cons (pe_op op_pow pe_int pe_int) (pa_cons (pe_op op_add pe_int (pe_cG c_lgreat hg hr (by decide) pass0 (pa_cons (pv 1) (pa_cons pe_int pa_nil)))) pa_nil)))))) pa_nil)))))))
      (pss_cons (ps_set (i := 5) sc_law.nd rfl (Or.inl rfl) (pe_lst (pa_cons (pv 4) (pa_cons (pe_cG c_lrecut hg hr (by decide) pass0 (pa_cons (pv 1) (pa_cons (pv 4) pa_nil))) (pa_cons (pe_cG c_lrecut hg hr (by decide) pass0 (pa_cons (pv 1) (pa_cons (pe_cG c_lrecut hg hr (by decide) pass0 (pa_cons (pv 1) (pa_cons (pv 4) pa_nil))) pa_nil))) pa_nil)))))
      (pss_cons (ps_setLc (i := 6) (own := [("_law_one", 7)]) (g := gName 7) (tt := tYes) rfl sc_law.nd rfl rfl (sw_true rfl rfl rfl (by decide +kernel)) (pi_list (pv 5)) (blkOk_by (own := [("_law_one", 7)]) (N := ["_law_script", "_law_pen_here", "_law_turn", "_law_signs_here", "_law_runs_here", "_law_some", "_law_made", "_law_one", "_law_other", "_law_k", "_law_sign"]) (sc := defScope s_law) (by decide +kernel)) (fun _ _ _ _ _ => (pg_name (i := 7) sc_law.nd rfl (Or.inl rfl))) (fun _ _ _ _ _ => pts_nil) (fun _ _ _ _ _ => (pe_cG c_llong hg hr (by decide) pass0 (pa_cons (pv 7) pa_nil))))
      (pss_cons (ps_for PassesOwn.never rfl (pi_list (pv 6)) (pg_name (i := 7) sc_law.nd rfl (Or.inl rfl)) (pss_one (ps_for PassesOwn.never rfl (pi_list (pv 6)) (pg_name (i := 8) sc_law.nd rfl (Or.inl rfl)) (pss_one (ps_if (PW.pt (pw_or (pt_not (pt_cmpR (op_eqIG eqL hg hr (by decide)) (pv 7) (pv 8) (nomark _))) (pw_or (pt_cmpR (op_neIG eqL neL hg hr (by decide)) (pv 7) (pv 8) (nomark _)) (pw_or1 (pt_cmpR op_notN (pe_methG (pv 7) cl m_difference hg hr (by decide) pass0 (pa_cons (pv 8) pa_nil)) pe_non (nomark _)))))) (pss_one (ps_ret pe_bl)) pss_nil)))))
      (pss_cons (ps_set (i := 9) sc_law.nd rfl (Or.inl rfl) (pe_cG c_ldraw hg hr (by decide) pass0 (pa_cons (pv 1) (pa_cons (pe_op op_add (pe_callB call_len (by rfl) T.len (by decide +kernel) (pa_cons (pv 4) pa_nil)) pe_int) pa_nil))))
      (pss_cons (ps_if (pt_not (pt_cmpR (op_eqIG eqL hg hr (by decide)) (pe_op (op_addI addL hg hr (by decide) passesF) (pe_cG c_llong hg hr (by decide) pass0 (pa_cons (pe_cG c_lrecut hg hr (by decide) pass0 (pa_cons (pv 1) (pa_cons (pe_slice sl_list (pv 4) po_none (po_some (pv 9))) pa_nil))) pa_nil)) (pe_cG c_llong hg hr (by decide) pass0 (pa_cons (pe_cG c_lrecut hg hr (by decide) pass0 (pa_cons (pv 1) (pa_cons (pe_slice sl_list (pv 4) (po_some (pv 9)) po_none) pa_nil))) pa_nil))) (pe_ix ix_seq (pv 6) pe_int (fun _ _ => rfl)) (nomark _))) (pss_one (ps_ret pe_bl)) pss_nil)
      (pss_cons (ps_if (pt_not (pt_val (pe_cG c_lunlike_right hg hr (by decide) pass0 (pa_cons (pv 1) (pa_cons (pv 4) (pa_cons (pe_ix ix_seq (pe_lc (own := [("_law_sign", 10)]) (g := gName 10) rfl sc_law.nd (pi_str pe_str) (blkOk_by (own := [("_law_sign", 10)]) (N := ["_law_script", "_law_pen_here", "_law_turn", "_law_signs_here", "_law_runs_here", "_law_some", "_law_made", "_law_one", "_law_other", "_law_k", "_law_sign"]) (sc := defScope s_law) (by decide +kernel)) (fun _ _ _ _ _ => (pg_name (i := 10) sc_law.nd rfl (Or.inl rfl))) (fun _ _ _ _ _ => (pts_one (pt_cmpR op_notIn_sign (pv 10) (pv 3) (by rfl)))) (fun _ _ _ _ _ => (pv 10))) pe_int (fun _ _ => rfl)) pa_nil)))))) (pss_one (ps_ret pe_bl)) pss_nil)
      (pss_cons (ps_if (PW.pt (pw_and (pt_cmpR op_gt (pe_cG c_lspan hg hr (by decide) pass0 (pa_cons (pv 4) pa_nil)) pe_int (nomark _)) (pw_and1 (pt_not (pt_val (pe_cG c_ldropped_right hg hr (by decide) pass0 (pa_cons (pv 1) (pa_cons (pv 4) pa_nil)))))))) (pss_one (ps_ret pe_bl)) pss_nil)
      (pss_one (ps_if (pt_not (pt_val (pe_cG c_lcentral_right hg hr (by decide) pass0 (pa_cons (pv 1) (pa_cons (pv 3) pa_nil))))) (pss_one (ps_ret pe_bl)) pss_nil))))))))))))
      (pss_one (ps_ret pe_bl)))), ?_⟩
    refine ⟨_, rfl, a, ns, rfl, hS, fun p pc H1 hp0 Pn0 s1 => ?_⟩
    refine ⟨_, rfl, _, _, rfl, .inl ⟨_, s1.seq hS, rfl⟩, _, _, rfl, _, _, rfl, rfl, _, rfl, ?_, ?_, ?_⟩
    · split <;> omega
    · split <;> omega
    refine for_range (lo := 0) (fun i σ H' => ∃ o2 o3 o4 o5 o6 o7 o8 o9 : Option V, σ = [some (.ref a), some (.ref p), o2, o3, o4, o5, o6, o7, o8, o9, none] ∧ Pen H' p pc (100000 * i)) ?_ ?_ ?_
    · exact ⟨_, _, _, _, _, _, _, _, rfl, Pn0⟩
    · rintro i σ H2 hi ⟨o2, o3, o4, o5, o6, o7, o8, o9, rfl, P2⟩
      have hi16 : i ≤ 10 := by
        have : i < 11 := by
          revert hi
          split <;> omega
        omega
      refine ⟨_, rfl, p, pc, _, rfl, P2, by omega, fun z H3 fz P3 x3 => ?_⟩
      have fz0 := fz.1
      refine ⟨_, rfl, _, rfl, _, _, rfl, rfl, ⟨by decide, by decide, by decide⟩, _, rfl, p, pc, 29, _, rfl, by decide, P3, by omega, fun g H4 hg1 P4 x4 => ?_⟩
      refine ⟨_, _, rfl, rfl, few_len (n := 5) (by omega), fun tl htl => ?_⟩
      have st := same_new (o := .lst [.int 1, .int 2, .int 7, .int (10 ^ (30 : Int).toNat), .int (1 + ((g : Nat) : Int))]) htl
      have el : [V.int 1, V.int 2, V.int 7, V.int (10 ^ (30 : Int).toNat), V.int (1 + ((g : Nat) : Int))] = [1, 2, 7, 10 ^ 30, 1 + g].map fun (n : Nat) => V.int (n : Nat) := by
        have e1 : ((1 + g : Nat) : Int) = 1 + (g : Nat) := by omega
        rw [List.map_cons, List.map_cons, List.map_cons, List.map_cons, List.map_cons, List.map_nil, e1]
        rfl
      have P5 := P4.stay st
      refine ⟨p, pc, tl, z, _, _, rfl, fz0.1, by have := fz0.2.1; omega, fz0.2.2, by rw [← el]; exact upd_same, (fun z => by cases z), by show 5 ≤ 10; decide, fun n hn => ?_, P5, by omega, fun l xs rs H6 hl0 hl rv l4 fit0 P6 x6 => ?_⟩
      · simp only [List.mem_cons, List.not_mem_nil, or_false] at hn
        rcases hn with rfl | rfl | rfl | rfl | rfl
        · decide
        · decide
        · decide
        · decide
        · have : 1 + 10 ^ 29 ≤ 10 ^ 30 := by decide
          omega
      have fitW : ∀ r ∈ rs, FitW r := fun r hr => (fit0 r hr).1
      have fit : Fit2s rs := fun r hr => fit2_of (fitW r hr)
      have lz : ∀ q, q ∉ z.cps.toList → q ∉ flatR rs := fun q => not_flat (fun r hr => (fit0 r hr).2)
      have okr := fit.ok (by omega)
      have big := lenR_small l4 fitW
      clear x3 P3 x4 P4 st P5 x6 el htl hl0 fit0 P2
      refine ⟨_, rfl, _, rfl, _, rfl, p, pc, l, xs, rs, _, rfl, hl, rv, by omega, fit, P6, by omega, fun la ya ra H7 h7 rv7 len7 fit7 fl7 P7 x7 => ?_⟩
      have hl7 := P6.keepI x7 hl
      have rv7l := rv.ext P6 x7
      refine ⟨_, rfl, _, rfl, _, rfl, p, pc, l, xs, rs, _, rfl, hl7, rv7l, by omega, fit, P7, by omega, fun lb yb rb H8 h8 rv8 len8 fit8 fl8 P8 x8 => ?_⟩
      refine ⟨p, pc, lb, yb, rb, _, rfl, h8, rv8, by omega, fit8, P8, by omega, fun lc yc rc H9 h9 rv9 len9 fit9 fl9 P9 x9 => ⟨few_len (n := 3) (by omega), fun ls hls => ?_⟩⟩
      have ss := same_new (o := .lst [.ref l, .ref la, .ref lc]) hls
      have x69 := (x7.trans x8).trans x9
      have P10 := P9.stay ss
      have hls2 : (upd H9 ls (.lst [.ref l, .ref la, .ref lc])) ls = some (.lst [.ref l, .ref la, .ref lc]) := upd_same
      have g1 := ss _ _ (P6.keepI x69 hl)
      have g2 := ss _ _ (P7.keepI (x8.trans x9) h7)
      have g3 := ss _ _ h9
      have v1 := (rv.ext P6 x69).keep ss
      have v2 := (rv7.ext P7 (x8.trans x9)).keep ss
      have v3 := rv9.keep ss
      generalize upd H9 ls (.lst [.ref l, .ref la, .ref lc]) = H10 at hls2 P10 g1 g2 g3 v1 v2 v3 ⊢
      have some3 : ∀ v ∈ [V.ref l, V.ref la, V.ref lc], ∃ (q : Addr) (ys : List V) (rt : List Run), v = V.ref q ∧ H10 q = some (.lst ys) ∧ RunsV H10 ys rt ∧ rt.length ≤ 400 ∧ Fit2s rt ∧ flatR rt = flatR rs := by
        intro v hv
        simp only [List.mem_cons, List.not_mem_nil, or_false] at hv
        rcases hv with rfl | rfl | rfl
        · exact ⟨l, xs, rs, rfl, g1, v1, by omega, fit, rfl⟩
        · exact ⟨la, ya, ra, rfl, g2, v2, by omega, fit7, fl7⟩
        · exact ⟨lc, yc, rc, rfl, g3, v3, by omega, fit9, by rw [fl9, fl8]⟩
      clear hl rv P6 x7 hl7 rv7l P7 h7 rv7 x8 P8 h8 rv8 x9 P9 h9 rv9 ss x69 hls
      refine ⟨_, rfl, ls, rfl, ⟨_, SqL.of hls2⟩, fun D hD => ?_⟩
      have sD := same_new (o := .lst []) hD
      refine lc_list (K := K) (a := ls) (xs := [.ref l, .ref la, .ref lc]) (fun n H' => ∃ vs : List V, H' D = some (.lst vs) ∧ vs.length = n ∧ MadeV C_LongText (flatR rs) H' vs ∧ Same H10 H') ?_ ?_ ?_ ?_
      · exact ⟨[], upd_same, rfl, (fun v hv => absurd hv List.not_mem_nil), sD⟩
      · rintro n H' _ ⟨_, _, _, _, sm⟩
        exact SqL.of (sm _ _ hls2)
      · rintro n v H' hv ⟨vs, hDv, vl, mv, sm⟩
        obtain ⟨q, ys, rt, rfl, e1, e2, e3, e4, e5⟩ := some3 v (List.mem_of_getElem? hv)
        have n3 : n < 3 := (List.getElem?_eq_some_iff.mp hv).1
        refine ⟨rfl, _, rfl, q, ys, rt, rfl, sm _ _ e1, e2.keep sm, e3, fun r hr => (e4 r hr).fit, fun b H2 s2 il => ?_⟩
        refine ⟨_, s2 _ _ hDv, few_len (by omega), vs ++ [.ref b], upd_same, by rw [List.length_append, vl]; rfl, ?_, upd_out hD (sm.trans s2)⟩
        have hD2 := s2 _ _ hDv
        have kt : ∀ u ws, H2 u = some (.tup ws) → (upd H2 D (.lst (vs ++ [V.ref b]))) u = some (.tup ws) := fun u ws e => by
          rw [upd_ne (fun z => by rw [z, hD2] at e; cases e)]
          exact e
        have ki : ∀ u C dx fs, H2 u = some (.ins C dx fs) → (upd H2 D (.lst (vs ++ [V.ref b]))) u = some (.ins C dx fs) := fun u C dx fs e => by
          rw [upd_ne (fun z => by rw [z, hD2] at e; cases e)]
          exact e
        intro v hv2
        rcases List.mem_append.mp hv2 with hv2 | hv2
        · obtain ⟨b', rt', e1', il', ok', fl'⟩ := mv.keep s2 v hv2
          exact ⟨b', rt', e1', il'.keepK kt ki, ok', fl'⟩
        · rw [List.mem_singleton.mp hv2]
          exact ⟨b, rt, rfl, il.keepK kt ki, e4.ok (by omega), e5⟩
      · rintro H11 ⟨vs, hDv, vl, mv, sm⟩
        have vl3 : vs.length = 3 := vl
        have hl11 := sm _ _ g1
        have rv11 := v1.keep sm
        have P11 := P10.stay sm
        clear some3 hls2 g1 g2 g3 v1 v2 v3 P10 sm sD hD
        refine ⟨_, rfl, D, rfl, ⟨_, SqL.of hDv⟩, for_list (xs := vs) (fun n σ H' => ∃ o7 o8 : Option V, σ = [some (.ref a), some (.ref p), some (.int (0 + (i : Int))), some (.str z), some (.ref l), some (.ref ls), some (.ref D), o7, o8, o9, none] ∧ Same H11 H') ?_ ?_ ?_ ?_⟩
        · exact ⟨_, _, rfl, Same.rfl⟩
        · rintro n σ H' _ ⟨o7, o8, rfl, s2⟩
          exact SqL.of (s2 _ _ hDv)
        · rintro n v σ H' hv ⟨o7, o8, rfl, s2⟩
          refine ⟨_, rfl, D, rfl, ⟨_, SqL.of (s2 _ _ hDv)⟩, for_list (xs := vs) (fun m σ H3 => ∃ o8 : Option V, σ = [some (.ref a), some (.ref p), some (.int (0 + (i : Int))), some (.str z), some (.ref l), some (.ref ls), some (.ref D), some v, o8, o9, none] ∧ Same H11 H3) ?_ ?_ ?_ ?_⟩
          · exact ⟨_, rfl, s2⟩
          · rintro m σ H3 _ ⟨o8, rfl, s3⟩
            exact SqL.of (s3 _ _ hDv)
          · rintro m u σ H3 hu2 ⟨o8, rfl, s3⟩
            obtain ⟨b1, r1, rfl, i1, k1, f1⟩ := mv.keep s3 v (List.mem_of_getElem? hv)
            obtain ⟨b2, r2, rfl, i2, k2, f2⟩ := mv.keep s3 u (List.mem_of_getElem? hu2)
            have e12 : flatR r1 = flatR r2 := f1.trans f2.symm
            have i1' := i1
            have i2' := i2
            obtain ⟨d1, q1, w1, a1, a2, a3⟩ := i1'
            obtain ⟨d2, q2, w2, b4, b5, b6⟩ := i2'
            refine ⟨_, rfl, _, rfl, b1, d1, _, .ref C_LongText, rfl, a1, .ins b4, by unfold PySem.W.notFirst; simp, b1, b2, r1, r2, rfl, i1, i2, k1, k2, fun H4 s4 => ?_⟩
            rw [eqB_true e12]
            refine ⟨_, rfl, _, rfl, iteF ?_⟩
            refine ⟨_, rfl, _, rfl, b1, d1, _, .ref C_LongText, rfl, s4 _ _ a1, .ins (s4 _ _ b4), by unfold PySem.W.notFirst; simp, b1, b2, r1, r2, rfl, i1.keep s4, i2.keep s4, k1, k2, fun H5 s5 => ?_⟩
            rw [eqB_true e12]
            refine ⟨_, rfl, _, rfl, iteF ?_⟩
            have s45 := s4.trans s5
            refine ⟨_, rfl, b1, d1, _, rfl, s45 _ _ a1, rfl, _, rfl, b1, b2, r1, r2, rfl, i1.keep s45, i2.keep s45, k1, k2, fun H6 s6 => ?_⟩
            rw [show fdR r1 r2 = none by unfold fdR; rw [e12]; exact fdL_same _ _]
            refine ⟨rfl, _, rfl, iteNS rfl ?_⟩
            exact ⟨_, rfl, s3.trans (s45.trans s6)⟩
          · rintro σ H3 ⟨o8, rfl, s3⟩
            exact ⟨_, _, rfl, s3⟩
        · rintro σ H12 ⟨o7, o8, rfl, s12⟩
          have hDv12 := s12 _ _ hDv
          have mv12 := mv.keep s12
          have hl12 := s12 _ _ hl11
          have rv12 := rv11.keep s12
          have P12 := P11.stay s12
          clear hDv mv hl11 rv11 P11 s12
          have lx := paired_len rv12
          have xl : xs.length ≤ sizeLine := few_len (by omega)
          refine ⟨_, rfl, _, rfl, _, _, rfl, .inl ⟨xs, SqL.of hl12, rfl⟩, _, _, rfl, rfl, p, pc, _, _, rfl, by omega, by omega, P12, by omega, fun kk H13 k0 k1 P13 x13 => ?_⟩
          obtain ⟨n, rfl⟩ : ∃ n : Nat, kk = (n : Nat) := ⟨kk.toNat, by omega⟩
          have hDv13 := P12.keepI x13 hDv12
          have mv13 := mv12.ext P12 x13
          have hl13 := P12.keepI x13 hl12
          have rv13 := rv12.ext P12 x13
          clear hDv12 mv12 hl12 rv12 P12 x13
          refine ⟨_, rfl, _, rfl, _, rfl, _, rfl, l, xs, rfl, SqL.of hl13, fun p1 hp1 => ?_⟩
          rw [cutV_take]
          have t1 := same_new (o := .lst (xs.take n)) hp1
          have tl1 : (rs.take n).length ≤ 4 := by rw [List.length_take]; omega
          refine ⟨p, pc, p1, xs.take n, rs.take n, _, rfl, upd_same, RunsV.keep (paired_takeR n rv13) t1, by omega, fun r hr => fit r (List.mem_of_mem_take hr), P13.stay t1, by omega, fun la ya ra H14 h14 rv14 len14 fit14 fl14 P14 x14 => ?_⟩
          refine ⟨la, ya, ra, rfl, h14, rv14, by omega, fun r hr => (fit14 r hr).fit, fun b1 H15 s15 il1 => ?_⟩
          have P15 := P14.stay s15
          have x15 := ((Ext.same (p := p) t1).trans x14).trans (Ext.same s15)
          refine ⟨_, rfl, _, rfl, _, rfl, _, rfl, l, xs, rfl, SqL.of (P13.keepI x15 hl13), fun p2 hp2 => ?_⟩
          rw [cutV_drop]
          have t2 := same_new (o := .lst (xs.drop n)) hp2
          have tl2 : (rs.drop n).length ≤ 4 := by rw [List.length_drop]; omega
          refine ⟨p, pc, p2, xs.drop n, rs.drop n, _, rfl, upd_same, RunsV.keep (paired_dropR n (rv13.ext P13 x15)) t2, by omega, fun r hr => fit r (List.mem_of_mem_drop hr), P15.stay t2, by omega, fun lb yb rb H16 h16 rv16 len16 fit16 fl16 P16 x16 => ?_⟩
          refine ⟨lb, yb, rb, rfl, h16, rv16, by omega, fun r hr => (fit16 r hr).fit, fun b2 H17 s17 il2 => ?_⟩
          have il1' := ((il1.keep t2).ext (P15.stay t2) x16).keep s17
          obtain ⟨d1, q1, w1, a1, a2, a3⟩ := id il1'
          obtain ⟨d2, q2, w2, b4, b5, b6⟩ := id il2
          have P17 := P16.stay s17
          have x17 := ((x15.trans (Ext.same t2)).trans x16).trans (Ext.same s17)
          have okab : OkRs (ra ++ rb) := (fit14.app fit16).ok (by rw [List.length_append]; omega)
          have flab : flatR (ra ++ rb) = flatR rs := by rw [flatR_app, fl14, fl16, ← flatR_app, List.take_append_drop]
          refine ⟨b1, d1, _, b2, d2, _, rfl, a1, rfl, b4, b1, b2, ra, rb, rfl, il1', il2, okab, fun e1 H18 _ s18 il3 => ⟨⟨e1, rfl⟩, ?_⟩⟩
          have P18 := P17.stay s18
          have x18 := x17.trans (Ext.same s18)
          have hDv18 := P13.keepI x18 hDv13
          have mv18 := mv13.ext P13 x18
          have v0 : vs[0]? = some vs[0] := List.getElem?_eq_getElem (by omega)
          obtain ⟨b0, r0, e0, il0, ok0, fl0⟩ := mv18 vs[0] (List.getElem_mem _)
          obtain ⟨d3, q3, w3, c1, c2, c3⟩ := id il3
          obtain ⟨d4, q4, w4, c4, c5, c6⟩ := id il0
          refine ⟨_, rfl, .inl ⟨D, vs, ((0 : Nat) : Int), _, rfl, rfl, SqL.of hDv18, atI_nat v0, ?_⟩⟩
          rw [e0]
          refine ⟨e1, d3, _, .ref C_LongText, rfl, c1, .ins c4, by unfold PySem.W.notFirst; simp, e1, b0, ra ++ rb, r0, rfl, il3, il0, okab, ok0, fun H19 s19 => ?_⟩
          rw [eqB_true (flab.trans fl0.symm)]
          refine ⟨_, rfl, _, rfl, iteF ?_⟩
          have P19 := P18.stay s19
          have x19 := x18.trans (Ext.same s19)
          have hl19 := P13.keepI x19 hl13
          have rv19 := rv13.ext P13 x19
          clear P17 P18 x17 x18 hDv18 mv18 il0 il3 il1 il1' il2 P13 P14 P15 P16 x14 x15 x16 hl13 rv13 hDv13 mv13 a1 a2 a3 b4 b5 b6 c1 c2 c3 c4 c5 c6
          refine ⟨_, rfl, _, rfl, _, rfl, fun Dq hDq => ?_⟩
          have sDq := same_new (o := .lst []) hDq
          refine lc_str (z := "QW") (fun i H' => ∃ cs : List Nat, H' Dq = some (.lst (cs.map OneS)) ∧ cs.length ≤ i ∧ (∀ c ∈ cs, (c = 81 ∨ c = 87) ∧ c ∉ z.cps.toList) ∧ (∀ j c, j < i → ("QW" : Str).cps[j]? = some c → c ∉ z.cps.toList → cs ≠ []) ∧ Same H19 H') ?_ ?_ ?_
          · exact ⟨[], upd_same, Nat.le_refl _, (fun c hc => absurd hc List.not_mem_nil), (fun j c h => absurd h (Nat.not_lt_zero _)), sDq⟩
          · rintro j c H' hc ⟨cs, hDc, cl2, cin, cne, sm⟩
            have cQW : c = 81 ∨ c = 87 := by
              have m : c ∈ ("QW" : Str).cps.toList := by
                rw [← Array.getElem?_toList] at hc
                exact List.mem_of_getElem? hc
              have e : ∀ c ∈ ("QW" : Str).cps.toList, c = 81 ∨ c = 87 := by decide +kernel
              exact e c m
            have j2 : j < 2 := (Array.getElem?_eq_some_iff.mp hc).1
            refine ⟨rfl, _, rfl, _, rfl, c, z, rfl, rfl, _, rfl, ite2 (fun h => ?_) (fun h => ?_)⟩
            · have nz : c ∉ z.cps.toList := by simpa using h
              refine ⟨_, rfl, _, hDc, few_len (by rw [List.length_map]; omega), cs ++ [c], by rw [upd_same, List.map_append]; rfl, by rw [List.length_append]; show _ + 1 ≤ _; omega, fun d hd => ?_, fun _ _ _ _ _ e => by simp at e, upd_out hDq sm⟩
              rcases List.mem_append.mp hd with hd | hd
              · exact cin d hd
              · rw [List.mem_singleton.mp hd]
                exact ⟨cQW, nz⟩
            · have mz : c ∈ z.cps.toList := by simpa using h
              refine ⟨cs, hDc, by omega, cin, fun j' c' hj hc' nz => ?_, sm⟩
              by_cases ej : j' = j
              · subst ej
                rw [hc] at hc'
                cases hc'
                exact absurd mz nz
              · exact cne j' c' (by omega) hc' nz
          · rintro H20 ⟨cs, hDc, cl2, cin, cne, s20⟩
            have ne : cs ≠ [] := by
              by_cases q81 : 81 ∈ z.cps.toList
              · have q87 : 87 ∉ z.cps.toList := fun h => fz.2.2.2 ⟨q81, h⟩
                exact cne 1 87 (by decide) (by decide +kernel) q87
              · exact cne 0 81 (by decide) (by decide +kernel) q81
            obtain ⟨q, cr, ecs⟩ : ∃ q r, cs = q :: r := by
              cases cs with
              | nil => exact absurd rfl ne
              | cons q r => exact ⟨q, r, rfl⟩
            subst ecs
            obtain ⟨q1, q2⟩ := cin q List.mem_cons_self
            have ql : q ∈ letS.cps.toList := by
              rcases q1 with rfl | rfl <;> decide +kernel
            have P20 := P19.stay s20
            refine .inl ⟨Dq, _, ((0 : Nat) : Int), OneS q, rfl, rfl, SqL.of hDc, atI_nat rfl, ?_⟩
            refine ⟨p, pc, l, xs, rs, q, _, rfl, s20 _ _ hl19, rv19.keep s20, l4, fit, big, ql, lz q q2, P20, by omega, fun H21 P21 x21 => ⟨_, rfl, iteF ?_⟩⟩
            have hl21 := P20.keepI x21 (s20 _ _ hl19)
            have rv21 := (rv19.keep s20).ext P20 x21
            clear hDc s20 P20 x21 P19 hl19 rv19 x19
            dsimp only [tNext]
            refine seq_mid (fun σ H' => σ = [some (.ref a), some (.ref p), some (.int (0 + (i : Int))), some (.str z), some (.ref l), some (.ref ls), some (.ref D), o7, o8, some (.int (n : Nat)), none] ∧ Pen H' p pc (100000 * i + 60000)) (fun D' hD' => ?_) ?_
            · refine ⟨_, rfl, l, xs, rs, rfl, hl21, rv21, okr, fun H22 s22 => ⟨_, _, rfl, rfl, _, rfl, ite2 (fun c => ?_) (fun c => ?_)⟩⟩
              · have pos : (0 : Int) < (lenR rs : Nat) := of_decide_eq_true c
                exact ⟨_, rfl, _, rfl, p, pc, l, xs, rs, _, rfl, s22 _ _ hl21, rv21.keep s22, l4, fit, by omega, P21.stay s22, by omega, fun H23 P23 x23 => ⟨_, rfl, iteF (hD' _ _ ⟨rfl, P23.mono (by omega)⟩)⟩⟩
              · exact hD' _ _ ⟨rfl, (P21.stay s22).mono (by omega)⟩
            · rintro σ H22 ⟨rfl, P22⟩
              exact ⟨_, rfl, _, rfl, p, pc, z, _, rfl, fz, P22, by omega, fun H23 P23 x23 => ⟨_, rfl, iteF ⟨_, _, _, _, _, _, _, _, rfl, P23.mono (by omega)⟩⟩⟩
    · rintro σ H2 ⟨o2, o3, o4, o5, o6, o7, o8, o9, rfl, P2⟩
      exact k _
end
end Vk
set_option Elab.async false
set_option maxRecDepth 100000
set_option maxHeartbeats 4000000
set_option linter.all false
namespace Vk
open PySem PySem.Spec PyProof.Rows L2
section
variable {K : PySem.W.Frag} {x y qual : Str} {st : Stmt} {f : Addr} {fd : FuncData} {ps ks : List Str}
theorem funkd_mk {D : Addr} {oc : Value} {od an : Option Addr} {sl : Array (Option Value)} {doc pm cd ct dv : Value}
    (l : K.lookup f = some ⟨oc, od, .func (PySem.W.fnOf x qual (defArgs st) (defBody st) (defScope st) .none (.ref D) doc pm an cd ct), sl⟩) (c : PySem.W.codeIn K cd qual = true) (k : PySem.W.keepIn K (.ref f) = true)
    (e : PySem.W.nsIn K D y = some (some dv)) : FunKd K x qual st y dv f (PySem.W.fnOf x qual (defArgs st) (defBody st) (defScope st) .none (.ref D) doc pm an cd ct) := ⟨⟨oc, od, D, doc, pm, an, cd, ct, sl, rfl, l, c, e⟩, k⟩
end
end Vk
set_option Elab.async false
set_option maxRecDepth 100000
set_option linter.all false
set_option maxHeartbeats 4000000
namespace Vk
open PySem PySem.Spec PyProof.Rows L2 LamX NdefX StX PySem.VkX
theorem kit_of {K : PySem.W.Frag} {C D : Addr} {b : Bool} (ic : PySem.W.isClsIn K D = true) (ty : PySem.W.typeIn K (.ref D) = some (.type "type")) (d : PySem.W.subIn K (.ref D) (.ref D) = some true) (s : PySem.W.subIn K (.ref C) (.ref D) = some b) : PySem.W.kitOne K (.ref C) (.ref D) = some b := by
  unfold PySem.W.kitOne
  by_cases e : C = D
  · subst e
    rw [if_pos (by simp)]
    exact d.symm.trans s
  · rw [if_neg (by simpa using e)]
    show (if ((PySem.W.clsIn K D).isSome && PySem.W.typeIn K (.ref D) == some (.type "type")) = true then PySem.W.subIn K (.ref C) (.ref D) else none) = some b
    rw [if_pos (by rw [show (PySem.W.clsIn K D).isSome = true from ic, ty]; simp)]
    exact s
theorem prop_mk {K : PySem.W.Frag} {C p g : Addr} {f : Str} {rest : List Value} (a : PySem.W.findIn K (.ref C) f = some (some (.ref p))) (b : PySem.W.specialIn K (.ref p) "__get__" = some (some (.builtin "property.__get__"))) (c : PySem.W.takesIn K (.ref p) = some true) (d : PySem.W.recIn K p "property" = some (.ref g :: rest)) : L2.PropOf K C f p g := ⟨a, b, c, ⟨rest, d⟩⟩
abbrev m_gruns : Stmt := mtd (top 36) 3
theorem b_gruns {P : Program} {w : World} {K : PySem.W.Frag} {mg : Str → Option Value} {base : Heap} {f C : Addr} {fd : FuncData} (F : Fun K "runs" "LongText.runs" m_gruns f fd) (cl : Cls K C) (n1 : NoAttr K C "_runs") : FnOk P w K mg base CX0 1 f fd ["self"] (getSp C "_runs") := by
  obtain ⟨oc, od, kV, doc, pm, an, cdv, ct, osl, rfl, lk, hcd⟩ := F.ex
  exact fn_getter (N := ["self"]) lk hcd ⟨rfl, rfl, rfl, by decide +kernel, rfl, by decide +kernel, by decide +kernel⟩ rfl rfl cl n1
structure LgC (K : PySem.W.Frag) (C fI f_eqL f_addL f_difference p_runs g_runs : Addr) (dI d_eqL d_addL d_difference e_runs : FuncData) : Prop where
  ns : PySem.W.nsIn K mainGlobals "LongText" = some (some (.ref C))
  mks : PySem.W.makesIn K C = true
  it : PySem.W.findIn K (.ref C) "__init__" = some (some (.ref fI))
  fn : PySem.W.isFn K (.ref fI) = true
  kp : PySem.W.keepIn K (.ref C) = true
  pg : PySem.W.plainGet K C Str.empty = true
  hd : PySem.W.hasDictIn K C = true
  po : PySem.W.plainOver K C = true
  sa : PySem.W.findIn K (.ref C) "__setattr__" = some (some (.builtin "object.__setattr__"))
  n1 : PySem.W.findIn K (.ref C) "_runs" = some none
  n2 : PySem.W.findIn K (.ref C) "_length" = some none
  ca : PySem.W.findIn K (.ref C) "__class__" = some (some (.builtin "object.__class__"))
  cn : PySem.W.specialIn K (.builtin "object.__class__") "__get__" = some (some (.builtin "getset_descriptor.__get__"))
  ct : PySem.W.takesIn K (.builtin "object.__class__") = some true
  cm : PySem.W.mroIn K C (.type "object") = some true
  ic : PySem.W.isClsIn K C = true
  ty : PySem.W.typeIn K (.ref C) = some (.type "type")
  s0 : PySem.W.subIn K (.ref C) (.ref C) = some true
  sf : PySem.W.selfFirst K C = true
  ne : PySem.W.findIn K (.ref C) "__ne__" = some (some (.builtin "object.__ne__"))
  o1_eqL : PySem.W.findIn K (.ref C) "__eq__" = some (some (.ref f_eqL))
  o2_eqL : PySem.W.isFn K (.ref f_eqL) = true
  o1_addL : PySem.W.findIn K (.ref C) "__add__" = some (some (.ref f_addL))
  o2_addL : PySem.W.isFn K (.ref f_addL) = true
  r1_difference : PySem.W.findIn K (.ref C) "difference" = some (some (.ref f_difference))
  r2_difference : PySem.W.isFn K (.ref f_difference) = true
  r3_difference : PySem.W.keepIn K (.ref f_difference) = true
  P_runs : L2.PropOf K C "runs" p_runs g_runs
  FI : FunKd K "__init__" "LongText.__init__" m_init "made" .none fI dI
  F_eqL : Fun K "__eq__" "LongText.__eq__" m_eqL f_eqL d_eqL
  F_addL : Fun K "__add__" "LongText.__add__" m_addL f_addL d_addL
  F_difference : Fun K "difference" "LongText.difference" m_difference f_difference d_difference
  F_runs : Fun K "runs" "LongText.runs" m_gruns g_runs e_runs
theorem LgC.cl {K : PySem.W.Frag} {C fI f_eqL f_addL f_difference p_runs g_runs : Addr} {dI d_eqL d_addL d_difference e_runs : FuncData} (t : LgC K C fI f_eqL f_addL f_difference p_runs g_runs dI d_eqL d_addL d_difference e_runs) : Cls K C := ⟨t.pg, t.hd, t.po, t.sa⟩
theorem LgC.M {K : PySem.W.Frag} {C fI f_eqL f_addL f_difference p_runs g_runs : Addr} {dI d_eqL d_addL d_difference e_runs : FuncData} (t : LgC K C fI f_eqL f_addL f_difference p_runs g_runs dI d_eqL d_addL d_difference e_runs) : L2.Mk K C fI := ⟨t.mks, t.it, t.fn, t.kp⟩
theorem LgC.tyx {K : PySem.W.Frag} {C fI f_eqL f_addL f_difference p_runs g_runs : Addr} {dI d_eqL d_addL d_difference e_runs : FuncData} (t : LgC K C fI f_eqL f_addL f_difference p_runs g_runs dI d_eqL d_addL d_difference e_runs) {H : Hp} {a dx : Addr} {fs : List (Str × V)} (h : H a = some (.ins C dx fs)) : TyX K H (.ref a) (.ref C) := .base (.ins h t.cl t.ca t.cn t.ct t.cm)
theorem all {l : PySem.W.OpenLaw} {w : World} {K : PySem.W.Frag} {h : Heap} {mg : Str → Option Value} {fa : Addr} (X : K.In h) (G : h.Ns mainGlobals mg) (hfa : mg "law" = some (.ref fa))
    (e_LongText : ∃ (C fI f_eqL f_addL f_difference p_runs g_runs : Addr) (dI d_eqL d_addL d_difference e_runs : FuncData), LgC K C fI f_eqL f_addL f_difference p_runs g_runs dI d_eqL d_addL d_difference e_runs)
    (d_lsigns : ∃ (f : Addr) (fd : FuncData), At K "_law_signs" s_lsigns f fd)
    (d_ldraw : ∃ (f : Addr) (fd : FuncData), At K "_law_draw" s_ldraw f fd)
    (d_lpen : ∃ (f : Addr) (fd : FuncData), At K "_law_pen" s_lpen f fd)
    (d_lpick : ∃ (f : Addr) (fd : FuncData), At K "_law_pick" s_lpick f fd)
    (d_lgreat : ∃ (f : Addr) (fd : FuncData), At K "_law_great" s_lgreat f fd)
    (d_lfew : ∃ (f : Addr) (fd : FuncData), At K "_law_few" s_lfew f fd)
    (d_lword : ∃ (f : Addr) (fd : FuncData), At K "_law_word" s_lword f fd)
    (d_lruns : ∃ (f : Addr) (fd : FuncData), At K "_law_runs" s_lruns f fd)
    (d_llong : ∃ (f : Addr) (fd : FuncData), At K "_law_long" s_llong f fd)
    (d_lspan : ∃ (f : Addr) (fd : FuncData), At K "_law_span" s_lspan f fd)
    (d_lletter_at : ∃ (f : Addr) (fd : FuncData), At K "_law_letter_at" s_lletter_at f fd)
    (d_lsplit_run : ∃ (f : Addr) (fd : FuncData), At K "_law_split_run" s_lsplit_run f fd)
    (d_lrecut : ∃ (f : Addr) (fd : FuncData), At K "_law_recut" s_lrecut f fd)
    (d_luntil : ∃ (f : Addr) (fd : FuncData), At K "_law_until" s_luntil f fd)
    (d_lfirst_unlike : ∃ (f : Addr) (fd : FuncData), At K "_law_first_unlike" s_lfirst_unlike f fd)
    (d_lunlike_right : ∃ (f : Addr) (fd : FuncData), At K "_law_unlike_right" s_lunlike_right f fd)
    (d_ldropped_right : ∃ (f : Addr) (fd : FuncData), At K "_law_dropped_right" s_ldropped_right f fd)
    (d_lcentral_right : ∃ (f : Addr) (fd : FuncData), At K "_law_central_right" s_lcentral_right f fd)
    (d_is_text : ∃ (f : Addr) (fd : FuncData), At K "is_text" s_is_text f fd)
    (d_is_new : ∃ (f : Addr) (fd : FuncData), At K "is_new" s_is_new f fd)
    (d_is_old : ∃ (f : Addr) (fd : FuncData), At K "is_old" s_is_old f fd)
    (d_is_integer : ∃ (f : Addr) (fd : FuncData), At K "is_integer" s_is_integer f fd)
    (d_is_integer_in : ∃ (f : Addr) (fd : FuncData), At K "is_integer_in" s_is_integer_in f fd)
    (d_length_of : ∃ (f : Addr) (fd : FuncData), At K "length_of" s_length_of f fd)
    (d_cut : ∃ (f : Addr) (fd : FuncData), At K "cut" s_cut f fd)
    (d_first_unlike_letter : ∃ (f : Addr) (fd : FuncData), At K "first_unlike_letter" s_first_unlike_letter f fd)
    (d_first_unlike : ∃ (f : Addr) (fd : FuncData), At K "first_unlike" s_first_unlike f fd)
    (d_is_run : ∃ (f : Addr) (fd : FuncData), At K "is_run" s_is_run f fd)
    (d_check_runs : ∃ (f : Addr) (fd : FuncData), At K "check_runs" s_check_runs f fd)
    (d_law : ∃ (f : Addr) (fd : FuncData), At K "law" s_law f fd)
    (z_str : PySem.W.nsIn K mainGlobals "str" = some none)
    (z_tuple : PySem.W.nsIn K mainGlobals "tuple" = some none)
    (z_enumerate : PySem.W.nsIn K mainGlobals "enumerate" = some none)
    (z_bool : PySem.W.nsIn K mainGlobals "bool" = some none)
    (z_sum : PySem.W.nsIn K mainGlobals "sum" = some none)
    (z_max : PySem.W.nsIn K mainGlobals "max" = some none)
    (z_ValueError : PySem.W.nsIn K mainGlobals "ValueError" = some none)
    (z_len : PySem.W.nsIn K mainGlobals "len" = some none)
    (z_list : PySem.W.nsIn K mainGlobals "list" = some none)
    (z_int : PySem.W.nsIn K mainGlobals "int" = some none)
    (z_abs : PySem.W.nsIn K mainGlobals "abs" = some none)
    (z_range : PySem.W.nsIn K mainGlobals "range" = some none)
    (z_min : PySem.W.nsIn K mainGlobals "min" = some none)
    (z_repr : PySem.W.nsIn K mainGlobals "repr" = some none)
    (z_reversed : PySem.W.nsIn K mainGlobals "reversed" = some none)
    (z_isinstance : PySem.W.nsIn K mainGlobals "isinstance" = some none)
    (g_LETTERS : ∃ u, mg "LETTERS" = some u ∧ RelV (.str letS) u)
    (g_MAX_WORD : ∃ u, mg "MAX_WORD" = some u ∧ RelV (.int 40) u)
    (g_MAX_RUNS : ∃ u, mg "MAX_RUNS" = some u ∧ RelV (.int 20) u)
    (g_MAX_TIMES : ∃ u, mg "MAX_TIMES" = some u ∧ RelV (.int 1000000000000000000000000000000) u)
    : ∃ (fd : FuncData), (∀ (s : Shared) (v : Value), BindsTo s fd ⟨[v], []⟩ [("_law_script", v)]) ∧ ∀ base : Heap, K.In base → base.Ns mainGlobals mg → FnG l.prog w K mg base CX0 11 fa fd ["_law_script"] (spLaw K) := by
  obtain ⟨C_L, fI_L, f_eqL_L, f_addL_L, f_difference_L, p_runs_L, g_runs_L, dI_L, d_eqL_L, d_addL_L, d_difference_L, e_runs_L, LT⟩ := e_LongText
  have n_LongText := PySem.W.mg_of X G LT.ns
  obtain ⟨f_lsigns, fd_lsigns, A_lsigns⟩ := d_lsigns
  have m_lsigns := PySem.W.mg_of X G A_lsigns.ns
  obtain ⟨f_ldraw, fd_ldraw, A_ldraw⟩ := d_ldraw
  have m_ldraw := PySem.W.mg_of X G A_ldraw.ns
  obtain ⟨f_lpen, fd_lpen, A_lpen⟩ := d_lpen
  have m_lpen := PySem.W.mg_of X G A_lpen.ns
  obtain ⟨f_lpick, fd_lpick, A_lpick⟩ := d_lpick
  have m_lpick := PySem.W.mg_of X G A_lpick.ns
  obtain ⟨f_lgreat, fd_lgreat, A_lgreat⟩ := d_lgreat
  have m_lgreat := PySem.W.mg_of X G A_lgreat.ns
  obtain ⟨f_lfew, fd_lfew, A_lfew⟩ := d_lfew
  have m_lfew := PySem.W.mg_of X G A_lfew.ns
  obtain ⟨f_lword, fd_lword, A_lword⟩ := d_lword
  have m_lword := PySem.W.mg_of X G A_lword.ns
  obtain ⟨f_lruns, fd_lruns, A_lruns⟩ := d_lruns
  have m_lruns := PySem.W.mg_of X G A_lruns.ns
  obtain ⟨f_llong, fd_llong, A_llong⟩ := d_llong
  have m_llong := PySem.W.mg_of X G A_llong.ns
  obtain ⟨f_lspan, fd_lspan, A_lspan⟩ := d_lspan
  have m_lspan := PySem.W.mg_of X G A_lspan.ns
  obtain ⟨f_lletter_at, fd_lletter_at, A_lletter_at⟩ := d_lletter_at
  have m_lletter_at := PySem.W.mg_of X G A_lletter_at.ns
  obtain ⟨f_lsplit_run, fd_lsplit_run, A_lsplit_run⟩ := d_lsplit_run
  have m_lsplit_run := PySem.W.mg_of X G A_lsplit_run.ns
  obtain ⟨f_lrecut, fd_lrecut, A_lrecut⟩ := d_lrecut
  have m_lrecut := PySem.W.mg_of X G A_lrecut.ns
  obtain ⟨f_luntil, fd_luntil, A_luntil⟩ := d_luntil
  have m_luntil := PySem.W.mg_of X G A_luntil.ns
  obtain ⟨f_lfirst_unlike, fd_lfirst_unlike, A_lfirst_unlike⟩ := d_lfirst_unlike
  have m_lfirst_unlike := PySem.W.mg_of X G A_lfirst_unlike.ns
  obtain ⟨f_lunlike_right, fd_lunlike_right, A_lunlike_right⟩ := d_lunlike_right
  have m_lunlike_right := PySem.W.mg_of X G A_lunlike_right.ns
  obtain ⟨f_ldropped_right, fd_ldropped_right, A_ldropped_right⟩ := d_ldropped_right
  have m_ldropped_right := PySem.W.mg_of X G A_ldropped_right.ns
  obtain ⟨f_lcentral_right, fd_lcentral_right, A_lcentral_right⟩ := d_lcentral_right
  have m_lcentral_right := PySem.W.mg_of X G A_lcentral_right.ns
  obtain ⟨f_is_text, fd_is_text, A_is_text⟩ := d_is_text
  have m_is_text := PySem.W.mg_of X G A_is_text.ns
  obtain ⟨f_is_new, fd_is_new, A_is_new⟩ := d_is_new
  have m_is_new := PySem.W.mg_of X G A_is_new.ns
  obtain ⟨f_is_old, fd_is_old, A_is_old⟩ := d_is_old
  have m_is_old := PySem.W.mg_of X G A_is_old.ns
  obtain ⟨f_is_integer, fd_is_integer, A_is_integer⟩ := d_is_integer
  have m_is_integer := PySem.W.mg_of X G A_is_integer.ns
  obtain ⟨f_is_integer_in, fd_is_integer_in, A_is_integer_in⟩ := d_is_integer_in
  have m_is_integer_in := PySem.W.mg_of X G A_is_integer_in.ns
  obtain ⟨f_length_of, fd_length_of, A_length_of⟩ := d_length_of
  have m_length_of := PySem.W.mg_of X G A_length_of.ns
  obtain ⟨f_cut, fd_cut, A_cut⟩ := d_cut
  have m_cut := PySem.W.mg_of X G A_cut.ns
  obtain ⟨f_first_unlike_letter, fd_first_unlike_letter, A_first_unlike_letter⟩ := d_first_unlike_letter
  have m_first_unlike_letter := PySem.W.mg_of X G A_first_unlike_letter.ns
  obtain ⟨f_first_unlike, fd_first_unlike, A_first_unlike⟩ := d_first_unlike
  have m_first_unlike := PySem.W.mg_of X G A_first_unlike.ns
  obtain ⟨f_is_run, fd_is_run, A_is_run⟩ := d_is_run
  have m_is_run := PySem.W.mg_of X G A_is_run.ns
  obtain ⟨f_check_runs, fd_check_runs, A_check_runs⟩ := d_check_runs
  have m_check_runs := PySem.W.mg_of X G A_check_runs.ns
  obtain ⟨f_law, fd_law, A_law⟩ := d_law
  have m_law := PySem.W.mg_of X G A_law.ns
  have e := hfa.symm.trans m_law
  cases e
  have T : Txt mg := ⟨PySem.W.mg_none_of X G z_str, PySem.W.mg_none_of X G z_tuple, PySem.W.mg_none_of X G z_enumerate, PySem.W.mg_none_of X G z_bool, PySem.W.mg_none_of X G z_sum, PySem.W.mg_none_of X G z_max, PySem.W.mg_none_of X G z_ValueError, PySem.W.mg_none_of X G z_len, PySem.W.mg_none_of X G z_list, PySem.W.mg_none_of X G z_int, PySem.W.mg_none_of X G z_abs, PySem.W.mg_none_of X G z_range, PySem.W.mg_none_of X G z_min, PySem.W.mg_none_of X G z_repr, PySem.W.mg_none_of X G z_reversed, PySem.W.mg_none_of X G z_isinstance⟩
  have bd_lsigns : Binds K fd_lsigns [] [] := A_lsigns.fn.binds (ps := []) fun _ _ _ _ _ _ us hl => match us, hl with | [], _ => rfl
  have bd_ldraw : Binds K fd_ldraw ["_law_pen_here", "_law_many"] [] := A_ldraw.fn.binds (ps := ["_law_pen_here", "_law_many"]) fun _ _ _ _ _ _ us hl => match us, hl with | [_, _], _ => rfl
  have bd_lpen : Binds K fd_lpen ["_law_script"] [] := A_lpen.fn.binds (ps := ["_law_script"]) fun _ _ _ _ _ _ us hl => match us, hl with | [_], _ => rfl
  have bd_lpick : Binds K fd_lpick ["_law_pen_here", "_law_options"] [] := A_lpick.fn.binds (ps := ["_law_pen_here", "_law_options"]) fun _ _ _ _ _ _ us hl => match us, hl with | [_, _], _ => rfl
  have bd_lgreat : Binds K fd_lgreat ["_law_pen_here", "_law_digits"] [] := A_lgreat.fn.binds (ps := ["_law_pen_here", "_law_digits"]) fun _ _ _ _ _ _ us hl => match us, hl with | [_, _], _ => rfl
  have bd_lfew : Binds K fd_lfew ["_law_pen_here"] [] := A_lfew.fn.binds (ps := ["_law_pen_here"]) fun _ _ _ _ _ _ us hl => match us, hl with | [_], _ => rfl
  have bd_lword : Binds K fd_lword ["_law_pen_here", "_law_signs_here", "_law_least", "_law_most_letters"] [] := A_lword.fn.binds (ps := ["_law_pen_here", "_law_signs_here", "_law_least", "_law_most_letters"]) fun _ _ _ _ _ _ us hl => match us, hl with | [_, _, _, _], _ => rfl
  have bd_lruns : Binds K fd_lruns ["_law_pen_here", "_law_signs_here", "_law_many", "_law_wide", "_law_tops"] [] := A_lruns.fn.binds (ps := ["_law_pen_here", "_law_signs_here", "_law_many", "_law_wide", "_law_tops"]) fun _ _ _ _ _ _ us hl => match us, hl with | [_, _, _, _, _], _ => rfl
  have bd_llong : Binds K fd_llong ["_law_runs_here"] [] := A_llong.fn.binds (ps := ["_law_runs_here"]) fun _ _ _ _ _ _ us hl => match us, hl with | [_], _ => rfl
  have bd_lspan : Binds K fd_lspan ["_law_runs_here"] [] := A_lspan.fn.binds (ps := ["_law_runs_here"]) fun _ _ _ _ _ _ us hl => match us, hl with | [_], _ => rfl
  have bd_lletter_at : Binds K fd_lletter_at ["_law_runs_here", "_law_spot"] [] := A_lletter_at.fn.binds (ps := ["_law_runs_here", "_law_spot"]) fun _ _ _ _ _ _ us hl => match us, hl with | [_, _], _ => rfl
  have bd_lsplit_run : Binds K fd_lsplit_run ["_law_pen_here", "_law_one"] [] := A_lsplit_run.fn.binds (ps := ["_law_pen_here", "_law_one"]) fun _ _ _ _ _ _ us hl => match us, hl with | [_, _], _ => rfl
  have bd_lrecut : Binds K fd_lrecut ["_law_pen_here", "_law_runs_here"] [] := A_lrecut.fn.binds (ps := ["_law_pen_here", "_law_runs_here"]) fun _ _ _ _ _ _ us hl => match us, hl with | [_, _], _ => rfl
  have bd_luntil : Binds K fd_luntil ["_law_runs_here", "_law_spot"] [] := A_luntil.fn.binds (ps := ["_law_runs_here", "_law_spot"]) fun _ _ _ _ _ _ us hl => match us, hl with | [_, _], _ => rfl
  have bd_lfirst_unlike : Binds K fd_lfirst_unlike ["_law_one", "_law_two", "_law_spot"] [] := A_lfirst_unlike.fn.binds (ps := ["_law_one", "_law_two", "_law_spot"]) fun _ _ _ _ _ _ us hl => match us, hl with | [_, _, _], _ => rfl
  have bd_lunlike_right : Binds K fd_lunlike_right ["_law_pen_here", "_law_runs_here", "_law_mark"] [] := A_lunlike_right.fn.binds (ps := ["_law_pen_here", "_law_runs_here", "_law_mark"]) fun _ _ _ _ _ _ us hl => match us, hl with | [_, _, _], _ => rfl
  have bd_ldropped_right : Binds K fd_ldropped_right ["_law_pen_here", "_law_runs_here"] [] := A_ldropped_right.fn.binds (ps := ["_law_pen_here", "_law_runs_here"]) fun _ _ _ _ _ _ us hl => match us, hl with | [_, _], _ => rfl
  have bd_lcentral_right : Binds K fd_lcentral_right ["_law_pen_here", "_law_signs_here"] [] := A_lcentral_right.fn.binds (ps := ["_law_pen_here", "_law_signs_here"]) fun _ _ _ _ _ _ us hl => match us, hl with | [_, _], _ => rfl
  have bd_is_text : Binds K fd_is_text ["value"] [] := A_is_text.fn.binds (ps := ["value"]) fun _ _ _ _ _ _ us hl => match us, hl with | [_], _ => rfl
  have bd_is_new : Binds K fd_is_new ["value"] [] := A_is_new.fn.binds (ps := ["value"]) fun _ _ _ _ _ _ us hl => match us, hl with | [_], _ => rfl
  have bd_is_old : Binds K fd_is_old ["value"] [] := A_is_old.fn.binds (ps := ["value"]) fun _ _ _ _ _ _ us hl => match us, hl with | [_], _ => rfl
  have bd_is_integer : Binds K fd_is_integer ["value"] [] := A_is_integer.fn.binds (ps := ["value"]) fun _ _ _ _ _ _ us hl => match us, hl with | [_], _ => rfl
  have bd_is_integer_in : Binds K fd_is_integer_in ["value", "low", "high"] [] := A_is_integer_in.fn.binds (ps := ["value", "low", "high"]) fun _ _ _ _ _ _ us hl => match us, hl with | [_, _, _], _ => rfl
  have bd_length_of : Binds K fd_length_of ["runs"] [] := A_length_of.fn.binds (ps := ["runs"]) fun _ _ _ _ _ _ us hl => match us, hl with | [_], _ => rfl
  have bd_cut : Binds K fd_cut ["piece", "first", "number"] [] := A_cut.fn.binds (ps := ["piece", "first", "number"]) fun _ _ _ _ _ _ us hl => match us, hl with | [_, _, _], _ => rfl
  have bd_first_unlike_letter : Binds K fd_first_unlike_letter ["one", "other"] [] := A_first_unlike_letter.fn.binds (ps := ["one", "other"]) fun _ _ _ _ _ _ us hl => match us, hl with | [_, _], _ => rfl
  have bd_first_unlike : Binds K fd_first_unlike ["runs", "others"] [] := A_first_unlike.fn.binds (ps := ["runs", "others"]) fun _ _ _ _ _ _ us hl => match us, hl with | [_, _], _ => rfl
  have bd_is_run : Binds K fd_is_run ["value"] [] := A_is_run.fn.binds (ps := ["value"]) fun _ _ _ _ _ _ us hl => match us, hl with | [_], _ => rfl
  have bd_check_runs : Binds K fd_check_runs ["runs"] [] := A_check_runs.fn.binds (ps := ["runs"]) fun _ _ _ _ _ _ us hl => match us, hl with | [_], _ => rfl
  refine ⟨fd_law, fun s v => A_law.fn.binds1 rfl s v, fun base _ _ => ?_⟩
  have t_signs : FnT l.prog w K mg base 1 "_law_signs" letS := okT A_lsigns.fn sc_lsigns m_lsigns bd_lsigns rfl
  have c_is_text : CalG l.prog w K mg base CX0 1 "is_text" (spTest isT) := ⟨f_is_text, fd_is_text, _, b_is_text A_is_text.fn T g_LETTERS, m_is_text, A_is_text.fn.kp, bd_is_text⟩
  have c_is_new : CalG l.prog w K mg base CX0 2 "is_new" (spTest isNew) := ⟨f_is_new, fd_is_new, _, b_is_new A_is_new.fn T c_is_text g_MAX_WORD, m_is_new, A_is_new.fn.kp, bd_is_new⟩
  have c_is_old : CalG l.prog w K mg base CX0 3 "is_old" (spTest isOld) := ⟨f_is_old, fd_is_old, _, b_is_old A_is_old.fn T c_is_new, m_is_old, A_is_old.fn.kp, bd_is_old⟩
  have c_is_integer : CalG l.prog w K mg base CX0 1 "is_integer" spIsInt := ⟨f_is_integer, fd_is_integer, _, b_is_integer A_is_integer.fn T, m_is_integer, A_is_integer.fn.kp, bd_is_integer⟩
  have c_is_integer_in : CalG l.prog w K mg base CX0 2 "is_integer_in" spInI := ⟨f_is_integer_in, fd_is_integer_in, _, b_is_integer_in A_is_integer_in.fn T c_is_integer, m_is_integer_in, A_is_integer_in.fn.kp, bd_is_integer_in⟩
  have c_length_of : CalG l.prog w K mg base CX0 1 "length_of" spLenOf := ⟨f_length_of, fd_length_of, _, b_length_of A_length_of.fn T, m_length_of, A_length_of.fn.kp, bd_length_of⟩
  have c_cut : CalG l.prog w K mg base CX0 1 "cut" spCut := ⟨f_cut, fd_cut, _, b_cut A_cut.fn T, m_cut, A_cut.fn.kp, bd_cut⟩
  have c_first_unlike_letter : CalG l.prog w K mg base CX0 1 "first_unlike_letter" spFul := ⟨f_first_unlike_letter, fd_first_unlike_letter, _, b_first_unlike_letter A_first_unlike_letter.fn T, m_first_unlike_letter, A_first_unlike_letter.fn.kp, bd_first_unlike_letter⟩
  have c_first_unlike : CalG l.prog w K mg base CX0 2 "first_unlike" spUnlike := ⟨f_first_unlike, fd_first_unlike, _, b_first_unlike A_first_unlike.fn T c_cut c_first_unlike_letter, m_first_unlike, A_first_unlike.fn.kp, bd_first_unlike⟩
  have c_is_run : CalG l.prog w K mg base CX0 4 "is_run" spIsRun := ⟨f_is_run, fd_is_run, _, b_is_run A_is_run.fn T c_is_old c_is_integer_in g_MAX_TIMES, m_is_run, A_is_run.fn.kp, bd_is_run⟩
  have c_check_runs : CalG l.prog w K mg base CX0 5 "check_runs" spChkRuns := ⟨f_check_runs, fd_check_runs, _, b_check_runs A_check_runs.fn T c_is_run g_MAX_RUNS, m_check_runs, A_check_runs.fn.kp, bd_check_runs⟩
  have FLS := b_longS (P := l.prog) (w := w) (base := base) LT.FI T LT.cl LT.n1 LT.n2 c_check_runs c_length_of
  have FLM := b_longM (P := l.prog) (w := w) (base := base) LT.FI T LT.cl LT.n1 LT.n2 c_check_runs c_length_of
  have pr_runs : ∀ n, n < 1 → PrI l.prog w K mg base 1 ((fun _ => C_L) n) "runs" "_runs" := fun n hn => ⟨p_runs_L, g_runs_L, e_runs_L, LT.cl, LT.P_runs, b_gruns LT.F_runs LT.cl LT.n1, LT.F_runs.binds (ps := ["self"]) fun _ _ _ _ _ _ us hl => match us, hl with | [_], _ => rfl⟩
  have addL : AddI l.prog w K mg base (L2.CX l.prog w) 8 C_L (spAddL C_L) := ⟨⟨f_addL_L, d_addL_L, LT.o1_addL, LT.o2_addL, b_addL LT.F_addL T LT.cl LT.n1 pr_runs n_LongText LT.M FLM, LT.F_addL.binds (ps := ["self", "other"]) fun _ _ _ _ _ _ us hl => match us, hl with | [_, _], _ => rfl⟩, LT.sf⟩
  have kL := kit_of LT.ic LT.ty LT.s0 LT.s0
  have eqL : EqIG l.prog w K mg base 3 C_L (spEqL C_L) := ⟨⟨f_eqL_L, d_eqL_L, LT.o1_eqL, LT.o2_eqL, b_eqL LT.F_eqL T LT.cl LT.n1 n_LongText (fun h => LT.tyx h) kL c_first_unlike, LT.F_eqL.binds (ps := ["self", "other"]) fun _ _ _ _ _ _ us hl => match us, hl with | [_, _], _ => rfl⟩⟩
  have neL : NeG K C_L := ⟨LT.ne, LT.cm⟩
  have m_difference : MthG l.prog w K mg base CX0 3 C_L "difference" (spDiffL C_L) := ⟨f_difference_L, d_difference_L, _, ⟨LT.r1_difference, LT.r2_difference, LT.r3_difference⟩, b_difference LT.F_difference T LT.cl LT.n1 pr_runs c_first_unlike, LT.F_difference.binds (ps := ["self", "other"]) fun _ _ _ _ _ _ us hl => match us, hl with | [_, _], _ => rfl⟩
  have c_lsigns : CalG l.prog w K mg base CX0 1 "_law_signs" spSigns := ⟨f_lsigns, fd_lsigns, _, b_lsigns A_lsigns.fn T, m_lsigns, A_lsigns.fn.kp, bd_lsigns⟩
  have c_ldraw : CalG l.prog w K mg base CX0 1 "_law_draw" spDraw := ⟨f_ldraw, fd_ldraw, _, b_ldraw A_ldraw.fn T, m_ldraw, A_ldraw.fn.kp, bd_ldraw⟩
  have c_lpen : CalG l.prog w K mg base CX0 1 "_law_pen" (spPen K) := ⟨f_lpen, fd_lpen, _, b_lpen A_lpen.fn T, m_lpen, A_lpen.fn.kp, bd_lpen⟩
  have c_lpick : CalG l.prog w K mg base CX0 2 "_law_pick" (spPick K) := ⟨f_lpick, fd_lpick, _, b_lpick A_lpick.fn T c_ldraw, m_lpick, A_lpick.fn.kp, bd_lpick⟩
  have c_lgreat : CalG l.prog w K mg base CX0 2 "_law_great" spGreat := ⟨f_lgreat, fd_lgreat, _, b_lgreat A_lgreat.fn T c_ldraw, m_lgreat, A_lgreat.fn.kp, bd_lgreat⟩
  have c_lfew : CalG l.prog w K mg base CX0 3 "_law_few" spFewD := ⟨f_lfew, fd_lfew, _, b_lfewD A_lfew.fn T c_lpick t_signs, m_lfew, A_lfew.fn.kp, bd_lfew⟩
  have c_lword : CalG l.prog w K mg base CX0 3 "_law_word" spWord := ⟨f_lword, fd_lword, _, b_lword A_lword.fn T c_ldraw c_lpick, m_lword, A_lword.fn.kp, bd_lword⟩
  have c_lruns : CalG l.prog w K mg base CX0 4 "_law_runs" spRuns := ⟨f_lruns, fd_lruns, _, b_lruns A_lruns.fn T c_ldraw c_lpick c_lword, m_lruns, A_lruns.fn.kp, bd_lruns⟩
  have c_llong : CalG l.prog w K mg base CX0 9 "_law_long" (spLong C_L) := ⟨f_llong, fd_llong, _, b_llong A_llong.fn n_LongText LT.M FLS addL, m_llong, A_llong.fn.kp, bd_llong⟩
  have c_lspan : CalG l.prog w K mg base CX0 1 "_law_span" spSpan := ⟨f_lspan, fd_lspan, _, b_lspan A_lspan.fn T, m_lspan, A_lspan.fn.kp, bd_lspan⟩
  have c_lletter_at : CalG l.prog w K mg base CX0 1 "_law_letter_at" spLetAt := ⟨f_lletter_at, fd_lletter_at, _, b_lletter_at A_lletter_at.fn T, m_lletter_at, A_lletter_at.fn.kp, bd_lletter_at⟩
  have c_lsplit_run : CalG l.prog w K mg base CX0 3 "_law_split_run" spSplit := ⟨f_lsplit_run, fd_lsplit_run, _, b_lsplit_run A_lsplit_run.fn T c_ldraw c_lgreat, m_lsplit_run, A_lsplit_run.fn.kp, bd_lsplit_run⟩
  have c_lrecut : CalG l.prog w K mg base CX0 4 "_law_recut" spRecut := ⟨f_lrecut, fd_lrecut, _, b_lrecut A_lrecut.fn T c_lsplit_run, m_lrecut, A_lrecut.fn.kp, bd_lrecut⟩
  have c_luntil : CalG l.prog w K mg base CX0 1 "_law_until" spUntil := ⟨f_luntil, fd_luntil, _, b_luntil A_luntil.fn T, m_luntil, A_luntil.fn.kp, bd_luntil⟩
  have c_lfirst_unlike : CalG l.prog w K mg base CX0 2 "_law_first_unlike" spFuL := ⟨f_lfirst_unlike, fd_lfirst_unlike, _, b_lfirst_unlike A_lfirst_unlike.fn T c_lletter_at, m_lfirst_unlike, A_lfirst_unlike.fn.kp, bd_lfirst_unlike⟩
  have c_lunlike_right : CalG l.prog w K mg base CX0 10 "_law_unlike_right" spUnr := ⟨f_lunlike_right, fd_lunlike_right, _, b_lunlike_right A_lunlike_right.fn T c_ldraw c_lgreat c_lspan c_luntil c_llong c_lrecut LT.cl m_difference eqL neL, m_lunlike_right, A_lunlike_right.fn.kp, bd_lunlike_right⟩
  have c_ldropped_right : CalG l.prog w K mg base CX0 10 "_law_dropped_right" spDrop := ⟨f_ldropped_right, fd_ldropped_right, _, b_ldropped_right A_ldropped_right.fn T c_lgreat c_lspan c_luntil c_lfirst_unlike c_llong c_lrecut LT.cl m_difference, m_ldropped_right, A_ldropped_right.fn.kp, bd_ldropped_right⟩
  have c_lcentral_right : CalG l.prog w K mg base CX0 10 "_law_central_right" spCen := ⟨f_lcentral_right, fd_lcentral_right, _, b_lcentral_right A_lcentral_right.fn T c_ldraw c_lfirst_unlike c_llong LT.cl m_difference, m_lcentral_right, A_lcentral_right.fn.kp, bd_lcentral_right⟩
  exact b_law A_law.fn T c_lpen c_lfew c_lruns c_lgreat c_lrecut c_llong c_lspan c_ldraw c_lunlike_right c_ldropped_right c_lcentral_right LT.cl m_difference addL eqL neL
end Vk
set_option Elab.async false
set_option maxRecDepth 100000
set_option linter.all false
open PySem PySem.W PyProof.Rows
set_option maxRecDepth 100000 in
set_option maxHeartbeats 0 in
theorem PySem.Challenge.cw_anchoredits_k86_whole_equal_however_cut_holds : PySem.Challenge.rw_anchoredits_k86_whole_equal_however_cut.Holds := by
  w_on; o_law; k_headL; (case hw => w_witness2)
  k_fill
  refine Vk.walkX (l := PySem.Challenge.rw_anchoredits_k86_whole_equal_however_cut) (n := 63) (k := 11) (x := "_law_script") (CX := L2.CX0) (sp := Vk.spLaw) rfl (by decide) rfl ⟨rfl, by decide, by decide⟩ (fun w h Y => PySem.W.kIn_of Y) ?F (fun K H a ns hl _ hS => ⟨a, ns, rfl, hS, hl, fun _ => rfl⟩) (fun _ _ _ _ z => z)
  case F =>
    intro w mg fa h KX Gr hmg
    obtain ⟨s0, mb, Gr⟩ := Gr
    refine' Vk.all KX Gr.T.g hmg ?e_LongText ?d_lsigns ?d_ldraw ?d_lpen ?d_lpick ?d_lgreat ?d_lfew ?d_lword ?d_lruns ?d_llong ?d_lspan ?d_lletter_at ?d_lsplit_run ?d_lrecut ?d_luntil ?d_lfirst_unlike ?d_lunlike_right ?d_ldropped_right ?d_lcentral_right ?d_is_text ?d_is_new ?d_is_old ?d_is_integer ?d_is_integer_in ?d_length_of ?d_cut ?d_first_unlike_letter ?d_first_unlike ?d_is_run ?d_check_runs ?d_law ?z_str ?z_tuple ?z_enumerate ?z_bool ?z_sum ?z_max ?z_ValueError ?z_len ?z_list ?z_int ?z_abs ?z_range ?z_min ?z_repr ?z_reversed ?z_isinstance ?g_LETTERS ?g_MAX_WORD ?g_MAX_RUNS ?g_MAX_TIMES
    (case e_LongText => as_aux_lemma => (refine' ⟨_, _, _, _, _, _, _, _, _, _, _, _, ⟨?ns, ?mks, ?it, ?fn, ?kp, ?pg, ?hd, ?po, ?sa, ?n1, ?n2, ?ca, ?cn, ?ct, ?cm, ?ic, ?ty, ?s0, ?sf, ?ne, ?o1_eqL, ?o2_eqL, ?o1_addL, ?o2_addL, ?r1_difference, ?r2_difference, ?r3_difference, Vk.prop_mk ?pa0 ?pg0 ?pt0 ?pr0, Vk.funkd_mk ?lI ?cI ?kI ?eI, L2.fun_mk ?lo0 ?co0 ?ko0, L2.fun_mk ?lo1 ?co1 ?ko1, L2.fun_mk ?lm0 ?cm0 ?km0, L2.fun_mk ?lq0 ?cq0 ?kq0⟩⟩; (case ns => k_is); (case mks => k_is); (case it => k_is); (case fn => k_is); (case kp => k_is); (case pg => k_is); (case hd => k_is); (case po => k_is); (case sa => k_is); (case n1 => k_is); (case n2 => k_is); (case ca => k_is); (case cn => k_is); (case ct => k_is); (case cm => k_is); (case ic => k_is); (case ty => k_is); (case s0 => k_is); (case sf => k_is); (case ne => k_is); (case o1_eqL => k_is); (case o2_eqL => k_is); (case o1_addL => k_is); (case o2_addL => k_is); (case r1_difference => k_is); (case r2_difference => k_is); (case r3_difference => k_is); (case pa0 => k_is); (case pg0 => k_is); (case pt0 => k_is); (case pr0 => k_is); (case lI => k_is); (case cI => k_is); (case kI => k_is); (case lo0 => k_is); (case co0 => k_is); (case ko0 => k_is); (case lo1 => k_is); (case co1 => k_is); (case ko1 => k_is); (case lm0 => k_is); (case cm0 => k_is); (case km0 => k_is); (case lq0 => k_is); (case cq0 => k_is); (case kq0 => k_is); (case eI => k_is)))
    (case d_lsigns => as_aux_lemma => (refine' ⟨_, _, Vk.at_mk ?a ?l ?c ?k⟩; (case a => k_is); (case l => k_is); (case c => k_is); (case k => k_is)))
    (case d_ldraw => as_aux_lemma => (refine' ⟨_, _, Vk.at_mk ?a ?l ?c ?k⟩; (case a => k_is); (case l => k_is); (case c => k_is); (case k => k_is)))
    (case d_lpen => as_aux_lemma => (refine' ⟨_, _, Vk.at_mk ?a ?l ?c ?k⟩; (case a => k_is); (case l => k_is); (case c => k_is); (case k => k_is)))
    (case d_lpick => as_aux_lemma => (refine' ⟨_, _, Vk.at_mk ?a ?l ?c ?k⟩; (case a => k_is); (case l => k_is); (case c => k_is); (case k => k_is)))
    (case d_lgreat => as_aux_lemma => (refine' ⟨_, _, Vk.at_mk ?a ?l ?c ?k⟩; (case a => k_is); (case l => k_is); (case c => k_is); (case k => k_is)))
    (case d_lfew => as_aux_lemma => (refine' ⟨_, _, Vk.at_mk ?a ?l ?c ?k⟩; (case a => k_is); (case l => k_is); (case c => k_is); (case k => k_is)))
    (case d_lword => as_aux_lemma => (refine' ⟨_, _, Vk.at_mk ?a ?l ?c ?k⟩; (case a => k_is); (case l => k_is); (case c => k_is); (case k => k_is)))
    (case d_lruns => as_aux_lemma => (refine' ⟨_, _, Vk.at_mk ?a ?l ?c ?k⟩; (case a => k_is); (case l => k_is); (case c => k_is); (case k => k_is)))
    (case d_llong => as_aux_lemma => (refine' ⟨_, _, Vk.at_mk ?a ?l ?c ?k⟩; (case a => k_is); (case l => k_is); (case c => k_is); (case k => k_is)))
    (case d_lspan => as_aux_lemma => (refine' ⟨_, _, Vk.at_mk ?a ?l ?c ?k⟩; (case a => k_is); (case l => k_is); (case c => k_is); (case k => k_is)))
    (case d_lletter_at => as_aux_lemma => (refine' ⟨_, _, Vk.at_mk ?a ?l ?c ?k⟩; (case a => k_is); (case l => k_is); (case c => k_is); (case k => k_is)))
    (case d_lsplit_run => as_aux_lemma => (refine' ⟨_, _, Vk.at_mk ?a ?l ?c ?k⟩; (case a => k_is); (case l => k_is); (case c => k_is); (case k => k_is)))
    (case d_lrecut => as_aux_lemma => (refine' ⟨_, _, Vk.at_mk ?a ?l ?c ?k⟩; (case a => k_is); (case l => k_is); (case c => k_is); (case k => k_is)))
    (case d_luntil => as_aux_lemma => (refine' ⟨_, _, Vk.at_mk ?a ?l ?c ?k⟩; (case a => k_is); (case l => k_is); (case c => k_is); (case k => k_is)))
    (case d_lfirst_unlike => as_aux_lemma => (refine' ⟨_, _, Vk.at_mk ?a ?l ?c ?k⟩; (case a => k_is); (case l => k_is); (case c => k_is); (case k => k_is)))
    (case d_lunlike_right => as_aux_lemma => (refine' ⟨_, _, Vk.at_mk ?a ?l ?c ?k⟩; (case a => k_is); (case l => k_is); (case c => k_is); (case k => k_is)))
    (case d_ldropped_right => as_aux_lemma => (refine' ⟨_, _, Vk.at_mk ?a ?l ?c ?k⟩; (case a => k_is); (case l => k_is); (case c => k_is); (case k => k_is)))
    (case d_lcentral_right => as_aux_lemma => (refine' ⟨_, _, Vk.at_mk ?a ?l ?c ?k⟩; (case a => k_is); (case l => k_is); (case c => k_is); (case k => k_is)))
    (case d_is_text => as_aux_lemma => (refine' ⟨_, _, Vk.at_mk ?a ?l ?c ?k⟩; (case a => k_is); (case l => k_is); (case c => k_is); (case k => k_is)))
    (case d_is_new => as_aux_lemma => (refine' ⟨_, _, Vk.at_mk ?a ?l ?c ?k⟩; (case a => k_is); (case l => k_is); (case c => k_is); (case k => k_is)))
    (case d_is_old => as_aux_lemma => (refine' ⟨_, _, Vk.at_mk ?a ?l ?c ?k⟩; (case a => k_is); (case l => k_is); (case c => k_is); (case k => k_is)))
    (case d_is_integer => as_aux_lemma => (refine' ⟨_, _, Vk.at_mk ?a ?l ?c ?k⟩; (case a => k_is); (case l => k_is); (case c => k_is); (case k => k_is)))
    (case d_is_integer_in => as_aux_lemma => (refine' ⟨_, _, Vk.at_mk ?a ?l ?c ?k⟩; (case a => k_is); (case l => k_is); (case c => k_is); (case k => k_is)))
    (case d_length_of => as_aux_lemma => (refine' ⟨_, _, Vk.at_mk ?a ?l ?c ?k⟩; (case a => k_is); (case l => k_is); (case c => k_is); (case k => k_is)))
    (case d_cut => as_aux_lemma => (refine' ⟨_, _, Vk.at_mk ?a ?l ?c ?k⟩; (case a => k_is); (case l => k_is); (case c => k_is); (case k => k_is)))
    (case d_first_unlike_letter => as_aux_lemma => (refine' ⟨_, _, Vk.at_mk ?a ?l ?c ?k⟩; (case a => k_is); (case l => k_is); (case c => k_is); (case k => k_is)))
    (case d_first_unlike => as_aux_lemma => (refine' ⟨_, _, Vk.at_mk ?a ?l ?c ?k⟩; (case a => k_is); (case l => k_is); (case c => k_is); (case k => k_is)))
    (case d_is_run => as_aux_lemma => (refine' ⟨_, _, Vk.at_mk ?a ?l ?c ?k⟩; (case a => k_is); (case l => k_is); (case c => k_is); (case k => k_is)))
    (case d_check_runs => as_aux_lemma => (refine' ⟨_, _, Vk.at_mk ?a ?l ?c ?k⟩; (case a => k_is); (case l => k_is); (case c => k_is); (case k => k_is)))
    (case d_law => as_aux_lemma => (refine' ⟨_, _, Vk.at_mk ?a ?l ?c ?k⟩; (case a => k_is); (case l => k_is); (case c => k_is); (case k => k_is)))
    (case z_str => as_aux_lemma => k_is)
    (case z_tuple => as_aux_lemma => k_is)
    (case z_enumerate => as_aux_lemma => k_is)
    (case z_bool => as_aux_lemma => k_is)
    (case z_sum => as_aux_lemma => k_is)
    (case z_max => as_aux_lemma => k_is)
    (case z_ValueError => as_aux_lemma => k_is)
    (case z_len => as_aux_lemma => k_is)
    (case z_list => as_aux_lemma => k_is)
    (case z_int => as_aux_lemma => k_is)
    (case z_abs => as_aux_lemma => k_is)
    (case z_range => as_aux_lemma => k_is)
    (case z_min => as_aux_lemma => k_is)
    (case z_repr => as_aux_lemma => k_is)
    (case z_reversed => as_aux_lemma => k_is)
    (case z_isinstance => as_aux_lemma => k_is)
    (case g_LETTERS => as_aux_lemma => exact Vk.const_s Gr.T (by first | kernel_rfl | decide +kernel))
    (case g_MAX_WORD => as_aux_lemma => exact Vk.const_i Gr.T (by first | kernel_rfl | decide +kernel))
    (case g_MAX_RUNS => as_aux_lemma => exact Vk.const_i Gr.T (by first | kernel_rfl | decide +kernel))
    (case g_MAX_TIMES => as_aux_lemma => exact Vk.const_i Gr.T (by first | kernel_rfl | decide +kernel))
#print axioms PySem.Challenge.cw_anchoredits_k86_whole_equal_however_cut_holds
