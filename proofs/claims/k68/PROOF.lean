import PyProof.Rows.All
import Wide.All
import OpenK.AllK
import Wide.FinOn
import KE.OsRunLaw
import PySem.Challenge.RW_anchoredits_k68_whole_hunks_make_the_res
import HandS.Base
import HandS.Call
import HandS.List
import HandS.Comp
import HandS.Ends
import HandS.Text
import HandS.Words
import HandS.StrMore
import HandS.ForMost
import HandS.Codes
import HandS.Replace
import HandS.FStrTup
import PyProof.StrBlock2
import HandS.Exc
import HandS.ExcInit
import HandS.ExcIs
import HandS.ExcField
import KE.KExcIs
import HandS.IsInst
import HandS.Zip
import HandS.Nested
import HandS.OwnEq
import HandS.More
import HandS.Star
import HandS.ClsMeth
import HandS.Property
import HandS.Iter
import HandS.Zip0
import KE.GoesMore
import KE.GoesEnum
import HandS.NoneIn
import PyProof.StrLawsRepr
import HandS.EndTab
import HandS.ListEq
import KE.KTryMore
import HandS.Style
import HandS.SortRule
import HandS.Conv
import PyProof.EnumMake
import KE.KRevSl
import HandS.TupAny
import HandS.DictComp
import HandS.RevRange
import HandS.ExcOwn
import PyProof.SumAny
import PyProof.Rows.SumAny
set_option Elab.async false
set_option maxRecDepth 100000
set_option linter.all false
namespace Vk
open PySem PySem.W PyProof.Rows
def Triv {P : Prop} (_ : P) : Prop := True
@[irreducible] def Al (P : Prop) : Prop := P
theorem al {P : Prop} (p : Al P) : P := by unfold Al at p; exact p
theorem drop_ {P : Prop} (p : Al P) (_ : Triv p) : P := al p
set_option maxHeartbeats 0 in
theorem hd : True :=
  haveI x : PySem.Challenge.rw_anchoredits_k68_whole_hunks_make_the_res.Holds := by
    w_on; o_law; k_headL; all_goals (apply_rules (newGoals := .nonDependentOnly) (transparency := .reducible) (maxDepth := 1) only [drop_]; exact trivial)
  trivial
end Vk
#print axioms Vk.hd
set_option Elab.async false
set_option maxRecDepth 100000
set_option linter.all false
namespace Vk
open PySem PySem.W PySem.Calls PyProof.Rows
abbrev hdR : OpenRow := OpenLaw.row PySem.Challenge.rw_anchoredits_k68_whole_hunks_make_the_res
abbrev hdP : Program := PySem.Challenge.pw_anchoredits_k68_whole_hunks_make_the_res
def hdLo : List PySem.Str := ["Edit", "Once", "First", "Perhaps", "Every", "AtOnce", "Program"]
noncomputable def hdEnd (w : World) (os : OsState) : Option SharedT := HeadRun.endF (HeadRun.stepQ (HeadRun.denQ HeadRun.tabQ) hdP w) 12422 hdP w os
noncomputable abbrev hdXt : Shared → Bool := fun s => xlAt hd.view_39 [] s && recOk (RowW.records hdR.toRowW) s
theorem hdRunL (w : World) (os : OsState) : (hdEnd w os).map (fun s => HeadRun.looksF hdP (boot_heap w.params) s.abs) = some true := by kernel_rfl
theorem hdRunS0 (w : World) (os : OsState) : (hdEnd w os).map (fun s => (HeadRun.seenQ hd.view_39 hdLo (importedModules hdP.main.body) hdXt s.abs).1) = some (openGood hd.view_39 hdLo).1 := by kernel_rfl
theorem hdRunS1 (w : World) (os : OsState) : (hdEnd w os).map (fun s => ((HeadRun.seenQ hd.view_39 hdLo (importedModules hdP.main.body) hdXt s.abs).2.1, (HeadRun.seenQ hd.view_39 hdLo (importedModules hdP.main.body) hdXt s.abs).2.2.1)) = some ((openGood hd.view_39 hdLo).2.1, (openGood hd.view_39 hdLo).2.2.1) := by kernel_rfl
theorem hdRunS2 (w : World) (os : OsState) : (hdEnd w os).map (fun s => ((HeadRun.seenQ hd.view_39 hdLo (importedModules hdP.main.body) hdXt s.abs).2.2.2.1, (HeadRun.seenQ hd.view_39 hdLo (importedModules hdP.main.body) hdXt s.abs).2.2.2.2.1, (HeadRun.seenQ hd.view_39 hdLo (importedModules hdP.main.body) hdXt s.abs).2.2.2.2.2.1, (HeadRun.seenQ hd.view_39 hdLo (importedModules hdP.main.body) hdXt s.abs).2.2.2.2.2.2.1, (HeadRun.seenQ hd.view_39 hdLo (importedModules hdP.main.body) hdXt s.abs).2.2.2.2.2.2.2.1, (HeadRun.seenQ hd.view_39 hdLo (importedModules hdP.main.body) hdXt s.abs).2.2.2.2.2.2.2.2)) = some ((openGood hd.view_39 hdLo).2.2.2.1, (openGood hd.view_39 hdLo).2.2.2.2.1, (openGood hd.view_39 hdLo).2.2.2.2.2.1, (openGood hd.view_39 hdLo).2.2.2.2.2.2.1, (openGood hd.view_39 hdLo).2.2.2.2.2.2.2.1, (openGood hd.view_39 hdLo).2.2.2.2.2.2.2.2) := by kernel_rfl
def hdAs : List Addr := [nat_lit 2, nat_lit 3, nat_lit 15, nat_lit 17, nat_lit 18, nat_lit 20, nat_lit 21, nat_lit 22, nat_lit 24, nat_lit 25, nat_lit 27, nat_lit 28, nat_lit 29, nat_lit 36, nat_lit 38, nat_lit 39, nat_lit 41, nat_lit 42, nat_lit 43, nat_lit 44, nat_lit 45, nat_lit 46, nat_lit 49, nat_lit 56, nat_lit 58, nat_lit 59, nat_lit 61, nat_lit 62, nat_lit 63, nat_lit 64, nat_lit 65, nat_lit 66, nat_lit 69, nat_lit 76, nat_lit 78, nat_lit 79, nat_lit 81, nat_lit 82, nat_lit 83, nat_lit 84, nat_lit 85, nat_lit 86, nat_lit 89, nat_lit 96, nat_lit 98, nat_lit 99, nat_lit 101, nat_lit 102, nat_lit 103, nat_lit 104, nat_lit 105, nat_lit 106, nat_lit 109, nat_lit 116, nat_lit 118, nat_lit 119, nat_lit 121, nat_lit 122, nat_lit 123, nat_lit 124, nat_lit 125, nat_lit 126, nat_lit 129, nat_lit 136, nat_lit 138, nat_lit 139, nat_lit 141, nat_lit 142, nat_lit 143, nat_lit 144, nat_lit 145, nat_lit 146, nat_lit 149, nat_lit 156, nat_lit 158, nat_lit 159, nat_lit 161, nat_lit 162, nat_lit 163, nat_lit 164, nat_lit 165, nat_lit 166, nat_lit 169, nat_lit 176, nat_lit 178, nat_lit 179, nat_lit 181, nat_lit 182, nat_lit 183, nat_lit 184, nat_lit 185, nat_lit 186, nat_lit 189, nat_lit 191, nat_lit 192, nat_lit 194, nat_lit 195, nat_lit 196, nat_lit 198, nat_lit 199, nat_lit 201, nat_lit 202, nat_lit 203, nat_lit 205, nat_lit 206, nat_lit 208, nat_lit 209, nat_lit 210, nat_lit 212, nat_lit 213, nat_lit 215, nat_lit 216, nat_lit 217, nat_lit 219, nat_lit 220, nat_lit 222, nat_lit 223, nat_lit 224, nat_lit 226, nat_lit 227, nat_lit 229, nat_lit 230, nat_lit 238, nat_lit 239, nat_lit 240, nat_lit 241, nat_lit 242, nat_lit 245, nat_lit 252, nat_lit 254, nat_lit 255, nat_lit 257, nat_lit 258, nat_lit 259, nat_lit 261, nat_lit 262, nat_lit 264, nat_lit 265, nat_lit 266, nat_lit 267, nat_lit 269, nat_lit 270, nat_lit 272, nat_lit 273, nat_lit 274, nat_lit 275, nat_lit 277, nat_lit 278, nat_lit 280, nat_lit 281, nat_lit 282, nat_lit 283, nat_lit 284, nat_lit 287, nat_lit 294, nat_lit 296, nat_lit 297, nat_lit 299, nat_lit 300, nat_lit 301, nat_lit 303, nat_lit 304, nat_lit 306, nat_lit 307, nat_lit 308, nat_lit 309, nat_lit 311, nat_lit 312, nat_lit 314, nat_lit 315, nat_lit 316, nat_lit 317, nat_lit 319, nat_lit 320, nat_lit 322, nat_lit 323, nat_lit 324, nat_lit 325, nat_lit 326, nat_lit 329, nat_lit 336, nat_lit 338, nat_lit 339, nat_lit 341, nat_lit 342, nat_lit 343, nat_lit 345, nat_lit 346, nat_lit 348, nat_lit 349, nat_lit 350, nat_lit 351, nat_lit 353, nat_lit 354, nat_lit 356, nat_lit 357, nat_lit 358, nat_lit 359, nat_lit 361, nat_lit 362, nat_lit 364, nat_lit 365, nat_lit 366, nat_lit 367, nat_lit 368, nat_lit 371, nat_lit 378, nat_lit 380, nat_lit 381, nat_lit 383, nat_lit 384, nat_lit 385, nat_lit 387, nat_lit 388, nat_lit 390, nat_lit 391, nat_lit 392, nat_lit 393, nat_lit 395, nat_lit 396, nat_lit 398, nat_lit 399, nat_lit 400, nat_lit 401, nat_lit 403, nat_lit 404, nat_lit 406, nat_lit 407, nat_lit 408, nat_lit 409, nat_lit 410, nat_lit 413, nat_lit 420, nat_lit 422, nat_lit 423, nat_lit 425, nat_lit 426, nat_lit 427, nat_lit 429, nat_lit 430, nat_lit 432, nat_lit 433, nat_lit 434, nat_lit 435, nat_lit 437, nat_lit 438, nat_lit 440, nat_lit 441, nat_lit 442, nat_lit 443, nat_lit 444, nat_lit 447, nat_lit 449, nat_lit 450, nat_lit 452, nat_lit 453, nat_lit 454, nat_lit 456, nat_lit 457, nat_lit 459, nat_lit 460, nat_lit 461, nat_lit 463, nat_lit 464, nat_lit 466, nat_lit 467, nat_lit 468, nat_lit 471, nat_lit 472, nat_lit 473, nat_lit 475, nat_lit 476, nat_lit 478, nat_lit 479, nat_lit 480, nat_lit 482, nat_lit 483, nat_lit 485, nat_lit 486, nat_lit 487, nat_lit 489, nat_lit 490, nat_lit 492, nat_lit 493, nat_lit 494, nat_lit 496, nat_lit 497, nat_lit 499, nat_lit 500, nat_lit 501, nat_lit 504, nat_lit 505, nat_lit 506, nat_lit 508, nat_lit 509, nat_lit 511, nat_lit 512, nat_lit 513, nat_lit 515, nat_lit 516, nat_lit 518, nat_lit 519, nat_lit 527, nat_lit 529, nat_lit 530, nat_lit 532, nat_lit 533, nat_lit 534, nat_lit 536, nat_lit 537, nat_lit 539, nat_lit 540, nat_lit 541, nat_lit 542, nat_lit 545, nat_lit 546, nat_lit 547, nat_lit 548, nat_lit 550, nat_lit 551, nat_lit 553, nat_lit 554, nat_lit 555, nat_lit 556, nat_lit 558, nat_lit 559, nat_lit 561, nat_lit 562, nat_lit 563, nat_lit 565, nat_lit 566, nat_lit 568, nat_lit 569, nat_lit 570, nat_lit 572, nat_lit 573, nat_lit 575, nat_lit 576, nat_lit 577, nat_lit 579, nat_lit 580, nat_lit 582, nat_lit 583, nat_lit 584, nat_lit 586, nat_lit 587, nat_lit 589, nat_lit 590, nat_lit 591, nat_lit 593, nat_lit 594, nat_lit 596, nat_lit 597, nat_lit 598, nat_lit 600, nat_lit 601, nat_lit 603, nat_lit 604, nat_lit 605, nat_lit 606, nat_lit 607, nat_lit 608, nat_lit 609, nat_lit 612, nat_lit 614, nat_lit 615, nat_lit 617, nat_lit 618, nat_lit 619, nat_lit 622, nat_lit 623, nat_lit 624, nat_lit 626, nat_lit 627, nat_lit 629, nat_lit 630, nat_lit 631, nat_lit 633, nat_lit 634, nat_lit 636, nat_lit 637, nat_lit 638, nat_lit 640, nat_lit 641, nat_lit 643, nat_lit 644, nat_lit 645, nat_lit 647, nat_lit 648, nat_lit 650, nat_lit 651, nat_lit 652, nat_lit 654, nat_lit 655, nat_lit 657, nat_lit 658, nat_lit 659, nat_lit 662, nat_lit 663, nat_lit 664, nat_lit 667, nat_lit 668, nat_lit 669, nat_lit 672, nat_lit 673, nat_lit 674, nat_lit 676, nat_lit 677, nat_lit 679, nat_lit 680, nat_lit 681, nat_lit 684, nat_lit 685, nat_lit 686, nat_lit 689, nat_lit 690, nat_lit 691, nat_lit 694, nat_lit 695, nat_lit 696, nat_lit 698, nat_lit 699, nat_lit 701, nat_lit 702, nat_lit 703, nat_lit 705, nat_lit 706, nat_lit 708, nat_lit 709, nat_lit 710, nat_lit 713, nat_lit 714, nat_lit 715, nat_lit 717, nat_lit 718, nat_lit 720, nat_lit 721, nat_lit 722, nat_lit 725, nat_lit 726]
theorem hdRunA (w : World) (os : OsState) : (hdEnd w os).map (fun s => hdAs.map (HeadRun.getT s)) = some ((hd.heap_39 w.params).map fun x => some x.2) := by kernel_rfl
theorem hdEk : ∀ P, hdAs = (hd.heap_39 P).map (·.1) := fun _ => by kernel_rfl
theorem hdRun (w : World) (os : OsState) : (HeadRun.endF (HeadRun.stepQ (HeadRun.denQ HeadRun.tabQ) hdP w) 12422 hdP w os).map (fun s => (HeadRun.looksF hdP (boot_heap w.params) s.abs, HeadRun.seenQ hd.view_39 hdLo (importedModules hdP.main.body) hdXt s.abs, hdAs.map (HeadRun.getT s))) = some (true, openGood hd.view_39 hdLo, (hd.heap_39 w.params).map fun x => some x.2) := by
  have rL := hdRunL w os
  have rA := hdRunA w os
  have r0 := hdRunS0 w os
  have r1 := hdRunS1 w os
  have r2 := hdRunS2 w os
  show (hdEnd w os).map _ = _
  generalize hdEnd w os = e at *
  cases e with
  | none => cases rL
  | some s =>
    have qL := Option.some.inj rL
    have qA := Option.some.inj rA
    have z0 := Option.some.inj r0
    have z1 := Option.some.inj r1
    have z2 := Option.some.inj r2
    have q0 := z0
    obtain ⟨q1, q2⟩ := Prod.mk.inj z1
    obtain ⟨q3, z2⟩ := Prod.mk.inj z2
    obtain ⟨q4, z2⟩ := Prod.mk.inj z2
    obtain ⟨q5, z2⟩ := Prod.mk.inj z2
    obtain ⟨q6, z2⟩ := Prod.mk.inj z2
    obtain ⟨q7, q8⟩ := Prod.mk.inj z2
    exact congrArg some (Prod.ext qL (Prod.ext (Prod.ext q0 (Prod.ext q1 (Prod.ext q2 (Prod.ext q3 (Prod.ext q4 (Prod.ext q5 (Prod.ext q6 (Prod.ext q7 q8)))))))) qA))
theorem hdLeft : LeftO hdP hd.view_39 hdLo hdXt (Hook.obs (kHook hd.heap_39 hdAs hdEk)) (Hook.val (kHook hd.heap_39 hdAs hdEk)) 13122 true :=
  HeadRun.left_oneK (M := 12422) (by kernel_rfl) (by rfl) (fun s => by kernel_rfl) (by rfl) hdRun
end Vk
set_option Elab.async false
set_option maxRecDepth 100000
set_option linter.all false
namespace Vk
open PySem PySem.Spec PyProof.Rows L2
/-! ## defs that may show values: no guard is under way -/
structure FnG (P : Program) (w : World) (K : PySem.W.Frag) (mg : Str → Option Value) (base : Heap) (CX : CXT) (k : Nat) (f : Addr) (fd : FuncData) (ps : List Str) (sp : Sp) : Prop where
  len : ∀ vs H Q E, sp vs H Q E → vs.length = ps.length
  run : ∀ (A : Around) (outer : List Env) (s : Shared) (H : Hp) (args : Args) (us : List Value) (vs : List V) (Q : VK) (E : XK), A.guards = some [] → Room k A → Env0 P w K mg base A outer s H → BindsTo s fd args (ps.zip us) → Vals vs us → sp vs H Q E →
    codeAny (model P w) A (.call (.ref f) args) (CR CX outer P w H s Q E) s
theorem FnG.of {P : Program} {w : World} {K : PySem.W.Frag} {mg : Str → Option Value} {base : Heap} {CX : CXT} {k : Nat} {f : Addr} {fd : FuncData} {ps : List Str} {sp : Sp} (F : FnOk P w K mg base CX k f fd ps sp) : FnG P w K mg base CX k f fd ps sp :=
  ⟨F.len, fun A outer s H args us vs Q E _ => F.run A outer s H args us vs Q E⟩
section
variable {P : Program} {w : World} {K : PySem.W.Frag} {mg : Str → Option Value} {base : Heap}
theorem okG {CX : CXT} {x qual : Str} {st : Stmt} {f : Addr} {fd : FuncData} {N ps : List Str} {k : Nat} {sp : Sp} (F : Fun K x qual st f fd) (S : FnScope N ps (defScope st)) (hlen : ∀ vs H Q E, sp vs H Q E → vs.length = ps.length)
    (hbody : ∀ (cdv : Value) (A : Around) (outer : List Env) (s : Shared) (H : Hp) (vs : List V) (Q : VK) (E : XK), A.guards = some [] → Room k (A.deeper (envOfC qual (defScope st) s.heap.objs.size f cdv)) → sp vs H Q E →
      ∃ t, PSs (cxOf CX P w K mg base N qual (defScope st) f cdv A outer s H E) (defBody st) t ∧ t { nx := fun _ H' => Q .non H', rt := Q } (start N vs) H) : FnG P w K mg base CX (k + 1) f fd ps sp := by
  obtain ⟨oc, od, kV, doc, pm, an, cdv, ct, osl, rfl, lk, hcd⟩ := F.ex
  refine ⟨hlen, fun A outer s H args us vs Q E hg hr e0 hb r hsp => ?_⟩
  have hvl := hlen _ _ _ _ hsp
  have KX := e0.mod.kin.keeps (fun b o e => (e0.bs b o e).1 : ∀ b o, base.get? b = some o → s.heap.get? b = some o)
  have noLim := e0.mod.nolimit.keeps (fun b o e => (e0.bs b o e).1 : ∀ b o, base.get? b = some o → s.heap.get? b = some o)
  have kinds : ∀ y ∈ ps.zip us, (defScope st).names.lookup y.1 = some .local ∨ ((defScope st).names.lookup y.1 = some .cell ∧ ((cellsFrom (s.heap.objs.size + 1) (defScope st).names []).lookup y.1).isSome = true) := by
    rintro ⟨n, v⟩ hy
    have hy1 := (List.of_mem_zip hy).1
    cases S.par n hy1 with
    | inl q => exact Or.inl q
    | inr q => exact Or.inr (And.intro q (PySem.W.cellsFrom_some _ _ _ (Or.inl q)))
  refine codeAny_call_function hr.depth (KX f _ lk) rfl S.co S.gen rfl (PySem.W.codeRec_of KX hcd) (hb _ _ _ _ (wpAny_newFunctionEnv_cells S.kind kinds fun env he s1 x => ?_))
  cases he
  refine And.intro (noLim.keeps x.toInCall.keep) (codeAny_func ?_)
  obtain ⟨t, ht, hq⟩ := hbody cdv A outer s H vs Q E hg (hr.deeper _) hsp
  have I0 := inv_start (CX := CX) (E := E) S hr.hd e0 hvl r x
  refine wpAny_mono (ht.run [] s1 (start N vs) H _ I0 hq) (fun fl s2 hs => ?_) (fun e s2 hs => hs)
  have close : ∀ {σ2 : L2.St} {H2 : Hp} {v : V} {u : Value}, Inv (cxOf CX P w K mg base N qual (defScope st) f cdv A outer s H E) [] σ2 H2 s2 → RelV v u → Q v H2 → CE outer P w H s Q u s2 := by
    intro σ2 H2 v u J rv q
    exact ⟨v, H2, And.intro J.os (And.intro J.bare (And.intro J.base (And.intro J.hok (And.intro rv q))))⟩
  match fl, hs with
  | .ret u, ⟨v, σ2, H2, J, rv, q⟩ => exact close J rv q
  | .next, ⟨σ2, H2, J, q⟩ => exact close (v := V.non) (u := Value.none) J rfl q
  | .brk, ⟨_, _, _, q⟩ => exact q.elim
  | .cont, ⟨_, _, _, q⟩ => exact q.elim
end
section
variable {P : Program} {w : World} {K : PySem.W.Frag} {mg : Str → Option Value} {base : Heap}
theorem okG0 {x qual : Str} {st : Stmt} {f : Addr} {fd : FuncData} {N ps : List Str} {k : Nat} {sp : Sp} (F : Fun K x qual st f fd) (S : FnScope N ps (defScope st)) (hlen : ∀ vs H Q E, sp vs H Q E → vs.length = ps.length)
    (hbody : ∀ (cdv : Value) (A : Around) (outer : List Env) (s : Shared) (H : Hp) (vs : List V) (Q : VK) (E : XK), A.guards = some [] → Room k (A.deeper (envOfC qual (defScope st) s.heap.objs.size f cdv)) → sp vs H Q E →
      ∃ t, PSs (cxOf CX0 P w K mg base N qual (defScope st) f cdv A outer s H E).nox (defBody st) t ∧ t { nx := fun _ H' => Q .non H', rt := Q } (start N vs) H) : FnG P w K mg base CX0 (k + 1) f fd ps sp :=
  okG F S hlen fun cdv A outer s H vs Q E hg hr hsp => match hbody cdv A outer s H vs Q E hg hr hsp with | ⟨t, h, q⟩ => ⟨t, h.nox, q⟩
end
/-- a def of the module by its name -/
structure CalG (P : Program) (w : World) (K : PySem.W.Frag) (mg : Str → Option Value) (base : Heap) (CX : CXT) (k : Nat) (x : Str) (sp : Sp) : Prop where
  ex : ∃ (f : Addr) (fd : FuncData) (ps : List Str), FnG P w K mg base CX k f fd ps sp ∧ mg x = some (.ref f) ∧ PySem.W.keepIn K (.ref f) = true ∧ Binds K fd ps []
section
variable {X : Cx} {CX : CXT} {j k : Nat} {f : Addr} {fd : FuncData} {ps : List Str} {sp : Sp} {E : XK} {x : Str} {p pos : Pos} {e : Expr} {es : List Expr} {t : TA}
theorem run_fnG {pins : List (Addr × Obj)} {σ : L2.St} {H : Hp} {s : Shared} {Q : VK} {us : List Value} {vs : List V} (F : FnG X.prog X.w X.K X.mg X.base CX k f fd ps sp) (hg : X.A.guards = some []) (hr : Room k X.A) (hb : Binds X.K fd ps []) (hx : Passes CX X E)
    (I : Inv X pins σ H s) (r : Vals vs us) (h : sp vs H Q E) : wpAny (model X.prog X.w) X.A (call (.ref f) us) (EP X pins σ Q) X.xe s := by
  have hl : us.length = ps.length := r.length.symm.trans (F.len _ _ _ _ h)
  have b := hb s us I.kIn ((congrArg List.length (List.append_nil us)).trans hl)
  rw [List.append_nil] at b
  refine wpAny_call (codeAny_mono (F.run X.A X.stack s H ⟨us, []⟩ us vs Q E hg hr I.env0 b r h) (fun res s2 hq => ?_))
  match res, hq with
  | .error e, hq => exact hx pins σ H s e s2 I hq
  | .ok (.ret u), hq => exact I.after hq
  | .ok .next, hq => exact hq.elim
  | .ok .brk, hq => exact hq.elim
  | .ok .cont, hq => exact hq.elim
theorem pe_cG (c : CalG X.prog X.w X.K X.mg X.base CX k x sp) (hg : X.A.guards = some []) (hr : Room j X.A) (hk : k ≤ j) (hx : Passes CX X E) (ha : PA X (e :: es) t) (gl : Gl X x := by rfl)
    (hdb : (x == ("__debug__" : Str)) = false := by decide) (he : starEach (e :: es) X.env = (false, eval e X.env) :: starEach es X.env := by rfl) (hpl : (backTo pos (starEach es X.env)).any (·.1) = false := by rfl) :
    PE X (.Call (.Name x p) (e :: es) [] pos) (tCall sp [] E t) := by
  obtain ⟨f, fd, ps, F, hm, kp, hb⟩ := c.ex
  refine ⟨fun pins s σ H Q I h => wpAny_Call_Name_kw (ld_glob I gl hm (PySem.W.callWith_K (h₀ := X.base) I.ok.mod.kin kp (thn (ha.run pos pins s σ H _ I h) fun us s1 hh => ?_) he hpl) hdb)⟩
  obtain ⟨vs, H1, I1, r, q⟩ := hh
  rw [List.append_nil] at q
  exact ⟨I1.kIn, run_fnG F hg (hr.mono hk) hb hx I1 r q⟩
theorem pe_cG0 (c : CalG X.prog X.w X.K X.mg X.base CX k x sp) (hg : X.A.guards = some []) (hr : Room j X.A) (hk : k ≤ j) (hx : Passes CX X E) (gl : Gl X x := by rfl)
    (hdb : (x == ("__debug__" : Str)) = false := by decide) : PE X (.Call (.Name x p) [] [] pos) (tCall sp [] E tNil) := by
  obtain ⟨f, fd, ps, F, hm, kp, hb⟩ := c.ex
  exact ⟨fun pins s σ H Q I h => wpAny_Call_Name_kw (ld_glob I gl hm (PySem.W.callWith_K0 I.kIn kp (run_fnG (us := []) F hg (hr.mono hk) hb hx I .nil h)) hdb)⟩
end
/-! ## repr -/
section
variable {X : Cx}
end
/-! ## the law's own call -/
theorem lawG {P : Program} {w : World} {K : PySem.W.Frag} {mg mb : Str → Option Value} {CX : CXT} {k : Nat} {fa a : Addr} {fd : FuncData} {x : Str} {sp : Sp} {s1 : Shared} {vs : List Value} {ns : List Int}
    (KX : K.In s1.heap) (gns : s1.heap.Ns mainGlobals mg) (bns : s1.heap.Ns builtinsNs mb) (bbt : ∀ x : Str, x ≠ "__name__" → mb x = bootBuiltins x) (nolim : s1.heap.NoLimit) (gens0 : s1.gens = #[])
    (scr : s1.heap.get? a = some { cls := .type "list", data := .seq vs.toArray }) (hints : IntsAre vs ns) (short : ns.length ≤ sizeLine) (room : Room k callerA)
    (F : ∀ base : Heap, K.In base → base.Ns mainGlobals mg → FnG P w K mg base CX k fa fd [x] sp) (bind1 : ∀ (s : Shared) (u : Value), BindsTo s fd ⟨[u], []⟩ [(x, u)])
    (prom : ∀ H : Hp, Only H → SqL K H a (ns.map V.int) → sp [.ref a] H (fun v _ => v = .bl true) fun _ _ _ => False)
    (noX : ∀ H e s2, CX [] H s1 (fun _ _ _ => False) e s2 → False) :
    codeAny (model P w) callerA (.call (.ref fa) ⟨[.ref a], []⟩) (fun r s2 => r = .ok (.ret (.bool true)) ∧ OldK s1.heap s2.heap ∧ s2.os = s1.os ∧ AllBare s2.gens) s1 := by
  have rel := vals_ints hints
  have main : ∀ H : Hp, Only H → SqL K H a (ns.map V.int) → HOk P w H s1.heap → (∀ b u, H b = some u → b = a) → (∀ u, H a = some u → K.lookup a = none) →
      codeAny (model P w) callerA (.call (.ref fa) ⟨[.ref a], []⟩) (fun r s2 => r = .ok (.ret (.bool true)) ∧ OldK s1.heap s2.heap ∧ s2.os = s1.os ∧ AllBare s2.gens) s1 := by
    intro H only seq ok at1 un1
    have dictFree : ∀ {b : Addr} {o : Obj} {es : Array DictEntry} {ep : Nat}, s1.heap.get? b = some o → o.data = .dict es ep → H b = none := by
      intro b o es ep e d
      match q : H b with
      | none => rfl
      | some u =>
        have eb := at1 b u q
        subst eb
        rw [scr] at e
        cases e
        exact nomatch (show Data.seq vs.toArray _ = Data.dict es ep from d)
    have nsAt : ∀ {b : Addr} {m : Str → Option Value}, s1.heap.Ns b m → (hidT s1.heap H).Ns b m := by
      rintro b m ⟨o, es, ep, e, d, r⟩
      exact ⟨o, es, ep, hidT_get e (dictFree e d), d, r⟩
    have inK : K.In (hidT s1.heap H) := by
      intro b o e
      refine hidT_get (KX b o e) ?_
      match q : H b with
      | none => rfl
      | some u =>
        have eb := at1 b u q
        subst eb
        exact nomatch (un1 u q).symm.trans e
    have limAt : (hidT s1.heap H).NoLimit := match nolim with | ⟨mc, h1, h2⟩ => ⟨mc, nsAt h1, h2⟩
    have mod1 : Mod K mg (hidT s1.heap H) := ⟨inK, nsAt gns, ⟨mb, nsAt bns, bbt⟩, limAt⟩
    have start0 : Env0 P w K mg (hidT s1.heap H) callerA [] s1 H := ⟨rfl, mod1, fun b o => of_hidT, Nat.le_of_eq (hidT_size s1.heap H), trivial, (fun b hb => absurd hb (List.not_mem_nil (a := b))), ok, AllBare.of_eq gens0⟩
    refine codeAny_mono ((F _ inK (nsAt gns)).run callerA [] s1 H ⟨[.ref a], []⟩ [.ref a] [.ref a] _ _ rfl room start0 (bind1 s1 (.ref a)) (.cons rfl .nil) (prom H only seq)) ?_
    intro res s2 h
    match res, h with
    | .error e, h => exact (noX H e s2 h).elim
    | .ok .next, h => exact h.elim
    | .ok .brk, h => exact h.elim
    | .ok .cont, h => exact h.elim
    | .ok (.ret u), ⟨v, H2, os, bare, un, ok2, r2, (hv : v = .bl true)⟩ =>
      cases hv
      have hu : u = Value.bool true := r2
      cases hu
      refine ⟨rfl, OldK.of_keep ?_, os, bare⟩
      intro b o e
      match q : H b with
      | none => exact un.keep b o e q (fun z => nomatch z) (fun z => nomatch z)
      | some u =>
        cases only b with
        | inl z => exact nomatch z.symm.trans q
        | inr z =>
          obtain ⟨ob, xs, z⟩ := z
          have c1 := (ok b _ z).1
          have c2 := (ok2 b _ (un.frzs b ob _ z)).1
          exact c2.trans (c1.symm.trans e)
  match hk : K.lookup a with
  | some o =>
    have e := (KX a o hk).symm.trans scr
    cases e
    refine main (fun _ => none) (fun _ => Or.inl rfl) (Or.inr ⟨_, vs.toArray, _, hk, rfl, rfl, rfl, ?_, ?_⟩) (fun b u z => nomatch (show (none : Option HO) = some u from z)) (fun b u z => nomatch (show (none : Option HO) = some u from z)) (fun u z => nomatch (show (none : Option HO) = some u from z))
    · rw [List.size_toArray, hints.length]
      exact short
    · simpa using rel
  | none =>
    refine main (fun b => if b = a then some (.frz { cls := .type "list", data := .seq vs.toArray } (.lst (ns.map V.int))) else none) ?_ (Or.inl (Or.inr ⟨_, if_pos rfl⟩)) ?_ ?_ (fun _ _ => hk)
    · intro b
      by_cases hb : b = a
      · exact Or.inr ⟨_, _, if_pos hb⟩
      · exact Or.inl (if_neg hb)
    · intro b u z
      by_cases hb : b = a
      · subst hb
        have z1 := (if_pos rfl).symm.trans z
        cases z1
        exact ⟨scr, (by rw [List.length_map]; exact short), vs, _, rel, scr⟩
      · exact nomatch (if_neg hb).symm.trans z
    · intro b u z
      by_cases hb : b = a
      · exact hb
      · exact nomatch (if_neg hb).symm.trans z
end Vk
set_option Elab.async false
set_option maxRecDepth 100000
set_option linter.all false
namespace Vk
open PySem PySem.Spec PyProof.Rows L2
/-! ## what stays -/
/-- all that was tracked stays, but what stands at p -/
def Ext (p : Addr) (H H' : Hp) : Prop := ∀ b o, H b = some o → b ≠ p → H' b = some o
theorem Ext.rfl {p : Addr} {H : Hp} : Ext p H H := fun _ _ h _ => h
theorem Ext.trans {p : Addr} {H H1 H2 : Hp} (a : Ext p H H1) (b : Ext p H1 H2) : Ext p H H2 := fun c o h n => b c o (a c o h n) n
theorem Ext.same {p : Addr} {H H1 : Hp} (a : Same H H1) : Ext p H H1 := fun c o h _ => a c o h
theorem Ext.at {p : Addr} {H : Hp} {o : HO} : Ext p H (upd H p o) := fun c u h n => (upd_ne n).trans h
theorem same_new {H : Hp} {a : Addr} {o : HO} (h : H a = none) : Same H (upd H a o) := fun c u e => (upd_ne (ne_of_none e h)).trans e
theorem Ext.new {p a : Addr} {H : Hp} {o : HO} (h : H a = none) : Ext p H (upd H a o) := .same (same_new h)
theorem Ext.set {p a : Addr} {H H1 : Hp} {o : HO} (x : Ext p H H1) (h : H a = none) : Ext p H (upd H1 a o) := fun c u e n => (upd_ne (ne_of_none e h)).trans (x c u e n)
theorem Ext.none_of {p a : Addr} {H H1 : Hp} (x : Ext p H H1) (hp : a ≠ p) (h : H1 a = none) : H a = none := by
  match q : H a with
  | none => rfl
  | some o => exact nomatch (x a o q hp).symm.trans h
theorem up_new {H : Hp} {a b : Addr} {o u : HO} (h : H a = some o) (hb : H b = none) : upd H b u a = some o := same_new hb a o h
/-! ## the pen -/
def penL (c : Addr) (t l : Int) : List (Key × V) := [(.inr "cells", .ref c), (.inr "turn", .int t), (.inr "left", .int l)]
theorem k_ct : ¬ ((Str.ofString "cells") = Str.ofString "turn") := by decide +kernel
theorem k_cl : ¬ ((Str.ofString "cells") = Str.ofString "left") := by decide +kernel
theorem k_tl : ¬ ((Str.ofString "turn") = Str.ofString "left") := by decide +kernel
theorem k_lt : ¬ ((Str.ofString "left") = Str.ofString "turn") := by decide +kernel
theorem pen_cells (c : Addr) (t l : Int) : valV (penL c t l) (Sum.inr "cells" : Key) = some (.ref c) := valV_pos rfl
theorem pen_turn (c : Addr) (t l : Int) : valV (penL c t l) (Sum.inr "turn" : Key) = some (.int t) := (valV_neg (fun e => k_ct (Sum.inr.inj e))).trans (valV_pos rfl)
theorem pen_left (c : Addr) (t l : Int) : valV (penL c t l) (Sum.inr "left" : Key) = some (.int l) := (valV_neg (fun e => k_cl (Sum.inr.inj e))).trans ((valV_neg (fun e => k_tl (Sum.inr.inj e))).trans (valV_pos rfl))
theorem pen_put_turn (c : Addr) (t l u : Int) : putK (penL c t l) (Sum.inr "turn" : Key) (.int u) = penL c u l := by
  unfold putK
  rw [valV_any, pen_turn]
  simp [penL, k_ct, k_lt]
theorem pen_put_left (c : Addr) (t l u : Int) : putK (penL c t l) (Sum.inr "left" : Key) (.int u) = penL c t u := by
  unfold putK
  rw [valV_any, pen_left]
  simp [penL, k_cl, k_tl]
theorem pen_made (c : Addr) (t l : Int) : mergeK [] (penL c t l) = penL c t l := by
  simp [mergeK, penL, putK, k_ct, k_cl, k_tl]
structure Pen (H : Hp) (p c : Addr) (T : Nat) : Prop where
  ex : ∃ (ns : List Int) (t l : Int), H p = some (.dK (penL c t l)) ∧ H c = some (.lst (ns.map V.int)) ∧ ns.length ≤ 63 ∧ 0 ≤ t ∧ t ≤ T ∧ 0 ≤ l
section
variable {H H1 : Hp} {p c a : Addr} {T U : Nat} {o : HO} {xs : List V}
theorem Pen.mono (x : Pen H p c T) (h : T ≤ U) : Pen H p c U := by
  obtain ⟨ns, t, l, h1, h2, h3, h4, h5, h6⟩ := x.ex
  exact ⟨ns, t, l, h1, h2, h3, h4, by omega, h6⟩
theorem Pen.stay (x : Pen H p c T) (s : Same H H1) : Pen H1 p c T := by
  obtain ⟨ns, t, l, h1, h2, r⟩ := x.ex
  exact ⟨ns, t, l, s _ _ h1, s _ _ h2, r⟩
theorem Pen.new (x : Pen H p c T) (h : H a = none) : Pen (upd H a o) p c T := x.stay (same_new h)
theorem Pen.is (x : Pen H p c T) : ∃ t l, H p = some (.dK (penL c t l)) := by
  obtain ⟨ns, t, l, h1, _⟩ := x.ex
  exact ⟨t, l, h1⟩
theorem Pen.ne (x : Pen H p c T) (h : H a = some (.lst xs)) : a ≠ p := by
  obtain ⟨t, l, h1⟩ := x.is
  exact ne_of h h1 (by intro z; cases z)
/-- another thing is changed -/
theorem Pen.set (x : Pen H p c T) (h1 : a ≠ p) (h2 : a ≠ c) : Pen (upd H a o) p c T := by
  obtain ⟨ns, t, l, g1, g2, r⟩ := x.ex
  exact ⟨ns, t, l, (upd_ne h1.symm).trans g1, (upd_ne h2.symm).trans g2, r⟩
/-- a thing that was not there when the pen stood is neither the pen nor its cells -/
theorem Pen.apart (x : Pen H p c T) (h : H a = none) : a ≠ p ∧ a ≠ c := by
  obtain ⟨ns, t, l, g1, g2, r⟩ := x.ex
  exact ⟨(ne_of_none g1 h).symm, (ne_of_none g2 h).symm⟩
end
/-- draw's promise -/
def spDraw : Sp := fun vs H Q _ => ∃ (p c : Addr) (m : Int) (T : Nat), vs = [.ref p, .int m] ∧ 0 < m ∧ m < 1073741824 ∧ Pen H p c T ∧ T < 1000000000 ∧
  ∀ (d : Int) (H' : Hp), 0 ≤ d → d < m → Pen H' p c (T + 1) → Ext p H H' → Q (.int d) H'
def spPen (K : PySem.W.Frag) : Sp := fun vs H Q _ => ∃ (a : Addr) (ns : List Int), vs = [.ref a] ∧ SqL K H a (ns.map V.int) ∧
  ∀ (p c : Addr) (H' : Hp), H p = none → Pen H' p c 0 → Same H H' → Q (.ref p) H'
/-! ## draws' small facts -/
theorem ints_dp {K : PySem.W.Frag} {H : Hp} : ∀ ns : List Int, DpAll K H (ns.map V.int) (ns.map PyData.int)
  | [] => .nil
  | n :: ns => .cons (.int n) (ints_dp ns)
theorem ints_canLay : ∀ ns : List Int, PyData.canLayAll0 (ns.map PyData.int) = true
  | [] => rfl
  | n :: ns => by
    show (PyData.canLay0 (.int n) && PyData.canLayAll0 (ns.map PyData.int)) = true
    rw [ints_canLay ns]
    rfl
theorem ints_depth : ∀ ns : List Int, PyData.depthAll (ns.map PyData.int) = 0
  | [] => rfl
  | n :: ns => by
    show max (PyData.depth (.int n)) (PyData.depthAll (ns.map PyData.int)) = 0
    rw [ints_depth ns]
    rfl
theorem ints_shaped (ns : List Int) : SeqAt.shaped (.list (ns.map PyData.int)) = true := by
  have h1 : PyData.canLay0 (.list (ns.map PyData.int)) = true := ints_canLay ns
  have h2 : PyData.depth (.list (ns.map PyData.int)) = 1 := by
    show PyData.depthAll (ns.map PyData.int) + 1 = 1
    rw [ints_depth]
  unfold SeqAt.shaped
  rw [h1, h2]
  rfl
theorem ints_ne_nil (ns : List Int) : PyData.eqv (.list (ns.map PyData.int)) (.list []) = ns.isEmpty := by
  match ns with
  | [] => rfl
  | n :: r => rfl
theorem get_left {H : Hp} {p c : Addr} {t l : Int} (h : H p = some (.dK (penL c t l))) : DGet H p (.str "left") (some (.int l)) := pen_left c t l ▸ DGet.k (k := Sum.inr "left") h
theorem get_turn {H : Hp} {p c : Addr} {t l : Int} (h : H p = some (.dK (penL c t l))) : DGet H p (.str "turn") (some (.int t)) := pen_turn c t l ▸ DGet.k (k := Sum.inr "turn") h
theorem get_cells {H : Hp} {p c : Addr} {t l : Int} (h : H p = some (.dK (penL c t l))) : DGet H p (.str "cells") (some (.ref c)) := pen_cells c t l ▸ DGet.k (k := Sum.inr "cells") h
theorem put_left {H : Hp} {p c : Addr} {t l u : Int} (h : H p = some (.dK (penL c t l))) : DPut H p (.str "left") (.int u) (upd H p (.dK (penL c t u))) := pen_put_left c t l u ▸ DPut.k (k := Sum.inr "left") h (by show 3 < sizeLine; decide)
theorem put_turn {H : Hp} {p c : Addr} {t l u : Int} (h : H p = some (.dK (penL c t l))) : DPut H p (.str "turn") (.int u) (upd H p (.dK (penL c u l))) := pen_put_turn c t l u ▸ DPut.k (k := Sum.inr "turn") h (by show 3 < sizeLine; decide)
theorem at_mod {α : Type} {xs : List α} {i : Int} (h0 : 0 ≤ i) (h : i < (xs.length : Int)) : ∃ v, atI xs i = some v ∧ v ∈ xs := by
  have hj : i.toNat < xs.length := by omega
  refine ⟨xs[i.toNat], ?_, List.getElem_mem hj⟩
  have e : i = (i.toNat : Int) := by omega
  have q := atI_nat (List.getElem?_eq_getElem hj)
  rw [← e] at q
  exact q
def primes : List Int := [2147483629, 2147483647, 2147483587, 2147483563, 2147483579]
theorem primes_in {v : V} (h : v ∈ primes.map V.int) : ∃ i : Int, v = .int i ∧ 0 < i ∧ i < 2147483648 := by
  obtain ⟨i, hi, e⟩ := List.mem_map.mp h
  refine ⟨i, e.symm, ?_⟩
  have q : ∀ j ∈ primes, 0 < j ∧ j < 2147483648 := by decide
  exact q i hi
end Vk
set_option Elab.async false
set_option maxRecDepth 100000
set_option linter.all false
namespace Vk
open PySem PySem.Spec PyProof.Rows L2
/-! ## a def that returns one written text, and a replace of what it returns (a token is out behind it) -/
structure FnT (P : Program) (w : World) (K : PySem.W.Frag) (mg : Str → Option Value) (base : Heap) (k : Nat) (x : Str) (z : Str) : Prop where
  ex : ∃ f : Addr, mg x = some (.ref f) ∧ PySem.W.keepIn K (.ref f) = true ∧ ∀ (A : Around) (outer : List Env) (s : Shared) (H : Hp) (Q : VK), Room k A → Env0 P w K mg base A outer s H → Q (.str z) H →
    codeAny (model P w) A (.call (.ref f) ⟨[], []⟩) (fun r s2 => 1 ≤ s2.toks ∧ CR CX0 outer P w H s Q E0 r s2) s
section
variable {P : Program} {w : World} {K : PySem.W.Frag} {mg : Str → Option Value} {base : Heap}
theorem okT {x : Str} {st : Stmt} {f : Addr} {fd : FuncData} {z : Str} {j : Nat} {p1 p2 : Pos} (F : Fun K x x st f fd) (S : FnScope [] [] (defScope st)) (hm : mg x = some (.ref f)) (hb : Binds K fd [] [])
    (body : defBody st = [.Return (some (.Constant (.str z) j p1)) p2]) : FnT P w K mg base 1 x z := by
  refine ⟨f, hm, F.kp, ?_⟩
  obtain ⟨oc, od, kV, doc, pm, an, cdv, ct, osl, rfl, lk, hcd⟩ := F.ex
  intro A outer s H Q hr e0 hsp
  have KX := e0.mod.kin.keeps (fun b o e => (e0.bs b o e).1 : ∀ b o, base.get? b = some o → s.heap.get? b = some o)
  have noLim := e0.mod.nolimit.keeps (fun b o e => (e0.bs b o e).1 : ∀ b o, base.get? b = some o → s.heap.get? b = some o)
  refine codeAny_call_function hr.depth (KX f _ lk) rfl S.co S.gen rfl (PySem.W.codeRec_of KX hcd) (hb s [] KX rfl _ _ _ _ (wpAny_newFunctionEnv_cells S.kind (fun y hy => absurd hy (List.not_mem_nil (a := y))) fun env he s1 x0 => ?_))
  cases he
  refine And.intro (noLim.keeps x0.toInCall.keep) (codeAny_func ?_)
  have I0 := inv_start (P := P) (CX := CX0) (E := E0) (us := []) (vs := []) S hr.hd e0 rfl .nil x0
  show wpAny _ _ (execs (defBody st) _) _ _ s1
  rw [body]
  refine wpAny_execs_cons (wpAny_Return_some (Calls.Constant_str ?_))
  exact ⟨Nat.succ_pos _, .str z, H, I0.os, I0.bare, (I0.tok (s1.toks + 1)).base, (I0.tok (s1.toks + 1)).hok, ⟨_, rfl⟩, hsp⟩
end
section
variable {X : Cx} {j k : Nat} {x z y v : Str} {q q2 apos pos c0 c1 : Pos} {j0 j1 : Nat}
theorem pe_replT (c : FnT X.prog X.w X.K X.mg X.base k x z) (hr : Room j X.A) (hk : k ≤ j) (hz : z.length + (z.length + 1) * v.length ≤ 16777216) (hyz : (y == v) = false) (gl : Gl X x := by rfl) (hdb : (x == ("__debug__" : Str)) = false := by decide)
    (hst : starEach [.Constant (.str y) j0 c0, .Constant (.str v) j1 c1] X.env = [(false, eval (.Constant (.str y) j0 c0) X.env), (false, eval (.Constant (.str v) j1 c1) X.env)] := by rfl)
    (hbase : attributeBase (.Call (.Name x q) [] [] q2) "replace" X.env (eval (.Call (.Name x q) [] [] q2) X.env) = eval (.Call (.Name x q) [] [] q2) X.env := by rfl) (hline : (apos.endLine == pos.line) = true := by rfl) :
    PE X (.Call (.Attribute (.Call (.Name x q) [] [] q2) "replace" apos) [.Constant (.str y) j0 c0, .Constant (.str v) j1 c1] [] pos) (fun σ H Q => Q (.str (Txt.replace z y v)) H) := by
  obtain ⟨f, hm, kp, run⟩ := c.ex
  refine ⟨fun pins s σ H Q I h => PySem.Call_method2 (Q := EP X pins σ Q) hbase hst hline (wpAny_mono (Q := fun u s1 => 1 ≤ s1.toks ∧ EP X pins σ (fun w H1 => w = .str z ∧ H1 = H) u s1) ?_ ?_ (fun _ _ e => e))⟩
  · refine wpAny_Call_Name_kw (ld_glob I gl hm (PySem.W.callWith_K0 I.kIn kp (wpAny_call (codeAny_mono (run X.A X.stack s H (fun w H1 => w = .str z ∧ H1 = H) (hr.mono hk) I.env0 ⟨rfl, rfl⟩) fun res s2 hq => ?_))) hdb)
    match res, hq with
    | .error e, hq => exact hq.2.elim
    | .ok (.ret u), hq => exact ⟨hq.1, I.after hq.2⟩
    | .ok .next, hq => exact hq.2.elim
    | .ok .brk, hq => exact hq.2.elim
    | .ok .cont, hq => exact hq.2.elim
  · rintro u s1 ⟨ht, w, H1, I1, r1, rfl, rfl⟩
    obtain ⟨tx, rfl⟩ := r1
    refine ⟨"str", _, PySem.F.plainAttrs_str, PySem.F.slot_str_replace, PySem.F.type_str_replace, typeIs_str _ _ _, (fun _ e => nomatch e), Calls.callWith_builtin rfl (Calls.evalArgs_plain (Calls.spliced_cons (Calls.Constant_str (Calls.spliced_cons (Calls.Constant_str (Calls.spliced_nil ?_))))))⟩
    exact PySem.SC.replace (Nat.ne_of_gt ht) (Nat.succ_ne_zero _) (by show s1.toks ≠ s1.toks + 1; omega) hyz hz fun t' kk => ⟨V.str _, _, I1.tok kk, ⟨t', rfl⟩, h⟩
end
/-! ## options to pick from -/
def OneS (c : Nat) : V := .str ⟨#[c]⟩
inductive Opts (K : PySem.W.Frag) (H : Hp) : V → List V → Prop
  | str (z : Str) (h : z.length ≤ 1000) : Opts K H (.str z) (z.cps.toList.map OneS)
  | lst {a : Addr} {xs : List V} (h : SqL K H a xs) : Opts K H (.ref a) xs
  | tup {a : Addr} {xs : List V} (h : SqT K H a xs) : Opts K H (.ref a) xs
theorem Ext.sqL {K : PySem.W.Frag} {p a : Addr} {H H1 : Hp} {xs : List V} {kvs : List (Key × V)} (x : Ext p H H1) (hp : H p = some (.dK kvs)) (h : SqL K H a xs) : SqL K H1 a xs := by
  match h with
  | .inl (.inl e) => exact .inl (.inl (x _ _ e (ne_of e hp (by intro z; cases z))))
  | .inl (.inr ⟨o, e⟩) => exact .inl (.inr ⟨o, x _ _ e (ne_of e hp (by intro z; cases z))⟩)
  | .inr e => exact .inr e
theorem Ext.sqT {K : PySem.W.Frag} {p a : Addr} {H H1 : Hp} {xs : List V} {kvs : List (Key × V)} (x : Ext p H H1) (hp : H p = some (.dK kvs)) (h : SqT K H a xs) : SqT K H1 a xs := by
  match h with
  | .inl (.inl e) => exact .inl (.inl (x _ _ e (ne_of e hp (by intro z; cases z))))
  | .inl (.inr ⟨o, e⟩) => exact .inl (.inr ⟨o, x _ _ e (ne_of e hp (by intro z; cases z))⟩)
  | .inr e => exact .inr e
theorem Ext.is {p a : Addr} {H H1 : Hp} {xs : List V} {kvs : List (Key × V)} (x : Ext p H H1) (hp : H p = some (.dK kvs)) (h : H a = some (.lst xs)) : H1 a = some (.lst xs) := x _ _ h (ne_of h hp (by intro z; cases z))
theorem Ext.isT {p a : Addr} {H H1 : Hp} {xs : List V} {kvs : List (Key × V)} (x : Ext p H H1) (hp : H p = some (.dK kvs)) (h : H a = some (.tup xs)) : H1 a = some (.tup xs) := x _ _ h (ne_of h hp (by intro z; cases z))
theorem Pen.keepL {K : PySem.W.Frag} {p c a : Addr} {T : Nat} {H H1 : Hp} {xs : List V} (q : Pen H p c T) (x : Ext p H H1) (h : SqL K H a xs) : SqL K H1 a xs := by
  obtain ⟨t, l, hp⟩ := q.is
  exact x.sqL hp h
theorem Pen.keepT {K : PySem.W.Frag} {p c a : Addr} {T : Nat} {H H1 : Hp} {xs : List V} (q : Pen H p c T) (x : Ext p H H1) (h : SqT K H a xs) : SqT K H1 a xs := by
  obtain ⟨t, l, hp⟩ := q.is
  exact x.sqT hp h
theorem Pen.keepI {p c a : Addr} {T : Nat} {H H1 : Hp} {xs : List V} (q : Pen H p c T) (x : Ext p H H1) (h : H a = some (.lst xs)) : H1 a = some (.lst xs) := by
  obtain ⟨t, l, hp⟩ := q.is
  exact x.is hp h
def spPick (K : PySem.W.Frag) : Sp := fun vs H Q _ => ∃ (p c : Addr) (o : V) (xs : List V) (T : Nat), vs = [.ref p, o] ∧ Opts K H o xs ∧ xs ≠ [] ∧ xs.length ≤ 1000 ∧ Pen H p c T ∧ T < 1000000000 ∧
  ∀ (v : V) (H' : Hp), v ∈ xs → Pen H' p c (T + 1) → Ext p H H' → Q v H'
def letS : Str := "\n !\"#$&'()*+,-./0123456789:;<=>?@ABCDEFGHIJKLMNOPQRSTUVWXYZ[\\]^_`abcdefghijklmnopqrstuvwxyz{|}~"
def spSigns : Sp := fun vs H Q _ => vs = [] ∧ Q (.str letS) H
/-- what few gives: one to three letters -/
def Few (z : Str) : Prop := 1 ≤ z.length ∧ z.length ≤ 3 ∧ ∀ c ∈ z.cps.toList, c ∈ letS.cps.toList
def spFew : Sp := fun vs H Q _ => ∃ (p c : Addr) (T : Nat), vs = [.ref p] ∧ Pen H p c T ∧ T + 4 < 1000000000 ∧ ∀ (z : Str) (H' : Hp), Few z → Pen H' p c (T + 4) → Ext p H H' → Q (.str z) H'
/-- a word of the letters of z, a to b of them -/
def Word (z : Str) (a b : Nat) (x : Str) : Prop := a ≤ x.length ∧ x.length ≤ b ∧ ∀ c ∈ x.cps.toList, c ∈ z.cps.toList
def spWord : Sp := fun vs H Q _ => ∃ (p c : Addr) (z : Str) (a b T : Nat), vs = [.ref p, .str z, .int a, .int b] ∧ a ≤ b ∧ b ≤ 100 ∧ 1 ≤ z.length ∧ z.length ≤ 1000 ∧ Pen H p c T ∧ T + 200 < 1000000000 ∧
  ∀ (x : Str) (H' : Hp), Word z a b x → Pen H' p c (T + b + 1) → Ext p H H' → Q (.str x) H'
theorem cut63 (ns : List Int) : ∃ ms : List Int, cutV (ns.map V.int) none (some 63) = ms.map V.int ∧ ms.length ≤ 63 := by
  refine ⟨ns.take 63, ?_, List.length_take_le _ _⟩
  unfold cutV
  rw [HT.sIx_none, show (63 : Int) = ((63 : Nat) : Int) from rfl, HT.sIx_nat, List.drop_zero, Nat.sub_zero, List.map_take, Nat.min_comm, ← List.take_take]
  exact List.take_of_length_le (by rw [List.length_take]; omega)
theorem one_len (z : Str) : (z.cps.toList.map OneS).length = z.length := by
  rw [List.length_map]
  exact Array.length_toList
theorem join_nil : ∀ ls : List (List Nat), TL.joinL [] ls = ls.flatten
  | [] => rfl
  | [p] => by simp [TL.joinL]
  | p :: q :: r => by
    show p ++ ([] ++ TL.joinL [] (q :: r)) = _
    rw [List.nil_append, join_nil (q :: r)]
    rfl
theorem join_ones (cs : List Nat) : Txt.join "" (cs.map fun c => (⟨#[c]⟩ : Str)) = ⟨cs.toArray⟩ := by
  rw [TL.join_eq]
  refine TL.ext_tl ?_
  rw [TL.tl_join]
  refine (join_nil _).trans ?_
  show (List.map TL.tl (cs.map fun c => (⟨#[c]⟩ : Str))).flatten = cs
  rw [List.map_map]
  induction cs with
  | nil => rfl
  | cons c r ih => exact congrArg (c :: ·) ih
theorem ones_len (cs : List Nat) : ((cs.map fun c => (⟨#[c]⟩ : Str)).map (·.length)).sum = cs.length := by
  induction cs with
  | nil => rfl
  | cons c r ih =>
    rw [List.map_cons, List.map_cons, List.sum_cons, ih, List.length_cons]
    show 1 + r.length = r.length + 1
    omega
theorem ones_map (cs : List Nat) : (cs.map fun c => (⟨#[c]⟩ : Str)).map V.str = cs.map OneS := List.map_map
theorem noq_list : (Txt.replace letS "q" "").cps.toList = letS.cps.toList.filter (· != 113) := replace_strikes letS 113
theorem noq_len : (Txt.replace letS "q" "").length = 94 := by
  rw [show (Txt.replace letS "q" "").length = (Txt.replace letS "q" "").cps.toList.length from Array.length_toList.symm, noq_list]
  decide +kernel
theorem noq_in {c : Nat} (h : c ∈ (Txt.replace letS "q" "").cps.toList) : c ∈ letS.cps.toList := by
  rw [noq_list] at h
  exact (List.mem_filter.mp h).1
theorem ones_of {z : Str} {v : V} (h : v ∈ z.cps.toList.map OneS) : ∃ c, v = OneS c ∧ c ∈ z.cps.toList := by
  obtain ⟨c, hc, e⟩ := List.mem_map.mp h
  exact ⟨c, e.symm, hc⟩
theorem opts_ne {z : Str} (h : 1 ≤ z.length) : z.cps.toList.map OneS ≠ [] := fun e => by
  have q := one_len z
  rw [e] at q
  simp at q
  omega
theorem opts_le {z : Str} {n : Nat} (h : z.length ≤ n) : (z.cps.toList.map OneS).length ≤ n := by
  rw [one_len]
  exact h
/-- the fixed choices of few are few -/
theorem few_of {z : Str} (h : (decide (1 ≤ z.length) && decide (z.length ≤ 3) && z.cps.toList.all fun c => decide (c ∈ letS.cps.toList)) = true) : Few z := by
  simp only [Bool.and_eq_true, decide_eq_true_eq, List.all_eq_true] at h
  exact ⟨h.1.1, h.1.2, h.2⟩
theorem few_ones {cs : List Nat} (h1 : 1 ≤ cs.length) (h3 : cs.length ≤ 3) (h : ∀ c ∈ cs, c ∈ letS.cps.toList) : Few ⟨cs.toArray⟩ := ⟨by simpa [Str.length] using h1, by simpa [Str.length] using h3, by simpa using h⟩
/-! ## rules whose written part is named (within a comprehension's block) -/
section
variable {X : Cx} {K : PySem.W.Frag}
theorem ix_seqK (h : X.K = K) : IxR X (rIx K) := h ▸ ix_seq
theorem op_notIn_seqK (h : X.K = K) : OpR X (compareOp .NotIn) (rIn K true) := h ▸ op_notIn_seq
theorem sl_listK (h : X.K = K) : SlR X (rSlL K) := h ▸ sl_list
theorem call_lenK (h : X.K = K) : CallR X (.builtin "len") (fun xs H Q => ∃ x n, xs = [x] ∧ LenV K x H n ∧ Q (.int n) H) := h ▸ call_len
end
theorem cutV_mem {xs : List V} {lo hi : Option Int} {v : V} (h : v ∈ cutV xs lo hi) : v ∈ xs := List.mem_of_mem_drop (List.mem_of_mem_take h)
theorem cutV_all {xs : List V} {lo hi : Option Int} {f : V → Bool} (h : xs.all f = true) : (cutV xs lo hi).all f = true := List.all_eq_true.mpr fun v hv => List.all_eq_true.mp h v (cutV_mem hv)
theorem ones_flat (cs : List Nat) : (cs.map OneS).all flatV = true := List.all_eq_true.mpr fun v hv => by
  obtain ⟨c, _, rfl⟩ := List.mem_map.mp hv
  rfl
theorem cutV_zero (xs : List V) : cutV xs none (some 0) = [] := by
  unfold cutV
  rw [HT.sIx_none, show (0 : Int) = ((0 : Nat) : Int) from rfl, HT.sIx_nat]
  simp
theorem one_mem {cs : List Nat} {v : V} (h : v ∈ cs.map OneS) : ∃ c, v = OneS c ∧ c ∈ cs := by
  obtain ⟨c, hc, e⟩ := List.mem_map.mp h
  exact ⟨c, e.symm, hc⟩
end Vk
set_option Elab.async false
set_option maxRecDepth 100000
set_option linter.all false
namespace Vk
open PySem PySem.Spec PyProof.Rows L2
/-! ## how long what is shown may be -/
theorem listText_le : ∀ ts : List Str, (listText ts).length ≤ piled ts + 2
  | [] => by decide +kernel
  | t :: r => by
    have h := textFrom_length_pos r 1 (("[" : Str) ++ (if (0 : Nat) > 0 then ", " else "" : String) ++ t) (Nat.succ_pos 0)
    have e : (listText (t :: r)).length = (textFrom 1 (("[" : Str) ++ (if (0 : Nat) > 0 then ", " else "" : String) ++ t) r).length + 1 := strLen_append _ _
    rw [e, h, strLen_append, strLen_append, piled_cons]
    show 1 + 0 + t.length + piled r + 1 ≤ _
    omega
theorem piled_le {ts : List Str} {n : Nat} (h : ∀ t ∈ ts, t.length ≤ n) : piled ts ≤ ts.length * (n + 2) := by
  induction ts with
  | nil => exact Nat.zero_le _
  | cons t r ih =>
    have h1 := h t List.mem_cons_self
    have h2 := ih fun u hu => h u (List.mem_cons_of_mem _ hu)
    rw [piled_cons, List.length_cons, Nat.succ_mul]
    omega
theorem shownAll_map : ∀ ds : List PyData, PyData.shownAll ds = ds.map PyData.shown
  | [] => rfl
  | d :: r => congrArg (d.shown :: ·) (shownAll_map r)
theorem showableAll_iff : ∀ {ds : List PyData}, (∀ d ∈ ds, d.showable = true) → PyData.showableAll ds = true
  | [], _ => rfl
  | d :: r, h => by
    show (d.showable && PyData.showableAll r) = true
    rw [h d List.mem_cons_self, showableAll_iff fun e he => h e (List.mem_cons_of_mem _ he)]
    rfl
theorem hasDictAll_of : ∀ {ds : List PyData}, (∀ d ∈ ds, d.hasDict = false) → PyData.hasDictAll ds = false
  | [], _ => rfl
  | d :: r, h => by
    show (d.hasDict || PyData.hasDictAll r) = false
    rw [h d List.mem_cons_self, hasDictAll_of fun e he => h e (List.mem_cons_of_mem _ he)]
    rfl
theorem depthAll_le : ∀ {ds : List PyData} {n : Nat}, (∀ d ∈ ds, d.depth ≤ n) → PyData.depthAll ds ≤ n
  | [], _, _ => Nat.zero_le _
  | d :: r, n, h => Nat.max_le.mpr ⟨h d List.mem_cons_self, depthAll_le fun e he => h e (List.mem_cons_of_mem _ he)⟩
/-- d may be shown, in at most n signs, at most k deep -/
structure Showy (d : PyData) (k n : Nat) : Prop where
  sh : d.showable = true
  nd : d.hasDict = false
  dp : d.depth ≤ k
  ln : d.shown.length ≤ n
theorem Showy.list {ds : List PyData} {k n : Nat} (h : ∀ d ∈ ds, Showy d k n) : Showy (.list ds) (k + 1) (ds.length * (n + 2) + 2) := by
  refine ⟨showableAll_iff fun d hd => (h d hd).sh, hasDictAll_of fun d hd => (h d hd).nd, Nat.succ_le_succ (depthAll_le fun d hd => (h d hd).dp), ?_⟩
  show (listText (PyData.shownAll ds)).length ≤ _
  rw [shownAll_map]
  have h1 := listText_le (ds.map PyData.shown)
  have h2 := piled_le (ts := ds.map PyData.shown) (n := n) fun t ht => by
    obtain ⟨d, hd, rfl⟩ := List.mem_map.mp ht
    exact (h d hd).ln
  rw [List.length_map] at h2
  omega
theorem Showy.tuple {ds : List PyData} {k n : Nat} (h : ∀ d ∈ ds, Showy d k n) : Showy (.tuple ds) (k + 1) (ds.length * (n + 2) + 2) := by
  refine ⟨showableAll_iff fun d hd => (h d hd).sh, hasDictAll_of fun d hd => (h d hd).nd, Nat.succ_le_succ (depthAll_le fun d hd => (h d hd).dp), ?_⟩
  show (tupleText (PyData.shownAll ds)).length ≤ _
  rw [shownAll_map]
  have h1 := fmt_text (ds.map PyData.shown)
  have h2 := piled_le (ts := ds.map PyData.shown) (n := n) fun t ht => by
    obtain ⟨d, hd, rfl⟩ := List.mem_map.mp ht
    exact (h d hd).ln
  rw [List.length_map] at h2
  omega
theorem Showy.int {i : Int} (h : i.natAbs < 10 ^ 100) : Showy (.int i) 0 101 := by
  have hl : i.natAbs.log2 < 1920 := by
    by_cases h0 : i.natAbs = 0
    · rw [h0]; decide
    · exact (Nat.log2_lt h0).mpr (Nat.lt_of_lt_of_le h (by decide +kernel))
  refine ⟨decide_eq_true hl, rfl, Nat.le_refl _, ?_⟩
  show (Str.ofString (toString i)).length ≤ 101
  rw [PySem.ofString_length]
  exact int_text_length_le10 (k := 100) (by decide) h
theorem Showy.mono {d : PyData} {k k' n n' : Nat} (h : Showy d k n) (h1 : k ≤ k') (h2 : n ≤ n') : Showy d k' n' := ⟨h.sh, h.nd, Nat.le_trans h.dp h1, Nat.le_trans h.ln h2⟩
/-! ## places of words -/
open StrLaws in
theorem find_from (x y : Str) (lo : Nat) (hlo : lo ≤ x.length + 1) :
    ((match Builtin.Str.occurrences x y lo x.length 1 with | i :: _ => (i : Int) | [] => -1) = -1 ∧ ∀ i, lo ≤ i → ¬ At x y x.length i) ∨
    ∃ i : Nat, (match Builtin.Str.occurrences x y lo x.length 1 with | i :: _ => (i : Int) | [] => -1) = (i : Int) ∧ lo ≤ i ∧ At x y x.length i ∧ ∀ k, lo ≤ k → k < i → ¬ At x y x.length k := by
  rw [occ_eq]
  have inr : ∀ i, lo ≤ i → i ≤ x.length → i ∈ List.range' lo (x.length + 1 - lo) := fun i h1 h2 => by
    simp only [List.mem_range'_1]
    omega
  rcases occ_first x y x.length 1 (Nat.le_refl _) (List.range' lo (x.length + 1 - lo)) lo (fun i hi => (List.mem_range'_1.mp hi).1) with ⟨h0, hn⟩ | ⟨pre, a, post, e, h0, ha, hn⟩
  · refine .inl ⟨by rw [h0], fun i hi hA => hn i (inr i hi (Nat.le_trans (Nat.le_add_right _ _) hA.1)) hA⟩
  · refine .inr ⟨a, ?_, ?_, ha, fun k h1 h2 => ?_⟩
    · generalize (forIn (List.range' lo (x.length + 1 - lo)) ((#[] : Array Nat), lo) (occBody x y x.length 1)).run.fst = arr at h0
      have h1 : arr.toList[0]? = some a := by simpa using h0
      match hL : arr.toList with
      | [] => rw [hL] at h1; cases h1
      | b :: t => rw [hL] at h1; simp at h1; rw [h1]
    · exact (List.mem_range'_1.mp (by rw [e]; exact List.mem_append_right _ List.mem_cons_self : a ∈ List.range' lo (x.length + 1 - lo))).1
    · refine hn k ?_
      have hk : k ∈ pre ++ a :: post := by
        rw [← e]
        refine inr k h1 ?_
        have q := ha.1
        omega
      have pw : (pre ++ a :: post).Pairwise (· < ·) := by rw [← e]; exact List.pairwise_lt_range'
      rcases List.mem_append.mp hk with hk | hk
      · exact hk
      · rcases List.mem_cons.mp hk with rfl | hk
        · exact absurd h2 (Nat.lt_irrefl _)
        · have q := (List.pairwise_cons.mp (List.pairwise_append.mp pw).2.1).1 k hk
          omega
def atB (x w : Str) (i : Nat) : Bool := decide (i + w.length ≤ x.length) && Builtin.Str.subAt x w i
theorem atB_iff (x w : Str) (i : Nat) : atB x w i = true ↔ StrLaws.At x w x.length i := by
  unfold atB StrLaws.At
  simp
/-- all places of a word in a text -/
def plc (x w : Str) : List Nat := (List.range (x.length + 1)).filter (atB x w)
theorem filter_more {P : Nat → Bool} {lo m : Nat} (h : lo ≤ m) (hn : ∀ i, lo ≤ i → i < m → P i = false) : (List.range m).filter P = (List.range lo).filter P := by
  induction m with
  | zero => rw [Nat.le_zero.mp h]
  | succ m ih =>
    by_cases e : lo = m + 1
    · rw [e]
    · rw [List.range_succ, List.filter_append, ih (by omega) fun i h1 h2 => hn i h1 (by omega)]
      have q := hn m (by omega) (Nat.lt_succ_self _)
      simp [q]
theorem filter_snoc {P : Nat → Bool} {m : Nat} (h : P m = true) : (List.range (m + 1)).filter P = (List.range m).filter P ++ [m] := by
  rw [List.range_succ, List.filter_append]
  simp [h]
def plcI (x w : Str) : List Int := (plc x w).map Int.ofNat
theorem plc_len (x w : Str) : (plc x w).length ≤ x.length + 1 := Nat.le_trans (List.length_filter_le _ _) (Nat.le_of_eq List.length_range)
def spPlaces (K : PySem.W.Frag) : Sp := fun vs H Q _ => ∃ (x w : Str), vs = [.str x, .str w] ∧ x.length ≤ 10000 ∧ w.length ≤ 10000 ∧
  ∀ (a : Addr) (H' : Hp), H a = none → H' a = some (.lst ((plcI x w).map V.int)) → Same H H' → Q (.ref a) H'
/-- the slice of a text at a place -/
theorem cut_at (x w : Str) (k : Nat) (h : k + w.length ≤ x.length) : decide (V.str (cutS x (some (k : Int)) (some ((k : Int) + (w.length : Int)))) = V.str w) = atB x w k := by
  have e : cutS x (some (k : Int)) (some ((k : Int) + (w.length : Int))) = ⟨((x.cps.toList.drop k).take w.length).toArray⟩ := by
    unfold cutS
    rw [show (k : Int) + (w.length : Int) = ((k + w.length : Nat) : Int) by omega, HT.sIx_nat, HT.sIx_nat, Nat.min_eq_left h, Nat.min_eq_left (show k ≤ x.length by omega), show k + w.length - k = w.length by omega]
  rw [e]
  unfold atB
  rw [StrLaws.subAt_eq, decide_eq_true h, Bool.true_and, Bool.eq_iff_iff, decide_eq_true_eq, beq_iff_eq]
  constructor
  · intro q
    have q2 := V.str.inj q
    exact congrArg (fun z : Str => z.cps.toList) q2
  · intro q
    rw [q]
end Vk
set_option Elab.async false
set_option maxRecDepth 100000
set_option linter.all false
namespace Vk
open PySem PySem.Spec PyProof.Rows L2
/-! ## a text some times -/
section
variable {X : Cx}
end
/-! ## a def called by keywords alone -/
structure CalK (P : Program) (w : World) (K : PySem.W.Frag) (mg : Str → Option Value) (base : Heap) (CX : CXT) (k : Nat) (x : Str) (sp : Sp) (ks : List Str) (g : {α : Type} → List α → List α) : Prop where
  ex : ∃ (f : Addr) (fd : FuncData) (ps : List Str), FnG P w K mg base CX k f fd ps sp ∧ mg x = some (.ref f) ∧ PySem.W.keepIn K (.ref f) = true ∧
    (∀ (s : Shared) (ws : List Value), K.In s.heap → ws.length = ks.length → BindsTo s fd ⟨[], ks.zip ws⟩ (ps.zip (g ws))) ∧ ∀ (vs : List V) (ws : List Value), Vals vs ws → vs.length = ks.length → Vals (g vs) (g ws)
section
variable {X : Cx} {CX : CXT} {j k : Nat} {sp : Sp} {E : XK} {x : Str} {p pos : Pos} {kws : List Keyword} {tk : TA} {ks : List Str} {g : {α : Type} → List α → List α}
end
theorem vals_rev : ∀ {vs : List V} {ws : List Value}, Vals vs ws → Vals vs.reverse ws.reverse
  | _, _, .nil => .nil
  | _, _, .cons r t => by
    rw [List.reverse_cons, List.reverse_cons]
    exact (vals_rev t).append (.cons r .nil)
theorem ints_can (ns : List Int) : PyData.canLay0 (.list (ns.map PyData.int)) = true := ints_canLay ns
/-! ## a def of the text as the head leaves it -/
structure At (K : PySem.W.Frag) (x : Str) (st : Stmt) (f : Addr) (fd : FuncData) : Prop where
  ns : PySem.W.nsIn K mainGlobals x = some (some (.ref f))
  fn : Fun K x x st f fd
theorem at_mk {K : PySem.W.Frag} {x : Str} {st : Stmt} {f : Addr} {oc : Value} {od an : Option Addr} {sl : Array (Option Value)} {kV doc pm cd ct : Value} (a : PySem.W.nsIn K mainGlobals x = some (some (.ref f)))
    (l : K.lookup f = some ⟨oc, od, .func (PySem.W.fnOf x x (defArgs st) (defBody st) (defScope st) .none kV doc pm an cd ct), sl⟩) (c : PySem.W.codeIn K cd x = true) (k : PySem.W.keepIn K (.ref f) = true) :
    At K x st f (PySem.W.fnOf x x (defArgs st) (defBody st) (defScope st) .none kV doc pm an cd ct) := ⟨a, fun_mk l c k⟩
section
variable {K : PySem.W.Frag} {x y qual : Str} {st : Stmt} {f : Addr} {fd : FuncData} {ps ks : List Str} {g : List Value → List Value}
theorem _root_.L2.Fun.binds1 (F : Fun K x qual st f fd)
    (h : ∀ {kV doc pm : Value} {an : Option Addr} {cdv ct : Value} {v : Value}, bindArgs (PySem.W.fnOf x qual (defArgs st) (defBody st) (defScope st) .none kV doc pm an cdv ct) ⟨[v], []⟩ = pure [(y, v)]) :
    ∀ (s : Shared) (v : Value), BindsTo s fd ⟨[v], []⟩ [(y, v)] := by
  obtain ⟨oc, od, kV, doc, pm, an, cdv, ct, osl, rfl, lk, hcd⟩ := F.ex
  exact fun s v => .of_eq h
end
end Vk
set_option Elab.async false
set_option maxRecDepth 100000
set_option maxHeartbeats 4000000
set_option linter.all false
namespace PySem
namespace VkX
open PySem.W PySem.Calls PyProof.Rows Builtin Builtin.ObjectAttr PySem.HandSPX
/-! ## own exception classes straight below one of the four -/
structure ExB (B newId initId : String) (tl : List Value) : Prop where
  F : ExcBaseFacts B newId initId tl
  pass : ∀ self : Value, refuseLoop self "__setattr__" tl = pure ()
  obj : tl.contains (.type "object") = true
  refs : tl.all (fun v => match v with | .type _ => true | _ => false) = true
theorem exB_value : ExB "ValueError" "ValueError.__new__" "ValueError.__init__" [.type "ValueError", .type "Exception", .type "BaseException", .type "object"] := ⟨F.excBase_ValueError, fun _ => by kernel_rfl, by decide +kernel, rfl⟩
theorem exB_lookup : ExB "LookupError" "LookupError.__new__" "LookupError.__init__" [.type "LookupError", .type "Exception", .type "BaseException", .type "object"] := ⟨F.excBase_LookupError, fun _ => by kernel_rfl, by decide +kernel, rfl⟩
theorem exB_overflow : ExB "OverflowError" "OverflowError.__new__" "OverflowError.__init__" [.type "OverflowError", .type "ArithmeticError", .type "Exception", .type "BaseException", .type "object"] := ⟨F.excBase_OverflowError, fun _ => by kernel_rfl, by decide +kernel, rfl⟩
section
variable {M : Model} {A : Around} {E : Value → Shared → Prop} {h : Heap} {g : Array GenState} {d : Drawn} {t : Nat} {os : OsState}
variable {nm q : Str} {C N : Addr} {bs bm : List Value} {hdct : Bool} {sn : List Str} {sub : List Value} {ab : Bool} {col : Option Bool} {dd : Option Addr} {k0 k1 k2 k3 k5 : Option Value} {B newId initId : String}
theorem check_newK (F : ExcBaseFacts B newId initId bm) {rest : List Value} {kw : List (Str × Value)} {Q : Unit → Shared → Prop} (hC : h.get? C = some (excClassObj nm q C N bs bm hdct sn sub ab col dd k0 k1 k2 k3 k5 newId))
    (hq : Q () ⟨h, g, d, t, os⟩) : wpAny M A (checkBuiltinCall newId ⟨.ref C :: rest, kw⟩) Q E ⟨h, g, d, t, os⟩ := by
  have inB : (Value.ref C :: bm).contains (.type B) = true := by rw [List.contains_cons, F.hasB, Bool.or_true]
  have star := F.noStar
  simp only [checkBuiltinCall, F.newKind, F.newSplit, F.newRow]
  repeat (first | refine wpAny_loadPart_at hC ?_ | (refine wpAny_isSubtype_exc hC ?_; rw [inB]) | refine wpAny_staticBase_exc hC ?_ | refine wpAny_madeBy_exc hC ?_ | simp only [bne_self_eq_false, Bool.false_eq_true, if_false] | wp_step)
  exact hq
end
section
variable {prog : Program} {w : World} {A : Around} {E : Value → Shared → Prop} {R : Result → Shared → Prop} {h : Heap} {g : Array GenState} {d : Drawn} {t : Nat} {os : OsState}
variable {nm q : Str} {C N : Addr} {bs bm : List Value} {hdct : Bool} {sn : List Str} {sub : List Value} {ab : Bool} {col : Option Bool} {dd : Option Addr} {k0 k1 k2 k3 k5 : Option Value} {B newId initId : String}
theorem new_ownK (F : ExcBaseFacts B newId initId bm) {rest : List Value} {kw : List (Str × Value)} (hC : h.get? C = some (excClassObj nm q C N bs bm hdct sn sub ab col dd k0 k1 k2 k3 k5 newId))
    (hq : R (.ok (.ret (.ref (h.objs.size + 1)))) ⟨(h.push (W.kdv_tup rest)).push (excO C h.objs.size), g, d, t, os⟩) (hrest : rest.length ≤ sizeLine) :
    codeAny (model prog w) A (.builtin newId ⟨.ref C :: rest, kw⟩) R ⟨h, g, d, t, os⟩ := by
  have fends := F.ends
  have cB : (Value.ref C :: bm).contains (.type B) = true := by rw [List.contains_cons, F.hasB, Bool.or_true]
  have cA : (Value.ref C :: bm).contains (.type "AttributeError") = false := by rw [List.contains_cons, F.noAttr]; rfl
  have cN : (Value.ref C :: bm).contains (.type "NameError") = false := by rw [List.contains_cons, F.noName]; rfl
  refine codeAny_builtinAt F.entry ?_
  unfold Builtin.«BaseException.__new__»
  refine wpAt_bind (show wpAt _ _ _ (stack >>= _) _ _ _ from wpAt_bind (wpAt_stack fun p below => wpAt_of_wpAny ?_))
  wp_walk
  refine wpAt_of_wpAny ?_
  rw [F.owner]
  repeat (first | with_reducible refine wpAny_madeHere_exc F.canon hC ?_ | with_reducible refine wpAny_loadPart_at hC ?_ | (with_reducible refine wpAny_isSubtype_exc hC ?_; first | rw [cB] | rw [cA] | rw [cN]) | wp_step)
  exact (show R _ _ by rw [Heap.size_push]; exact hq)
theorem check_callK {M : Model} {rest : List Value} {kw : List (Str × Value)} {Q : Unit → Shared → Prop} (hC : h.get? C = some (excClassObj nm q C N bs bm hdct sn sub ab col dd k0 k1 k2 k3 k5 newId)) (hq : Q () ⟨h, g, d, t, os⟩) : wpAny M A (checkBuiltinCall "type.__call__" ⟨.ref C :: rest, kw⟩) Q E ⟨h, g, d, t, os⟩ := by
  have own := tc_sub
  have typed : (⟨h, g, d, t, os⟩ : Shared).TypeIs (.ref C) "type" := ⟨_, hC, rfl⟩
  simp only [checkBuiltinCall, tc_kind, tc_split]
  repeat (any_goals (first | assumption | with_reducible refine wpAny_loadPart_at hC ?_ | with_reducible refine wpAny_onRaise ?_ | with_reducible refine wpAny_map ?_ | wp_step))
theorem type_callK (F : ExcBaseFacts B newId initId bm) {rest : List Value} {kw : List (Str × Value)} {fI : Addr} {Q : Fin → Shared → Prop} (hC : h.get? C = some (excClassObj nm q C N bs bm hdct sn sub ab col dd k0 k1 k2 k3 k5 newId))
    (hi : W.Looks (model prog w) h (typeLookup (.ref C) "__init__") (some (.ref fI))) (hb : ∀ self, W.Looks (model prog w) h (bindSpecial (.ref fI) self) (.ref fI, [self])) (hrest : rest.length ≤ sizeLine)
    (hq : codeAny (model prog w) A (.call (.ref fI) ⟨.ref (h.objs.size + 1) :: rest, kw⟩)
      (fun r s' => match r with | .ok (.ret v) => v = .none ∧ Q (.done (.ret (.ref (h.objs.size + 1)))) s' | .ok _ => False | .error e => E e s')
      ⟨(h.push (W.kdv_tup rest)).push (excO C h.objs.size), g, d, t, os⟩) :
    wpAny (model prog w) A (Builtin.«type.__call__» ⟨.ref C :: rest, kw⟩) Q E ⟨h, g, d, t, os⟩ := by
  repeat (first | with_reducible refine wpAny_loadPart_at hC ?_ | with_reducible refine wpAny_madeBy_exc hC ?_ | wp_step)
  refine codeAny_call_builtin_code (Code.quiet_builtin _ F.quiet) (check_newK F hC (new_ownK F hC (show wpAny _ _ _ _ _ _ from ?_) hrest))
  have kp : ∀ b o, h.get? b = some o → ((h.push (W.kdv_tup rest)).push (excO C h.objs.size)).get? b = some o := fun b o e => Heap.get?_push_of_some _ (Heap.get?_push_of_some _ e)
  have hC1 := kp _ _ hC
  have made : ((h.push (W.kdv_tup rest)).push (excO C h.objs.size)).get? (h.objs.size + 1) = some (excO C h.objs.size) := by heap_get
  have self1 : (Value.ref C :: bm).contains (.ref C) = true := by simp
  have looked := hi.keeps kp
  have bound := (hb (.ref (h.objs.size + 1))).keeps kp
  unfold isInstance
  repeat (first | with_reducible refine wpAny_loadPart_at made ?_ | (with_reducible refine wpAny_isSubtype_exc hC1 ?_; rw [self1]) | wp_step)
  refine (show wpAny _ _ (typeLookup (.ref C) _) _ _ _ from looked.at (wpAny_holding (wpAny_bind (bound.at (wpAny_bind (wpAny_call (codeAny_mono hq fun res s2 z => ?_)))))))
  match res, z with
  | .error e, z => exact z
  | .ok (.ret v), z =>
    obtain ⟨rfl, z⟩ := z
    first
      | exact wpAny_pure (wpAny_pure z)
      | (wp_walk; exact z)
  | .ok .next, z => exact z.elim
  | .ok .brk, z => exact z.elim
  | .ok .cont, z => exact z.elim
theorem call_ownK (F : ExcBaseFacts B newId initId bm) {rest : List Value} {kw : List (Str × Value)} {fI : Addr} (hC : h.get? C = some (excClassObj nm q C N bs bm hdct sn sub ab col dd k0 k1 k2 k3 k5 newId))
    (hi : W.Looks (model prog w) h (typeLookup (.ref C) "__init__") (some (.ref fI))) (hb : ∀ self, W.Looks (model prog w) h (bindSpecial (.ref fI) self) (.ref fI, [self])) (hrest : rest.length ≤ sizeLine)
    (hq : codeAny (model prog w) (A.under (.builtin "type.__call__" ⟨.ref C :: rest, kw⟩)) (.call (.ref fI) ⟨.ref (h.objs.size + 1) :: rest, kw⟩) (W.InitBack (h.objs.size + 1) R)
      ⟨(h.push (W.kdv_tup rest)).push (excO C h.objs.size), g, d, t, os⟩) :
    codeAny (model prog w) A (.call (.ref C) ⟨rest, kw⟩) R ⟨h, g, d, t, os⟩ := by
  have l1 := tc_lookup
  have l2 := tc_bind (.ref C)
  have hTy : (⟨h, g, d, t, os⟩ : Shared).TypeIs (.ref C) "type" := ⟨_, hC, rfl⟩
  refine codeAny_of_tree (show wpAny _ _ (callAny (.ref C) _) _ _ _ from ?_)
  repeat (any_goals (first | assumption | with_reducible refine wpAny_loadPart_at hC ?_ | wp_step))
  refine ⟨rfl, codeAny_call_builtin_at (Code.quiet_builtin _ (by decide +kernel)) entry_typeCall (check_callK hC (type_callK F hC hi hb hrest (codeAny_mono hq fun res s2 z => ?_)))⟩
  match res, z with
  | .error e, z => exact z
  | .ok (.ret v), z => exact z
  | .ok .next, z => exact z.elim
  | .ok .brk, z => exact z.elim
  | .ok .cont, z => exact z.elim
end
end VkX
end PySem
set_option Elab.async false
set_option maxRecDepth 100000
set_option maxHeartbeats 4000000
set_option linter.all false
namespace PySem
namespace VkX
open PySem.W PySem.Calls PyProof.Rows Builtin Builtin.ObjectAttr PySem.HandSPX
section
variable {prog : Program} {w : World} {A : Around} {E : Value → Shared → Prop} {R : Result → Shared → Prop} {hp : Heap} {g : Array GenState} {d : Drawn} {t : Nat} {os : OsState}
/-- object.__setattr__ on an exception of an own class, up to the store into its own dict -/
theorem osa_way {K : Frag} {name : Str} {tk : Tok} {v : Value} {x C : Addr} {ox : Obj} {od : Option Obj} {cd : ClassData} {B newId initId : String} {tl : List Value} (hB : ExB B newId initId tl)
    (X : K.In hp) (I : InstAt hp x ox C od) (hcd : clsIn K C = some cd) (hm : cd.mro = .ref C :: tl) (ha : findIn K (.ref C) name = some none)
    (hq : wpAny (model prog w) (A.under (.builtin "object.__setattr__" ⟨[.ref x, .str name tk, v], []⟩)) (storeInOwnDict (.ref x) (.ref C) (.str name tk) name v false)
      (fun fin s2 => match fin with | .done f => R (.ok f) s2 | .again c2 => c2.quiet = true ∧ codeAny (model prog w) A c2 R s2) (fun e s2 => R (.error e) s2) ⟨hp, g, d, t, os⟩) :
    codeAny (model prog w) A (.call (.builtin "object.__setattr__") ⟨[.ref x, .str name tk, v], []⟩) R ⟨hp, g, d, t, os⟩ := by
  have slot := F.store_object
  have some1 : cd.mro.isEmpty = false := by rw [hm]; rfl
  have obj1 : cd.mro.contains (.type "object") = true := by rw [hm, List.contains_cons, hB.obj, Bool.or_true]
  have within : Looks (model prog w) hp (isInstance (.ref x) (.type "object")) true := I.type.andThen (looks_mroIn X (by unfold mroIn; rw [hcd, Option.bind_some, if_neg (by rw [some1]; decide), obj1]))
  refine codeAny_call_builtin slot.slot.plain slot.entry (@check_slot (model prog w) _ _ ⟨hp, g, d, t, os⟩ "object.__setattr__" "object" "__setattr__" (.ref x) [.str name tk, v] [] _ slot.kind slot.split within (slot.args (.ref x) (.str name tk) v) ?_)
  have line : Looks (model prog w) hp (mroOf (.ref C)) cd.mro := (looks_clsIn X hcd).andThen .now
  rw [osa_eq, refuse_eq]
  refine wpAny_bind (wpAny_bind (I.type.at (wpAny_bind (line.at ?_))))
  rw [hm, refuseLoop_ref, hB.pass]
  exact wpAny_pure (wpAny_bind (I.type.at (wpAny_bind ((looks_findIn X ha).at (wpAny_bind ((show Looks (model prog w) hp (storeTaker? none) none from .now).at hq))))))
theorem osa_first {K : Frag} {name : Str} {tk : Tok} {v : Value} {x C : Addr} {fv : Array Value} {cd : ClassData} {B newId initId : String} {tl : List Value} (hB : ExB B newId initId tl)
    (X : K.In hp) (hx : hp.get? x = some { cls := .ref C, data := .fields fv }) (hcd : clsIn K C = some cd) (hm : cd.mro = .ref C :: tl) (hd : cd.hasDict = true) (ha : findIn K (.ref C) name = some none)
    (hq : ∀ h2 tk2 dx, (∀ b o, b ≠ x → hp.get? b = some o → h2.get? b = some o) → hp.objs.size ≤ dx → dx ≠ x → h2.get? x = some { cls := .ref C, dict := some dx, data := .fields fv } →
      h2.Ns1 dx (fun y => if y = name then some v else none) → R (.ok (.ret .none)) ⟨h2, g, d, tk2, os⟩) :
    codeAny (model prog w) A (.call (.builtin "object.__setattr__") ⟨[.ref x, .str name tk, v], []⟩) R ⟨hp, g, d, t, os⟩ := by
  refine osa_way hB X (ox := { cls := .ref C, data := .fields fv }) (od := none) ⟨hx, rfl, rfl, trivial⟩ hcd hm ha ?_
  have far : x ≠ hp.objs.size := Nat.ne_of_lt (Heap.lt_size hx)
  have whole : Looks (model prog w) hp (classData C) cd := looks_clsIn X hcd
  obtain ⟨c1, c2, c3, c4, c5, c6, c7, c8, c9, c10, c11⟩ := cd
  cases (show c6 = true from hd)
  unfold storeInOwnDict ownDictForStores
  repeat (first | with_reducible refine store_in_new ?_ ?_ | with_reducible refine wpAny_loadPart_at hx ?_ | with_reducible refine whole.at ?_ | wp_step)
  · exact ⟨_, #[], _, (Heap.get?_update_ne _ _ _ _ far.symm).trans (Heap.get?_push_at rfl rfl), rfl, fun e he => absurd he (by simp), fun _ => rfl⟩
  · intro h2 tk2 ns same
    have there : (hp.push { cls := .type "dict", data := .dict #[] }).get? x = some { cls := .ref C, data := .fields fv } := Heap.get?_push_of_some _ hx
    exact hq h2 tk2 hp.objs.size (fun b o hb ho => (same.2 b (Nat.ne_of_lt (Heap.lt_size ho))).trans ((Heap.get?_update_ne _ _ _ _ hb).trans (Heap.get?_push_of_some _ ho))) (Nat.le_refl _) far.symm
      ((same.2 x far).trans (Heap.get?_update_self _ there rfl)) ns
theorem osa_next {K : Frag} {name : Str} {tk : Tok} {v : Value} {x C dx : Addr} {fv : Array Value} {cd : ClassData} {m0 : Str → Option Value} {nl : List Str} {B newId initId : String} {tl : List Value} (hB : ExB B newId initId tl)
    (X : K.In hp) (hx : hp.get? x = some { cls := .ref C, dict := some dx, data := .fields fv }) (hns : hp.Ns1 dx m0) (hw : Within m0 nl) (hz : nl.length ≤ 1000) (hcd : clsIn K C = some cd) (hm : cd.mro = .ref C :: tl) (hd : cd.hasDict = true) (ha : findIn K (.ref C) name = some none)
    (hq : ∀ h2 tk2, (∀ b o, b ≠ dx → hp.get? b = some o → h2.get? b = some o) → h2.Ns1 dx (fun y => if y = name then some v else m0 y) → R (.ok (.ret .none)) ⟨h2, g, d, tk2, os⟩) :
    codeAny (model prog w) A (.call (.builtin "object.__setattr__") ⟨[.ref x, .str name tk, v], []⟩) R ⟨hp, g, d, t, os⟩ := by
  obtain ⟨oD, esD, epD, hoD, hdD, _⟩ := hns.count hw
  refine osa_way hB X (ox := { cls := .ref C, dict := some dx, data := .fields fv }) (od := some oD) ⟨hx, rfl, rfl, hoD⟩ hcd hm ha ?_
  have whole : Looks (model prog w) hp (classData C) cd := looks_clsIn X hcd
  obtain ⟨c1, c2, c3, c4, c5, c6, c7, c8, c9, c10, c11⟩ := cd
  cases (show c6 = true from hd)
  unfold storeInOwnDict ownDictForStores
  repeat (first | with_reducible refine PySem.OEX.store_in_old hns hw hz ?_ | with_reducible refine wpAny_loadPart_at hx ?_ | with_reducible refine whole.at ?_ | wp_step)
  intro h2 tk2 ns same
  exact hq h2 tk2 (fun b o hb ho => (same.2 b hb).trans ho) ns
end
end VkX
end PySem
namespace Vk
open L2 PySem PySem.Spec PyProof.Rows PySem.VkX
/-- what the written part says of an own exception class over one of the four -/
structure OexK (K : PySem.W.Frag) (C : Addr) : Prop where
  cls : ∃ B newId initId tl nm q N bs sn sub ab col dd k0 k1 k2 k3 k5, ExB B newId initId tl ∧ K.lookup C = some (excClassObj nm q C N bs tl true sn sub ab col dd k0 k1 k2 k3 k5 newId)
  sa : PySem.W.findIn K (.ref C) "__setattr__" = some (some (.builtin "object.__setattr__"))
  kC : PySem.W.keepIn K (.ref C) = true
  xf : XfC K C
  ic : ExcC K C
section
variable {X : Cx} {pins : List (Addr × Obj)} {σ : L2.St} {H : Hp} {s : Shared} {a C dx : Addr} {f : Str} {y : V} {u : Value} {fs : List (Str × V)} {Q : Unit → Shared → Prop} {E : Value → Shared → Prop} {A : Around}
theorem kst_first (T : OexK X.K C) (I : Inv X pins σ H s) (e : H a = some (exo a C none)) (hno : PySem.W.findIn X.K (.ref C) f = some none) (ry : RelV y u)
    (h : ∀ dx s2, H dx = none → dx ≠ a → Inv X pins σ (upd (upd H dx (exd dx [(f, y)])) a (exo a C (some dx))) s2 → Q () s2) : wpAny (model X.prog X.w) A (setAttr (.ref a) f u) Q E s := by
  obtain ⟨B, newId, initId, tl, nm, q, N, bs, sn, sub, ab, col, dd, k0, k1, k2, k3, k5, hB, hC⟩ := T.cls
  have hcl : PySem.W.clsIn X.K C = some { name := nm, bases := bs, mro := .ref C :: tl, ns := N, qualname := q, hasDict := true, slotNames := sn, subclasses := sub, abstract := ab, collection := col, hasDel := false } := by unfold PySem.W.clsIn; rw [hC] <;> rfl
  obtain ⟨t1, ho⟩ := exo_at I.hok e
  obtain ⟨hp, g, d, t, os⟩ := s
  refine PySem.W.set_plain I.kIn (ox := { cls := .ref C, dict := none, data := .fields #[.ref t1, .none, .none, .none, .bool false, .none] }) (od := none) ⟨ho, rfl, rfl, trivial⟩ T.sa ?_
  refine osa_first hB I.kIn ho hcl rfl rfl hno fun h2 tk2 dx kept low apart put ns => ?_
  have free1 : H dx = none := I.hok.fresh low
  have old1 : ∀ {b : Addr} {o : Obj}, hp.get? b = some o → b ≠ dx := fun z => Nat.ne_of_lt (Nat.lt_of_lt_of_le (Heap.lt_size z) low)
  have not1 : ∀ {b : Addr}, H b = none → b ≠ a := fun n z => nomatch (z ▸ n).symm.trans e
  have un1 : Un X.fs [] H (upd (upd H dx (exd dx [(f, y)])) a (exo a C (some dx))) hp h2 := {
    keep := fun b o z n _ _ => kept b o (not1 n) z
    slot := fun b o z n _ _ => ⟨o.slots, kept b o (not1 n) z⟩
    free := fun b o z n _ => (upd_ne (not1 n)).trans ((upd_ne (old1 z)).trans n)
    there := fun b o z _ => by
      by_cases hb : b = a
      · exact ⟨_, hb ▸ put⟩
      · exact ⟨o, kept b o hb z⟩
    tups := fun b xs z => (upd_ne (at_ne e z exo_tup)).trans ((upd_ne (ne_of_none z free1)).trans z)
    frzs := fun b o v z => (upd_ne (at_ne e z exo_frz)).trans ((upd_ne (ne_of_none z free1)).trans z)
    tbls := fun b ps z => ⟨#[], by rw [upd_ne (at_ne e z exo_tbl), upd_ne (ne_of_none z free1), z]; simp⟩ }
  refine h dx _ free1 apart (I.un (t' := tk2) un1 fun b o z => ?_)
  by_cases hb : b = a
  · subst hb
    rw [upd_same] at z
    cases z
    exact exo_ok put
  · rw [upd_ne hb] at z
    by_cases hd : b = dx
    · subst hd
      rw [upd_same] at z
      cases z
      exact exd_ok ns (relO_put (fs := []) ry fun g => True.intro)
    · rw [upd_ne hd] at z
      refine (I.hok b o z).stay (fun c v hc r => kept c v ?_ r) (fun c hc => (upd_ne (at_ne e hc exo_own)).trans ((upd_ne (ne_of_none hc free1)).trans hc)) (fun c xs hc => (upd_ne (at_ne e hc exo_tup)).trans ((upd_ne (ne_of_none hc free1)).trans hc))
      exact hc.elim (fun z => z ▸ hb) (fun z => at_ne e z exo_own)
theorem kst_next (T : OexK X.K C) (I : Inv X pins σ H s) (e : H a = some (exo a C (some dx))) (ed : H dx = some (exd dx fs)) (hl : fs.length ≤ 900) (hno : PySem.W.findIn X.K (.ref C) f = some none) (ry : RelV y u)
    (h : ∀ s2, Inv X pins σ (upd H dx (exd dx ((f, y) :: fs))) s2 → Q () s2) : wpAny (model X.prog X.w) A (setAttr (.ref a) f u) Q E s := by
  obtain ⟨B, newId, initId, tl, nm, q, N, bs, sn, sub, ab, col, dd, k0, k1, k2, k3, k5, hB, hC⟩ := T.cls
  have hcl : PySem.W.clsIn X.K C = some { name := nm, bases := bs, mro := .ref C :: tl, ns := N, qualname := q, hasDict := true, slotNames := sn, subclasses := sub, abstract := ab, collection := col, hasDel := false } := by unfold PySem.W.clsIn; rw [hC] <;> rfl
  obtain ⟨t1, ho⟩ := exo_at I.hok e
  obtain ⟨mA, hns, rel⟩ := exd_at I.hok ed
  have hw := within_of rel
  obtain ⟨hp, g, d, t, os⟩ := s
  obtain ⟨oD, _, _, hoD, _, _⟩ := hns.count hw
  refine PySem.W.set_plain I.kIn (ox := { cls := .ref C, dict := some dx, data := .fields #[.ref t1, .none, .none, .none, .bool false, .none] }) (od := some oD) ⟨ho, rfl, rfl, hoD⟩ T.sa ?_
  refine osa_next hB I.kIn ho hns hw (by rw [List.length_map]; omega) hcl rfl rfl hno fun h2 tk2 kept ns => ?_
  exact h _ (I.write (t' := tk2) (x := dx) (e := dx) (o := exd dx ((f, y) :: fs)) (by rw [ed]; exact True.intro) (.inl rfl) kept (match ns with | ⟨o, _, _, z, _⟩ => ⟨o, z⟩) (exd_ok ns (relO_put ry rel)))
end
/-- self.f = e on such an exception -/
def tOsk (K : PySem.W.Frag) (f : Str) (to te : TE) : TS := fun D σ H => te σ H fun y H1 => to σ H1 fun x H2 => ∃ a C : Addr, x = .ref a ∧ OexK K C ∧ PySem.W.findIn K (.ref C) f = some none ∧
  ((H2 a = some (exo a C none) ∧ ∀ dx, H2 dx = none → dx ≠ a → D.nx σ (upd (upd H2 dx (exd dx [(f, y)])) a (exo a C (some dx)))) ∨
    ∃ (dx : Addr) (fs : List (Str × V)), H2 a = some (exo a C (some dx)) ∧ H2 dx = some (exd dx fs) ∧ fs.length ≤ 900 ∧ D.nx σ (upd H2 dx (exd dx ((f, y) :: fs))))
section
variable {X : Cx} {o e : Expr} {es : List Expr} {to te : TE} {ta : TA} {f : Str} {p p' p1 p2 pos : Pos}
theorem ps_osk (ho : PE X o to) (he : PE X e te) (hs : swapsWith e (some (.Attribute o f p')) pos.line X.env = pure false := by rfl) : PS X (.Assign [.Attribute o f p'] e pos) (tOsk X.K f to te) := by
  refine ⟨fun pins s σ H D I h => plainObj_wpAny_Assign_Attribute (thn (he.run pins s σ H _ I h) fun v s1 ⟨y, H1, I1, r1, q1⟩ => thn (ho.run pins s1 σ H1 _ I1 q1) fun u s2 ⟨x, H2, I2, r2, a, C, ex, T, hno, q⟩ => ?_) hs⟩
  subst ex
  obtain rfl : u = Value.ref a := r2
  exact q.elim (fun z => kst_first T I2 z.1 hno r1 fun dx s3 n ne J => ⟨σ, _, J, z.2 dx n ne⟩) (fun ⟨dx, fs, ea, ed, hl, z⟩ => kst_next T I2 ea ed hl hno r1 fun s3 J => ⟨σ, _, J, z⟩)
end
end Vk
set_option Elab.async false
set_option maxRecDepth 100000
set_option maxHeartbeats 4000000
set_option linter.all false
namespace Vk
open L2 PySem PySem.Spec PyProof.Rows PySem.VkX
/-! ## making one -/
/-- __init__(self, f1, ..): the fields stored in their order -/
def spIni (C : Addr) (fsn : List Str) : Sp := fun vs H Q E => ∃ a ws, vs = .ref a :: ws ∧ ws.length = fsn.length ∧ H a = some (exo a C none) ∧
  (fsn = [] → Q .non H) ∧ (fsn ≠ [] → ∀ d, H d = none → d ≠ a → Q .non (upd (upd H d (exd d (fsn.zip ws).reverse)) a (exo a C (some d))))
structure ClsI (P : Program) (w : World) (K : PySem.W.Frag) (mg : Str → Option Value) (base : Heap) (k : Nat) (x : Str) (C : Addr) (fsn : List Str) : Prop where
  T : OexK K C
  hm : mg x = some (.ref C)
  no : ∀ f ∈ fsn, PySem.W.findIn K (.ref C) f = some none
  ex : ∃ (fI : Addr) (fd : FuncData), PySem.W.findIn K (.ref C) "__init__" = some (some (.ref fI)) ∧ PySem.W.typeIn K (.ref fI) = some (.type "function") ∧ FnG P w K mg base CX0 k fI fd (("self" : Str) :: fsn) (spIni C fsn) ∧ Binds K fd (("self" : Str) :: fsn) [] ∧
    (∀ (s : Shared) (v : Value) (ws : List Value), K.In s.heap → ws.length = fsn.length → BindsTo s fd ⟨[v], fsn.reverse.zip ws⟩ ((("self" : Str) :: fsn).zip (v :: ws.reverse)))
theorem upd_over {H : Hp} {a d : Addr} {o1 o2 o3 : HO} (h : d ≠ a) : upd (upd (upd H a o1) d o2) a o3 = upd (upd H d o2) a o3 := by
  funext b
  by_cases hb : b = a
  · subst hb; rw [upd_same, upd_same]
  · rw [upd_ne hb, upd_ne hb]
    by_cases hd : b = d
    · subst hd; rw [upd_same, upd_same]
    · rw [upd_ne hd, upd_ne hd, upd_ne hb]
section
variable {X : Cx} {j k : Nat} {x : Str} {C : Addr} {fsn : List Str} {p pos : Pos} {e : Expr} {es : List Expr} {t : TA}
theorem few_len {n : Nat} (h : n ≤ 1000) : n ≤ sizeLine := Nat.le_trans h (by rw [sizeLine_eq]; decide)
theorem vals_back : ∀ {vs : List V} {ws : List Value}, Vals vs ws → Vals vs.reverse ws.reverse := fun r => vals_rev r
end
end Vk
set_option Elab.async false
set_option maxRecDepth 100000
set_option maxHeartbeats 4000000
set_option linter.all false
namespace Vk
open L2 PySem PySem.Spec PyProof.Rows PySem.VkX
/-- the j-th statement of a class -/
def mtd (st : Stmt) (j : Nat) : Stmt := match st with
  | .ClassDef _ _ _ b _ _ _ _ _ _ _ => b.getD j (.Pass ⟨0, 0, 0, 0⟩)
  | _ => .Pass ⟨0, 0, 0, 0⟩
theorem no1 {P : Str → Prop} {a : Str} (h : P a) : ∀ f ∈ ([a] : List Str), P f := fun f z => by
  rw [List.mem_singleton] at z
  exact z ▸ h
theorem no2 {P : Str → Prop} {a b : Str} (h : P a) (h2 : P b) : ∀ f ∈ ([a, b] : List Str), P f := fun f z => by
  rcases List.mem_cons.mp z with z | z
  · exact z ▸ h
  · rw [List.mem_singleton] at z
    exact z ▸ h2
/-- the class at C has the name x and these classes behind it -/
def ClsN (K : PySem.W.Frag) (C : Addr) (x : Str) (tl : List Value) : Prop := ∃ newId q N bs sn sub ab col dd k0 k1 k2 k3 k5, K.lookup C = some (excClassObj x q C N bs tl true sn sub ab col dd k0 k1 k2 k3 k5 newId)
structure ExcTxt (K : PySem.W.Frag) (x qual : Str) (st : Stmt) (C fI : Addr) (fd : FuncData) (fsn : List Str) (tl : List Value) : Prop where
  cn : ClsN K C x tl
  ns : PySem.W.nsIn K mainGlobals x = some (some (.ref C))
  T : OexK K C
  iC : PySem.W.findIn K (.ref C) "__init__" = some (some (.ref fI))
  tI : PySem.W.typeIn K (.ref fI) = some (.type "function")
  no : ∀ f ∈ fsn, PySem.W.findIn K (.ref C) f = some none
  fn : Fun K "__init__" qual st fI fd
theorem exc_mk {K : PySem.W.Frag} {x qual : Str} {st : Stmt} {C fI : Addr} {fsn : List Str} {B newId initId : String} {tl : List Value} {q : Str} {N : Addr} {bs : List Value} {sn : List Str} {sub : List Value} {ab : Bool} {col : Option Bool} {dd : Option Addr} {k0 k1 k2 k3 k5 : Option Value}
    {oc : Value} {od an : Option Addr} {sl : Array (Option Value)} {kV doc pm cd ct : Value} (hB : ExB B newId initId tl) (ns : PySem.W.nsIn K mainGlobals x = some (some (.ref C))) (iC : PySem.W.findIn K (.ref C) "__init__" = some (some (.ref fI)))
    (cls : K.lookup C = some (excClassObj x q C N bs tl true sn sub ab col dd k0 k1 k2 k3 k5 newId)) (sa : PySem.W.findIn K (.ref C) "__setattr__" = some (some (.builtin "object.__setattr__"))) (kC : PySem.W.keepIn K (.ref C) = true)
    (ga : PySem.W.findIn K (.ref C) "__getattribute__" = some (some (.builtin "BaseException.__getattribute__"))) (gg : PySem.W.findIn K (.ref C) "__getattr__" = some none) (ex : PySem.W.subIn K (.ref C) (.type "BaseException") = some true) (hd : PySem.W.hasDictIn K C = true)
    (ha : PySem.W.findIn K (.ref C) "__class__" = some (some (.builtin "object.__class__"))) (hn : PySem.W.specialIn K (.builtin "object.__class__") "__get__" = some (some (.builtin "getset_descriptor.__get__"))) (ht : PySem.W.takesIn K (.builtin "object.__class__") = some true)
    (hm : PySem.W.mroIn K C (.type "object") = some true) (tI : PySem.W.typeIn K (.ref fI) = some (.type "function")) (kI : PySem.W.keepIn K (.ref fI) = true) (no : ∀ f ∈ fsn, PySem.W.findIn K (.ref C) f = some none)
    (l : K.lookup fI = some ⟨oc, od, .func (PySem.W.fnOf "__init__" qual (defArgs st) (defBody st) (defScope st) .none kV doc pm an cd ct), sl⟩) (c : PySem.W.codeIn K cd qual = true) :
    ExcTxt K x qual st C fI (PySem.W.fnOf "__init__" qual (defArgs st) (defBody st) (defScope st) .none kV doc pm an cd ct) fsn tl := by
  exact ⟨⟨newId, q, N, bs, sn, sub, ab, col, dd, k0, k1, k2, k3, k5, cls⟩, ns, ⟨⟨B, newId, initId, tl, x, q, N, bs, sn, sub, ab, col, dd, k0, k1, k2, k3, k5, hB, cls⟩, sa, kC, ⟨ga, gg, ex, hd⟩, ⟨ga, gg, ex, hd, ha, hn, ht, hm⟩⟩, iC, tI, no, fun_mk l c kI⟩
section
variable {P : Program} {w : World} {K : PySem.W.Frag} {mg : Str → Option Value} {base h : Heap} {x qual f f2 : Str} {st : Stmt} {C fI : Addr} {fd : FuncData} {p1 p2 p3 p4 q1 q2 q3 q4 : Pos}
theorem ClsI.of1 {tl : List Value} (G : ExcTxt K x qual st C fI fd [f] tl) (KX : K.In h) (Gn : h.Ns mainGlobals mg) (F : FnG P w K mg base CX0 1 fI fd [("self" : Str), f] (spIni C [f]))
    (hb : ∀ (kV doc pm : Value) (an : Option Addr) (cdv ct v y : Value), bindArgs (PySem.W.fnOf "__init__" qual (defArgs st) (defBody st) (defScope st) .none kV doc pm an cdv ct) ⟨[v, y], []⟩ = pure [(("self" : Str), v), (f, y)])
    (hk : ∀ (kV doc pm : Value) (an : Option Addr) (cdv ct v y : Value), bindArgs (PySem.W.fnOf "__init__" qual (defArgs st) (defBody st) (defScope st) .none kV doc pm an cdv ct) ⟨[v], [((f : Str), y)]⟩ = pure [(("self" : Str), v), (f, y)]) : ClsI P w K mg base 1 x C [f] where
  T := G.T
  hm := PySem.W.mg_of KX Gn G.ns
  no := G.no
  ex := ⟨fI, fd, G.iC, G.tI, F, G.fn.binds fun kV doc pm an cdv ct us hl => match us, hl with | [v, y], _ => hb kV doc pm an cdv ct v y, fun s v ws KI hl => by
    match ws, hl with
    | [y], _ =>
      obtain ⟨oc, od, kV, doc, pm, an, cdv, ct, osl, rfl, lk, hcd⟩ := G.fn.ex
      exact .of_eq (hk kV doc pm an cdv ct v y)⟩
theorem ClsI.of2 {tl : List Value} (G : ExcTxt K x qual st C fI fd [f, f2] tl) (KX : K.In h) (Gn : h.Ns mainGlobals mg) (F : FnG P w K mg base CX0 1 fI fd [("self" : Str), f, f2] (spIni C [f, f2]))
    (hb : ∀ (kV doc pm : Value) (an : Option Addr) (cdv ct v y z : Value), bindArgs (PySem.W.fnOf "__init__" qual (defArgs st) (defBody st) (defScope st) .none kV doc pm an cdv ct) ⟨[v, y, z], []⟩ = pure [(("self" : Str), v), (f, y), (f2, z)])
    (hk : ∀ (kV doc pm : Value) (an : Option Addr) (cdv ct v y z : Value), bindArgs (PySem.W.fnOf "__init__" qual (defArgs st) (defBody st) (defScope st) .none kV doc pm an cdv ct) ⟨[v], [(f2, z), (f, y)]⟩ = pure [(("self" : Str), v), (f, y), (f2, z)]) : ClsI P w K mg base 1 x C [f, f2] where
  T := G.T
  hm := PySem.W.mg_of KX Gn G.ns
  no := G.no
  ex := ⟨fI, fd, G.iC, G.tI, F, G.fn.binds fun kV doc pm an cdv ct us hl => match us, hl with | [v, y, z], _ => hb kV doc pm an cdv ct v y z, fun s v ws KI hl => by
    match ws, hl with
    | [z, y], _ =>
      obtain ⟨oc, od, kV, doc, pm, an, cdv, ct, osl, rfl, lk, hcd⟩ := G.fn.ex
      exact .of_eq (hk kV doc pm an cdv ct v y z)⟩
end
end Vk
namespace Vk
open L2 PySem PySem.Spec PyProof.Rows PySem.VkX
theorem two_upd {H : Hp} {a d : Addr} {o1 o2 o3 : HO} (h : d ≠ a) : upd (upd (upd H d o1) a o2) d o3 = upd (upd H d o3) a o2 := by
  funext b
  by_cases hb : b = d
  · subst hb; rw [upd_same, upd_ne h, upd_same]
  · rw [upd_ne hb]
    by_cases ha : b = a
    · subst ha; rw [upd_same, upd_same]
    · rw [upd_ne ha, upd_ne ha, upd_ne hb, upd_ne hb]
end Vk
set_option Elab.async false
set_option maxRecDepth 100000
set_option maxHeartbeats 4000000
set_option linter.all false
namespace Vk
open L2 PySem PySem.Spec PyProof.Rows PySem.VkX
/-! ## values that are shown, dicts among them -/
inductive Atm : V → PyData → Prop
  | non : Atm .non .none
  | bl (b : Bool) : Atm (.bl b) (.bool b)
  | int (i : Int) : Atm (.int i) (.int i)
  | str (x : Str) : Atm (.str x) (.str x)
def kvS (ps : List (Str × Str)) : List (Key × V) := ps.map fun p => (Sum.inr p.1, V.str p.2)
def kvD (ps : List (Str × Str)) : List (PyData × PyData) := ps.map fun p => (.str p.1, .str p.2)
/-- one level deep -/
inductive Th (H : Hp) : V → PyData → Prop
  | atm {v : V} {d : PyData} : Atm v d → Th H v d
  | lst {a : Addr} {xs : List V} {ds : List PyData} : H a = some (.lst xs) → a ≠ sysModules → Paired Atm xs ds → Th H (.ref a) (.list ds)
  | tup {a : Addr} {xs : List V} {ds : List PyData} : H a = some (.tup xs) → Paired Atm xs ds → Th H (.ref a) (.tuple ds)
  | dct {a : Addr} {ps : List (Str × Str)} : H a = some (.dK (kvS ps)) → Th H (.ref a) (.dict (kvD ps))
theorem Th.keep {H H' : Hp} {v : V} {d : PyData} (h : Th H v d) (k : ∀ a o, H a = some o → H' a = some o) : Th H' v d := by
  cases h with
  | atm h => exact .atm h
  | lst e n h => exact .lst (k _ _ e) n h
  | tup e h => exact .tup (k _ _ e) h
  | dct e => exact .dct (k _ _ e)
section
variable {X : Cx} {pins : List (Addr × Obj)} {σ : L2.St} {H : Hp} {s : Shared}
theorem Atm.reads {h : Heap} {v : V} {u : Value} {d : PyData} (a : Atm v d) (r : RelV v u) : Reads h u d [] ∧ d.hasDict = false := by
  cases a with
  | non => cases r; exact ⟨Reads.none, by simp only [PyData.hasDict]⟩
  | bl b => cases r; exact ⟨Reads.bool b, by simp only [PyData.hasDict]⟩
  | int i => obtain ⟨t, rfl⟩ := r; exact ⟨Reads.int i t, by simp only [PyData.hasDict]⟩
  | str x => obtain ⟨t, rfl⟩ := r; exact ⟨Reads.str x t, by simp only [PyData.hasDict]⟩
theorem atms_reads {h : Heap} : ∀ {vs : List V} {ds : List PyData} {us : List Value}, Paired Atm vs ds → Vals vs us → ReadsAll h us ds [] ∧ PyData.hasDictAll ds = false
  | _, _, _, .nil, .nil => ⟨ReadsAll.nil, by simp only [PyData.hasDictAll]⟩
  | _, _, _, .cons a t, .cons r rs => by
    obtain ⟨h1, n1⟩ := a.reads (h := h) r
    obtain ⟨h2, n2⟩ := atms_reads (h := h) t rs
    exact ⟨ReadsAll.cons h1 h2, by simp only [PyData.hasDictAll, n1, n2, Bool.or_false]⟩
theorem strs_read {P : Program} {w : World} {h : Heap} : ∀ {ps : List (Str × Str)} {vs : List (Key × Value)} {es : List DictEntry}, KV (kvS ps) vs → Pairs (mixKind P w) es vs →
    ReadsAll h (es.map (·.key)) ((kvD ps).map (·.1)) [] ∧ ReadsAll h (es.map (·.val)) ((kvD ps).map (·.2)) []
  | [], _, _, .nil, .nil => ⟨ReadsAll.nil, ReadsAll.nil⟩
  | p :: ps, _, _, .cons a t, .cons k v r => by
    obtain ⟨h1, h2⟩ := strs_read (P := P) (w := w) (h := h) (ps := ps) t r
    obtain ⟨e1, e2⟩ := a
    rw [mixKind_is, ← e1] at k
    obtain ⟨y, ey⟩ := (show ∃ y, _ = Value.str p.2 y from e2)
    rcases keyIs_shape k with ⟨i, t, z, _⟩ | ⟨x, t, z, z2⟩
    · cases z
    · cases z
      refine ⟨?_, ?_⟩
      · have q := ReadsAll.cons (Reads.str (h := h) p.1 t) h1
        rw [← z2] at q
        exact q
      · have q := ReadsAll.cons (Reads.str (h := h) p.2 y) h2
        rw [← ey, ← v] at q
        exact q
theorem Th.reads (I : Inv X pins σ H s) {v : V} {u : Value} {d : PyData} (h : Th H v d) (r : RelV v u) : ∃ as, Reads s.heap u d as ∧ sysModules ∉ as := by
  cases h with
  | atm a =>
    obtain ⟨h1, n⟩ := a.reads (h := s.heap) r
    exact ⟨_, h1, List.not_mem_nil⟩
  | lst e ne a =>
    cases r
    obtain ⟨its, rv, ⟨o, n, ho, hc, _, hd⟩, _⟩ := I.list (SqL.of e)
    obtain ⟨h1, n1⟩ := atms_reads (h := s.heap) a rv
    exact ⟨_, Reads.list ho hc hd h1, fun z => by simp at z; exact ne z.symm⟩
  | tup e a =>
    cases r
    obtain ⟨its, rv, ⟨o, ho, hc, n, hd⟩, _⟩ := I.tuple (SqT.of e)
    obtain ⟨h1, n1⟩ := atms_reads (h := s.heap) a rv
    exact ⟨_, Reads.tuple ho hc hd h1, List.not_mem_nil⟩
  | @dct a ps e =>
    cases r
    obtain ⟨_, ne, vs, kv, o, es, ep, ho, ex, hd, _, pr, _⟩ := (show ObjOk X.prog X.w H s.heap a (.dK (kvS ps)) from I.hok a _ e)
    obtain ⟨h1, h2⟩ := strs_read (h := s.heap) kv pr
    refine ⟨_, Reads.dict ho ex.1 hd h1 h2, fun hm => ?_⟩
    have z : sysModules = a := by simpa using hm
    rw [← z] at ne
    exact absurd ne (by decide)
/-- what is handed to repr -/
def Shw (H : Hp) (x : V) (d : PyData) : Prop := Th H x d ∨ ∃ q y e, x = .ref q ∧ H q = some (.lst [y, y]) ∧ q ≠ sysModules ∧ Th H y e ∧ d = .list [e, e]
theorem Shw.reads (I : Inv X pins σ H s) {v : V} {u : Value} {d : PyData} (h : Shw H v d) (r : RelV v u) : ∃ as, Reads s.heap u d as ∧ (d.hasDict = true → sysModules ∉ as) := by
  rcases h with h | ⟨q, y, d, rfl, e, ne, t, rfl⟩
  · obtain ⟨as, h1, n1⟩ := h.reads I r
    exact ⟨as, h1, fun _ => n1⟩
  · cases r
    obtain ⟨its, rv, ⟨o, n, ho, hc, _, hd⟩, _⟩ := I.list (SqL.of e)
    cases rv with
    | cons r1 rv =>
      cases rv with
      | cons r2 rv =>
        cases rv
        obtain ⟨as, h1, n1⟩ := t.reads I r1
        obtain ⟨bs, h2, n2⟩ := t.reads I r2
        refine ⟨_, Reads.list ho hc hd (ReadsAll.cons h1 (ReadsAll.cons h2 ReadsAll.nil)), fun z => ?_⟩
        simp only [PyData.hasDict, PyData.hasDictAll, Bool.or_false, Bool.or_self] at z
        have m1 := n1
        have m2 := n2
        simp only [List.append_nil, List.mem_cons, List.mem_append, not_or]
        exact ⟨fun w => ne w.symm, m1, m2⟩
end
section
variable {X : Cx} {es : List Expr} {pos : Pos} {t : TA}
end
end Vk
set_option Elab.async false
set_option maxRecDepth 100000
set_option maxHeartbeats 4000000
set_option linter.all false
namespace Vk
open L2 PySem PySem.Spec PyProof.Rows PySem.VkX
/-! ## isinstance among own exception classes -/
section
variable {K : PySem.W.Frag} {C D : Addr} {x y : Str} {tl tl2 : List Value}
theorem ClsN.cls (c : ClsN K C x tl) : ∃ cd, PySem.W.clsIn K C = some cd ∧ cd.name = x ∧ cd.mro = .ref C :: tl ∧ PySem.W.typeIn K (.ref C) = some (.type "type") := by
  obtain ⟨newId, q, N, bs, sn, sub, ab, col, dd, k0, k1, k2, k3, k5, e⟩ := c
  refine ⟨{ name := x, bases := bs, mro := .ref C :: tl, ns := N, qualname := q, hasDict := true, slotNames := sn, subclasses := sub, abstract := ab, collection := col, hasDel := false }, ?_, rfl, rfl, ?_⟩
  · unfold PySem.W.clsIn; rw [e] <;> rfl
  · show (K.lookup C).map (·.cls) = _
    rw [e] <;> rfl
theorem ClsN.inj (c : ClsN K C x tl) (d : ClsN K D y tl2) : (C == D) = true → x = y := by
  intro h
  have e : C = D := by simpa using h
  subst e
  obtain ⟨cd, h1, h2, _⟩ := c.cls
  obtain ⟨ce, g1, g2, _⟩ := d.cls
  cases h1.symm.trans g1
  exact h2.symm.trans g2
/-- what stands at a name is one class -/
structure One (K : PySem.W.Frag) (C : Addr) (x : Str) (tl : List Value) : Prop where
  cn : ClsN K C x tl
  ns : PySem.W.nsIn K mainGlobals x = some (some (.ref C))
  rf : tl.all (fun v => match v with | .type _ => true | _ => false) = true
end
/-! ## list.count -/
/-! ## a comprehension over zip of two lists of one length -/
end Vk
set_option Elab.async false
set_option maxRecDepth 100000
set_option maxHeartbeats 4000000
set_option linter.all false
namespace Vk
open L2 PySem PySem.Spec PyProof.Rows PySem.VkX
/-! ## what is laid, told by what it shows -/
theorem Same.rfl {H : Hp} : Same H H := fun _ _ h => h
theorem Same.trans {H H1 H2 : Hp} (a : Same H H1) (b : Same H1 H2) : Same H H2 := fun c o h => b c o (a c o h)
def Mk (t : TE) (d : PyData) : Prop := ∀ σ H Q, (∀ v H', Same H H' → Th H' v d → Q v H') → t σ H Q
section
variable {t te : TE} {ta : TA} {d : PyData} {ds : List PyData}
theorem paired_len {α β : Type} {R : α → β → Prop} : ∀ {xs : List α} {ys : List β}, Paired R xs ys → xs.length = ys.length
  | _, _, .nil => rfl
  | _, _, .cons _ t => congrArg (· + 1) (paired_len t)
theorem ths_keep {H H' : Hp} (k : Same H H') : ∀ {vs : List V} {ds : List PyData}, Paired (Th H) vs ds → Paired (Th H') vs ds
  | _, _, .nil => .nil
  | _, _, .cons a t => .cons (a.keep k) (ths_keep k t)
theorem paired_app {α β : Type} {R : α → β → Prop} : ∀ {xs : List α} {ys : List β} {us : List α} {vs : List β}, Paired R xs ys → Paired R us vs → Paired R (xs ++ us) (ys ++ vs)
  | _, _, _, _, .nil, b => b
  | _, _, _, _, .cons a t, b => .cons a (paired_app t b)
theorem paired_mem {α β : Type} {R : α → β → Prop} : ∀ {xs : List α} {ys : List β} {x : α}, Paired R xs ys → x ∈ xs → ∃ y, y ∈ ys ∧ R x y
  | _, _, _, .cons a t, h => by
    rcases List.mem_cons.mp h with rfl | h
    · exact ⟨_, List.mem_cons_self, a⟩
    · obtain ⟨y, h1, h2⟩ := paired_mem t h
      exact ⟨y, List.mem_cons_of_mem _ h1, h2⟩
end
/-- nothing of such a value is the pen -/
theorem Th.ext {H H' : Hp} {p c : Addr} {T : Nat} {v : V} {d : PyData} (h : Th H v d) (hp : Pen H p c T) (x : Ext p H H') : Th H' v d := by
  obtain ⟨ns, t, l, hpp, _⟩ := hp.ex
  cases h with
  | atm a => exact .atm a
  | lst e n a => exact .lst (x _ _ e (fun z => by rw [z, hpp] at e; cases e)) n a
  | tup e a => exact .tup (x _ _ e (fun z => by rw [z, hpp] at e; cases e)) a
  | @dct a ps e =>
    refine .dct (x _ _ e (fun z => ?_))
    rw [z, hpp] at e
    have e2 : penL c t l = kvS ps := HO.dK.inj (Option.some.inj e)
    match ps, e2 with
    | [], e2 => cases e2
    | q :: r, e2 =>
      have z := congrArg (fun l => (l.head?).map (·.2)) e2
      cases z
end Vk
namespace Vk
open L2 PySem PySem.Spec PyProof.Rows PySem.VkX
theorem seq_asg {te : TE} {g : TG} {u : TS} {D : Ends} {σ : L2.St} {H : Hp} (h : te σ H fun v H1 => g v σ H1 (u D)) : tSeq (tAsg te g) u D σ H := h
end Vk
namespace Vk
open L2 PySem PySem.Spec PyProof.Rows PySem.VkX
end Vk
set_option Elab.async false
set_option maxRecDepth 100000
set_option maxHeartbeats 4000000
set_option linter.all false
namespace Vk
open L2 PySem PySem.Spec PyProof.Rows PySem.VkX
/-! ## several except clauses, with a name or without -/
abbrev Sui := Addr → Value → Option Addr → TS
inductive Clz
  | only (c : Value) (ts : Sui)
  | named (c : Value) (i : Nat) (ts : Sui)
def SuiOk (X : Cx) (ss : List Stmt) (ts : Sui) : Prop := ∀ (a : Addr) (oe : Obj) (cls : Value) (d : Option Addr) (pn : List (Addr × Obj)), Zc cls d oe → (∃ vs, oe.data = .fields vs) → PSs (X.suite a ((a, oe) :: pn)) ss (ts a cls d)
inductive ClzOk (X : Cx) : List ExceptHandler → List Clz → Prop
  | nil : ClzOk X [] []
  | only {x : Str} {c : Value} {ts : Sui} {s0 : Stmt} {ss : List Stmt} {p1 p2 : Pos} {hs : List ExceptHandler} {l : List Clz} (hc : Names X x c) (su : SuiOk X (s0 :: ss) ts) (r : ClzOk X hs l) : ClzOk X (.ExceptHandler (some (.Name x p1)) none (s0 :: ss) p2 :: hs) (.only c ts :: l)
  | named {x n : Str} {c : Value} {i : Nat} {ts : Sui} {s0 : Stmt} {ss : List Stmt} {p1 p2 : Pos} {hs : List ExceptHandler} {l : List Clz} (hi : X.N[i]? = some n) (hl : X.env.kindOf n = some .local) (hc : Names X x c) (su : SuiOk X (s0 :: ss) ts) (r : ClzOk X hs l) :
      ClzOk X (.ExceptHandler (some (.Name x p1)) (some n) (s0 :: ss) p2 :: hs) (.named c i ts :: l)
section
variable {X : Cx} {body : List Stmt} {e0 : ExceptHandler} {es : List ExceptHandler} {l : List Clz} {pos : Pos} {tb : WX → TS} {W0 : WX}
end
end Vk
set_option Elab.async false
set_option maxRecDepth 100000
set_option maxHeartbeats 4000000
set_option linter.all false
namespace Vk
open L2 PySem PySem.Spec PyProof.Rows PySem.VkX
/-! ## C(e, ..) to be raised -/
theorem oex_type {K : PySem.W.Frag} {C : Addr} (T : OexK K C) : PySem.W.typeIn K (.ref C) = some (.type "type") := by
  obtain ⟨B, newId, initId, tl, nm, q1, N, bs, sn, sub, ab, col, dd, k0, k1, k2, k3, k5, hB, hC⟩ := T.cls
  show (K.lookup C).map (·.cls) = _
  rw [hC] <;> rfl
def tMkE (C : Addr) (fsn : List Str) (ta : TA) : L2.St → Hp → XK → Prop := fun σ H Q => ta σ H fun vs H1 => vs.length = fsn.length ∧ ∀ d, H1 d = none → Q (.ref C) (some d) (upd H1 d (.xd (fsn.zip vs).reverse))
theorem let_go {H : Hp} {a d : Addr} {o1 o2 o3 : HO} (n : H a = none) (ne : d ≠ a) : upd (del (upd (upd H d o1) a o2) a) d o3 = upd H d o3 := by
  funext b
  by_cases hd : b = d
  · subst hd; rw [upd_same, upd_same]
  · rw [upd_ne hd, upd_ne hd]
    by_cases ha : b = a
    · subst ha; rw [del_same, n]
    · rw [del_ne ha, upd_ne ha, upd_ne hd]
section
variable {X : Cx} {j k : Nat} {x : Str} {C : Addr} {fsn : List Str} {p pos : Pos} {e : Expr} {es : List Expr} {t : TA}
theorem pmk_k (c : ClsI X.prog X.w X.K X.mg X.base k x C fsn) (hg : X.A.guards = some []) (hr : Room j X.A) (hk : k + 1 ≤ j) (hx : Passes CX0 X (fun _ _ _ => False)) (ha : PA X (e :: es) t) (hn : fsn.length ≤ 1000 := by decide) (h0 : fsn ≠ [] := by decide) (gl : Gl X x := by rfl)
    (hdb : (x == ("__debug__" : Str)) = false := by decide) (he : starEach (e :: es) X.env = (false, eval e X.env) :: starEach es X.env := by rfl) (hpl : (backTo pos (starEach es X.env)).any (·.1) = false := by rfl) :
    PMk X (.Call (.Name x p) (e :: es) [] pos) (tMkE C fsn t) := by
  intro pins s σ H Q I h
  refine wpAny_Call_Name_kw (ld_glob I gl c.hm (PySem.W.callWith_K (h₀ := X.base) I.ok.mod.kin c.T.kC (thn (ha.run pos pins s σ H _ I h) fun us s1 hh => ?_) he hpl) hdb)
  obtain ⟨vs, H1, I1, r, hl, q⟩ := hh
  refine ⟨I1.kIn, ?_⟩
  show wpAny _ _ (call (.ref C) us) _ _ _
  have hus : us.length ≤ sizeLine := few_len (by rw [← r.length, hl]; exact hn)
  obtain ⟨fI, fd, iC, tI, F, hbn, hbk⟩ := c.ex
  obtain ⟨B, newId, initId, tl, nm, q1, N, bs, sn, sub, ab, col, dd, k0, k1, k2, k3, k5, hB, hC⟩ := c.T.cls
  obtain ⟨hp, g, dr, tk, os⟩ := s1
  have big : hp.objs.size ≤ hp.objs.size + 1 := Nat.le_succ _
  have new1 : H1 (hp.objs.size + 1) = none := I1.hok.fresh big
  have kept : ∀ b o, hp.get? b = some o → ((hp.push (PySem.W.kdv_tup us)).push (PySem.HandSPX.excO C hp.objs.size)).get? b = some o := fun b o z => Heap.get?_push_of_some _ (Heap.get?_push_of_some _ z)
  have put : ((hp.push (PySem.W.kdv_tup us)).push (PySem.HandSPX.excO C hp.objs.size)).get? (hp.objs.size + 1) = some (PySem.HandSPX.excO C hp.objs.size) := by heap_get
  have I2 : Inv X pins σ (upd H1 (hp.objs.size + 1) (exo (hp.objs.size + 1) C none)) ⟨(hp.push (PySem.W.kdv_tup us)).push (PySem.HandSPX.excO C hp.objs.size), g, dr, tk, os⟩ :=
    I1.laid (t' := tk) (a := hp.objs.size + 1) (o := exo (hp.objs.size + 1) C none) kept big (exo_ok put)
  have sp1 : spIni C fsn (V.ref (hp.objs.size + 1) :: vs) (upd H1 (hp.objs.size + 1) (exo (hp.objs.size + 1) C none))
      (fun v H2 => v = .non ∧ ∃ d, H1 d = none ∧ d ≠ hp.objs.size + 1 ∧ H2 = upd (upd H1 d (exd d (fsn.zip vs).reverse)) (hp.objs.size + 1) (exo (hp.objs.size + 1) C (some d))) (fun _ _ _ => False) := by
    refine ⟨_, vs, rfl, hl, upd_same, fun z => absurd z h0, fun z d hd ne => ⟨rfl, d, ?_, ne, upd_over ne⟩⟩
    rw [upd_ne ne] at hd
    exact hd
  have bound := hbn ⟨(hp.push (PySem.W.kdv_tup us)).push (PySem.HandSPX.excO C hp.objs.size), g, dr, tk, os⟩ (.ref (hp.objs.size + 1) :: us) I2.kIn (by simpa using (r.length.symm.trans hl))
  rw [List.append_nil] at bound
  refine wpAny_call (call_ownK hB.F (I1.kIn _ _ hC) (PySem.W.looks_findIn I1.kIn iC) (fun self => PySem.W.bind_fn I1.kIn self tI) hus
    (codeAny_mono (F.run _ X.stack _ _ _ (Value.ref (hp.objs.size + 1) :: us) (V.ref (hp.objs.size + 1) :: vs) _ (fun _ _ _ => False) ?_ ((hr.mono hk).make C us []) (I2.env0.make C us []) bound (.cons rfl r) sp1) fun res s3 hz => ?_))
  · first
      | exact hg
      | (simpa [Around.under, Code.isGuard, guardIds] using hg)
  · match res, hz with
    | .error er, hz => exact hx pins σ _ _ er s3 I2 hz
    | .ok (.ret u), hz =>
      obtain ⟨v, H2, os2, bare2, un2, hok2, rv, ev, d, hd1, ne, eH⟩ := hz
      subst ev
      subst eH
      obtain ⟨h2, g2, d2, t2, osx⟩ := s3
      refine ⟨rv, mk_end (raises_own c.T.xf.exC (oex_type c.T)) I1 big kept un2 hok2 os2 bare2 upd_same ((upd_ne ne).trans upd_same) hd1 ?_⟩
      rw [let_go new1 ne]
      exact q d hd1
    | .ok .next, hz => exact hz.elim
    | .ok .brk, hz => exact hz.elim
    | .ok .cont, hz => exact hz.elim
end
end Vk
set_option Elab.async false
set_option maxRecDepth 100000
set_option maxHeartbeats 4000000
set_option linter.all false
namespace Vk
open L2 PySem PySem.Spec PyProof.Rows PySem.VkX
/-! ## instances of own classes whose __init__ may raise, made by position and by all keywords in the other order -/
structure MakI (P : Program) (w : World) (K : PySem.W.Frag) (mg : Str → Option Value) (base : Heap) (CX : CXT) (k : Nat) (x : Str) (C : Addr) (fsn : List Str) (sp : Sp) : Prop where
  hm : mg x = some (.ref C)
  ex : ∃ (fI : Addr) (fd : FuncData), L2.Mk K C fI ∧ FnG P w K mg base CX k fI fd (("self" : Str) :: fsn) sp ∧ Binds K fd (("self" : Str) :: fsn) [] ∧
    (∀ (s : Shared) (v : Value) (ws : List Value), K.In s.heap → ws.length = fsn.length → BindsTo s fd ⟨[v], fsn.reverse.zip ws⟩ ((("self" : Str) :: fsn).zip (v :: ws.reverse)))
def Born (C : Addr) (sp : Sp) (vs : List V) (H : Hp) (Q : VK) (E : XK) : Prop := ∀ a dx, H a = none → H dx = none → dx ≠ a → sp (.ref a :: vs) (upd (upd H dx (.own a)) a (.ins C dx [])) (fun v H2 => v = .non ∧ Q (.ref a) H2) E
section
variable {X : Cx} {CX : CXT} {E : XK} {j k : Nat} {x : Str} {C : Addr} {fsn : List Str} {sp : Sp} {p pos : Pos} {e : Expr} {es : List Expr} {t : TA}
theorem born_run {pins : List (Addr × Obj)} {σ : L2.St} {H : Hp} {s : Shared} {Q : VK} {us : List Value} {kw : List (Str × Value)} {vs : List V} {zs : List Value} {fI : Addr} {fd : FuncData} (M : L2.Mk X.K C fI) (F : FnG X.prog X.w X.K X.mg X.base CX k fI fd (("self" : Str) :: fsn) sp)
    (hg : X.A.guards = some []) (hr : Room (k + 1) X.A) (hx : Passes CX X E) (I : Inv X pins σ H s) (r : Vals vs zs) (q : Born C sp vs H Q E)
    (hb : ∀ s2 : Shared, X.K.In s2.heap → ∀ a : Addr, BindsTo s2 fd ⟨.ref a :: us, kw⟩ ((("self" : Str) :: fsn).zip (.ref a :: zs))) : wpAny (model X.prog X.w) X.A (call (.ref C) us kw) (EP X pins σ Q) X.xe s := by
  have I2 := Inv.made (C := C) I
  have asked := q (s.heap.objs.size + 1) s.heap.objs.size (I.hok.fresh (Nat.le_succ _)) (I.hok.fresh (Nat.le_refl _)) (Nat.ne_of_lt (Nat.lt_succ_self _))
  refine wpAny_call (make_map (f := fI) I.kIn M.makes M.init (beq_iff_eq.mp M.fn) (codeAny_mono (F.run _ X.stack _ _ _ (Value.ref (s.heap.objs.size + 1) :: zs) (V.ref (s.heap.objs.size + 1) :: vs) _ E ?_ (hr.make C us kw) (I2.env0.make C us kw) (hb _ I2.kIn _) (.cons rfl r) asked) fun res s3 hz => ?_))
  · first
      | exact hg
      | (simpa [Around.under, Code.isGuard, guardIds] using hg)
  · match res, hz with
    | .error er, hz => exact hx pins σ _ _ er s3 I2 hz
    | .ok (.ret u), hz =>
      obtain ⟨v, H2, I3, rv, ev, q3⟩ := I2.after hz
      subst ev
      exact ⟨rv, V.ref (s.heap.objs.size + 1), H2, I3, rfl, q3⟩
    | .ok .next, hz => exact hz.elim
    | .ok .brk, hz => exact hz.elim
    | .ok .cont, hz => exact hz.elim
def tIns (C : Addr) (n : Nat) (sp : Sp) (E : XK) (t : TA) : TE := fun σ H Q => t σ H fun vs H1 => vs.length = n ∧ Born C sp vs H1 Q E
theorem pe_ins (c : MakI X.prog X.w X.K X.mg X.base CX k x C fsn sp) (hg : X.A.guards = some []) (hr : Room j X.A) (hk : k + 1 ≤ j) (hx : Passes CX X E) (ha : PA X (e :: es) t) (gl : Gl X x := by rfl)
    (hdb : (x == ("__debug__" : Str)) = false := by decide) (he : starEach (e :: es) X.env = (false, eval e X.env) :: starEach es X.env := by rfl) (hpl : (backTo pos (starEach es X.env)).any (·.1) = false := by rfl) :
    PE X (.Call (.Name x p) (e :: es) [] pos) (tIns C fsn.length sp E t) := by
  obtain ⟨fI, fd, M, F, hb, hbk⟩ := c.ex
  refine ⟨fun pins s σ H Q I h => wpAny_Call_Name_kw (ld_glob I gl c.hm (PySem.W.callWith_K (h₀ := X.base) I.ok.mod.kin M.kp (thn (ha.run pos pins s σ H _ I h) fun us s1 hh => ?_) he hpl) hdb)⟩
  obtain ⟨vs, H1, I1, r, hl, q⟩ := hh
  refine ⟨I1.kIn, born_run (us := us) (kw := []) M F hg (hr.mono hk) hx I1 r q fun s2 K2 a => ?_⟩
  have b := hb s2 (.ref a :: us) K2 (by simpa using (r.length.symm.trans hl))
  rw [List.append_nil] at b
  exact b
end
end Vk
set_option Elab.async false
set_option maxRecDepth 100000
set_option maxHeartbeats 4000000
set_option linter.all false
namespace Vk
open L2 PySem PySem.Spec PyProof.Rows PySem.VkX LamX NdefX
/-! ## a lambda as a value: made in a def, kept in lists, handed to a def that calls it -/
structure LF where
  qual : Str
  params : Arguments
  body : Expr
  scope : Scope
  cl : List (Str × Addr)
  c : Addr
def LamO (f : Addr) (F : LF) : HO := .ext fun h => ∃ pm ctv : Value, h.get? f = some (PySem.W.kla_obj "<lambda>" F.qual F.params F.body F.scope F.cl pm F.c ctv)
section
variable {X : Cx} {pins : List (Addr × Obj)} {σ : L2.St} {H : Hp} {s : Shared}
end
section
variable {X : Cx}
end
/-! ### what it does -/
abbrev SpL := List (Option V) → Hp → VK → XK → Prop
structure LamK (P : Program) (w : World) (K : PySem.W.Frag) (mg : Str → Option Value) (base : Heap) (k : Nat) (F : LF) (fr : List Str) (sp : SpL) : Prop where
  run : ∀ (A : Around) (outer : List Env) (s : Shared) (H : Hp) (f : Addr) (ws : List (Option V)) (Q : VK) (E : XK), A.guards = some [] → Room k A → Env0 P w K mg base A outer s H → H f = some (LamO f F) → H F.c = some (CodeO F.c F.qual) → CellsAt F.cl fr ws s.heap H → sp ws H Q E →
    codeAny (model P w) A (.call (.ref f) ⟨[], []⟩) (CR (L2.CX P w) outer P w H s Q E) s
section
variable {P : Program} {w : World} {K : PySem.W.Frag} {mg : Str → Option Value} {base : Heap} {N fr : List Str} {F : LF} {k j : Nat} {sp : SpL}
theorem LamK.mono (l : LamK P w K mg base j F fr sp) (h : j ≤ k) : LamK P w K mg base k F fr sp := ⟨fun A outer s H f ws Q E hg hr => l.run A outer s H f ws Q E hg (hr.mono h)⟩
end
/-! ### called by the def that got it -/
section
variable {X : Cx} {F : LF} {fr : List Str} {ws : List (Option V)} {i j k : Nat} {x : Str} {sp : SpL} {E : XK} {p pos : Pos} {f0 : Addr}
end
/-! ### defs whose promise speaks of the cells that the heap holds -/
structure FnH (P : Program) (w : World) (K : PySem.W.Frag) (mg : Str → Option Value) (base : Heap) (CX : CXT) (k : Nat) (f : Addr) (fd : FuncData) (ps : List Str) (sp : Heap → Sp) : Prop where
  len : ∀ h vs H Q E, sp h vs H Q E → vs.length = ps.length
  run : ∀ (A : Around) (outer : List Env) (s : Shared) (H : Hp) (args : Args) (us : List Value) (vs : List V) (Q : VK) (E : XK), A.guards = some [] → Room k A → Env0 P w K mg base A outer s H → BindsTo s fd args (ps.zip us) → Vals vs us → sp s.heap vs H Q E →
    codeAny (model P w) A (.call (.ref f) args) (CR CX outer P w H s Q E) s
structure CalH (P : Program) (w : World) (K : PySem.W.Frag) (mg : Str → Option Value) (base : Heap) (CX : CXT) (k : Nat) (x : Str) (sp : Heap → Sp) : Prop where
  ex : ∃ (f : Addr) (fd : FuncData) (ps : List Str), FnH P w K mg base CX k f fd ps sp ∧ mg x = some (.ref f) ∧ PySem.W.keepIn K (.ref f) = true ∧ Binds K fd ps []
section
variable {X : Cx} {CX : CXT} {j k : Nat} {x : Str} {sp : Heap → Sp} {E : XK} {p pos : Pos} {e : Expr} {es : List Expr} {t : TA} {rd : L2.St → List V → Hp → VK → Prop}
end
/-! ### isinstance(e, T) of a caught exception that has fields -/
/-! ### a def whose code object is known -/
structure FunC (K : PySem.W.Frag) (x qual : Str) (st : Stmt) (f : Addr) (fd : FuncData) (c : Addr) : Prop where
  ex : ∃ (oc : Value) (od : Option Addr) (kV doc pm : Value) (an : Option Addr) (ct : Value) (sl : Array (Option Value)), fd = PySem.W.fnOf x qual (defArgs st) (defBody st) (defScope st) .none kV doc pm an (.ref c) ct ∧ K.lookup f = some ⟨oc, od, .func fd, sl⟩ ∧ PySem.W.codeIn K (.ref c) qual = true
  kp : PySem.W.keepIn K (.ref f) = true
theorem FunC.fn {K : PySem.W.Frag} {x qual : Str} {st : Stmt} {f c : Addr} {fd : FuncData} (F : FunC K x qual st f fd c) : Fun K x qual st f fd := by
  obtain ⟨oc, od, kV, doc, pm, an, ct, sl, e, l, hc⟩ := F.ex
  exact ⟨⟨oc, od, kV, doc, pm, an, .ref c, ct, sl, e, l, hc⟩, F.kp⟩
end Vk
set_option Elab.async false
set_option maxRecDepth 100000
set_option maxHeartbeats 4000000
set_option linter.all false
namespace Vk
open PySem PySem.Spec PyProof.Rows PySem.SeqAt L2
open Builtin
section
variable {prog : Program} {w : World} {A : Around} {E : Value → Shared → Prop} {s : Shared} {K : PySem.W.Frag} {x C : Addr} {ox : Obj} {od : Option Obj}
end
end Vk
set_option Elab.async false
set_option maxRecDepth 100000
set_option maxHeartbeats 4000000
set_option linter.all false
namespace Vk
open PySem PySem.Spec PyProof.Rows PySem.SeqAt L2
open Builtin
/-! ## == and != and in, on the left an instance of an own class with its own == -/
inductive TyE (H : Hp) : V → Value → Prop
  | non : TyE H .non (.type "NoneType")
  | bl (b : Bool) : TyE H (.bl b) (.type "bool")
  | int (i : Int) : TyE H (.int i) (.type "int")
  | str (z : Str) : TyE H (.str z) (.type "str")
  | tup {a : Addr} {xs : List V} (e : H a = some (.tup xs)) : TyE H (.ref a) (.type "tuple")
  | lst {a : Addr} {xs : List V} (e : H a = some (.lst xs)) : TyE H (.ref a) (.type "list")
  | ins {a C dx : Addr} {fs : List (Str × V)} (e : H a = some (.ins C dx fs)) : TyE H (.ref a) (.ref C)
section
variable {X : Cx} {pins : List (Addr × Obj)} {σ : L2.St} {H : Hp} {s : Shared}
end
/-- the own == of the class at C -/
structure EqI (P : Program) (w : World) (K : PySem.W.Frag) (mg : Str → Option Value) (base : Heap) (k : Nat) (C : Addr) (sp : Sp) : Prop where
  ex : ∃ (f : Addr) (fd : FuncData), PySem.W.findIn K (.ref C) "__eq__" = some (some (.ref f)) ∧ PySem.W.isFn K (.ref f) = true ∧ FnOk P w K mg base CX0 k f fd ["self", "other"] sp ∧ Binds K fd ["self", "other"] []
  ne : PySem.W.findIn K (.ref C) "__ne__" = some (some (.builtin "object.__ne__"))
  obj : PySem.W.mroIn K C (.type "object") = some true
  no1 : PySem.W.mroIn K C (.type "tuple") = some false
  no2 : PySem.W.mroIn K C (.type "list") = some false
  no3 : PySem.W.mroIn K C (.type "str") = some false
  no4 : PySem.W.mroIn K C (.type "NoneType") = some false
section
variable {X : Cx} {k j : Nat} {C : Addr} {sp : Sp}
/-- the items that give way to the instance's own == -/
inductive Dec (H : Hp) : V → Prop
  | non : Dec H .non
  | str (z : Str) : Dec H (.str z)
  | tup {a : Addr} {xs : List V} (e : H a = some (.tup xs)) : Dec H (.ref a)
  | lst {a : Addr} {xs : List V} (e : H a = some (.lst xs)) : Dec H (.ref a)
end
end Vk
set_option Elab.async false
set_option maxRecDepth 100000
set_option maxHeartbeats 4000000
set_option linter.all false
namespace Vk
open PySem PySem.Spec PyProof.Rows L2 StX
/-! ## def f(self, *parts), with nothing under way -/
def FnRG (P : Program) (w : World) (K : PySem.W.Frag) (mg : Str → Option Value) (base : Heap) (CX : CXT) (k : Nat) (f : Addr) (sp : Sp) : Prop :=
  ∀ (A : Around) (outer : List Env) (s : Shared) (H : Hp) (us : List Value) (vs : List V) (Q : VK) (E : XK), A.guards = some [] → Room k A → Env0 P w K mg base A outer s H → Vals vs us → sp vs H Q E →
    codeAny (model P w) A (.call (.ref f) ⟨us, []⟩) (CR CX outer P w H s Q E) s
theorem passesF {X : Cx} : Passes (L2.CX X.prog X.w) X (fun _ _ _ => False) := by
  rintro pins σ H s e s' I ⟨a, B, H', cls, d, _, _, _, _, _, _, _, h⟩
  exact h.elim
section
variable {CX : CXT} {P : Program} {w : World} {K : PySem.W.Frag} {mg : Str → Option Value} {base : Heap} {k : Nat} {x qual : Str} {st : Stmt} {f : Addr} {fd : FuncData} {N ps : List Str} {sp : Sp}
theorem okStar {pv : Str} (F : Fun K x qual st f fd) (S : FnScope N (ps ++ [pv]) (defScope st)) (hCX : CXUp CX)
    (hb : ∀ (kV doc pm : Value) (an : Option Addr) (cdv ct : Value) (us rest : List Value), us.length = ps.length → bindArgs (PySem.W.fnOf x qual (defArgs st) (defBody st) (defScope st) .none kV doc pm an cdv ct) ⟨us ++ rest, []⟩ = (newTuple rest >>= fun t => pure (ps.zip us ++ [(pv, t)])))
    (body : ∀ (cdv : Value) (A : Around) (outer : List Env) (s : Shared) (H : Hp) (vs : List V) (Q : VK) (E : XK), A.guards = some [] → Room k (A.deeper (envOfC qual (defScope st) s.heap.objs.size f cdv)) → sp vs H Q E →
      ∃ t, PSs (cxOf CX P w K mg base N qual (defScope st) f cdv A outer s H E) (defBody st) t ∧ t { nx := fun _ H' => Q .non H', rt := Q } (start N vs) H) :
    FnRG P w K mg base CX (k + 1) f (fun vs H Q E => ∃ ws rest, vs = ws ++ rest ∧ ws.length = ps.length ∧ rest.length ≤ sizeLine ∧ ∀ p, H p = none → sp (ws ++ [.ref p]) (upd H p (.tup rest)) Q E) := by
  intro A outer s H us vs Q E hg hr e0 r hsp
  obtain ⟨ws, rest, rfl, hl, hz, q⟩ := hsp
  obtain ⟨oc, od, kV, doc, pm, an, cdv, ct, osl, rfl, lk, hcd⟩ := F.ex
  obtain ⟨u1, u2, rfl, r1, r2⟩ := vals_split r
  have free : H s.heap.objs.size = none := e0.hok.fresh (Nat.le_refl _)
  have l1 : u1.length = ps.length := r1.length.symm.trans hl
  have l2 : u2.length ≤ sizeLine := by rw [← r2.length]; exact hz
  refine run_bnd lk hcd S hr e0 (G := fun xs H2 => ∃ p, H p = none ∧ xs = ws ++ [V.ref p] ∧ H2 = upd H p (.tup rest)) (fun A1 E1 Q1 h => ?_) (fun s2 H2 xs g hr2 => ?_)
  · rw [hb kV doc pm an cdv ct u1 u2 l1]
    refine wpAny_bind (wpAny_newTuple (wpAny_pure ?_) l2)
    have laid : ObjOk P w (upd H s.heap.objs.size (.tup rest)) (s.heap.push ({ cls := .type "tuple", data := .seq u2.toArray } : Obj)) s.heap.objs.size (.tup rest) := ⟨hz, u2, r2, ⟨_, Heap.get?_push_size _ rfl, rfl, _, rfl⟩⟩
    have un1 := un_laid (fs := frs outer) (s := s) (o := ({ cls := .type "tuple", data := .seq u2.toArray } : Obj)) (u := .tup rest) free
    have all := h _ _ (ws ++ [V.ref s.heap.objs.size]) (u1 ++ [Value.ref s.heap.objs.size]) (env0_laid e0 laid) un1 rfl (fun e s3 => hCX outer s H _ _ E e s3 un1 (fun b o z => Heap.get?_push_of_some _ z) rfl) (r1.append (.cons rfl .nil))
      (by rw [List.length_append, List.length_append, hl] <;> rfl) ⟨_, free, rfl, rfl⟩
    rw [List.zip_append l1.symm] at all
    exact all
  · obtain ⟨p, hp, rfl, rfl⟩ := g
    exact body cdv A outer s2 _ _ Q E hg hr2 (q p hp)
end
section
variable {X : Cx} {CX : CXT} {k j : Nat} {C f : Addr} {sp : Sp} {E : XK} {x : Str} {p pos : Pos} {e : Expr} {es : List Expr} {t : TA}
theorem star_run {pins : List (Addr × Obj)} {σ : L2.St} {H : Hp} {s : Shared} {Q : VK} {us : List Value} {vs : List V} (M : L2.Mk X.K C f) (F : FnRG X.prog X.w X.K X.mg X.base CX k f sp) (hg : X.A.guards = some []) (hr : Room (k + 1) X.A) (hx : Passes CX X E) (I : Inv X pins σ H s) (r : Vals vs us) (q : Born C sp vs H Q E) :
    wpAny (model X.prog X.w) X.A (call (.ref C) us) (EP X pins σ Q) X.xe s := by
  have I2 := Inv.made (C := C) I
  have asked := q (s.heap.objs.size + 1) s.heap.objs.size (I.hok.fresh (Nat.le_succ _)) (I.hok.fresh (Nat.le_refl _)) (Nat.ne_of_lt (Nat.lt_succ_self _))
  refine wpAny_call (make_map (f := f) I.kIn M.makes M.init (beq_iff_eq.mp M.fn) (codeAny_mono (F _ X.stack _ _ (Value.ref (s.heap.objs.size + 1) :: us) (V.ref (s.heap.objs.size + 1) :: vs) _ E ?_ (hr.make C us []) (I2.env0.make C us []) (.cons rfl r) asked) fun res s3 hz => ?_))
  · first
      | exact hg
      | (simpa [Around.under, Code.isGuard, guardIds] using hg)
  · match res, hz with
    | .error er, hz => exact hx pins σ _ _ er s3 I2 hz
    | .ok (.ret u), hz =>
      obtain ⟨v, H2, I3, rv, ev, q3⟩ := I2.after hz
      subst ev
      exact ⟨rv, V.ref (s.heap.objs.size + 1), H2, I3, rfl, q3⟩
    | .ok .next, hz => exact hz.elim
    | .ok .brk, hz => exact hz.elim
    | .ok .cont, hz => exact hz.elim
def tStarI (C : Addr) (sp : Sp) (E : XK) (t : TA) : TE := fun σ H Q => t σ H fun vs H1 => Born C sp vs H1 Q E
theorem pe_starI (M : L2.Mk X.K C f) (F : FnRG X.prog X.w X.K X.mg X.base CX k f sp) (hg : X.A.guards = some []) (hr : Room j X.A) (hk : k + 1 ≤ j) (hm : X.mg x = some (.ref C)) (hx : Passes CX X E) (ha : PA X (e :: es) t) (gl : Gl X x := by rfl) (hdb : (x == ("__debug__" : Str)) = false := by decide)
    (he : starEach (e :: es) X.env = (false, eval e X.env) :: starEach es X.env := by rfl) (hpl : (backTo pos (starEach es X.env)).any (·.1) = false := by rfl) : PE X (.Call (.Name x p) (e :: es) [] pos) (tStarI C sp E t) := by
  refine ⟨fun pins s σ H Q I h => wpAny_Call_Name_kw (ld_glob I gl hm (PySem.W.callWith_K (h₀ := X.base) I.ok.mod.kin M.kp (thn (ha.run pos pins s σ H _ I h) fun us s1 hh => ?_) he hpl) hdb)⟩
  obtain ⟨vs, H1, I1, r, q⟩ := hh
  exact ⟨I1.kIn, star_run M F hg (hr.mono hk) hx I1 r q⟩
theorem pe_starI0 (M : L2.Mk X.K C f) (F : FnRG X.prog X.w X.K X.mg X.base CX k f sp) (hg : X.A.guards = some []) (hr : Room j X.A) (hk : k + 1 ≤ j) (hm : X.mg x = some (.ref C)) (hx : Passes CX X E) (gl : Gl X x := by rfl) (hdb : (x == ("__debug__" : Str)) = false := by decide) :
    PE X (.Call (.Name x p) [] [] pos) (tStarI C sp E tNil) :=
  ⟨fun pins s σ H Q I h => wpAny_Call_Name_kw (ld_glob I gl hm (PySem.W.callWith_K0 I.kIn M.kp (star_run M F hg (hr.mono hk) hx I .nil h)) hdb)⟩
end
theorem pg_tupK {X : Cx} {K : PySem.W.Frag} {es : List Expr} {k : Nat} {t : TGs} {n : Nat} {pos : Pos} (hK : X.K = K) (hc : X.calm = true) (h : PGs X es t)
    (hn : (assignEach es X.env).length = n := by rfl) (hst : (assignEach es X.env).findIdx? (·.1) = none := by rfl) : PG X (.Tuple es k pos) (gTup K n t) := hK ▸ pg_tup hc h hn hst
end Vk
set_option Elab.async false
set_option maxRecDepth 100000
set_option maxHeartbeats 4000000
set_option linter.all false
namespace Vk
open PySem PySem.Spec PyProof.Rows L2
/-! ## for i, x in enumerate(t), t a tuple -/
theorem enum_new1 (t : Addr) (items : Array Value) : Meets (Builtin.«enumerate.__new__» ⟨[.type "enumerate", .ref t], []⟩) (fun _ R s => s.heap.IsTuple t items ∧
    R (.ok (.ret (.ref (s.heap.push { cls := .type "tuple_iterator", data := .fields #[.ref t, .int 0 0] }).objs.size)))
      { s with heap := (s.heap.push { cls := .type "tuple_iterator", data := .fields #[.ref t, .int 0 0] }).push { cls := .type "enumerate", data := .fields #[.none, .bool false, .ref s.heap.objs.size, rawInt 0, .none, .none] } }) :=
  .of_wp fun prog w A R s h => by
    obtain ⟨hp, g, d, tk, os⟩ := s
    obtain ⟨isT, k⟩ := h
    have sub := sub_enumerate
    have it1 : ∀ {A1 : Around} {E1 : Value → Shared → Prop} {Q1 : Value → Shared → Prop}, Q1 (.ref hp.objs.size) ⟨hp.push { cls := .type "tuple_iterator", data := .fields #[.ref t, .int 0 0] }, g, d, tk, os⟩ → wpAny (model prog w) A1 (pyIter (.ref t)) Q1 E1 ⟨hp, g, d, tk, os⟩ := fun q => wpAny_pyIter_tuple isT q
    wp_walk
    refine wpAny_stack_any fun st => wpAny_pure ?_
    split
    · rename_i c _ _ _ _ _
      cases (c == Value.type "enumerate")
      · wp_walk using it1
        exact ⟨_, rfl, k⟩
      · wp_walk using it1
        exact ⟨_, rfl, k⟩
    · wp_walk using it1
      exact ⟨_, rfl, k⟩
section
variable {prog : Program} {w : World} {A : Around} {E : Value → Shared → Prop} {s : Shared}
theorem call_enumT {t : Addr} {items : Array Value} {Q : Value → Shared → Prop} (isT : s.heap.IsTuple t items)
    (h : ∀ h2, IsEnum h2 (s.heap.objs.size + 1) s.heap.objs.size 0 .none → h2.IsTupleIter s.heap.objs.size t 0 → (∀ b o, s.heap.get? b = some o → h2.get? b = some o) → Q (.ref (s.heap.objs.size + 1)) { s with heap := h2 }) :
    wpAny (model prog w) A (call (.type "enumerate") [.ref t]) Q E s := by
  refine callType_new F.called_enumerate (by decide) (F.typeCall_enumerate_1 _) (F.newCall_enumerate_1 _) (fun obj => F.args_object_init_2 obj _) F.entry_enumerate_new (enum_new1 t items) ⟨isT, ?_⟩
  have one : (s.heap.push { cls := .type "tuple_iterator", data := .fields #[.ref t, .int 0 0] }).objs.size = s.heap.objs.size + 1 := Heap.size_push ..
  show _ ∧ _
  rw [one]
  have at1 : IsEnum ((s.heap.push { cls := .type "tuple_iterator", data := .fields #[.ref t, .int 0 0] }).push
      { cls := .type "enumerate", data := .fields #[.none, .bool false, .ref s.heap.objs.size, rawInt 0, .none, .none] }) (s.heap.objs.size + 1) s.heap.objs.size 0 .none := by
    have z := Heap.get?_push_size (s.heap.push { cls := .type "tuple_iterator", data := .fields #[.ref t, .int 0 0] })
      (o := { cls := .type "enumerate", data := .fields #[.none, .bool false, .ref s.heap.objs.size, rawInt 0, .none, .none] }) rfl
    rw [one] at z
    exact z
  exact ⟨⟨_, at1, rfl⟩, h _ at1 ⟨_, Heap.get?_push_of_some _ (Heap.get?_push_size _ rfl), rfl, rfl⟩ fun b o z => Heap.get?_push_of_some _ (Heap.get?_push_of_some _ z)⟩
end
/-- the tuple at a, each item in a new pair -/
def Itet (a : Addr) : It :=
  ⟨fun i H => ∃ (xs : List V) (x : V), H a = some (.tup xs) ∧ xs[i]? = some x, fun i H v H' => ∃ T x xs, v = .ref T ∧ H T = none ∧ H' = upd H T (.tup [.int (i : Nat), x]) ∧ H a = some (.tup xs) ∧ xs[i]? = some x, fun i H => ∃ xs : List V, H a = some (.tup xs) ∧ xs.length = i⟩
theorem turn_enumT {P : Program} {w : World} {K : PySem.W.Frag} {elts : List Expr} {kk : Nat} {tpos : Pos} (a e it : Addr) :
    Turn P w K (.Tuple elts kk tpos) (Itet a) [e, it] e (fun i h => (∃ old, IsEnum h e it ((i : Nat) : Int) old) ∧ h.IsTupleIter it a i ∧ e ≠ it ∧ a ≠ it ∧ e ≠ a) where
  mem := by simp
  obj := fun i h st b hb => by
    obtain ⟨⟨old, he⟩, ⟨o, ho, hc, hd⟩, _⟩ := st
    rcases List.mem_cons.mp hb with z | z
    · exact z ▸ ⟨_, he, fun v q => nomatch q⟩
    · rw [List.mem_singleton] at z
      exact z ▸ ⟨o, ho, fun v q => by rw [hd] at q; cases q⟩
  keep := fun i h h' st k => by
    obtain ⟨⟨old, he⟩, hi, rest⟩ := st
    exact ⟨⟨old, k e List.mem_cons_self _ he⟩, hi.at fun o q => k it (List.mem_cons_of_mem _ List.mem_cons_self) o q, rest⟩
  item := by
    intro X hP hw hK hc i pins s σ H E I hf st hg
    subst hP hw hK
    obtain ⟨⟨old, he⟩, hit, hne, hat, hea⟩ := st
    obtain ⟨xs, x, hq, hx⟩ := hg
    obtain ⟨its, rv, isT, hz⟩ := I.tuple (SqT.of hq)
    obtain ⟨u, hu, ru⟩ := rv.get hx
    have lt : i < its.toArray.size := by
      have := (List.getElem?_eq_some_iff.mp hu).1
      simpa using this
    have big1 : e < s.heap.objs.size := Heap.lt_size he
    have big2 : it < s.heap.objs.size := by obtain ⟨_, q, _⟩ := hit; exact Heap.lt_size q
    refine wpAny_pyNext_enum_itemD (Draws.tuple (A := X.A.in1) (I.ok.hd hc) it a hat its.toArray) he ⟨hit, isT⟩ lt hne (by simp [hne, hea]) fun u2 h2 tk hu2 ho st2 hT hsz hk => ?_
    obtain ⟨hit2, _⟩ := st2
    have eu : u2 = u := by
      have q := hu2
      simp only [List.getElem?_toArray] at q
      rw [hu] at q
      exact (Option.some.inj q).symm
    subst eu
    refine ⟨_, rfl, wpAny_letOwnedTupleGo_enum (s := { s with heap := h2, toks := tk + 1 }) ho fun h3 he3 sb => ?_⟩
    have hT3 : h3.get? s.heap.objs.size = some { cls := .type "tuple", data := .seq #[.int i tk, u2] } := (sb.2 _ (Nat.ne_of_gt big1)).trans hT
    have laid : ObjOk X.prog X.w (upd H s.heap.objs.size (.tup [.int (i : Nat), x])) h3 s.heap.objs.size (.tup [.int (i : Nat), x]) := ⟨few_len (Nat.le_of_ble_eq_true rfl), [.int i tk, u2], .cons ⟨_, rfl⟩ (.cons ru .nil), ⟨_, hT3, rfl, _, rfl⟩⟩
    have I1 : Inv X pins σ (upd H s.heap.objs.size (.tup [.int (i : Nat), x])) { s with heap := h3, toks := tk + 1 } :=
      I.turnedNew (ch := [e, it]) (fun b ob hb q => (sb.2 b (fun z => hb (by simp [z]))).trans (hk b ob (fun z => hb (by simp [z])) (fun z => hb (by simp [z])) q)) hf (Nat.le_refl _) laid
    refine ⟨.ref s.heap.objs.size, _, I1, rfl, ⟨_, x, xs, rfl, I.hok.fresh (Nat.le_refl _), rfl, hq, hx⟩, ⟨⟨u2, ?_⟩, hit2.at fun o q => (sb.2 it (Ne.symm hne)).trans q, hne, hat, hea⟩, fun b hb => ?_⟩
    · rw [show ((i + 1 : Nat) : Int) = (i : Int) + 1 by omega]
      exact he3
    · have old1 : b < s.heap.objs.size := by
        rcases List.mem_cons.mp hb with z | z
        · exact z ▸ big1
        · rw [List.mem_singleton] at z
          exact z ▸ big2
      exact (upd_ne (Nat.ne_of_lt old1)).trans (hf b hb).1
  done := by
    intro X hP hw hK hc i pins s σ H E I hf st hg
    subst hP hw hK
    obtain ⟨⟨old, he⟩, hit, hne, hat, hea⟩ := st
    obtain ⟨xs, hq, hx⟩ := hg
    obtain ⟨its, rv, isT, hz⟩ := I.tuple (SqT.of hq)
    obtain ⟨f0, f1, f2, f3, f4, f5⟩ := hf it (List.mem_cons_of_mem _ List.mem_cons_self)
    have le : i = its.toArray.size := by rw [← hx, rv.length, List.size_toArray]
    exact wpAny_pyNext_enum_endD (Draws.tuple (A := X.A.in1) (I.ok.hd hc) it a hat its.toArray) he ⟨le ▸ hit, isT⟩ fun h' eb => ⟨rfl, I.turned (t' := s.toks) (fun b o hb q => eb b o hb q) f0 f1 f3 f4 f5⟩
  self := fun A i s Q E st h => let ⟨⟨_, he⟩, _⟩ := st; wpAny_pyIter_enum he h
def iEnumT (ta : TA) : TI := fun σ H R => ta σ H fun vs H1 => ∃ a xs, vs = [.ref a] ∧ H1 a = some (.tup xs) ∧ R (Itet a) H1
theorem pi_enumT {X : Cx} {e : Expr} {ta : TA} {p pos tpos : Pos} {elts : List Expr} {kk : Nat} (gl : Gl X "enumerate") (hm : X.mg "enumerate" = none) (ha : PA X [e] ta) (hs : starEach [e] X.env = [(false, eval e X.env)] := by rfl) :
    PI X (.Tuple elts kk tpos) (.Call (.Name "enumerate" p) [e] [] pos) (iEnumT ta) := by
  refine ⟨fun pins s σ H R I h => Call_ (ld_blt I gl hm boot_enumerate (PyProof.Rows.callWith_type1 (thn (ha.run pos pins s σ H _ I h) fun us s1 hh => ?_) hs rfl))⟩
  obtain ⟨vs, H1, I1, r1, a, xs, rfl, hq, q⟩ := hh
  obtain ⟨u, rfl, ru⟩ := r1.one
  cases (show u = Value.ref a from ru)
  obtain ⟨its, rv, isT, hz⟩ := I1.tuple (SqT.of hq)
  have lta : a < s1.heap.objs.size := by obtain ⟨o, ho, _⟩ := isT; exact Heap.lt_size ho
  refine call_enumT isT fun h2 he hit hk => wpAny_pyIter_enum he ?_
  have I2 : Inv X pins σ H1 { s1 with heap := h2 } := I1.kept (t' := s1.toks) hk
  refine ⟨s1.heap.objs.size + 1, [s1.heap.objs.size + 1, s1.heap.objs.size], _, _, H1, rfl, I2, turn_enumT a (s1.heap.objs.size + 1) s1.heap.objs.size, ⟨⟨.none, he⟩, hit, Nat.succ_ne_self _, Nat.ne_of_lt lta, Nat.ne_of_gt (Nat.lt_succ_of_lt lta)⟩, fun b hb => ?_, q⟩
  have le : s1.heap.objs.size ≤ b := by
    rcases List.mem_cons.mp hb with z | z
    · rw [z]; exact Nat.le_succ _
    · rw [List.mem_singleton.mp z]; exact Nat.le_refl _
  exact I1.fpOk le (I1.hok.fresh le)
end Vk
set_option Elab.async false
set_option maxRecDepth 100000
set_option maxHeartbeats 4000000
set_option linter.all false
namespace Vk
open PySem PySem.Spec PyProof.Rows L2
section
variable {X : Cx}
/-- e.f, a property, e an instance of one of some classes -/
structure PrI (P : Program) (w : World) (K : PySem.W.Frag) (mg : Str → Option Value) (base : Heap) (k : Nat) (C : Addr) (f fa : Str) : Prop where
  ex : ∃ (p g : Addr) (fd : FuncData), Cls K C ∧ PropOf K C f p g ∧ FnOk P w K mg base CX0 k g fd ["self"] (getSp C fa) ∧ Binds K fd ["self"] []
def tPropN (N : Nat) (Cs : Nat → Addr) (fa : Str) (ta : TE) : TE := fun σ H Q => ta σ H fun x H1 => ∃ n a dx fs v, n < N ∧ x = .ref a ∧ H1 a = some (.ins (Cs n) dx fs) ∧ fs.lookup fa = some v ∧ Q v H1
theorem pe_propN {N : Nat} {Cs : Nat → Addr} {f fa : Str} {k j : Nat} {e : Expr} {ta : TE} {pos : Pos} (he : PE X e ta) (h : ∀ n, n < N → PrI X.prog X.w X.K X.mg X.base k (Cs n) f fa) (hr : Room j X.A) (hk : k + 1 ≤ j) (hab : attributeBase e f X.env (eval e X.env) = eval e X.env := by rfl) :
    PE X (.Attribute e f pos) (tPropN N Cs fa ta) := by
  refine ⟨fun pins s σ H Q I hh => attr_of hab (thn (he.run pins s σ H _ I hh) fun u s1 q1 => ?_)⟩
  obtain ⟨x, H1, I1, rx, n, a, dx, fs, v, hn, rfl, ea, l, q⟩ := q1
  obtain ⟨p, g, fd, c, hp, F, hb⟩ := (h n hn).ex
  cases (show u = Value.ref a from rx)
  exact getprop_ok (ds := []) (dvs := []) (E := E0) I1 ea c hp F (hr.mono hk) hb .nil (fun _ _ _ _ _ _ _ z => z.elim) ⟨a, dx, fs, v, rfl, ea, l, q⟩
end
end Vk
set_option Elab.async false
set_option maxRecDepth 100000
set_option maxHeartbeats 4000000
set_option linter.all false
namespace Vk
open L2 PySem PySem.Spec PyProof.Rows
/-! ## lstrip leaves nothing of a string exactly if all its signs are to be stripped -/
theorem take_all {α : Type} (g : α → Bool) : ∀ l : List α, (l.takeWhile g).length = l.length ↔ l.all g = true
  | [] => by simp
  | a :: r => by
    rw [List.takeWhile_cons, List.all_cons]
    cases h : g a with
    | true =>
      rw [if_pos rfl, List.length_cons, List.length_cons, Bool.true_and]
      exact ⟨fun z => (take_all g r).mp (Nat.succ.inj z), fun z => congrArg Nat.succ ((take_all g r).mpr z)⟩
    | false =>
      rw [if_neg (by decide)]
      simp
theorem take_le {α : Type} (g : α → Bool) : ∀ l : List α, (l.takeWhile g).length ≤ l.length
  | [] => Nat.le_refl _
  | a :: r => by
    rw [List.takeWhile_cons]
    split
    · exact Nat.succ_le_succ (take_le g r)
    · exact Nat.zero_le _
theorem str_empty {z : Str} : z = "" ↔ z.cps.toList = [] := by
  constructor
  · rintro rfl
    rfl
  · intro h
    cases z with
    | mk c =>
      have e : c = #[] := by simpa using h
      subst e
      rfl
theorem lstrip_all {z y : Str} : Txt.lstripChars z y = "" ↔ z.cps.toList.all y.cps.contains = true := by
  unfold Txt.lstripChars Txt.stripBy
  have len : z.length = z.cps.toList.length := by simp [Str.length]
  have lo : stripLo y.cps.contains true z = (z.cps.toList.takeWhile y.cps.contains).length := rfl
  have hi : ∀ n, stripHi y.cps.contains false z n = z.length := fun n => rfl
  rw [← take_all]
  by_cases h0 : (z.cps.toList.takeWhile y.cps.contains).length = 0
  · have same : stripSame y.cps.contains true false z = true := by
      unfold stripSame
      rw [hi, lo, h0]
      simp
    rw [if_pos same, str_empty, h0]
    exact ⟨fun e => by rw [e]; rfl, fun e => List.length_eq_zero_iff.mp e.symm⟩
  · have same : ¬ (stripSame y.cps.contains true false z = true) := by
      unfold stripSame
      rw [hi, lo]
      simpa using fun e => absurd (by simpa using e) h0
    rw [if_neg same, str_empty]
    have sub : (stripped y.cps.contains true false z).cps.toList = z.cps.toList.drop (z.cps.toList.takeWhile y.cps.contains).length := by
      unfold stripped
      rw [hi, lo]
      show ((z.cps.extract _ z.length).toList) = _
      rw [Array.toList_extract, List.extract_eq_drop_take, len]
      rw [List.take_of_length_le (by rw [List.length_drop]; exact Nat.le_refl _)]
    rw [sub, List.drop_eq_nil_iff]
    have le := take_le y.cps.contains z.cps.toList
    exact ⟨fun e => Nat.le_antisymm le e, fun e => Nat.le_of_eq e.symm⟩
end Vk
namespace Vk
open L2 PySem PySem.Spec PyProof.Rows
end Vk
set_option Elab.async false
set_option maxRecDepth 100000
set_option linter.all false
namespace Vk
open PySem PySem.Spec PyProof.Rows L2
def top (i : Nat) : Stmt := PySem.Challenge.pw_anchoredits_k68_whole_hunks_make_the_res.main.body.getD i (.Pass ⟨0, 0, 0, 0⟩)
structure Txt (mg : Str → Option Value) : Prop where
  str : mg "str" = none
  tuple : mg "tuple" = none
  enumerate : mg "enumerate" = none
  len : mg "len" = none
  list : mg "list" = none
  int : mg "int" = none
  abs : mg "abs" = none
  range : mg "range" = none
  min : mg "min" = none
  repr : mg "repr" = none
  isinstance : mg "isinstance" = none
abbrev tlV : List Value := [.type "ValueError", .type "Exception", .type "BaseException", .type "object"]
abbrev tlL : List Value := [.type "LookupError", .type "Exception", .type "BaseException", .type "object"]
abbrev tlO : List Value := [.type "OverflowError", .type "ArithmeticError", .type "Exception", .type "BaseException", .type "object"]
section
variable {P : Program} {w : World} {K : PySem.W.Frag} {mg : Str → Option Value} {base : Heap}
abbrev m_InvalidOld : Stmt := mtd (top 5) 0
theorem sc_InvalidOld : FnScope ["self", "value"] ["self", "value"] (defScope m_InvalidOld) := ⟨rfl, rfl, rfl, by decide +kernel, rfl, by decide +kernel, by decide +kernel⟩
theorem b_InvalidOld {f C : Addr} {fd : FuncData} (F : Fun K "__init__" "InvalidOld.__init__" m_InvalidOld f fd) (T : OexK K C) (no : ∀ f ∈ (["value"] : List Str), PySem.W.findIn K (.ref C) f = some none) : FnG P w K mg base CX0 1 f fd ["self", "value"] (spIni C ["value"]) := by
  refine okG0 F sc_InvalidOld (fun vs H Q E h => ?_) (fun cdv A outer s H vs Q E hg hr h => ?_)
  · obtain ⟨a, ws, rfl, hl, _⟩ := h
    rw [List.length_cons, hl]
    rfl
  · obtain ⟨a, ws, rfl, hl, ha, k0, k⟩ := h
    match ws, hl with
    | [y], _ => exact ⟨_, (pss_one (ps_osk (pv 0) (pv 1))), _, rfl, _, rfl, a, C, rfl, T, no _ (by simp), .inl ⟨ha, fun dx n ne => k (by simp) dx n ne⟩⟩
theorem c_InvalidOld {h : Heap} {f C : Addr} {fd : FuncData} {tl : List Value} (KX : K.In h) (G : h.Ns mainGlobals mg) (E : ExcTxt K "InvalidOld" "InvalidOld.__init__" m_InvalidOld C f fd ["value"] tl) : ClsI P w K mg base 1 "InvalidOld" C ["value"] :=
  .of1 E KX G (b_InvalidOld E.fn E.T E.no) (fun _ _ _ _ _ _ _ _ => rfl) (fun _ _ _ _ _ _ _ _ => rfl)
abbrev m_InvalidNew : Stmt := mtd (top 6) 0
theorem sc_InvalidNew : FnScope ["self", "value"] ["self", "value"] (defScope m_InvalidNew) := ⟨rfl, rfl, rfl, by decide +kernel, rfl, by decide +kernel, by decide +kernel⟩
theorem b_InvalidNew {f C : Addr} {fd : FuncData} (F : Fun K "__init__" "InvalidNew.__init__" m_InvalidNew f fd) (T : OexK K C) (no : ∀ f ∈ (["value"] : List Str), PySem.W.findIn K (.ref C) f = some none) : FnG P w K mg base CX0 1 f fd ["self", "value"] (spIni C ["value"]) := by
  refine okG0 F sc_InvalidNew (fun vs H Q E h => ?_) (fun cdv A outer s H vs Q E hg hr h => ?_)
  · obtain ⟨a, ws, rfl, hl, _⟩ := h
    rw [List.length_cons, hl]
    rfl
  · obtain ⟨a, ws, rfl, hl, ha, k0, k⟩ := h
    match ws, hl with
    | [y], _ => exact ⟨_, (pss_one (ps_osk (pv 0) (pv 1))), _, rfl, _, rfl, a, C, rfl, T, no _ (by simp), .inl ⟨ha, fun dx n ne => k (by simp) dx n ne⟩⟩
theorem c_InvalidNew {h : Heap} {f C : Addr} {fd : FuncData} {tl : List Value} (KX : K.In h) (G : h.Ns mainGlobals mg) (E : ExcTxt K "InvalidNew" "InvalidNew.__init__" m_InvalidNew C f fd ["value"] tl) : ClsI P w K mg base 1 "InvalidNew" C ["value"] :=
  .of1 E KX G (b_InvalidNew E.fn E.T E.no) (fun _ _ _ _ _ _ _ _ => rfl) (fun _ _ _ _ _ _ _ _ => rfl)
abbrev m_InvalidText : Stmt := mtd (top 7) 0
theorem sc_InvalidText : FnScope ["self", "value"] ["self", "value"] (defScope m_InvalidText) := ⟨rfl, rfl, rfl, by decide +kernel, rfl, by decide +kernel, by decide +kernel⟩
theorem b_InvalidText {f C : Addr} {fd : FuncData} (F : Fun K "__init__" "InvalidText.__init__" m_InvalidText f fd) (T : OexK K C) (no : ∀ f ∈ (["value"] : List Str), PySem.W.findIn K (.ref C) f = some none) : FnG P w K mg base CX0 1 f fd ["self", "value"] (spIni C ["value"]) := by
  refine okG0 F sc_InvalidText (fun vs H Q E h => ?_) (fun cdv A outer s H vs Q E hg hr h => ?_)
  · obtain ⟨a, ws, rfl, hl, _⟩ := h
    rw [List.length_cons, hl]
    rfl
  · obtain ⟨a, ws, rfl, hl, ha, k0, k⟩ := h
    match ws, hl with
    | [y], _ => exact ⟨_, (pss_one (ps_osk (pv 0) (pv 1))), _, rfl, _, rfl, a, C, rfl, T, no _ (by simp), .inl ⟨ha, fun dx n ne => k (by simp) dx n ne⟩⟩
theorem c_InvalidText {h : Heap} {f C : Addr} {fd : FuncData} {tl : List Value} (KX : K.In h) (G : h.Ns mainGlobals mg) (E : ExcTxt K "InvalidText" "InvalidText.__init__" m_InvalidText C f fd ["value"] tl) : ClsI P w K mg base 1 "InvalidText" C ["value"] :=
  .of1 E KX G (b_InvalidText E.fn E.T E.no) (fun _ _ _ _ _ _ _ _ => rfl) (fun _ _ _ _ _ _ _ _ => rfl)
abbrev m_InvalidPart : Stmt := mtd (top 8) 0
theorem sc_InvalidPart : FnScope ["self", "index"] ["self", "index"] (defScope m_InvalidPart) := ⟨rfl, rfl, rfl, by decide +kernel, rfl, by decide +kernel, by decide +kernel⟩
theorem b_InvalidPart {f C : Addr} {fd : FuncData} (F : Fun K "__init__" "InvalidPart.__init__" m_InvalidPart f fd) (T : OexK K C) (no : ∀ f ∈ (["index"] : List Str), PySem.W.findIn K (.ref C) f = some none) : FnG P w K mg base CX0 1 f fd ["self", "index"] (spIni C ["index"]) := by
  refine okG0 F sc_InvalidPart (fun vs H Q E h => ?_) (fun cdv A outer s H vs Q E hg hr h => ?_)
  · obtain ⟨a, ws, rfl, hl, _⟩ := h
    rw [List.length_cons, hl]
    rfl
  · obtain ⟨a, ws, rfl, hl, ha, k0, k⟩ := h
    match ws, hl with
    | [y], _ => exact ⟨_, (pss_one (ps_osk (pv 0) (pv 1))), _, rfl, _, rfl, a, C, rfl, T, no _ (by simp), .inl ⟨ha, fun dx n ne => k (by simp) dx n ne⟩⟩
theorem c_InvalidPart {h : Heap} {f C : Addr} {fd : FuncData} {tl : List Value} (KX : K.In h) (G : h.Ns mainGlobals mg) (E : ExcTxt K "InvalidPart" "InvalidPart.__init__" m_InvalidPart C f fd ["index"] tl) : ClsI P w K mg base 1 "InvalidPart" C ["index"] :=
  .of1 E KX G (b_InvalidPart E.fn E.T E.no) (fun _ _ _ _ _ _ _ _ => rfl) (fun _ _ _ _ _ _ _ _ => rfl)
abbrev m_NoPlace : Stmt := mtd (top 10) 0
theorem sc_NoPlace : FnScope ["self", "index", "number"] ["self", "index", "number"] (defScope m_NoPlace) := ⟨rfl, rfl, rfl, by decide +kernel, rfl, by decide +kernel, by decide +kernel⟩
theorem b_NoPlace {f C : Addr} {fd : FuncData} (F : Fun K "__init__" "NoPlace.__init__" m_NoPlace f fd) (T : OexK K C) (no : ∀ f ∈ (["index", "number"] : List Str), PySem.W.findIn K (.ref C) f = some none) : FnG P w K mg base CX0 1 f fd ["self", "index", "number"] (spIni C ["index", "number"]) := by
  refine okG0 F sc_NoPlace (fun vs H Q E h => ?_) (fun cdv A outer s H vs Q E hg hr h => ?_)
  · obtain ⟨a, ws, rfl, hl, _⟩ := h
    rw [List.length_cons, hl]
    rfl
  · obtain ⟨a, ws, rfl, hl, ha, k0, k⟩ := h
    match ws, hl with
    | [y, z], _ =>
      refine ⟨_, (pss_cons (ps_osk (pv 0) (pv 1)) (pss_one (ps_osk (pv 0) (pv 2)))), _, rfl, _, rfl, a, C, rfl, T, no _ (by simp), .inl ⟨ha, fun dx n ne => ?_⟩⟩
      refine ⟨_, rfl, _, rfl, a, C, rfl, T, no _ (by simp), .inr ⟨dx, _, upd_same, (upd_ne ne).trans upd_same, Nat.le_of_ble_eq_true rfl, ?_⟩⟩
      have q := k (by simp) dx n ne
      rw [← two_upd ne] at q
      exact q
theorem c_NoPlace {h : Heap} {f C : Addr} {fd : FuncData} {tl : List Value} (KX : K.In h) (G : h.Ns mainGlobals mg) (E : ExcTxt K "NoPlace" "NoPlace.__init__" m_NoPlace C f fd ["index", "number"] tl) : ClsI P w K mg base 1 "NoPlace" C ["index", "number"] :=
  .of2 E KX G (b_NoPlace E.fn E.T E.no) (fun _ _ _ _ _ _ _ _ _ => rfl) (fun _ _ _ _ _ _ _ _ _ => rfl)
abbrev m_Overlap : Stmt := mtd (top 11) 0
theorem sc_Overlap : FnScope ["self", "index"] ["self", "index"] (defScope m_Overlap) := ⟨rfl, rfl, rfl, by decide +kernel, rfl, by decide +kernel, by decide +kernel⟩
theorem b_Overlap {f C : Addr} {fd : FuncData} (F : Fun K "__init__" "Overlap.__init__" m_Overlap f fd) (T : OexK K C) (no : ∀ f ∈ (["index"] : List Str), PySem.W.findIn K (.ref C) f = some none) : FnG P w K mg base CX0 1 f fd ["self", "index"] (spIni C ["index"]) := by
  refine okG0 F sc_Overlap (fun vs H Q E h => ?_) (fun cdv A outer s H vs Q E hg hr h => ?_)
  · obtain ⟨a, ws, rfl, hl, _⟩ := h
    rw [List.length_cons, hl]
    rfl
  · obtain ⟨a, ws, rfl, hl, ha, k0, k⟩ := h
    match ws, hl with
    | [y], _ => exact ⟨_, (pss_one (ps_osk (pv 0) (pv 1))), _, rfl, _, rfl, a, C, rfl, T, no _ (by simp), .inl ⟨ha, fun dx n ne => k (by simp) dx n ne⟩⟩
theorem c_Overlap {h : Heap} {f C : Addr} {fd : FuncData} {tl : List Value} (KX : K.In h) (G : h.Ns mainGlobals mg) (E : ExcTxt K "Overlap" "Overlap.__init__" m_Overlap C f fd ["index"] tl) : ClsI P w K mg base 1 "Overlap" C ["index"] :=
  .of1 E KX G (b_Overlap E.fn E.T E.no) (fun _ _ _ _ _ _ _ _ => rfl) (fun _ _ _ _ _ _ _ _ => rfl)
abbrev m_TooMany : Stmt := mtd (top 12) 0
theorem sc_TooMany : FnScope ["self", "limit"] ["self", "limit"] (defScope m_TooMany) := ⟨rfl, rfl, rfl, by decide +kernel, rfl, by decide +kernel, by decide +kernel⟩
theorem b_TooMany {f C : Addr} {fd : FuncData} (F : Fun K "__init__" "TooMany.__init__" m_TooMany f fd) (T : OexK K C) (no : ∀ f ∈ (["limit"] : List Str), PySem.W.findIn K (.ref C) f = some none) : FnG P w K mg base CX0 1 f fd ["self", "limit"] (spIni C ["limit"]) := by
  refine okG0 F sc_TooMany (fun vs H Q E h => ?_) (fun cdv A outer s H vs Q E hg hr h => ?_)
  · obtain ⟨a, ws, rfl, hl, _⟩ := h
    rw [List.length_cons, hl]
    rfl
  · obtain ⟨a, ws, rfl, hl, ha, k0, k⟩ := h
    match ws, hl with
    | [y], _ => exact ⟨_, (pss_one (ps_osk (pv 0) (pv 1))), _, rfl, _, rfl, a, C, rfl, T, no _ (by simp), .inl ⟨ha, fun dx n ne => k (by simp) dx n ne⟩⟩
theorem c_TooMany {h : Heap} {f C : Addr} {fd : FuncData} {tl : List Value} (KX : K.In h) (G : h.Ns mainGlobals mg) (E : ExcTxt K "TooMany" "TooMany.__init__" m_TooMany C f fd ["limit"] tl) : ClsI P w K mg base 1 "TooMany" C ["limit"] :=
  .of1 E KX G (b_TooMany E.fn E.T E.no) (fun _ _ _ _ _ _ _ _ => rfl) (fun _ _ _ _ _ _ _ _ => rfl)
def isStr : PyData → Bool
  | .str _ => true
  | _ => false
theorem kit_str {H : Hp} {v : V} {d : PyData} (h : Th H v d) : ∃ t b, TyX K H v t ∧ PySem.W.kitOne K t (.type "str") = some b ∧ b = isStr d := by
  cases h with
  | atm a => cases a with
    | non => exact ⟨.type "NoneType", false, .base .non, kit_ty (by decide +kernel), rfl⟩
    | bl b => exact ⟨.type "bool", false, .base (.bl b), kit_ty (by decide +kernel), rfl⟩
    | int i => exact ⟨.type "int", false, .base (.int i), kit_ty (by decide +kernel), rfl⟩
    | str x => exact ⟨.type "str", true, .base (.str x), kit_ty (by decide +kernel), rfl⟩
  | lst e _ _ => exact ⟨.type "list", false, .base (.lst e), kit_ty (by decide +kernel), rfl⟩
  | tup e _ => exact ⟨.type "tuple", false, .base (.tup e), kit_ty (by decide +kernel), rfl⟩
  | dct e => exact ⟨.type "dict", false, .base (.dK e), kit_ty (by decide +kernel), rfl⟩
/-- a text: a string of letters -/
def isT : PyData → Bool
  | .str z => decide (V.str (Txt.lstripChars z letS) = V.str "")
  | _ => false
def isNew (d : PyData) : Bool := isT d && match d with | .str z => decide ((z.length : Int) ≤ 40) | _ => false
def isOld (d : PyData) : Bool := isNew d && match d with | .str z => !decide (V.str z = V.str "") | _ => false
/-- strings of values are short -/
def Srt (d : PyData) : Prop := match d with | .str z => z.length ≤ 1000 ∧ PyData.strOk z = true | _ => True
def spTest (f : PyData → Bool) : Sp := fun vs H Q _ => ∃ v d, vs = [v] ∧ Th H v d ∧ Srt d ∧ Q (.bl (f d)) H
abbrev s_is_text : Stmt := top 3
theorem sc_is_text : FnScope ["value"] ["value"] (defScope s_is_text) := ⟨rfl, rfl, rfl, by decide +kernel, rfl, by decide +kernel, by decide +kernel⟩
theorem b_is_text {f : Addr} {fd : FuncData} (F : Fun K "is_text" "is_text" s_is_text f fd) (T : Txt mg) (g_LETTERS : ∃ u, mg "LETTERS" = some u ∧ RelV (.str letS) u) : FnG P w K mg base CX0 1 f fd ["value"] (spTest isT) := by
  refine okG0 F sc_is_text (fun vs H Q E h => ?_) (fun cdv A outer s H vs Q E hg hr h => ?_)
  · obtain ⟨v, d, rfl, _⟩ := h
    rfl
  · have hu := hu_of hr
    have hu64 := hr.units
    obtain ⟨v, d, rfl, th, sr, k⟩ := h
    obtain ⟨t, b, ty, kt, hb⟩ := kit_str (K := K) th
    refine ⟨_, (pss_one (ps_ret (pe_and (pe_callB call_isi (by rfl) T.isinstance (by decide +kernel) (pa_cons (pv 0) (pa_cons (pe_bltn (v := .ty "str") (by rfl) T.str rfl rfl) pa_nil))) (pe_one (pe_cmpR op_eq (pe_bm PySem.F.plainAttrs_str PySem.F.slot_str_lstrip PySem.F.type_str_lstrip mt_lstripChars (pv 0) (pa_cons (C8.pe_gc (by rfl) g_LETTERS) pa_nil)) pe_str (nomark _)))))), ?_⟩
    refine ⟨_, rfl, v, .ty "str", t, .type "str", b, rfl, .ty "str", ty, kt, _, rfl, ?_⟩
    cases th with
    | atm a =>
      cases a with
      | str x =>
        subst hb
        refine iteT ⟨_, rfl, rfl, x, _, rfl, rfl, few_len sr.1, rfl, ?_⟩
        exact k
      | _ => subst hb; exact iteF k
    | _ => subst hb; exact iteF k

theorem isT_str {d : PyData} (h : isT d = true) : ∃ z, d = .str z := by
  cases d with
  | str z => exact ⟨z, rfl⟩
  | _ => cases h
theorem isNew_str {d : PyData} (h : isNew d = true) : ∃ z, d = .str z := by
  refine isT_str ?_
  unfold isNew at h
  rw [Bool.and_eq_true] at h
  exact h.1
theorem th_str {H : Hp} {v : V} {z : Str} (h : Th H v (.str z)) : v = .str z := by
  cases h with
  | atm a => cases a; rfl
abbrev s_is_new : Stmt := top 18
theorem sc_is_new : FnScope ["value"] ["value"] (defScope s_is_new) := ⟨rfl, rfl, rfl, by decide +kernel, rfl, by decide +kernel, by decide +kernel⟩
theorem b_is_new {f : Addr} {fd : FuncData} (F : Fun K "is_new" "is_new" s_is_new f fd) (T : Txt mg) (c_is_text : CalG P w K mg base CX0 1 "is_text" (spTest isT)) (g_MAX_WORD : ∃ u, mg "MAX_WORD" = some u ∧ RelV (.int 40) u) : FnG P w K mg base CX0 2 f fd ["value"] (spTest isNew) := by
  refine okG0 F sc_is_new (fun vs H Q E h => ?_) (fun cdv A outer s H vs Q E hg hr h => ?_)
  · obtain ⟨v, d, rfl, _⟩ := h
    rfl
  · have hu := hu_of hr
    have hu64 := hr.units
    obtain ⟨v, d, rfl, th, sr, k⟩ := h
    refine ⟨_, (pss_one (ps_ret (pe_and (pe_cG c_is_text hg hr (by decide) pass0 (pa_cons (pv 0) pa_nil)) (pe_one (pe_cmpR op_le (pe_callB call_len (by rfl) T.len (by decide +kernel) (pa_cons (pv 0) pa_nil)) (C8.pe_gc (by rfl) g_MAX_WORD) (nomark _)))))), ?_⟩
    refine ⟨_, rfl, v, d, rfl, th, sr, _, rfl, ?_⟩
    match hT : isT d with
    | false =>
      have e : isNew d = false := by unfold isNew; rw [hT, Bool.false_and]
      rw [e] at k
      exact iteF k
    | true =>
      obtain ⟨z, rfl⟩ := isT_str hT
      cases th_str th
      rw [isNew, hT] at k
      exact iteT ⟨_, rfl, _, _, rfl, ⟨few_len sr.1, rfl⟩, _, _, rfl, rfl, k⟩

abbrev s_is_old : Stmt := top 19
theorem sc_is_old : FnScope ["value"] ["value"] (defScope s_is_old) := ⟨rfl, rfl, rfl, by decide +kernel, rfl, by decide +kernel, by decide +kernel⟩
theorem b_is_old {f : Addr} {fd : FuncData} (F : Fun K "is_old" "is_old" s_is_old f fd) (T : Txt mg) (c_is_new : CalG P w K mg base CX0 2 "is_new" (spTest isNew)) : FnG P w K mg base CX0 3 f fd ["value"] (spTest isOld) := by
  refine okG0 F sc_is_old (fun vs H Q E h => ?_) (fun cdv A outer s H vs Q E hg hr h => ?_)
  · obtain ⟨v, d, rfl, _⟩ := h
    rfl
  · have hu := hu_of hr
    have hu64 := hr.units
    obtain ⟨v, d, rfl, th, sr, k⟩ := h
    refine ⟨_, (pss_one (ps_ret (pe_and (pe_cG c_is_new hg hr (by decide) pass0 (pa_cons (pv 0) pa_nil)) (pe_one (pe_cmpR op_ne (pv 0) pe_str (nomark _)))))), ?_⟩
    refine ⟨_, rfl, v, d, rfl, th, sr, _, rfl, ?_⟩
    match hT : isNew d with
    | false =>
      have e : isOld d = false := by unfold isOld; rw [hT, Bool.false_and]
      rw [e] at k
      exact iteF k
    | true =>
      obtain ⟨z, rfl⟩ := isNew_str hT
      cases th_str th
      rw [isOld, hT] at k
      exact iteT ⟨_, rfl, rfl, k⟩

/-- the first error that is due for the words of an edit -/
def spCheck (Co Cn : Addr) : Sp := fun vs H Q E => ∃ v1 d1 v2 d2, vs = [v1, v2] ∧ Th H v1 d1 ∧ Srt d1 ∧ Th H v2 d2 ∧ Srt d2 ∧ (isOld d1 = false → ∀ d, H d = none → E (.ref Co) (some d) (upd H d (.xd [(("value" : Str), v1)]))) ∧
  (isOld d1 = true → isNew d2 = false → ∀ d, H d = none → E (.ref Cn) (some d) (upd H d (.xd [(("value" : Str), v2)]))) ∧ (isOld d1 = true → isNew d2 = true → Q .non H)
abbrev s_check_words : Stmt := top 21
theorem sc_check_words : FnScope ["old", "new"] ["old", "new"] (defScope s_check_words) := ⟨rfl, rfl, rfl, by decide +kernel, rfl, by decide +kernel, by decide +kernel⟩
theorem b_check_words {f : Addr} {fd : FuncData} (F : Fun K "check_words" "check_words" s_check_words f fd) (T : Txt mg) (c_is_old : CalG P w K mg base CX0 3 "is_old" (spTest isOld)) (c_is_new : CalG P w K mg base CX0 2 "is_new" (spTest isNew)) {C_InvalidOld : Addr} (c_InvalidOld : ClsI P w K mg base 1 "InvalidOld" C_InvalidOld ["value"]) {C_InvalidNew : Addr} (c_InvalidNew : ClsI P w K mg base 1 "InvalidNew" C_InvalidNew ["value"]) : FnG P w K mg base (L2.CX P w) 4 f fd ["old", "new"] (spCheck C_InvalidOld C_InvalidNew) := by
  refine okG F sc_check_words (fun vs H Q E h => ?_) (fun cdv A outer s H vs Q E hg hr h => ?_)
  · obtain ⟨v1, d1, v2, d2, rfl, _⟩ := h
    rfl
  · have hu := hu_of hr
    have hu64 := hr.units
    obtain ⟨v1, d1, v2, d2, rfl, t1, r1, t2, r2, k1, k2, k3⟩ := h
    refine ⟨_, (pss_cons (ps_if (pt_not (pt_val (pe_cG c_is_old hg hr (by decide) pass0 (pa_cons (pv 0) pa_nil)))) (pss_one (ps_raise rfl (takes_of rfl rfl rfl rfl) (pmk_k c_InvalidOld hg hr (by decide) pass0 (pa_cons (pv 0) pa_nil)))) pss_nil)
      (pss_one (ps_if (pt_not (pt_val (pe_cG c_is_new hg hr (by decide) pass0 (pa_cons (pv 1) pa_nil)))) (pss_one (ps_raise rfl (takes_of rfl rfl rfl rfl) (pmk_k c_InvalidNew hg hr (by decide) pass0 (pa_cons (pv 1) pa_nil)))) pss_nil))), ?_⟩
    refine ⟨_, rfl, v1, d1, rfl, t1, r1, _, rfl, ?_⟩
    match h1 : isOld d1 with
    | false => exact iteT ⟨_, rfl, rfl, fun d hd => k1 h1 d hd⟩
    | true =>
      refine iteF ⟨_, rfl, v2, d2, rfl, t2, r2, _, rfl, ?_⟩
      match h2 : isNew d2 with
      | false => exact iteT ⟨_, rfl, rfl, fun d hd => k2 h1 h2 d hd⟩
      | true => exact iteF (k3 h1 h2)

/-- Once(old, new) and its like: the words are looked at first -/
def spEdit (C Co Cn : Addr) : Sp := fun vs H Q E => ∃ a dx v1 d1 v2 d2, vs = [.ref a, v1, v2] ∧ H a = some (.ins C dx []) ∧ Th H v1 d1 ∧ Srt d1 ∧ Th H v2 d2 ∧ Srt d2 ∧ (isOld d1 = false → ∀ d, H d = none → E (.ref Co) (some d) (upd H d (.xd [(("value" : Str), v1)]))) ∧
  (isOld d1 = true → isNew d2 = false → ∀ d, H d = none → E (.ref Cn) (some d) (upd H d (.xd [(("value" : Str), v2)]))) ∧ (isOld d1 = true → isNew d2 = true → Q .non (upd H a (.ins C dx [("_old", v1), ("_new", v2)])))
theorem upd_twice {H : Hp} {a : Addr} {o1 o2 : HO} : upd (upd H a o1) a o2 = upd H a o2 := by
  funext b
  by_cases h : b = a
  · subst h; rw [upd_same, upd_same]
  · rw [upd_ne h, upd_ne h, upd_ne h]
abbrev m_Once : Stmt := mtd (top 24) 0
theorem sc_Once : FnScope ["self", "old", "new"] ["self", "old", "new"] (defScope m_Once) := ⟨rfl, rfl, rfl, by decide +kernel, rfl, by decide +kernel, by decide +kernel⟩
theorem b_Once {f C Co Cn : Addr} {fd : FuncData} (F : Fun K "__init__" "Once.__init__" m_Once f fd) (c_check_words : CalG P w K mg base (L2.CX P w) 4 "check_words" (spCheck Co Cn)) (cl : Cls K C) (n1 : NoAttr K C "_old") (n2 : NoAttr K C "_new") : FnG P w K mg base (L2.CX P w) 5 f fd ["self", "old", "new"] (spEdit C Co Cn) := by
  refine okG F sc_Once (fun vs H Q E h => ?_) (fun cdv A outer s H vs Q E hg hr h => ?_)
  · obtain ⟨a, dx, v1, d1, v2, d2, rfl, _⟩ := h
    rfl
  · obtain ⟨a, dx, v1, d1, v2, d2, rfl, ha, t1, r1, t2, r2, k1, k2, k3⟩ := h
    refine ⟨_, (pss_cons (ps_expr (pe_cG c_check_words hg hr (by decide) (passes_call (takes_of rfl rfl rfl rfl) (fun _ _ _ _ h => h)) (pa_cons (pv 1) (pa_cons (pv 2) pa_nil)))) (pss_cons (ps_fld (pv 0) (pv 1) rfl) (pss_one (ps_fld (pv 0) (pv 2) rfl)))), ?_⟩
    refine ⟨_, rfl, _, rfl, v1, d1, v2, d2, rfl, t1, r1, t2, r2, k1, k2, fun g1 g2 => ?_⟩
    refine ⟨_, rfl, _, rfl, a, C, dx, [], rfl, ha, cl, n1, by decide, ?_⟩
    refine ⟨_, rfl, _, rfl, a, C, dx, _, rfl, upd_same, cl, n2, Nat.lt_of_succ_le (Nat.le_of_ble_eq_true rfl), ?_⟩
    rw [upd_twice]
    exact k3 g1 g2
abbrev m_First : Stmt := mtd (top 25) 0
theorem sc_First : FnScope ["self", "old", "new"] ["self", "old", "new"] (defScope m_First) := ⟨rfl, rfl, rfl, by decide +kernel, rfl, by decide +kernel, by decide +kernel⟩
theorem b_First {f C Co Cn : Addr} {fd : FuncData} (F : Fun K "__init__" "First.__init__" m_First f fd) (c_check_words : CalG P w K mg base (L2.CX P w) 4 "check_words" (spCheck Co Cn)) (cl : Cls K C) (n1 : NoAttr K C "_old") (n2 : NoAttr K C "_new") : FnG P w K mg base (L2.CX P w) 5 f fd ["self", "old", "new"] (spEdit C Co Cn) := by
  refine okG F sc_First (fun vs H Q E h => ?_) (fun cdv A outer s H vs Q E hg hr h => ?_)
  · obtain ⟨a, dx, v1, d1, v2, d2, rfl, _⟩ := h
    rfl
  · obtain ⟨a, dx, v1, d1, v2, d2, rfl, ha, t1, r1, t2, r2, k1, k2, k3⟩ := h
    refine ⟨_, (pss_cons (ps_expr (pe_cG c_check_words hg hr (by decide) (passes_call (takes_of rfl rfl rfl rfl) (fun _ _ _ _ h => h)) (pa_cons (pv 1) (pa_cons (pv 2) pa_nil)))) (pss_cons (ps_fld (pv 0) (pv 1) rfl) (pss_one (ps_fld (pv 0) (pv 2) rfl)))), ?_⟩
    refine ⟨_, rfl, _, rfl, v1, d1, v2, d2, rfl, t1, r1, t2, r2, k1, k2, fun g1 g2 => ?_⟩
    refine ⟨_, rfl, _, rfl, a, C, dx, [], rfl, ha, cl, n1, by decide, ?_⟩
    refine ⟨_, rfl, _, rfl, a, C, dx, _, rfl, upd_same, cl, n2, Nat.lt_of_succ_le (Nat.le_of_ble_eq_true rfl), ?_⟩
    rw [upd_twice]
    exact k3 g1 g2
abbrev m_Perhaps : Stmt := mtd (top 26) 0
theorem sc_Perhaps : FnScope ["self", "old", "new"] ["self", "old", "new"] (defScope m_Perhaps) := ⟨rfl, rfl, rfl, by decide +kernel, rfl, by decide +kernel, by decide +kernel⟩
theorem b_Perhaps {f C Co Cn : Addr} {fd : FuncData} (F : Fun K "__init__" "Perhaps.__init__" m_Perhaps f fd) (c_check_words : CalG P w K mg base (L2.CX P w) 4 "check_words" (spCheck Co Cn)) (cl : Cls K C) (n1 : NoAttr K C "_old") (n2 : NoAttr K C "_new") : FnG P w K mg base (L2.CX P w) 5 f fd ["self", "old", "new"] (spEdit C Co Cn) := by
  refine okG F sc_Perhaps (fun vs H Q E h => ?_) (fun cdv A outer s H vs Q E hg hr h => ?_)
  · obtain ⟨a, dx, v1, d1, v2, d2, rfl, _⟩ := h
    rfl
  · obtain ⟨a, dx, v1, d1, v2, d2, rfl, ha, t1, r1, t2, r2, k1, k2, k3⟩ := h
    refine ⟨_, (pss_cons (ps_expr (pe_cG c_check_words hg hr (by decide) (passes_call (takes_of rfl rfl rfl rfl) (fun _ _ _ _ h => h)) (pa_cons (pv 1) (pa_cons (pv 2) pa_nil)))) (pss_cons (ps_fld (pv 0) (pv 1) rfl) (pss_one (ps_fld (pv 0) (pv 2) rfl)))), ?_⟩
    refine ⟨_, rfl, _, rfl, v1, d1, v2, d2, rfl, t1, r1, t2, r2, k1, k2, fun g1 g2 => ?_⟩
    refine ⟨_, rfl, _, rfl, a, C, dx, [], rfl, ha, cl, n1, by decide, ?_⟩
    refine ⟨_, rfl, _, rfl, a, C, dx, _, rfl, upd_same, cl, n2, Nat.lt_of_succ_le (Nat.le_of_ble_eq_true rfl), ?_⟩
    rw [upd_twice]
    exact k3 g1 g2
abbrev m_Every : Stmt := mtd (top 27) 0
theorem sc_Every : FnScope ["self", "old", "new"] ["self", "old", "new"] (defScope m_Every) := ⟨rfl, rfl, rfl, by decide +kernel, rfl, by decide +kernel, by decide +kernel⟩
theorem b_Every {f C Co Cn : Addr} {fd : FuncData} (F : Fun K "__init__" "Every.__init__" m_Every f fd) (c_check_words : CalG P w K mg base (L2.CX P w) 4 "check_words" (spCheck Co Cn)) (cl : Cls K C) (n1 : NoAttr K C "_old") (n2 : NoAttr K C "_new") : FnG P w K mg base (L2.CX P w) 5 f fd ["self", "old", "new"] (spEdit C Co Cn) := by
  refine okG F sc_Every (fun vs H Q E h => ?_) (fun cdv A outer s H vs Q E hg hr h => ?_)
  · obtain ⟨a, dx, v1, d1, v2, d2, rfl, _⟩ := h
    rfl
  · obtain ⟨a, dx, v1, d1, v2, d2, rfl, ha, t1, r1, t2, r2, k1, k2, k3⟩ := h
    refine ⟨_, (pss_cons (ps_expr (pe_cG c_check_words hg hr (by decide) (passes_call (takes_of rfl rfl rfl rfl) (fun _ _ _ _ h => h)) (pa_cons (pv 1) (pa_cons (pv 2) pa_nil)))) (pss_cons (ps_fld (pv 0) (pv 1) rfl) (pss_one (ps_fld (pv 0) (pv 2) rfl)))), ?_⟩
    refine ⟨_, rfl, _, rfl, v1, d1, v2, d2, rfl, t1, r1, t2, r2, k1, k2, fun g1 g2 => ?_⟩
    refine ⟨_, rfl, _, rfl, a, C, dx, [], rfl, ha, cl, n1, by decide, ?_⟩
    refine ⟨_, rfl, _, rfl, a, C, dx, _, rfl, upd_same, cl, n2, Nat.lt_of_succ_le (Nat.le_of_ble_eq_true rfl), ?_⟩
    rw [upd_twice]
    exact k3 g1 g2
theorem isT_all {z : Str} : isT (.str z) = z.cps.toList.all letS.cps.contains := by
  unfold isT
  rw [Bool.eq_iff_iff, ← lstrip_all]
  simp
abbrev s_lsigns : Stmt := top 53
theorem sc_lsigns : FnScope [] [] (defScope s_lsigns) := ⟨rfl, rfl, rfl, by decide +kernel, rfl, by decide +kernel, by decide +kernel⟩
theorem b_lsigns {f : Addr} {fd : FuncData} (F : Fun K "_law_signs" "_law_signs" s_lsigns f fd) (T : Txt mg) : FnG P w K mg base CX0 1 f fd [] spSigns := by
  refine okG0 F sc_lsigns (fun vs H Q E h => ?_) (fun cdv A outer s H vs Q E hg hr h => ?_)
  · obtain ⟨rfl, _⟩ := h
    rfl
  · have hu := hu_of hr
    have hu64 := hr.units
    obtain ⟨rfl, k⟩ := h
    exact ⟨_, (pss_one (ps_ret pe_str)), k⟩

end
end Vk
set_option Elab.async false
set_option maxRecDepth 100000
set_option maxHeartbeats 4000000
set_option linter.all false
namespace Vk
open PySem PySem.Spec PyProof.Rows L2 LamX
/-! ## the law's own call, one def of the text makes lambdas (its code object c, its table P) -/
theorem const_i {p : Program} {loose : List Str} {mean : ExcName → Option Value} {mg mb : Str → Option Value} {h : Heap} (T : PyProof.Rows.Top p loose mean mg mb h) {x : Str} {i : Int} (e : PyProof.Rows.valOf p x = some (.int i)) : ∃ u, mg x = some u ∧ RelV (.int i) u := by
  obtain ⟨v, hv, r⟩ := T.const x _ e
  cases r h with
  | int i t => exact ⟨_, hv, ⟨t, rfl⟩⟩
theorem const_s {p : Program} {loose : List Str} {mean : ExcName → Option Value} {mg mb : Str → Option Value} {h : Heap} (T : PyProof.Rows.Top p loose mean mg mb h) {x z : Str} (e : PyProof.Rows.valOf p x = some (.str z)) : ∃ u, mg x = some u ∧ RelV (.str z) u := by
  obtain ⟨v, hv, r⟩ := T.const x _ e
  cases r h with
  | str i t => exact ⟨_, hv, ⟨t, rfl⟩⟩
end Vk
set_option Elab.async false
set_option maxRecDepth 100000
set_option maxHeartbeats 4000000
set_option linter.all false
namespace Vk
open PySem PySem.Spec PyProof.Rows L2 LamX
/-! ## where the modules are told lies a dict -/
section
variable {X : Cx} {pins : List (Addr × Obj)} {σ : L2.St} {H : Hp} {s : Shared}
end
/-! ## == of a list and the empty list -/
section
open Builtin
theorem list_far {prog : Program} {w : World} {A : Around} {s : Shared} {l b : Addr} {items items2 : Array Value} (hl : s.heap.IsList l items) (hb : s.heap.IsList b items2) (hsz : items.size ≠ items2.size) (hu : A.units < cLine) (E Q : Value → Shared → Prop)
    (h : Q (.bool false) s) : wpAny (model prog w) A (richCompare .Eq (.ref l) (.ref b)) Q E s := by
  obtain ⟨⟨cls, dd, data, sl⟩, ho, hc, n, hd⟩ := id hl
  obtain ⟨⟨cls2, dd2, data2, sl2⟩, ho2, hc2, n2, hd2⟩ := id hb
  simp only at hc hd hc2 hd2
  subst hc hd hc2 hd2
  have ta : s.TypeIs (.ref l) "list" := ⟨_, ho, rfl⟩
  have tb : s.TypeIs (.ref b) "list" := ⟨_, ho2, rfl⟩
  refine wpAny_richCompare_same_room (op := .Eq) ta tb F.slot_list_eq (GQ.call_here F.slot_list_eq ta F.entry_list_eq (F.args_list_eq_2 _ _) ?_) hu
  have f3 := AutoSeq1.sub_list_list
  have hne : (items.size != items2.size) = true := by simpa using hsz
  obtain ⟨hp, g, d, tk, os⟩ := s
  wp_walk using AutoSeq1.wpAny_loadPart' ho, AutoSeq1.wpAny_loadPart' ho2
  exact ⟨(fun x => nomatch x), h⟩
end
def rEqNil (K : PySem.W.Frag) : R2 := fun x y H Q => ∃ a xs b, x = .ref a ∧ y = .ref b ∧ SqL K H a xs ∧ SqL K H b [] ∧ Q (.bl (decide (xs.length = 0))) H
theorem op_eqNil {X : Cx} (hu : X.A.units + 64 < cLine) : OpR X (compareOp .Eq) (rEqNil X.K) := by
  intro pins s σ H x y v u Q I rx ry h
  obtain ⟨a, xs, b, rfl, rfl, ha, hb, q⟩ := h
  cases (show v = Value.ref a from rx)
  cases (show u = Value.ref b from ry)
  obtain ⟨us, r1, p1, _⟩ := I.list ha
  obtain ⟨ws, r2, p2, _⟩ := I.list hb
  cases r2
  show wpAny (model X.prog X.w) X.A (richCompare .Eq (.ref a) (.ref b)) (EP X pins σ Q) X.xe s
  cases xs with
  | nil =>
    cases r1
    exact SeqAt.rcP_lists (e := fun _ => true) p1.isList p2.isList rfl (by omega) (fun j h1 h2 => absurd h1 (by simp)) _ _ ⟨.bl true, H, I, rfl, q⟩
  | cons y ys =>
    cases r1 with
    | cons r rs => exact list_far p1.isList p2.isList (by simp) (by omega) _ _ ⟨.bl false, H, I, rfl, q⟩
/-! ## the law's own call, one def of the text makes lambdas (its code object c, its table P) -/
end Vk
set_option Elab.async false
set_option maxRecDepth 100000
set_option maxHeartbeats 4000000
set_option linter.all false
namespace Vk
open L2 PySem PySem.Spec PyProof.Rows PySem.VkX
/-! ## what is made is new -/
def New (H : Hp) (v : V) : Prop := ∀ b, v = .ref b → H b = none
theorem New.same {H H1 : Hp} {v : V} (n : New H1 v) (s : Same H H1) : New H v := fun b e => by
  match q : H b with
  | none => rfl
  | some o => exact nomatch (s b o q).symm.trans (n b e)
theorem New.ext {H H1 : Hp} {v : V} {p c : Addr} {T : Nat} (n : New H1 v) (x : Ext p H H1) (P : Pen H1 p c T) : New H v := fun b e => by
  match q : H b with
  | none => rfl
  | some o =>
    obtain ⟨t, l, hp⟩ := P.is
    by_cases hb : b = p
    · rw [hb] at e
      exact nomatch hp.symm.trans (n p e)
    · exact nomatch (x b o q hb).symm.trans (n b e)
theorem Atm.new {H : Hp} {v : V} {d : PyData} (a : Atm v d) : New H v := fun b e => by
  subst e
  cases a
theorem New.ne {H : Hp} {v : V} {D : Addr} {o : HO} (n : New H v) (h : H D = some o) : v ≠ .ref D := fun e => nomatch h.symm.trans (n D e)
theorem Th.at {H : Hp} {v : V} {d : PyData} {D : Addr} {o : HO} (h : Th H v d) (n : v ≠ .ref D) : Th (upd H D o) v d := by
  cases h with
  | atm a => exact .atm a
  | @lst a xs ds e ne p => exact .lst ((upd_ne fun z => n (congrArg V.ref z)).trans e) ne p
  | @tup a xs ds e p => exact .tup ((upd_ne fun z => n (congrArg V.ref z)).trans e) p
  | @dct a ps e => exact .dct ((upd_ne fun z => n (congrArg V.ref z)).trans e)
section
variable {t te : TE} {ta : TA} {d : PyData} {ds : List PyData}
end
end Vk
set_option Elab.async false
set_option maxRecDepth 100000
set_option linter.all false
namespace Vk
open PySem PySem.Spec PyProof.Rows L2
section
variable {P : Program} {w : World} {K : PySem.W.Frag} {mg : Str → Option Value} {base : Heap}
/-- the strings within a tuple are short -/
def El (d : PyData) : Prop := ∀ l, d = .tuple l → ∀ x ∈ l, Srt x
theorem ok_letters {x : Str} (h : ∀ c ∈ x.cps.toList, c ∈ letS.cps.toList) : PyData.strOk x = true := by
  have all : ∀ c ∈ letS.cps.toList, c < 0x110000 := by decide +kernel
  show x.cps.all (· < 0x110000) = true
  rw [Array.all_eq_true_iff_forall_mem]
  intro c hc
  simpa using all c (h c (by simpa using hc))
abbrev s_ldraw : Stmt := top 51
theorem sc_ldraw : FnScope ["_law_pen_here", "_law_many", "_law_digit", "_law_turn", "_law_cell", "_law_primes", "_law_prime", "_law_drawn"] ["_law_pen_here", "_law_many"] (defScope s_ldraw) := ⟨rfl, rfl, rfl, by decide +kernel, rfl, by decide +kernel, by decide +kernel⟩
theorem b_ldraw {f : Addr} {fd : FuncData} (F : Fun K "_law_draw" "_law_draw" s_ldraw f fd) (T : Txt mg) : FnG P w K mg base CX0 1 f fd ["_law_pen_here", "_law_many"] spDraw := by
  refine okG0 F sc_ldraw (fun vs H Q E h => ?_) (fun cdv A outer s H vs Q E hg hr h => ?_)
  · obtain ⟨p, c, m, T0, rfl, _⟩ := h
    rfl
  · have hu := hu_of hr
    have hu64 := hr.units
    obtain ⟨p, c, m, T0, rfl, m0, m1, ⟨ns, t, l, hp, hc, hn, t0, tT, l0⟩, hT, k⟩ := h
    have ncp : c ≠ p := ne_of hc hp (by intro z; cases z)
    have lenns : (ns.map V.int).length = ns.length := List.length_map _
    refine ⟨_, (pss_cons (ps_if (pt_cmpR op_gt (pe_dget hu (pv 0) pe_str (fun _ _ => rfl)) pe_int (nomark _)) (pss_cons (ps_set (i := 2) sc_ldraw.nd rfl (Or.inl rfl) (pe_op op_mod (pe_callTy call_int1 (by rfl) T.int (by decide +kernel) (pa_cons (pe_dget hu (pv 0) pe_str (fun _ _ => rfl)) pa_nil)) (pv 1)))
      (pss_cons (ps_dput hu (pv 0) pe_str (pe_op op_fdiv (pe_dget hu (pv 0) pe_str (fun _ _ => rfl)) (pv 1)) rfl)
      (pss_one (ps_ret (pv 2))))) pss_nil)
      (pss_cons (ps_set (i := 3) sc_ldraw.nd rfl (Or.inl rfl) (pe_dget hu (pv 0) pe_str (fun _ _ => rfl)))
      (pss_cons (ps_dput hu (pv 0) pe_str (pe_op op_add (pv 3) pe_int) rfl)
      (pss_cons (ps_set (i := 4) sc_ldraw.nd rfl (Or.inl rfl) (pe_op op_add (pe_op op_mul pe_int (pv 3)) pe_int))
      (C8.pss_cut (ps_if (pt_cmpR (op_neD hu64) (pe_dget hu (pv 0) pe_str (fun _ _ => rfl)) (pe_lst pa_nil) (nomark _)) (pss_one (ps_set (i := 4) sc_ldraw.nd rfl (Or.inl rfl) (pe_ix ix_seq (pe_dget hu (pv 0) pe_str (fun _ _ => rfl)) (pe_op op_mod (pe_callTy call_int1 (by rfl) T.int (by decide +kernel) (pa_cons (pv 3) pa_nil)) (pe_callB call_len (by rfl) T.len (by decide +kernel) (pa_cons (pe_dget hu (pv 0) pe_str (fun _ _ => rfl)) pa_nil))) (fun _ _ => rfl)))) pss_nil)
      (C8.pss_cut (ps_if (PW.pt (pw_and (pt_cmpR op_lt (pv 3) (pe_callB call_len (by rfl) T.len (by decide +kernel) (pa_cons (pe_dget hu (pv 0) pe_str (fun _ _ => rfl)) pa_nil)) (nomark _)) (pw_and1 (pt_cmpR op_ge (pe_callB call_abs (by rfl) T.abs (by decide +kernel) (pa_cons (pv 4) pa_nil)) (pe_op op_pow pe_int pe_int) (nomark _))))) (pss_cons (ps_dput hu (pv 0) pe_str (pe_op op_fdiv (pe_op op_sub (pe_callB call_abs (by rfl) T.abs (by decide +kernel) (pa_cons (pv 4) pa_nil)) (pe_op op_pow pe_int pe_int)) (pv 1)) rfl)
      (pss_one (ps_ret (pe_op op_mod (pe_op op_sub (pe_callB call_abs (by rfl) T.abs (by decide +kernel) (pa_cons (pv 4) pa_nil)) (pe_op op_pow pe_int pe_int)) (pv 1))))) pss_nil)
      (pss_cons (ps_set (i := 5) sc_ldraw.nd rfl (Or.inl rfl) (pe_lst (pa_cons pe_int (pa_cons pe_int (pa_cons pe_int (pa_cons pe_int (pa_cons pe_int pa_nil)))))))
      (pss_cons (ps_set (i := 6) sc_ldraw.nd rfl (Or.inl rfl) (pe_ix ix_seq (pv 5) (pe_op op_mod (pe_callTy call_int1 (by rfl) T.int (by decide +kernel) (pa_cons (pv 3) pa_nil)) pe_int) (fun _ _ => rfl)))
      (pss_cons (ps_set (i := 7) sc_ldraw.nd rfl (Or.inl rfl) (pe_op op_mod (pe_callTy call_int1 (by rfl) T.int (by decide +kernel) (pa_cons (pe_op op_add (pe_op op_add (pe_op op_mul (pe_op op_mod (pe_callTy call_int1 (by rfl) T.int (by decide +kernel) (pa_cons (pv 4) pa_nil)) (pv 6)) pe_int) (pe_op op_mul (pv 3) (pe_op op_add (pe_op op_mul pe_int (pv 3)) pe_int))) pe_int) pa_nil)) (pv 6)))
      (pss_cons (ps_set (i := 7) sc_ldraw.nd rfl (Or.inl rfl) (pe_op op_mod (pe_callTy call_int1 (by rfl) T.int (by decide +kernel) (pa_cons (pe_op op_mul (pv 7) (pe_op op_add (pv 7) pe_int)) pa_nil)) (pe_ix ix_seq (pv 5) (pe_op op_mod (pe_callTy call_int1 (by rfl) T.int (by decide +kernel) (pa_cons (pe_op op_add (pv 3) pe_int) pa_nil)) pe_int) (fun _ _ => rfl))))
      (pss_one (ps_ret (pe_op op_mod (pe_callTy call_int1 (by rfl) T.int (by decide +kernel) (pa_cons (pe_op op_fdiv (pe_op op_mod (pe_callTy call_int1 (by rfl) T.int (by decide +kernel) (pa_cons (pe_op op_add (pe_op op_add (pe_op op_mul (pv 7) (pv 7)) (pe_op op_mul pe_int (pv 7))) (pv 3)) pa_nil)) pe_int) pe_int) pa_nil)) (pv 1)))))))))))))), ?_⟩
    refine ⟨_, rfl, p, _, rfl, get_left hp, _, _, rfl, rfl, _, rfl, ?_⟩
    refine ite2 (fun hl => ?_) (fun hl => ?_)
    · refine ⟨_, rfl, p, _, rfl, get_left hp, .inl ⟨_, rfl, ?_⟩⟩
      refine ⟨_, rfl, _, _, rfl, rfl, m0, ?_⟩
      refine ⟨_, rfl, p, _, rfl, get_left hp, _, rfl, _, _, rfl, rfl, ⟨by omega, by omega⟩, ?_⟩
      refine ⟨_, rfl, p, _, rfl, put_left hp, _, rfl, ?_⟩
      refine k _ _ (Int.emod_nonneg _ (by omega)) (Int.emod_lt_of_pos _ m0) ⟨ns, t, _, upd_same, (upd_ne ncp).trans hc, hn, t0, by omega, Int.ediv_nonneg l0 (by omega)⟩ Ext.at
    · refine ⟨_, rfl, p, _, rfl, get_turn hp, ?_⟩
      refine ⟨_, rfl, _, _, rfl, rfl, _, rfl, p, _, rfl, put_turn hp, ?_⟩
      generalize hH1 : upd H p (.dK (penL c (t + 1) l)) = H1
      have hp1 : H1 p = some (.dK (penL c (t + 1) l)) := by rw [← hH1]; exact upd_same
      have hc1 : H1 c = some (.lst (ns.map V.int)) := by rw [← hH1]; exact (upd_ne ncp).trans hc
      have e1 : Ext p H H1 := by rw [← hH1]; exact Ext.at
      refine ⟨_, rfl, _, _, rfl, rfl, .inl ⟨by decide, by decide⟩, _, _, rfl, rfl, ?_⟩
      refine ⟨fun σ' H2 => ∃ z : Int, σ' = [some (.ref p), some (.int m), none, some (.int t), some (.int z), none, none, none] ∧ H2 p = some (.dK (penL c (t + 1) l)) ∧ H2 c = some (.lst (ns.map V.int)) ∧ Ext p H H2, ?_, ?_⟩
      · refine ⟨_, rfl, p, _, rfl, get_cells hp1, by decide, fun b hb => ?_⟩
        have hp2 := up_new (u := .lst []) hp1 hb
        have hc2 := up_new (u := .lst []) hc1 hb
        refine ⟨.list (ns.map .int), .list [], .lst (SqL.of hc2) (ints_dp ns), .lst (SqL.of upd_same) .nil, ints_shaped ns, by decide +kernel, _, rfl, ?_⟩
        rw [ints_ne_nil]
        refine ite2 (fun hne => ?_) (fun _ => ?_)
        · have hpos : 0 < ns.length := by
            cases ns with
            | nil => simp at hne
            | cons a r => exact Nat.succ_pos _
          refine ⟨_, rfl, p, _, rfl, get_cells hp2, _, rfl, .inl ⟨_, rfl, _, rfl, p, _, rfl, get_cells hp2, _, _, rfl, .inl ⟨_, SqL.of hc2, rfl⟩, _, _, rfl, rfl, ?_, ?_⟩⟩
          · rw [lenns]; omega
          · obtain ⟨v, hv, hm⟩ := at_mod (xs := ns.map V.int) (i := t % ((ns.map V.int).length : Int)) (Int.emod_nonneg _ (by rw [lenns]; omega)) (Int.emod_lt_of_pos _ (by rw [lenns]; omega))
            obtain ⟨z, _, rfl⟩ := List.mem_map.mp hm
            refine .inl ⟨_, _, _, _, rfl, rfl, SqL.of hc2, hv, z, rfl, hp2, hc2, e1.set (e1.none_of ?_ hb)⟩
            exact (ne_of_none hp1 hb).symm
        · exact ⟨_, rfl, hp2, hc2, e1.set (e1.none_of (ne_of_none hp1 hb).symm hb)⟩
      · rintro σ2 H2 ⟨z, rfl, hp2, hc2, e2⟩
        refine ⟨fun σ' H3 => σ' = [some (.ref p), some (.int m), none, some (.int t), some (.int z), none, none, none] ∧ H3 = H2, ?_, ?_⟩
        · refine ⟨_, rfl, _, rfl, p, _, rfl, get_cells hp2, _, _, rfl, .inl ⟨_, SqL.of hc2, rfl⟩, _, _, rfl, rfl, _, rfl, ?_⟩
          refine ite2 (fun _ => ?_) (fun _ => ?_)
          · refine ⟨_, rfl, _, rfl, _, _, rfl, rfl, ⟨by decide, by decide, by decide⟩, _, _, rfl, rfl, _, rfl, ?_⟩
            refine ite2 (fun hbig => ?_) (fun _ => ?_)
            · have big := of_decide_eq_true hbig
              refine ⟨_, rfl, _, rfl, _, _, rfl, rfl, ⟨by decide, by decide, by decide⟩, _, _, rfl, rfl, _, rfl, _, _, rfl, rfl, ⟨by omega, by omega⟩, ?_⟩
              refine ⟨_, rfl, p, _, rfl, put_left hp2, ?_⟩
              refine ⟨_, rfl, _, rfl, _, _, rfl, rfl, ⟨by decide, by decide, by decide⟩, _, _, rfl, rfl, _, rfl, _, _, rfl, rfl, m0, ?_⟩
              refine k _ _ (Int.emod_nonneg _ (by omega)) (Int.emod_lt_of_pos _ m0) ⟨ns, t + 1, _, upd_same, (upd_ne ncp).trans hc2, hn, by omega, by omega, Int.ediv_nonneg (by omega) (by omega)⟩ (e2.trans Ext.at)
            · exact ⟨rfl, rfl⟩
          · exact ⟨rfl, rfl⟩
        · rintro σ3 H3 ⟨rfl, rfl⟩
          refine ⟨by decide, fun q hq => ?_⟩
          have hp3 := up_new (u := .lst (primes.map V.int)) hp2 hq
          have hc3 := up_new (u := .lst (primes.map V.int)) hc2 hq
          have e3 : Ext p H (upd H3 q (.lst (primes.map V.int))) := e2.set (e2.none_of (ne_of_none hp2 hq).symm hq)
          have hq3 : (upd H3 q (.lst (primes.map V.int))) q = some (.lst (primes.map V.int)) := upd_same
          have pick : ∀ i : Int, 0 ≤ i → i < 5 → ∃ z : Int, atI (primes.map V.int) i = some (.int z) ∧ 0 < z ∧ z < 2147483648 := fun i h0 h5 => by
            obtain ⟨v, hv, hm⟩ := at_mod (xs := primes.map V.int) h0 h5
            obtain ⟨z, rfl, hz⟩ := primes_in hm
            exact ⟨z, hv, hz⟩
          obtain ⟨a1, ha1, a1p, a1b⟩ := pick (t % 5) (Int.emod_nonneg _ (by decide)) (Int.emod_lt_of_pos _ (by decide))
          obtain ⟨a2, ha2, a2p, a2b⟩ := pick ((t + 2) % 5) (Int.emod_nonneg _ (by decide)) (Int.emod_lt_of_pos _ (by decide))
          refine ⟨_, rfl, _, rfl, .inl ⟨_, rfl, _, _, rfl, rfl, (by show (0 : Int) < 5; decide), .inl ⟨_, _, _, _, rfl, rfl, SqL.of hq3, ha1, ?_⟩⟩⟩
          have b1 := Int.emod_nonneg z (show a1 ≠ 0 by omega)
          have b2 := Int.emod_lt_of_pos z a1p
          refine ⟨_, rfl, .inl ⟨_, rfl, _, rfl, _, _, rfl, rfl, a1p, _, _, rfl, rfl, .inr ⟨by decide, by decide⟩, ?_⟩⟩
          refine ⟨_, rfl, _, rfl, _, _, rfl, rfl, .inl ⟨by decide, by decide⟩, _, _, rfl, rfl, _, _, rfl, rfl, .inl ⟨by omega, by omega⟩, _, _, rfl, rfl, _, _, rfl, rfl, .inl ⟨_, rfl, _, rfl, _, _, rfl, rfl, a1p, ?_⟩⟩
          have d1 := Int.emod_nonneg (z % a1 * 39373 + t * (30011 * t + 8117) + 23) (show a1 ≠ 0 by omega)
          have d2 := Int.emod_lt_of_pos (z % a1 * 39373 + t * (30011 * t + 8117) + 23) a1p
          refine ⟨_, rfl, _, rfl, _, _, rfl, rfl, _, _, rfl, rfl, .inl ⟨by omega, by omega⟩, .inl ⟨_, rfl, _, rfl, _, rfl, _, _, rfl, rfl, .inl ⟨_, rfl, _, _, rfl, rfl, (by show (0 : Int) < 5; decide), .inl ⟨_, _, _, _, rfl, rfl, SqL.of hq3, ha2, _, _, rfl, rfl, a2p, ?_⟩⟩⟩⟩
          have f1 := Int.emod_nonneg (((z % a1 * 39373 + t * (30011 * t + 8117) + 23) % a1) * (((z % a1 * 39373 + t * (30011 * t + 8117) + 23) % a1) + 69621)) (show a2 ≠ 0 by omega)
          have f2 := Int.emod_lt_of_pos (((z % a1 * 39373 + t * (30011 * t + 8117) + 23) % a1) * (((z % a1 * 39373 + t * (30011 * t + 8117) + 23) % a1) + 69621)) a2p
          refine ⟨_, rfl, _, rfl, _, _, rfl, rfl, .inl ⟨by omega, by omega⟩, _, rfl, _, _, rfl, rfl, .inl ⟨by decide, by decide⟩, _, _, rfl, rfl, _, rfl, _, _, rfl, rfl, .inl ⟨_, rfl, _, _, rfl, rfl, (by show (0 : Int) < 2147483549; decide), _, _, rfl, rfl, ⟨by decide, by decide⟩, .inl ⟨_, rfl, _, rfl, _, _, rfl, rfl, m0, ?_⟩⟩⟩
          exact k _ _ (Int.emod_nonneg _ (by omega)) (Int.emod_lt_of_pos _ m0) ⟨ns, t + 1, l, hp3, hc3, hn, by omega, by omega, l0⟩ e3

abbrev s_lpen : Stmt := top 50
theorem sc_lpen : FnScope ["_law_script"] ["_law_script"] (defScope s_lpen) := ⟨rfl, rfl, rfl, by decide +kernel, rfl, by decide +kernel, by decide +kernel⟩
theorem b_lpen {f : Addr} {fd : FuncData} (F : Fun K "_law_pen" "_law_pen" s_lpen f fd) (T : Txt mg) : FnG P w K mg base CX0 1 f fd ["_law_script"] (spPen K) := by
  refine okG0 F sc_lpen (fun vs H Q E h => ?_) (fun cdv A outer s H vs Q E hg hr h => ?_)
  · obtain ⟨a, ns, rfl, _⟩ := h
    rfl
  · have hu := hu_of hr
    have hu64 := hr.units
    obtain ⟨a, ns, rfl, hs, k⟩ := h
    refine ⟨_, (pss_one (ps_ret (pe_disp (pps_cons pe_str (pe_callTy call_list_of (by rfl) T.list (by decide +kernel) (pa_cons (pe_slice sl_list (pv 0) po_none (po_some pe_int)) pa_nil)) (pps_cons pe_str pe_int (pps_cons pe_str pe_int pps_nil))) (by rfl) (by rfl) (fun z => by cases z) (by decide)))), ?_⟩
    intro p hp
    obtain ⟨ms, hms, hml⟩ := cut63 ns
    refine ⟨_, rfl, 63, rfl, a, _, rfl, (same_new hp).seq hs, fun q hq => ?_⟩
    refine ⟨q, _, rfl, .inl (SqL.of upd_same), fun c hc => ?_⟩
    rw [hms] at hc ⊢
    have nqp : p ≠ q := fun e => by rw [← e, upd_same] at hq; cases hq
    have ncp : p ≠ c := fun e => by rw [← e, upd_ne nqp, upd_same] at hc; cases hc
    have hp2 : (upd (upd (upd H p (.dK [])) q (.lst (ms.map V.int))) c (.lst (ms.map V.int))) p = some (.dK []) := by rw [upd_ne ncp, upd_ne nqp, upd_same]
    refine ⟨hp2, penL c 0 0, rfl, (by show 3 ≤ 15; decide), ?_⟩
    rw [pen_made]
    refine k p c _ hp ⟨ms, 0, 0, upd_same, by rw [upd_ne ncp.symm, upd_same], hml, Int.le_refl _, Int.le_refl _, Int.le_refl _⟩ fun b o e => ?_
    rw [upd_ne (ne_of_none e hp), upd_ne ?_, upd_ne ?_, upd_ne (ne_of_none e hp)]
    · exact e
    · rintro rfl
      rw [upd_ne (ne_of_none e hp)] at hq
      rw [hq] at e
      cases e
    · rintro rfl
      by_cases ebq : b = q
      · subst ebq
        rw [upd_ne nqp.symm] at hq
        rw [hq] at e
        cases e
      · rw [upd_ne ebq, upd_ne (ne_of_none e hp)] at hc
        rw [hc] at e
        cases e

abbrev s_lpick : Stmt := top 52
theorem sc_lpick : FnScope ["_law_pen_here", "_law_options"] ["_law_pen_here", "_law_options"] (defScope s_lpick) := ⟨rfl, rfl, rfl, by decide +kernel, rfl, by decide +kernel, by decide +kernel⟩
theorem b_lpick {f : Addr} {fd : FuncData} (F : Fun K "_law_pick" "_law_pick" s_lpick f fd) (T : Txt mg) (c_ldraw : CalG P w K mg base CX0 1 "_law_draw" spDraw) : FnG P w K mg base CX0 2 f fd ["_law_pen_here", "_law_options"] (spPick K) := by
  refine okG0 F sc_lpick (fun vs H Q E h => ?_) (fun cdv A outer s H vs Q E hg hr h => ?_)
  · obtain ⟨p, c, o, xs, T0, rfl, _⟩ := h
    rfl
  · have hu := hu_of hr
    have hu64 := hr.units
    obtain ⟨p, c, o, xs, T0, rfl, ho, hne, hlen, hpen, hT, k⟩ := h
    have hpos : 0 < xs.length := List.length_pos_iff.mpr hne
    have hr1 : Room 1 _ := hr
    refine ⟨_, (pss_one (ps_ret (pe_ix ix_seq (pv 1) (pe_cG c_ldraw hg hr (by decide) pass0 (pa_cons (pv 0) (pa_cons (pe_callB call_len (by rfl) T.len (by decide +kernel) (pa_cons (pv 1) pa_nil)) pa_nil))) (fun _ _ => rfl)))), ?_⟩

    cases ho with
    | str z hz =>
      have e := one_len z
      have hz24 : z.length ≤ sizeLine := Nat.le_trans hz (by decide)
      refine ⟨_, rfl, _, rfl, _, rfl, _, _, rfl, ⟨hz24, rfl⟩, p, c, _, T0, rfl, by omega, by omega, hpen, hT, fun d H' d0 d1 hpen' x => ?_⟩
      obtain ⟨e1, hc, hm⟩ := at_mod (xs := z.cps.toList) d0 (by rw [show (z.cps.toList.length : Int) = (z.length : Int) from congrArg Nat.cast Array.length_toList]; exact d1)
      exact .inr (.inr ⟨z, d, e1, rfl, rfl, hz24, hc, k _ _ (List.mem_map_of_mem (f := OneS) hm) hpen' x⟩)
    | lst hs =>
      refine ⟨_, rfl, _, rfl, _, rfl, _, _, rfl, .inl ⟨_, hs, rfl⟩, p, c, _, T0, rfl, by omega, by omega, hpen, hT, fun d H' d0 d1 hpen' x => ?_⟩
      obtain ⟨v, hv, hm⟩ := at_mod d0 d1
      exact .inl ⟨_, xs, d, v, rfl, rfl, hpen.keepL x hs, hv, k _ _ hm hpen' x⟩
    | tup hs =>
      refine ⟨_, rfl, _, rfl, _, rfl, _, _, rfl, .inr ⟨_, hs, rfl⟩, p, c, _, T0, rfl, by omega, by omega, hpen, hT, fun d H' d0 d1 hpen' x => ?_⟩
      obtain ⟨v, hv, hm⟩ := at_mod d0 d1
      exact .inr (.inl ⟨_, xs, d, v, rfl, rfl, hpen.keepT x hs, hv, k _ _ hm hpen' x⟩)

abbrev s_lfew : Stmt := top 54
theorem sc_lfew : FnScope ["_law_pen_here", "_law_some", "_law_rare", "_law_k"] ["_law_pen_here"] (defScope s_lfew) := ⟨rfl, rfl, rfl, by decide +kernel, rfl, by decide +kernel, by decide +kernel⟩
theorem b_lfew {f : Addr} {fd : FuncData} (F : Fun K "_law_few" "_law_few" s_lfew f fd) (T : Txt mg) (c_lpick : CalG P w K mg base CX0 2 "_law_pick" (spPick K)) (t_signs : FnT P w K mg base 1 "_law_signs" letS) : FnG P w K mg base CX0 3 f fd ["_law_pen_here"] spFew := by
  refine okG0 F sc_lfew (fun vs H Q E h => ?_) (fun cdv A outer s H vs Q E hg hr h => ?_)
  · obtain ⟨p, pc, T0, rfl, _⟩ := h
    rfl
  · have hu := hu_of hr
    have hu64 := hr.units
    obtain ⟨p, pc, T0, rfl, hpen, hT, k⟩ := h
    have hr2 : Room 2 _ := hr
    refine ⟨_, (pss_cons (ps_set (i := 1) sc_lfew.nd rfl (Or.inr rfl) (pe_lst (pa_cons (pe_cG c_lpick hg hr (by decide) pass0 (pa_cons (pv 0) (pa_cons (pe_replT t_signs hr (by decide) (by decide +kernel) (by decide +kernel)) pa_nil))) (pa_cons (pe_cG c_lpick hg hr (by decide) pass0 (pa_cons (pv 0) (pa_cons pe_str pa_nil))) (pa_cons (pe_cG c_lpick hg hr (by decide) pass0 (pa_cons (pv 0) (pa_cons pe_str pa_nil))) pa_nil)))))
      (pss_cons (ps_set (i := 2) sc_lfew.nd rfl (Or.inl rfl) (pe_join pe_str (pe_lc (own := [("_law_k", 3)]) (g := gName 3) rfl sc_lfew.nd (pi_range1 rfl T.range (pa_cons pe_int pa_nil)) (blkOk_by (own := [("_law_k", 3)]) (N := ["_law_pen_here", "_law_some", "_law_rare", "_law_k"]) (sc := defScope s_lfew) (by decide +kernel)) (fun _ _ _ _ _ => (pg_name (i := 3) sc_lfew.nd rfl (Or.inl rfl))) (fun _ _ _ _ _ => (pts_one (pt_cmpR (op_notIn_seqK (K := K) rfl) (pe_ix (ix_seqK (K := K) rfl) (pv 1) (pv 3) (fun _ _ => rfl)) (pe_slice (sl_listK (K := K) rfl) (pv 1) po_none (po_some (pv 3))) (by rfl)))) (fun _ _ _ _ _ => (pe_ix (ix_seqK (K := K) rfl) (pv 1) (pv 3) (fun _ _ => rfl))))))
      (pss_one (ps_ret (pe_cG c_lpick hg hr (by decide) pass0 (pa_cons (pv 0) (pa_cons (pe_lst (pa_cons pe_str (pa_cons pe_str (pa_cons pe_str (pa_cons pe_str (pa_cons pe_str (pa_cons pe_str (pa_cons pe_str (pa_cons pe_str (pa_cons pe_str (pa_cons (pv 2) pa_nil))))))))))) pa_nil))))))), ?_⟩
    refine ⟨_, rfl, p, pc, _, _, T0, rfl, .str _ (by rw [noq_len]; decide), opts_ne (by rw [noq_len]; decide), opts_le (by rw [noq_len]; decide), hpen, by omega, fun v1 H1 m1 P1 x1 => ?_⟩
    obtain ⟨c1, rfl, k1⟩ := ones_of m1
    refine ⟨_, rfl, p, pc, _, _, T0 + 1, rfl, .str _ (by decide), opts_ne (by decide), opts_le (by decide), P1, by omega, fun v2 H2 m2 P2 x2 => ?_⟩
    obtain ⟨c2, rfl, k2⟩ := ones_of m2
    refine ⟨_, rfl, p, pc, _, _, T0 + 2, rfl, .str _ (by decide), opts_ne (by decide), opts_le (by decide), P2, by omega, fun v3 H3 m3 P3 x3 => ?_⟩
    obtain ⟨c3, rfl, k3⟩ := ones_of m3
    refine ⟨by show 3 ≤ sizeLine; decide, fun a ha => ?_⟩
    have hin : ∀ c ∈ [c1, c2, c3], c ∈ letS.cps.toList := by
      intro c hc
      simp only [List.mem_cons, List.not_mem_nil, or_false] at hc
      rcases hc with rfl | rfl | rfl
      · exact noq_in k1
      · exact (by decide +kernel : ∀ c ∈ (Str.ofString "yz").cps.toList, c ∈ letS.cps.toList) _ k2
      · exact (by decide +kernel : ∀ c ∈ (Str.ofString "(\n").cps.toList, c ∈ letS.cps.toList) _ k3
    have P4 := P3.new (o := .lst ([c1, c2, c3].map OneS)) ha
    have x4 : Ext p H (upd H3 a (.lst ([c1, c2, c3].map OneS))) := (x1.trans (x2.trans x3)).trans (Ext.new ha)
    have ha4 : (upd H3 a (.lst ([c1, c2, c3].map OneS))) a = some (.lst ([c1, c2, c3].map OneS)) := upd_same
    generalize hxs : ([c1, c2, c3].map OneS : List V) = xs at ha4 P4 x4
    have hxl : xs.length = 3 := by rw [← hxs]; rfl
    have hxf : xs.all flatV = true := by rw [← hxs]; exact ones_flat _
    have hxm : ∀ v ∈ xs, ∃ c, v = OneS c ∧ c ∈ [c1, c2, c3] := by rw [← hxs]; exact fun v hv => one_mem hv
    have ha5 : (upd H3 a (.lst ([c1, c2, c3].map OneS))) = upd H3 a (.lst xs) := by rw [hxs]
    generalize hH4 : upd H3 a (.lst xs) = H4 at ha4 P4 x4 ha5
    refine ⟨⟨_, rfl⟩, ?_⟩
    show (iRng1 (tCons (tC (V.int 3)) tNil)) _ (upd H3 a (.lst ([c1, c2, c3].map OneS))) _
    rw [ha5]
    refine ⟨3, rfl, by decide, by decide, fun D hD => lc_range (lo := 0) (n := 3) (fun i H' => ∃ cs : List Nat, H' D = some (.lst (cs.map OneS)) ∧ cs.length ≤ i ∧ (1 ≤ i → 1 ≤ cs.length) ∧ (∀ c ∈ cs, c ∈ letS.cps.toList) ∧ Same H4 H') ?_ ?_ ?_⟩
    · exact ⟨[], upd_same, Nat.le_refl _, fun h => by omega, fun c hc => absurd hc List.not_mem_nil, same_new hD⟩
    · rintro i H5 hi ⟨cs, hDc, hcl, hc1, hcm, sm⟩
      obtain ⟨v, hv, hvm⟩ := at_mod (xs := xs) (i := 0 + (i : Int)) (by omega) (by rw [hxl]; omega)
      obtain ⟨c, rfl, hcc⟩ := hxm v hvm
      have sa : SqL K H5 a xs := sm.seq (SqL.of ha4)
      refine ⟨rfl, _, rfl, _, rfl, .inl ⟨a, xs, _, _, rfl, rfl, sa, hv, _, rfl, _, rfl, _, rfl, a, xs, rfl, sa, fun q hq => ⟨q, _, rfl, .inl (SqL.of upd_same), rfl, cutV_all hxf, _, rfl, ?_⟩⟩⟩
      have sq : Same H4 (upd H5 q (.lst (cutV xs none (some (0 + (i : Int)))))) := sm.trans (same_new hq)
      have dq := up_new (u := .lst (cutV xs none (some (0 + (i : Int))))) hDc hq
      refine ite2 (fun hb => ?_) (fun hb => ?_)
      · refine ⟨_, rfl, _, rfl, .inl ⟨a, xs, _, _, rfl, rfl, sq.seq (SqL.of ha4), hv, _, dq, by rw [List.length_map]; exact Nat.lt_of_le_of_lt hcl (Nat.lt_trans hi (by decide)), cs ++ [c], ?_, ?_, fun _ => ?_, ?_, ?_⟩⟩
        · rw [upd_same, List.map_append]
          rfl
        · rw [List.length_append]; exact Nat.add_le_add_right hcl 1
        · rw [List.length_append]; exact Nat.le_add_left _ _
        · intro d hd
          rcases List.mem_append.mp hd with hd | hd
          · exact hcm d hd
          · rw [List.mem_singleton.mp hd]
            exact hin c hcc
        · intro b o e
          by_cases hbD : b = D
          · rw [hbD, hD] at e
            cases e
          · exact (upd_ne hbD).trans (sq b o e)
      · refine ⟨cs, dq, Nat.le_succ_of_le hcl, fun _ => ?_, hcm, sq⟩
        by_cases h0 : i = 0
        · subst h0
          refine absurd ?_ hb
          show (if true = true then !inV (OneS c) (cutV xs none (some (0 + ((0 : Nat) : Int)))) else inV (OneS c) (cutV xs none (some (0 + ((0 : Nat) : Int))))) = true
          rw [show (0 : Int) + ((0 : Nat) : Int) = 0 from rfl, cutV_zero]
          rfl
        · exact hc1 (by omega)
    · rintro H5 ⟨cs, hDc, hcl, hc1, hcm, sm⟩
      refine ⟨_, D, cs.map fun c => ⟨#[c]⟩, rfl, rfl, .inl (SqL.of (by rw [ones_map]; exact hDc)), ?_, ?_⟩
      · rw [ones_len]
        show cs.length + _ * 0 ≤ _
        omega
      · rw [join_ones]
        have fz : Few ⟨cs.toArray⟩ := few_ones (hc1 (by decide)) hcl hcm
        have x5 : Ext p H H5 := x4.trans (Ext.same sm)
        have P5 := P4.stay sm
        refine ⟨_, rfl, _, rfl, by show 10 ≤ sizeLine; decide, fun q hq => ?_⟩
        refine ⟨p, pc, _, _, T0 + 3, rfl, .lst (SqL.of upd_same), by simp, by show 10 ≤ 1000; decide, P5.new hq, by omega, fun v H6 hm P6 x6 => ?_⟩
        have fin : ∃ z, v = .str z ∧ Few z := by
          simp only [List.mem_cons, List.not_mem_nil, or_false] at hm
          rcases hm with rfl | rfl | rfl | rfl | rfl | rfl | rfl | rfl | rfl | rfl
          all_goals first
            | exact ⟨_, rfl, fz⟩
            | exact ⟨_, rfl, few_of (by decide +kernel)⟩
        obtain ⟨z, rfl, hz⟩ := fin
        exact k z H6 hz P6 (x5.trans ((Ext.new hq).trans x6))

abbrev s_lword : Stmt := top 55
theorem sc_lword : FnScope ["_law_pen_here", "_law_signs_here", "_law_least", "_law_most_letters", "_law_many", "_law_k"] ["_law_pen_here", "_law_signs_here", "_law_least", "_law_most_letters"] (defScope s_lword) := ⟨rfl, rfl, rfl, by decide +kernel, rfl, by decide +kernel, by decide +kernel⟩
theorem b_lword {f : Addr} {fd : FuncData} (F : Fun K "_law_word" "_law_word" s_lword f fd) (T : Txt mg) (c_ldraw : CalG P w K mg base CX0 1 "_law_draw" spDraw) (c_lpick : CalG P w K mg base CX0 2 "_law_pick" (spPick K)) : FnG P w K mg base CX0 3 f fd ["_law_pen_here", "_law_signs_here", "_law_least", "_law_most_letters"] spWord := by
  refine okG0 F sc_lword (fun vs H Q E h => ?_) (fun cdv A outer s H vs Q E hg hr h => ?_)
  · obtain ⟨p, pc, z, a, b, T0, rfl, _⟩ := h
    rfl
  · have hu := hu_of hr
    have hu64 := hr.units
    obtain ⟨p, pc, z, a, b, T0, rfl, hab, hb, hz1, hz, hpen, hT, k⟩ := h
    have hr2 : Room 2 _ := hr
    refine ⟨_, (pss_cons (ps_set (i := 4) sc_lword.nd rfl (Or.inl rfl) (pe_op op_add (pv 2) (pe_cG c_ldraw hg hr (by decide) pass0 (pa_cons (pv 0) (pa_cons (pe_op op_add (pe_op op_sub (pv 3) (pv 2)) pe_int) pa_nil)))))
      (pss_one (ps_ret (pe_join pe_str (pe_lc (own := [("_law_k", 5)]) (g := gName 5) (tt := tYes) rfl sc_lword.nd (pi_range1 rfl T.range (pa_cons (pv 4) pa_nil)) (blkOk_by (own := [("_law_k", 5)]) (N := ["_law_pen_here", "_law_signs_here", "_law_least", "_law_most_letters", "_law_many", "_law_k"]) (sc := defScope s_lword) (by decide +kernel)) (fun _ _ _ _ _ => (pg_name (i := 5) sc_lword.nd rfl (Or.inl rfl))) (fun _ _ _ _ _ => pts_nil) (fun _ _ _ _ _ => (pe_cG c_lpick hg hr (by decide) pass0 (pa_cons (pv 0) (pa_cons (pv 1) pa_nil))))))))), ?_⟩
    refine ⟨_, rfl, _, rfl, _, rfl, _, rfl, _, _, rfl, rfl, _, _, rfl, rfl, p, pc, _, T0, rfl, by omega, by omega, hpen, by omega, fun d H1 d0 d1 P1 x1 => ?_⟩
    refine ⟨_, _, rfl, rfl, ⟨_, rfl⟩, ?_⟩
    obtain ⟨n, rfl⟩ : ∃ n : Nat, d = (n : Int) := ⟨d.toNat, by omega⟩
    refine ⟨_, rfl, _, rfl, by omega, by omega, fun D hD => ?_⟩
    have en : ((a : Int) + (n : Int)).toNat = a + n := by omega
    have hn : a + n ≤ b := by omega
    obtain ⟨nDp, nDc⟩ := P1.apart hD
    refine lc_range (lo := 0) (n := ((a : Int) + (n : Int)).toNat) (fun i H' => ∃ cs : List Nat, H' D = some (.lst (cs.map OneS)) ∧ cs.length = i ∧ (∀ c ∈ cs, c ∈ z.cps.toList) ∧ Pen H' p pc (T0 + 1 + i) ∧ Ext p H H') ?_ ?_ ?_
    · refine ⟨[], upd_same, rfl, fun c hc => absurd hc List.not_mem_nil, P1.new hD, x1.trans (Ext.new hD)⟩
    · rintro i H2 hi ⟨cs, hDc, hcl, hcm, P2, x2⟩
      rw [en] at hi
      refine ⟨rfl, _, rfl, _, rfl, p, pc, _, _, T0 + 1 + i, rfl, .str z hz, opts_ne hz1, opts_le hz, P2, by omega, fun v H3 hm P3 x3 => ?_⟩
      obtain ⟨c, rfl, hc⟩ := ones_of hm
      have d3 := P2.keepI x3 hDc
      refine ⟨_, d3, by rw [List.length_map, hcl]; exact Nat.lt_of_lt_of_le hi (Nat.le_trans hn (Nat.le_trans hb (by decide))), cs ++ [c], ?_, by rw [List.length_append, hcl]; rfl, ?_, ?_, ?_⟩
      · rw [upd_same, List.map_append]
        rfl
      · intro e he
        rcases List.mem_append.mp he with he | he
        · exact hcm e he
        · rw [List.mem_singleton.mp he]
          exact hc
      · exact P3.set nDp nDc
      · exact fun b o e hb => by
          rw [upd_ne (fun q => by rw [q, x1.none_of nDp hD] at e; cases e)]
          exact x3 b o (x2 b o e hb) hb
    · rintro H2 ⟨cs, hDc, hcl, hcm, P2, x2⟩
      refine ⟨_, D, cs.map fun c => ⟨#[c]⟩, rfl, rfl, .inl (SqL.of (by rw [ones_map]; exact hDc)), ?_, ?_⟩
      · rw [ones_len]
        show cs.length + _ * 0 ≤ _
        omega
      · rw [join_ones]
        rw [en] at hcl P2
        exact k _ H2 ⟨by show a ≤ cs.toArray.size; rw [List.size_toArray]; omega, by show cs.toArray.size ≤ b; rw [List.size_toArray]; omega, by simpa using hcm⟩ (P2.mono (by omega)) x2

end
end Vk
set_option Elab.async false
set_option maxRecDepth 100000
set_option maxHeartbeats 4000000
set_option linter.all false
namespace Vk
open L2 PySem PySem.Spec PyProof.Rows PySem.VkX
/-! ## several except clauses, two classes in one among them -/
inductive Cly
  | only (c : Value) (ts : Sui)
  | named (c : Value) (i : Nat) (ts : Sui)
  | pair (c1 c2 : Value) (ts : Sui)
inductive ClyOk (X : Cx) : List ExceptHandler → List Cly → Prop
  | nil : ClyOk X [] []
  | only {x : Str} {c : Value} {ts : Sui} {s0 : Stmt} {ss : List Stmt} {p1 p2 : Pos} {hs : List ExceptHandler} {l : List Cly} (hc : Names X x c) (su : SuiOk X (s0 :: ss) ts) (r : ClyOk X hs l) : ClyOk X (.ExceptHandler (some (.Name x p1)) none (s0 :: ss) p2 :: hs) (.only c ts :: l)
  | named {x n : Str} {c : Value} {i : Nat} {ts : Sui} {s0 : Stmt} {ss : List Stmt} {p1 p2 : Pos} {hs : List ExceptHandler} {l : List Cly} (hi : X.N[i]? = some n) (hl : X.env.kindOf n = some .local) (hc : Names X x c) (su : SuiOk X (s0 :: ss) ts) (r : ClyOk X hs l) :
      ClyOk X (.ExceptHandler (some (.Name x p1)) (some n) (s0 :: ss) p2 :: hs) (.named c i ts :: l)
  | pair {x y : Str} {c1 c2 : Value} {ts : Sui} {s0 : Stmt} {ss : List Stmt} {p1 p2 p3 pt : Pos} {kk : Nat} {hs : List ExceptHandler} {l : List Cly} (hx : Names X x c1) (hy : Names X y c2) (su : SuiOk X (s0 :: ss) ts) (r : ClyOk X hs l) :
      ClyOk X (.ExceptHandler (some (.Tuple [.Name x p1, .Name y p3] kk pt)) none (s0 :: ss) p2 :: hs) (.pair c1 c2 ts :: l)
section
variable {X : Cx} {body : List Stmt} {e0 : ExceptHandler} {es : List ExceptHandler} {l : List Cly} {pos : Pos} {tb : WX → TS} {W0 : WX}
end
end Vk
set_option Elab.async false
set_option maxRecDepth 100000
set_option linter.all false
set_option maxHeartbeats 4000000
namespace Vk
open PySem PySem.Spec PyProof.Rows L2
/-! ## what is never reached -/
/-! ## methods with nothing under way -/
structure MthG (P : Program) (w : World) (K : PySem.W.Frag) (mg : Str → Option Value) (base : Heap) (CX : CXT) (k : Nat) (C : Addr) (m : Str) (sp : Sp) : Prop where
  ex : ∃ (f : Addr) (fd : FuncData) (ps : List Str), Meth K C m f ∧ FnG P w K mg base CX k f fd ps sp ∧ Binds K fd ps []
section
variable {X : Cx} {CX : CXT} {k j : Nat} {C : Addr} {m : Str} {sp : Sp} {E : XK} {o e : Expr} {es : List Expr} {ta : TE} {t : TA} {apos pos : Pos}
theorem pe_methG {pl : Sem Bool} (he : PE X o ta) (c : Cls X.K C) (M : MthG X.prog X.w X.K X.mg X.base CX k C m sp) (hg : X.A.guards = some []) (hr : Room j X.A) (hk : k ≤ j) (hx : Passes CX X E) (ha : PA X (e :: es) t)
    (hst : starEach (e :: es) X.env = (false, eval e X.env) :: starEach es X.env := by rfl) (hpl : (backTo pos (starEach es X.env)).any (·.1) = false := by rfl)
    (ht : eval (.Call (.Attribute o m apos) (e :: es) [] pos) X.env = (do
      let ov ← eval o X.env
      standAt apos.atName
      let (f, first) ← holding [ov] (getMethod ov m pl)
      callWith pos f first (backTo pos (starEach (e :: es) X.env)) (backToKw pos (keywordEach [] X.env))) := by rfl) :
    PE X (.Call (.Attribute o m apos) (e :: es) [] pos) (tMeth C m sp [] E ta t) := by
  obtain ⟨f, fd, ps, hm, F, hb⟩ := M.ex
  refine ⟨fun pins s σ H Q I h => PySem.W.methodCall_KW (pl := pl) (thn (he.run pins s σ H _ I h) fun u s1 hh => ?_) ht⟩
  obtain ⟨x, H1, I1, rx, a, dx, fs, rfl, ea, l, q⟩ := hh
  cases (show u = Value.ref a from rx)
  refine getmeth_ok I1 ea c hm l (PySem.W.callWith_K (first := [.ref a]) (h₀ := X.base) I.ok.mod.kin hm.kp (thn (ha.run pos pins s1 σ H1 _ I1 q) fun us s2 hh2 => ?_) hst hpl)
  obtain ⟨vs, H2, I2, r, q2⟩ := hh2
  rw [List.append_nil] at q2
  exact ⟨I2.kIn, run_fnG (us := .ref a :: us) (vs := .ref a :: vs) F hg (hr.mono hk) hb hx I2 (.cons rfl r) q2⟩
end
/-! ## places that do not overlap, from the left -/
def apartM (len : Nat) : List Nat → Nat → List Nat
  | [], _ => []
  | p :: r, e => if e ≤ p then p :: apartM len r (p + len) else apartM len r e
theorem apartM_cons {len p e : Nat} {r : List Nat} : apartM len (p :: r) e = if e ≤ p then p :: apartM len r (p + len) else apartM len r e := rfl
theorem apartM_nil {len e : Nat} : apartM len [] e = [] := rfl
theorem apart_le {len : Nat} : ∀ (ps : List Nat) (e : Nat), (apartM len ps e).length ≤ ps.length
  | [], _ => Nat.le_refl _
  | p :: r, e => by
    unfold apartM
    split
    · exact Nat.succ_le_succ (apart_le r _)
    · exact Nat.le_succ_of_le (apart_le r e)
theorem apart_one {len : Nat} : ∀ {ps : List Nat}, ps.length ≤ 1 → apartM len ps 0 = ps
  | [], _ => rfl
  | [p], _ => by
    unfold apartM
    rw [if_pos (Nat.zero_le _)]
    rfl
  | _ :: _ :: _, h => absurd h (by simp)
/-- whether so many places are right: Once, First, Perhaps, Every -/
def fitsM : Nat → Nat → Bool
  | 0, m => decide (m = 1)
  | 2, m => decide (m < 2)
  | _, m => decide (0 < m)
def spotsM (n len : Nat) (ps : List Nat) : List Nat := apartM len (if n = 1 then ps.take 1 else ps) 0
theorem spots_le {n len : Nat} {ps : List Nat} : (spotsM n len ps).length ≤ ps.length := by
  unfold spotsM
  refine Nat.le_trans (apart_le _ _) ?_
  split
  · rw [List.length_take]
    omega
  · exact Nat.le_refl _
theorem cutS_len (x : Str) (a b : Option Int) : (cutS x a b).length ≤ x.length := by
  show (List.toArray _).size ≤ x.cps.size
  rw [List.size_toArray, List.length_take, List.length_drop, Array.length_toList]
  omega
theorem more_list {z y : Str} : (z ++ y).cps.toList = z.cps.toList ++ y.cps.toList := by
  show (z.cps ++ y.cps).toList = _
  simp
theorem tl_flat (ps : List Str) : TL.tl (Txt.join "" ps) = (ps.map TL.tl).flatten := by
  rw [TL.join_eq, TL.tl_join]
  exact join_nil _
theorem join_snoc {ps : List Str} {y : Str} : Txt.join "" (ps ++ [y]) = Txt.join "" ps ++ y := by
  refine TL.ext_tl ?_
  rw [tl_flat, List.map_append, List.flatten_append]
  have e : TL.tl (Txt.join "" ps ++ y) = TL.tl (Txt.join "" ps) ++ TL.tl y := more_list
  rw [e, tl_flat]
  simp
/-! rows of tuples -/
def Rws (H : Hp) (f : Nat → List V) : List V → List Nat → Prop := Paired fun v p => ∃ t, v = .ref t ∧ H t = some (.tup (f p))
theorem Rws.keep {H H1 : Hp} {f : Nat → List V} (s : Same H H1) : ∀ {xs : List V} {ps : List Nat}, Rws H f xs ps → Rws H1 f xs ps
  | _, _, .nil => .nil
  | _, _, .cons a t => .cons (by obtain ⟨u, e, h⟩ := a; exact ⟨u, e, s _ _ h⟩) (Rws.keep s t)
theorem paired_at {α β : Type} {R : α → β → Prop} : ∀ {xs : List α} {ys : List β} {i : Nat} {x : α}, Paired R xs ys → xs[i]? = some x → ∃ y, ys[i]? = some y ∧ R x y
  | _, _, 0, _, .cons a t, h => by cases h; exact ⟨_, rfl, a⟩
  | _, _, i + 1, _, .cons a t, h => paired_at (i := i) t h
theorem drop_at {α : Type} : ∀ {l : List α} {i : Nat} {x : α}, l[i]? = some x → l.drop i = x :: l.drop (i + 1)
  | a :: l, 0, x, h => by cases h; rfl
  | a :: l, i + 1, x, h => by simpa using drop_at (l := l) (i := i) (x := x) (by simpa using h)
/-! the classes -/
def sorts : List Str := ["once", "first", "perhaps", "every"]
def sortAt (n : Nat) : Str := sorts.getD n ""
def cls4 (C0 C1 C2 C3 : Addr) : Nat → Addr
  | 0 => C0
  | 1 => C1
  | 2 => C2
  | _ => C3
def fl (z1 z2 : Str) : List (Str × V) := [("_old", .str z1), ("_new", .str z2)]
theorem fl_old {z1 z2 : Str} : (fl z1 z2).lookup ("_old" : Str) = some (.str z1) := rfl
theorem fl_new {z1 z2 : Str} : (fl z1 z2).lookup ("_new" : Str) = some (.str z2) := rfl
structure EdF (K : PySem.W.Frag) (C : Addr) : Prop where
  cl : Cls K C
  n1 : NoAttr K C "_old"
  n2 : NoAttr K C "_new"
  ca : PySem.W.findIn K (.ref C) "__class__" = some (some (.builtin "object.__class__"))
  cn : PySem.W.specialIn K (.builtin "object.__class__") "__get__" = some (some (.builtin "getset_descriptor.__get__"))
  ct : PySem.W.takesIn K (.builtin "object.__class__") = some true
  cm : PySem.W.mroIn K C (.type "object") = some true
theorem EdF.ty {K : PySem.W.Frag} {C a dx : Addr} {H : Hp} {fs : List (Str × V)} (e : EdF K C) (h : H a = some (.ins C dx fs)) : TyX K H (.ref a) (.ref C) := .base (.ins h e.cl e.ca e.cn e.ct e.cm)
theorem few_lt {n : Nat} (h : n ≤ 1000) : n < sizeLine := Nat.lt_of_le_of_lt h (by rw [sizeLine_eq]; decide)
theorem upd_twice3 {H : Hp} {a : Addr} {o1 o2 : HO} : upd (upd H a o1) a o2 = upd H a o2 := by
  funext b
  by_cases h : b = a
  · subst h; rw [upd_same, upd_same]
  · rw [upd_ne h, upd_ne h, upd_ne h]
end Vk
set_option Elab.async false
set_option maxRecDepth 100000
set_option maxHeartbeats 4000000
set_option linter.all false
/-! ## sorted of rows of four: two numbers that tell all rows apart, and two numbers or texts -/
namespace SrtO
open PySem PySem.Spec PyProof.Rows
section
variable {prog : Program} {w : World} {A : Around} {E : Value → Shared → Prop} {s : Shared}
def AtomU (v : Value) : Prop := (∃ x t, v = Value.str x t) ∨ (∃ i t, v = Value.int i t)
def IsQuad (h : Heap) (v : Value) (x y : Int) : Prop := ∃ a o t u c d n, v = .ref a ∧ h.get? a = some o ∧ o.cls = .type "tuple" ∧ o.data = .seq #[.int x t, .int y u, c, d] n ∧ AtomU c ∧ AtomU d
theorem IsQuad.keeps {h h' : Heap} {v : Value} {x y : Int} (p : IsQuad h v x y) (k : ∀ b o, h.get? b = some o → o.cls = .type "tuple" → h'.get? b = some o) : IsQuad h' v x y := by
  obtain ⟨a, o, t, u, c, d, n, e, ho, hc, r⟩ := p
  exact ⟨a, o, t, u, c, d, n, e, k _ _ ho hc, hc, r⟩
theorem firsts_of4 {h : Heap} : ∀ {vs : List Value}, (∀ v ∈ vs, ∃ x y, IsQuad h v x y) → ∃ fs : List Value, PySem.W.KatTups h vs fs ∧ fs.length = vs.length ∧ ∀ f ∈ fs, ∃ x t, f = Value.int x t
  | [], _ => ⟨[], PySem.W.KatTups.nil, rfl, fun _ hm => by simp at hm⟩
  | v :: vs, hp => by
    obtain ⟨fs, h1, h2, h3⟩ := firsts_of4 (vs := vs) fun v' hm => hp v' (List.mem_cons_of_mem _ hm)
    obtain ⟨x, y, a, o, t, u, c, d, n, e, ho, hc, hd, _⟩ := hp v (List.mem_cons_self ..)
    subst e
    refine ⟨.int x t :: fs, PySem.W.KatTups.cons ho hc hd rfl h1, by rw [List.length_cons, List.length_cons, h2], fun f hm => ?_⟩
    rcases List.mem_cons.mp hm with rfl | hm
    · exact ⟨x, t, rfl⟩
    · exact h3 f hm
theorem atom_self {c : Value} (hc : AtomU c) {Q : Bool → Shared → Prop} (h : Q true s) : wpAny (model prog w) A (eqBool c c) Q (fun _ _ => False) s := by
  rcases hc with ⟨x, t, rfl⟩ | ⟨i, t, rfl⟩
  · exact wpAny_eqBool_str (by rw [decide_eq_true rfl]; exact h)
  · exact wpAny_eqBool_int (by rw [beq_self_eq_true]; exact h)
theorem quad_cmp {vs : List Value} {k : Value → Int × Int} (hp : ∀ v ∈ vs, IsQuad s.heap v (k v).1 (k v).2) (hi : ∀ v ∈ vs, ∀ u ∈ vs, k v = k u → v = u) : Cmp prog w A s (tuples' true) (fun p => p.1 ∈ vs) (lt2 fun v u => lexB (k v) (k u)) := by
  intro p q hm hm'
  have h1 := hp _ hm
  have h2 := hp _ hm'
  have hi := hi _ hm _ hm'
  show wpAny (model prog w) A (keyLt' (tuples' true) p.1 q.1) (fun r s' => s' = s ∧ r = lexB (k p.1) (k q.1)) (fun _ _ => False) s
  have hk : (k p.1).1 = (k q.1).1 → (k p.1).2 = (k q.1).2 → p.1 = q.1 := fun a b => hi (Prod.ext a b)
  unfold lexB
  generalize (k p.1).1 = x at h1 hk ⊢
  generalize (k p.1).2 = y at h1 hk ⊢
  generalize (k q.1).1 = x' at h2 hk ⊢
  generalize (k q.1).2 = y' at h2 hk ⊢
  obtain ⟨a, o, t, u, c, d, n, e, ho, hc, hd, ac, ad⟩ := h1
  obtain ⟨a', o', t', u', c', d', n', e', ho', hc', hd', ac', ad'⟩ := h2
  rw [e, e'] at hk ⊢
  refine PySem.W.kat_lt ho hd ho' hd' ?_
  show PySem.W.KatLex prog w A true (decide (4 < 4)) _ [(.int x t, .int x' t'), (.int y u, .int y' u'), (c, c'), (d, d')] 0 s
  refine PySem.W.kat_cons (SeqAt.EqAt.int_int x t x' t' prog w _ _ ?_)
  refine PySem.W.kat_go (fun e1 => ?_) (fun e1 => ?_)
  · have ex : x = x' := by simpa using e1
    refine PySem.W.kat_yes (PySem.W.kat_cons (SeqAt.EqAt.int_int y u y' u' prog w _ _ ?_))
    refine PySem.W.kat_go (fun e2 => ?_) (fun e2 => ?_)
    · have ey : y = y' := by simpa using e2
      have e3 : (if x = x' then decide (y < y') else decide (x < x')) = false := by
        rw [if_pos ex, ey]
        exact decide_eq_false (Int.lt_irrefl _)
      have ea : a = a' := Value.ref.inj (hk ex ey)
      subst ea
      rw [ho] at ho'
      obtain rfl := Option.some.inj ho'
      rw [hd] at hd'
      have hz : c = c' ∧ d = d' := by
        have z := (Data.seq.inj hd').1
        have z2 := congrArg Array.toList z
        have z3 := (List.cons.inj (List.cons.inj z2).2).2
        exact ⟨(List.cons.inj z3).1, (List.cons.inj (List.cons.inj z3).2).1⟩
      obtain ⟨rfl, rfl⟩ := hz
      refine PySem.W.kat_yes (PySem.W.kat_cons (atom_self ac (PySem.W.kat_yes (PySem.W.kat_cons (atom_self ad (PySem.W.kat_yes (PySem.W.kat_nil ?_)))))))
      exact ⟨rfl, e3.symm⟩
    · have e3 : (if x = x' then decide (y < y') else decide (x < x')) = decide (y < y') := if_pos ex
      refine PySem.W.kat_no (PySem.W.kat_one _ _ (PyProof.Rows.lt_int ?_))
      exact (show s = s ∧ decide (y < y') = (if x = x' then decide (y < y') else decide (x < x')) from ⟨rfl, e3.symm⟩)
  · have ex : ¬ x = x' := by simpa using e1
    have e3 : (if x = x' then decide (y < y') else decide (x < x')) = decide (x < x') := if_neg ex
    exact PySem.W.kat_no (oneLt_int ⟨rfl, e3.symm⟩)
theorem quads_sortableO {a : Addr} {vs : List Value} {k : Value → Int × Int} (h0 : 0 < vs.length) (hp : ∀ v ∈ vs, IsQuad s.heap v (k v).1 (k v).2) (hi : ∀ v ∈ vs, ∀ u ∈ vs, k v = k u → v = u) (ha : ∀ o, s.heap.get? a = some o → o.cls ≠ .type "tuple") : SortableO prog w A s a vs fun v u => lexB (k v) (k u) := by
  intro h' keep
  have hp' : ∀ v ∈ vs, IsQuad h' v (k v).1 (k v).2 := fun v hm => (hp v hm).keeps fun b o e c => keep b o (fun z => by subst z; exact ha o e c) e
  obtain ⟨fs, h1, h2, h3⟩ := firsts_of4 fun v hm => ⟨_, _, hp' v hm⟩
  refine ⟨tuples' true, fun Q E hq => ?_, quad_cmp hp' hi⟩
  refine PySem.W.kat_kind (T := .type "int") h1 (by omega) (fun f hm => ?_) (by rfl) ?_
  · obtain ⟨x, t, rfl⟩ := h3 f hm
    exact PySem.W.Looks.now
  · have e : (Value.type "int" != Value.type "tuple") = true := by first | decide +kernel | rfl | decide
    rw [e]
    exact hq
theorem sorted_quadsO {l : Addr} {vs : List Value} {k : Value → Int × Int} {Q : Value → Shared → Prop} (hl : s.heap.IsList l vs.toArray) (hz : vs.length ≤ sizeLine) (hp : ∀ v ∈ vs, IsQuad s.heap v (k v).1 (k v).2) (hi : ∀ v ∈ vs, ∀ u ∈ vs, k v = k u → v = u)
    (h : ∀ (h' : Heap) (d : Addr) (out : List Value), Srtd (fun v u => lexB (k v) (k u)) out → Stb (fun v u => lexB (k v) (k u)) out vs → (∀ b o, s.heap.get? b = some o → h'.get? b = some o) → s.heap.objs.size ≤ d → (∃ n, h'.get? d = some (seqObj "list" out.toArray n)) → Q (.ref d) { s with heap := h' }) :
    wpAny (model prog w) A (call (.builtin "sorted") [.ref l]) Q E s := by
  refine sorted_ord (swo_lex k) hl hz (fun h2 h₁ a ha kk => ?_) fun out hs hb => ?_
  · refine quads_sortableO (s := { s with heap := h₁ }) (by omega) (fun v hm => (hp v hm).keeps fun b o e _ => (kk b o e).2) hi fun o e => ?_
    have e' : some o = some (seqObj "list" vs.toArray 0) := e.symm.trans ha
    cases e'
    intro c
    exact absurd (Value.type.inj c) (by decide)
  · exact h _ _ out hs hb (fun b o e => sortedAll_old e) (Nat.le_succ _) (sortedAll_at s.heap vs out.toArray)
end
end SrtO
namespace Vk
open L2 PySem PySem.Spec PyProof.Rows
def AtomV (v : V) : Prop := (∃ x, v = V.str x) ∨ (∃ i, v = V.int i)
theorem AtomV.of {v : V} {u : Value} (h : AtomV v) (r : RelV v u) : SrtO.AtomU u := by
  rcases h with ⟨x, rfl⟩ | ⟨i, rfl⟩
  · obtain ⟨t, rfl⟩ := r
    exact .inl ⟨_, _, rfl⟩
  · obtain ⟨t, rfl⟩ := r
    exact .inr ⟨_, _, rfl⟩
/-- sorted(xs), xs a list of rows of four that differ in their two numbers (k says which) -/
def rSortedQ (K : PySem.W.Frag) : List V → Hp → VK → Prop := fun vs H Q => ∃ (a : Addr) (xs : List V) (k : V → Int × Int), vs = [V.ref a] ∧ SqL K H a xs ∧ (∀ x ∈ xs, ∃ t c d, x = V.ref t ∧ H t = some (.tup [.int (k x).1, .int (k x).2, c, d]) ∧ AtomV c ∧ AtomV d) ∧ (∀ x ∈ xs, ∀ y ∈ xs, k x = k y → x = y) ∧
  ∀ ys p, SrtO.Srtd (ltP k) ys → ys.Perm xs → H p = none → Q (.ref p) (upd H p (.lst ys))
theorem vals4 {x y z z' : V} {us : List Value} (r : Vals [x, y, z, z'] us) : ∃ u w' t' t2, us = [u, w', t', t2] ∧ RelV x u ∧ RelV y w' ∧ RelV z t' ∧ RelV z' t2 := by
  cases r with
  | cons r1 r2 =>
    cases r2 with
    | cons r3 r4 =>
      obtain ⟨u, w', rfl, r5, r6⟩ := vals2 r4
      exact ⟨_, _, u, w', rfl, r1, r3, r5, r6⟩
theorem cr_sortedQ {X : Cx} : CallR X (.builtin "sorted") (rSortedQ X.K) := by
  intro pins s σ H vs us Q I r h
  obtain ⟨a, xs, k, rfl, hs, hx, hi, q⟩ := h
  obtain ⟨its, rv, hl, hz⟩ := I.list hs
  obtain ⟨u, rfl, ru⟩ := vals1 r
  obtain rfl : u = Value.ref a := ru
  obtain ⟨e1, e2⟩ := refs_back rv fun x m => by
    obtain ⟨t, _, _, e, _⟩ := hx x m
    exact ⟨t, e⟩
  refine SrtO.sorted_quadsO (k := fun u => k (backV u)) hl.isList (by rw [← rv.length]; exact hz) (fun v hv => ?_) (fun v hv v' hv' => ?_) fun h' d out h1 h2 kp hd hn => ?_
  · obtain ⟨t, rfl⟩ := e2 v hv
    have hm : V.ref t ∈ xs := by rw [e1]; exact List.mem_map.mpr ⟨_, hv, rfl⟩
    obtain ⟨t', c, d, e, ht, ac, ad⟩ := hx _ hm
    cases e
    obtain ⟨_, its2, r2, o, ho, hc, n, hd⟩ := I.hok _ _ ht
    obtain ⟨u1, u2, u3, u4, rfl, ri, rj, rc, rd⟩ := vals4 r2
    obtain ⟨t1, rfl⟩ := ri
    obtain ⟨t2, rfl⟩ := rj
    exact ⟨t, o, t1, t2, u3, u4, n, rfl, ho, hc, hd, ac.of rc, ad.of rd⟩
  · obtain ⟨t, rfl⟩ := e2 v hv
    obtain ⟨t', rfl⟩ := e2 v' hv'
    intro e
    have hm : V.ref t ∈ xs := by rw [e1]; exact List.mem_map.mpr ⟨_, hv, rfl⟩
    have hm' : V.ref t' ∈ xs := by rw [e1]; exact List.mem_map.mpr ⟨_, hv', rfl⟩
    have z := hi _ hm _ hm' e
    rw [V.ref.inj z]
  · have h3 : ∀ u ∈ out, ∃ a, u = Value.ref a := fun u hu => e2 u (h2.perm.mem_iff.mp hu)
    obtain ⟨n, hn⟩ := hn
    have hb : (out.map backV).Perm xs := by
      rw [e1]
      exact h2.perm.map backV
    refine ⟨.ref d, upd H d (.lst (out.map backV)), I.laid (t' := s.toks) kp hd ⟨?_, out, n, L2.vals_back h3, hn⟩, rfl, q _ d (SrtO.srtd_map h1) hb (I.hok.fresh hd)⟩
    rw [hb.length_eq]
    exact hz
end Vk
set_option Elab.async false
set_option maxRecDepth 100000
set_option linter.all false
set_option maxHeartbeats 4000000
namespace Vk
open PySem PySem.Spec PyProof.Rows L2 LamX NdefX StX
section
variable {P : Program} {w : World} {K : PySem.W.Frag} {mg : Str → Option Value} {base : Heap}
theorem isNew_eq {z : Str} (h : isT (.str z) = true) : isNew (.str z) = decide ((z.length : Int) ≤ 40) := by
  unfold isNew
  rw [h]
  rfl
theorem isOld_eq {z : Str} (h : isT (.str z) = true) : isOld (.str z) = (decide ((z.length : Int) ≤ 40) && decide ((1 : Int) ≤ z.length)) := by
  unfold isOld
  rw [isNew_eq h]
  show (_ && !decide (V.str z = V.str "")) = _
  congr 1
  by_cases e : z = ""
  · subst e
    decide
  · have n : V.str z ≠ V.str "" := fun w => e (V.str.inj w)
    rw [decide_eq_false n]
    symm
    rw [Bool.not_false, decide_eq_true_eq]
    have pos : z.length ≠ 0 := fun w => e (str_empty.mpr (List.length_eq_zero_iff.mp (by simpa [Str.length] using w)))
    omega
theorem isOld_str {d : PyData} (h : isOld d = true) : ∃ z, d = .str z := by
  unfold isOld at h
  rw [Bool.and_eq_true] at h
  exact isNew_str h.1
def isTup : PyData → Bool
  | .tuple _ => true
  | _ => false
theorem kit_tup {H : Hp} {v : V} {d : PyData} (h : Th H v d) : ∃ t b, TyX K H v t ∧ PySem.W.kitOne K t (.type "tuple") = some b ∧ b = isTup d := by
  cases h with
  | atm a => cases a with
    | non => exact ⟨.type "NoneType", false, .base .non, kit_ty (by decide +kernel), rfl⟩
    | bl b => exact ⟨.type "bool", false, .base (.bl b), kit_ty (by decide +kernel), rfl⟩
    | int i => exact ⟨.type "int", false, .base (.int i), kit_ty (by decide +kernel), rfl⟩
    | str x => exact ⟨.type "str", false, .base (.str x), kit_ty (by decide +kernel), rfl⟩
  | lst e _ _ => exact ⟨.type "list", false, .base (.lst e), kit_ty (by decide +kernel), rfl⟩
  | tup e _ => exact ⟨.type "tuple", true, .base (.tup e), kit_ty (by decide +kernel), rfl⟩
  | dct e => exact ⟨.type "dict", false, .base (.dK e), kit_ty (by decide +kernel), rfl⟩
/-- a right part -/
def isP : PyData → Bool
  | .tuple [x, y] => isOld x && isNew y
  | _ => false
def oldOf : PyData → Str
  | .tuple (.str z :: _) => z
  | _ => ""
def seen (z : Str) (olds : List Str) : Bool := inV (.str z) (olds.map V.str)
/-- the index of the first wrong part -/
def bad (olds : List Str) : List PyData → Nat → Option Nat
  | [], _ => none
  | d :: r, i => if isP d = true then (if seen (oldOf d) olds = true then some i else bad (olds ++ [oldOf d]) r (i + 1)) else some i
theorem flat_strs (olds : List Str) : (olds.map V.str).all flatV = true := by
  rw [List.all_eq_true]
  intro x hx
  obtain ⟨z, _, rfl⟩ := List.mem_map.mp hx
  rfl
theorem paired_get {α β : Type} {R : α → β → Prop} : ∀ {xs : List α} {ys : List β} {i : Nat} {x : α}, Paired R xs ys → xs[i]? = some x → ∃ y, ys[i]? = some y ∧ R x y
  | _, _, 0, _, .cons a t, h => by cases h; exact ⟨_, rfl, a⟩
  | _, _, i + 1, _, .cons a t, h => paired_get (i := i) t h
theorem isP_two {d : PyData} (h : isP d = true) : ∃ z y, d = .tuple [.str z, y] ∧ isOld (.str z) = true ∧ isNew y = true ∧ oldOf d = z := by
  match d, h with
  | .tuple [x, y], h =>
    have h2 : (isOld x && isNew y) = true := h
    rw [Bool.and_eq_true] at h2
    obtain ⟨z, rfl⟩ := isOld_str h2.1
    exact ⟨z, y, rfl, h2.1, h2.2, rfl⟩
theorem drop_cons {α : Type} : ∀ {l : List α} {i : Nat} {x : α}, l[i]? = some x → l.drop i = x :: l.drop (i + 1)
  | a :: l, 0, x, h => by cases h; rfl
  | a :: l, i + 1, x, h => by simpa using drop_cons (l := l) (i := i) (x := x) (by simpa using h)
def spPart : Sp := fun vs H Q _ => ∃ v d, vs = [v] ∧ Th H v d ∧ El d ∧ Q (.bl (isP d)) H
abbrev s_is_part : Stmt := top 20
theorem sc_is_part : FnScope ["value"] ["value"] (defScope s_is_part) := ⟨rfl, rfl, rfl, by decide +kernel, rfl, by decide +kernel, by decide +kernel⟩
theorem b_is_part {f : Addr} {fd : FuncData} (F : Fun K "is_part" "is_part" s_is_part f fd) (T : Txt mg) (c_is_old : CalG P w K mg base CX0 3 "is_old" (spTest isOld)) (c_is_new : CalG P w K mg base CX0 2 "is_new" (spTest isNew)) : FnG P w K mg base CX0 4 f fd ["value"] spPart := by
  refine okG0 F sc_is_part (fun vs H Q E h => ?_) (fun cdv A outer s H vs Q E hg hr h => ?_)
  · obtain ⟨v, d, rfl, _⟩ := h
    rfl
  · have hu := hu_of hr
    have hu64 := hr.units
    obtain ⟨v, d, rfl, th, el, k⟩ := h
    obtain ⟨t, b, ty, kt, hb⟩ := kit_tup (K := K) th
    refine ⟨_, (pss_one (ps_ret (pe_and (pe_callB call_isi (by rfl) T.isinstance (by decide +kernel) (pa_cons (pv 0) (pa_cons (pe_bltn (v := .ty "tuple") (by rfl) T.tuple rfl rfl) pa_nil))) (pe_and (pe_cmpR op_eq (pe_callB call_len (by rfl) T.len (by decide +kernel) (pa_cons (pv 0) pa_nil)) pe_int (nomark _)) (pe_and (pe_cG c_is_old hg hr (by decide) pass0 (pa_cons (pe_ix ix_seq (pv 0) pe_int (fun _ _ => rfl)) pa_nil)) (pe_one (pe_cG c_is_new hg hr (by decide) pass0 (pa_cons (pe_ix ix_seq (pv 0) pe_int (fun _ _ => rfl)) pa_nil)))))))), ?_⟩
    refine ⟨_, rfl, v, .ty "tuple", t, .type "tuple", b, rfl, .ty "tuple", ty, kt, _, rfl, ?_⟩
    cases th with
    | atm a => cases a <;> (subst hb; exact iteF k)
    | lst e n p => subst hb; exact iteF k
    | dct e => subst hb; exact iteF k
    | @tup a xs ds e pa =>
      subst hb
      refine iteT ⟨_, rfl, .ref a, xs.length, rfl, .inr ⟨_, SqT.of e, rfl⟩, rfl, _, rfl, ?_⟩
      match xs, ds, pa, e, el, k with
      | [], [], _, e, el, k => exact iteF k
      | [x1], [y1], _, e, el, k => exact iteF k
      | [x1, x2], [y1, y2], .cons p1 (.cons p2 .nil), e, el, k =>
        refine iteT ⟨_, rfl, .inr (.inl ⟨a, _, _, x1, rfl, rfl, SqT.of e, rfl, x1, y1, rfl, .atm p1, el _ rfl _ (by simp), _, rfl, ?_⟩)⟩
        have k : Q (.bl (isOld y1 && isNew y2)) H := k
        cases h1 : isOld y1 with
        | false =>
          rw [h1] at k
          exact iteF k
        | true =>
          rw [h1] at k
          exact iteT ⟨_, rfl, .inr (.inl ⟨a, _, _, x2, rfl, rfl, SqT.of e, rfl, x2, y2, rfl, .atm p2, el _ rfl _ (by simp), k⟩)⟩
      | x1 :: x2 :: x3 :: xr, y1 :: y2 :: y3 :: yr, _, e, el, k =>
        have z : decide (V.int ((x1 :: x2 :: x3 :: xr).length : Nat) = V.int 2) = false := decide_eq_false fun z => by
          have := V.int.inj z
          simp at this
          omega
        rw [z]
        exact iteF k

/-- the errors of the parts; EI and ET are told of the heaps that hold them -/
def Chk (Ci Cm : Addr) (ds : List PyData) (H : Hp) (E : XK) (ok : Prop) : Prop :=
  (∀ i, bad [] ds 0 = some i → ∀ H1 d, Same H H1 → H1 d = none → E (.ref Ci) (some d) (upd H1 d (.xd [(("index" : Str), .int i)]))) ∧
  (bad [] ds 0 = none → 3 < ds.length → ∀ H1 d, Same H H1 → H1 d = none → E (.ref Cm) (some d) (upd H1 d (.xd [(("limit" : Str), .int 3)]))) ∧
  (bad [] ds 0 = none → ds.length ≤ 3 → ok)
def spChk (Ci Cm : Addr) : Sp := fun vs H Q E => ∃ q xs ds, vs = [.ref q] ∧ H q = some (.tup xs) ∧ Paired (Th H) xs ds ∧ (∀ d ∈ ds, El d) ∧ ds.length ≤ 900 ∧ Chk Ci Cm ds H E (∀ H', Same H H' → Q .non H')
abbrev s_check_parts : Stmt := top 22
theorem sc_check_parts : FnScope ["parts", "olds", "index", "part"] ["parts"] (defScope s_check_parts) := ⟨rfl, rfl, rfl, by decide +kernel, rfl, by decide +kernel, by decide +kernel⟩
theorem b_check_parts {f : Addr} {fd : FuncData} (F : Fun K "check_parts" "check_parts" s_check_parts f fd) (T : Txt mg) (c_is_part : CalG P w K mg base CX0 4 "is_part" spPart) {C_InvalidPart : Addr} (c_InvalidPart : ClsI P w K mg base 1 "InvalidPart" C_InvalidPart ["index"]) {C_TooMany : Addr} (c_TooMany : ClsI P w K mg base 1 "TooMany" C_TooMany ["limit"]) (g_MAX_PARTS : ∃ u, mg "MAX_PARTS" = some u ∧ RelV (.int 3) u) : FnG P w K mg base (L2.CX P w) 5 f fd ["parts"] (spChk C_InvalidPart C_TooMany) := by
  refine okG F sc_check_parts (fun vs H Q E h => ?_) (fun cdv A outer s H vs Q E hg hr h => ?_)
  · obtain ⟨q, xs, ds, rfl, _⟩ := h
    rfl
  · have hu := hu_of hr
    have hu64 := hr.units
    obtain ⟨q, xs, ds, rfl, hq, pr, el, hl, k1, k2, k3⟩ := h
    have hlen := paired_len pr
    refine ⟨_, (pss_cons (ps_set (i := 1) sc_check_parts.nd rfl (Or.inl rfl) (pe_lst pa_nil))
      (pss_cons (ps_for (passes_of rfl) rfl (pi_enumT (by rfl) T.enumerate (pa_cons (pv 0) pa_nil)) (pg_tup rfl (pgs_cons (pg_name (i := 2) sc_check_parts.nd rfl (Or.inl rfl)) (pgs_cons (pg_name (i := 3) sc_check_parts.nd rfl (Or.inl rfl)) pgs_nil))) (pss_cons (ps_if (PW.pt (pw_or (pt_not (pt_val (pe_cG c_is_part hg hr (by decide) pass0 (pa_cons (pv 3) pa_nil)))) (pw_or1 (pt_cmpR op_in_seq (pe_ix ix_seq (pv 3) pe_int (fun _ _ => rfl)) (pv 1) (by rfl))))) (pss_one (ps_raise rfl (takes_of rfl rfl rfl rfl) (pmk_k c_InvalidPart hg hr (by decide) pass0 (pa_cons (pv 2) pa_nil)))) pss_nil)
      (pss_one (ps_expr (pe_bm PySem.F.plainAttrs_list PySem.F.slot_list_append PySem.F.type_list_append mt_append (pv 1) (pa_cons (pe_ix ix_seq (pv 3) pe_int (fun _ _ => rfl)) pa_nil))))))
      (pss_one (ps_if (pt_cmpR op_gt (pe_callB call_len (by rfl) T.len (by decide +kernel) (pa_cons (pv 0) pa_nil)) (C8.pe_gc (by rfl) g_MAX_PARTS) (nomark _)) (pss_one (ps_raise rfl (takes_of rfl rfl rfl rfl) (pmk_k c_TooMany hg hr (by decide) pass0 (pa_cons (C8.pe_gc (by rfl) g_MAX_PARTS) pa_nil)))) pss_nil)))), ?_⟩
    refine seq_asg ⟨few_len (Nat.zero_le _), fun lo hlo => ?_⟩
    have s0 := same_new (o := .lst []) hlo
    refine ⟨_, rfl, q, _, rfl, s0 _ _ hq, fun i m σ H2 => m + i = xs.length ∧ (∃ a b, σ = [some (.ref q), some (.ref lo), a, b]) ∧ Same H H2 ∧ ∃ olds : List Str, H2 lo = some (.lst (olds.map V.str)) ∧ olds.length = i ∧ bad [] ds 0 = bad olds (ds.drop i) i, ⟨xs.length, rfl, ⟨_, _, rfl⟩, s0, [], upd_same, rfl, rfl⟩, ?_⟩
    rintro i m σ H2 ⟨hm, ⟨a, b, rfl⟩, s2, olds, hlo2, hol, hb⟩
    by_cases hi : i < xs.length
    · obtain ⟨x, hx⟩ : ∃ x, xs[i]? = some x := ⟨xs[i], List.getElem?_eq_getElem hi⟩
      obtain ⟨d, hd, th⟩ := paired_get pr hx
      rw [drop_cons hd] at hb
      refine .inr ⟨⟨_, _, s2 _ _ hq, hx⟩, fun σ2 H3 => m - 1 + (i + 1) = xs.length ∧ (∃ a b, σ2 = [some (.ref q), some (.ref lo), a, b]) ∧ Same H H3 ∧ ∃ olds : List Str, H3 lo = some (.lst (olds.map V.str)) ∧ olds.length = i + 1 ∧ bad [] ds 0 = bad olds (ds.drop (i + 1)) (i + 1), fun σ2 H3 p => ⟨m - 1, by omega, p⟩, ?_⟩
      rintro y H3 ⟨T, y2, xs2, rfl, hT, rfl, hxs, hy⟩
      have e := (s2 _ _ hq).symm.trans hxs
      cases e
      cases hx.symm.trans hy
      have s3 := s2.trans (same_new (o := .tup [.int (i : Nat), x]) hT)
      have hlo3 := (same_new (o := .tup [.int (i : Nat), x]) hT) _ _ hlo2
      have eld := el d (List.mem_of_getElem? hd)
      refine ⟨T, _, rfl, SqT.of upd_same, rfl, ?_⟩
      refine ⟨_, _, rfl, _, _, rfl, rfl, _, rfl, x, d, rfl, th.keep s3, eld, _, rfl, ?_⟩
      cases hP : isP d with
      | false =>
        have e1 : bad [] ds 0 = some i := hb.trans (by unfold bad; rw [hP]; rfl)
        exact iteT (iteT ⟨_, rfl, rfl, fun d2 hd2 => k1 i e1 _ d2 s3 hd2⟩)
      | true =>
        obtain ⟨z, y, rfl, o1, o2, eo⟩ := isP_two hP
        cases th.keep s3 with
        | atm a => cases a
        | @tup t vs2 _ ht pa =>
        match vs2, pa, ht with
        | [_, v2], .cons (.str _) (.cons p2 .nil), ht =>
        refine iteF ⟨_, rfl, .inr (.inl ⟨t, _, _, _, rfl, rfl, SqT.of ht, rfl, _, rfl, lo, olds.map V.str, rfl, .inl (SqL.of hlo3), rfl, flat_strs _, _, rfl, ?_⟩)⟩
        show (if seen z olds = true then _ else _)
        cases hS : seen z olds with
        | true =>
          have e1 : bad [] ds 0 = some i := hb.trans (by unfold bad; rw [hP, eo, hS]; rfl)
          exact iteT ⟨_, rfl, rfl, fun d2 hd2 => k1 i e1 _ d2 s3 hd2⟩
        | false =>
          have e1 : bad [] ds 0 = bad (olds ++ [z]) (ds.drop (i + 1)) (i + 1) := hb.trans (by rw [bad, hP, eo, hS]; rfl)
          refine iteF ?_
          refine ⟨_, rfl, .inl ⟨rfl, _, SqL.of hlo3⟩, _, rfl, .inr (.inl ⟨t, _, _, _, rfl, rfl, SqT.of ht, rfl, lo, _, _, rfl, rfl, hlo3, few_lt (by rw [List.length_map]; omega), ?_⟩)⟩
          refine ⟨by omega, ⟨_, _, rfl⟩, fun b o h => ?_, olds ++ [z], ?_, by rw [List.length_append, hol]; rfl, e1⟩
          · rw [upd_ne (ne_of_none h hlo)]
            exact s3 _ _ h
          · rw [upd_same, List.map_append]
            rfl
    · have e : i = xs.length := by omega
      have e1 : bad [] ds 0 = none := hb.trans (by rw [List.drop_eq_nil_of_le (by omega)]; rfl)
      refine .inl ⟨⟨_, s2 _ _ hq, e.symm⟩, ?_⟩
      refine ⟨_, rfl, .ref q, xs.length, rfl, .inr ⟨_, SqT.of (s2 _ _ hq), rfl⟩, _, _, rfl, rfl, _, rfl, ?_⟩
      cases h3 : decide ((xs.length : Int) > 3) with
      | true => exact iteT ⟨rfl, fun d2 hd2 => k2 e1 (by have := of_decide_eq_true h3; omega) _ d2 s2 hd2⟩
      | false => exact iteF (k3 e1 (by have := of_decide_eq_false h3; omega) _ s2)

end
end Vk
set_option Elab.async false
set_option maxRecDepth 100000
set_option linter.all false
set_option maxHeartbeats 4000000
namespace Vk
open PySem PySem.Spec PyProof.Rows L2 LamX NdefX StX
section
variable {P : Program} {w : World} {K : PySem.W.Frag} {mg : Str → Option Value} {base : Heap}
theorem Chk.imp {Ci Cm : Addr} {ds : List PyData} {H H1 : Hp} {E : XK} {p q : Prop} (s : Same H H1) (k : Chk Ci Cm ds H E p) (h : p → q) : Chk Ci Cm ds H1 E q :=
  ⟨fun i e H2 d s2 hd => k.1 i e H2 d (s.trans s2) hd, fun e l H2 d s2 hd => k.2.1 e l H2 d (s.trans s2) hd, fun e l => h (k.2.2 e l)⟩
abbrev m_AtOnce : Stmt := mtd (top 28) 0
theorem sc_AtOnce : FnScope ["self", "parts"] ["self", "parts"] (defScope m_AtOnce) := ⟨rfl, rfl, rfl, by decide +kernel, rfl, by decide +kernel, by decide +kernel⟩
def spAtI (C Ci Cm : Addr) : Sp := fun vs H Q E => ∃ a dx q xs ds, vs = [.ref a, .ref q] ∧ H a = some (.ins C dx []) ∧ H q = some (.tup xs) ∧ Paired (Th H) xs ds ∧ (∀ d ∈ ds, El d) ∧ ds.length ≤ 900 ∧ Chk Ci Cm ds H E (∀ H', Same H H' → Q .non (upd H' a (.ins C dx [("_parts", .ref q)])))
abbrev spAt (C Ci Cm : Addr) : Sp := fun vs H Q E => ∃ ws rest, vs = ws ++ rest ∧ ws.length = (["self"] : List Str).length ∧ rest.length ≤ sizeLine ∧ ∀ p, H p = none → spAtI C Ci Cm (ws ++ [.ref p]) (upd H p (.tup rest)) Q E
theorem b_AtOnce {f C Ci Cm : Addr} {fd : FuncData} (F : Fun K "__init__" "AtOnce.__init__" m_AtOnce f fd) (c_check_parts : CalG P w K mg base (L2.CX P w) 5 "check_parts" (spChk Ci Cm)) (cl : Cls K C) (n1 : NoAttr K C "_parts") : FnRG P w K mg base (L2.CX P w) 6 f (spAt C Ci Cm) := by
  refine okStar (ps := ["self"]) (pv := "parts") F sc_AtOnce cxUp (fun kV doc pm an cdv ct us rest hl => ?_) (fun cdv A outer s H vs Q E hg hr h => ?_)
  · exact bind_star1 (B := fun us => bindArgs (PySem.W.fnOf _ _ _ _ _ _ kV doc pm an cdv ct) ⟨us, []⟩) (fun a => rfl) (fun a r rs => rfl) us rest hl
  · obtain ⟨a, dx, q, xs, ds, rfl, ha, hq, pr, el, hl, k⟩ := h
    refine ⟨_, (pss_cons (ps_expr (pe_cG c_check_parts hg hr (by decide) (passes_call (takes_of rfl rfl rfl rfl) (fun _ _ _ _ h => h)) (pa_cons (pv 1) pa_nil))) (pss_one (ps_fld (pv 0) (pv 1) rfl))), ?_⟩
    refine ⟨_, rfl, q, xs, ds, rfl, hq, pr, el, hl, k.imp Same.rfl fun k H2 s2 => ?_⟩
    exact ⟨_, rfl, _, rfl, a, C, dx, [], rfl, s2 _ _ ha, cl, n1, by decide, k _ s2⟩
/-- what comes of AtOnce(..) -/
def AtOut (C Ci Cm : Addr) (xs : List V) (ds : List PyData) (H : Hp) (Q : VK) (E : XK) : Prop := Chk Ci Cm ds H E (∀ b dx q H', Same H H' → H' b = some (.ins C dx [("_parts", .ref q)]) → H' q = some (.tup xs) → Q (.ref b) H')
theorem born_at {C Ci Cm : Addr} {xs : List V} {ds : List PyData} {H : Hp} {Q : VK} {E : XK} (pr : Paired (Th H) xs ds) (el : ∀ d ∈ ds, El d) (hl : ds.length ≤ 900) (k : AtOut C Ci Cm xs ds H Q E) : Born C (spAt C Ci Cm) xs H Q E := by
  intro a dx ha hdx ne
  have x1 : Same H (upd (upd H dx (.own a)) a (.ins C dx [])) := fun b o h => by
    rw [upd_ne (ne_of_none h ha), upd_ne (ne_of_none h hdx)]
    exact h
  refine ⟨[.ref a], xs, rfl, rfl, few_len (by have := paired_len pr; omega), fun p hp => ?_⟩
  have x2 := x1.trans (same_new (o := .tup xs) hp)
  refine ⟨a, dx, p, xs, ds, rfl, (same_new hp) _ _ upd_same, upd_same, ths_keep x2 pr, el, hl, Chk.imp x2 k fun k H2 s2 => ⟨rfl, ?_⟩⟩
  have nap : p ≠ a := fun z => by
    rw [z, upd_same] at hp
    cases hp
  refine k a dx p _ (fun b o h => ?_) upd_same ?_
  · rw [upd_ne (ne_of_none h ha)]
    exact s2 _ _ (x2 _ _ h)
  · rw [upd_ne nap]
    exact s2 _ _ upd_same
abbrev m_parts : Stmt := mtd (top 28) 1
theorem b_parts {f C : Addr} {fd : FuncData} (F : Fun K "parts" "AtOnce.parts" m_parts f fd) (e : EdF K C) (np : NoAttr K C "_parts") : FnOk P w K mg base CX0 1 f fd ["self"] (getSp C "_parts") := by
  obtain ⟨oc, od, kV, doc, pm, an, cdv, ct, osl, rfl, lk, hcd⟩ := F.ex
  exact fn_getter (N := ["self"]) lk hcd ⟨rfl, rfl, rfl, by decide +kernel, rfl, by decide +kernel, by decide +kernel⟩ rfl rfl e.cl np
end
end Vk
set_option Elab.async false
set_option maxRecDepth 100000
set_option linter.all false
set_option maxHeartbeats 4000000
namespace Vk
open PySem PySem.Spec PyProof.Rows L2 LamX NdefX StX
/-! ## several words at once: where they stand, in which order -/
/-- a place, the index of the part, old, new -/
structure Rw where
  b : Nat
  k : Nat
  o : Str
  n : Str
def Rw.e (r : Rw) : Nat := r.b + r.o.length
def overl : List Rw → Bool
  | a :: c :: r => decide (c.b < a.e) || overl (c :: r)
  | _ => false
theorem overl_cons {a c : Rw} {r : List Rw} : overl (a :: c :: r) = (decide (c.b < a.e) || overl (c :: r)) := rfl
theorem overl_strict : ∀ {L : List Rw}, (∀ r ∈ L, 1 ≤ r.o.length) → overl L = false → L.Pairwise fun a c => a.b < c.b
  | [], _, _ => .nil
  | [a], _, _ => List.pairwise_singleton _ _
  | a :: c :: r, h, e => by
    rw [overl_cons, Bool.or_eq_false_iff] at e
    have ih := overl_strict (L := c :: r) (fun x hx => h x (List.mem_cons_of_mem _ hx)) e.2
    have h1 : a.b < c.b := by
      have := of_decide_eq_false e.1
      have := h a List.mem_cons_self
      unfold Rw.e at *
      omega
    refine List.pairwise_cons.mpr ⟨fun x hx => ?_, ih⟩
    rcases List.mem_cons.mp hx with rfl | hx
    · exact h1
    · exact Nat.lt_trans h1 ((List.pairwise_cons.mp ih).1 x hx)
theorem strict_uniq : ∀ {L M : List Rw}, L.Perm M → (L.Pairwise fun a c => a.b < c.b) → (M.Pairwise fun a c => a.b ≤ c.b) → L = M
  | [], M, p, _, _ => (List.Perm.eq_nil p.symm).symm
  | x :: l, [], p, _, _ => absurd p.length_eq (by simp)
  | x :: l, y :: m, p, hl, hm => by
    have e : x = y := by
      rcases List.mem_cons.mp (p.mem_iff.mp (List.mem_cons_self (a := x) (l := l))) with e | hx
      · exact e
      · rcases List.mem_cons.mp (p.mem_iff.mpr (List.mem_cons_self (a := y) (l := m))) with e | hy
        · exact e.symm
        · have h1 := (List.pairwise_cons.mp hl).1 y hy
          have h2 := (List.pairwise_cons.mp hm).1 x hx
          omega
    subst e
    rw [strict_uniq p.cons_inv (List.pairwise_cons.mp hl).2 (List.pairwise_cons.mp hm).2]
theorem overl_same {L M : List Rw} (h : ∀ r ∈ L, 1 ≤ r.o.length) (p : L.Perm M) (hl : L.Pairwise fun a c => a.b ≤ c.b) (hm : M.Pairwise fun a c => a.b ≤ c.b) : overl L = overl M ∧ (overl M = false → L = M) := by
  have hM : ∀ r ∈ M, 1 ≤ r.o.length := fun r hr => h r (p.mem_iff.mpr hr)
  cases e : overl L with
  | false =>
    have := strict_uniq p (overl_strict h e) hm
    subst this
    exact ⟨e.symm, fun _ => rfl⟩
  | true =>
    cases e2 : overl M with
    | false =>
      have := strict_uniq p.symm (overl_strict hM e2) hl
      subst this
      rw [e] at e2
      cases e2
    | true => exact ⟨rfl, fun z => nomatch z⟩
def leR (a c : Rw) : Bool := decide (a.b ≤ c.b)
def ordM (L : List Rw) : List Rw := L.mergeSort leR
theorem ordM_perm (L : List Rw) : (ordM L).Perm L := List.mergeSort_perm L leR
theorem ordM_le (L : List Rw) : (ordM L).Pairwise fun a c => a.b ≤ c.b := by
  have h := List.pairwise_mergeSort (le := leR) (fun a b c h1 h2 => by
    have a1 := of_decide_eq_true h1
    have a2 := of_decide_eq_true h2
    exact decide_eq_true (by omega)) (fun a b => by
    unfold leR
    rw [Bool.or_eq_true, decide_eq_true_eq, decide_eq_true_eq]
    omega) L
  exact h.imp fun h => of_decide_eq_true h
/-- the rows of all parts -/
def rowsM (x : Str) : List (Str × Str) → Nat → List Rw
  | [], _ => []
  | p :: r, k => ⟨(plc x p.1).headD 0, k, p.1, p.2⟩ :: rowsM x r (k + 1)
theorem rowsM_cons {x : Str} {p : Str × Str} {r : List (Str × Str)} {k : Nat} : rowsM x (p :: r) k = ⟨(plc x p.1).headD 0, k, p.1, p.2⟩ :: rowsM x r (k + 1) := rfl
theorem rowsM_snoc {x : Str} {p : Str × Str} : ∀ {r : List (Str × Str)} {k : Nat}, rowsM x (r ++ [p]) k = rowsM x r k ++ [⟨(plc x p.1).headD 0, k + r.length, p.1, p.2⟩]
  | [], k => rfl
  | q :: r, k => by
    rw [List.cons_append, rowsM_cons, rowsM_cons, rowsM_snoc (r := r), List.cons_append, List.length_cons, show k + 1 + r.length = k + (r.length + 1) from by omega]
theorem rowsM_len {x : Str} : ∀ {ps : List (Str × Str)} {k : Nat}, (rowsM x ps k).length = ps.length
  | [], _ => rfl
  | p :: r, k => by rw [rowsM_cons, List.length_cons, List.length_cons, rowsM_len (ps := r)]
theorem rowsM_mem {x : Str} : ∀ {ps : List (Str × Str)} {k : Nat} {r : Rw}, r ∈ rowsM x ps k → k ≤ r.k ∧ (r.o, r.n) ∈ ps ∧ r.b = (plc x r.o).headD 0
  | p :: t, k, r, h => by
    rw [rowsM_cons] at h
    rcases List.mem_cons.mp h with rfl | h
    · exact ⟨Nat.le_refl _, List.mem_cons_self, rfl⟩
    · obtain ⟨a, b, c⟩ := rowsM_mem h
      exact ⟨by omega, List.mem_cons_of_mem _ b, c⟩
/-- the number of places of the first old that does not stand once -/
def wrongM (x : Str) : List (Str × Str) → Option Nat
  | [] => none
  | p :: r => if (plc x p.1).length = 1 then wrongM x r else some (plc x p.1).length
theorem wrongM_cons {x : Str} {p : Str × Str} {r : List (Str × Str)} : wrongM x (p :: r) = if (plc x p.1).length = 1 then wrongM x r else some (plc x p.1).length := rfl
theorem wrong_all {x : Str} : ∀ {ps : List (Str × Str)}, wrongM x ps = none → ∀ p ∈ ps, (plc x p.1).length = 1
  | p :: r, h, q, hq => by
    rw [wrongM_cons] at h
    by_cases e : (plc x p.1).length = 1
    · rw [if_pos e] at h
      rcases List.mem_cons.mp hq with rfl | hq
      · exact e
      · exact wrong_all h q hq
    · rw [if_neg e] at h
      cases h
theorem one_head {l : List Nat} (h : l.length = 1) : l = [l.headD 0] := by
  match l, h with
  | [a], _ => rfl
/-- the text with all rows put in -/
def foldA (x : Str) : List Rw → Nat → Str → Str
  | [], k, acc => acc ++ cutS x (some (k : Int)) none
  | r :: L, k, acc => foldA x L r.e (acc ++ cutS x (some (k : Int)) (some (r.b : Int)) ++ r.n)
theorem foldA_cons {x : Str} {r : Rw} {L : List Rw} {k : Nat} {acc : Str} : foldA x (r :: L) k acc = foldA x L r.e (acc ++ cutS x (some (k : Int)) (some (r.b : Int)) ++ r.n) := rfl
theorem foldA_nil {x : Str} {k : Nat} {acc : Str} : foldA x [] k acc = acc ++ cutS x (some (k : Int)) none := rfl
/-- what becomes of a text -/
inductive Out
  | txt (y : Str)
  | no (m : Nat)
  | over
def outM (x : Str) (ps : List (Str × Str)) : Out :=
  match wrongM x ps with
  | some m => .no m
  | none => if overl (ordM (rowsM x ps 0)) = true then .over else .txt (foldA x (ordM (rowsM x ps 0)) 0 "")
theorem outM_no {x : Str} {ps : List (Str × Str)} {m : Nat} (h : wrongM x ps = some m) : outM x ps = .no m := by
  unfold outM
  rw [h]
theorem outM_over {x : Str} {ps : List (Str × Str)} (h : wrongM x ps = none) (o : overl (ordM (rowsM x ps 0)) = true) : outM x ps = .over := by
  unfold outM
  rw [h]
  exact if_pos o
theorem outM_txt {x : Str} {ps : List (Str × Str)} (h : wrongM x ps = none) (o : overl (ordM (rowsM x ps 0)) = false) : outM x ps = .txt (foldA x (ordM (rowsM x ps 0)) 0 "") := by
  unfold outM
  rw [h]
  exact if_neg (by rw [o]; decide)
/-! rows as tuples -/
theorem paired_perm {α β : Type} {R : α → β → Prop} {xs ys : List α} (p : ys.Perm xs) : ∀ {rs : List β}, Paired R xs rs → ∃ ls, ls.Perm rs ∧ Paired R ys ls := by
  induction p with
  | nil => exact fun h => ⟨_, .refl _, h⟩
  | cons x p ih =>
    intro rs h
    cases h with
    | cons a t =>
      obtain ⟨ls, q, r⟩ := ih t
      exact ⟨_, q.cons _, .cons a r⟩
  | swap x y l =>
    intro rs h
    cases h with
    | cons a t =>
      cases t with
      | cons b t => exact ⟨_, .swap _ _ _, .cons b (.cons a t)⟩
  | trans p1 p2 ih1 ih2 =>
    intro rs h
    obtain ⟨ls, q, r⟩ := ih2 h
    obtain ⟨ms, q2, r2⟩ := ih1 r
    exact ⟨ms, q2.trans q, r2⟩
theorem paired_key {α β γ : Type} {R : α → β → Prop} {f : β → γ} {g : α → γ} (hg : ∀ x r, R x r → g x = f r) : ∀ {xs : List α} {rs : List β}, Paired R xs rs → (rs.map f).Nodup → ∀ x ∈ xs, ∀ y ∈ xs, g x = g y → x = y
  | _, _, .cons (a := a) (b := b) q t, nd, x, hx, y, hy, e => by
    rw [List.map_cons, List.nodup_cons] at nd
    have no : ∀ z, z ∈ _ → g z ≠ f b := fun z hz e2 => by
      obtain ⟨r, mr, qr⟩ := paired_mem t hz
      exact nd.1 (List.mem_map.mpr ⟨r, mr, by rw [← hg _ _ qr, e2]⟩)
    rcases List.mem_cons.mp hx with hx1 | hx1
    · rcases List.mem_cons.mp hy with hy1 | hy1
      · rw [hx1, hy1]
      · rw [hx1] at e
        exact absurd (e.symm.trans (hg _ _ q)) (no _ hy1)
    · rcases List.mem_cons.mp hy with hy1 | hy1
      · rw [hy1] at e
        exact absurd (e.trans (hg _ _ q)) (no _ hx1)
      · exact paired_key hg t nd.2 x hx1 y hy1 e
/-- a list's items are rows, as f shows them -/
def RwsA (H : Hp) (f : Rw → List V) : List V → List Rw → Prop := Paired fun v r => ∃ t, v = .ref t ∧ H t = some (.tup (f r))
theorem RwsA.keep {H H1 : Hp} {f : Rw → List V} (s : ∀ {u : Addr} {ws : List V}, H u = some (.tup ws) → H1 u = some (.tup ws)) : ∀ {xs : List V} {ps : List Rw}, RwsA H f xs ps → RwsA H1 f xs ps
  | _, _, .nil => .nil
  | _, _, .cons a t => .cons (by obtain ⟨u, e, h⟩ := a; exact ⟨u, e, s h⟩) (RwsA.keep s t)
/-- begin, end, new, part -/
def putA (r : Rw) : List V := [.int (r.b : Nat), .int (r.e : Nat), .str r.n, .int (r.k : Nat)]
/-- place, slot, was, fresh -/
def swapA (r : Rw) : List V := [.int (r.b : Nat), .int (r.k : Nat), .str r.o, .str r.n]
/-- the two numbers at the head of a row -/
def keyA (H : Hp) : V → Int × Int
  | .ref t => match H t with
    | some (.tup (.int i :: .int j :: _)) => (i, j)
    | _ => (0, 0)
  | _ => (0, 0)
theorem key_put {H : Hp} {v : V} {r : Rw} (h : ∃ t, v = .ref t ∧ H t = some (.tup (putA r))) : keyA H v = ((r.b : Int), (r.e : Int)) := by
  obtain ⟨t, rfl, ht⟩ := h
  show (match H t with
    | some (.tup (.int i :: .int j :: _)) => (i, j)
    | _ => (0, 0)) = _
  rw [ht]
  rfl
theorem key_swap {H : Hp} {v : V} {r : Rw} (h : ∃ t, v = .ref t ∧ H t = some (.tup (swapA r))) : keyA H v = ((r.b : Int), (r.k : Int)) := by
  obtain ⟨t, rfl, ht⟩ := h
  show (match H t with
    | some (.tup (.int i :: .int j :: _)) => (i, j)
    | _ => (0, 0)) = _
  rw [ht]
  rfl
theorem srtd_rows {H : Hp} {f : Rw → List V} {ky : Rw → Int × Int} (hk : ∀ v r, (∃ t, v = V.ref t ∧ H t = some (.tup (f r))) → keyA H v = ky r) (h1 : ∀ r, (ky r).1 = (r.b : Int)) : ∀ {ys : List V} {L : List Rw}, RwsA H f ys L → SrtO.Srtd (ltP (keyA H)) ys → L.Pairwise fun a c => a.b ≤ c.b
  | _, _, .nil, _ => .nil
  | _, _, .cons (a := x) (b := r) a t, h => by
    have h2 := List.pairwise_cons.mp h
    refine List.pairwise_cons.mpr ⟨fun c hc => ?_, srtd_rows hk h1 t h2.2⟩
    have : ∀ {ys : List V} {L : List Rw}, RwsA H f ys L → c ∈ L → ∃ y, y ∈ ys ∧ keyA H y = ky c := by
      intro ys L q
      induction q with
      | nil => intro h; cases h
      | cons a t ih =>
        intro h
        rcases List.mem_cons.mp h with rfl | h
        · exact ⟨_, List.mem_cons_self, hk _ _ a⟩
        · obtain ⟨y, m, e⟩ := ih h
          exact ⟨y, List.mem_cons_of_mem _ m, e⟩
    obtain ⟨y, m, e⟩ := this t hc
    have z := SrtO.lexB_no.mp (h2.1 y m)
    rw [e, hk _ _ a] at z
    have e1 := h1 r
    have e2 := h1 c
    omega
/-- the words of parts that differ stand at unlike ends -/
theorem plc_len_le {x o : Str} {b : Nat} (h : b ∈ plc x o) : b + o.length ≤ x.length := by
  unfold plc atB at h
  have h2 := (List.mem_filter.mp h).2
  rw [Bool.and_eq_true] at h2
  exact of_decide_eq_true h2.1
theorem plc_cut {x o : Str} {b : Nat} (h : b ∈ plc x o) : cutS x (some (b : Int)) (some ((b : Int) + (o.length : Int))) = o := by
  have h1 := cut_at x o b (plc_len_le h)
  unfold plc at h
  rw [(List.mem_filter.mp h).2] at h1
  exact V.str.inj (of_decide_eq_true h1)
theorem same_word {x o o' : Str} {b : Nat} (h : b ∈ plc x o) (h' : b ∈ plc x o') (e : o.length = o'.length) : o = o' := by
  rw [← plc_cut h, ← plc_cut h', e]
theorem row_at {x : Str} {ps : List (Str × Str)} (hw : wrongM x ps = none) {k : Nat} {r : Rw} (h : r ∈ rowsM x ps k) : r.b ∈ plc x r.o := by
  obtain ⟨_, m, e⟩ := rowsM_mem h
  have h1 := wrong_all hw _ m
  rw [e, one_head h1]
  exact List.mem_cons_self
theorem wrong_tail {x : Str} {p : Str × Str} {r : List (Str × Str)} (h : wrongM x (p :: r) = none) : wrongM x r = none := by
  rw [wrongM_cons] at h
  split at h
  · exact h
  · cases h
theorem keys_put {x : Str} : ∀ {ps : List (Str × Str)} {k : Nat}, wrongM x ps = none → (ps.map (·.1)).Nodup → ((rowsM x ps k).map fun r => ((r.b : Int), (r.e : Int))).Nodup
  | [], _, _, _ => .nil
  | p :: t, k, hw, nd => by
    have n2 := List.nodup_cons.mp (show (p.1 :: t.map (·.1)).Nodup from nd)
    rw [rowsM_cons, List.map_cons, List.nodup_cons]
    refine ⟨fun h => ?_, keys_put (wrong_tail hw) n2.2⟩
    obtain ⟨r, hr, e⟩ := List.mem_map.mp h
    have e1 : r.b = (plc x p.1).headD 0 := Int.ofNat.inj (Prod.mk.inj e).1
    have e2 : r.e = (plc x p.1).headD 0 + p.1.length := Int.ofNat.inj (Prod.mk.inj e).2
    have a1 := row_at (wrong_tail hw) hr
    have a2 : (plc x p.1).headD 0 ∈ plc x p.1 := by
      have h1 := wrong_all hw p List.mem_cons_self
      rw [one_head h1]
      exact List.mem_cons_self
    rw [← e1] at a2
    have e3 : r.o.length = p.1.length := by
      unfold Rw.e at e2
      omega
    have e4 := same_word a1 a2 e3
    exact n2.1 (List.mem_map.mpr ⟨_, (rowsM_mem hr).2.1, e4⟩)
theorem keys_swap {x : Str} : ∀ {ps : List (Str × Str)} {k : Nat}, ((rowsM x ps k).map fun r => ((r.b : Int), (r.k : Int))).Nodup
  | [], _ => .nil
  | p :: t, k => by
    rw [rowsM_cons, List.map_cons, List.nodup_cons]
    refine ⟨fun h => ?_, keys_swap⟩
    obtain ⟨r, hr, e⟩ := List.mem_map.mp h
    have e2 : r.k = k := Int.ofNat.inj (Prod.mk.inj e).2
    have := (rowsM_mem hr).1
    omega
end Vk
set_option Elab.async false
set_option maxRecDepth 100000
set_option linter.all false
set_option maxHeartbeats 4000000
namespace Vk
open PySem PySem.Spec PyProof.Rows L2 LamX NdefX StX
section
variable {P : Program} {w : World} {K : PySem.W.Frag} {mg : Str → Option Value} {base : Heap}
variable {C_AtOnce C_Edit C_Program C_NoPlace C_Overlap : Addr}
abbrev s_places : Stmt := top 17
theorem sc_places : FnScope ["text", "word", "found", "place"] ["text", "word"] (defScope s_places) := ⟨rfl, rfl, rfl, by decide +kernel, rfl, by decide +kernel, by decide +kernel⟩
theorem b_places {f : Addr} {fd : FuncData} (F : Fun K "places" "places" s_places f fd) (T : Txt mg) : FnG P w K mg base CX0 1 f fd ["text", "word"] (spPlaces K) := by
  refine okG0 F sc_places (fun vs H Q E h => ?_) (fun cdv A outer s H vs Q E hg hr h => ?_)
  · obtain ⟨x, wd, rfl, _⟩ := h
    rfl
  · have hu := hu_of hr
    have hu64 := hr.units
    obtain ⟨x, wd, rfl, hx, hw, k⟩ := h
    refine ⟨_, (pss_cons (ps_set (i := 2) sc_places.nd rfl (Or.inl rfl) (pe_lst pa_nil))
      (pss_cons (ps_set (i := 3) sc_places.nd rfl (Or.inl rfl) (pe_bm PySem.F.plainAttrs_str PySem.F.slot_str_find PySem.F.type_str_find mt_find (pv 0) (pa_cons (pv 1) pa_nil)))
      (pss_cons (ps_while PassesOwn.never (pt_cmpR op_ge (pv 3) pe_int (nomark _)) (pss_cons (ps_expr (pe_bm PySem.F.plainAttrs_list PySem.F.slot_list_append PySem.F.type_list_append mt_append (pv 2) (pa_cons (pv 3) pa_nil)))
      (pss_one (ps_set (i := 3) sc_places.nd rfl (Or.inl rfl) (pe_bm PySem.F.plainAttrs_str PySem.F.slot_str_find PySem.F.type_str_find mt_find3 (pv 0) (pa_cons (pv 1) (pa_cons (pe_op op_add (pv 3) pe_int) pa_nil)))))))
      (pss_one (ps_ret (pv 2)))))), ?_⟩
    refine ⟨Nat.zero_le _, fun a ha => ?_⟩
    have mono : ∀ {z : Int} {lo : Nat}, True := trivial
    let PI : Nat → Int → Prop := fun lo z => lo ≤ x.length + 1 ∧ ((z = -1 ∧ ∀ i, lo ≤ i → ¬ StrLaws.At x wd x.length i) ∨ ∃ i : Nat, z = (i : Int) ∧ lo ≤ i ∧ StrLaws.At x wd x.length i ∧ ∀ k, lo ≤ k → k < i → ¬ StrLaws.At x wd x.length k)
    refine ⟨_, rfl, rfl, _, rfl, x, wd, rfl, rfl, ?_⟩
    refine ⟨fun m σ H' => ∃ (lo : Nat) (z : Int), σ = [some (.str x), some (.str wd), some (.ref a), some (.int z)] ∧ H' a = some (.lst ((((List.range lo).filter (atB x wd)).map Int.ofNat).map V.int)) ∧ Same H H' ∧ PI lo z ∧ m = if z < 0 then 0 else x.length + 2 - lo, ⟨_, 0, Txt.find x wd, rfl, upd_same, same_new ha, ⟨Nat.zero_le _, find_from x wd 0 (Nat.zero_le _)⟩, rfl⟩, ?_⟩
    rintro m σ H2 ⟨lo, z, rfl, hd, sm, ⟨hlo, hP⟩, rfl⟩
    refine ⟨_, rfl, _, _, rfl, rfl, _, rfl, ?_⟩
    refine ite2 (fun hz => ?_) (fun hz => ?_)
    · have hz0 := of_decide_eq_true hz
      rcases hP with ⟨rfl, _⟩ | ⟨i, rfl, hi, hA, hB⟩
      · exact absurd hz0 (by decide)
      · have hA1 := hA.1
        have em : (if ((i : Nat) : Int) < 0 then 0 else x.length + 2 - lo) = x.length + 2 - lo := if_neg (by omega)
        rw [em]
        have fl : ((((List.range lo).filter (atB x wd)).map Int.ofNat).map V.int).length ≤ lo := by
          rw [List.length_map, List.length_map]
          exact Nat.le_trans (List.length_filter_le _ _) (Nat.le_of_eq List.length_range)
        have snoc : (List.range (i + 1)).filter (atB x wd) = (List.range lo).filter (atB x wd) ++ [i] := by
          rw [filter_snoc ((atB_iff x wd i).mpr hA), filter_more hi fun j h1 h2 => by
            cases q : atB x wd j with
            | false => rfl
            | true => exact absurd ((atB_iff x wd j).mp q) (hB j h1 h2)]
        refine ⟨fun σ' H' => ∃ z : Int, σ' = [some (.str x), some (.str wd), some (.ref a), some (.int z)] ∧ H' a = some (.lst ((((List.range (i + 1)).filter (atB x wd)).map Int.ofNat).map V.int)) ∧ Same H H' ∧ PI (i + 1) z, ?_, ?_⟩
        · rintro σ' H' ⟨z, rfl, h1, h2, h3⟩
          refine ⟨_, ?_, i + 1, z, rfl, h1, h2, h3, rfl⟩
          split <;> omega
        · refine ⟨_, rfl, .inl ⟨rfl, _, SqL.of hd⟩, _, rfl, a, _, _, rfl, rfl, hd, Nat.lt_of_le_of_lt fl (Nat.lt_of_le_of_lt (show lo ≤ 10002 by omega) (by decide)), ?_⟩
          refine ⟨_, rfl, rfl, _, rfl, _, rfl, _, _, rfl, rfl, x, wd, _, rfl, rfl, ?_⟩
          refine ⟨_, rfl, ?_, ?_, ?_⟩
          · rw [upd_same, snoc, List.map_append, List.map_append]
            rfl
          · intro b o e
            have nb : b ≠ a := fun q => by rw [q, ha] at e; cases e
            exact (upd_ne nb).trans (sm b o e)
          · refine ⟨by omega, ?_⟩
            have ef : Txt.find3 x wd ((i : Int) + 1) = (match Builtin.Str.occurrences x wd (i + 1) x.length 1 with | i :: _ => (i : Int) | [] => -1) := by
              unfold Txt.find3
              rw [show fromIndex x.length ((i : Int) + 1) = i + 1 by unfold fromIndex; rw [if_neg (by omega)]; omega]
              cases Builtin.Str.occurrences x wd (i + 1) x.length 1 <;> rfl
            rw [ef]
            exact find_from x wd (i + 1) (by omega)
    · have hz0 : z < 0 := by
        have := of_decide_eq_false (by simpa using hz : decide (0 ≤ z) = false)
        omega
      rcases hP with ⟨rfl, hN⟩ | ⟨i, rfl, _⟩
      · refine ⟨_, rfl, k a _ ha ?_ sm⟩
        rw [hd]
        unfold plcI plc
        rw [filter_more hlo fun j h1 h2 => by
            cases q : atB x wd j with
            | false => rfl
            | true => exact absurd ((atB_iff x wd j).mp q) (hN j h1)]
      · omega

abbrev s_lplaces : Stmt := top 59
theorem sc_lplaces : FnScope ["_law_text_here", "_law_was", "_law_size", "_law_k"] ["_law_text_here", "_law_was"] (defScope s_lplaces) := ⟨rfl, rfl, rfl, by decide +kernel, rfl, by decide +kernel, by decide +kernel⟩
theorem b_lplaces {f : Addr} {fd : FuncData} (F : Fun K "_law_places" "_law_places" s_lplaces f fd) (T : Txt mg) : FnG P w K mg base CX0 1 f fd ["_law_text_here", "_law_was"] (spPlaces K) := by
  refine okG0 F sc_lplaces (fun vs H Q E h => ?_) (fun cdv A outer s H vs Q E hg hr h => ?_)
  · obtain ⟨x, wd, rfl, _⟩ := h
    rfl
  · have hu := hu_of hr
    have hu64 := hr.units
    obtain ⟨x, wd, rfl, hx, hw, k⟩ := h
    refine ⟨_, (pss_cons (ps_set (i := 2) sc_lplaces.nd rfl (Or.inr rfl) (pe_callB call_len (by rfl) T.len (by decide +kernel) (pa_cons (pv 1) pa_nil)))
      (pss_one (ps_ret (pe_lc (own := [("_law_k", 3)]) (g := gName 3) rfl sc_lplaces.nd (pi_range1 rfl T.range (pa_cons (pe_op op_add (pe_op op_sub (pe_callB call_len (by rfl) T.len (by decide +kernel) (pa_cons (pv 0) pa_nil)) (pv 2)) pe_int) pa_nil)) (blkOk_by (own := [("_law_k", 3)]) (N := ["_law_text_here", "_law_was", "_law_size", "_law_k"]) (sc := defScope s_lplaces) (by decide +kernel)) (fun _ _ _ _ _ => (pg_name (i := 3) sc_lplaces.nd rfl (Or.inl rfl))) (fun _ _ _ _ _ => (pts_one (pt_cmpR op_eq (pe_slice sl_str (pv 0) (po_some (pv 3)) (po_some (pe_op op_add (pv 3) (pv 2)))) (pv 1) (nomark _)))) (fun _ _ _ _ _ => (pv 3)))))), ?_⟩
    have hx24 : x.length ≤ sizeLine := Nat.le_trans hx (by decide)
    have hw24 : wd.length ≤ sizeLine := Nat.le_trans hw (by decide)
    refine ⟨_, rfl, _, _, rfl, ⟨hw24, rfl⟩, ?_⟩
    refine ⟨_, rfl, _, _, rfl, ⟨hx24, rfl⟩, _, rfl, _, _, rfl, rfl, _, _, rfl, rfl, _, rfl, by omega, by omega, fun D hD => ?_⟩
    refine lc_range (lo := 0) (n := ((x.length : Int) - (wd.length : Int) + 1).toNat) (fun i H' => H' D = some (.lst ((((List.range i).filter (atB x wd)).map Int.ofNat).map V.int)) ∧ Same H H') ?_ ?_ ?_
    · exact ⟨upd_same, same_new hD⟩
    · rintro i H2 hi ⟨hd, sm⟩
      have hi2 : i + wd.length ≤ x.length := by omega
      refine ⟨rfl, _, rfl, _, rfl, _, rfl, _, rfl, _, rfl, _, _, rfl, rfl, _, rfl, x, rfl, hx24, ?_⟩
      refine ⟨_, rfl, rfl, _, rfl, ?_⟩
      have ec := cut_at x wd i hi2
      rw [show (0 : Int) + (i : Int) = (i : Int) by omega, ec]
      cases hb : atB x wd i with
      | true =>
        refine iteT ?_
        have fl : ((((List.range i).filter (atB x wd)).map Int.ofNat).map V.int).length ≤ i := by
          rw [List.length_map, List.length_map]
          exact Nat.le_trans (List.length_filter_le _ _) (Nat.le_of_eq List.length_range)
        refine ⟨_, rfl, _, hd, Nat.lt_of_le_of_lt fl (Nat.lt_of_le_of_lt (show i ≤ 10002 by omega) (by decide)), ?_, ?_⟩
        · rw [upd_same, filter_snoc hb, List.map_append, List.map_append]
          rfl
        · intro b o e
          exact (upd_ne (fun q => by rw [q, hD] at e; cases e)).trans (sm b o e)
      | false =>
        refine iteF ⟨?_, sm⟩
        rw [hd, filter_more (Nat.le_succ i) fun j h1 h2 => by rw [show j = i by omega]; exact hb]
    · rintro H2 ⟨hd, sm⟩
      refine k D H2 hD ?_ sm
      rw [hd]
      unfold plcI plc
      rw [← filter_more (lo := ((x.length : Int) - (wd.length : Int) + 1).toNat) (m := x.length + 1) (by omega) fun j h1 h2 => by
        unfold atB
        rw [decide_eq_false (by omega)]
        rfl]

def nats (ns : List Nat) : List V := ns.map fun n => V.int (n : Nat)
theorem nats_plc {x w : Str} : (plcI x w).map V.int = nats (plc x w) := by
  unfold plcI nats
  rw [List.map_map]
  rfl
theorem nats_at {ns : List Nat} {i : Nat} {v : V} (h : (nats ns)[i]? = some v) : ∃ n, ns[i]? = some n ∧ v = .int (n : Nat) := by
  unfold nats at h
  rw [List.getElem?_map] at h
  obtain ⟨n, hn, e⟩ := Option.map_eq_some_iff.mp h
  exact ⟨n, hn, e.symm⟩
theorem nats_len {ns : List Nat} : (nats ns).length = ns.length := List.length_map _
theorem cut_1 {x : V} {xr : List V} : cutV (x :: xr) (some 1) none = xr := by
  unfold cutV
  rw [HT.sIx_none, show (1 : Int) = ((1 : Nat) : Int) from rfl, HT.sIx_nat]
  simp
theorem paired_app2 {α β : Type} {R : α → β → Prop} : ∀ {xs : List α} {ys : List β} {x : α} {y : β}, Paired R xs ys → R x y → Paired R (xs ++ [x]) (ys ++ [y]) := fun h a => Paired.snoc h a
/-- the parts of an edit at once -/
def PartsOf (H : Hp) (q : Addr) (ps : List (Str × Str)) : Prop := ∃ xs, H q = some (.tup xs) ∧ Paired (fun v (p : Str × Str) => ∃ t, v = V.ref t ∧ H t = some (.tup [.str p.1, .str p.2])) xs ps
theorem paired_impl {α β : Type} {R S : α → β → Prop} (h : ∀ a b, R a b → S a b) : ∀ {xs : List α} {ys : List β}, Paired R xs ys → Paired S xs ys
  | _, _, .nil => .nil
  | _, _, .cons a t => .cons (h _ _ a) (paired_impl h t)
theorem PartsOf.keep {H H1 : Hp} {q : Addr} {ps : List (Str × Str)} (h : PartsOf H q ps) (s : Same H H1) : PartsOf H1 q ps := by
  obtain ⟨xs, hq, pr⟩ := h
  exact ⟨xs, s _ _ hq, paired_impl (fun v p ⟨t, e, ht⟩ => ⟨t, e, s _ _ ht⟩) pr⟩
structure OkP (ps : List (Str × Str)) (x : Str) : Prop where
  x8 : x.length ≤ 800
  len : ps.length ≤ 3
  olds : ∀ p ∈ ps, 1 ≤ p.1.length ∧ p.1.length ≤ 100 ∧ p.2.length ≤ 100
  nd : (ps.map (·.1)).Nodup
def spPutsP (CN CO : Addr) : Sp := fun vs H Q E => ∃ q ps i x, vs = [.ref q, .int (i : Nat), .str x] ∧ PartsOf H q ps ∧ OkP ps x ∧
  (∀ m, wrongM x ps = some m → ∀ H1 d, Same H H1 → H1 d = none → E (.ref CN) (some d) (upd H1 d (.xd [(("number" : Str), .int (m : Nat)), (("index" : Str), .int (i : Nat))]))) ∧
  (wrongM x ps = none → overl (ordM (rowsM x ps 0)) = true → ∀ H1 d, Same H H1 → H1 d = none → E (.ref CO) (some d) (upd H1 d (.xd [(("index" : Str), .int (i : Nat))]))) ∧
  (wrongM x ps = none → overl (ordM (rowsM x ps 0)) = false → ∀ l xs H', Same H H' → H l = none → H' l = some (.lst xs) → RwsA H' putA xs (ordM (rowsM x ps 0)) → Q (.ref l) H')
theorem op_cons {x : Str} {ps : List (Str × Str)} (h : OkP ps x) : (∀ r ∈ rowsM x ps 0, 1 ≤ r.o.length) := fun r hr => (h.olds _ (rowsM_mem hr).2.1).1
def spCkP (CO : Addr) : Sp := fun vs H Q E => ∃ l got i R, vs = [.ref l, .int (i : Nat)] ∧ H l = some (.lst got) ∧ RwsA H putA got R ∧ (R.map fun r => ((r.b : Int), (r.e : Int))).Nodup ∧ (∀ r ∈ R, 1 ≤ r.o.length) ∧ R.length ≤ 3 ∧
  (overl (ordM R) = true → ∀ H1 d, Same H H1 → H1 d = none → E (.ref CO) (some d) (upd H1 d (.xd [(("index" : Str), .int (i : Nat))]))) ∧
  (overl (ordM R) = false → ∀ p xs H', Same H H' → H p = none → H' p = some (.lst xs) → RwsA H' putA xs (ordM R) → Q (.ref p) H')
abbrev s_checked_puts : Stmt := top 34
theorem sc_checked_puts : FnScope ["puts", "index", "told", "left", "right"] ["puts", "index"] (defScope s_checked_puts) := ⟨rfl, rfl, rfl, by decide +kernel, rfl, by decide +kernel, by decide +kernel⟩
theorem b_checked_puts {f : Addr} {fd : FuncData} (F : Fun K "checked_puts" "checked_puts" s_checked_puts f fd) (T : Txt mg) (c_Overlap : ClsI P w K mg base 1 "Overlap" C_Overlap ["index"]) (mSorted : mg "sorted" = none) (mZip : mg "zip" = none) : FnG P w K mg base (L2.CX P w) 3 f fd ["puts", "index"] (spCkP C_Overlap) := by
  refine okG F sc_checked_puts (fun vs H Q E h => ?_) (fun cdv A outer s H vs Q E hg hr h => ?_)
  · obtain ⟨lo, got, i0, R, rfl, _⟩ := h
    rfl
  · have hu := hu_of hr
    have hu64 := hr.units
    obtain ⟨lo, got, i0, R, rfl, hgot, rw2, nd, h1r, hp3, k2, k3⟩ := h
    refine ⟨_, (pss_cons (ps_set (i := 2) sc_checked_puts.nd rfl (Or.inl rfl) (pe_callB cr_sortedQ (by rfl) mSorted (by decide +kernel) (pa_cons (pv 0) pa_nil)))
      (pss_cons (ps_for (passes_of rfl) rfl (pi_zip (by rfl) mZip (pa_cons (pv 2) (pa_cons (pe_slice sl_list (pv 2) (po_some pe_int) po_none) pa_nil))) (pg_tup rfl (pgs_cons (pg_name (i := 3) sc_checked_puts.nd rfl (Or.inl rfl)) (pgs_cons (pg_name (i := 4) sc_checked_puts.nd rfl (Or.inl rfl)) pgs_nil))) (pss_one (ps_if (pt_cmpR op_lt (pe_ix ix_seq (pv 4) pe_int (fun _ _ => rfl)) (pe_ix ix_seq (pv 3) pe_int (fun _ _ => rfl)) (nomark _)) (pss_one (ps_raise rfl (takes_of rfl rfl rfl rfl) (pmk_k c_Overlap hg hr (by decide) pass0 (pa_cons (pv 1) pa_nil)))) pss_nil)))
      (pss_one (ps_ret (pv 2))))), ?_⟩
    refine ⟨_, rfl, lo, got, keyA H, rfl, SqL.of hgot, fun v hv => ?_, paired_key (fun v r h => key_put h) rw2 nd, fun ys p srt perm hp => ?_⟩
    · obtain ⟨r, hr, t, e, ht⟩ := paired_mem rw2 hv
      refine ⟨t, _, _, e, ?_, .inl ⟨r.n, rfl⟩, .inr ⟨(r.k : Nat), rfl⟩⟩
      rw [key_put ⟨t, e, ht⟩]
      exact ht
    obtain ⟨L, pm, rwL⟩ := paired_perm perm rw2
    have le1 := srtd_rows (fun v r h => key_put h) (fun r => rfl) rwL srt
    have h1L : ∀ r ∈ L, 1 ≤ r.o.length := fun r hr => h1r r (pm.mem_iff.mp hr)
    obtain ⟨ov, eqL⟩ := overl_same h1L (pm.trans (ordM_perm _).symm) le1 (ordM_le _)
    rw [← ov] at k2 k3
    have sp := same_new (o := .lst ys) hp
    have s3 := sp
    have hlL := paired_len rwL
    have yl : ys.length ≤ 3 := by rw [perm.length_eq, paired_len rw2]; exact hp3
    have hp3' : (upd H p (.lst ys)) p = some (.lst ys) := upd_same
    refine ⟨_, rfl, _, rfl, 1, rfl, p, ys, rfl, SqL.of upd_same, fun D5 hD5 => ?_⟩
    have s5 := s3.trans (same_new (o := .lst (cutV ys (some 1) none)) hD5)
    have hc : cutV ys (some 1) none = ys.drop 1 := by
      cases ys with
      | nil => rfl
      | cons a r => exact cut_1 
    rw [hc] at s5 ⊢
    have hp5 : (upd (upd H p (.lst ys)) D5 (.lst (ys.drop 1))) p = some (.lst ys) := (same_new hD5) _ _ hp3'
    have hD6 : (upd (upd H p (.lst ys)) D5 (.lst (ys.drop 1))) D5 = some (.lst (ys.drop 1)) := upd_same
    have rw5 : RwsA (upd (upd H p (.lst ys)) D5 (.lst (ys.drop 1))) putA ys L := RwsA.keep (fun h => (same_new hD5) _ _ (sp _ _ h)) rwL
    generalize upd (upd H p (.lst ys)) D5 (.lst (ys.drop 1)) = H5 at s5 hp5 hD6 rw5
    refine ⟨p, D5, ys, ys.drop 1, rfl, SqL.of hp5, SqL.of hD6, fun i m σ H6 => m + i = ys.length ∧ ∃ o8 o9, σ = [some (.ref lo), some (.int (i0 : Nat)), some (.ref p), o8, o9] ∧ Same H5 H6 ∧ overl L = overl (L.drop i), ⟨ys.length, rfl, _, _, rfl, Same.rfl, rfl⟩, ?_⟩
    rintro i m σ H6 ⟨hm, o8, o9, rfl, s6, oe⟩
    by_cases hi2 : i + 1 < ys.length
    · obtain ⟨a, ha⟩ : ∃ v, ys[i]? = some v := ⟨ys[i], List.getElem?_eq_getElem (by omega)⟩
      obtain ⟨c, hc1⟩ : ∃ v, ys[i + 1]? = some v := ⟨ys[i + 1], List.getElem?_eq_getElem hi2⟩
      have hc2 : (ys.drop 1)[i]? = some c := by rw [List.getElem?_drop, Nat.add_comm]; exact hc1
      obtain ⟨ra, hra, ta, rfl, hta⟩ := paired_at rw5 ha
      obtain ⟨rc, hrc, tc, rfl, htc⟩ := paired_at rw5 hc1
      rw [drop_at hra, drop_at hrc, overl_cons, ← drop_at hrc] at oe
      refine .inr ⟨⟨_, _, _, _, SqL.of (s6 _ _ hp5), SqL.of (s6 _ _ hD6), ha, hc2⟩, fun σ2 H3 => m - 1 + (i + 1) = ys.length ∧ ∃ o8 o9, σ2 = [some (.ref lo), some (.int (i0 : Nat)), some (.ref p), o8, o9] ∧ Same H5 H3 ∧ overl L = overl (L.drop (i + 1)), fun σ2 H3 p => ⟨m - 1, by omega, p⟩, ?_⟩
      rintro w H7 ⟨T2, y2, y3, rfl, hT2, rfl, hy2, hy3⟩
      have e2 := (hy2 _ (SqL.of (s6 _ _ hp5))).symm.trans ha
      have e3 := (hy3 _ (SqL.of (s6 _ _ hD6))).symm.trans hc2
      cases e2
      cases e3
      have s7 := s6.trans (same_new (o := .tup [.ref ta, .ref tc]) hT2)
      refine ⟨T2, _, rfl, SqT.of upd_same, rfl, ?_⟩
      refine ⟨_, _, rfl, _, _, rfl, rfl, ?_⟩
      refine ⟨_, rfl, .inr (.inl ⟨tc, _, 0, _, rfl, rfl, SqT.of (s7 _ _ htc), rfl, _, rfl, .inr (.inl ⟨ta, _, 1, _, rfl, rfl, SqT.of (s7 _ _ hta), rfl, _, _, rfl, rfl, _, rfl, ?_⟩)⟩)⟩
      by_cases ho : rc.b < ra.e
      · rw [show decide (((rc.b : Nat) : Int) < ((ra.e : Nat) : Int)) = true from decide_eq_true (by omega)]
        rw [decide_eq_true ho, Bool.true_or] at oe
        exact iteT ⟨_, rfl, rfl, fun d hd => k2 oe _ d (s5.trans s7) hd⟩
      · rw [show decide (((rc.b : Nat) : Int) < ((ra.e : Nat) : Int)) = false from decide_eq_false (by omega)]
        rw [decide_eq_false ho, Bool.false_or] at oe
        exact iteF ⟨by omega, _, _, rfl, s7, oe⟩
    · refine .inl ⟨⟨_, _, SqL.of (s6 _ _ hp5), SqL.of (s6 _ _ hD6), .inr (by rw [List.length_drop]; omega)⟩, ?_⟩
      have of : overl L = false := by
        rw [oe]
        match q : L.drop i with
        | [] => rfl
        | [_] => rfl
        | _ :: _ :: _ =>
          have := congrArg List.length q
          rw [List.length_drop, List.length_cons, List.length_cons] at this
          omega
      have eL := eqL (ov.symm.trans of)
      refine ⟨_, rfl, k3 of p ys H6 (s5.trans s6) hp (s6 _ _ hp5) ?_⟩
      rw [← eL]
      exact RwsA.keep (fun h => s6 _ _ h) rw5

abbrev s_puts_of_parts : Stmt := top 35
theorem sc_puts_of_parts : FnScope ["parts", "index", "text", "puts", "part", "old", "new", "found"] ["parts", "index", "text"] (defScope s_puts_of_parts) := ⟨rfl, rfl, rfl, by decide +kernel, rfl, by decide +kernel, by decide +kernel⟩
theorem b_puts_of_parts {f : Addr} {fd : FuncData} (F : Fun K "puts_of_parts" "puts_of_parts" s_puts_of_parts f fd) (T : Txt mg) (c_places : CalG P w K mg base CX0 1 "places" (spPlaces K)) (c_NoPlace : ClsI P w K mg base 1 "NoPlace" C_NoPlace ["index", "number"]) (c_checked_puts : CalG P w K mg base (L2.CX P w) 3 "checked_puts" (spCkP C_Overlap)) : FnG P w K mg base (L2.CX P w) 4 f fd ["parts", "index", "text"] (spPutsP C_NoPlace C_Overlap) := by
  refine okG F sc_puts_of_parts (fun vs H Q E h => ?_) (fun cdv A outer s H vs Q E hg hr h => ?_)
  · obtain ⟨q, ps, i0, x, rfl, _⟩ := h
    rfl
  · have hu := hu_of hr
    have hu64 := hr.units
    obtain ⟨q, ps, i0, x, rfl, ⟨xs, hq, pr⟩, ok, k1, k2, k3⟩ := h
    have hlen := paired_len pr
    have hx8 := ok.x8
    have hp3 := ok.len
    refine ⟨_, (pss_cons (ps_set (i := 3) sc_puts_of_parts.nd rfl (Or.inl rfl) (pe_lst pa_nil))
      (pss_cons (ps_for (passes_of rfl) rfl (pi_enumT (by rfl) T.enumerate (pa_cons (pv 0) pa_nil)) (pg_tup rfl (pgs_cons (pg_name (i := 4) sc_puts_of_parts.nd rfl (Or.inl rfl)) (pgs_cons (pg_tup rfl (pgs_cons (pg_name (i := 5) sc_puts_of_parts.nd rfl (Or.inl rfl)) (pgs_cons (pg_name (i := 6) sc_puts_of_parts.nd rfl (Or.inl rfl)) pgs_nil))) pgs_nil))) (pss_cons (ps_set (i := 7) sc_puts_of_parts.nd rfl (Or.inl rfl) (pe_cG c_places hg hr (by decide) pass0 (pa_cons (pv 2) (pa_cons (pv 5) pa_nil))))
      (pss_cons (ps_if (pt_cmpR op_ne (pe_callB call_len (by rfl) T.len (by decide +kernel) (pa_cons (pv 7) pa_nil)) pe_int (nomark _)) (pss_one (ps_raise rfl (takes_of rfl rfl rfl rfl) (pmk_k c_NoPlace hg hr (by decide) pass0 (pa_cons (pv 1) (pa_cons (pe_callB call_len (by rfl) T.len (by decide +kernel) (pa_cons (pv 7) pa_nil)) pa_nil))))) pss_nil)
      (pss_one (ps_expr (pe_bm PySem.F.plainAttrs_list PySem.F.slot_list_append PySem.F.type_list_append mt_append (pv 3) (pa_cons (pe_tup (pa_cons (pe_ix ix_seq (pv 7) pe_int (fun _ _ => rfl)) (pa_cons (pe_op op_add (pe_ix ix_seq (pv 7) pe_int (fun _ _ => rfl)) (pe_callB call_len (by rfl) T.len (by decide +kernel) (pa_cons (pv 5) pa_nil))) (pa_cons (pv 6) (pa_cons (pv 4) pa_nil))))) pa_nil)))))))
      (pss_one (ps_ret (pe_cG c_checked_puts hg hr (by decide) (passes_call (takes_of rfl rfl rfl rfl) (fun _ _ _ _ h => h)) (pa_cons (pv 3) (pa_cons (pv 1) pa_nil))))))), ?_⟩
    refine ⟨few_len (Nat.zero_le _), fun lo hlo => ?_⟩
    have s0 := same_new (o := .lst []) hlo
    refine ⟨_, rfl, q, _, rfl, s0 _ _ hq, fun i m σ H2 => m + i = xs.length ∧ ∃ o4 o5 o6 o7 got, σ = [some (.ref q), some (.int (i0 : Nat)), some (.str x), some (.ref lo), o4, o5, o6, o7] ∧ Same H H2 ∧ H2 lo = some (.lst got) ∧ RwsA H2 putA got (rowsM x (ps.take i) 0) ∧ wrongM x ps = wrongM x (ps.drop i), ⟨xs.length, rfl, _, _, _, _, [], rfl, s0, upd_same, .nil, rfl⟩, ?_⟩
    rintro i m σ H2 ⟨hm, o4, o5, o6, o7, got, rfl, s2, hg, rw2, we⟩
    by_cases hi : i < xs.length
    · obtain ⟨v, hv⟩ : ∃ v, xs[i]? = some v := ⟨xs[i], List.getElem?_eq_getElem hi⟩
      obtain ⟨⟨z1, z2⟩, he, t, rfl, ht0⟩ := paired_at pr hv
      obtain ⟨b0, b1, b2⟩ := ok.olds _ (List.mem_of_getElem? he)
      dsimp only at b0 b1 b2 ht0
      have ptk : ps.take (i + 1) = ps.take i ++ [(z1, z2)] := by rw [List.take_add_one, he]; rfl
      rw [drop_at he, wrongM_cons] at we
      refine .inr ⟨⟨_, _, s2 _ _ hq, hv⟩, fun σ2 H3 => m - 1 + (i + 1) = xs.length ∧ ∃ o4 o5 o6 o7 got, σ2 = [some (.ref q), some (.int (i0 : Nat)), some (.str x), some (.ref lo), o4, o5, o6, o7] ∧ Same H H3 ∧ H3 lo = some (.lst got) ∧ RwsA H3 putA got (rowsM x (ps.take (i + 1)) 0) ∧ wrongM x ps = wrongM x (ps.drop (i + 1)), fun σ2 H3 p => ⟨m - 1, by omega, p⟩, ?_⟩
      rintro w H3 ⟨T2, y2, xs2, rfl, hT2, rfl, hxs, hy⟩
      have e := (s2 _ _ hq).symm.trans hxs
      cases e
      cases hv.symm.trans hy
      have sT := same_new (o := .tup [.int (i : Nat), .ref t]) hT2
      have s3 := s2.trans sT
      refine ⟨T2, _, rfl, SqT.of upd_same, rfl, ?_⟩
      refine ⟨_, _, rfl, _, _, rfl, t, _, rfl, SqT.of (s3 _ _ ht0), rfl, _, _, rfl, _, _, rfl, rfl, rfl, ?_⟩
      refine ⟨_, rfl, _, rfl, x, z1, rfl, by omega, by omega, fun D H4 hD0 hD s4 => ?_⟩
      rw [nats_plc] at hD
      have hpl : (plc x z1).length ≤ 801 := Nat.le_trans (plc_len x z1) (by omega)
      have s34 := s3.trans s4
      have lenP : LenV K (.ref D) H4 (plc x z1).length := .inl ⟨_, SqL.of hD, nats_len.symm⟩
      refine ⟨_, rfl, .ref D, (plc x z1).length, rfl, lenP, rfl, _, rfl, ?_⟩
      by_cases h1 : (plc x z1).length = 1
      · rw [if_pos h1] at we
        rw [show (!decide (V.int ((plc x z1).length : Nat) = V.int 1)) = false from by rw [h1]; rfl]
        refine iteF ?_
        have one := one_head h1
        have hg4 : H4 lo = some (.lst got) := s4 _ _ (sT _ _ hg)
        have at0 : atI (nats (plc x z1)) 0 = some (.int ((plc x z1).headD 0 : Nat)) := by rw [one]; rfl
        refine ⟨_, rfl, .inl ⟨rfl, _, SqL.of hg4⟩, _, rfl, .inl ⟨D, _, 0, _, rfl, rfl, SqL.of hD, at0, _, rfl, .inl ⟨D, _, 0, _, rfl, rfl, SqL.of hD, at0, _, rfl, _, _, rfl, ⟨by rw [sizeLine_eq]; omega, rfl⟩, _, _, rfl, rfl, _, rfl, _, rfl, few_len (Nat.le_of_ble_eq_true rfl), fun t5 ht5 => ?_⟩⟩⟩
        have st5 := same_new (o := .tup [.int ((plc x z1).headD 0 : Nat), .int (((plc x z1).headD 0 : Nat) + (z1.length : Int)), .str z2, .int (i : Nat)]) ht5
        have hne : t5 ≠ lo := (ne_of_none hg4 ht5).symm
        have gl := paired_len rw2
        rw [rowsM_len, List.length_take] at gl
        refine ⟨lo, _, _, rfl, rfl, st5 _ _ hg4, few_lt (by omega), by omega, _, _, _, _, got ++ [.ref t5], rfl, fun b o h => ?_, upd_same, ?_, we⟩
        · rw [upd_ne (ne_of_none h hlo)]
          exact st5 _ _ (s34 _ _ h)
        · have un : ∀ {u : Addr} {ws : List V}, H2 u = some (.tup ws) → (upd (upd H4 t5 (.tup [.int ((plc x z1).headD 0 : Nat), .int (((plc x z1).headD 0 : Nat) + (z1.length : Int)), .str z2, .int (i : Nat)])) lo (.lst (got ++ [.ref t5]))) u = some (.tup ws) := fun h => by
            rw [upd_ne (fun e => by rw [e, hg] at h; cases h)]
            exact st5 _ _ (s4 _ _ (sT _ _ h))
          rw [ptk, rowsM_snoc, List.length_take, Nat.min_eq_left (by omega), Nat.zero_add]
          refine paired_app2 (RwsA.keep un rw2) ⟨t5, rfl, ?_⟩
          rw [upd_ne hne]
          exact upd_same
      · rw [show (!decide (V.int ((plc x z1).length : Nat) = V.int 1)) = true from by rw [decide_eq_false (fun z => h1 (by have := V.int.inj z; omega))]; rfl]
        rw [if_neg h1] at we
        refine iteT ⟨_, rfl, _, rfl, .ref D, (plc x z1).length, rfl, lenP, rfl, fun d hd => k1 _ we _ d s34 hd⟩
    · have ei : i = xs.length := by omega
      rw [List.take_of_length_le (by omega)] at rw2
      rw [List.drop_of_length_le (by omega)] at we
      have hw : wrongM x ps = none := we
      refine .inl ⟨⟨_, s2 _ _ hq, ei.symm⟩, ?_⟩
      exact ⟨_, rfl, _, rfl, lo, got, i0, _, rfl, hg, rw2, keys_put hw ok.nd, op_cons ok, by rw [rowsM_len]; exact hp3, fun o H1 d s hd => k2 hw o H1 d (s2.trans s) hd, fun o p xs H' s hn h1 h2 => k3 hw o p xs H' (s2.trans s) (by
        match e : H p with
        | none => rfl
        | some o => exact nomatch (s2 _ _ e).symm.trans hn) h1 h2⟩

end
end Vk
set_option Elab.async false
set_option maxRecDepth 100000
set_option linter.all false
set_option maxHeartbeats 4000000
namespace Vk
open PySem PySem.Spec PyProof.Rows L2 LamX NdefX StX
section
variable {P : Program} {w : World} {K : PySem.W.Frag} {mg : Str → Option Value} {base : Heap}
variable {C_Once C_First C_Perhaps C_Every C_AtOnce C_Edit C_Program C_NoPlace C_Overlap : Addr}
def spFits (C0 C1 C2 C3 : Addr) : Sp := fun vs H Q _ => ∃ n a dx fs m, vs = [.ref a, .int (m : Nat)] ∧ n < 4 ∧ H a = some (.ins (cls4 C0 C1 C2 C3 n) dx fs) ∧ ∀ H', Same H H' → Q (.bl (fitsM n m)) H'
abbrev s_fits : Stmt := top 31
theorem sc_fits : FnScope ["edit", "number"] ["edit", "number"] (defScope s_fits) := ⟨rfl, rfl, rfl, by decide +kernel, rfl, by decide +kernel, by decide +kernel⟩
theorem b_fits {f : Addr} {fd : FuncData} (F : Fun K "fits" "fits" s_fits f fd) (T : Txt mg) (n_First : mg "First" = some (.ref C_First)) (n_Every : mg "Every" = some (.ref C_Every)) (n_Perhaps : mg "Perhaps" = some (.ref C_Perhaps)) (ed : ∀ n, n < 4 → EdF K (cls4 C_Once C_First C_Perhaps C_Every n)) (kit : ∀ i j, i < 4 → j < 4 → PySem.W.kitOne K (.ref (cls4 C_Once C_First C_Perhaps C_Every i)) (.ref (cls4 C_Once C_First C_Perhaps C_Every j)) = some (i == j)) (kFE : ∀ n, n < 4 → PySem.W.kitAny K (.ref (cls4 C_Once C_First C_Perhaps C_Every n)) [.ref C_First, .ref C_Every] = some (n == 1 || n == 3)) : FnG P w K mg base CX0 1 f fd ["edit", "number"] (spFits C_Once C_First C_Perhaps C_Every) := by
  refine okG0 F sc_fits (fun vs H Q E h => ?_) (fun cdv A outer s H vs Q E hg hr h => ?_)
  · obtain ⟨n, a, dx, fs, m, rfl, _⟩ := h
    rfl
  · have hu := hu_of hr
    have hu64 := hr.units
    obtain ⟨n, a, dx, fs, m, rfl, hn, ha, k⟩ := h
    refine ⟨_, (pss_cons (ps_if (pt_val (pe_callB call_isiT (by rfl) T.isinstance (by decide +kernel) (pa_cons (pv 0) (pa_cons (pe_tup (pa_cons (pe_glob (v := .ref C_First) (by rfl) n_First rfl) (pa_cons (pe_glob (v := .ref C_Every) (by rfl) n_Every rfl) pa_nil))) pa_nil)))) (pss_one (ps_ret (pe_cmpR op_gt (pv 1) pe_int (nomark _)))) pss_nil)
      (pss_cons (ps_if (pt_val (pe_callB call_isi (by rfl) T.isinstance (by decide +kernel) (pa_cons (pv 0) (pa_cons (pe_glob (v := .ref C_Perhaps) (by rfl) n_Perhaps rfl) pa_nil)))) (pss_one (ps_ret (pe_cmpR op_lt (pv 1) pe_int (nomark _)))) pss_nil)
      (pss_one (ps_ret (pe_cmpR op_eq (pv 1) pe_int (nomark _)))))), ?_⟩
    have ty := (ed n hn).ty ha
    refine ⟨_, rfl, few_len (Nat.le_of_ble_eq_true rfl), fun t ht => ?_⟩
    have s1 := same_new (o := .tup [.ref C_First, .ref C_Every]) ht
    have ha1 := s1 _ _ ha
    refine ⟨.ref a, t, _, _, _, _, rfl, upd_same, .cons (.own _) (.cons (.own _) .nil), (ed n hn).ty ha1, kFE n hn, _, rfl, ?_⟩
    match n, hn with
    | 0, hn =>
      refine iteF ⟨_, rfl, .ref a, .ref C_Perhaps, _, .ref C_Perhaps, _, rfl, .own _, (ed 0 hn).ty ha1, kit 0 2 hn (by decide), _, rfl, iteF ⟨_, rfl, rfl, ?_⟩⟩
      have q := k _ s1
      rw [show fitsM 0 m = decide (V.int (m : Int) = V.int 1) from by
        show decide (m = 1) = _
        by_cases e : m = 1
        · subst e; rfl
        · rw [decide_eq_false e, decide_eq_false (fun z => e (by have := V.int.inj z; omega))]] at q
      exact q
    | 1, hn => exact iteT ⟨_, rfl, _, _, rfl, rfl, by
        have q := k _ s1
        rw [show fitsM 1 m = decide ((m : Int) > 0) from by
          show decide (0 < m) = _
          by_cases e : 0 < m
          · rw [decide_eq_true e, decide_eq_true (by omega)]
          · rw [decide_eq_false e, decide_eq_false (by omega)]] at q
        exact q⟩
    | 2, hn => exact iteF ⟨_, rfl, .ref a, .ref C_Perhaps, _, .ref C_Perhaps, _, rfl, .own _, (ed 2 hn).ty ha1, kit 2 2 hn (by decide), _, rfl, iteT ⟨_, rfl, _, _, rfl, rfl, by
        have q := k _ s1
        rw [show fitsM 2 m = decide ((m : Int) < 2) from by
          show decide (m < 2) = _
          by_cases e : m < 2
          · rw [decide_eq_true e, decide_eq_true (by omega)]
          · rw [decide_eq_false e, decide_eq_false (by omega)]] at q
        exact q⟩⟩
    | 3, hn => exact iteT ⟨_, rfl, _, _, rfl, rfl, by
        have q := k _ s1
        rw [show fitsM 3 m = decide ((m : Int) > 0) from by
          show decide (0 < m) = _
          by_cases e : 0 < m
          · rw [decide_eq_true e, decide_eq_true (by omega)]
          · rw [decide_eq_false e, decide_eq_false (by omega)]] at q
        exact q⟩
    | n + 4, hn => exact absurd hn (by omega)

def spApart (K : PySem.W.Frag) : Sp := fun vs H Q _ => ∃ D len ns, vs = [.ref D, .int (len : Nat)] ∧ H D = some (.lst (nats ns)) ∧ ns.length ≤ 900 ∧ ∀ l H', Same H H' → H l = none → H' l = some (.lst (nats (apartM len ns 0))) → Q (.ref l) H'
abbrev s_apart : Stmt := top 32
theorem sc_apart : FnScope ["found", "length", "taken", "end", "place"] ["found", "length"] (defScope s_apart) := ⟨rfl, rfl, rfl, by decide +kernel, rfl, by decide +kernel, by decide +kernel⟩
theorem b_apart {f : Addr} {fd : FuncData} (F : Fun K "apart" "apart" s_apart f fd) (T : Txt mg) : FnG P w K mg base CX0 1 f fd ["found", "length"] (spApart K) := by
  refine okG0 F sc_apart (fun vs H Q E h => ?_) (fun cdv A outer s H vs Q E hg hr h => ?_)
  · obtain ⟨D, len, ns, rfl, _⟩ := h
    rfl
  · have hu := hu_of hr
    have hu64 := hr.units
    obtain ⟨D, len, ns, rfl, hD, hl, k⟩ := h
    refine ⟨_, (pss_cons (ps_set (i := 2) sc_apart.nd rfl (Or.inl rfl) (pe_lst pa_nil))
      (pss_cons (ps_set (i := 3) sc_apart.nd rfl (Or.inl rfl) pe_int)
      (pss_cons (ps_for PassesOwn.never rfl (pi_list (pv 0)) (pg_name (i := 4) sc_apart.nd rfl (Or.inl rfl)) (pss_one (ps_if (pt_cmpR op_ge (pv 4) (pv 3) (nomark _)) (pss_cons (ps_expr (pe_bm PySem.F.plainAttrs_list PySem.F.slot_list_append PySem.F.type_list_append mt_append (pv 2) (pa_cons (pv 4) pa_nil)))
      (pss_one (ps_set (i := 3) sc_apart.nd rfl (Or.inl rfl) (pe_op op_add (pv 4) (pv 1))))) pss_nil)))
      (pss_one (ps_ret (pv 2)))))), ?_⟩
    refine ⟨few_len (Nat.zero_le _), fun lo hlo => ?_⟩
    have s0 := same_new (o := .lst []) hlo
    refine ⟨_, rfl, D, rfl, ⟨_, SqL.of (s0 _ _ hD)⟩, ?_⟩
    refine for_list (xs := nats ns) (fun i σ H2 => ∃ (o : Option V) (e : Nat) (got : List Nat), σ = [some (.ref D), some (.int (len : Nat)), some (.ref lo), some (.int (e : Nat)), o] ∧ Same H H2 ∧ H2 lo = some (.lst (nats got)) ∧ got.length ≤ i ∧ got ++ apartM len (ns.drop i) e = apartM len ns 0) ?_ ?_ ?_ ?_
    · exact ⟨_, 0, [], rfl, s0, upd_same, Nat.le_refl _, rfl⟩
    · rintro i σ H2 _ ⟨o, e, got, rfl, s2, _⟩
      exact SqL.of (s2 _ _ hD)
    · rintro i v σ H2 hv ⟨o, e, got, rfl, s2, hg, gl, ge⟩
      obtain ⟨p, hp, rfl⟩ := nats_at hv
      have il : i < ns.length := (List.getElem?_eq_some_iff.mp hp).1
      rw [drop_at hp, apartM_cons] at ge
      refine ⟨_, rfl, _, rfl, _, _, rfl, rfl, _, rfl, ?_⟩
      by_cases h : e ≤ p
      · rw [if_pos h] at ge
        rw [show decide (((p : Nat) : Int) ≥ (e : Nat)) = true from decide_eq_true (by omega)]
        refine iteT ⟨_, rfl, .inl ⟨rfl, _, SqL.of hg⟩, _, rfl, lo, _, _, rfl, rfl, hg, few_lt (by unfold nats; rw [List.length_map]; omega), ?_⟩
        refine ⟨_, rfl, _, rfl, _, _, rfl, rfl, _, p + len, got ++ [p], rfl, fun b o2 h2 => ?_, ?_, by rw [List.length_append]; exact Nat.succ_le_succ gl, ?_⟩
        · rw [upd_ne (ne_of_none h2 hlo)]
          exact s2 _ _ h2
        · rw [upd_same]
          unfold nats
          rw [List.map_append]
          rfl
        · rw [← ge, List.append_assoc]
          rfl
      · rw [if_neg h] at ge
        rw [show decide (((p : Nat) : Int) ≥ (e : Nat)) = false from decide_eq_false (by omega)]
        exact iteF ⟨_, e, got, rfl, s2, hg, Nat.le_succ_of_le gl, ge⟩
    · rintro σ H2 ⟨o, e, got, rfl, s2, hg, gl, ge⟩
      rw [List.drop_of_length_le (by unfold nats; rw [List.length_map]; exact Nat.le_refl _)] at ge
      rw [apartM_nil, List.append_nil] at ge
      exact ⟨_, rfl, k lo H2 s2 hlo (ge ▸ hg)⟩

/-- begin, end, new, part -/
def putV (z2 : Str) (len p : Nat) : List V := [.int (p : Nat), .int (p + len : Nat), .str z2, .int 0]
def spPuts (Cs : Nat → Addr) (CN : Addr) : Sp := fun vs H Q E => ∃ n a dx z1 z2 i x, vs = [.ref a, .int (i : Nat), .str x] ∧ n < 4 ∧ H a = some (.ins (Cs n) dx (fl z1 z2)) ∧ x.length ≤ 800 ∧ z1.length ≤ 100 ∧
  (fitsM n (plc x z1).length = false → ∀ H1 d, Same H H1 → H1 d = none → E (.ref CN) (some d) (upd H1 d (.xd [(("number" : Str), .int ((plc x z1).length : Nat)), (("index" : Str), .int (i : Nat))]))) ∧
  (fitsM n (plc x z1).length = true → ∀ l xs H', Same H H' → H l = none → H' l = some (.lst xs) → Rws H' (putV z2 z1.length) xs (spotsM n z1.length (plc x z1)) → Q (.ref l) H')
theorem nats_take {ns : List Nat} {i : Nat} : (nats ns).take i = nats (ns.take i) := by
  unfold nats
  rw [List.map_take]
theorem cut_first {ns : List Nat} : cutV (nats ns) none (some 1) = nats (ns.take 1) := by
  unfold cutV
  rw [HT.sIx_none, show (1 : Int) = ((1 : Nat) : Int) from rfl, HT.sIx_nat, List.drop_zero, Nat.sub_zero]
  cases ns with
  | nil => rfl
  | cons a r =>
    rw [show min 1 (nats (a :: r)).length = 1 from by rw [nats_len, List.length_cons]; omega]
    exact nats_take
theorem ths_rows {H H1 : Hp} {f : Nat → List V} (s : ∀ {u : Addr} {ws : List V}, H u = some (.tup ws) → H1 u = some (.tup ws)) : ∀ {xs : List V} {ps : List Nat}, Rws H f xs ps → Rws H1 f xs ps
  | _, _, .nil => .nil
  | _, _, .cons a t => .cons (by obtain ⟨u, e, h⟩ := a; exact ⟨u, e, s h⟩) (ths_rows s t)
abbrev s_puts_of_one : Stmt := top 33
theorem sc_puts_of_one : FnScope ["edit", "index", "text", "found", "place"] ["edit", "index", "text"] (defScope s_puts_of_one) := ⟨rfl, rfl, rfl, by decide +kernel, rfl, by decide +kernel, by decide +kernel⟩
theorem b_puts_of_one {f : Addr} {fd : FuncData} (F : Fun K "puts_of_one" "puts_of_one" s_puts_of_one f fd) (T : Txt mg) (c_places : CalG P w K mg base CX0 1 "places" (spPlaces K)) (c_fits : CalG P w K mg base CX0 1 "fits" (spFits C_Once C_First C_Perhaps C_Every)) (c_apart : CalG P w K mg base CX0 1 "apart" (spApart K)) (c_NoPlace : ClsI P w K mg base 1 "NoPlace" C_NoPlace ["index", "number"]) (n_First : mg "First" = some (.ref C_First)) (ed : ∀ n, n < 4 → EdF K (cls4 C_Once C_First C_Perhaps C_Every n)) (kit : ∀ i j, i < 4 → j < 4 → PySem.W.kitOne K (.ref (cls4 C_Once C_First C_Perhaps C_Every i)) (.ref (cls4 C_Once C_First C_Perhaps C_Every j)) = some (i == j)) (pr_old : ∀ n, n < 4 → PrI P w K mg base 1 (cls4 C_Once C_First C_Perhaps C_Every n) "old" "_old") (pr_new : ∀ n, n < 4 → PrI P w K mg base 1 (cls4 C_Once C_First C_Perhaps C_Every n) "new" "_new") : FnG P w K mg base (L2.CX P w) 3 f fd ["edit", "index", "text"] (spPuts (cls4 C_Once C_First C_Perhaps C_Every) C_NoPlace) := by
  refine okG F sc_puts_of_one (fun vs H Q E h => ?_) (fun cdv A outer s H vs Q E hg hr h => ?_)
  · obtain ⟨n, a, dx, z1, z2, i, x, rfl, _⟩ := h
    rfl
  · have hu := hu_of hr
    have hu64 := hr.units
    obtain ⟨n, a, dx, z1, z2, i, x, rfl, hn, ha, hx, hz, k1, k2⟩ := h
    refine ⟨_, (pss_cons (ps_set (i := 3) sc_puts_of_one.nd rfl (Or.inl rfl) (pe_cG c_places hg hr (by decide) pass0 (pa_cons (pv 2) (pa_cons (pe_propN (pv 0) pr_old hr (by decide)) pa_nil))))
      (pss_cons (ps_if (pt_not (pt_val (pe_cG c_fits hg hr (by decide) pass0 (pa_cons (pv 0) (pa_cons (pe_callB call_len (by rfl) T.len (by decide +kernel) (pa_cons (pv 3) pa_nil)) pa_nil))))) (pss_one (ps_raise rfl (takes_of rfl rfl rfl rfl) (pmk_k c_NoPlace hg hr (by decide) pass0 (pa_cons (pv 1) (pa_cons (pe_callB call_len (by rfl) T.len (by decide +kernel) (pa_cons (pv 3) pa_nil)) pa_nil))))) pss_nil)
      (C8.pss_cut (ps_if (pt_val (pe_callB call_isi (by rfl) T.isinstance (by decide +kernel) (pa_cons (pv 0) (pa_cons (pe_glob (v := .ref C_First) (by rfl) n_First rfl) pa_nil)))) (pss_one (ps_set (i := 3) sc_puts_of_one.nd rfl (Or.inl rfl) (pe_slice sl_list (pv 3) po_none (po_some pe_int)))) pss_nil)
      (pss_one (ps_ret (pe_lc (own := [("place", 4)]) (g := gName 4) (tt := tYes) rfl sc_puts_of_one.nd (pi_list (pe_cG c_apart hg hr (by decide) pass0 (pa_cons (pv 3) (pa_cons (pe_callB call_len (by rfl) T.len (by decide +kernel) (pa_cons (pe_propN (pv 0) pr_old hr (by decide)) pa_nil)) pa_nil)))) (blkOk_by (own := [("place", 4)]) (N := ["edit", "index", "text", "found", "place"]) (sc := defScope s_puts_of_one) (by decide +kernel)) (fun _ _ _ _ _ => (pg_name (i := 4) sc_puts_of_one.nd rfl (Or.inl rfl))) (fun _ _ _ _ _ => pts_nil) (fun _ _ _ _ _ => (pe_tup (pa_cons (pv 4) (pa_cons (pe_op op_add (pv 4) (pe_callB (call_lenK (K := K) rfl) (by rfl) T.len (by decide +kernel) (pa_cons (pe_propN (pv 0) pr_old hr (by decide)) pa_nil))) (pa_cons (pe_propN (pv 0) pr_new hr (by decide)) (pa_cons pe_int pa_nil)))))))))))), ?_⟩
    have hpl : (plc x z1).length ≤ 801 := Nat.le_trans (plc_len x z1) (by omega)
    refine ⟨_, rfl, _, rfl, n, a, dx, _, .str z1, hn, rfl, ha, fl_old, x, z1, rfl, by omega, by omega, fun D H1 hD0 hD s1 => ?_⟩
    rw [nats_plc] at hD
    generalize hps : plc x z1 = ps at hD hpl k1 k2
    have lenP : ∀ {H' : Hp}, Same H1 H' → LenV K (.ref D) H' ps.length := fun s => .inl ⟨_, SqL.of (s _ _ hD), nats_len.symm⟩
    refine ⟨_, rfl, _, rfl, .ref D, ps.length, rfl, lenP Same.rfl, n, a, dx, _, ps.length, rfl, hn, s1 _ _ ha, fun H2 s2 => ⟨_, rfl, ?_⟩⟩
    have s12 := s1.trans s2
    cases hf : fitsM n ps.length with
    | false => exact iteT ⟨_, rfl, _, rfl, .ref D, ps.length, rfl, lenP s2, rfl, fun d hd => k1 hf _ d s12 hd⟩
    | true =>
      refine iteF ?_
      replace k2 := k2 hf
      refine ⟨fun σ' H' => ∃ D2 o, σ' = [some (.ref a), some (.int (i : Nat)), some (.str x), some (.ref D2), o] ∧ Same H H' ∧ H' D2 = some (.lst (nats (if n = 1 then ps.take 1 else ps))), ?_, ?_⟩
      · refine ⟨_, rfl, .ref a, .ref C_First, _, .ref C_First, _, rfl, .own _, (ed n hn).ty (s12 _ _ ha), kit n 1 hn (by decide), _, rfl, ?_⟩
        by_cases h1 : n = 1
        · subst h1
          refine iteT ⟨_, rfl, 1, rfl, D, _, rfl, SqL.of (s2 _ _ hD), fun D2 hD2 => ⟨D2, _, rfl, s12.trans (same_new hD2), ?_⟩⟩
          rw [upd_same, cut_first]
          rfl
        · rw [show (n == 1) = false from by simpa using h1]
          refine iteF ⟨D, _, rfl, s12, ?_⟩
          rw [if_neg h1]
          exact s2 _ _ hD
      · rintro σ3 H3 ⟨D2, o, rfl, s3, hD2⟩
        have hq2 : (if n = 1 then ps.take 1 else ps).length ≤ 801 := by
          split
          · rw [List.length_take]; omega
          · exact hpl
        generalize hqs : (if n = 1 then ps.take 1 else ps) = qs at hD2 hq2
        have hsp : spotsM n z1.length ps = apartM z1.length qs 0 := by
          unfold spotsM
          rw [hqs]
        rw [hsp] at k2
        refine ⟨_, rfl, _, rfl, n, a, dx, _, .str z1, hn, rfl, s3 _ _ ha, fl_old, _, _, rfl, ⟨by rw [sizeLine_eq]; omega, rfl⟩, D2, z1.length, qs, rfl, hD2, by omega, fun l4 H4 s4 hl4 h4 => ?_⟩
        have s34 := s3.trans s4
        refine ⟨l4, rfl, ⟨_, SqL.of h4⟩, fun D5 hD5 => ?_⟩
        have hal : (apartM z1.length qs 0).length ≤ 801 := Nat.le_trans (apart_le _ _) hq2
        generalize apartM z1.length qs 0 = ss at h4 hal k2
        refine lc_list (K := K) (a := l4) (xs := nats ss) (fun j H' => Same H4 H' ∧ ∃ xs, H' D5 = some (.lst xs) ∧ Rws H' (putV z2 z1.length) xs (ss.take j)) ⟨same_new hD5, [], upd_same, .nil⟩ (fun j H' _ p => SqL.of (p.1 _ _ h4)) (fun j v H' hv p => ?_) (fun H' p => ?_)
        · obtain ⟨p0, hp0, rfl⟩ := nats_at hv
          obtain ⟨sj, xs, hxs, rw5⟩ := p
          have ha5 := sj _ _ (s34 _ _ ha)
          refine ⟨rfl, ?_⟩
          dsimp only [tYes]
          rw [if_pos rfl]
          refine ⟨_, rfl, _, rfl, _, rfl, n, a, dx, _, .str z1, hn, rfl, ha5, fl_old, _, _, rfl, ⟨by rw [sizeLine_eq]; omega, rfl⟩, _, _, rfl, rfl, _, rfl, n, a, dx, _, .str z2, hn, rfl, ha5, fl_new, few_len (Nat.le_of_ble_eq_true rfl), fun t ht => ?_⟩
          have st := same_new (o := .tup [.int (p0 : Nat), .int ((p0 : Int) + (z1.length : Int)), .str z2, .int 0]) ht
          refine ⟨xs, st _ _ hxs, few_lt (by have := paired_len rw5; rw [List.length_take] at this; omega), fun b o h => ?_, xs ++ [.ref t], upd_same, ?_⟩
          · rw [upd_ne (ne_of_none h hD5)]
            exact st _ _ (sj _ _ h)
          · rw [List.take_add_one, hp0]
            have hne : t ≠ D5 := (ne_of_none hxs ht).symm
            have un : ∀ {u : Addr} {ws : List V}, H' u = some (.tup ws) → (upd (upd H' t (.tup [.int (p0 : Nat), .int ((p0 : Int) + (z1.length : Int)), .str z2, .int 0])) D5 (.lst (xs ++ [.ref t]))) u = some (.tup ws) := fun h => by
              rw [upd_ne (fun e => by rw [e, hxs] at h; cases h)]
              exact st _ _ h
            refine paired_app (ths_rows un rw5) (.cons ⟨t, rfl, ?_⟩ .nil)
            rw [upd_ne hne]
            exact upd_same
        · obtain ⟨sj, xs, hxs, rw5⟩ := p
          rw [nats_len, List.take_length] at rw5
          exact k2 D5 xs H' (s34.trans sj) (by
            match q : H D5 with
            | none => rfl
            | some o => exact nomatch (s34 _ _ q).symm.trans hD5) hxs rw5

end
end Vk
set_option Elab.async false
set_option maxRecDepth 100000
set_option linter.all false
set_option maxHeartbeats 4000000
namespace Vk
open PySem PySem.Spec PyProof.Rows L2 LamX NdefX StX
section
variable {P : Program} {w : World} {K : PySem.W.Frag} {mg : Str → Option Value} {base : Heap}
variable {C_Once C_First C_Perhaps C_Every C_AtOnce C_Edit C_Program C_NoPlace C_Overlap C_InvalidText C_InvalidEdit C_TooMany : Addr}
theorem nowhole {a b c d : V} : ¬ (HT.sIx [a, b, c, d].length 0 none = 0 ∧ HT.sIx [a, b, c, d].length [a, b, c, d].length (some 3) = [a, b, c, d].length) := by rintro ⟨_, h⟩; exact absurd (show HT.sIx 4 4 (some 3) = 4 from h) (by decide)
theorem few_lt2 {n : Nat} (h : n ≤ 3000) : n < sizeLine := Nat.lt_of_le_of_lt h (by rw [sizeLine_eq]; decide)
def texs (ss : List Str) : List V := ss.map V.str
def spBehind : Sp := fun vs H Q _ => ∃ x l xs ps, vs = [.str x, .ref l] ∧ H l = some (.lst xs) ∧ RwsA H putA xs ps ∧ x.length ≤ 800 ∧ (∀ p ∈ ps, p.n.length ≤ 100) ∧ ps.length ≤ 801 ∧ ∀ H', Same H H' → Q (.str (foldA x ps 0 "")) H'
abbrev s_text_behind : Stmt := top 37
theorem sc_text_behind : FnScope ["text", "puts", "pieces", "kept", "put", "begin", "end", "new"] ["text", "puts"] (defScope s_text_behind) := ⟨rfl, rfl, rfl, by decide +kernel, rfl, by decide +kernel, by decide +kernel⟩
theorem b_text_behind {f : Addr} {fd : FuncData} (F : Fun K "text_behind" "text_behind" s_text_behind f fd) (T : Txt mg) : FnG P w K mg base CX0 1 f fd ["text", "puts"] spBehind := by
  refine okG0 F sc_text_behind (fun vs H Q E h => ?_) (fun cdv A outer s H vs Q E hg hr h => ?_)
  · obtain ⟨x, l, xs, ps, rfl, _⟩ := h
    rfl
  · have hu := hu_of hr
    have hu64 := hr.units
    obtain ⟨x, l, xs, ps, rfl, hl, rw0, hx, hz, hp, k⟩ := h
    have hxs := paired_len rw0
    refine ⟨_, (pss_cons (ps_set (i := 2) sc_text_behind.nd rfl (Or.inl rfl) (pe_lst pa_nil))
      (pss_cons (ps_set (i := 3) sc_text_behind.nd rfl (Or.inl rfl) pe_int)
      (pss_cons (ps_for PassesOwn.never rfl (pi_list (pv 1)) (pg_name (i := 4) sc_text_behind.nd rfl (Or.inl rfl)) (pss_cons (ps_asg (pe_slice sl_tup (pv 4) po_none (po_some pe_int)) (pg_tup rfl (pgs_cons (pg_name (i := 5) sc_text_behind.nd rfl (Or.inl rfl)) (pgs_cons (pg_name (i := 6) sc_text_behind.nd rfl (Or.inl rfl)) (pgs_cons (pg_name (i := 7) sc_text_behind.nd rfl (Or.inl rfl)) pgs_nil)))))
      (pss_cons (ps_expr (pe_bm PySem.F.plainAttrs_list PySem.F.slot_list_append PySem.F.type_list_append mt_append (pv 2) (pa_cons (pe_slice sl_str (pv 0) (po_some (pv 3)) (po_some (pv 5))) pa_nil)))
      (pss_cons (ps_expr (pe_bm PySem.F.plainAttrs_list PySem.F.slot_list_append PySem.F.type_list_append mt_append (pv 2) (pa_cons (pv 7) pa_nil)))
      (pss_one (ps_set (i := 3) sc_text_behind.nd rfl (Or.inl rfl) (pv 6)))))))
      (pss_cons (ps_expr (pe_bm PySem.F.plainAttrs_list PySem.F.slot_list_append PySem.F.type_list_append mt_append (pv 2) (pa_cons (pe_slice sl_str (pv 0) (po_some (pv 3)) po_none) pa_nil)))
      (pss_one (ps_ret (pe_join pe_str (pv 2)))))))), ?_⟩
    refine ⟨few_len (Nat.zero_le _), fun lo hlo => ?_⟩
    have s0 := same_new (o := .lst []) hlo
    refine ⟨_, rfl, l, rfl, ⟨_, SqL.of (s0 _ _ hl)⟩, ?_⟩
    refine for_list (xs := xs) (fun i σ H2 => ∃ (o4 o5 o6 o7 : Option V) (e : Nat) (got : List Str), σ = [some (.str x), some (.ref l), some (.ref lo), some (.int (e : Nat)), o4, o5, o6, o7] ∧ Same H H2 ∧ H2 lo = some (.lst (texs got)) ∧ got.length = 2 * i ∧ (got.map (·.length)).sum ≤ i * 900 ∧ foldA x (ps.drop i) e (Txt.join "" got) = foldA x ps 0 "") ?_ ?_ ?_ ?_
    · exact ⟨_, _, _, _, 0, [], rfl, s0, upd_same, rfl, Nat.zero_le _, rfl⟩
    · rintro i σ H2 _ ⟨o4, o5, o6, o7, e, got, rfl, s2, _⟩
      exact SqL.of (s2 _ _ hl)
    · rintro i v σ H2 hv ⟨o4, o5, o6, o7, e, got, rfl, s2, hg, gl, gs, ge⟩
      obtain ⟨p, hpp, t, rfl, ht0⟩ := paired_at rw0 hv
      have hz1 := hz p (List.mem_of_getElem? hpp)
      have il : i < xs.length := (List.getElem?_eq_some_iff.mp hv).1
      rw [drop_at hpp, foldA_cons] at ge
      have ht := s2 _ _ ht0
      have xl : x.length ≤ sizeLine := by rw [sizeLine_eq]; omega
      refine ⟨_, rfl, 3, rfl, t, _, rfl, SqT.of ht, nowhole, fun tc htc => ?_⟩
      rw [show cutV (putA p) none (some 3) = [.int (p.b : Nat), .int (p.e : Nat), .str p.n] from rfl]
      have sc := same_new (o := .tup [.int (p.b : Nat), .int (p.e : Nat), .str p.n]) htc
      have hg := sc _ _ hg
      have s2 := s2.trans sc
      refine ⟨tc, _, rfl, SqT.of upd_same, rfl, _, _, rfl, _, _, rfl, _, _, rfl, rfl, ?_⟩
      generalize upd H2 tc (.tup [.int (p.b : Nat), .int (p.e : Nat), .str p.n]) = H2 at hg s2
      refine ⟨_, rfl, .inl ⟨rfl, _, SqL.of hg⟩, _, rfl, _, rfl, _, rfl, _, rfl, _, rfl, x, rfl, xl, lo, _, _, rfl, rfl, hg, few_lt2 (by unfold texs; rw [List.length_map]; omega), ?_⟩
      refine ⟨_, rfl, .inl ⟨rfl, _, SqL.of upd_same⟩, _, rfl, lo, _, _, rfl, rfl, upd_same, few_lt2 (by unfold texs; rw [List.length_append, List.length_map, List.length_singleton]; omega), ?_⟩
      rw [upd_twice3]
      refine ⟨_, rfl, _, _, _, _, p.e, got ++ [cutS x (some (e : Int)) (some (p.b : Int))] ++ [p.n], rfl, fun b o h2 => ?_, ?_, ?_, ?_, ?_⟩
      · rw [upd_ne (ne_of_none h2 hlo)]
        exact s2 _ _ h2
      · rw [upd_same]
        unfold texs
        rw [List.map_append, List.map_append]
        rfl
      · rw [List.length_append, List.length_append, gl]
        simp only [List.length_singleton]
        omega
      · have := cutS_len x (some (e : Int)) (some (p.b : Int))
        simp only [List.map_append, List.map_cons, List.map_nil, List.sum_append, List.sum_cons, List.sum_nil]
        omega
      · rw [join_snoc, join_snoc]
        exact ge
    · rintro σ H2 ⟨o4, o5, o6, o7, e, got, rfl, s2, hg, gl, gs, ge⟩
      rw [List.drop_of_length_le (by omega), foldA_nil] at ge
      have xl : x.length ≤ sizeLine := by rw [sizeLine_eq]; omega
      refine ⟨_, rfl, .inl ⟨rfl, _, SqL.of hg⟩, _, rfl, _, rfl, _, rfl, x, rfl, xl, lo, _, _, rfl, rfl, hg, few_lt2 (by unfold texs; rw [List.length_map]; omega), ?_⟩
      have cl := cutS_len x (some (e : Int)) none
      refine ⟨⟨_, rfl⟩, _, rfl, "", lo, got ++ [cutS x (some (e : Int)) none], rfl, rfl, .inl (SqL.of ?_), ?_, ?_⟩
      · rw [upd_same]
        unfold texs
        rw [List.map_append]
        rfl
      · have e0 : (Str.ofString "").length = 0 := by decide +kernel
        rw [e0]
        simp only [List.map_append, List.map_cons, List.map_nil, List.sum_append, List.sum_cons, List.sum_nil]
        omega
      · rw [join_snoc, ge]
        refine k _ fun b o h2 => ?_
        rw [upd_ne (ne_of_none h2 hlo)]
        exact s2 _ _ h2

/-- an edit at once, with these parts -/
def IsAt (C : Addr) (H : Hp) (a : Addr) (ps : List (Str × Str)) : Prop := ∃ dx q, H a = some (.ins C dx [("_parts", .ref q)]) ∧ PartsOf H q ps
theorem IsAt.keep {C : Addr} {H H1 : Hp} {a : Addr} {ps : List (Str × Str)} (h : IsAt C H a ps) (s : Same H H1) : IsAt C H1 a ps := by
  obtain ⟨dx, q, ha, p⟩ := h
  exact ⟨dx, q, s _ _ ha, p.keep s⟩
theorem fl_parts {q : Addr} : ([("_parts", V.ref q)] : List (Str × V)).lookup ("_parts" : Str) = some (.ref q) := rfl
/-- an edit of any kind -/
inductive EdM
  | one (n : Nat) (z1 z2 : Str)
  | many (ps : List (Str × Str))
def mkR (z1 z2 : Str) (p : Nat) : Rw := ⟨p, 0, z1, z2⟩
def rowsE (x : Str) : EdM → List Rw
  | .one n z1 z2 => (spotsM n z1.length (plc x z1)).map (mkR z1 z2)
  | .many ps => ordM (rowsM x ps 0)
def outE (x : Str) : EdM → Out
  | .one n z1 z2 => if fitsM n (plc x z1).length = true then .txt (foldA x (rowsE x (.one n z1 z2)) 0 "") else .no (plc x z1).length
  | .many ps => outM x ps
def OkE (x : Str) : EdM → Prop
  | .one n z1 z2 => x.length ≤ 800 ∧ z1.length ≤ 100 ∧ z2.length ≤ 100
  | .many ps => OkP ps x
theorem OkE.x8 {x : Str} {e : EdM} (h : OkE x e) : x.length ≤ 800 := by
  cases e with
  | one => exact h.1
  | many => exact OkP.x8 h
theorem rowsE_n {x : Str} {e : EdM} (h : OkE x e) : ∀ r ∈ rowsE x e, r.o.length ≤ 100 ∧ r.n.length ≤ 100 := by
  cases e with
  | one n z1 z2 =>
    intro r hr
    obtain ⟨p, _, rfl⟩ := List.mem_map.mp hr
    exact h.2
  | many ps =>
    intro r hr
    exact ((OkP.olds h) _ (rowsM_mem ((ordM_perm _).mem_iff.mp hr)).2.1).2
theorem rowsE_len {x : Str} {e : EdM} (h : OkE x e) : (rowsE x e).length ≤ 801 := by
  cases e with
  | one n z1 z2 =>
    have hx : x.length ≤ 800 := h.1
    show ((spotsM n z1.length (plc x z1)).map (mkR z1 z2)).length ≤ 801
    rw [List.length_map]
    exact Nat.le_trans spots_le (Nat.le_trans (plc_len x z1) (by omega))
  | many ps =>
    have := OkP.len h
    show (ordM (rowsM x ps 0)).length ≤ 801
    rw [(ordM_perm _).length_eq, rowsM_len]
    omega
theorem outE_yes {x z1 z2 : Str} {n : Nat} (h : fitsM n (plc x z1).length = true) : outE x (.one n z1 z2) = .txt (foldA x (rowsE x (.one n z1 z2)) 0 "") := if_pos h
theorem outE_not {x z1 z2 : Str} {n : Nat} (h : fitsM n (plc x z1).length = false) : outE x (.one n z1 z2) = .no (plc x z1).length := if_neg (by rw [h]; decide)
theorem outE_txt {x y : Str} {e : EdM} (h : outE x e = .txt y) : y = foldA x (rowsE x e) 0 "" := by
  cases e with
  | one n z1 z2 =>
    cases hf : fitsM n (plc x z1).length with
    | false =>
      rw [outE_not hf] at h
      cases h
    | true =>
      rw [outE_yes hf] at h
      exact (Out.txt.inj h).symm
  | many ps =>
    have h2 : outM x ps = .txt y := h
    cases hw : wrongM x ps with
    | some m =>
      rw [outM_no hw] at h2
      cases h2
    | none =>
      cases ho : overl (ordM (rowsM x ps 0)) with
      | true =>
        rw [outM_over hw ho] at h2
        cases h2
      | false =>
        rw [outM_txt hw ho] at h2
        exact (Out.txt.inj h2).symm
def IsEd (Cs : Nat → Addr) (Ca : Addr) (H : Hp) (a : Addr) : EdM → Prop
  | .one n z1 z2 => n < 4 ∧ ∃ dx, H a = some (.ins (Cs n) dx (fl z1 z2))
  | .many ps => IsAt Ca H a ps
theorem IsEd.keep {Cs : Nat → Addr} {Ca : Addr} {H H1 : Hp} {a : Addr} {e : EdM} (h : IsEd Cs Ca H a e) (s : Same H H1) : IsEd Cs Ca H1 a e := by
  cases e with
  | one n z1 z2 =>
    obtain ⟨hn, dx, h⟩ := h
    exact ⟨hn, dx, s _ _ h⟩
  | many ps => exact IsAt.keep h s
theorem rws_put {H : Hp} {z1 z2 : Str} : ∀ {xs : List V} {ps : List Nat}, Rws H (putV z2 z1.length) xs ps → RwsA H putA xs (ps.map (mkR z1 z2))
  | _, _, .nil => .nil
  | _, _, .cons a t => .cons (by
      obtain ⟨u, e, h⟩ := a
      exact ⟨u, e, h⟩) (rws_put t)
def spPutsE (Cs : Nat → Addr) (Ca CN CO : Addr) : Sp := fun vs H Q E => ∃ a e i x, vs = [.ref a, .int (i : Nat), .str x] ∧ IsEd Cs Ca H a e ∧ OkE x e ∧
  (∀ m, outE x e = .no m → ∀ H1 d, Same H H1 → H1 d = none → E (.ref CN) (some d) (upd H1 d (.xd [(("number" : Str), .int (m : Nat)), (("index" : Str), .int (i : Nat))]))) ∧
  (outE x e = .over → ∀ H1 d, Same H H1 → H1 d = none → E (.ref CO) (some d) (upd H1 d (.xd [(("index" : Str), .int (i : Nat))]))) ∧
  (∀ y, outE x e = .txt y → ∀ l xs H', Same H H' → H l = none → H' l = some (.lst xs) → RwsA H' putA xs (rowsE x e) → Q (.ref l) H')
abbrev s_puts_of : Stmt := top 36
theorem sc_puts_of : FnScope ["edit", "index", "text"] ["edit", "index", "text"] (defScope s_puts_of) := ⟨rfl, rfl, rfl, by decide +kernel, rfl, by decide +kernel, by decide +kernel⟩
theorem b_puts_of {f : Addr} {fd : FuncData} (F : Fun K "puts_of" "puts_of" s_puts_of f fd) (T : Txt mg) (c_puts_of_parts : CalG P w K mg base (L2.CX P w) 4 "puts_of_parts" (spPutsP C_NoPlace C_Overlap)) (c_puts_of_one : CalG P w K mg base (L2.CX P w) 3 "puts_of_one" (spPuts (cls4 C_Once C_First C_Perhaps C_Every) C_NoPlace)) (n_AtOnce : mg "AtOnce" = some (.ref C_AtOnce)) (edA : EdF K C_AtOnce) (ed : ∀ n, n < 4 → EdF K (cls4 C_Once C_First C_Perhaps C_Every n)) (kA : PySem.W.kitOne K (.ref C_AtOnce) (.ref C_AtOnce) = some true) (kA4 : ∀ n, n < 4 → PySem.W.kitOne K (.ref (cls4 C_Once C_First C_Perhaps C_Every n)) (.ref C_AtOnce) = some false) (pr_parts : ∀ n, n < 1 → PrI P w K mg base 1 ((fun _ => C_AtOnce) n) "parts" "_parts") : FnG P w K mg base (L2.CX P w) 5 f fd ["edit", "index", "text"] (spPutsE (cls4 C_Once C_First C_Perhaps C_Every) C_AtOnce C_NoPlace C_Overlap) := by
  refine okG F sc_puts_of (fun vs H Q E h => ?_) (fun cdv A outer s H vs Q E hg hr h => ?_)
  · obtain ⟨a, e, i, x, rfl, _⟩ := h
    rfl
  · have hu := hu_of hr
    have hu64 := hr.units
    obtain ⟨a, e, i, x, rfl, ie, ok, k1, k2, k3⟩ := h
    refine ⟨_, (pss_cons (ps_if (pt_val (pe_callB call_isi (by rfl) T.isinstance (by decide +kernel) (pa_cons (pv 0) (pa_cons (pe_glob (v := .ref C_AtOnce) (by rfl) n_AtOnce rfl) pa_nil)))) (pss_one (ps_ret (pe_cG c_puts_of_parts hg hr (by decide) (passes_call (takes_of rfl rfl rfl rfl) (fun _ _ _ _ h => h)) (pa_cons (pe_propN (pv 0) pr_parts hr (by decide)) (pa_cons (pv 1) (pa_cons (pv 2) pa_nil)))))) pss_nil)
      (pss_one (ps_ret (pe_cG c_puts_of_one hg hr (by decide) (passes_call (takes_of rfl rfl rfl rfl) (fun _ _ _ _ h => h)) (pa_cons (pv 0) (pa_cons (pv 1) (pa_cons (pv 2) pa_nil))))))), ?_⟩
    match e, ie, ok, k1, k2, k3 with
    | .one n z1 z2, ⟨hn, dx, ha⟩, ⟨o1, o2, o3⟩, k1, k2, k3 =>
      refine ⟨_, rfl, .ref a, .ref C_AtOnce, _, .ref C_AtOnce, false, rfl, .own _, (ed n hn).ty ha, kA4 n hn, _, rfl, iteF ?_⟩
      refine ⟨_, rfl, _, rfl, _, rfl, n, a, dx, z1, z2, i, x, rfl, hn, ha, o1, o2, fun hf H1 d s hd => ?_, fun hf l xs H' s hl0 hl rw1 => ?_⟩
      · exact k1 _ (outE_not hf) H1 d s hd
      · exact k3 _ (outE_yes hf) l xs H' s hl0 hl (rws_put rw1)
    | .many ps, ⟨dx, q, ha, hp⟩, ok, k1, k2, k3 =>
      refine ⟨_, rfl, .ref a, .ref C_AtOnce, _, .ref C_AtOnce, true, rfl, .own _, edA.ty ha, kA, _, rfl, iteT ?_⟩
      exact ⟨_, rfl, 0, a, dx, _, .ref q, by decide, rfl, ha, fl_parts, _, rfl, _, rfl, q, ps, i, x, rfl, hp, ok, fun m hm => k1 m (outM_no hm), fun hw ho => k2 (outM_over hw ho), fun hw ho => k3 _ (outM_txt hw ho)⟩

def spCE (K : PySem.W.Frag) (CE : Addr) : Sp := fun vs H Q _ => ∃ q xs, vs = [.ref q] ∧ H q = some (.tup xs) ∧ (∀ v ∈ xs, ∃ a C dx fs, v = .ref a ∧ H a = some (.ins C dx fs) ∧ EdF K C ∧ PySem.W.kitOne K (.ref C) (.ref CE) = some true) ∧ xs.length ≤ 4 ∧ ∀ H', Same H H' → Q .non H'
abbrev s_check_edits : Stmt := top 42
theorem sc_check_edits : FnScope ["edits", "index", "edit"] ["edits"] (defScope s_check_edits) := ⟨rfl, rfl, rfl, by decide +kernel, rfl, by decide +kernel, by decide +kernel⟩
theorem b_check_edits {f : Addr} {fd : FuncData} (F : Fun K "check_edits" "check_edits" s_check_edits f fd) (T : Txt mg) (n_Edit : mg "Edit" = some (.ref C_Edit)) (g_MAX_EDITS : ∃ u, mg "MAX_EDITS" = some u ∧ RelV (.int 4) u) : FnG P w K mg base CX0 1 f fd ["edits"] (spCE K C_Edit) := by
  refine okG0 F sc_check_edits (fun vs H Q E h => ?_) (fun cdv A outer s H vs Q E hg hr h => ?_)
  · obtain ⟨q, xs, rfl, _⟩ := h
    rfl
  · have hu := hu_of hr
    have hu64 := hr.units
    obtain ⟨q, xs, rfl, hq, eds, hl, k⟩ := h
    refine ⟨_, (pss_cons (ps_for PassesOwn.never rfl (pi_enumT (by rfl) T.enumerate (pa_cons (pv 0) pa_nil)) (pg_tup rfl (pgs_cons (pg_name (i := 1) sc_check_edits.nd rfl (Or.inl rfl)) (pgs_cons (pg_name (i := 2) sc_check_edits.nd rfl (Or.inl rfl)) pgs_nil))) (pss_one (ps_if (pt_not (pt_val (pe_callB call_isi (by rfl) T.isinstance (by decide +kernel) (pa_cons (pv 2) (pa_cons (pe_glob (v := .ref C_Edit) (by rfl) n_Edit rfl) pa_nil))))) (pss_one ps_never) pss_nil)))
      (pss_one (ps_if (pt_cmpR op_gt (pe_callB call_len (by rfl) T.len (by decide +kernel) (pa_cons (pv 0) pa_nil)) (C8.pe_gc (by rfl) g_MAX_EDITS) (nomark _)) (pss_one ps_never) pss_nil))), ?_⟩
    refine ⟨_, rfl, q, _, rfl, hq, fun i m σ H2 => m + i = xs.length ∧ (∃ a b, σ = [some (.ref q), a, b]) ∧ Same H H2, ⟨xs.length, rfl, ⟨_, _, rfl⟩, Same.rfl⟩, ?_⟩
    rintro i m σ H2 ⟨hm, ⟨a, b, rfl⟩, s2⟩
    by_cases hi : i < xs.length
    · obtain ⟨x, hx⟩ : ∃ x, xs[i]? = some x := ⟨xs[i], List.getElem?_eq_getElem hi⟩
      refine .inr ⟨⟨_, _, s2 _ _ hq, hx⟩, fun σ2 H3 => m - 1 + (i + 1) = xs.length ∧ (∃ a b, σ2 = [some (.ref q), a, b]) ∧ Same H H3, fun σ2 H3 p => ⟨m - 1, by omega, p⟩, ?_⟩
      rintro y H3 ⟨T, y2, xs2, rfl, hT, rfl, hxs, hy⟩
      have e := (s2 _ _ hq).symm.trans hxs
      cases e
      cases hx.symm.trans hy
      have s3 := s2.trans (same_new (o := .tup [.int (i : Nat), x]) hT)
      obtain ⟨c, C, dx, fs, rfl, hc, edC, kE⟩ := eds x (List.mem_of_getElem? hx)
      refine ⟨T, _, rfl, SqT.of upd_same, rfl, ?_⟩
      refine ⟨_, _, rfl, _, _, rfl, rfl, _, rfl, .ref c, .ref C_Edit, _, .ref C_Edit, true, rfl, .own _, edC.ty (s3 _ _ hc), kE, _, rfl, iteF ?_⟩
      exact ⟨by omega, ⟨_, _, rfl⟩, s3⟩
    · have e : i = xs.length := by omega
      refine .inl ⟨⟨_, s2 _ _ hq, e.symm⟩, ?_⟩
      refine ⟨_, rfl, .ref q, xs.length, rfl, .inr ⟨_, SqT.of (s2 _ _ hq), rfl⟩, _, _, rfl, rfl, _, rfl, ?_⟩
      rw [show decide ((xs.length : Int) > 4) = false from decide_eq_false (by omega)]
      exact iteF (k _ s2)

abbrev m_Program : Stmt := mtd (top 43) 0
theorem sc_Program : FnScope ["self", "edits"] ["self", "edits"] (defScope m_Program) := ⟨rfl, rfl, rfl, by decide +kernel, rfl, by decide +kernel, by decide +kernel⟩
def spPrI (K : PySem.W.Frag) (CE C : Addr) : Sp := fun vs H Q E => ∃ a dx q xs, vs = [.ref a, .ref q] ∧ H a = some (.ins C dx []) ∧ H q = some (.tup xs) ∧ (∀ v ∈ xs, ∃ a C dx fs, v = .ref a ∧ H a = some (.ins C dx fs) ∧ EdF K C ∧ PySem.W.kitOne K (.ref C) (.ref CE) = some true) ∧ xs.length ≤ 4 ∧ ∀ H', Same H H' → Q .non (upd H' a (.ins C dx [("_edits", .ref q)]))
abbrev spPr (K : PySem.W.Frag) (CE C : Addr) : Sp := fun vs H Q E => ∃ ws rest, vs = ws ++ rest ∧ ws.length = (["self"] : List Str).length ∧ rest.length ≤ sizeLine ∧ ∀ p, H p = none → spPrI K CE C (ws ++ [.ref p]) (upd H p (.tup rest)) Q E
theorem b_Program {f C : Addr} {fd : FuncData} (F : Fun K "__init__" "Program.__init__" m_Program f fd) (c_check_edits : CalG P w K mg base CX0 1 "check_edits" (spCE K C_Edit)) (cl : Cls K C) (n1 : NoAttr K C "_edits") : FnRG P w K mg base (L2.CX P w) 2 f (spPr K C_Edit C) := by
  refine okStar (ps := ["self"]) (pv := "edits") F sc_Program cxUp (fun kV doc pm an cdv ct us rest hl => ?_) (fun cdv A outer s H vs Q E hg hr h => ?_)
  · exact bind_star1 (B := fun us => bindArgs (PySem.W.fnOf _ _ _ _ _ _ kV doc pm an cdv ct) ⟨us, []⟩) (fun a => rfl) (fun a r rs => rfl) us rest hl
  · obtain ⟨a, dx, q, xs, rfl, ha, hq, eds, hl, k⟩ := h
    refine ⟨_, (pss_cons (ps_expr (pe_cG c_check_edits hg hr (by decide) pass0 (pa_cons (pv 1) pa_nil))) (pss_one (ps_fld (pv 0) (pv 1) rfl))), ?_⟩
    refine ⟨_, rfl, q, xs, rfl, hq, eds, hl, fun H2 s2 => ?_⟩
    exact ⟨_, rfl, _, rfl, a, C, dx, [], rfl, s2 _ _ ha, cl, n1, by decide, k _ s2⟩
theorem born_pr {CE C : Addr} {xs : List V} {H : Hp} {Q : VK} {E : XK} (eds : ∀ v ∈ xs, ∃ a C dx fs, v = .ref a ∧ H a = some (.ins C dx fs) ∧ EdF K C ∧ PySem.W.kitOne K (.ref C) (.ref CE) = some true) (hl : xs.length ≤ 4) (k : ∀ b dx q H', Same H H' → H' b = some (.ins C dx [("_edits", .ref q)]) → H' q = some (.tup xs) → Q (.ref b) H') : Born C (spPr K CE C) xs H Q E := by
  intro a dx ha hdx ne
  have x1 : Same H (upd (upd H dx (.own a)) a (.ins C dx [])) := fun b o h => by
    rw [upd_ne (ne_of_none h ha), upd_ne (ne_of_none h hdx)]
    exact h
  refine ⟨[.ref a], xs, rfl, rfl, few_len (by omega), fun p hp => ?_⟩
  have x2 := x1.trans (same_new (o := .tup xs) hp)
  refine ⟨a, dx, p, xs, rfl, (same_new hp) _ _ upd_same, upd_same, fun v hv => ?_, hl, fun H2 s2 => ⟨rfl, ?_⟩⟩
  · obtain ⟨c, C, d, fs, e, hc, r⟩ := eds v hv
    exact ⟨c, C, d, fs, e, x2 _ _ hc, r⟩
  have nap : p ≠ a := fun z => by
    rw [z, upd_same] at hp
    cases hp
  refine k a dx p _ (fun b o h => ?_) upd_same ?_
  · rw [upd_ne (ne_of_none h ha)]
    exact s2 _ _ (x2 _ _ h)
  · rw [upd_ne nap]
    exact s2 _ _ upd_same
def IsEds (Cs : Nat → Addr) (Ca : Addr) (H : Hp) : List V → List EdM → Prop := Paired fun v e => ∃ a, v = .ref a ∧ IsEd Cs Ca H a e
theorem fl_edits {q : Addr} : ([("_edits", V.ref q)] : List (Str × V)).lookup ("_edits" : Str) = some (.ref q) := rfl
def IsPr (Cs : Nat → Addr) (Ca CP : Addr) (H : Hp) (pr : Addr) (es : List EdM) : Prop := ∃ dx q xs, H pr = some (.ins CP dx [("_edits", .ref q)]) ∧ H q = some (.tup xs) ∧ IsEds Cs Ca H xs es
theorem IsPr.keep {Cs : Nat → Addr} {Ca CP : Addr} {H H1 : Hp} {pr : Addr} {es : List EdM} (p : IsPr Cs Ca CP H pr es) (s : Same H H1) : IsPr Cs Ca CP H1 pr es := by
  obtain ⟨dx, q, xs, h1, h2, h3⟩ := p
  exact ⟨dx, q, xs, s _ _ h1, s _ _ h2, paired_impl (fun v ps ⟨a, e, h⟩ => ⟨a, e, h.keep s⟩) h3⟩
end
end Vk
set_option Elab.async false
set_option maxRecDepth 100000
set_option linter.all false
set_option maxHeartbeats 4000000
namespace Vk
open PySem PySem.Spec PyProof.Rows L2 LamX NdefX StX
section
variable {K : PySem.W.Frag}
/-! what bad says -/
theorem seen_iff {z : Str} : ∀ {olds : List Str}, seen z olds = true ↔ z ∈ olds
  | [] => ⟨(fun h => nomatch (show false = true from h)), fun h => absurd h List.not_mem_nil⟩
  | o :: r => by
    have e : seen z (o :: r) = ((o == z) || seen z r) := rfl
    rw [e, Bool.or_eq_true, beq_iff_eq, seen_iff, List.mem_cons]
    constructor
    · rintro (h | h)
      · exact .inl h.symm
      · exact .inr h
    · rintro (h | h)
      · exact .inl h.symm
      · exact .inr h
theorem bad_none : ∀ {ds : List PyData} {olds : List Str} {i : Nat}, bad olds ds i = none ↔ (∀ d ∈ ds, isP d = true) ∧ (∀ d ∈ ds, oldOf d ∉ olds) ∧ (ds.map oldOf).Nodup
  | [], olds, i => by simp [bad]
  | d :: r, olds, i => by
    unfold bad
    by_cases hP : isP d = true
    · rw [if_pos hP]
      by_cases hS : seen (oldOf d) olds = true
      · rw [if_pos hS]
        refine ⟨(fun h => nomatch h), fun h => ?_⟩
        exact absurd (seen_iff.mp hS) (h.2.1 d List.mem_cons_self)
      · rw [if_neg hS, bad_none]
        have ns : oldOf d ∉ olds := fun h => hS (seen_iff.mpr h)
        constructor
        · rintro ⟨h1, h2, h3⟩
          refine ⟨fun x hx => ?_, fun x hx => ?_, ?_⟩
          · rcases List.mem_cons.mp hx with rfl | hx
            · exact hP
            · exact h1 x hx
          · rcases List.mem_cons.mp hx with rfl | hx
            · exact ns
            · exact fun h => h2 x hx (List.mem_append_left _ h)
          · rw [List.map_cons, List.nodup_cons]
            refine ⟨fun h => ?_, h3⟩
            obtain ⟨x, hx, e⟩ := List.mem_map.mp h
            exact h2 x hx (e ▸ List.mem_append_right _ List.mem_cons_self)
        · rintro ⟨h1, h2, h3⟩
          rw [List.map_cons, List.nodup_cons] at h3
          refine ⟨fun x hx => h1 x (List.mem_cons_of_mem _ hx), fun x hx h => ?_, h3.2⟩
          rcases List.mem_append.mp h with h | h
          · exact h2 x (List.mem_cons_of_mem _ hx) h
          · rw [List.mem_singleton] at h
            exact h3.1 (h ▸ List.mem_map.mpr ⟨x, hx, rfl⟩)
    · rw [if_neg hP]
      exact ⟨(fun h => nomatch h), fun h => absurd (h.1 d List.mem_cons_self) hP⟩
/-- right parts -/
structure Good (ds : List PyData) : Prop where
  none : bad [] ds 0 = none
  len : ds.length ≤ 3
theorem Good.all {ds : List PyData} (g : Good ds) : ∀ d ∈ ds, isP d = true := (bad_none.mp g.none).1
theorem Good.nd {ds : List PyData} (g : Good ds) : (ds.map oldOf).Nodup := (bad_none.mp g.none).2.2
/-! == of parts -/
theorem isP_strs {d : PyData} (h : isP d = true) : ∃ z y, d = .tuple [.str z, .str y] ∧ oldOf d = z ∧ isOld (.str z) = true ∧ isNew (.str y) = true := by
  obtain ⟨z, y, rfl, o1, o2, e⟩ := isP_two h
  obtain ⟨y2, rfl⟩ := isNew_str o2
  exact ⟨z, y2, rfl, rfl, o1, o2⟩
theorem dp_parts {H : Hp} : ∀ {xs : List V} {ds : List PyData}, Paired (Th H) xs ds → (∀ d ∈ ds, isP d = true) → DpAll K H xs ds
  | _, _, .nil, _ => .nil
  | x :: xs, d :: ds, .cons a t, h => by
    refine .cons ?_ (dp_parts t fun x hx => h x (List.mem_cons_of_mem _ hx))
    obtain ⟨z, y, rfl, _⟩ := isP_strs (h d List.mem_cons_self)
    cases a with
    | atm a => cases a
    | @tup t xs _ ht pa =>
      cases pa with
      | cons p1 pa =>
        cases pa with
        | cons p2 pa =>
          cases pa
          cases p1
          cases p2
          exact .tup (SqT.of ht) (.cons (.str _) (.cons (.str _) .nil))
theorem shaped_all : ∀ {ds : List PyData}, (∀ d ∈ ds, isP d = true) → (∀ d ∈ ds, El d) → PyData.canLayAll0 ds = true ∧ PyData.depthAll ds ≤ 1
  | [], _, _ => ⟨rfl, by simp [PyData.depthAll]⟩
  | d :: r, h, el => by
    obtain ⟨i1, i2⟩ := shaped_all (fun x hx => h x (List.mem_cons_of_mem _ hx)) fun x hx => el x (List.mem_cons_of_mem _ hx)
    have e := el d List.mem_cons_self
    obtain ⟨z, y, rfl, _⟩ := isP_strs (h d List.mem_cons_self)
    have k1 : PyData.strOk z = true := (e _ rfl (.str z) (by simp)).2
    have k2 : PyData.strOk y = true := (e _ rfl (.str y) (by simp)).2
    refine ⟨?_, ?_⟩
    · show ((PyData.strOk z && (PyData.strOk y && true)) && PyData.canLayAll0 r) = true
      rw [k1, k2, i1]
      rfl
    · show max (PyData.tuple [.str z, .str y]).depth (PyData.depthAll r) ≤ 1
      have : (PyData.tuple [.str z, .str y]).depth = 1 := rfl
      omega
theorem shaped_tup {ds : List PyData} (h : ∀ d ∈ ds, isP d = true) (el : ∀ d ∈ ds, El d) : SeqAt.shaped (.tuple ds) = true := by
  obtain ⟨a, b⟩ := shaped_all h el
  unfold SeqAt.shaped
  rw [Bool.and_eq_true, decide_eq_true_eq]
  refine ⟨a, ?_⟩
  show PyData.depthAll ds + 1 ≤ 64
  omega
theorem at_ok {C Ci Cm : Addr} {xs : List V} {ds : List PyData} {H : Hp} {Q : VK} {E : XK} (g : Good ds) (k : ∀ b dx q H', Same H H' → H' b = some (.ins C dx [("_parts", .ref q)]) → H' q = some (.tup xs) → Q (.ref b) H') : AtOut C Ci Cm xs ds H Q E :=
  ⟨(fun i e => nomatch g.none.symm.trans e), fun e l => absurd g.len (by omega), fun e l => k⟩
end
end Vk
set_option Elab.async false
set_option maxRecDepth 100000
set_option linter.all false
set_option maxHeartbeats 4000000
namespace Vk
open PySem PySem.Spec PyProof.Rows L2 LamX NdefX StX
section
variable {P : Program} {w : World} {K : PySem.W.Frag} {mg : Str → Option Value} {base : Heap}
variable {C_Once C_First C_Perhaps C_Every C_AtOnce C_Edit C_Program C_NoPlace C_Overlap C_InvalidOld C_InvalidNew C_InvalidPart C_TooMany fP fA : Addr}
def partD (p : Str × Str) : PyData := .tuple [.str p.1, .str p.2]
theorem PartsOf.keepT {H H1 : Hp} {q : Addr} {ps : List (Str × Str)} (h : PartsOf H q ps) (k : ∀ (u : Addr) ws, H u = some (.tup ws) → H1 u = some (.tup ws)) : PartsOf H1 q ps := by
  obtain ⟨xs, hq, pr⟩ := h
  exact ⟨xs, k _ _ hq, paired_impl (fun v p ⟨t, e, ht⟩ => ⟨t, e, k _ _ ht⟩) pr⟩
/-- a plain edit -/
def Plain (H : Hp) (v : V) : EdM → Prop
  | .one n z1 z2 => n < 4 ∧ ∃ t t2 t3, v = .ref t ∧ H t = some (.tup [.str (sortAt n), .ref t2]) ∧ H t2 = some (.tup [.ref t3]) ∧ H t3 = some (.tup [.str z1, .str z2])
  | .many ps => ∃ t t2, v = .ref t ∧ H t = some (.tup [.str "together", .ref t2]) ∧ PartsOf H t2 ps
theorem Plain.keep {H H1 : Hp} {v : V} {e : EdM} (p : Plain H v e) (k : ∀ (u : Addr) ws, H u = some (.tup ws) → H1 u = some (.tup ws)) : Plain H1 v e := by
  cases e with
  | one n z1 z2 =>
    obtain ⟨hn, t, t2, t3, rfl, h1, h2, h3⟩ := p
    exact ⟨hn, t, t2, t3, rfl, k _ _ h1, k _ _ h2, k _ _ h3⟩
  | many ps =>
    obtain ⟨t, t2, rfl, h1, h2⟩ := p
    exact ⟨t, t2, rfl, k _ _ h1, h2.keepT k⟩
theorem Plain.same {H H1 : Hp} {v : V} {e : EdM} (p : Plain H v e) (s : Same H H1) : Plain H1 v e := p.keep fun u ws h => s _ _ h
theorem tup_ext {H H1 : Hp} {p c : Addr} {T : Nat} (P : Pen H p c T) (x : Ext p H H1) {u : Addr} {ws : List V} (h : H u = some (.tup ws)) : H1 u = some (.tup ws) := x _ _ h fun z => by
  obtain ⟨t, l, hp⟩ := P.is
  rw [z, hp] at h
  cases h
theorem Plain.ext {H H1 : Hp} {v : V} {e : EdM} {p c : Addr} {T : Nat} (q : Plain H v e) (P : Pen H p c T) (x : Ext p H H1) : Plain H1 v e := q.keep fun u ws h => tup_ext P x h
theorem sort_is : ∀ n, n < 4 → decide (V.str (sortAt n) = V.str "together") = false ∧ decide (V.str (sortAt n) = V.str "once") = (n == 0) ∧ decide (V.str (sortAt n) = V.str "first") = (n == 1) ∧ decide (V.str (sortAt n) = V.str "perhaps") = (n == 2) ∧ decide (V.str (sortAt n) = V.str "every") = (n == 3) := by decide +kernel
def srt5 (n : Nat) : Str := if n < 4 then sortAt n else "together"
theorem srt5_lt {n : Nat} (h : n < 4) : srt5 n = sortAt n := if_pos h
def srtV (ks : List Nat) : List V := ks.map fun n => V.str (srt5 n)
/-- the words of an edit, of some letters -/
def Gw (sg : Str) (wide : Nat) : EdM → Prop
  | .one n z1 z2 => n < 4 ∧ Word sg 1 wide z1 ∧ Word sg 0 wide z2
  | .many ps => (∀ q ∈ ps, Word sg 1 wide q.1 ∧ Word sg 0 wide q.2) ∧ ps.length ≤ 3 ∧ (ps.map (·.1)).Nodup
def spPlain : Sp := fun vs H Q _ => ∃ (p c : Addr) (sg : Str) (wide : Nat) (so : Addr) (ks : List Nat) (T : Nat), vs = [.ref p, .str sg, .int (wide : Nat), .ref so] ∧ Few sg ∧ 1 ≤ wide ∧ wide ≤ 3 ∧ H so = some (.lst (srtV ks)) ∧ (∀ n ∈ ks, n < 5) ∧ ks ≠ [] ∧ ks.length ≤ 10 ∧ Pen H p c T ∧ T + 300 < 1000000000 ∧
  ∀ v e H', Plain H' v e → Gw sg wide e → Pen H' p c (T + 60) → Ext p H H' → Q v H'
abbrev s_ledit : Stmt := top 56
theorem sc_ledit : FnScope ["_law_pen_here", "_law_signs_here", "_law_wide", "_law_sorts_here", "_law_sort", "_law_found", "_law_k", "_law_was", "_law_pair"] ["_law_pen_here", "_law_signs_here", "_law_wide", "_law_sorts_here"] (defScope s_ledit) := ⟨rfl, rfl, rfl, by decide +kernel, rfl, by decide +kernel, by decide +kernel⟩
theorem b_ledit {f : Addr} {fd : FuncData} (F : Fun K "_law_edit" "_law_edit" s_ledit f fd) (T : Txt mg) (c_ldraw : CalG P w K mg base CX0 1 "_law_draw" spDraw) (c_lpick : CalG P w K mg base CX0 2 "_law_pick" (spPick K)) (c_lword : CalG P w K mg base CX0 3 "_law_word" spWord) : FnG P w K mg base CX0 4 f fd ["_law_pen_here", "_law_signs_here", "_law_wide", "_law_sorts_here"] spPlain := by
  refine okG0 F sc_ledit (fun vs H Q E h => ?_) (fun cdv A outer s H vs Q E hg hr h => ?_)
  · obtain ⟨p, pc, sg, wide, so, ks, T0, rfl, _⟩ := h
    rfl
  · have hu := hu_of hr
    have hu64 := hr.units
    obtain ⟨p, pc, sg, wide, so, ks, T0, rfl, fz, hw1, hw3, hso, hks, hne, hkl, hpen, hT, k⟩ := h
    have hr2 : Room 3 _ := hr
    refine ⟨_, (pss_cons (ps_set (i := 4) sc_ledit.nd rfl (Or.inl rfl) (pe_cG c_lpick hg hr (by decide) pass0 (pa_cons (pv 0) (pa_cons (pv 3) pa_nil))))
      (pss_cons (ps_if (pt_cmpR op_ne (pv 4) pe_str (nomark _)) (pss_one (ps_ret (pe_tup (pa_cons (pv 4) (pa_cons (pe_tup (pa_cons (pe_tup (pa_cons (pe_cG c_lword hg hr (by decide) pass0 (pa_cons (pv 0) (pa_cons (pv 1) (pa_cons pe_int (pa_cons (pv 2) pa_nil))))) (pa_cons (pe_cG c_lword hg hr (by decide) pass0 (pa_cons (pv 0) (pa_cons (pv 1) (pa_cons pe_int (pa_cons (pv 2) pa_nil))))) pa_nil))) pa_nil)) pa_nil))))) pss_nil)
      (pss_cons (ps_set (i := 5) sc_ledit.nd rfl (Or.inl rfl) (pe_lst pa_nil))
      (pss_cons (ps_for PassesOwn.never rfl (pi_range1 rfl T.range (pa_cons (pe_cG c_ldraw hg hr (by decide) pass0 (pa_cons (pv 0) (pa_cons pe_int pa_nil))) pa_nil)) (pg_name (i := 6) sc_ledit.nd rfl (Or.inl rfl)) (pss_cons (ps_set (i := 7) sc_ledit.nd rfl (Or.inl rfl) (pe_cG c_lword hg hr (by decide) pass0 (pa_cons (pv 0) (pa_cons (pv 1) (pa_cons pe_int (pa_cons (pv 2) pa_nil))))))
      (pss_one (ps_if (pt_cmpR op_notIn_seq (pv 7) (pe_lc (own := [("_law_pair", 8)]) (g := gName 8) (tt := tYes) rfl sc_ledit.nd (pi_list (pv 5)) (blkOk_by (own := [("_law_pair", 8)]) (N := ["_law_pen_here", "_law_signs_here", "_law_wide", "_law_sorts_here", "_law_sort", "_law_found", "_law_k", "_law_was", "_law_pair"]) (sc := defScope s_ledit) (by decide +kernel)) (fun _ _ _ _ _ => (pg_name (i := 8) sc_ledit.nd rfl (Or.inl rfl))) (fun _ _ _ _ _ => pts_nil) (fun _ _ _ _ _ => (pe_ix (ix_seqK (K := K) rfl) (pv 8) pe_int (fun _ _ => rfl)))) (by rfl)) (pss_one (ps_expr (pe_bm PySem.F.plainAttrs_list PySem.F.slot_list_append PySem.F.type_list_append mt_append (pv 5) (pa_cons (pe_tup (pa_cons (pv 7) (pa_cons (pe_cG c_lword hg hr (by decide) pass0 (pa_cons (pv 0) (pa_cons (pv 1) (pa_cons pe_int (pa_cons (pv 2) pa_nil))))) pa_nil))) pa_nil)))) pss_nil))))
      (pss_one (ps_ret (pe_tup (pa_cons (pv 4) (pa_cons (pe_callTy call_tuple_of (by rfl) T.tuple (by decide +kernel) (pa_cons (pv 5) pa_nil)) pa_nil))))))))), ?_⟩
    refine ⟨_, rfl, _, rfl, p, pc, .ref so, _, T0, rfl, .lst (SqL.of hso), (fun z => hne (List.map_eq_nil_iff.mp z)), (by unfold srtV; rw [List.length_map]; omega), hpen, by omega, fun v H1 m1 P1 x1 => ?_⟩
    obtain ⟨n, hn, rfl⟩ := List.mem_map.mp m1
    have n5 := hks n hn
    refine ⟨_, rfl, rfl, _, rfl, ?_⟩
    by_cases n4 : n < 4
    · rw [srt5_lt n4, (sort_is n n4).1]
      refine iteT ?_
      refine ⟨_, rfl, _, rfl, _, rfl, _, rfl, p, pc, sg, 1, wide, T0 + 1, rfl, hw1, by omega, fz.1, Nat.le_trans fz.2.1 (by decide), P1, by omega, fun w1 H2 g1 P2 x2 => ?_⟩
      refine ⟨_, rfl, _, rfl, _, rfl, p, pc, sg, 0, wide, _, rfl, by omega, by omega, fz.1, Nat.le_trans fz.2.1 (by decide), P2, by omega, fun w2 H3 g2 P3 x3 => ?_⟩
      refine ⟨few_len (Nat.le_of_ble_eq_true rfl), fun t3 h3 => ⟨few_len (Nat.le_of_ble_eq_true rfl), fun t2 h2 => ⟨few_len (Nat.le_of_ble_eq_true rfl), fun t h1 => ?_⟩⟩⟩
      have s3 := same_new (o := .tup [.str w1, .str w2]) h3
      have s2 := same_new (o := .tup [.ref t3]) h2
      have s1 := same_new (o := .tup [.str (sortAt n), .ref t2]) h1
      refine k _ (.one n w1 w2) _ ⟨n4, t, t2, t3, rfl, upd_same, s1 _ _ upd_same, s1 _ _ (s2 _ _ upd_same)⟩ ⟨n4, g1, g2⟩ ((((P3.stay s3).stay s2).stay s1).mono (by omega)) (((x1.trans x2).trans x3).trans (Ext.same ((s3.trans s2).trans s1)))
    · have e5 : srt5 n = "together" := if_neg n4
      rw [e5]
      refine iteF ?_
      refine ⟨few_len (Nat.zero_le _), fun lo hlo => ?_⟩
      have ap := P1.apart hlo
      have hlo0 := x1.none_of ap.1 hlo
      refine ⟨_, rfl, p, pc, 4, T0 + 1, rfl, by decide, by decide, P1.new hlo, by omega, fun m H2 m0 m4 P2 x2 => ⟨m, rfl, by omega, by omega, ?_⟩⟩
      have hlo2 : H2 lo = some (.lst []) := x2 _ _ upd_same ap.1
      have x12 : Ext p H H2 := x1.trans ((Ext.new hlo).trans x2)
      refine for_range (lo := 0) (n := m.toNat) (fun i σ H' => ∃ o6 o7 o8 got ps, σ = [some (.ref p), some (.str sg), some (.int (wide : Nat)), some (.ref so), some (.str "together"), some (.ref lo), o6, o7, o8] ∧ Pen H' p pc (T0 + 2 + 10 * i) ∧ Ext p H H' ∧ H' lo = some (.lst got) ∧ Paired (fun v (q : Str × Str) => ∃ t, v = V.ref t ∧ H' t = some (.tup [.str q.1, .str q.2])) got ps ∧ (∀ q ∈ ps, Word sg 1 wide q.1 ∧ Word sg 0 wide q.2) ∧ ps.length ≤ i ∧ (ps.map (·.1)).Nodup) ?_ ?_ ?_
      · exact ⟨_, _, _, [], [], rfl, P2, x12, hlo2, .nil, (fun q h => absurd h List.not_mem_nil), Nat.le_refl _, .nil⟩
      · rintro i σ H3 hi ⟨o6, o7, o8, got, ps, rfl, P3, x3, hg, pr, ws, pl, nd⟩
        have im : i < 4 := by omega
        have gl := paired_len pr
        refine ⟨_, rfl, _, rfl, _, rfl, p, pc, sg, 1, wide, _, rfl, hw1, by omega, fz.1, Nat.le_trans fz.2.1 (by decide), P3, by omega, fun w1 H4 g1 P4 x4 => ?_⟩
        have hg4 : H4 lo = some (.lst got) := x4 _ _ hg ap.1
        have pr4 := paired_impl (S := fun v (q : Str × Str) => ∃ t, v = V.ref t ∧ H4 t = some (.tup [.str q.1, .str q.2])) (fun v q ⟨t, e, h⟩ => ⟨t, e, tup_ext P3 x4 h⟩) pr
        refine ⟨_, rfl, _, rfl, lo, rfl, ⟨_, SqL.of hg4⟩, fun D hD => ?_⟩
        refine lc_list (K := K) (a := lo) (xs := got) (fun j H' => Same H4 H' ∧ H' D = some (.lst (((ps.map (·.1)).map V.str).take j))) ⟨same_new hD, upd_same⟩ (fun j H' _ q => SqL.of (q.1 _ _ hg4)) (fun j u H' hu q => ?_) (fun H' q => ?_)
        · obtain ⟨⟨z1, z2⟩, hz, t, rfl, ht⟩ := paired_at pr4 hu
          refine ⟨rfl, ?_⟩
          dsimp only [tYes]
          rw [if_pos rfl]
          refine ⟨_, rfl, .inr (.inl ⟨t, _, _, _, rfl, rfl, SqT.of (q.1 _ _ ht), rfl, _, q.2, few_lt (by rw [List.length_take, List.length_map, List.length_map]; omega), fun b o h => ?_, ?_⟩)⟩
          · rw [upd_ne (ne_of_none h hD)]
            exact q.1 _ _ h
          · rw [upd_same, List.take_add_one, List.getElem?_map, List.getElem?_map, hz]
            rfl
        · obtain ⟨s4, hD4⟩ := q
          rw [List.take_of_length_le (by rw [List.length_map, List.length_map]; omega)] at hD4
          refine ⟨D, _, rfl, .inl (SqL.of hD4), rfl, flat_strs _, _, rfl, ?_⟩
          have P5 := P4.stay s4
          have x5 := (x3.trans x4).trans (Ext.same s4)
          have hg5 := s4 _ _ hg4
          have pr5 := paired_impl (S := fun v (q : Str × Str) => ∃ t, v = V.ref t ∧ H' t = some (.tup [.str q.1, .str q.2])) (fun v q ⟨t, e, h⟩ => ⟨t, e, s4 _ _ h⟩) pr4
          cases hs : seen w1 (ps.map (·.1)) with
          | true =>
            rw [if_pos rfl, show inV (.str w1) ((ps.map (·.1)).map V.str) = true from hs]
            exact iteF ⟨_, _, _, got, ps, rfl, P5.mono (by omega), x5, hg5, pr5, ws, by omega, nd⟩
          | false =>
            rw [if_pos rfl, show inV (.str w1) ((ps.map (·.1)).map V.str) = false from hs]
            refine iteT ⟨_, rfl, .inl ⟨rfl, _, SqL.of hg5⟩, _, rfl, _, rfl, _, rfl, _, rfl, p, pc, sg, 0, wide, _, rfl, by omega, by omega, fz.1, Nat.le_trans fz.2.1 (by decide), P5, by omega, fun w2 H6 g2 P6 x6 => ⟨few_len (Nat.le_of_ble_eq_true rfl), fun t ht => ?_⟩⟩
            have hg6 : H6 lo = some (.lst got) := x6 _ _ hg5 ap.1
            have sn := same_new (o := .tup [.str w1, .str w2]) ht
            have ntl : t ≠ lo := (ne_of_none hg6 ht).symm
            refine ⟨lo, _, _, rfl, rfl, sn _ _ hg6, few_lt (by omega), _, _, _, got ++ [.ref t], ps ++ [(w1, w2)], rfl, ((P6.stay sn).set ap.1 ap.2).mono (by omega), ((x5.trans x6).trans (Ext.same sn)).set hlo0, upd_same, ?_, ?_, by rw [List.length_append]; exact Nat.succ_le_succ pl, ?_⟩
            · have un : ∀ {u : Addr} {ws : List V}, H' u = some (.tup ws) → (upd (upd H6 t (.tup [.str w1, .str w2])) lo (.lst (got ++ [.ref t]))) u = some (.tup ws) := fun h => by
                rw [upd_ne (fun e => by rw [e, hg5] at h; cases h)]
                exact sn _ _ (tup_ext P5 x6 h)
              refine paired_app2 (paired_impl (fun v q ⟨t, e, h⟩ => ⟨t, e, un h⟩) pr5) ⟨t, rfl, ?_⟩
              rw [upd_ne ntl]
              exact upd_same
            · intro q hq
              rcases List.mem_append.mp hq with hq | hq
              · exact ws q hq
              · rw [List.mem_singleton.mp hq]
                exact ⟨g1, g2⟩
            · rw [List.map_append]
              refine List.nodup_append.mpr ⟨nd, List.pairwise_singleton _ _, fun a ha b hb e => ?_⟩
              rw [List.mem_singleton.mp hb] at e
              have := seen_iff.mpr (e ▸ ha)
              rw [hs] at this
              cases this
      · rintro σ H3 ⟨o6, o7, o8, got, ps, rfl, P3, x3, hg, pr, ws, pl, nd⟩
        refine ⟨_, rfl, _, rfl, lo, got, rfl, .inl ⟨SqL.of hg, fun t2 ht2 => ⟨few_len (Nat.le_of_ble_eq_true rfl), fun t ht => ?_⟩⟩⟩
        have s1 := same_new (o := .tup got) ht2
        have s2 := same_new (o := .tup [.str "together", .ref t2]) ht
        refine k _ (.many ps) _ ⟨t, t2, rfl, upd_same, got, s2 _ _ upd_same, paired_impl (fun v q ⟨t, e, h⟩ => ⟨t, e, s2 _ _ (s1 _ _ h)⟩) pr⟩ ⟨ws, by omega, nd⟩ (((P3.stay s1).stay s2).mono (by omega)) (x3.trans (Ext.same (s1.trans s2)))

theorem born_one {C Co Cn : Addr} {z1 z2 : Str} {H : Hp} {Q : VK} {E : XK} (o1 : isOld (.str z1) = true) (o2 : isNew (.str z2) = true) (r1 : Srt (.str z1)) (r2 : Srt (.str z2)) (k : ∀ a dx H', Same H H' → H' a = some (.ins C dx (fl z1 z2)) → Q (.ref a) H') :
    Born C (spEdit C Co Cn) [.str z1, .str z2] H Q E := by
  intro a dx ha hdx ne
  refine ⟨a, dx, _, _, _, _, rfl, upd_same, .atm (.str z1), r1, .atm (.str z2), r2, (fun o => nomatch o1.symm.trans o), (fun _ o => nomatch o2.symm.trans o), fun _ _ => ⟨rfl, k a dx _ (fun b o h => ?_) upd_same⟩⟩
  rw [upd_ne (ne_of_none h ha), upd_ne (ne_of_none h ha), upd_ne (ne_of_none h hdx)]
  exact h

structure WdsP (ps : List (Str × Str)) : Prop where
  ok : ∀ p ∈ ps, isOld (.str p.1) = true ∧ isNew (.str p.2) = true ∧ Srt (.str p.1) ∧ Srt (.str p.2)
  len : ps.length ≤ 3
  nd : (ps.map (·.1)).Nodup
theorem isP_mk {p : Str × Str} (h1 : isOld (.str p.1) = true) (h2 : isNew (.str p.2) = true) : isP (partD p) = true := by
  show (isOld (.str p.1) && isNew (.str p.2)) = true
  rw [h1, h2]
  rfl
theorem WdsP.isP {ps : List (Str × Str)} (w : WdsP ps) : ∀ d ∈ ps.map partD, isP d = true := fun d hd => by
  obtain ⟨p, hp, rfl⟩ := List.mem_map.mp hd
  exact isP_mk (w.ok p hp).1 (w.ok p hp).2.1
theorem WdsP.el {ps : List (Str × Str)} (w : WdsP ps) : ∀ d ∈ ps.map partD, El d := fun d hd => by
  obtain ⟨p, hp, rfl⟩ := List.mem_map.mp hd
  intro l e x hx
  cases e
  simp only [List.mem_cons, List.not_mem_nil, or_false] at hx
  rcases hx with rfl | rfl
  · exact (w.ok p hp).2.2.1
  · exact (w.ok p hp).2.2.2
theorem WdsP.good {ps : List (Str × Str)} (w : WdsP ps) : Good (ps.map partD) := by
  refine ⟨bad_none.mpr ⟨w.isP, fun d hd => List.not_mem_nil, ?_⟩, by rw [List.length_map]; exact w.len⟩
  rw [List.map_map]
  exact w.nd
theorem parts_th {H : Hp} : ∀ {xs : List V} {ps : List (Str × Str)}, Paired (fun v (q : Str × Str) => ∃ t, v = V.ref t ∧ H t = some (.tup [.str q.1, .str q.2])) xs ps → Paired (Th H) xs (ps.map partD)
  | _, _, .nil => .nil
  | _, _, .cons a t => .cons (by
      obtain ⟨t, rfl, ht⟩ := a
      exact .tup ht (.cons (.str _) (.cons (.str _) .nil))) (parts_th t)
theorem parts_back {H H1 : Hp} {q : Addr} {xs : List V} {ps : List (Str × Str)} (pr : Paired (fun v (q : Str × Str) => ∃ t, v = V.ref t ∧ H t = some (.tup [.str q.1, .str q.2])) xs ps) (s : Same H H1) (h : H1 q = some (.tup xs)) : PartsOf H1 q ps := ⟨xs, h, paired_impl (fun v p ⟨t, e, ht⟩ => ⟨t, e, s _ _ ht⟩) pr⟩
/-- words that an edit takes -/
def Wds : EdM → Prop
  | .one _ z1 z2 => isOld (.str z1) = true ∧ isNew (.str z2) = true ∧ Srt (.str z1) ∧ Srt (.str z2)
  | .many ps => WdsP ps
def spMade (Cs : Nat → Addr) (Ca : Addr) : Sp := fun vs H Q _ => ∃ v e, vs = [v] ∧ Plain H v e ∧ Wds e ∧ ∀ a H', Same H H' → IsEd Cs Ca H' a e → Q (.ref a) H'
abbrev s_lmade : Stmt := top 57
theorem sc_lmade : FnScope ["_law_plain", "_law_sort", "_law_duos", "_law_was", "_law_fresh"] ["_law_plain"] (defScope s_lmade) := ⟨rfl, rfl, rfl, by decide +kernel, rfl, by decide +kernel, by decide +kernel⟩
theorem b_lmade {f : Addr} {fd : FuncData} (F : Fun K "_law_made" "_law_made" s_lmade f fd) (T : Txt mg) (mk_Once : MakI P w K mg base (L2.CX P w) 5 "Once" C_Once ["old", "new"] (spEdit C_Once C_InvalidOld C_InvalidNew)) (mk_First : MakI P w K mg base (L2.CX P w) 5 "First" C_First ["old", "new"] (spEdit C_First C_InvalidOld C_InvalidNew)) (mk_Perhaps : MakI P w K mg base (L2.CX P w) 5 "Perhaps" C_Perhaps ["old", "new"] (spEdit C_Perhaps C_InvalidOld C_InvalidNew)) (mk_Every : MakI P w K mg base (L2.CX P w) 5 "Every" C_Every ["old", "new"] (spEdit C_Every C_InvalidOld C_InvalidNew)) (n_AtOnce : mg "AtOnce" = some (.ref C_AtOnce)) (MA : L2.Mk K C_AtOnce fA) (FA : FnRG P w K mg base (L2.CX P w) 6 fA (spAt C_AtOnce C_InvalidPart C_TooMany)) : FnG P w K mg base CX0 8 f fd ["_law_plain"] (spMade (cls4 C_Once C_First C_Perhaps C_Every) C_AtOnce) := by
  refine okG0 F sc_lmade (fun vs H Q E h => ?_) (fun cdv A outer s H vs Q E hg hr h => ?_)
  · obtain ⟨v, e, rfl, _⟩ := h
    rfl
  · have hu := hu_of hr
    have hu64 := hr.units
    obtain ⟨v, e, rfl, pl, wd, k⟩ := h
    refine ⟨_, (pss_cons (ps_asg (pv 0) (pg_tup rfl (pgs_cons (pg_name (i := 1) sc_lmade.nd rfl (Or.inl rfl)) (pgs_cons (pg_name (i := 2) sc_lmade.nd rfl (Or.inl rfl)) pgs_nil))))
      (pss_cons (ps_if (pt_cmpR op_eq (pv 1) pe_str (nomark _)) (pss_cons (ps_if (pt_cmpR op_lt (pe_callB call_len (by rfl) T.len (by decide +kernel) (pa_cons (pv 2) pa_nil)) pe_int (nomark _)) (pss_one (ps_ret (pe_ifExp (pt_cmpR (op_eqD hu64) (pv 2) (pe_tup pa_nil) (nomark _)) (pe_starI0 MA FA hg hr (by decide) n_AtOnce passesF) (pe_starI MA FA hg hr (by decide) n_AtOnce passesF (pa_cons (pe_ix ix_seq (pv 2) pe_int (fun _ _ => rfl)) pa_nil))))) pss_nil)
      (pss_one (ps_ret (pe_ifExp (pt_cmpR op_eq (pe_callB call_len (by rfl) T.len (by decide +kernel) (pa_cons (pv 2) pa_nil)) pe_int (nomark _)) (pe_starI MA FA hg hr (by decide) n_AtOnce passesF (pa_cons (pe_ix ix_seq (pv 2) pe_int (fun _ _ => rfl)) (pa_cons (pe_ix ix_seq (pv 2) pe_int (fun _ _ => rfl)) pa_nil))) (pe_starI MA FA hg hr (by decide) n_AtOnce passesF (pa_cons (pe_ix ix_seq (pv 2) pe_int (fun _ _ => rfl)) (pa_cons (pe_ix ix_seq (pv 2) pe_int (fun _ _ => rfl)) (pa_cons (pe_ix ix_seq (pv 2) pe_int (fun _ _ => rfl)) pa_nil)))))))) pss_nil)
      (pss_cons (ps_asg (pe_ix ix_seq (pv 2) pe_int (fun _ _ => rfl)) (pg_tup rfl (pgs_cons (pg_name (i := 3) sc_lmade.nd rfl (Or.inl rfl)) (pgs_cons (pg_name (i := 4) sc_lmade.nd rfl (Or.inl rfl)) pgs_nil))))
      (pss_cons (ps_if (pt_cmpR op_eq (pv 1) pe_str (nomark _)) (pss_one (ps_ret (pe_ins mk_Once hg hr (by decide) passesF (pa_cons (pv 3) (pa_cons (pv 4) pa_nil))))) pss_nil)
      (pss_cons (ps_if (pt_cmpR op_eq (pv 1) pe_str (nomark _)) (pss_one (ps_ret (pe_ins mk_First hg hr (by decide) passesF (pa_cons (pv 3) (pa_cons (pv 4) pa_nil))))) pss_nil)
      (pss_one (ps_ret (pe_ifExp (pt_cmpR op_eq (pv 1) pe_str (nomark _)) (pe_ins mk_Perhaps hg hr (by decide) passesF (pa_cons (pv 3) (pa_cons (pv 4) pa_nil))) (pe_ins mk_Every hg hr (by decide) passesF (pa_cons (pv 3) (pa_cons (pv 4) pa_nil))))))))))), ?_⟩
    cases e with
    | one n z1 z2 =>
      obtain ⟨hn, t, t2, t3, rfl, h1, h2, h3⟩ := pl
      obtain ⟨q0, q1, q2, q3, q4⟩ := sort_is n hn
      refine ⟨_, rfl, t, _, rfl, SqT.of h1, rfl, _, _, rfl, _, _, rfl, rfl, ?_⟩
      refine ⟨_, rfl, rfl, _, rfl, ?_⟩
      rw [q0]
      refine iteF ?_
      refine ⟨_, rfl, .inr (.inl ⟨t2, _, 0, _, rfl, rfl, SqT.of h2, rfl, t3, _, rfl, SqT.of h3, rfl, _, _, rfl, _, _, rfl, rfl, ?_⟩)⟩
      refine ⟨_, rfl, rfl, _, rfl, ?_⟩
      rw [q1]
      match n, hn with
      | 0, hn => exact iteT ⟨_, rfl, _, rfl, rfl, born_one wd.1 wd.2.1 wd.2.2.1 wd.2.2.2 fun a dx H' s ha => k a H' s ⟨hn, dx, ha⟩⟩
      | 1, hn =>
        refine iteF ⟨_, rfl, rfl, _, rfl, ?_⟩
        rw [q2]
        exact iteT ⟨_, rfl, _, rfl, rfl, born_one wd.1 wd.2.1 wd.2.2.1 wd.2.2.2 fun a dx H' s ha => k a H' s ⟨hn, dx, ha⟩⟩
      | 2, hn =>
        refine iteF ⟨_, rfl, rfl, _, rfl, ?_⟩
        rw [q2]
        refine iteF ⟨_, rfl, rfl, _, rfl, ?_⟩
        rw [q3]
        exact iteT ⟨_, rfl, _, rfl, rfl, born_one wd.1 wd.2.1 wd.2.2.1 wd.2.2.2 fun a dx H' s ha => k a H' s ⟨hn, dx, ha⟩⟩
      | 3, hn =>
        refine iteF ⟨_, rfl, rfl, _, rfl, ?_⟩
        rw [q2]
        refine iteF ⟨_, rfl, rfl, _, rfl, ?_⟩
        rw [q3]
        exact iteF ⟨_, rfl, _, rfl, rfl, born_one wd.1 wd.2.1 wd.2.2.1 wd.2.2.2 fun a dx H' s ha => k a H' s ⟨hn, dx, ha⟩⟩
      | n + 4, hn => exact absurd hn (by omega)
    | many ps =>
      obtain ⟨t, t2, rfl, h1, xs, h2, pr⟩ := pl
      have gl := paired_len pr
      have l3 := wd.len
      refine ⟨_, rfl, t, _, rfl, SqT.of h1, rfl, _, _, rfl, _, _, rfl, rfl, ?_⟩
      refine ⟨_, rfl, rfl, _, rfl, iteT ?_⟩
      refine ⟨_, rfl, .ref t2, xs.length, rfl, .inr ⟨_, SqT.of h2, rfl⟩, _, _, rfl, rfl, _, rfl, ?_⟩
      have born : ∀ {H1 : Hp} {Q' : VK} {E' : XK}, Same H H1 → (∀ a H', Same H1 H' → IsAt C_AtOnce H' a ps → Q' (.ref a) H') → Born C_AtOnce (spAt C_AtOnce C_InvalidPart C_TooMany) xs H1 Q' E' := fun s k2 =>
        born_at (parts_th (paired_impl (fun v p ⟨t, e, ht⟩ => ⟨t, e, s _ _ ht⟩) pr)) wd.el (by rw [List.length_map]; omega) (at_ok wd.good fun b dx q H' s2 hb hq => k2 b H' s2 ⟨dx, q, hb, parts_back pr (s.trans s2) hq⟩)
      match xs, ps, pr, gl with
      | [], [], pr, _ =>
        refine iteT ⟨_, rfl, few_len (Nat.zero_le _), fun q hq => ?_⟩
        have s1 := same_new (o := .tup []) hq
        refine ⟨.tuple [], .tuple [], .tup (SqT.of (s1 _ _ h2)) .nil, .tup (SqT.of upd_same) .nil, by decide +kernel, by decide +kernel, _, rfl, iteT ?_⟩
        exact born s1 fun a H' s2 ha => k a H' (s1.trans s2) ha
      | [u1], [p1], pr, _ =>
        refine iteT ⟨_, rfl, few_len (Nat.zero_le _), fun q hq => ?_⟩
        have s1 := same_new (o := .tup []) hq
        refine ⟨.tuple ([p1].map partD), .tuple [], .tup (SqT.of (s1 _ _ h2)) (dp_parts (parts_th (paired_impl (fun v p ⟨t, e, ht⟩ => ⟨t, e, s1 _ _ ht⟩) pr)) wd.isP), .tup (SqT.of upd_same) .nil, shaped_tup wd.isP wd.el, by decide +kernel, _, rfl, iteF ?_⟩
        exact ⟨_, rfl, .inr (.inl ⟨t2, _, 0, _, rfl, rfl, SqT.of (s1 _ _ h2), rfl, born s1 fun a H' s2 ha => k a H' (s1.trans s2) ha⟩)⟩
      | [u1, u2], [p1, p2], pr, _ =>
        refine iteF ⟨_, rfl, .ref t2, 2, rfl, .inr ⟨_, SqT.of h2, rfl⟩, rfl, _, rfl, iteT ?_⟩
        exact ⟨_, rfl, .inr (.inl ⟨t2, _, 0, _, rfl, rfl, SqT.of h2, rfl, _, rfl, .inr (.inl ⟨t2, _, 1, _, rfl, rfl, SqT.of h2, rfl, born Same.rfl fun a H' s2 ha => k a H' s2 ha⟩)⟩)⟩
      | [u1, u2, u3], [p1, p2, p3], pr, _ =>
        refine iteF ⟨_, rfl, .ref t2, 3, rfl, .inr ⟨_, SqT.of h2, rfl⟩, rfl, _, rfl, iteF ?_⟩
        exact ⟨_, rfl, .inr (.inl ⟨t2, _, 0, _, rfl, rfl, SqT.of h2, rfl, _, rfl, .inr (.inl ⟨t2, _, 1, _, rfl, rfl, SqT.of h2, rfl, _, rfl, .inr (.inl ⟨t2, _, 2, _, rfl, rfl, SqT.of h2, rfl, born Same.rfl fun a H' s2 ha => k a H' s2 ha⟩)⟩)⟩)⟩
      | _ :: _ :: _ :: _ :: _, _, _, g => exact absurd g (by rw [List.length_cons, List.length_cons, List.length_cons, List.length_cons]; omega)

theorem IsEd.keepX {Cs : Nat → Addr} {Ca : Addr} {H H1 : Hp} {a : Addr} {e : EdM} (h : IsEd Cs Ca H a e) (s : ∀ u o, (∀ zs, o ≠ HO.lst zs) → H u = some o → H1 u = some o) : IsEd Cs Ca H1 a e := by
  cases e with
  | one n z1 z2 =>
    obtain ⟨hn, dx, h⟩ := h
    exact ⟨hn, dx, s _ _ (fun _ z => nomatch z) h⟩
  | many ps =>
    obtain ⟨dx, q, ha, xs, hq, pr⟩ := h
    exact ⟨dx, q, s _ _ (fun _ z => nomatch z) ha, xs, s _ _ (fun _ z => nomatch z) hq, paired_impl (fun v p ⟨t, e, ht⟩ => ⟨t, e, s _ _ (fun _ z => nomatch z) ht⟩) pr⟩
theorem IsEd.ins {Cs : Nat → Addr} {Ca CE : Addr} {H : Hp} {a : Addr} {e : EdM} (h : IsEd Cs Ca H a e) (ed : ∀ n, n < 4 → EdF K (Cs n)) (kE : ∀ n, n < 4 → PySem.W.kitOne K (.ref (Cs n)) (.ref CE) = some true) (edA : EdF K Ca) (kEA : PySem.W.kitOne K (.ref Ca) (.ref CE) = some true) : ∃ C dx fs, H a = some (.ins C dx fs) ∧ EdF K C ∧ PySem.W.kitOne K (.ref C) (.ref CE) = some true := by
  cases e with
  | one n z1 z2 =>
    obtain ⟨hn, dx, h⟩ := h
    exact ⟨_, dx, _, h, ed n hn, kE n hn⟩
  | many ps =>
    obtain ⟨dx, q, ha, _⟩ := h
    exact ⟨_, dx, _, ha, edA, kEA⟩
def Plains (H : Hp) : List V → List EdM → Prop := Paired (Plain H)
theorem Plains.same {H H1 : Hp} {xs : List V} {es : List EdM} (p : Plains H xs es) (s : Same H H1) : Plains H1 xs es := paired_impl (fun v e h => h.same s) p
def spProg (Cs : Nat → Addr) (Ca CP : Addr) : Sp := fun vs H Q _ => ∃ l xs es, vs = [.ref l] ∧ H l = some (.lst xs) ∧ Plains H xs es ∧ (∀ e ∈ es, Wds e) ∧ es.length ≤ 4 ∧ ∀ pr H', Same H H' → IsPr Cs Ca CP H' pr es → Q (.ref pr) H'
abbrev s_lprogram : Stmt := top 58
theorem sc_lprogram : FnScope ["_law_plains", "_law_some", "_law_plain"] ["_law_plains"] (defScope s_lprogram) := ⟨rfl, rfl, rfl, by decide +kernel, rfl, by decide +kernel, by decide +kernel⟩
theorem b_lprogram {f : Addr} {fd : FuncData} (F : Fun K "_law_program" "_law_program" s_lprogram f fd) (T : Txt mg) (c_lmade : CalG P w K mg base CX0 8 "_law_made" (spMade (cls4 C_Once C_First C_Perhaps C_Every) C_AtOnce)) (n_Program : mg "Program" = some (.ref C_Program)) (ed : ∀ n, n < 4 → EdF K (cls4 C_Once C_First C_Perhaps C_Every n)) (kE : ∀ n, n < 4 → PySem.W.kitOne K (.ref (cls4 C_Once C_First C_Perhaps C_Every n)) (.ref C_Edit) = some true) (edA : EdF K C_AtOnce) (kEA : PySem.W.kitOne K (.ref C_AtOnce) (.ref C_Edit) = some true) (MP : L2.Mk K C_Program fP) (FP : FnRG P w K mg base (L2.CX P w) 2 fP (spPr K C_Edit C_Program)) : FnG P w K mg base CX0 9 f fd ["_law_plains"] (spProg (cls4 C_Once C_First C_Perhaps C_Every) C_AtOnce C_Program) := by
  refine okG0 F sc_lprogram (fun vs H Q E h => ?_) (fun cdv A outer s H vs Q E hg hr h => ?_)
  · obtain ⟨l, xs, es, rfl, _⟩ := h
    rfl
  · have hu := hu_of hr
    have hu64 := hr.units
    obtain ⟨l, xs, es, rfl, hl, pls, wds, l4, k⟩ := h
    have gl := paired_len pls
    refine ⟨_, (pss_cons (ps_setLc (i := 1) (own := [("_law_plain", 2)]) (g := gName 2) (tt := tYes) rfl sc_lprogram.nd rfl rfl (sw_true rfl rfl rfl (by decide +kernel)) (pi_list (pv 0)) (blkOk_by (own := [("_law_plain", 2)]) (N := ["_law_plains", "_law_some", "_law_plain"]) (sc := defScope s_lprogram) (by decide +kernel)) (fun _ _ _ _ _ => (pg_name (i := 2) sc_lprogram.nd rfl (Or.inl rfl))) (fun _ _ _ _ _ => pts_nil) (fun _ _ _ _ _ => (pe_cG c_lmade hg hr (by decide) pass0 (pa_cons (pv 2) pa_nil))))
      (pss_cons (ps_if (pt_cmpR op_lt (pe_callB call_len (by rfl) T.len (by decide +kernel) (pa_cons (pv 1) pa_nil)) pe_int (nomark _)) (pss_one (ps_ret (pe_ifExp (pt_cmpR (op_eqNil hu64) (pv 1) (pe_lst pa_nil) (nomark _)) (pe_starI0 MP FP hg hr (by decide) n_Program passesF) (pe_starI MP FP hg hr (by decide) n_Program passesF (pa_cons (pe_ix ix_seq (pv 1) pe_int (fun _ _ => rfl)) pa_nil))))) pss_nil)
      (pss_cons (ps_if (pt_cmpR op_eq (pe_callB call_len (by rfl) T.len (by decide +kernel) (pa_cons (pv 1) pa_nil)) pe_int (nomark _)) (pss_one (ps_ret (pe_starI MP FP hg hr (by decide) n_Program passesF (pa_cons (pe_ix ix_seq (pv 1) pe_int (fun _ _ => rfl)) (pa_cons (pe_ix ix_seq (pv 1) pe_int (fun _ _ => rfl)) pa_nil))))) pss_nil)
      (pss_cons (ps_if (pt_cmpR op_eq (pe_callB call_len (by rfl) T.len (by decide +kernel) (pa_cons (pv 1) pa_nil)) pe_int (nomark _)) (pss_one (ps_ret (pe_starI MP FP hg hr (by decide) n_Program passesF (pa_cons (pe_ix ix_seq (pv 1) pe_int (fun _ _ => rfl)) (pa_cons (pe_ix ix_seq (pv 1) pe_int (fun _ _ => rfl)) (pa_cons (pe_ix ix_seq (pv 1) pe_int (fun _ _ => rfl)) pa_nil)))))) pss_nil)
      (pss_one (ps_ret (pe_starI MP FP hg hr (by decide) n_Program passesF (pa_cons (pe_ix ix_seq (pv 1) pe_int (fun _ _ => rfl)) (pa_cons (pe_ix ix_seq (pv 1) pe_int (fun _ _ => rfl)) (pa_cons (pe_ix ix_seq (pv 1) pe_int (fun _ _ => rfl)) (pa_cons (pe_ix ix_seq (pv 1) pe_int (fun _ _ => rfl)) pa_nil))))))))))), ?_⟩
    refine ⟨_, rfl, l, rfl, ⟨_, SqL.of hl⟩, fun D hD => ?_⟩
    refine lc_list (K := K) (a := l) (xs := xs) (fun i H' => Same H H' ∧ ∃ got, H' D = some (.lst got) ∧ IsEds (cls4 C_Once C_First C_Perhaps C_Every) C_AtOnce H' got (es.take i)) ⟨same_new hD, [], upd_same, .nil⟩ (fun i H' _ p => SqL.of (p.1 _ _ hl)) (fun i u H' hu p => ?_) (fun H' p => ?_)
    · obtain ⟨sm, got, hd, ie⟩ := p
      obtain ⟨e, he, pl⟩ := paired_at pls hu
      have rl := paired_len ie
      rw [List.length_take] at rl
      refine ⟨rfl, ?_⟩
      dsimp only [tYes]
      rw [if_pos rfl]
      refine ⟨_, rfl, u, e, rfl, pl.same sm, wds e (List.mem_of_getElem? he), fun a H2 s2 ha => ⟨got, s2 _ _ hd, few_lt (by omega), fun b o h => ?_, got ++ [.ref a], upd_same, ?_⟩⟩
      · rw [upd_ne (ne_of_none h hD)]
        exact s2 _ _ (sm _ _ h)
      · have ne : ∀ u o, (∀ zs, o ≠ HO.lst zs) → H2 u = some o → (upd H2 D (.lst (got ++ [.ref a]))) u = some o := fun u o n h => by
          rw [upd_ne (fun z => by rw [z, s2 _ _ hd] at h; exact n _ (Option.some.inj h).symm)]
          exact h
        rw [List.take_add_one, he]
        exact paired_app2 (paired_impl (fun v e ⟨a, q, h⟩ => ⟨a, q, (h.keep s2).keepX ne⟩) ie) ⟨a, rfl, ha.keepX ne⟩
    · obtain ⟨sm, got, hd, ie⟩ := p
      rw [List.take_of_length_le (by omega)] at ie
      have rl := paired_len ie
      have fin : ∀ H2 : Hp, Same H' H2 → ∀ b dx q H3, Same H2 H3 → H3 b = some (.ins C_Program dx [("_edits", .ref q)]) → H3 q = some (.tup got) → Q (.ref b) H3 := fun H2 s2 b dx q H3 s3 hb hq => k b H3 ((sm.trans s2).trans s3) ⟨dx, q, _, hb, hq, paired_impl (fun v e ⟨a, q, h⟩ => ⟨a, q, h.keep (s2.trans s3)⟩) ie⟩
      have eds : ∀ H2 : Hp, Same H' H2 → ∀ v ∈ got, ∃ a C dx fs, v = V.ref a ∧ H2 a = some (.ins C dx fs) ∧ EdF K C ∧ PySem.W.kitOne K (.ref C) (.ref C_Edit) = some true := fun H2 s2 v hv => by
        obtain ⟨e, _, a, rfl, h⟩ := paired_mem ie hv
        obtain ⟨C, dx, fs, r⟩ := (h.keep s2).ins ed kE edA kEA
        exact ⟨a, C, dx, fs, rfl, r⟩
      refine ⟨_, rfl, .ref D, got.length, rfl, .inl ⟨_, SqL.of hd, rfl⟩, _, _, rfl, rfl, _, rfl, ?_⟩
      have len : ∀ {n : Nat}, got.length = n → LenV K (.ref D) H' n := fun e => .inl ⟨_, SqL.of hd, e.symm⟩
      match got, hd, rl, fin, eds with
      | [], hd, _, fin, eds =>
        refine iteT ⟨_, rfl, few_len (Nat.zero_le _), fun q hq => ⟨D, _, q, rfl, rfl, SqL.of ((same_new hq) _ _ hd), SqL.of upd_same, _, rfl, iteT ?_⟩⟩
        exact born_pr (eds _ (same_new hq)) (Nat.le_of_ble_eq_true rfl) (fin _ (same_new hq))
      | [u1], hd, _, fin, eds =>
        refine iteT ⟨_, rfl, few_len (Nat.zero_le _), fun q hq => ⟨D, _, q, rfl, rfl, SqL.of ((same_new hq) _ _ hd), SqL.of upd_same, _, rfl, iteF ?_⟩⟩
        exact ⟨_, rfl, .inl ⟨D, _, 0, _, rfl, rfl, SqL.of ((same_new (o := .lst []) hq) _ _ hd), rfl, born_pr (eds _ (same_new hq)) (Nat.le_of_ble_eq_true rfl) (fin _ (same_new hq))⟩⟩
      | [u1, u2], hd, _, fin, eds =>
        refine iteF ⟨_, rfl, .ref D, 2, rfl, .inl ⟨_, SqL.of hd, rfl⟩, rfl, _, rfl, iteT ?_⟩
        exact ⟨_, rfl, .inl ⟨D, _, 0, _, rfl, rfl, SqL.of hd, rfl, _, rfl, .inl ⟨D, _, 1, _, rfl, rfl, SqL.of hd, rfl, born_pr (eds _ Same.rfl) (Nat.le_of_ble_eq_true rfl) (fin _ Same.rfl)⟩⟩⟩
      | [u1, u2, u3], hd, _, fin, eds =>
        refine iteF ⟨_, rfl, .ref D, 3, rfl, .inl ⟨_, SqL.of hd, rfl⟩, rfl, _, rfl, iteF ⟨_, rfl, .ref D, 3, rfl, .inl ⟨_, SqL.of hd, rfl⟩, rfl, _, rfl, iteT ?_⟩⟩
        exact ⟨_, rfl, .inl ⟨D, _, 0, _, rfl, rfl, SqL.of hd, rfl, _, rfl, .inl ⟨D, _, 1, _, rfl, rfl, SqL.of hd, rfl, _, rfl, .inl ⟨D, _, 2, _, rfl, rfl, SqL.of hd, rfl, born_pr (eds _ Same.rfl) (Nat.le_of_ble_eq_true rfl) (fin _ Same.rfl)⟩⟩⟩⟩
      | [u1, u2, u3, u4], hd, _, fin, eds =>
        refine iteF ⟨_, rfl, .ref D, 4, rfl, .inl ⟨_, SqL.of hd, rfl⟩, rfl, _, rfl, iteF ⟨_, rfl, .ref D, 4, rfl, .inl ⟨_, SqL.of hd, rfl⟩, rfl, _, rfl, iteF ?_⟩⟩
        exact ⟨_, rfl, .inl ⟨D, _, 0, _, rfl, rfl, SqL.of hd, rfl, _, rfl, .inl ⟨D, _, 1, _, rfl, rfl, SqL.of hd, rfl, _, rfl, .inl ⟨D, _, 2, _, rfl, rfl, SqL.of hd, rfl, _, rfl, .inl ⟨D, _, 3, _, rfl, rfl, SqL.of hd, rfl, born_pr (eds _ Same.rfl) (Nat.le_of_ble_eq_true rfl) (fin _ Same.rfl)⟩⟩⟩⟩⟩
      | _ :: _ :: _ :: _ :: _ :: _, _, g, _, _ => exact absurd g (by simp only [List.length_cons]; omega)

end
end Vk
set_option Elab.async false
set_option maxRecDepth 100000
set_option linter.all false
set_option maxHeartbeats 4000000
namespace Vk
open PySem PySem.Spec PyProof.Rows L2 LamX NdefX StX
section
variable {P : Program} {w : World} {K : PySem.W.Frag} {mg : Str → Option Value} {base : Heap}
variable {C_Once C_First C_Perhaps C_Every C_AtOnce C_Edit C_Program C_NoPlace C_Overlap : Addr}
def swapV (z1 z2 : Str) (p : Nat) : List V := [.int (p : Nat), .int 0, .str z1, .str z2]
def spSwaps : Sp := fun vs H Q _ => ∃ v e x, vs = [v, .str x] ∧ Plain H v e ∧ OkE x e ∧
  (∀ m, outE x e = .no m → ∀ t H', Same H H' → H' t = some (.tup [.str "no", .int (m : Nat)]) → Q (.ref t) H') ∧
  (outE x e = .over → ∀ t H', Same H H' → H' t = some (.tup [.str "over"]) → Q (.ref t) H') ∧
  (∀ y, outE x e = .txt y → ∀ l xs H', Same H H' → H l = none → H' l = some (.lst xs) → RwsA H' swapA xs (rowsE x e) → Q (.ref l) H')
theorem rws_swap {H : Hp} {z1 z2 : Str} : ∀ {xs : List V} {ps : List Nat}, Rws H (swapV z1 z2) xs ps → RwsA H swapA xs (ps.map (mkR z1 z2))
  | _, _, .nil => .nil
  | _, _, .cons a t => .cons (by
      obtain ⟨u, e, h⟩ := a
      exact ⟨u, e, h⟩) (rws_swap t)
theorem last_at {ns : List Nat} {p : Nat} : atI (nats (ns ++ [p])) (-1) = some (.int (p : Nat)) := by
  have e : nats (ns ++ [p]) = nats ns ++ [V.int (p : Nat)] := by
    unfold nats
    rw [List.map_append]
    rfl
  rw [e]
  exact atI_last _ _
def SwS (t t2 : Addr) (n : Nat) (x z1 z2 : Str) (D' : Addr) (a b : Option V) : L2.St := [some (.ref t), some (.str x), some (.str (sortAt n)), some (.ref t2), some (.ref D'), none, none, none, none, none, some (.str z1), some (.str z2), a, b]
/-- the numbers of places of those that do not stand once -/
def wrongL (x : Str) (ps : List (Str × Str)) : List Nat := (ps.map fun p => (plc x p.1).length).filter fun n => !decide (n = 1)
theorem wrong_head {x : Str} : ∀ {ps : List (Str × Str)}, wrongM x ps = (wrongL x ps).head?
  | [] => rfl
  | p :: r => by
    rw [wrongM_cons]
    unfold wrongL
    rw [List.map_cons, List.filter_cons]
    by_cases h : (plc x p.1).length = 1
    · rw [if_pos h, if_neg (by rw [decide_eq_true h]; decide), wrong_head]
      rfl
    · rw [if_neg h, if_pos (by rw [decide_eq_false h]; rfl)]
      rfl
theorem wrongL_snoc {x : Str} {p : Str × Str} {r : List (Str × Str)} : wrongL x (r ++ [p]) = wrongL x r ++ if (plc x p.1).length = 1 then [] else [(plc x p.1).length] := by
  unfold wrongL
  rw [List.map_append, List.filter_append]
  by_cases h : (plc x p.1).length = 1
  · simp [h]
  · simp [h]
theorem wrongL_len {x : Str} {r : List (Str × Str)} : (wrongL x r).length ≤ r.length := by
  unfold wrongL
  refine Nat.le_trans (List.length_filter_le _ _) ?_
  rw [List.length_map]
  exact Nat.le_refl _
theorem at_k {xs : List V} {j : Nat} {v : V} (h : xs[j]? = some v) : atI xs (0 + (j : Int)) = some v := by
  rw [Int.zero_add]
  exact atI_nat h
/-- the lists of places -/
def Spots (H : Hp) (D : Addr) (x : Str) : List V → List (Str × Str) → Prop := Paired fun v p => ∃ a, v = V.ref a ∧ a ≠ D ∧ H a = some (.lst (nats (plc x p.1)))
theorem Spots.keep {H H1 : Hp} {D : Addr} {x : Str} {ls : List V} {ps : List (Str × Str)} (h : Spots H D x ls ps) (s : ∀ a o, a ≠ D → H a = some o → H1 a = some o) : Spots H1 D x ls ps := paired_impl (fun v p ⟨a, e, n, h⟩ => ⟨a, e, n, s _ _ n h⟩) h
abbrev s_lswaps : Stmt := top 60
theorem sc_lswaps : FnScope ["_law_plain", "_law_text_here", "_law_sort", "_law_duos", "_law_spots", "_law_pair", "_law_wrong", "_law_some", "_law_found", "_law_k", "_law_was", "_law_fresh", "_law_kept", "_law_spot"] ["_law_plain", "_law_text_here"] (defScope s_lswaps) := ⟨rfl, rfl, rfl, by decide +kernel, rfl, by decide +kernel, by decide +kernel⟩
theorem b_lswaps {f : Addr} {fd : FuncData} (F : Fun K "_law_swaps" "_law_swaps" s_lswaps f fd) (T : Txt mg) (c_lplaces : CalG P w K mg base CX0 1 "_law_places" (spPlaces K)) (mSorted : mg "sorted" = none) : FnG P w K mg base CX0 2 f fd ["_law_plain", "_law_text_here"] spSwaps := by
  refine okG0 F sc_lswaps (fun vs H Q E h => ?_) (fun cdv A outer s H vs Q E hg hr h => ?_)
  · obtain ⟨v, e, x, rfl, _⟩ := h
    rfl
  · have hu := hu_of hr
    have hu64 := hr.units
    obtain ⟨v, e, x, rfl, pl, ok, k1, k2, k3⟩ := h
    refine ⟨_, (pss_cons (ps_asg (pv 0) (pg_tup rfl (pgs_cons (pg_name (i := 2) sc_lswaps.nd rfl (Or.inl rfl)) (pgs_cons (pg_name (i := 3) sc_lswaps.nd rfl (Or.inr rfl)) pgs_nil))))
      (pss_cons (ps_if (pt_cmpR op_eq (pv 2) pe_str (nomark _)) (pss_cons (ps_set (i := 4) sc_lswaps.nd rfl (Or.inr rfl) (pe_lc (own := [("_law_pair", 5)]) (g := gName 5) (tt := tYes) rfl sc_lswaps.nd (pi_tup (pv 3)) (blkOk_by (own := [("_law_pair", 5)]) (N := ["_law_plain", "_law_text_here", "_law_sort", "_law_duos", "_law_spots", "_law_pair", "_law_wrong", "_law_some", "_law_found", "_law_k", "_law_was", "_law_fresh", "_law_kept", "_law_spot"]) (sc := defScope s_lswaps) (by decide +kernel)) (fun _ _ _ _ _ => (pg_name (i := 5) sc_lswaps.nd rfl (Or.inl rfl))) (fun _ _ _ _ _ => pts_nil) (fun _ _ _ _ _ => (pe_cG c_lplaces hg hr (by decide) pass0 (pa_cons (pv 1) (pa_cons (pe_ix (ix_seqK (K := K) rfl) (pv 5) pe_int (fun _ _ => rfl)) pa_nil))))))
      (pss_cons (ps_setLc (i := 6) (own := [("_law_some", 7)]) (g := gName 7) rfl sc_lswaps.nd rfl rfl (sw_true rfl rfl rfl (by decide +kernel)) (pi_list (pv 4)) (blkOk_by (own := [("_law_some", 7)]) (N := ["_law_plain", "_law_text_here", "_law_sort", "_law_duos", "_law_spots", "_law_pair", "_law_wrong", "_law_some", "_law_found", "_law_k", "_law_was", "_law_fresh", "_law_kept", "_law_spot"]) (sc := defScope s_lswaps) (by decide +kernel)) (fun _ _ _ _ _ => (pg_name (i := 7) sc_lswaps.nd rfl (Or.inl rfl))) (fun _ _ _ _ _ => (pts_one (pt_cmpR op_ne (pe_callB (call_lenK (K := K) rfl) (by rfl) T.len (by decide +kernel) (pa_cons (pv 7) pa_nil)) pe_int (nomark _)))) (fun _ _ _ _ _ => (pe_callB (call_lenK (K := K) rfl) (by rfl) T.len (by decide +kernel) (pa_cons (pv 7) pa_nil))))
      (pss_cons (ps_if (pt_cmpR (op_neD hu64) (pv 6) (pe_lst pa_nil) (nomark _)) (pss_one (ps_ret (pe_tup (pa_cons pe_str (pa_cons (pe_ix ix_seq (pv 6) pe_int (fun _ _ => rfl)) pa_nil))))) pss_nil)
      (pss_cons (ps_set (i := 8) sc_lswaps.nd rfl (Or.inl rfl) (pe_callB cr_sortedQ (by rfl) mSorted (by decide +kernel) (pa_cons (pe_lc (own := [("_law_k", 9)]) (g := gName 9) (tt := tYes) rfl sc_lswaps.nd (pi_range1 rfl T.range (pa_cons (pe_callB call_len (by rfl) T.len (by decide +kernel) (pa_cons (pv 3) pa_nil)) pa_nil)) (blkOk_by (own := [("_law_k", 9)]) (N := ["_law_plain", "_law_text_here", "_law_sort", "_law_duos", "_law_spots", "_law_pair", "_law_wrong", "_law_some", "_law_found", "_law_k", "_law_was", "_law_fresh", "_law_kept", "_law_spot"]) (sc := defScope s_lswaps) (by decide +kernel)) (fun _ _ _ _ _ => (pg_name (i := 9) sc_lswaps.nd rfl (Or.inl rfl))) (fun _ _ _ _ _ => pts_nil) (fun _ _ _ _ _ => (pe_tup (pa_cons (pe_ix (ix_seqK (K := K) rfl) (pe_ix (ix_seqK (K := K) rfl) (pv 4) (pv 9) (fun _ _ => rfl)) pe_int (fun _ _ => rfl)) (pa_cons (pv 9) (pa_cons (pe_ix (ix_seqK (K := K) rfl) (pe_ix (ix_seqK (K := K) rfl) (pv 3) (pv 9) (fun _ _ => rfl)) pe_int (fun _ _ => rfl)) (pa_cons (pe_ix (ix_seqK (K := K) rfl) (pe_ix (ix_seqK (K := K) rfl) (pv 3) (pv 9) (fun _ _ => rfl)) pe_int (fun _ _ => rfl)) pa_nil))))))) pa_nil)))
      (pss_cons (ps_for PassesOwn.never rfl (pi_range2 rfl T.range (pa_cons pe_int (pa_cons (pe_callB call_len (by rfl) T.len (by decide +kernel) (pa_cons (pv 8) pa_nil)) pa_nil))) (pg_name (i := 9) sc_lswaps.nd rfl (Or.inl rfl)) (pss_one (ps_if (pt_cmpR op_lt (pe_ix ix_seq (pe_ix ix_seq (pv 8) (pv 9) (fun _ _ => rfl)) pe_int (fun _ _ => rfl)) (pe_op op_add (pe_ix ix_seq (pe_ix ix_seq (pv 8) (pe_op op_sub (pv 9) pe_int) (fun _ _ => rfl)) pe_int (fun _ _ => rfl)) (pe_callB call_len (by rfl) T.len (by decide +kernel) (pa_cons (pe_ix ix_seq (pe_ix ix_seq (pv 8) (pe_op op_sub (pv 9) pe_int) (fun _ _ => rfl)) pe_int (fun _ _ => rfl)) pa_nil))) (nomark _)) (pss_one (ps_ret (pe_tup (pa_cons pe_str pa_nil)))) pss_nil)))
      (pss_one (ps_ret (pv 8)))))))) pss_nil)
      (pss_cons (ps_asg (pe_ix ix_seq (pv 3) pe_int (fun _ _ => rfl)) (pg_tup rfl (pgs_cons (pg_name (i := 10) sc_lswaps.nd rfl (Or.inr rfl)) (pgs_cons (pg_name (i := 11) sc_lswaps.nd rfl (Or.inr rfl)) pgs_nil))))
      (pss_cons (ps_set (i := 4) sc_lswaps.nd rfl (Or.inr rfl) (pe_cG c_lplaces hg hr (by decide) pass0 (pa_cons (pv 1) (pa_cons (pv 10) pa_nil))))
      (C8.pss_cut (ps_if (PW.pt (pw_or (PW.pt (pw_and (pt_cmpR op_eq (pv 2) pe_str (nomark _)) (pw_and1 (pt_cmpR op_ne (pe_callB call_len (by rfl) T.len (by decide +kernel) (pa_cons (pv 4) pa_nil)) pe_int (nomark _))))) (pw_or1 (PW.pt (pw_and (pt_cmpR op_eq (pv 2) pe_str (nomark _)) (pw_and1 (pt_cmpR op_gt (pe_callB call_len (by rfl) T.len (by decide +kernel) (pa_cons (pv 4) pa_nil)) pe_int (nomark _)))))))) (pss_one (ps_ret (pe_tup (pa_cons pe_str (pa_cons (pe_callB call_len (by rfl) T.len (by decide +kernel) (pa_cons (pv 4) pa_nil)) pa_nil))))) pss_nil)
      (C8.pss_cut (ps_if (PW.pt (pw_and (pt_cmpR op_in_seq (pv 2) (pe_tup (pa_cons pe_str (pa_cons pe_str pa_nil))) (by rfl)) (pw_and1 (pt_cmpR (op_eqNil hu64) (pv 4) (pe_lst pa_nil) (nomark _))))) (pss_one (ps_ret (pe_tup (pa_cons pe_str (pa_cons pe_int pa_nil))))) pss_nil)
      (C8.pss_cut (ps_if (pt_cmpR op_eq (pv 2) pe_str (nomark _)) (pss_one (ps_set (i := 4) sc_lswaps.nd rfl (Or.inr rfl) (pe_slice sl_list (pv 4) po_none (po_some pe_int)))) pss_nil)
      (C8.pss_cut (ps_if (pt_cmpR op_eq (pv 2) pe_str (nomark _)) (pss_cons (ps_set (i := 12) sc_lswaps.nd rfl (Or.inl rfl) (pe_lst pa_nil))
      (pss_cons (ps_for PassesOwn.never rfl (pi_list (pv 4)) (pg_name (i := 13) sc_lswaps.nd rfl (Or.inl rfl)) (pss_one (ps_if (PW.pt (pw_or (pt_cmpR (op_eqNil hu64) (pv 12) (pe_lst pa_nil) (nomark _)) (pw_or1 (pt_cmpR op_ge (pv 13) (pe_op op_add (pe_ix ix_seq (pv 12) (pe_un un_neg pe_int) (fun _ _ => rfl)) (pe_callB call_len (by rfl) T.len (by decide +kernel) (pa_cons (pv 10) pa_nil))) (nomark _))))) (pss_one (ps_expr (pe_bm PySem.F.plainAttrs_list PySem.F.slot_list_append PySem.F.type_list_append mt_append (pv 12) (pa_cons (pv 13) pa_nil)))) pss_nil)))
      (pss_one (ps_set (i := 4) sc_lswaps.nd rfl (Or.inr rfl) (pv 12))))) pss_nil)
      (pss_one (ps_ret (pe_lc (own := [("_law_spot", 13)]) (g := gName 13) (tt := tYes) rfl sc_lswaps.nd (pi_list (pv 4)) (blkOk_by (own := [("_law_spot", 13)]) (N := ["_law_plain", "_law_text_here", "_law_sort", "_law_duos", "_law_spots", "_law_pair", "_law_wrong", "_law_some", "_law_found", "_law_k", "_law_was", "_law_fresh", "_law_kept", "_law_spot"]) (sc := defScope s_lswaps) (by decide +kernel)) (fun _ _ _ _ _ => (pg_name (i := 13) sc_lswaps.nd rfl (Or.inl rfl))) (fun _ _ _ _ _ => pts_nil) (fun _ _ _ _ _ => (pe_tup (pa_cons (pv 13) (pa_cons pe_int (pa_cons (pv 10) (pa_cons (pv 11) pa_nil))))))))))))))))), ?_⟩
    cases e with
    | one n z1 z2 =>
      obtain ⟨hn, t, t2, t3, rfl, h1, h2, h3⟩ := pl
      obtain ⟨hx, hz, hz2⟩ := ok
      have k1 : fitsM n (plc x z1).length = false → ∀ t H', Same H H' → H' t = some (.tup [.str "no", .int ((plc x z1).length : Nat)]) → Q (.ref t) H' := fun hf => k1 _ (outE_not hf)
      have k2 : fitsM n (plc x z1).length = true → ∀ l xs H', Same H H' → H l = none → H' l = some (.lst xs) → Rws H' (swapV z1 z2) xs (spotsM n z1.length (plc x z1)) → Q (.ref l) H' := fun hf l xs H' s nl hl rw => k3 _ (outE_yes hf) l xs H' s nl hl (rws_swap rw)
      obtain ⟨q0, q1, q2, q3, q4⟩ := sort_is n hn
      refine ⟨_, rfl, t, _, rfl, SqT.of h1, rfl, _, _, rfl, _, _, rfl, rfl, ?_⟩
      refine ⟨_, rfl, rfl, _, rfl, ?_⟩
      rw [q0]
      refine iteF ?_
      refine ⟨_, rfl, .inr (.inl ⟨t2, _, 0, _, rfl, rfl, SqT.of h2, rfl, t3, _, rfl, SqT.of h3, rfl, _, _, rfl, _, _, rfl, rfl, ?_⟩)⟩
      have hz' : z1.length ≤ 100 := hz
      refine ⟨_, rfl, _, rfl, x, z1, rfl, by omega, by omega, fun D H1 hD0 hD s1 => ?_⟩
      rw [nats_plc] at hD
      have hpl : (plc x z1).length ≤ 801 := Nat.le_trans (plc_len x z1) (by omega)
      generalize hps : plc x z1 = ps at hD hpl k1 k2
      have lenP : ∀ {H' : Hp}, Same H1 H' → LenV K (.ref D) H' ps.length := fun s => .inl ⟨_, SqL.of (s _ _ hD), nats_len.symm⟩
      refine ⟨fun σ' H' => σ' = SwS t t2 n x z1 z2 D none none ∧ H' = H1 ∧ (n = 0 → ps.length = 1) ∧ (n = 2 → ps.length ≤ 1), ?_, ?_⟩
      · have no : fitsM n ps.length = false → tRet (tTup (tCons (tC (V.str "no")) (tCons (tCB (fun xs H Q => ∃ x n, xs = [x] ∧ LenV K x H n ∧ Q (V.int n) H) (tCons (tVar 4) tNil)) tNil))) { nx := fun σ' H' => σ' = SwS t t2 n x z1 z2 D none none ∧ H' = H1 ∧ (n = 0 → ps.length = 1) ∧ (n = 2 → ps.length ≤ 1), rt := Q } (SwS t t2 n x z1 z2 D none none) H1 := fun hf =>
          ⟨_, rfl, .ref D, ps.length, rfl, lenP Same.rfl, few_len (Nat.le_of_ble_eq_true rfl), fun t' ht' => k1 hf t' _ (s1.trans (same_new ht')) upd_same⟩
        refine ⟨_, rfl, rfl, _, rfl, ?_⟩
        rw [q1]
        match n, hn with
        | 0, hn =>
          refine iteT ⟨_, rfl, .ref D, ps.length, rfl, lenP Same.rfl, rfl, _, rfl, ?_⟩
          by_cases h1 : ps.length = 1
          · rw [show (!decide (V.int (ps.length : Nat) = V.int 1)) = false from by rw [h1]; rfl]
            refine iteF ⟨_, rfl, rfl, _, rfl, ?_⟩
            rw [q3]
            exact iteF (iteF ⟨rfl, rfl, fun _ => h1, fun z => nomatch z⟩)
          · rw [show (!decide (V.int (ps.length : Nat) = V.int 1)) = true from by rw [decide_eq_false (fun z => h1 (by have := V.int.inj z; omega))]; rfl]
            exact iteT (iteT (no (decide_eq_false h1)))
        | 1, hn =>
          refine iteF (iteF ⟨_, rfl, rfl, _, rfl, ?_⟩)
          rw [q3]
          exact iteF (iteF ⟨rfl, rfl, (fun z => nomatch z), fun z => nomatch z⟩)
        | 2, hn =>
          refine iteF (iteF ⟨_, rfl, rfl, _, rfl, ?_⟩)
          rw [q3]
          refine iteT ⟨_, rfl, .ref D, ps.length, rfl, lenP Same.rfl, _, _, rfl, rfl, _, rfl, ?_⟩
          by_cases h1 : ps.length ≤ 1
          · rw [show decide ((ps.length : Int) > 1) = false from decide_eq_false (by omega)]
            exact iteF ⟨rfl, rfl, (fun z => nomatch z), fun _ => h1⟩
          · rw [show decide ((ps.length : Int) > 1) = true from decide_eq_true (by omega)]
            exact iteT (no (decide_eq_false (by omega)))
        | 3, hn =>
          refine iteF (iteF ⟨_, rfl, rfl, _, rfl, ?_⟩)
          rw [q3]
          exact iteF (iteF ⟨rfl, rfl, (fun z => nomatch z), fun z => nomatch z⟩)
        | n + 4, hn => exact absurd hn (by omega)
      · rintro σ1 H2 ⟨rfl, rfl, c0, c2⟩
        refine ⟨fun σ' H' => σ' = SwS t t2 n x z1 z2 D none none ∧ Same H2 H' ∧ fitsM n ps.length = true, ?_, ?_⟩
        · refine ⟨_, rfl, few_len (Nat.le_of_ble_eq_true rfl), fun tp htp => ⟨tp, _, rfl, .inr (SqT.of upd_same), rfl, rfl, _, rfl, ?_⟩⟩
          have sp := same_new (o := .tup [.str "first", .str "every"]) htp
          have ein : ∀ n, n < 4 → inV (.str (sortAt n)) [.str "first", .str "every"] = (n == 1 || n == 3) := by decide +kernel
          show (if inV (.str (sortAt n)) [.str "first", .str "every"] = true then _ else _)
          rw [ein n hn]
          have far : (n == 1 || n == 3) = true → tTest (tOp (rEqNil K) (tVar 4) (tLst tNil)) (SwS t t2 n x z1 z2 D none none) (upd H2 tp (.tup [.str "first", .str "every"])) fun c H1 => if c = true then tRet (tTup (tCons (tC (V.str "no")) (tCons (tC (V.int 0)) tNil))) { nx := fun σ' H' => σ' = SwS t t2 n x z1 z2 D none none ∧ Same H2 H' ∧ fitsM n ps.length = true, rt := Q } (SwS t t2 n x z1 z2 D none none) H1 else (SwS t t2 n x z1 z2 D none none = SwS t t2 n x z1 z2 D none none ∧ Same H2 H1 ∧ fitsM n ps.length = true) := fun hn13 => by
            refine ⟨_, rfl, few_len (Nat.zero_le _), fun e he => ⟨D, _, e, rfl, rfl, SqL.of ((same_new he) _ _ (sp _ _ hD)), SqL.of upd_same, _, rfl, ?_⟩⟩
            have se := sp.trans (same_new (o := .lst []) he)
            have f13 : fitsM n ps.length = decide (0 < ps.length) := by
              match n, hn, hn13 with
              | 1, _, _ => rfl
              | 3, _, _ => rfl
              | 0, _, h => exact nomatch h
              | 2, _, h => exact nomatch h
            by_cases h0 : ps.length = 0
            · rw [show decide ((nats ps).length = 0) = true from decide_eq_true (nats_len.trans h0)]
              refine iteT ⟨few_len (Nat.le_of_ble_eq_true rfl), fun t' ht' => k1 (f13.trans (decide_eq_false (by omega))) t' _ ((s1.trans se).trans (same_new ht')) ?_⟩
              rw [upd_same, h0]
              rfl
            · rw [show decide ((nats ps).length = 0) = false from decide_eq_false (fun z => h0 (nats_len.symm.trans z))]
              exact iteF ⟨rfl, se, f13.trans (decide_eq_true (by omega))⟩
          cases h13 : (n == 1 || n == 3) with
          | true => exact iteT (far h13)
          | false =>
            refine iteF (iteF ⟨rfl, sp, ?_⟩)
            match n, hn, h13, c0, c2 with
            | 0, _, _, c0, _ => exact decide_eq_true (c0 rfl)
            | 2, _, _, _, c2 => exact decide_eq_true (by have := c2 rfl; omega)
            | 1, _, h, _, _ => exact nomatch h
            | 3, _, h, _, _ => exact nomatch h
        · rintro σ2 H3 ⟨rfl, s3, hf⟩
          replace k2 := k2 hf
          have hD3 := s3 _ _ hD
          refine ⟨fun σ' H' => ∃ D4, σ' = SwS t t2 n x z1 z2 D4 none none ∧ Same H3 H' ∧ H' D4 = some (.lst (nats (if n = 1 then ps.take 1 else ps))), ?_, ?_⟩
          · refine ⟨_, rfl, rfl, _, rfl, ?_⟩
            rw [q2]
            by_cases h1 : n = 1
            · subst h1
              refine iteT ⟨_, rfl, 1, rfl, D, _, rfl, SqL.of hD3, fun D4 hD4 => ⟨D4, rfl, same_new hD4, ?_⟩⟩
              rw [upd_same, cut_first]
              rfl
            · rw [show (n == 1) = false from by simpa using h1]
              refine iteF ⟨D, rfl, Same.rfl, ?_⟩
              rw [if_neg h1]
              exact hD3
          · rintro σ3 H4 ⟨D4, rfl, s4, hD4⟩
            refine ⟨fun σ' H' => ∃ D5 a b, σ' = SwS t t2 n x z1 z2 D5 a b ∧ Same H4 H' ∧ H' D5 = some (.lst (nats (spotsM n z1.length ps))), ?_, ?_⟩
            · refine ⟨_, rfl, rfl, _, rfl, ?_⟩
              rw [q4]
              by_cases h3 : n = 3
              · subst h3
                rw [if_neg (by decide)] at hD4
                refine iteT ?_
                refine ⟨few_len (Nat.zero_le _), fun lk hlk => ?_⟩
                have s5 := same_new (o := .lst []) hlk
                refine ⟨_, rfl, D4, rfl, ⟨_, SqL.of (s5 _ _ hD4)⟩, ?_⟩
                refine for_list (xs := nats ps) (fun i σ H' => ∃ (o : Option V) (e : Nat) (got : List Nat), σ = SwS t t2 3 x z1 z2 D4 (some (.ref lk)) o ∧ Same H4 H' ∧ H' lk = some (.lst (nats got)) ∧ got.length ≤ i ∧ got ++ apartM z1.length (ps.drop i) e = apartM z1.length ps 0 ∧ ((got = [] ∧ e = 0) ∨ ∃ g p, got = g ++ [p] ∧ e = p + z1.length)) ?_ ?_ ?_ ?_
                · exact ⟨_, 0, [], rfl, s5, upd_same, Nat.le_refl _, rfl, .inl ⟨rfl, rfl⟩⟩
                · rintro i σ H' _ ⟨o, e, got, rfl, s6, _⟩
                  exact SqL.of (s6 _ _ hD4)
                · rintro i v σ H' hv ⟨o, e, got, rfl, s6, hg, gl, ge, gc⟩
                  obtain ⟨p, hp, rfl⟩ := nats_at hv
                  have il : i < ps.length := (List.getElem?_eq_some_iff.mp hp).1
                  rw [drop_at hp, apartM_cons] at ge
                  refine ⟨_, rfl, few_len (Nat.zero_le _), fun e0 he0 => ⟨lk, _, e0, rfl, rfl, SqL.of ((same_new he0) _ _ hg), SqL.of upd_same, _, rfl, ?_⟩⟩
                  have s7 := s6.trans (same_new (o := .lst []) he0)
                  have hg7 := (same_new (o := .lst []) he0) _ _ hg
                  generalize upd H' e0 (.lst []) = H7 at s7 hg7
                  have put : e ≤ p → tDrop (tBM K "list" rAppend (tVar 12) (tCons (tVar 13) tNil)) { nx := fun σ H' => ∃ (o : Option V) (e : Nat) (got : List Nat), σ = SwS t t2 3 x z1 z2 D4 (some (.ref lk)) o ∧ Same H4 H' ∧ H' lk = some (.lst (nats got)) ∧ got.length ≤ i + 1 ∧ got ++ apartM z1.length (ps.drop (i + 1)) e = apartM z1.length ps 0 ∧ ((got = [] ∧ e = 0) ∨ ∃ g p, got = g ++ [p] ∧ e = p + z1.length), rt := Q } (SwS t t2 3 x z1 z2 D4 (some (.ref lk)) (some (.int (p : Nat)))) H7 := fun hle => by
                    rw [if_pos hle] at ge
                    refine ⟨_, rfl, .inl ⟨rfl, _, SqL.of hg7⟩, _, rfl, lk, _, _, rfl, rfl, hg7, few_lt (by rw [nats_len]; omega), _, p + z1.length, got ++ [p], rfl, fun b o2 h2 => ?_, ?_, by rw [List.length_append]; exact Nat.succ_le_succ gl, ?_, .inr ⟨got, p, rfl, rfl⟩⟩
                    · rw [upd_ne (ne_of_none h2 hlk)]
                      exact s7 _ _ h2
                    · rw [upd_same]
                      unfold nats
                      rw [List.map_append]
                      rfl
                    · rw [← ge, List.append_assoc]
                      rfl
                  rcases gc with ⟨rfl, rfl⟩ | ⟨g, p', rfl, rfl⟩
                  · exact iteT (iteT (put (Nat.zero_le _)))
                  · rw [show decide ((nats (g ++ [p'])).length = 0) = false from decide_eq_false (by rw [nats_len, List.length_append]; simp)]
                    refine iteF ⟨_, rfl, _, rfl, _, rfl, .inl ⟨lk, _, _, _, rfl, rfl, SqL.of hg7, last_at, _, rfl, _, _, rfl, ⟨by rw [sizeLine_eq]; omega, rfl⟩, _, _, rfl, rfl, _, _, rfl, rfl, _, rfl, ?_⟩⟩
                    by_cases hle : p' + z1.length ≤ p
                    · rw [show decide (((p : Nat) : Int) ≥ (p' : Int) + (z1.length : Int)) = true from decide_eq_true (by omega)]
                      exact iteT (put hle)
                    · rw [show decide (((p : Nat) : Int) ≥ (p' : Int) + (z1.length : Int)) = false from decide_eq_false (by omega)]
                      rw [if_neg hle] at ge
                      exact iteF ⟨_, _, _, rfl, s7, hg7, Nat.le_succ_of_le gl, ge, .inr ⟨g, p', rfl, rfl⟩⟩
                · rintro σ H' ⟨o, e, got, rfl, s6, hg, gl, ge, gc⟩
                  rw [List.drop_of_length_le (by rw [nats_len]; exact Nat.le_refl _), apartM_nil, List.append_nil] at ge
                  refine ⟨_, rfl, lk, _, _, rfl, s6, ?_⟩
                  rw [hg, ge]
                  rfl
              · rw [show (n == 3) = false from by simpa using h3]
                refine iteF ⟨D4, _, _, rfl, Same.rfl, ?_⟩
                rw [hD4]
                unfold spotsM
                by_cases h1 : n = 1
                · rw [if_pos h1, apart_one (by rw [List.length_take]; omega)]
                · rw [if_neg h1]
                  match n, hn, h1, h3, c0, c2 with
                  | 0, _, _, _, c0, _ => rw [apart_one (by have := c0 rfl; omega)]
                  | 2, _, _, _, _, c2 => rw [apart_one (c2 rfl)]
                  | 1, _, h, _, _, _ => exact absurd rfl h
                  | 3, _, _, h, _, _ => exact absurd rfl h
            · rintro σ4 H5 ⟨D5, o1, o2, rfl, s5, hD5⟩
              have hsl : (spotsM n z1.length ps).length ≤ 801 := Nat.le_trans spots_le hpl
              generalize spotsM n z1.length ps = ss at hD5 hsl k2
              have s05 : Same H H5 := ((s1.trans s3).trans s4).trans s5
              refine ⟨_, rfl, D5, rfl, ⟨_, SqL.of hD5⟩, fun D6 hD6 => ?_⟩
              refine lc_list (K := K) (a := D5) (xs := nats ss) (fun j H' => Same H5 H' ∧ ∃ xs, H' D6 = some (.lst xs) ∧ Rws H' (swapV z1 z2) xs (ss.take j)) ⟨same_new hD6, [], upd_same, .nil⟩ (fun j H' _ p => SqL.of (p.1 _ _ hD5)) (fun j v H' hv p => ?_) (fun H' p => ?_)
              · obtain ⟨p0, hp0, rfl⟩ := nats_at hv
                obtain ⟨sj, xs, hxs, rw5⟩ := p
                refine ⟨rfl, ?_⟩
                dsimp only [tYes]
                rw [if_pos rfl]
                refine ⟨_, rfl, _, rfl, _, rfl, few_len (Nat.le_of_ble_eq_true rfl), fun t5 ht5 => ?_⟩
                have st := same_new (o := .tup (swapV z1 z2 p0)) ht5
                refine ⟨xs, st _ _ hxs, few_lt (by have := paired_len rw5; rw [List.length_take] at this; omega), fun b o h => ?_, xs ++ [.ref t5], upd_same, ?_⟩
                · rw [upd_ne (ne_of_none h hD6)]
                  exact st _ _ (sj _ _ h)
                · rw [List.take_add_one, hp0]
                  have hne : t5 ≠ D6 := (ne_of_none hxs ht5).symm
                  have un : ∀ {u : Addr} {ws : List V}, H' u = some (.tup ws) → (upd (upd H' t5 (.tup (swapV z1 z2 p0))) D6 (.lst (xs ++ [.ref t5]))) u = some (.tup ws) := fun h => by
                    rw [upd_ne (fun e => by rw [e, hxs] at h; cases h)]
                    exact st _ _ h
                  refine paired_app (ths_rows un rw5) (.cons ⟨t5, rfl, ?_⟩ .nil)
                  rw [upd_ne hne]
                  exact upd_same
              · obtain ⟨sj, xs, hxs, rw5⟩ := p
                rw [nats_len, List.take_length] at rw5
                exact k2 D6 xs H' (s05.trans sj) (s05.free hD6) hxs rw5
    | many ps =>
      obtain ⟨t, t2, rfl, h1, xs, h2, pr⟩ := pl
      have ok : OkP ps x := ok
      have k1 : ∀ m, wrongM x ps = some m → ∀ t H', Same H H' → H' t = some (.tup [.str "no", .int (m : Nat)]) → Q (.ref t) H' := fun m hm => k1 m (outM_no hm)
      have k2 : wrongM x ps = none → overl (ordM (rowsM x ps 0)) = true → ∀ t H', Same H H' → H' t = some (.tup [.str "over"]) → Q (.ref t) H' := fun hw ho => k2 (outM_over hw ho)
      have k3 : wrongM x ps = none → overl (ordM (rowsM x ps 0)) = false → ∀ l xs H', Same H H' → H l = none → H' l = some (.lst xs) → RwsA H' swapA xs (ordM (rowsM x ps 0)) → Q (.ref l) H' := fun hw ho => k3 _ (outM_txt hw ho)
      have gl := paired_len pr
      have l3 := ok.len
      have hx8 := ok.x8
      refine ⟨_, rfl, t, _, rfl, SqT.of h1, rfl, _, _, rfl, _, _, rfl, rfl, ?_⟩
      refine ⟨_, rfl, rfl, _, rfl, iteT ?_⟩
      refine ⟨_, rfl, t2, rfl, ⟨_, SqT.of h2⟩, fun D hD => ?_⟩
      refine lc_tup (K := K) (a := t2) (xs := xs) (fun j H' => Same H H' ∧ ∃ ls, H' D = some (.lst ls) ∧ Spots H' D x ls (ps.take j)) ⟨same_new hD, [], upd_same, .nil⟩ (fun j H' _ q => SqT.of (q.1 _ _ h2)) (fun j u H' hu q => ?_) (fun H1 q => ?_)
      · obtain ⟨⟨z1, z2⟩, hz, t3, rfl, ht3⟩ := paired_at pr hu
        obtain ⟨b0, b1, b2⟩ := ok.olds _ (List.mem_of_getElem? hz)
        dsimp only at b0 b1 b2 ht3
        obtain ⟨sm, ls, hls, sp⟩ := q
        have lsl := paired_len sp
        rw [List.length_take] at lsl
        refine ⟨rfl, ?_⟩
        dsimp only [tYes]
        rw [if_pos rfl]
        refine ⟨_, rfl, _, rfl, .inr (.inl ⟨t3, _, 0, _, rfl, rfl, SqT.of (sm _ _ ht3), rfl, x, z1, rfl, by omega, by omega, fun D3 H3 hD30 hD3 s3 => ?_⟩)⟩
        rw [nats_plc] at hD3
        have ne3 : D3 ≠ D := fun z => by
          rw [z, hls] at hD30
          cases hD30
        refine ⟨ls, s3 _ _ hls, few_lt (by omega), fun b o h => ?_, ls ++ [.ref D3], upd_same, ?_⟩
        · rw [upd_ne (ne_of_none h hD)]
          exact s3 _ _ (sm _ _ h)
        · rw [List.take_add_one, hz]
          refine paired_app2 (sp.keep fun a o n h => ?_) ⟨D3, rfl, ne3, ?_⟩
          · rw [upd_ne n]
            exact s3 _ _ h
          · rw [upd_ne ne3]
            exact hD3
      obtain ⟨s1, ls, hls, sp⟩ := q
      rw [List.take_of_length_le (by omega)] at sp
      have lsl := paired_len sp
      refine ⟨_, rfl, D, rfl, ⟨_, SqL.of hls⟩, fun W hW => ?_⟩
      refine lc_list (K := K) (a := D) (xs := ls) (fun j H' => Same H1 H' ∧ H' W = some (.lst (nats (wrongL x (ps.take j))))) ⟨same_new hW, upd_same⟩ (fun j H' _ q => SqL.of (q.1 _ _ hls)) (fun j u H' hu q => ?_) (fun H2 q => ?_)
      · obtain ⟨⟨z1, z2⟩, hz, a, rfl, na, ha⟩ := paired_at sp hu
        obtain ⟨sm, hw⟩ := q
        have ha' := sm _ _ ha
        dsimp only at ha'
        have tk : ps.take (j + 1) = ps.take j ++ [(z1, z2)] := by rw [List.take_add_one, hz]; rfl
        have hpl : (plc x z1).length ≤ 801 := Nat.le_trans (plc_len x z1) (by omega)
        have lenP : LenV K (.ref a) H' (plc x z1).length := .inl ⟨_, SqL.of ha', nats_len.symm⟩
        refine ⟨rfl, ?_⟩
        refine ⟨_, rfl, .ref a, (plc x z1).length, rfl, lenP, rfl, _, rfl, ?_⟩
        by_cases h1 : (plc x z1).length = 1
        · rw [show (!decide (V.int ((plc x z1).length : Nat) = V.int 1)) = false from by rw [h1]; rfl]
          refine iteF ⟨sm, ?_⟩
          rw [tk, wrongL_snoc, if_pos h1, List.append_nil]
          exact hw
        · rw [show (!decide (V.int ((plc x z1).length : Nat) = V.int 1)) = true from by rw [decide_eq_false (fun z => h1 (by have := V.int.inj z; omega))]; rfl]
          refine iteT ⟨_, rfl, .ref a, (plc x z1).length, rfl, lenP, _, hw, few_lt (by rw [nats_len]; have := wrongL_len (x := x) (r := ps.take j); rw [List.length_take] at this; omega), fun b o h => ?_, ?_⟩
          · rw [upd_ne (ne_of_none h hW)]
            exact sm _ _ h
          · rw [upd_same, tk, wrongL_snoc, if_neg h1]
            unfold nats
            rw [List.map_append]
            rfl
      obtain ⟨s2, hw⟩ := q
      rw [List.take_of_length_le (by omega)] at hw
      have s12 := s1.trans s2
      have wh := wrong_head (x := x) (ps := ps)
      refine ⟨_, rfl, few_len (Nat.zero_le _), fun e0 he0 => ?_⟩
      have se := same_new (o := .lst []) he0
      have nm : nats (wrongL x ps) = ((wrongL x ps).map Int.ofNat).map V.int := by
        unfold nats
        rw [List.map_map]
        rfl
      have hw2 : (upd H2 e0 (.lst [])) W = some (.lst (((wrongL x ps).map Int.ofNat).map V.int)) := nm ▸ se _ _ hw
      refine ⟨.list (((wrongL x ps).map Int.ofNat).map .int), .list [], .lst (SqL.of hw2) (ints_dp _), .lst (SqL.of upd_same) .nil, ints_shaped _, by decide +kernel, _, rfl, ?_⟩
      have s3 := s12.trans se
      have hls3 : (upd H2 e0 (.lst [])) D = some (.lst ls) := se _ _ (s2 _ _ hls)
      have sp3 : Spots (upd H2 e0 (.lst [])) D x ls ps := sp.keep fun a o n h => se _ _ (s2 _ _ h)
      generalize upd H2 e0 (.lst []) = H3 at s3 hw2 hls3 sp3
      cases hq : wrongL x ps with
      | cons m r =>
        rw [hq] at hw2 wh
        refine iteT ⟨_, rfl, .inl ⟨W, _, 0, .int (m : Nat), rfl, rfl, SqL.of hw2, atI_nat (j := 0) rfl, few_len (Nat.le_of_ble_eq_true rfl), fun t' ht' => k1 m wh t' _ (s3.trans (same_new ht')) upd_same⟩⟩
      | nil =>
        rw [hq] at wh
        have hw0 : wrongM x ps = none := wh
        refine iteF ?_
        have t23 := s3 _ _ h2
        have pr3 := paired_impl (S := fun v (q : Str × Str) => ∃ t, v = V.ref t ∧ H3 t = some (.tup [.str q.1, .str q.2])) (fun v q ⟨t, e, h⟩ => ⟨t, e, s3 _ _ h⟩) pr
        refine ⟨_, rfl, .ref t2, xs.length, rfl, .inr ⟨_, SqT.of t23, rfl⟩, xs.length, rfl, by omega, by omega, fun F hF => ?_⟩
        have hls4 : ∀ {H' : Hp}, Same H3 H' → H' D = some (.lst ls) := fun s => s _ _ hls3
        refine lc_range (lo := 0) (n := xs.length) (fun j H' => Same H3 H' ∧ ∃ got, H' F = some (.lst got) ∧ RwsA H' swapA got (rowsM x (ps.take j) 0)) ⟨same_new hF, [], upd_same, .nil⟩ (fun j H' hj q => ?_) (fun H4 q => ?_)
        · obtain ⟨sm, got, hg, rw2⟩ := q
          obtain ⟨u, hu⟩ : ∃ u, xs[j]? = some u := ⟨xs[j], List.getElem?_eq_getElem hj⟩
          obtain ⟨⟨z1, z2⟩, hz, t3, rfl, ht3⟩ := paired_at pr3 hu
          obtain ⟨sj, hsj⟩ : ∃ u, ls[j]? = some u := ⟨ls[j]'(by omega), List.getElem?_eq_getElem (by omega)⟩
          obtain ⟨p2, hz2, a, rfl, na, ha⟩ := paired_at sp3 hsj
          have e2 := hz.symm.trans hz2
          cases e2
          have h1 := wrong_all hw0 _ (List.mem_of_getElem? hz)
          have tk : ps.take (j + 1) = ps.take j ++ [(z1, z2)] := by rw [List.take_add_one, hz]; rfl
          dsimp only at ha ht3 h1
          have one := one_head h1
          have at0 : atI (nats (plc x z1)) 0 = some (.int ((plc x z1).headD 0 : Nat)) := by rw [one]; rfl
          have rl := paired_len rw2
          rw [rowsM_len, List.length_take] at rl
          refine ⟨rfl, ?_⟩
          dsimp only [tYes]
          rw [if_pos rfl]
          refine ⟨_, rfl, _, rfl, .inl ⟨D, ls, _, _, rfl, rfl, SqL.of (hls4 sm), at_k hsj, .inl ⟨a, _, 0, _, rfl, rfl, SqL.of (sm _ _ ha), at0, _, rfl, _, rfl, _, rfl, .inr (.inl ⟨t2, xs, _, _, rfl, rfl, SqT.of (sm _ _ t23), at_k hu, .inr (.inl ⟨t3, _, 0, _, rfl, rfl, SqT.of (sm _ _ ht3), rfl, _, rfl, _, rfl, .inr (.inl ⟨t2, xs, _, _, rfl, rfl, SqT.of (sm _ _ t23), at_k hu, .inr (.inl ⟨t3, _, 1, _, rfl, rfl, SqT.of (sm _ _ ht3), rfl, few_len (Nat.le_of_ble_eq_true rfl), fun t5 ht5 => ?_⟩)⟩)⟩)⟩)⟩⟩⟩
          have sn := same_new (o := .tup [.int ((plc x z1).headD 0 : Nat), .int (0 + (j : Int)), .str z1, .str z2]) ht5
          have hne : t5 ≠ F := (ne_of_none hg ht5).symm
          refine ⟨got, sn _ _ hg, few_lt (by omega), fun b o h => ?_, got ++ [.ref t5], upd_same, ?_⟩
          · rw [upd_ne (ne_of_none h hF)]
            exact sn _ _ (sm _ _ h)
          · have un : ∀ {u : Addr} {ws : List V}, H' u = some (.tup ws) → (upd (upd H' t5 (.tup [.int ((plc x z1).headD 0 : Nat), .int (0 + (j : Int)), .str z1, .str z2])) F (.lst (got ++ [.ref t5]))) u = some (.tup ws) := fun h => by
              rw [upd_ne (fun e => by rw [e, hg] at h; cases h)]
              exact sn _ _ h
            rw [tk, rowsM_snoc, List.length_take, Nat.min_eq_left (by omega), Nat.zero_add]
            refine paired_app2 (RwsA.keep un rw2) ⟨t5, rfl, ?_⟩
            rw [upd_ne hne, upd_same]
            unfold swapA
            rw [Int.zero_add]
        obtain ⟨s4, got, hg, rw2⟩ := q
        rw [List.take_of_length_le (by omega)] at rw2
        refine ⟨F, got, keyA H4, rfl, SqL.of hg, fun v hv => ?_, paired_key (fun v r h => key_swap h) rw2 keys_swap, fun ys p srt perm hp => ?_⟩
        · obtain ⟨r, hr, t, e, ht⟩ := paired_mem rw2 hv
          refine ⟨t, _, _, e, ?_, .inl ⟨r.o, rfl⟩, .inl ⟨r.n, rfl⟩⟩
          rw [key_swap ⟨t, e, ht⟩]
          exact ht
        obtain ⟨L, pm, rwL⟩ := paired_perm perm rw2
        have le1 := srtd_rows (fun v r h => key_swap h) (fun r => rfl) rwL srt
        have h1L : ∀ r ∈ L, 1 ≤ r.o.length := fun r hr => op_cons ok r (pm.mem_iff.mp hr)
        obtain ⟨ov, eqL⟩ := overl_same h1L (pm.trans (ordM_perm _).symm) le1 (ordM_le _)
        rw [← ov] at k2 k3
        have s5 := (s3.trans s4).trans (same_new (o := .lst ys) hp)
        have yl : ys.length ≤ 3 := by rw [perm.length_eq, paired_len rw2, rowsM_len]; exact l3
        have hlL := paired_len rwL
        have hp5 : (upd H4 p (.lst ys)) p = some (.lst ys) := upd_same
        have rw5 : RwsA (upd H4 p (.lst ys)) swapA ys L := RwsA.keep (fun h => (same_new hp) _ _ h) rwL
        generalize upd H4 p (.lst ys) = H5 at s5 hp5 rw5
        refine ⟨_, rfl, .ref p, ys.length, rfl, .inl ⟨_, SqL.of hp5, rfl⟩, 1, (ys.length : Nat), rfl, ⟨by decide, by decide, by omega, by omega⟩, ?_⟩
        refine for_range (lo := 1) (n := (((ys.length : Nat) : Int) - 1).toNat) (fun i σ H' => ∃ o9, σ = [some (.ref t), some (.str x), some (.str "together"), some (.ref t2), some (.ref D), none, some (.ref W), none, some (.ref p), o9, none, none, none, none] ∧ Same H5 H' ∧ overl L = overl (L.drop i)) ?_ ?_ ?_
        · exact ⟨_, rfl, Same.rfl, rfl⟩
        · rintro i σ H6 hi ⟨o9, rfl, s6, oe⟩
          have hi2 : i + 1 < ys.length := by omega
          obtain ⟨a, ha⟩ : ∃ v, ys[i]? = some v := ⟨ys[i], List.getElem?_eq_getElem (by omega)⟩
          obtain ⟨c, hc1⟩ : ∃ v, ys[i + 1]? = some v := ⟨ys[i + 1], List.getElem?_eq_getElem hi2⟩
          obtain ⟨ra, hra, ta, rfl, hta⟩ := paired_at rw5 ha
          obtain ⟨rc, hrc, tc, rfl, htc⟩ := paired_at rw5 hc1
          rw [drop_at hra, drop_at hrc, overl_cons, ← drop_at hrc] at oe
          have ac : atI ys (1 + (i : Int)) = some (.ref tc) := by
            rw [show (1 : Int) + (i : Int) = ((i + 1 : Nat) : Int) by omega]
            exact atI_nat hc1
          have aa : atI ys (1 + (i : Int) - 1) = some (.ref ta) := by
            rw [show (1 : Int) + (i : Int) - 1 = ((i : Nat) : Int) by omega]
            exact atI_nat ha
          have sq : SqL K H6 p ys := SqL.of (s6 _ _ hp5)
          have ol : ra.o.length ≤ 100 := (ok.olds _ (rowsM_mem (pm.mem_iff.mp (List.mem_of_getElem? hra))).2.1).2.1
          refine ⟨_, rfl, _, rfl, .inl ⟨p, ys, _, _, rfl, rfl, sq, ac, .inr (.inl ⟨tc, _, 0, _, rfl, rfl, SqT.of (s6 _ _ htc), rfl, _, rfl, _, rfl, _, _, rfl, rfl, .inl ⟨p, ys, _, _, rfl, rfl, sq, aa, .inr (.inl ⟨ta, _, 0, _, rfl, rfl, SqT.of (s6 _ _ hta), rfl, _, rfl, _, rfl, _, _, rfl, rfl, .inl ⟨p, ys, _, _, rfl, rfl, sq, aa, .inr (.inl ⟨ta, _, 2, _, rfl, rfl, SqT.of (s6 _ _ hta), rfl, _, _, rfl, ⟨by rw [sizeLine_eq]; omega, rfl⟩, _, _, rfl, rfl, _, _, rfl, rfl, _, rfl, ?_⟩)⟩⟩)⟩⟩)⟩⟩
          by_cases ho : rc.b < ra.e
          · have ho2 := ho
            unfold Rw.e at ho2
            rw [show decide (((rc.b : Nat) : Int) < (ra.b : Int) + (ra.o.length : Int)) = true from decide_eq_true (by omega)]
            rw [decide_eq_true ho, Bool.true_or] at oe
            exact iteT ⟨few_len (Nat.le_of_ble_eq_true rfl), fun t' ht' => k2 hw0 oe t' _ ((s5.trans s6).trans (same_new ht')) upd_same⟩
          · have ho2 := ho
            unfold Rw.e at ho2
            rw [show decide (((rc.b : Nat) : Int) < (ra.b : Int) + (ra.o.length : Int)) = false from decide_eq_false (by omega)]
            rw [decide_eq_false ho, Bool.false_or] at oe
            exact iteF ⟨_, rfl, s6, oe⟩
        · rintro σ H6 ⟨o9, rfl, s6, oe⟩
          have of : overl L = false := by
            rw [oe]
            match q : L.drop (((ys.length : Nat) : Int) - 1).toNat with
            | [] => rfl
            | [_] => rfl
            | _ :: _ :: _ =>
              have := congrArg List.length q
              rw [List.length_drop, List.length_cons, List.length_cons] at this
              omega
          have eL := eqL (ov.symm.trans of)
          refine ⟨_, rfl, k3 hw0 of p ys H6 (s5.trans s6) ((s3.trans s4).free hp) (s6 _ _ hp5) ?_⟩
          rw [← eL]
          exact RwsA.keep (fun h => s6 _ _ h) rw5

end
end Vk
set_option Elab.async false
set_option maxRecDepth 100000
set_option linter.all false
set_option maxHeartbeats 4000000
namespace Vk
open PySem PySem.Spec PyProof.Rows L2 LamX NdefX StX
section
variable {P : Program} {w : World} {K : PySem.W.Frag} {mg : Str → Option Value} {base : Heap}
variable {C_Once C_First C_Perhaps C_Every C_AtOnce C_Edit C_Program C_NoPlace C_Overlap : Addr}
def spSwapped : Sp := fun vs H Q _ => ∃ x l xs ps, vs = [.str x, .ref l] ∧ H l = some (.lst xs) ∧ RwsA H swapA xs ps ∧ x.length ≤ 800 ∧ (∀ p ∈ ps, p.o.length ≤ 100 ∧ p.n.length ≤ 100) ∧ ps.length ≤ 801 ∧ ∀ H', Same H H' → Q (.str (foldA x ps 0 "")) H'
abbrev s_lswapped : Stmt := top 61
theorem sc_lswapped : FnScope ["_law_text_here", "_law_swaps_here", "_law_found", "_law_behind", "_law_spot", "_law_slot", "_law_was", "_law_fresh"] ["_law_text_here", "_law_swaps_here"] (defScope s_lswapped) := ⟨rfl, rfl, rfl, by decide +kernel, rfl, by decide +kernel, by decide +kernel⟩
theorem b_lswapped {f : Addr} {fd : FuncData} (F : Fun K "_law_swapped" "_law_swapped" s_lswapped f fd) (T : Txt mg) : FnG P w K mg base CX0 1 f fd ["_law_text_here", "_law_swaps_here"] spSwapped := by
  refine okG0 F sc_lswapped (fun vs H Q E h => ?_) (fun cdv A outer s H vs Q E hg hr h => ?_)
  · obtain ⟨x, l, xs, ps, rfl, _⟩ := h
    rfl
  · have hu := hu_of hr
    have hu64 := hr.units
    obtain ⟨x, l, xs, ps, rfl, hl, rw0, hx, hz, hp, k⟩ := h
    have hxs := paired_len rw0
    have xl : x.length ≤ sizeLine := by rw [sizeLine_eq]; omega
    refine ⟨_, (pss_cons (ps_asg (pe_tup (pa_cons pe_str (pa_cons pe_int pa_nil))) (pg_tup rfl (pgs_cons (pg_name (i := 2) sc_lswapped.nd rfl (Or.inl rfl)) (pgs_cons (pg_name (i := 3) sc_lswapped.nd rfl (Or.inl rfl)) pgs_nil))))
      (pss_cons (ps_for PassesOwn.never rfl (pi_list (pv 1)) (pg_tup rfl (pgs_cons (pg_name (i := 4) sc_lswapped.nd rfl (Or.inl rfl)) (pgs_cons (pg_name (i := 5) sc_lswapped.nd rfl (Or.inl rfl)) (pgs_cons (pg_name (i := 6) sc_lswapped.nd rfl (Or.inl rfl)) (pgs_cons (pg_name (i := 7) sc_lswapped.nd rfl (Or.inl rfl)) pgs_nil))))) (pss_cons (ps_set (i := 2) sc_lswapped.nd rfl (Or.inl rfl) (pe_op op_add_str (pe_op op_add_str (pv 2) (pe_slice sl_str (pv 0) (po_some (pv 3)) (po_some (pv 4)))) (pv 7)))
      (pss_one (ps_set (i := 3) sc_lswapped.nd rfl (Or.inl rfl) (pe_op op_add (pv 4) (pe_callB call_len (by rfl) T.len (by decide +kernel) (pa_cons (pv 6) pa_nil)))))))
      (pss_one (ps_ret (pe_op op_add_str (pv 2) (pe_slice sl_str (pv 0) (po_some (pv 3)) po_none)))))), ?_⟩
    refine ⟨few_len (Nat.le_of_ble_eq_true rfl), fun q0 hq0 => ⟨q0, _, rfl, SqT.of upd_same, rfl, _, _, rfl, _, _, rfl, rfl, ?_⟩⟩
    have s0 := same_new (o := .tup [.str "", .int 0]) hq0
    refine ⟨_, rfl, l, rfl, ⟨_, SqL.of (s0 _ _ hl)⟩, ?_⟩
    refine for_list (xs := xs) (fun i σ H2 => ∃ (o4 o5 o6 o7 : Option V) (e : Nat) (acc : Str), σ = [some (.str x), some (.ref l), some (.str acc), some (.int (e : Nat)), o4, o5, o6, o7] ∧ Same H H2 ∧ acc.length ≤ i * 900 ∧ foldA x (ps.drop i) e acc = foldA x ps 0 "") ?_ ?_ ?_ ?_
    · exact ⟨_, _, _, _, 0, "", rfl, s0, Nat.zero_le _, rfl⟩
    · rintro i σ H2 _ ⟨o4, o5, o6, o7, e, acc, rfl, s2, _⟩
      exact SqL.of (s2 _ _ hl)
    · rintro i v σ H2 hv ⟨o4, o5, o6, o7, e, acc, rfl, s2, al, ge⟩
      obtain ⟨p, hpp, t, rfl, ht0⟩ := paired_at rw0 hv
      obtain ⟨hz1, hz2⟩ := hz p (List.mem_of_getElem? hpp)
      have il : i < xs.length := (List.getElem?_eq_some_iff.mp hv).1
      rw [drop_at hpp, foldA_cons] at ge
      have ht := s2 _ _ ht0
      have cl := cutS_len x (some (e : Int)) (some (p.b : Int))
      refine ⟨t, _, rfl, SqT.of ht, rfl, _, _, rfl, _, _, rfl, _, _, rfl, _, _, rfl, rfl, ?_⟩
      refine ⟨_, rfl, _, rfl, _, rfl, _, rfl, _, rfl, _, rfl, x, rfl, xl, _, _, rfl, rfl, by rw [sizeLine_eq]; omega, _, rfl, _, _, rfl, rfl, by rw [strLen_append, sizeLine_eq]; omega, ?_⟩
      refine ⟨_, rfl, _, rfl, _, _, rfl, ⟨by rw [sizeLine_eq]; omega, rfl⟩, _, _, rfl, rfl, ?_⟩
      exact ⟨_, _, _, _, p.e, _, rfl, s2, by rw [strLen_append, strLen_append]; omega, ge⟩
    · rintro σ H2 ⟨o4, o5, o6, o7, e, acc, rfl, s2, al, ge⟩
      rw [List.drop_of_length_le (by omega), foldA_nil] at ge
      have cl := cutS_len x (some (e : Int)) none
      refine ⟨_, rfl, _, rfl, _, rfl, _, rfl, x, rfl, xl, _, _, rfl, rfl, by rw [sizeLine_eq]; omega, ?_⟩
      rw [ge]
      exact k _ s2

end
end Vk
set_option Elab.async false
set_option maxRecDepth 100000
set_option linter.all false
set_option maxHeartbeats 4000000
namespace Vk
open PySem PySem.Spec PyProof.Rows L2 LamX NdefX StX
/-! ## where letters come from -/
inductive Lb
  | idx (i : Nat)
  | put (e p k : Nat)
def LbR (H : Hp) (v : V) : Lb → Prop
  | .idx i => v = .int (i : Nat)
  | .put e p k => ∃ t, v = .ref t ∧ H t = some (.tup [.int (e : Nat), .int (p : Nat), .int (k : Nat)])
def LbsR (H : Hp) : List V → List Lb → Prop := Paired (LbR H)
theorem LbR.keep {H H1 : Hp} {v : V} {l : Lb} (h : LbR H v l) (s : ∀ u ws, H u = some (.tup ws) → H1 u = some (.tup ws)) : LbR H1 v l := by
  cases l with
  | idx i => exact h
  | put e p k =>
    obtain ⟨t, e, ht⟩ := h
    exact ⟨t, e, s _ _ ht⟩
theorem LbsR.keep {H H1 : Hp} {xs : List V} {L : List Lb} (h : LbsR H xs L) (s : ∀ u ws, H u = some (.tup ws) → H1 u = some (.tup ws)) : LbsR H1 xs L := paired_impl (fun v l q => LbR.keep q s) h
theorem paired_dropN {α β : Type} {R : α → β → Prop} : ∀ (n : Nat) {xs : List α} {ys : List β}, Paired R xs ys → Paired R (xs.drop n) (ys.drop n)
  | 0, _, _, h => h
  | n + 1, _, _, .nil => .nil
  | n + 1, _, _, .cons _ t => paired_dropN n t
theorem paired_takeN {α β : Type} {R : α → β → Prop} : ∀ (n : Nat) {xs : List α} {ys : List β}, Paired R xs ys → Paired R (xs.take n) (ys.take n)
  | 0, _, _, _ => .nil
  | n + 1, _, _, .nil => .nil
  | n + 1, _, _, .cons a t => .cons a (paired_takeN n t)
def newL (i : Nat) (r : Rw) : List Lb := (List.range r.n.length).map fun k => Lb.put i r.k k
def foldL (L : List Lb) (i : Nat) : List Rw → Nat → List Lb → List Lb
  | [], k, acc => acc ++ L.drop k
  | r :: R, k, acc => foldL L i R r.e (acc ++ (L.drop k).take (r.b - k) ++ newL i r)
theorem foldL_cons {L : List Lb} {i : Nat} {r : Rw} {R : List Rw} {k : Nat} {acc : List Lb} : foldL L i (r :: R) k acc = foldL L i R r.e (acc ++ (L.drop k).take (r.b - k) ++ newL i r) := rfl
theorem foldL_nil {L : List Lb} {i k : Nat} {acc : List Lb} : foldL L i [] k acc = acc ++ L.drop k := rfl
/-- rows that stand one behind the other, from k on -/
def Ch (n : Nat) : Nat → List Rw → Prop
  | k, [] => k ≤ n
  | k, r :: L => k ≤ r.b ∧ r.e ≤ n ∧ Ch n r.e L
theorem Ch.le {n : Nat} : ∀ {L : List Rw} {k : Nat}, Ch n k L → k ≤ n
  | [], k, h => h
  | r :: L, k, h => by
    have h1 := h.1
    have h2 := h.2.1
    unfold Rw.e at h2
    omega
theorem cutV_nat {xs : List V} {k b : Nat} (h1 : k ≤ b) (h2 : b ≤ xs.length) : cutV xs (some (k : Int)) (some (b : Int)) = (xs.drop k).take (b - k) := by
  unfold cutV
  rw [HT.sIx_nat, HT.sIx_nat, Nat.min_eq_left (Nat.le_trans h1 h2), Nat.min_eq_left h2]
theorem cutV_tail {xs : List V} {k : Nat} (h : k ≤ xs.length) : cutV xs (some (k : Int)) none = xs.drop k := by
  unfold cutV
  rw [HT.sIx_nat, HT.sIx_none, Nat.min_eq_left h]
  exact List.take_of_length_le (by rw [List.length_drop]; exact Nat.le_refl _)
theorem cutS_nat {x : Str} {k b : Nat} (h1 : k ≤ b) (h2 : b ≤ x.length) : (cutS x (some (k : Int)) (some (b : Int))).length = b - k := by
  unfold cutS
  rw [HT.sIx_nat, HT.sIx_nat, Nat.min_eq_left (Nat.le_trans h1 h2), Nat.min_eq_left h2]
  show (((x.cps.toList.drop k).take (b - k)).toArray).size = b - k
  have hx : x.cps.toList.length = x.length := Array.length_toList
  simp only [List.size_toArray, List.length_take, List.length_drop, hx]
  omega
theorem cutS_tail {x : Str} {k : Nat} (h : k ≤ x.length) : (cutS x (some (k : Int)) none).length = x.length - k := by
  unfold cutS
  rw [HT.sIx_nat, HT.sIx_none, Nat.min_eq_left h]
  show (((x.cps.toList.drop k).take (x.length - k)).toArray).size = x.length - k
  have hx : x.cps.toList.length = x.length := Array.length_toList
  simp only [List.size_toArray, List.length_take, List.length_drop, hx]
  omega
theorem fold_same {x : Str} {L : List Lb} {i : Nat} (hL : L.length = x.length) : ∀ {R : List Rw} {k : Nat} {acc : List Lb} {s : Str}, Ch x.length k R → acc.length = s.length → (foldL L i R k acc).length = (foldA x R k s).length
  | [], k, acc, s, c, e => by
    rw [foldL_nil, foldA_nil, List.length_append, List.length_drop, strLen_append, cutS_tail c, hL, e]
  | r :: R, k, acc, s, c, e => by
    rw [foldL_cons, foldA_cons]
    have h1 := c.1
    have h2 := c.2.1
    unfold Rw.e at h2
    refine fold_same hL c.2.2 ?_
    rw [List.length_append, List.length_append, List.length_take, List.length_drop, strLen_append, strLen_append, cutS_nat h1 (by omega)]
    unfold newL
    rw [List.length_map, List.length_range]
    omega
theorem ch_apart {n len : Nat} {z1 z2 : Str} (hz : z1.length = len) : ∀ {ps : List Nat} {e : Nat}, e ≤ n → (∀ p ∈ ps, p + len ≤ n) → Ch n e ((apartM len ps e).map (mkR z1 z2))
  | [], e, he, _ => he
  | p :: r, e, he, h => by
    rw [apartM_cons]
    have hp := h p List.mem_cons_self
    by_cases c : e ≤ p
    · rw [if_pos c]
      have e1 : (mkR z1 z2 p).e = p + len := by
        show p + z1.length = p + len
        rw [hz]
      refine ⟨c, by rw [e1]; exact hp, ?_⟩
      rw [e1]
      exact ch_apart hz hp fun q hq => h q (List.mem_cons_of_mem _ hq)
    · rw [if_neg c]
      exact ch_apart hz he fun q hq => h q (List.mem_cons_of_mem _ hq)
theorem ch_over {n : Nat} : ∀ {L : List Rw} {k : Nat}, overl L = false → (∀ r ∈ L, r.e ≤ n) → k ≤ n → (∀ r, L.head? = some r → k ≤ r.b) → Ch n k L
  | [], k, _, _, hk, _ => hk
  | [r], k, _, h, hk, h0 => ⟨h0 r rfl, h r List.mem_cons_self, h r List.mem_cons_self⟩
  | a :: c :: t, k, o, h, hk, h0 => by
    rw [overl_cons, Bool.or_eq_false_iff] at o
    refine ⟨h0 a rfl, h a List.mem_cons_self, ch_over o.2 (fun r hr => h r (List.mem_cons_of_mem _ hr)) (h a List.mem_cons_self) fun r hr => ?_⟩
    cases hr
    have := of_decide_eq_false o.1
    omega
theorem ch_rows {x y : Str} {e : EdM} (h : outE x e = .txt y) : Ch x.length 0 (rowsE x e) := by
  cases e with
  | one n z1 z2 =>
    refine ch_apart rfl (Nat.zero_le _) fun p hp => ?_
    have hp2 : p ∈ plc x z1 := by
      split at hp
      · exact List.mem_of_mem_take hp
      · exact hp
    exact plc_len_le hp2
  | many ps =>
    have h2 : outM x ps = .txt y := h
    cases hw : wrongM x ps with
    | some m =>
      rw [outM_no hw] at h2
      cases h2
    | none =>
      cases ho : overl (ordM (rowsM x ps 0)) with
      | true =>
        rw [outM_over hw ho] at h2
        cases h2
      | false =>
        refine ch_over ho (fun r hr => ?_) (Nat.zero_le _) fun r _ => Nat.zero_le _
        exact plc_len_le (row_at hw ((ordM_perm _).mem_iff.mp hr))
/-- what becomes of the labels -/
inductive OutL
  | labs (L : List Lb)
  | no (i m : Nat)
  | over (i : Nat)
def labsA : List EdM → Nat → Str → List Lb → OutL
  | [], _, _, L => .labs L
  | e :: r, i, x, L => match outE x e with
    | .txt y => labsA r (i + 1) y (foldL L i (rowsE x e) 0 [])
    | .no m => .no i m
    | .over => .over i
theorem labsA_cons {e : EdM} {r : List EdM} {i : Nat} {x : Str} {L : List Lb} : labsA (e :: r) i x L = (match outE x e with
    | .txt y => labsA r (i + 1) y (foldL L i (rowsE x e) 0 [])
    | .no m => .no i m
    | .over => .over i) := rfl
theorem labsA_txt {e : EdM} {r : List EdM} {i : Nat} {x y : Str} {L : List Lb} (h : outE x e = .txt y) : labsA (e :: r) i x L = labsA r (i + 1) y (foldL L i (rowsE x e) 0 []) := by
  rw [labsA_cons, h]
theorem labsA_no {e : EdM} {r : List EdM} {i m : Nat} {x : Str} {L : List Lb} (h : outE x e = .no m) : labsA (e :: r) i x L = .no i m := by
  rw [labsA_cons, h]
theorem labsA_over {e : EdM} {r : List EdM} {i : Nat} {x : Str} {L : List Lb} (h : outE x e = .over) : labsA (e :: r) i x L = .over i := by
  rw [labsA_cons, h]
def BndA : List EdM → Str → Prop
  | [], _ => True
  | e :: r, x => OkE x e ∧ ∀ y, outE x e = .txt y → BndA r y
end Vk
set_option Elab.async false
set_option maxRecDepth 100000
set_option linter.all false
set_option maxHeartbeats 4000000
namespace Vk
open PySem PySem.Spec PyProof.Rows L2 LamX NdefX StX
section
variable {P : Program} {w : World} {K : PySem.W.Frag} {mg : Str → Option Value} {base : Heap}
variable {C_Once C_First C_Perhaps C_Every C_AtOnce C_Edit C_Program C_NoPlace C_Overlap C_InvalidText : Addr}
def spOB : Sp := fun vs H Q _ => ∃ le lp i es L ps rows, vs = [.ref le, .ref lp, .int (i : Nat)] ∧ H le = some (.lst es) ∧ LbsR H es L ∧ H lp = some (.lst ps) ∧ RwsA H putA ps rows ∧ Ch L.length 0 rows ∧ L.length ≤ 800 ∧ rows.length ≤ 801 ∧ (∀ r ∈ rows, r.n.length ≤ 100) ∧
  ∀ lb xs H', Same H H' → H' lb = some (.lst xs) → LbsR H' xs (foldL L i rows 0 []) → Q (.ref lb) H'
theorem ch_drop {n : Nat} : ∀ {L : List Rw} {k : Nat} {r : Rw} {t : List Rw}, L = r :: t → Ch n k L → k ≤ r.b ∧ r.b ≤ n ∧ Ch n r.e t
  | _, k, r, t, rfl, h => ⟨h.1, by have := h.2.1; unfold Rw.e at this; omega, h.2.2⟩
abbrev s_origins_behind : Stmt := top 39
theorem sc_origins_behind : FnScope ["entries", "puts", "index", "behind", "kept", "begin", "end", "new", "part", "place"] ["entries", "puts", "index"] (defScope s_origins_behind) := ⟨rfl, rfl, rfl, by decide +kernel, rfl, by decide +kernel, by decide +kernel⟩
theorem b_origins_behind {f : Addr} {fd : FuncData} (F : Fun K "origins_behind" "origins_behind" s_origins_behind f fd) (T : Txt mg) : FnG P w K mg base CX0 1 f fd ["entries", "puts", "index"] spOB := by
  refine okG0 F sc_origins_behind (fun vs H Q E h => ?_) (fun cdv A outer s H vs Q E hg hr h => ?_)
  · obtain ⟨le, lp, i0, es, L, ps, rows, rfl, _⟩ := h
    rfl
  · have hu := hu_of hr
    have hu64 := hr.units
    obtain ⟨le, lp, i0, es, L, ps, rows, rfl, hle, hL, hlp, hrw, ch, l8, rl8, rn, k⟩ := h
    have esl := paired_len hL
    have psl := paired_len hrw
    refine ⟨_, (pss_cons (ps_set (i := 3) sc_origins_behind.nd rfl (Or.inl rfl) (pe_lst pa_nil))
      (pss_cons (ps_set (i := 4) sc_origins_behind.nd rfl (Or.inl rfl) pe_int)
      (pss_cons (ps_for PassesOwn.never rfl (pi_list (pv 1)) (pg_tup rfl (pgs_cons (pg_name (i := 5) sc_origins_behind.nd rfl (Or.inl rfl)) (pgs_cons (pg_name (i := 6) sc_origins_behind.nd rfl (Or.inl rfl)) (pgs_cons (pg_name (i := 7) sc_origins_behind.nd rfl (Or.inl rfl)) (pgs_cons (pg_name (i := 8) sc_origins_behind.nd rfl (Or.inr rfl)) pgs_nil))))) (pss_cons (ps_expr (pe_bm PySem.F.plainAttrs_list PySem.F.slot_list_extend PySem.F.type_list_extend mt_extend (pv 3) (pa_cons (pe_slice sl_list (pv 0) (po_some (pv 4)) (po_some (pv 5))) pa_nil)))
      (pss_cons (ps_expr (pe_bm PySem.F.plainAttrs_list PySem.F.slot_list_extend PySem.F.type_list_extend mt_extend (pv 3) (pa_cons (pe_lc (own := [("place", 9)]) (g := gName 9) (tt := tYes) rfl sc_origins_behind.nd (pi_range1 rfl T.range (pa_cons (pe_callB call_len (by rfl) T.len (by decide +kernel) (pa_cons (pv 7) pa_nil)) pa_nil)) (blkOk_by (own := [("place", 9)]) (N := ["entries", "puts", "index", "behind", "kept", "begin", "end", "new", "part", "place"]) (sc := defScope s_origins_behind) (by decide +kernel)) (fun _ _ _ _ _ => (pg_name (i := 9) sc_origins_behind.nd rfl (Or.inl rfl))) (fun _ _ _ _ _ => pts_nil) (fun _ _ _ _ _ => (pe_tup (pa_cons (pv 2) (pa_cons (pv 8) (pa_cons (pv 9) pa_nil)))))) pa_nil)))
      (pss_one (ps_set (i := 4) sc_origins_behind.nd rfl (Or.inl rfl) (pv 6))))))
      (pss_cons (ps_expr (pe_bm PySem.F.plainAttrs_list PySem.F.slot_list_extend PySem.F.type_list_extend mt_extend (pv 3) (pa_cons (pe_slice sl_list (pv 0) (po_some (pv 4)) po_none) pa_nil)))
      (pss_one (ps_ret (pv 3))))))), ?_⟩
    refine ⟨few_len (Nat.zero_le _), fun lo hlo => ?_⟩
    have s0 := same_new (o := .lst []) hlo
    refine ⟨_, rfl, lp, rfl, ⟨_, SqL.of (s0 _ _ hlp)⟩, ?_⟩
    refine for_list (xs := ps) (fun j σ H2 => ∃ (o5 o6 o7 o8 o9 : Option V) (e : Nat) (xs : List V) (acc : List Lb), σ = [some (.ref le), some (.ref lp), some (.int (i0 : Nat)), some (.ref lo), some (.int (e : Nat)), o5, o6, o7, o8, o9] ∧ Same H H2 ∧ H2 lo = some (.lst xs) ∧ LbsR H2 xs acc ∧ acc.length ≤ j * 900 ∧ Ch L.length e (rows.drop j) ∧ foldL L i0 (rows.drop j) e acc = foldL L i0 rows 0 []) ?_ ?_ ?_ ?_
    · exact ⟨_, _, _, _, _, 0, [], [], rfl, s0, upd_same, .nil, Nat.zero_le _, ch, rfl⟩
    · rintro j σ H2 _ ⟨o5, o6, o7, o8, o9, e, xs, acc, rfl, s2, _⟩
      exact SqL.of (s2 _ _ hlp)
    · rintro j v σ H2 hv ⟨o5, o6, o7, o8, o9, e, xs, acc, rfl, s2, hg, hacc, al, ce, ge⟩
      obtain ⟨r, hr, t, rfl, ht0⟩ := paired_at hrw hv
      have il : j < ps.length := (List.getElem?_eq_some_iff.mp hv).1
      rw [drop_at hr] at ce
      obtain ⟨c1, c2, c3⟩ := ch_drop rfl ce
      rw [drop_at hr, foldL_cons] at ge
      have hrn := rn r (List.mem_of_getElem? hr)
      have ht := s2 _ _ ht0
      have hes := s2 _ _ hle
      have xal := paired_len hacc
      refine ⟨t, _, rfl, SqT.of ht, rfl, _, _, rfl, _, _, rfl, _, _, rfl, _, _, rfl, rfl, ?_⟩
      have rbl : r.b ≤ es.length := by omega
      refine ⟨_, rfl, .inl ⟨rfl, _, SqL.of hg⟩, _, rfl, _, rfl, _, rfl, _, rfl, _, rfl, le, es, rfl, SqL.of hes, fun D hD => ?_⟩
      rw [cutV_nat c1 rbl]
      have sD := same_new (o := .lst ((es.drop e).take (r.b - e))) hD
      have pl : ((es.drop e).take (r.b - e)).length ≤ 800 := by
        rw [List.length_take, List.length_drop]
        omega
      refine ⟨lo, D, xs, _, rfl, rfl, sD _ _ hg, upd_same, by rw [sizeLine_eq]; omega, ?_⟩
      have s4 : Same H (upd (upd H2 D (.lst ((es.drop e).take (r.b - e)))) lo (.lst (xs ++ (es.drop e).take (r.b - e)))) := fun b o h => by
        rw [upd_ne (ne_of_none h hlo)]
        exact sD _ _ (s2 _ _ h)
      have u4 : ∀ u ws, H2 u = some (.tup ws) → (upd (upd H2 D (.lst ((es.drop e).take (r.b - e)))) lo (.lst (xs ++ (es.drop e).take (r.b - e)))) u = some (.tup ws) := fun u ws h => by
        rw [upd_ne (fun z => by rw [z, hg] at h; cases h)]
        exact sD _ _ h
      have g4 : (upd (upd H2 D (.lst ((es.drop e).take (r.b - e)))) lo (.lst (xs ++ (es.drop e).take (r.b - e)))) lo = some (.lst (xs ++ (es.drop e).take (r.b - e))) := upd_same
      have a4 : LbsR (upd (upd H2 D (.lst ((es.drop e).take (r.b - e)))) lo (.lst (xs ++ (es.drop e).take (r.b - e)))) (xs ++ (es.drop e).take (r.b - e)) (acc ++ (L.drop e).take (r.b - e)) := paired_app (hacc.keep u4) (paired_takeN _ (paired_dropN _ (LbsR.keep hL fun u ws h => s4 _ _ h)))
      have x4 : (xs ++ (es.drop e).take (r.b - e)).length ≤ j * 900 + 800 := by
        rw [List.length_append]
        omega
      clear hg hacc hes ht ht0 sD
      generalize upd (upd H2 D (.lst ((es.drop e).take (r.b - e)))) lo (.lst (xs ++ (es.drop e).take (r.b - e))) = H4 at s4 u4 g4 a4
      generalize xs ++ (es.drop e).take (r.b - e) = xs4 at g4 a4 x4
      refine ⟨_, rfl, .inl ⟨rfl, _, SqL.of g4⟩, _, rfl, _, _, rfl, ⟨by rw [sizeLine_eq]; omega, rfl⟩, _, rfl, by omega, by omega, fun F hF => ?_⟩
      refine lc_range (lo := 0) (n := r.n.length) (fun m H' => Same H4 H' ∧ ∃ ys, H' F = some (.lst ys) ∧ LbsR H' ys ((newL i0 r).take m)) ⟨same_new hF, [], upd_same, .nil⟩ (fun m H' hm q => ?_) (fun H' q => ?_)
      · obtain ⟨sm, ys, hys, ly⟩ := q
        have yl := paired_len ly
        rw [List.length_take] at yl
        refine ⟨rfl, ?_⟩
        dsimp only [tYes]
        rw [if_pos rfl]
        refine ⟨_, rfl, _, rfl, _, rfl, few_len (Nat.le_of_ble_eq_true rfl), fun t5 ht5 => ?_⟩
        have sn := same_new (o := .tup [.int (i0 : Nat), .int (r.k : Nat), .int (0 + (m : Int))]) ht5
        have ne5 : t5 ≠ F := (ne_of_none hys ht5).symm
        refine ⟨ys, sn _ _ hys, few_lt (by omega), fun b o h => ?_, ys ++ [.ref t5], upd_same, ?_⟩
        · rw [upd_ne (ne_of_none h hF)]
          exact sn _ _ (sm _ _ h)
        · have e1 : (newL i0 r)[m]? = some (Lb.put i0 r.k m) := by
            unfold newL
            rw [List.getElem?_map, List.getElem?_range hm]
            rfl
          rw [List.take_add_one, e1]
          refine paired_app2 (LbsR.keep ly fun u ws h => ?_) ⟨t5, rfl, ?_⟩
          · rw [upd_ne (fun z => by rw [z, hys] at h; cases h)]
            exact sn _ _ h
          · rw [upd_ne ne5, upd_same, Int.zero_add]
      · obtain ⟨sm, ys, hys, ly⟩ := q
        have nl : (newL i0 r).length = r.n.length := by
          unfold newL
          rw [List.length_map, List.length_range]
        rw [List.take_of_length_le (by omega)] at ly
        have yl := paired_len ly
        refine ⟨lo, F, xs4, ys, rfl, rfl, sm _ _ g4, hys, by rw [sizeLine_eq]; omega, ?_⟩
        have u5 : ∀ u ws, H' u = some (.tup ws) → (upd H' lo (.lst (xs4 ++ ys))) u = some (.tup ws) := fun u ws h => by
          rw [upd_ne (fun z => by rw [z, sm _ _ g4] at h; cases h)]
          exact h
        have a5 := paired_len a4
        refine ⟨_, rfl, _, _, _, _, _, r.e, xs4 ++ ys, acc ++ (L.drop e).take (r.b - e) ++ newL i0 r, rfl, fun b o h => ?_, upd_same, paired_app (LbsR.keep (LbsR.keep a4 fun u ws h => sm _ _ h) u5) (LbsR.keep ly u5), ?_, c3, ge⟩
        · rw [upd_ne (ne_of_none h hlo)]
          exact sm _ _ (s4 _ _ h)
        · rw [List.length_append]
          omega
    · rintro σ H2 ⟨o5, o6, o7, o8, o9, e, xs, acc, rfl, s2, hg, hacc, al, ce, ge⟩
      rw [List.drop_of_length_le (by omega)] at ge ce
      have ce2 : e ≤ L.length := ce
      rw [foldL_nil] at ge
      have hes := s2 _ _ hle
      have xal := paired_len hacc
      refine ⟨_, rfl, .inl ⟨rfl, _, SqL.of hg⟩, _, rfl, _, rfl, _, rfl, le, es, rfl, SqL.of hes, fun D hD => ?_⟩
      rw [cutV_tail (by omega)]
      have sD := same_new (o := .lst (es.drop e)) hD
      refine ⟨lo, D, xs, _, rfl, rfl, sD _ _ hg, upd_same, by rw [List.length_drop, sizeLine_eq]; omega, ?_⟩
      have u4 : ∀ u ws, H2 u = some (.tup ws) → (upd (upd H2 D (.lst (es.drop e))) lo (.lst (xs ++ es.drop e))) u = some (.tup ws) := fun u ws h => by
        rw [upd_ne (fun z => by rw [z, hg] at h; cases h)]
        exact sD _ _ h
      refine ⟨_, rfl, k lo _ _ (fun b o h => ?_) upd_same ?_⟩
      · rw [upd_ne (ne_of_none h hlo)]
        exact sD _ _ (s2 _ _ h)
      · rw [← ge]
        exact paired_app (hacc.keep u4) (paired_dropN _ (LbsR.keep hL fun u ws h => u4 _ _ (s2 _ _ h)))

def start0 (x : Str) : List Lb := (List.range x.length).map Lb.idx
def LabsT (CN CO : Addr) (es : List EdM) (x : Str) (H : Hp) (Q : VK) (E : XK) : Prop := BndA es x ∧
  (∀ i m, labsA es 0 x (start0 x) = .no i m → ∀ H1 d, Same H H1 → H1 d = none → E (.ref CN) (some d) (upd H1 d (.xd [(("number" : Str), .int (m : Nat)), (("index" : Str), .int (i : Nat))]))) ∧
  (∀ i, labsA es 0 x (start0 x) = .over i → ∀ H1 d, Same H H1 → H1 d = none → E (.ref CO) (some d) (upd H1 d (.xd [(("index" : Str), .int (i : Nat))]))) ∧
  (∀ L, labsA es 0 x (start0 x) = .labs L → ∀ t xs H', Same H H' → H' t = some (.tup xs) → LbsR H' xs L → Q (.ref t) H')
def spOrg (Cs : Nat → Addr) (Ca CP CN CO CT : Addr) : Sp := fun vs H Q E => ∃ pr es v d, vs = [.ref pr, v] ∧ IsPr Cs Ca CP H pr es ∧ Th H v d ∧ Srt d ∧
  (isT d = false → ∀ H1 dd, Same H H1 → H1 dd = none → E (.ref CT) (some dd) (upd H1 dd (.xd [(("value" : Str), v)]))) ∧ (∀ x, d = .str x → isT d = true → LabsT CN CO es x H Q E)
theorem start_rel {H : Hp} {x : Str} : LbsR H (rgV 0 (x.length : Nat)) (start0 x) := by
  unfold rgV start0 LbsR
  rw [show ((x.length : Nat) - 0 : Int).toNat = x.length by omega]
  generalize List.range x.length = ks
  induction ks with
  | nil => exact .nil
  | cons a t ih => exact .cons (by show V.int _ = V.int _; rw [Int.zero_add]) ih
abbrev s_origins : Stmt := top 40
theorem sc_origins : FnScope ["program", "text", "entries", "index", "edit", "puts"] ["program", "text"] (defScope s_origins) := ⟨rfl, rfl, rfl, by decide +kernel, rfl, by decide +kernel, by decide +kernel⟩
theorem b_origins {f : Addr} {fd : FuncData} (F : Fun K "origins" "origins" s_origins f fd) (T : Txt mg) (c_is_text : CalG P w K mg base CX0 1 "is_text" (spTest isT)) (c_origins_behind : CalG P w K mg base CX0 1 "origins_behind" spOB) (c_text_behind : CalG P w K mg base CX0 1 "text_behind" spBehind) (c_puts_of : CalG P w K mg base (L2.CX P w) 5 "puts_of" (spPutsE (cls4 C_Once C_First C_Perhaps C_Every) C_AtOnce C_NoPlace C_Overlap)) (c_InvalidText : ClsI P w K mg base 1 "InvalidText" C_InvalidText ["value"]) (pr_edits : ∀ n, n < 1 → PrI P w K mg base 1 ((fun _ => C_Program) n) "edits" "_edits") : FnG P w K mg base (L2.CX P w) 6 f fd ["program", "text"] (spOrg (cls4 C_Once C_First C_Perhaps C_Every) C_AtOnce C_Program C_NoPlace C_Overlap C_InvalidText) := by
  refine okG F sc_origins (fun vs H Q E h => ?_) (fun cdv A outer s H vs Q E hg hr h => ?_)
  · obtain ⟨pr, es, v, d, rfl, _⟩ := h
    rfl
  · have hu := hu_of hr
    have hu64 := hr.units
    obtain ⟨pr, es, v, d, rfl, ⟨dx, q, xs, hpr, hq, eds⟩, th, r1, kT, kk⟩ := h
    have hlen := paired_len eds
    refine ⟨_, (pss_cons (ps_if (pt_not (pt_val (pe_cG c_is_text hg hr (by decide) pass0 (pa_cons (pv 1) pa_nil)))) (pss_one (ps_raise rfl (takes_of rfl rfl rfl rfl) (pmk_k c_InvalidText hg hr (by decide) pass0 (pa_cons (pv 1) pa_nil)))) pss_nil)
      (pss_cons (ps_set (i := 2) sc_origins.nd rfl (Or.inl rfl) (pe_listRg rfl (by rfl) T.list (prg_1 (by rfl) T.range (pe_callB call_len (by rfl) T.len (by decide +kernel) (pa_cons (pv 1) pa_nil)))))
      (pss_cons (ps_for (passes_of rfl) rfl (pi_enumT (by rfl) T.enumerate (pa_cons (pe_propN (pv 0) pr_edits hr (by decide)) pa_nil)) (pg_tup rfl (pgs_cons (pg_name (i := 3) sc_origins.nd rfl (Or.inl rfl)) (pgs_cons (pg_name (i := 4) sc_origins.nd rfl (Or.inl rfl)) pgs_nil))) (pss_cons (ps_set (i := 5) sc_origins.nd rfl (Or.inl rfl) (pe_cG c_puts_of hg hr (by decide) (passes_call (takes_of rfl rfl rfl rfl) (fun _ _ _ _ h => h)) (pa_cons (pv 4) (pa_cons (pv 3) (pa_cons (pv 1) pa_nil)))))
      (pss_cons (ps_set (i := 2) sc_origins.nd rfl (Or.inl rfl) (pe_cG c_origins_behind hg hr (by decide) pass0 (pa_cons (pv 2) (pa_cons (pv 5) (pa_cons (pv 3) pa_nil)))))
      (pss_one (ps_set (i := 1) sc_origins.nd rfl (Or.inl rfl) (pe_cG c_text_behind hg hr (by decide) pass0 (pa_cons (pv 1) (pa_cons (pv 5) pa_nil))))))))
      (pss_one (ps_ret (pe_callTy call_tuple_of (by rfl) T.tuple (by decide +kernel) (pa_cons (pv 2) pa_nil))))))), ?_⟩
    refine ⟨_, rfl, v, d, rfl, th, r1, _, rfl, ?_⟩
    cases hT : isT d with
    | false => exact iteT ⟨_, rfl, rfl, fun dd hd => kT hT H dd Same.rfl hd⟩
    | true =>
    obtain ⟨x, rfl⟩ := isT_str hT
    cases th_str th
    obtain ⟨bnd, k1, k2, k3⟩ := kk x rfl hT
    have x10 : x.length ≤ 1000 := r1.1
    refine iteF ?_
    refine ⟨_, rfl, _, _, rfl, ⟨by rw [sizeLine_eq]; omega, rfl⟩, _, rfl, .of_le (by omega) (by omega) (by omega) (by omega), fun l0 hl0 => ?_⟩
    have s0 := same_new (o := .lst (rgV 0 (x.length : Nat))) hl0
    refine ⟨_, rfl, 0, pr, dx, _, .ref q, by decide, rfl, s0 _ _ hpr, fl_edits, q, xs, rfl, s0 _ _ hq, fun i m σ H2 => m + i = xs.length ∧ ∃ y le ys L o3 o4 o5, σ = [some (.ref pr), some (.str y), some (.ref le), o3, o4, o5] ∧ Same H H2 ∧ H2 le = some (.lst ys) ∧ LbsR H2 ys L ∧ L.length = y.length ∧ BndA (es.drop i) y ∧ labsA es 0 x (start0 x) = labsA (es.drop i) i y L, ⟨xs.length, rfl, x, l0, _, start0 x, _, _, _, rfl, s0, upd_same, start_rel, by unfold start0; rw [List.length_map, List.length_range], bnd, rfl⟩, ?_⟩
    rintro i m σ H2 ⟨hm, y, le, ys, L, o3, o4, o5, rfl, s2, hle, hL, lL, bd, er⟩
    by_cases hi : i < xs.length
    · obtain ⟨v, hv⟩ : ∃ v, xs[i]? = some v := ⟨xs[i], List.getElem?_eq_getElem hi⟩
      obtain ⟨e, he, a, rfl, hat⟩ := paired_at eds hv
      rw [drop_at he] at bd er
      obtain ⟨ok, b4⟩ := bd
      refine .inr ⟨⟨_, _, s2 _ _ hq, hv⟩, fun σ2 H3 => m - 1 + (i + 1) = xs.length ∧ ∃ y le ys L o3 o4 o5, σ2 = [some (.ref pr), some (.str y), some (.ref le), o3, o4, o5] ∧ Same H H3 ∧ H3 le = some (.lst ys) ∧ LbsR H3 ys L ∧ L.length = y.length ∧ BndA (es.drop (i + 1)) y ∧ labsA es 0 x (start0 x) = labsA (es.drop (i + 1)) (i + 1) y L, fun σ2 H3 p => ⟨m - 1, by omega, p⟩, ?_⟩
      rintro w H3 ⟨T, y2, xs2, rfl, hT2, rfl, hxs, hy⟩
      have e9 := (s2 _ _ hq).symm.trans hxs
      cases e9
      cases hv.symm.trans hy
      have sT := same_new (o := .tup [.int (i : Nat), .ref a]) hT2
      have s3 := s2.trans sT
      refine ⟨T, _, rfl, SqT.of upd_same, rfl, ?_⟩
      refine ⟨_, _, rfl, _, _, rfl, rfl, _, rfl, _, rfl, _, rfl, a, e, i, y, rfl, hat.keep s3, ok, fun m hw H4 d s4 hd => ?_, fun hw H4 d s4 hd => ?_, fun z hw l rows H4 s4 hl0 hl hr2 => ?_⟩
      · exact k1 i m (er.trans (labsA_no hw)) H4 d (s3.trans s4) hd
      · exact k2 i (er.trans (labsA_over hw)) H4 d (s3.trans s4) hd
      · have s24 := sT.trans s4
        have y8 := ok.x8
        refine ⟨_, rfl, _, rfl, _, rfl, le, l, i, ys, L, rows, _, rfl, s24 _ _ hle, LbsR.keep hL fun u ws h => s24 _ _ h, hl, hr2, by rw [lL]; exact ch_rows hw, by omega, rowsE_len ok, fun p hp => (rowsE_n ok p hp).2, fun lb xs5 H5 s5 hlb hx5 => ?_⟩
        refine ⟨_, rfl, _, rfl, y, l, rows, _, rfl, s5 _ _ hl, RwsA.keep (fun h => s5 _ _ h) hr2, y8, fun p hp => (rowsE_n ok p hp).2, rowsE_len ok, fun H6 s6 => ?_⟩
        have ez := outE_txt hw
        have fs := fold_same (i := i) lL (ch_rows hw) (acc := []) (s := "") (by decide +kernel)
        subst ez
        exact ⟨by omega, _, lb, xs5, _, _, _, _, rfl, ((s3.trans s4).trans s5).trans s6, s6 _ _ hlb, LbsR.keep hx5 fun u ws h => s6 _ _ h, fs, b4 _ hw, er.trans (labsA_txt hw)⟩
    · have e : i = xs.length := by omega
      refine .inl ⟨⟨_, s2 _ _ hq, e.symm⟩, ?_⟩
      rw [List.drop_of_length_le (by omega)] at er
      exact ⟨_, rfl, le, ys, rfl, .inl ⟨SqL.of hle, fun t ht => k3 L er t ys _ (s2.trans (same_new ht)) upd_same (LbsR.keep hL fun u ws h => (same_new ht) _ _ h)⟩⟩

end
end Vk
set_option Elab.async false
set_option maxRecDepth 100000
set_option linter.all false
set_option maxHeartbeats 4000000
namespace Vk
open PySem PySem.Spec PyProof.Rows L2 LamX NdefX StX
section
variable {P : Program} {w : World} {K : PySem.W.Frag} {mg : Str → Option Value} {base : Heap}
variable {C_Once C_First C_Perhaps C_Every C_AtOnce C_Edit C_Program C_NoPlace C_Overlap C_InvalidText : Addr}
/-- what becomes of a text by several edits -/
inductive OutR
  | txt (y : Str)
  | no (i m : Nat)
  | over (i : Nat)
def runA : List EdM → Nat → Str → OutR
  | [], _, x => .txt x
  | e :: r, i, x => match outE x e with
    | .txt y => runA r (i + 1) y
    | .no m => .no i m
    | .over => .over i
theorem runA_cons {e : EdM} {r : List EdM} {i : Nat} {x : Str} : runA (e :: r) i x = (match outE x e with
    | .txt y => runA r (i + 1) y
    | .no m => .no i m
    | .over => .over i) := rfl
theorem runA_txt {e : EdM} {r : List EdM} {i : Nat} {x y : Str} (h : outE x e = .txt y) : runA (e :: r) i x = runA r (i + 1) y := by
  rw [runA_cons, h]
theorem runA_no {e : EdM} {r : List EdM} {i m : Nat} {x : Str} (h : outE x e = .no m) : runA (e :: r) i x = .no i m := by
  rw [runA_cons, h]
theorem runA_over {e : EdM} {r : List EdM} {i : Nat} {x : Str} (h : outE x e = .over) : runA (e :: r) i x = .over i := by
  rw [runA_cons, h]
/-- run's outcomes for a text -/
def RunsT (CN CO : Addr) (es : List EdM) (x : Str) (H : Hp) (Q : VK) (E : XK) : Prop := BndA es x ∧
  (∀ i m, runA es 0 x = .no i m → ∀ H1 d, Same H H1 → H1 d = none → E (.ref CN) (some d) (upd H1 d (.xd [(("number" : Str), .int (m : Nat)), (("index" : Str), .int (i : Nat))]))) ∧
  (∀ i, runA es 0 x = .over i → ∀ H1 d, Same H H1 → H1 d = none → E (.ref CO) (some d) (upd H1 d (.xd [(("index" : Str), .int (i : Nat))]))) ∧ (∀ y, runA es 0 x = .txt y → ∀ H', Same H H' → Q (.str y) H')
def spRun (Cs : Nat → Addr) (Ca CP CN CO CT : Addr) : Sp := fun vs H Q E => ∃ pr es v d, vs = [.ref pr, v] ∧ IsPr Cs Ca CP H pr es ∧ Th H v d ∧ Srt d ∧
  (isT d = false → ∀ H1 dd, Same H H1 → H1 dd = none → E (.ref CT) (some dd) (upd H1 dd (.xd [(("value" : Str), v)]))) ∧ (∀ x, d = .str x → isT d = true → RunsT CN CO es x H Q E)
abbrev m_run : Stmt := mtd (top 43) 7
theorem sc_run : FnScope ["self", "text", "index", "edit"] ["self", "text"] (defScope m_run) := ⟨rfl, rfl, rfl, by decide +kernel, rfl, by decide +kernel, by decide +kernel⟩
theorem b_run {f : Addr} {fd : FuncData} (F : Fun K "run" "Program.run" m_run f fd) (T : Txt mg) (c_is_text : CalG P w K mg base CX0 1 "is_text" (spTest isT)) (c_puts_of : CalG P w K mg base (L2.CX P w) 5 "puts_of" (spPutsE (cls4 C_Once C_First C_Perhaps C_Every) C_AtOnce C_NoPlace C_Overlap)) (c_text_behind : CalG P w K mg base CX0 1 "text_behind" spBehind) (c_InvalidText : ClsI P w K mg base 1 "InvalidText" C_InvalidText ["value"]) (clP : Cls K C_Program) (npE : NoAttr K C_Program "_edits") : FnG P w K mg base (L2.CX P w) 6 f fd ["self", "text"] (spRun (cls4 C_Once C_First C_Perhaps C_Every) C_AtOnce C_Program C_NoPlace C_Overlap C_InvalidText) := by
  refine okG F sc_run (fun vs H Q E h => ?_) (fun cdv A outer s H vs Q E hg hr h => ?_)
  · obtain ⟨pr, es, v, d, rfl, _⟩ := h
    rfl
  · have hu := hu_of hr
    have hu64 := hr.units
    obtain ⟨pr, es, v, d, rfl, ⟨dx, q, xs, hpr, hq, eds⟩, th, r1, kT, kk⟩ := h
    have hlen := paired_len eds
    refine ⟨_, (pss_cons (ps_if (pt_not (pt_val (pe_cG c_is_text hg hr (by decide) pass0 (pa_cons (pv 1) pa_nil)))) (pss_one (ps_raise rfl (takes_of rfl rfl rfl rfl) (pmk_k c_InvalidText hg hr (by decide) pass0 (pa_cons (pv 1) pa_nil)))) pss_nil)
      (pss_cons (ps_for (passes_of rfl) rfl (pi_enumT (by rfl) T.enumerate (pa_cons (pe_fld (pv 0) rfl) pa_nil)) (pg_tup rfl (pgs_cons (pg_name (i := 2) sc_run.nd rfl (Or.inl rfl)) (pgs_cons (pg_name (i := 3) sc_run.nd rfl (Or.inl rfl)) pgs_nil))) (pss_one (ps_set (i := 1) sc_run.nd rfl (Or.inl rfl) (pe_cG c_text_behind hg hr (by decide) pass0 (pa_cons (pv 1) (pa_cons (pe_cG c_puts_of hg hr (by decide) (passes_call (takes_of rfl rfl rfl rfl) (fun _ _ _ _ h => h)) (pa_cons (pv 3) (pa_cons (pv 2) (pa_cons (pv 1) pa_nil)))) pa_nil))))))
      (pss_one (ps_ret (pv 1))))), ?_⟩
    refine ⟨_, rfl, v, d, rfl, th, r1, _, rfl, ?_⟩
    cases hT : isT d with
    | false => exact iteT ⟨_, rfl, rfl, fun dd hd => kT hT H dd Same.rfl hd⟩
    | true =>
    obtain ⟨x, rfl⟩ := isT_str hT
    cases th_str th
    obtain ⟨bnd, k1, k2, k3⟩ := kk x rfl hT
    refine iteF ?_
    refine ⟨_, rfl, pr, C_Program, dx, _, .ref q, rfl, hpr, clP, npE, fl_edits, q, xs, rfl, hq, fun i m σ H2 => m + i = xs.length ∧ ∃ y o3 o4, σ = [some (.ref pr), some (.str y), o3, o4] ∧ Same H H2 ∧ BndA (es.drop i) y ∧ runA es 0 x = runA (es.drop i) i y, ⟨xs.length, rfl, x, _, _, rfl, Same.rfl, bnd, rfl⟩, ?_⟩
    rintro i m σ H2 ⟨hm, y, o3, o4, rfl, s2, bd, er⟩
    by_cases hi : i < xs.length
    · obtain ⟨v, hv⟩ : ∃ v, xs[i]? = some v := ⟨xs[i], List.getElem?_eq_getElem hi⟩
      obtain ⟨e, he, a, rfl, hat⟩ := paired_at eds hv
      rw [drop_at he] at bd er
      obtain ⟨ok, b4⟩ := bd
      refine .inr ⟨⟨_, _, s2 _ _ hq, hv⟩, fun σ2 H3 => m - 1 + (i + 1) = xs.length ∧ ∃ y o3 o4, σ2 = [some (.ref pr), some (.str y), o3, o4] ∧ Same H H3 ∧ BndA (es.drop (i + 1)) y ∧ runA es 0 x = runA (es.drop (i + 1)) (i + 1) y, fun σ2 H3 p => ⟨m - 1, by omega, p⟩, ?_⟩
      rintro w H3 ⟨T, y2, xs2, rfl, hT2, rfl, hxs, hy⟩
      have e9 := (s2 _ _ hq).symm.trans hxs
      cases e9
      cases hv.symm.trans hy
      have s3 := s2.trans (same_new (o := .tup [.int (i : Nat), .ref a]) hT2)
      refine ⟨T, _, rfl, SqT.of upd_same, rfl, ?_⟩
      refine ⟨_, _, rfl, _, _, rfl, rfl, _, rfl, _, rfl, _, rfl, _, rfl, a, e, i, y, rfl, hat.keep s3, ok, fun m hw H4 d s4 hd => ?_, fun hw H4 d s4 hd => ?_, fun z hw l rows H4 s4 hl0 hl hr2 => ?_⟩
      · exact k1 i m (er.trans (runA_no hw)) H4 d (s3.trans s4) hd
      · exact k2 i (er.trans (runA_over hw)) H4 d (s3.trans s4) hd
      · refine ⟨y, l, rows, _, rfl, hl, hr2, ok.x8, fun p hp => (rowsE_n ok p hp).2, rowsE_len ok, fun H5 s5 => ?_⟩
        have ez := outE_txt hw
        subst ez
        exact ⟨by omega, _, _, _, rfl, (s3.trans s4).trans s5, b4 _ hw, er.trans (runA_txt hw)⟩
    · have e : i = xs.length := by omega
      refine .inl ⟨⟨_, s2 _ _ hq, e.symm⟩, ?_⟩
      rw [List.drop_of_length_le (by omega)] at er
      exact ⟨_, rfl, k3 y er _ s2⟩

end
end Vk
set_option Elab.async false
set_option maxRecDepth 100000
set_option linter.all false
set_option maxHeartbeats 4000000
namespace Vk
open PySem PySem.Spec PyProof.Rows L2 LamX NdefX StX
/-! ## what labels tell -/
theorem paired_of_get {α β : Type} {R : α → β → Prop} : ∀ {xs : List α} {ys : List β}, xs.length = ys.length → (∀ (i : Nat) x y, xs[i]? = some x → ys[i]? = some y → R x y) → Paired R xs ys
  | [], [], _, _ => .nil
  | x :: xs, y :: ys, hl, h => .cons (h 0 x y rfl rfl) (paired_of_get (Nat.succ.inj hl) fun i a b ha hb => h (i + 1) a b ha hb)
  | [], _ :: _, hl, _ => nomatch hl
  | _ :: _, [], hl, _ => nomatch hl
def partsE : EdM → List (Str × Str)
  | .one _ z1 z2 => [(z1, z2)]
  | .many ps => ps
/-- the letter c is the one that a label tells -/
def LtrR (es : List EdM) (x : Str) : Lb → Nat → Prop
  | .idx i, c => x.cps.toList[i]? = some c
  | .put e p k, c => ∃ ed q, es[e]? = some ed ∧ (partsE ed)[p]? = some q ∧ q.2.cps.toList[k]? = some c
theorem cutS_list {x : Str} {k b : Nat} (h1 : k ≤ b) (h2 : b ≤ x.length) : (cutS x (some (k : Int)) (some (b : Int))).cps.toList = (x.cps.toList.drop k).take (b - k) := by
  unfold cutS
  rw [HT.sIx_nat, HT.sIx_nat, Nat.min_eq_left (Nat.le_trans h1 h2), Nat.min_eq_left h2]
theorem cutS_tail_list {x : Str} {k : Nat} (h : k ≤ x.length) : (cutS x (some (k : Int)) none).cps.toList = x.cps.toList.drop k := by
  unfold cutS
  rw [HT.sIx_nat, HT.sIx_none, Nat.min_eq_left h]
  exact List.take_of_length_le (by rw [List.length_drop]; exact Nat.le_of_eq (congrArg (· - k) Array.length_toList))
theorem rowsM_part {x : Str} : ∀ {ps : List (Str × Str)} {k : Nat} {r : Rw}, r ∈ rowsM x ps k → ∃ j q, r.k = k + j ∧ ps[j]? = some q ∧ q.2 = r.n
  | p :: t, k, r, h => by
    rw [rowsM_cons] at h
    rcases List.mem_cons.mp h with rfl | h
    · exact ⟨0, p, rfl, rfl, rfl⟩
    · obtain ⟨j, q, e, h1, h2⟩ := rowsM_part h
      exact ⟨j + 1, q, by omega, h1, h2⟩
theorem rows_part {x : Str} {e : EdM} : ∀ r ∈ rowsE x e, ∃ q, (partsE e)[r.k]? = some q ∧ q.2 = r.n := by
  cases e with
  | one n z1 z2 =>
    intro r hr
    obtain ⟨p, _, rfl⟩ := List.mem_map.mp hr
    exact ⟨(z1, z2), rfl, rfl⟩
  | many ps =>
    intro r hr
    obtain ⟨j, q, e, h1, h2⟩ := rowsM_part ((ordM_perm _).mem_iff.mp hr)
    exact ⟨q, by rw [e, Nat.zero_add]; exact h1, h2⟩
theorem new_ltr {es : List EdM} {x : Str} {i : Nat} {e : EdM} {r : Rw} {q : Str × Str} (he : es[i]? = some e) (h1 : (partsE e)[r.k]? = some q) (h2 : q.2 = r.n) : Paired (LtrR es x) (newL i r) r.n.cps.toList := by
  have hl : r.n.cps.toList.length = r.n.length := Array.length_toList
  refine paired_of_get (by unfold newL; rw [List.length_map, List.length_range, hl]) fun j l c hj hc => ?_
  unfold newL at hj
  rw [List.getElem?_map] at hj
  obtain ⟨k, hk, rfl⟩ := Option.map_eq_some_iff.mp hj
  obtain ⟨hk1, hk2⟩ := List.getElem?_eq_some_iff.mp hk
  rw [List.getElem_range] at hk2
  subst hk2
  exact ⟨e, q, he, h1, by rw [h2]; exact hc⟩
theorem fold_ltr {es : List EdM} {x y : Str} {i : Nat} {e : EdM} {L : List Lb} (he : es[i]? = some e) (hL : Paired (LtrR es x) L y.cps.toList) : ∀ {R : List Rw} {k : Nat} {acc : List Lb} {s : Str}, Ch y.length k R → (∀ r ∈ R, ∃ q, (partsE e)[r.k]? = some q ∧ q.2 = r.n) → Paired (LtrR es x) acc s.cps.toList → Paired (LtrR es x) (foldL L i R k acc) (foldA y R k s).cps.toList
  | [], k, acc, s, c, _, h => by
    rw [foldL_nil, foldA_nil, more_list, cutS_tail_list c]
    exact paired_app h (paired_dropN k hL)
  | r :: R, k, acc, s, c, hr, h => by
    rw [foldL_cons, foldA_cons]
    have h1 := c.1
    have h2 := c.2.1
    unfold Rw.e at h2
    obtain ⟨q, q1, q2⟩ := hr r List.mem_cons_self
    refine fold_ltr he hL c.2.2 (fun r hm => hr r (List.mem_cons_of_mem _ hm)) ?_
    rw [more_list, more_list, cutS_list h1 (by omega)]
    exact paired_app (paired_app h (paired_takeN _ (paired_dropN _ hL))) (new_ltr he q1 q2)
theorem labs_ltr {es : List EdM} {x : Str} : ∀ {r : List EdM} {i : Nat} {y z : Str} {L L2 : List Lb}, es.drop i = r → Paired (LtrR es x) L y.cps.toList → runA r i y = .txt z → labsA r i y L = .labs L2 → Paired (LtrR es x) L2 z.cps.toList
  | [], i, y, z, L, L2, _, hL, e1, e2 => by
    cases (show OutR.txt y = .txt z from e1)
    cases (show OutL.labs L = .labs L2 from e2)
    exact hL
  | e :: r, i, y, z, L, L2, hd, hL, e1, e2 => by
    have he : es[i]? = some e := by
      have := congrArg List.head? hd
      rw [List.head?_drop] at this
      exact this
    have hd2 : es.drop (i + 1) = r := by rw [← List.drop_drop, hd, List.drop_succ_cons, List.drop_zero]
    cases ho : outE y e with
    | txt u =>
      rw [runA_txt ho] at e1
      rw [labsA_txt ho] at e2
      refine labs_ltr hd2 ?_ e1 e2
      rw [outE_txt ho]
      exact fold_ltr he hL (ch_rows ho) rows_part .nil
    | no m => rw [runA_no ho] at e1; cases e1
    | over => rw [runA_over ho] at e1; cases e1
theorem start_ltr {es : List EdM} {x : Str} : Paired (LtrR es x) (start0 x) x.cps.toList := by
  have hl : x.cps.toList.length = x.length := Array.length_toList
  refine paired_of_get (by unfold start0; rw [List.length_map, List.length_range, hl]) fun j l c hj hc => ?_
  unfold start0 at hj
  rw [List.getElem?_map] at hj
  obtain ⟨k, hk, rfl⟩ := Option.map_eq_some_iff.mp hj
  obtain ⟨hk1, hk2⟩ := List.getElem?_eq_some_iff.mp hk
  rw [List.getElem_range] at hk2
  subst hk2
  exact hc
theorem start_len {x : Str} : (start0 x).length = x.length := by unfold start0; rw [List.length_map, List.length_range]
/-- where a program is right its labels are there -/
theorem labs_is : ∀ {r : List EdM} {i : Nat} {y z : Str} {L : List Lb}, L.length = y.length → runA r i y = .txt z → ∃ L2 : List Lb, labsA r i y L = .labs L2 ∧ L2.length = z.length
  | [], i, y, z, L, hl, e1 => by
    cases (show OutR.txt y = .txt z from e1)
    exact ⟨L, rfl, hl⟩
  | e :: r, i, y, z, L, hl, e1 => by
    cases ho : outE y e with
    | txt u =>
      rw [runA_txt ho] at e1
      have fs := fold_same (i := i) hl (ch_rows ho) (acc := []) (s := "") (by decide +kernel)
      rw [← outE_txt ho] at fs
      obtain ⟨L2, h1, h2⟩ := labs_is fs e1
      exact ⟨L2, (labsA_txt ho).trans h1, h2⟩
    | no m => rw [runA_no ho] at e1; cases e1
    | over => rw [runA_over ho] at e1; cases e1
/-! ## the letters that are kept -/
def idxs (L : List Lb) : List Nat := L.filterMap fun
  | .idx i => some i
  | .put _ _ _ => none
theorem idxs_app {A B : List Lb} : idxs (A ++ B) = idxs A ++ idxs B := List.filterMap_append
theorem idxs_sub {A B : List Lb} (h : A.Sublist B) : (idxs A).Sublist (idxs B) := h.filterMap _
theorem idxs_new {i : Nat} {r : Rw} : idxs (newL i r) = [] := by
  unfold idxs newL
  rw [List.filterMap_map]
  exact List.filterMap_eq_nil_iff.mpr fun a _ => rfl
theorem drop_sub {α : Type} {l : List α} {a b : Nat} (h : a ≤ b) : (l.drop b).Sublist (l.drop a) := by
  rw [show b = a + (b - a) by omega, ← List.drop_drop]
  exact List.drop_sublist _ _
theorem fold_idx {n : Nat} {L : List Lb} {i : Nat} : ∀ {R : List Rw} {k : Nat} {acc : List Lb}, Ch n k R → (idxs (foldL L i R k acc)).Sublist (idxs acc ++ idxs (L.drop k))
  | [], k, acc, _ => by rw [foldL_nil, idxs_app]; exact List.Sublist.refl _
  | r :: R, k, acc, c => by
    rw [foldL_cons]
    have h1 := c.1
    have ih := fold_idx (L := L) (i := i) (acc := acc ++ (L.drop k).take (r.b - k) ++ newL i r) c.2.2
    refine ih.trans ?_
    rw [idxs_app, idxs_app, idxs_new, List.append_nil, List.append_assoc]
    refine List.Sublist.append (List.Sublist.refl _) ?_
    have e : L.drop k = (L.drop k).take (r.b - k) ++ L.drop r.b := by
      have := (List.take_append_drop (r.b - k) (L.drop k)).symm
      rw [List.drop_drop, show k + (r.b - k) = r.b by omega] at this
      exact this
    conv => rhs; rw [e]
    rw [idxs_app]
    refine List.Sublist.append (List.Sublist.refl _) (idxs_sub (drop_sub ?_))
    unfold Rw.e
    exact Nat.le_add_right _ _
theorem labs_idx : ∀ {r : List EdM} {i : Nat} {y : Str} {L L2 : List Lb}, labsA r i y L = .labs L2 → (idxs L2).Sublist (idxs L)
  | [], i, y, L, L2, e2 => by
    cases (show OutL.labs L = .labs L2 from e2)
    exact List.Sublist.refl _
  | e :: r, i, y, L, L2, e2 => by
    cases ho : outE y e with
    | txt u =>
      rw [labsA_txt ho] at e2
      have h := fold_idx (L := L) (i := i) (acc := []) (ch_rows ho)
      rw [List.drop_zero] at h
      exact (labs_idx e2).trans h
    | no m => rw [labsA_no ho] at e2; cases e2
    | over => rw [labsA_over ho] at e2; cases e2
theorem start_idx {x : Str} : idxs (start0 x) = List.range x.length := by
  unfold idxs start0
  rw [List.filterMap_map]
  exact List.filterMap_eq_map (f := fun i => i) ▸ (by simp [Function.comp_def])
theorem kept_asc {es : List EdM} {x : Str} {L : List Lb} (h : labsA es 0 x (start0 x) = .labs L) : (idxs L).Pairwise (· < ·) ∧ ∀ i ∈ idxs L, i < x.length := by
  have s := labs_idx h
  rw [start_idx] at s
  exact ⟨List.pairwise_lt_range.sublist s, fun i hi => List.mem_range.mp (s.mem hi)⟩
/-! ## labels behind labels -/
/-! ## a letter for itself -/
end Vk
set_option Elab.async false
set_option maxRecDepth 100000
set_option maxHeartbeats 4000000
set_option linter.all false
namespace Vk
open PySem PySem.Spec PyProof.Rows L2
/-! ## for i, c in enumerate(x), x a text -/
/-! ## loops over these -/
theorem for_enumL {K : PySem.W.Frag} {a : Addr} {xs : List V} {g : TG} {tb : TS} {D : Ends} {σ : L2.St} {H : Hp} (Pv : Nat → L2.St → Hp → Prop) (h0 : Pv 0 σ H) (hl : ∀ i σ H, i ≤ xs.length → Pv i σ H → SqL K H a xs)
    (hs : ∀ i v σ H T, xs[i]? = some v → H T = none → Pv i σ H → g (.ref T) σ (upd H T (.tup [.int (i : Nat), v])) fun σ2 H2 => tb { D with nx := Pv (i + 1), ct := Pv (i + 1), bk := D.nx } σ2 H2) (hd : ∀ σ H, Pv xs.length σ H → D.nx σ H) :
    ∃ W : Nat → Nat → L2.St → Hp → Prop, (∃ m, W 0 m σ H) ∧ ∀ i m σ H, W i m σ H →
      ((Ite K a).stop i H ∧ D.nx σ H) ∨ ((Ite K a).go i H ∧ ∃ N : L2.St → Hp → Prop, (∀ σ' H', N σ' H' → ∃ m', m' < m ∧ W (i + 1) m' σ' H') ∧ ∀ x1 H', (Ite K a).yld i H x1 H' → g x1 σ H' fun σ2 H2 => tb { D with nx := N, ct := N, bk := D.nx } σ2 H2) := by
  refine ⟨fun i m σ H => m = xs.length - i ∧ i ≤ xs.length ∧ Pv i σ H, ⟨xs.length, by simp, Nat.zero_le _, h0⟩, ?_⟩
  rintro i m σ H ⟨rfl, hi, p⟩
  have q := hl i σ H hi p
  by_cases hlt : i < xs.length
  · refine .inr ⟨⟨xs, xs[i], q, by simp [hlt]⟩, Pv (i + 1), fun σ' H' p' => ⟨xs.length - (i + 1), by omega, rfl, hlt, p'⟩, ?_⟩
    rintro x1 H' ⟨T, v, rfl, hT, rfl, hv⟩
    exact hs i v σ H T (hv xs q) hT p
  · have e : i = xs.length := by omega
    subst e
    exact .inl ⟨⟨xs, q, Nat.le_refl _⟩, hd σ H p⟩
end Vk
set_option Elab.async false
set_option maxRecDepth 100000
set_option maxHeartbeats 4000000
set_option linter.all false
namespace Vk
open PySem PySem.Spec PyProof.Rows L2
/-! ## x[::-1], x a text -/
end Vk
set_option Elab.async false
set_option maxRecDepth 100000
set_option maxHeartbeats 4000000
set_option linter.all false
namespace Vk
open PySem PySem.Spec PyProof.Rows L2 HT
/-! ## t[::-1], t a tuple -/
section
variable {prog : Program} {w : World} {A : Around} {E : Value → Shared → Prop} {s : Shared}
end
end Vk
set_option Elab.async false
set_option maxRecDepth 100000
set_option maxHeartbeats 4000000
set_option linter.all false
namespace Vk
open PySem PySem.Spec PyProof.Rows L2 LamX
/-! ## things: a value, or a list or a tuple of values -/
inductive Tg (H : Hp) : V → PyData → Prop
  | one {v : V} {d : PyData} : Th H v d → (∀ ds, d ≠ .tuple ds) → Tg H v d
  | lst {a : Addr} {vs : List V} {ds : List PyData} : H a = some (.lst vs) → Paired (Th H) vs ds → Tg H (.ref a) (.list ds)
  | tup {a : Addr} {vs : List V} {ds : List PyData} : H a = some (.tup vs) → Paired (Th H) vs ds → Tg H (.ref a) (.tuple ds)
theorem atms_ths {H : Hp} : ∀ {vs : List V} {ds : List PyData}, Paired Atm vs ds → Paired (Th H) vs ds
  | _, _, .nil => .nil
  | _, _, .cons a t => .cons (.atm a) (atms_ths t)
theorem Th.tg {H : Hp} {v : V} {d : PyData} (h : Th H v d) : Tg H v d := by
  cases h with
  | atm a => exact .one (.atm a) (fun ds z => by cases a <;> cases z)
  | lst e n p => exact .one (.lst e n p) (fun ds z => by cases z)
  | tup e p => exact .tup e (atms_ths p)
  | dct e => exact .one (.dct e) (fun ds z => by cases z)
theorem Tg.keep {H H' : Hp} {v : V} {d : PyData} (h : Tg H v d) (s : Same H H') : Tg H' v d := by
  cases h with
  | one th n => exact .one (th.keep s) n
  | lst e p => exact .lst (s _ _ e) (ths_keep s p)
  | tup e p => exact .tup (s _ _ e) (ths_keep s p)
theorem ths_ext {H H' : Hp} {p c : Addr} {T : Nat} (hp : Pen H p c T) (x : Ext p H H') : ∀ {vs : List V} {ds : List PyData}, Paired (Th H) vs ds → Paired (Th H') vs ds
  | _, _, .nil => .nil
  | _, _, .cons a t => .cons (a.ext hp x) (ths_ext hp x t)
theorem Tg.ext {H H' : Hp} {p c : Addr} {T : Nat} {v : V} {d : PyData} (h : Tg H v d) (hp : Pen H p c T) (x : Ext p H H') : Tg H' v d := by
  have ne : ∀ {a o}, H a = some o → (∀ k, o ≠ .dK k) → H' a = some o := fun {a o} e n => x _ _ e fun z => by
    obtain ⟨t, l, hl⟩ := hp.is
    rw [z, hl] at e
    exact n _ (Option.some.inj e).symm
  cases h with
  | one th n => exact .one (th.ext hp x) n
  | lst e p => exact .lst (ne e fun _ z => nomatch z) (ths_ext hp x p)
  | tup e p => exact .tup (ne e fun _ z => nomatch z) (ths_ext hp x p)
end Vk
set_option Elab.async false
set_option maxRecDepth 100000
set_option maxHeartbeats 4000000
set_option linter.all false
namespace Vk
open PySem PySem.Spec PyProof.Rows L2
/-! ## {k: v for x in l}, l a list that stays -/
theorem call_isiK {X : Cx} {K : PySem.W.Frag} (h : X.K = K) : CallR X (.builtin "isinstance") (rIsi K) := h ▸ call_isi
end Vk
set_option Elab.async false
set_option maxRecDepth 100000
set_option maxHeartbeats 4000000
set_option linter.all false
namespace Vk
open PySem PySem.Spec PyProof.Rows L2
/-! ## {(..): v for x in l}: a dict whose keys are tuples of numbers and texts -/
section
variable {X : Cx}
theorem put_tup {pins : List (Addr × Obj)} {σ : L2.St} {H : Hp} {s : Shared} {E : Value → Shared → Prop} {D b : Addr} {kvs : List (List Key × V)} {k : List Key} {v : V} {r : Value} {Q : Unit → Shared → Prop} (hu : X.A.units + 1 < cLine) (I : Inv X pins σ H s) (hD : H D = some (.dT kvs)) (few : kvs.length < sizeLine)
    (hb : H b = some (.tup (k.map kV))) (rv : RelV v r) (go : ∀ s2, Inv X pins σ (upd H D (.dT (putK kvs k v))) s2 → Q () s2) : wpAny (model X.prog X.w) X.A (dictSet D (.ref b) r) Q E s := by
  obtain ⟨z, nsys, xs, rel, dd⟩ := dt_of I.hok hD
  have zx : xs.length ≤ sizeLine := Paired.length rel ▸ z
  have zl : (putK kvs k v).length ≤ sizeLine := Nat.le_trans (length_putK kvs k v) (by omega)
  refine wpAny_dictSet_heap (hsz := zx) (show X.A.units < cLine by omega) (key_of I.hok hb) dd fun h2 dd2 same => go _ ?_
  obtain ⟨q, es, ep, hq, e2, e3, e4, _, e5⟩ := dd2
  refine d_write I (hD ▸ True.intro) same ⟨q, hq⟩ ⟨zl, nsys, _, (rel.put k hb rv).keeps fun c ys ec => ?_, q, es, ep, hq, e2, e3, e4, e5⟩
  exact (upd_ne (ne_of ec hD (fun w => nomatch w))).trans ec
/-- {k: v for target in iter if ..}: D the new dict, its keys tuples -/
def tDcT (wi : TI) (g : TG) (tt : TT) (tk tv : TE) (vs : List Nat) : TE := fun σ H Q => wi σ H fun J H1 => ∀ D, H1 D = none → ∃ W : Nat → Nat → Hp → Prop, (∃ m, W 0 m (upd H1 D (.dT []))) ∧ ∀ i m H, W i m H →
  (J.stop i H ∧ Q (.ref D) H) ∨ (J.go i H ∧ ∃ N : Hp → Prop, (∀ H', N H' → ∃ m', m' < m ∧ W (i + 1) m' H') ∧ ∀ x H', J.yld i H x H' → g x (wipe σ vs) H' fun σ2 H2 => wipe σ2 vs = wipe σ vs ∧ tt σ2 H2 fun b H3 =>
    if b = true then tk σ2 H3 fun y H4 => tv σ2 H4 fun z H5 => ∃ kvs k q, y = .ref q ∧ H5 q = some (.tup (k.map kV)) ∧ H5 D = some (.dT kvs) ∧ kvs.length < sizeLine ∧ N (upd H5 D (.dT (putK kvs k z))) else N H3)
abbrev inner (X : Cx) (scope : Scope) (C : Addr) : Env := compEnvC scope (cellsFrom (C + 1) scope.names (cloFrom X.env.cells scope.names [])) C X.env
theorem pe_dcT {kx vx tg iter : Expr} {ifs : List Expr} {scope : Scope} {own : List (Str × Nat)} {pos : Pos} {wi : TI} {g : TG} {tt : TT} {tk tv : TE} (calm : X.calm = true) (hu : X.A.units + 1 < cLine) (nd : X.N.Nodup) (pi : PI X tg iter wi) (blk : BlkOk X.N X.env.scope scope own)
    (pg : ∀ (s : Shared) (H : Hp) (C : Addr) (cl : List (Str × Addr)) (fp : List Addr), PG (X.blk s H scope (compEnvC scope cl C X.env) fp) tg g) (pt : ∀ (s : Shared) (H : Hp) (C : Addr) (cl : List (Str × Addr)) (fp : List Addr), PTs (X.blk s H scope (compEnvC scope cl C X.env) fp) ifs tt)
    (pk : ∀ (s : Shared) (H : Hp) (C : Addr) (cl : List (Str × Addr)) (fp : List Addr), PE (X.blk s H scope (compEnvC scope cl C X.env) fp) kx tk)
    (pv : ∀ (s : Shared) (H : Hp) (C : Addr) (cl : List (Str × Addr)) (fp : List Addr), PE (X.blk s H scope (compEnvC scope cl C X.env) fp) vx tv) (fold : ∀ x, foldedSetIterable iter X.env x = pure x := by intro _; rfl) :
    PE X (.DictComp kx vx [⟨tg, iter, ifs, 0⟩] scope pos) (tDcT wi g tt tk tv (own.map (·.2))) := by
  refine ⟨fun pins s σ H Q I h => ?_⟩
  rw [arm_eval_DictComp]
  have cellsAt : ∀ y ∈ scope.names, y.2 = .free → ∃ c, X.env.cells.lookup y.1 = some c := fun y hy e => I.ok.has _ (blk.free y hy e)
  refine wpAny_comprehension_free (use := none) rfl fold (closure_ok cellsAt) blk.kind (fun y hy e => (blk.uniq y hy).trans (congrArg some e)) (thn (pi.run pins s σ H _ I h) fun xv s1 h1 => thn h1 fun itv s2 h2 => ?_)
  obtain ⟨it, fp, tn, J, H2, rfl, I2, T, here, apart, k⟩ := h2
  refine wpAny_newObj_type (newEnv_comp ?_)
  have newD : H2 s2.heap.objs.size = none := I2.hok.fresh (Nat.le_refl _)
  obtain ⟨W, ⟨m0, w0⟩, turn⟩ := k _ newD
  have I3 : Inv X pins σ (upd H2 s2.heap.objs.size (.dT [])) { s2 with heap := s2.heap.push { cls := .type "dict", data := .dict #[] } } :=
    I2.laid (t' := s2.toks) (fun b o e => Heap.get?_push_of_some _ e) (Nat.le_refl _) (dt_empty s2.heap I2.big)
  have old : ∀ b ∈ fp, b < s2.heap.objs.size := fun b hb => let ⟨_, e, _⟩ := T.obj _ _ here b hb; Heap.lt_size e
  have more : (s2.heap.push { cls := .type "dict", data := .dict #[] }).objs.size = s2.heap.objs.size + 1 := Heap.size_push ..
  have apart3 : ∀ b ∈ fp, FpOk X pins (upd H2 s2.heap.objs.size (.dT [])) b ∧ b < (s2.heap.push { cls := .type "dict", data := .dict #[] }).objs.size := fun b hb =>
    ⟨⟨(upd_ne (Nat.ne_of_lt (old b hb))).trans (apart b hb).1, (apart b hb).2⟩, by rw [more]; exact Nat.lt_succ_of_lt (old b hb)⟩
  have here3 : tn 0 (s2.heap.push { cls := .type "dict", data := .dict #[] }) := T.keep _ _ _ here fun b _ o e => Heap.get?_push_of_some _ e
  have I4 := block_start I3 blk nd apart3
  have here4 : tn 0 (pushCells ((s2.heap.push { cls := .type "dict", data := .dict #[] }).push { cls := .type "dict", data := .dict #[] }) scope.names) := T.keep _ _ _ here3 fun b _ o e => pushCells_keeps _ _ _ _ (Heap.get?_push_of_some _ e)
  have none4 : ∀ b ∈ fp, (upd H2 s2.heap.objs.size (.dT [])) b = none := fun b hb => (apart3 b hb).1.1
  revert I3 I4 here3 here4 none4 apart3 turn w0
  generalize upd H2 s2.heap.objs.size (.dT []) = H3
  generalize s2.heap.objs.size = D at *
  generalize e3 : ({ s2 with heap := s2.heap.push { cls := .type "dict", data := .dict #[] } } : Shared) = s3
  have e3h : s2.heap.push { cls := .type "dict", data := .dict #[] } = s3.heap := congrArg Shared.heap e3
  rw [e3h]
  intro turn w0 I3 apart3 here3 I4 here4 none4
  have PG1 := pg s3 H3 s3.heap.objs.size (cellsFrom (s3.heap.objs.size + 1) scope.names (cloFrom X.env.cells scope.names [])) fp
  have PT1 := pt s3 H3 s3.heap.objs.size (cellsFrom (s3.heap.objs.size + 1) scope.names (cloFrom X.env.cells scope.names [])) fp
  have PK1 := pk s3 H3 s3.heap.objs.size (cellsFrom (s3.heap.objs.size + 1) scope.names (cloFrom X.env.cells scope.names [])) fp
  have PV1 := pv s3 H3 s3.heap.objs.size (cellsFrom (s3.heap.objs.size + 1) scope.names (cloFrom X.env.cells scope.names [])) fp
  show codeAny _ _ (.compStart _ 0 (.ref it) (.ref D) (inner X scope s3.heap.objs.size)) (compPost (model X.prog X.w) X.A X.xe none (EP X pins σ Q) (.ref D) s3.heap.objs.size) _
  have ceL : (inner X scope s3.heap.objs.size).locals = s3.heap.objs.size := rfl
  change Inv (X.blk s3 H3 scope (inner X scope s3.heap.objs.size) fp) [] _ H3 _ at I4
  change PG (X.blk s3 H3 scope (inner X scope s3.heap.objs.size) fp) tg g at PG1
  change PTs (X.blk s3 H3 scope (inner X scope s3.heap.objs.size) fp) ifs tt at PT1
  change PE (X.blk s3 H3 scope (inner X scope s3.heap.objs.size) fp) kx tk at PK1
  change PE (X.blk s3 H3 scope (inner X scope s3.heap.objs.size) fp) vx tv at PV1
  generalize inner X scope s3.heap.objs.size = ce at ceL I4 PG1 PT1 PK1 PV1 ⊢
  have ownOk : ∀ {τ : L2.St} {H' : Hp} {s' : Shared}, Inv (X.blk s3 H3 scope ce fp) [] τ H' s' → (∀ b ∈ fp, H' b = none) → ∀ b ∈ fp, FpOk (X.blk s3 H3 scope ce fp) [] H' b := fun J' no b hb =>
    ⟨no b hb, (J'.ok.exf b hb).1, J'.ok.exfs b hb, .inl hb, fun x c e => (J'.ok.exf b hb).2 x c e, fun p hp => nomatch (show p ∈ ([] : List (Addr × Obj)) from hp)⟩
  change tn 0 ({ s3 with heap := pushCells (s3.heap.push { cls := .type "dict", data := .dict #[] }) scope.names } : Shared).heap at here4
  generalize ({ s3 with heap := pushCells (s3.heap.push { cls := .type "dict", data := .dict #[] }) scope.names } : Shared) = s4 at I4 here4 ⊢
  have whole : codeAny (model X.prog X.w) X.A (.compLoop (.DictComp kx vx [⟨tg, iter, ifs, 0⟩] scope pos) 0 (.ref it) (.ref D) ce) (compPost (model X.prog X.w) X.A X.xe none (EP X pins σ Q) (.ref D) s3.heap.objs.size) s4 := by
    refine compLoop_anyD (fun n s5 => ∃ i H', Inv (X.blk s3 H3 scope ce fp) [] (wipe σ (own.map (·.2))) H' s5 ∧ tn i s5.heap ∧ (∀ b ∈ fp, H' b = none) ∧ W i n H') ?_ m0 ⟨0, H3, I4, here4, none4, w0⟩
    rintro n s5 ⟨i, H5, I5, at5, no5, w5⟩
    rcases turn i n H5 w5 with ⟨stop, last⟩ | ⟨go, N, less, step⟩
    · refine thnF (T.done (X.blk s3 H3 scope ce fp) rfl rfl rfl calm i [] s5 _ H5 (fun _ _ => False) I5 (ownOk I5 no5) at5 stop) fun r s6 ⟨er, I6⟩ => ?_
      subst er
      have back : Inv X pins σ H5 s6 := I3.call' (ch := fp) I6.os I6.base I6.hok I6.bare fun b hb => let f := (apart3 b hb).1; ⟨f.2.2.2.1, f.2.1, f.2.2.2.2.1, f.2.2.2.2.2⟩
      have noL : H5 s3.heap.objs.size = none := ceL ▸ (show H5 ce.locals = none from I6.free)
      obtain ⟨m, ns, _⟩ := I6.loc
      replace ns : s6.heap.Ns s3.heap.objs.size m := ceL ▸ (show s6.heap.Ns ce.locals m from ns)
      refine ⟨m, ns, fun h7 only => ?_⟩
      obtain ⟨f0, f1, f2, f3, f4, f5⟩ := I3.fpOk (Nat.le_refl _) noL
      exact ⟨.ref D, H5, back.turned (t' := s6.toks) (fun b o hb e => (only.2 b hb).trans e) f0 f1 f3 f4 f5, rfl, last⟩
    · refine thnF (T.item (X.blk s3 H3 scope ce fp) rfl rfl rfl calm i [] s5 _ H5 (fun _ _ => False) I5 (ownOk I5 no5) at5 go) fun r s6 ⟨u, er, h6⟩ => ?_
      subst er
      refine thnF h6 fun _ s7 ⟨x, H7, I7, rx, yx, at7, no7⟩ => ?_
      have I8 := I7.pinned (ownOk I7 no7) (T.obj _ _ at7)
      refine thnF (PG1.run _ s7 _ H7 x u _ I8 rx (step x H7 yx)) fun _ s8 ⟨τ, H8, I9, same, q8⟩ => ?_
      refine thnF (PT1.run _ s8 τ H8 _ I9 q8) fun yes s9 ⟨H9, I10, q9⟩ => ?_
      have next : ∀ {s' : Shared} {H' : Hp}, Inv (X.blk s3 H3 scope ce fp) ([] ++ pinsAt fp s7.heap) τ H' s' → N H' → ∃ m, m < n ∧ ∃ i H', Inv (X.blk s3 H3 scope ce fp) [] (wipe σ (own.map (·.2))) H' s' ∧ tn i s'.heap ∧ (∀ b ∈ fp, H' b = none) ∧ W i m H' := by
        intro s' H' J' nx
        obtain ⟨m', lt, w'⟩ := less H' nx
        have kept : ∀ b ∈ fp, ∀ o, s7.heap.get? b = some o → s'.heap.get? b = some o ∧ H' b = none := fun b hb o e =>
          let z := J'.pin (b, o) (List.mem_append_right _ (List.mem_append_right _ (mem_pinsAt hb e)))
          ⟨z.1, z.2.1⟩
        have long : (wipe σ (own.map (·.2))).length = τ.length := same ▸ (wipe_length ..)
        refine ⟨m', lt, i + 1, H', (J'.unpinned (pins := [])).weak long (fun j v e => (wipe_some (same ▸ e)).1), T.keep _ _ _ at7 fun b hb o e => (kept b hb o e).1, fun b hb => ?_, w'⟩
        obtain ⟨o, e, _⟩ := T.obj _ _ at7 b hb
        exact (kept b hb o e).2
      cases yes with
      | false => exact next I10 q9
      | true =>
        refine thnF (PK1.run _ s9 τ H9 _ I10 q9) fun ku s10 ⟨y, H10, I11, ry, q10⟩ => ?_
        refine thnF (PV1.run _ s10 τ H10 _ I11 q10) fun vu s11 ⟨z, H11, I12, rz, kvs, k, q, ey, hq, hD, few, nx⟩ => ?_
        subst ey
        cases (show ku = Value.ref q from ry)
        exact put_tup (X := X.blk s3 H3 scope ce fp) hu I12 hD few hq rz fun s12 I13 => next I13 nx
  exact codeAny_compStart_dict whole (T.self X.A 0 _ _ _ here4 whole)
end
/-- over a list that stays -/
theorem dcT_list {K : PySem.W.Frag} {a : Addr} {xs : List V} {g : TG} {tt : TT} {tk tv : TE} {vs : List Nat} {σ : L2.St} {H1 : Hp} {D : Addr} {Qd : Hp → Prop} (Pv : Nat → Hp → Prop) (h0 : Pv 0 (upd H1 D (.dT []))) (hl : ∀ i H, i ≤ xs.length → Pv i H → SqL K H a xs)
    (hs : ∀ i x H, xs[i]? = some x → Pv i H → g x (wipe σ vs) H fun σ2 H2 => wipe σ2 vs = wipe σ vs ∧ tt σ2 H2 fun b H3 =>
      if b = true then tk σ2 H3 fun y H4 => tv σ2 H4 fun z H5 => ∃ kvs k q, y = .ref q ∧ H5 q = some (.tup (k.map kV)) ∧ H5 D = some (.dT kvs) ∧ kvs.length < sizeLine ∧ Pv (i + 1) (upd H5 D (.dT (putK kvs k z))) else Pv (i + 1) H3) (hd : ∀ H, Pv xs.length H → Qd H) :
    ∃ W : Nat → Nat → Hp → Prop, (∃ m, W 0 m (upd H1 D (.dT []))) ∧ ∀ i m H, W i m H →
      ((Itl K a).stop i H ∧ Qd H) ∨ ((Itl K a).go i H ∧ ∃ N : Hp → Prop, (∀ H', N H' → ∃ m', m' < m ∧ W (i + 1) m' H') ∧ ∀ x H', (Itl K a).yld i H x H' → g x (wipe σ vs) H' fun σ2 H2 => wipe σ2 vs = wipe σ vs ∧ tt σ2 H2 fun b H3 =>
        if b = true then tk σ2 H3 fun y H4 => tv σ2 H4 fun z H5 => ∃ kvs k q, y = .ref q ∧ H5 q = some (.tup (k.map kV)) ∧ H5 D = some (.dT kvs) ∧ kvs.length < sizeLine ∧ N (upd H5 D (.dT (putK kvs k z))) else N H3) := by
  refine ⟨fun i m H => m + i = xs.length ∧ Pv i H, ⟨xs.length, rfl, h0⟩, ?_⟩
  rintro i m H ⟨em, p⟩
  have q := hl i H (by omega) p
  cases e : xs[i]? with
  | none =>
    have : i = xs.length := Nat.le_antisymm (by omega) (List.getElem?_eq_none_iff.mp e)
    subst this
    exact .inl ⟨⟨xs, q, Nat.le_refl _⟩, hd H p⟩
  | some v =>
    have lt := (List.getElem?_eq_some_iff.mp e).1
    refine .inr ⟨⟨xs, v, q, e⟩, Pv (i + 1), fun H' p' => ⟨m - 1, by omega, by omega, p'⟩, ?_⟩
    rintro x H' ⟨rfl, y⟩
    exact hs i x _ (y xs q) p
end Vk
set_option Elab.async false
set_option maxRecDepth 100000
set_option linter.all false
set_option maxHeartbeats 4000000
namespace Vk
open PySem PySem.Spec PyProof.Rows L2 LamX NdefX StX
/-! ## what stands between kept letters -/
/-- first, last, begin, end -/
abbrev Gap := Nat × Nat × Nat × Nat
def gapG : List Lb → Nat → Nat → Nat → List Gap
  | [], _, _, _ => []
  | .put _ _ _ :: r, p, f, b => gapG r (p + 1) f b
  | .idx e :: r, p, f, b => (if f < e ∨ b < p then [(f, e, b, p)] else []) ++ gapG r (p + 1) (e + 1) (p + 1)
def gapsM (L : List Lb) (n : Nat) : List Gap := gapG (L ++ [.idx n]) 0 0 0
theorem gap_put {e p k : Nat} {r : List Lb} {q f b : Nat} : gapG (.put e p k :: r) q f b = gapG r (q + 1) f b := rfl
theorem gap_idx {e : Nat} {r : List Lb} {p f b : Nat} : gapG (.idx e :: r) p f b = (if f < e ∨ b < p then [(f, e, b, p)] else []) ++ gapG r (p + 1) (e + 1) (p + 1) := rfl
theorem gap_len : ∀ {L : List Lb} {p f b : Nat}, (gapG L p f b).length ≤ L.length
  | [], _, _, _ => Nat.le_refl _
  | .put _ _ _ :: r, p, f, b => by rw [gap_put, List.length_cons]; exact Nat.le_succ_of_le gap_len
  | .idx e :: r, p, f, b => by
    rw [gap_idx, List.length_append, List.length_cons]
    have := gap_len (L := r) (p := p + 1) (f := e + 1) (b := p + 1)
    split
    · rw [List.length_singleton]; omega
    · rw [List.length_nil]; omega
theorem idxs_idx {e : Nat} {r : List Lb} : idxs (.idx e :: r) = e :: idxs r := rfl
theorem gap_asc {n : Nat} : ∀ {L : List Lb} {p f b : Nat}, (idxs L).Pairwise (· < ·) → (∀ e ∈ idxs L, f ≤ e ∧ e ≤ n) → b ≤ p → (gapG L p f b).Pairwise (fun r s => r.1 < s.1) ∧ ∀ r ∈ gapG L p f b, f ≤ r.1 ∧ r.1 ≤ r.2.1 ∧ r.2.1 ≤ n ∧ r.2.2.1 ≤ r.2.2.2 ∧ r.2.2.2 < p + L.length
  | [], p, f, b, _, _, _ => ⟨.nil, fun r h => absurd h List.not_mem_nil⟩
  | .put _ _ _ :: L, p, f, b, h, hf, hb => by
    obtain ⟨a1, a2⟩ := gap_asc (L := L) (p := p + 1) (f := f) (b := b) h hf (by omega)
    refine ⟨a1, fun r hr => ?_⟩
    have := a2 r hr
    rw [List.length_cons]
    omega
  | .idx e :: L, p, f, b, h, hf, hb => by
    rw [idxs_idx] at h hf
    obtain ⟨h1, h2⟩ := List.pairwise_cons.mp h
    have fe := hf e List.mem_cons_self
    obtain ⟨a1, a2⟩ := gap_asc (L := L) (p := p + 1) (f := e + 1) (b := p + 1) h2 (fun x hx => ⟨h1 x hx, (hf x (List.mem_cons_of_mem _ hx)).2⟩) (Nat.le_refl _)
    rw [gap_idx, List.length_cons]
    have hd : ∀ r ∈ (if f < e ∨ b < p then [(f, e, b, p)] else ([] : List Gap)), r = (f, e, b, p) := fun r hr => by
      split at hr
      · exact List.mem_singleton.mp hr
      · exact absurd hr List.not_mem_nil
    refine ⟨List.pairwise_append.mpr ⟨?_, a1, fun r hr s hs => ?_⟩, fun r hr => ?_⟩
    · split
      · exact List.pairwise_singleton _ _
      · exact .nil
    · rw [hd r hr]
      have := (a2 s hs).1
      show f < s.1
      omega
    · rcases List.mem_append.mp hr with hr | hr
      · rw [hd r hr]
        exact ⟨Nat.le_refl _, fe.1, fe.2, hb, by show p < _; omega⟩
      · have := a2 r hr
        omega
theorem gaps_ok {es : List EdM} {x : Str} {L : List Lb} (h : labsA es 0 x (start0 x) = .labs L) : (gapsM L x.length).Pairwise (fun r s => r.1 < s.1) ∧ ∀ r ∈ gapsM L x.length, r.1 ≤ r.2.1 ∧ r.2.1 ≤ x.length ∧ r.2.2.1 ≤ r.2.2.2 ∧ r.2.2.2 ≤ L.length := by
  obtain ⟨k1, k2⟩ := kept_asc h
  have e : idxs (L ++ [.idx x.length]) = idxs L ++ [x.length] := idxs_app
  obtain ⟨a1, a2⟩ := gap_asc (n := x.length) (L := L ++ [.idx x.length]) (p := 0) (f := 0) (b := 0) (by
    rw [e]
    refine List.pairwise_append.mpr ⟨k1, List.pairwise_singleton _ _, fun i hi j hj => ?_⟩
    rw [List.mem_singleton.mp hj]
    exact k2 i hi) (fun i hi => by
    rw [e] at hi
    rcases List.mem_append.mp hi with hi | hi
    · exact ⟨Nat.zero_le _, Nat.le_of_lt (k2 i hi)⟩
    · rw [List.mem_singleton.mp hi]
      exact ⟨Nat.zero_le _, Nat.le_refl _⟩) (Nat.le_refl _)
  refine ⟨a1, fun r hr => ?_⟩
  have := a2 r hr
  rw [List.length_append, List.length_singleton] at this
  omega
theorem few_len2 {n : Nat} (h : n ≤ 6000) : n ≤ sizeLine := Nat.le_trans h (by rw [sizeLine_eq]; decide)
def GapR (H : Hp) (v : V) (g : Gap) : Prop := ∃ t, v = .ref t ∧ H t = some (.tup [.int (g.1 : Nat), .int (g.2.1 : Nat), .int (g.2.2.1 : Nat), .int (g.2.2.2 : Nat)])
def GapsR (H : Hp) : List V → List Gap → Prop := Paired (GapR H)
theorem GapsR.keep {H H1 : Hp} {xs : List V} {gs : List Gap} (h : GapsR H xs gs) (s : ∀ u ws, H u = some (.tup ws) → H1 u = some (.tup ws)) : GapsR H1 xs gs := paired_impl (fun v g ⟨t, e, ht⟩ => ⟨t, e, s _ _ ht⟩) h
def isIdx : Lb → Bool
  | .idx _ => true
  | .put _ _ _ => false
theorem lb_isi {K : PySem.W.Frag} {H : Hp} {v : V} {l : Lb} (h : LbR H v l) : ∃ t, TyX K H v t ∧ PySem.W.kitOne K t (.type "int") = some (isIdx l) := by
  cases l with
  | idx i =>
    cases (show v = .int (i : Nat) from h)
    exact ⟨.type "int", .base (.int _), (show _ = some true from kit_ty (by decide +kernel))⟩
  | put e p k =>
    obtain ⟨t, rfl, ht⟩ := h
    exact ⟨.type "tuple", .base (.tup ht), (show _ = some false from kit_ty (by decide +kernel))⟩
section
variable {P : Program} {w : World} {K : PySem.W.Frag} {mg : Str → Option Value} {base : Heap}
variable {C_Once C_First C_Perhaps C_Every C_AtOnce C_Edit C_Program C_NoPlace C_Overlap C_InvalidText : Addr}
theorem upd_out {H H1 : Hp} {l : Addr} {o : HO} (hl : H l = none) (s : Same H H1) : Same H (upd H1 l o) := fun b o2 h => by
  rw [upd_ne (ne_of_none h hl)]
  exact s _ _ h
def spGaps : Sp := fun vs H Q _ => ∃ te es L n, vs = [.int (n : Nat), .ref te] ∧ H te = some (.tup es) ∧ LbsR H es L ∧ L.length ≤ 2900 ∧ ∀ l xs H', Same H H' → H' l = some (.lst xs) → GapsR H' xs (gapsM L n) → Q (.ref l) H'
abbrev s_gaps : Stmt := top 45
theorem sc_gaps : FnScope ["length", "entries", "told", "first", "begin", "place", "entry"] ["length", "entries"] (defScope s_gaps) := ⟨rfl, rfl, rfl, by decide +kernel, rfl, by decide +kernel, by decide +kernel⟩
theorem b_gaps {f : Addr} {fd : FuncData} (F : Fun K "gaps" "gaps" s_gaps f fd) (T : Txt mg) : FnG P w K mg base CX0 1 f fd ["length", "entries"] spGaps := by
  refine okG0 F sc_gaps (fun vs H Q E h => ?_) (fun cdv A outer s H vs Q E hg hr h => ?_)
  · obtain ⟨te, es, L, n, rfl, _⟩ := h
    rfl
  · have hu := hu_of hr
    have hu64 := hr.units
    obtain ⟨te, es, L, n, rfl, hte, hL, lL, k⟩ := h
    refine ⟨_, (pss_cons (ps_set (i := 2) sc_gaps.nd rfl (Or.inl rfl) (pe_lst pa_nil))
      (pss_cons (ps_asg (pe_tup (pa_cons pe_int (pa_cons pe_int pa_nil))) (pg_tup rfl (pgs_cons (pg_name (i := 3) sc_gaps.nd rfl (Or.inl rfl)) (pgs_cons (pg_name (i := 4) sc_gaps.nd rfl (Or.inl rfl)) pgs_nil))))
      (pss_cons (ps_for PassesOwn.never rfl (pi_enum (by rfl) T.enumerate (pa_cons (pe_lst (pa_star (pv 1) (pa_cons (pv 0) pa_nil))) pa_nil)) (pg_tup rfl (pgs_cons (pg_name (i := 5) sc_gaps.nd rfl (Or.inl rfl)) (pgs_cons (pg_name (i := 6) sc_gaps.nd rfl (Or.inl rfl)) pgs_nil))) (pss_cons (ps_if (pt_not (pt_val (pe_callB call_isi (by rfl) T.isinstance (by decide +kernel) (pa_cons (pv 6) (pa_cons (pe_bltn (v := .ty "int") (by rfl) T.int rfl rfl) pa_nil))))) (pss_one ps_continue) pss_nil)
      (pss_cons (ps_if (PW.pt (pw_or (pt_cmpR op_lt (pv 3) (pv 6) (nomark _)) (pw_or1 (pt_cmpR op_lt (pv 4) (pv 5) (nomark _))))) (pss_one (ps_expr (pe_bm PySem.F.plainAttrs_list PySem.F.slot_list_append PySem.F.type_list_append mt_append (pv 2) (pa_cons (pe_tup (pa_cons (pv 3) (pa_cons (pv 6) (pa_cons (pv 4) (pa_cons (pv 5) pa_nil))))) pa_nil)))) pss_nil)
      (pss_one (ps_par (i := 3) (j := 4) (by rfl) sc_gaps.nd rfl rfl (by decide) rfl rfl (pa_cons (pe_op op_add (pv 6) pe_int) (pa_cons (pe_op op_add (pv 5) pe_int) pa_nil)) (by rfl))))))
      (pss_one (ps_ret (pv 2)))))), ?_⟩
    refine ⟨by show 0 ≤ sizeLine; decide, fun lt hlt => ?_⟩
    have s0 := same_new (o := .lst []) hlt
    have hl0 : (upd H lt (.lst [])) lt = some (.lst []) := upd_same
    refine ⟨few_len (Nat.le_of_ble_eq_true rfl), fun t0 ht0 => ?_⟩
    have s1 := s0.trans (same_new (o := .tup [.int 0, .int 0]) ht0)
    refine ⟨t0, _, rfl, SqT.of upd_same, rfl, _, _, rfl, _, _, rfl, rfl, ?_⟩
    have hl1 := (same_new (o := .tup [.int 0, .int 0]) ht0) _ _ hl0
    generalize upd (upd H lt (.lst [])) t0 (.tup [.int 0, .int 0]) = H1 at s1 hl1 ⊢
    have el := paired_len hL
    refine ⟨_, rfl, te, es, rfl, .inl (SqT.of (s1 _ _ hte)), _, rfl, few_len2 (by rw [List.length_append]; show es.length + 1 ≤ 6000; omega), fun la hla => ?_⟩
    have s2 := s1.trans (same_new (o := .lst (es ++ [.int (n : Nat)])) hla)
    have hla2 : (upd H1 la (.lst (es ++ [.int (n : Nat)]))) la = some (.lst (es ++ [.int (n : Nat)])) := upd_same
    have hl2 := (same_new (o := .lst (es ++ [.int (n : Nat)])) hla) _ _ hl1
    have nla : lt ≠ la := ne_of_none hl1 hla
    have hL2 : LbsR (upd H1 la (.lst (es ++ [.int (n : Nat)]))) (es ++ [.int (n : Nat)]) (L ++ [.idx n]) := paired_app (LbsR.keep hL fun u ws h => s2 _ _ h) (.cons rfl .nil)
    generalize upd H1 la (.lst (es ++ [.int (n : Nat)])) = H2 at s2 hla2 hl2 hL2 ⊢
    clear hl1 s1 hl0 s0 hla ht0
    have gl : gapG (L ++ [.idx n]) 0 0 0 = gapsM L n := rfl
    have al : (es ++ [V.int (n : Nat)]).length = (L ++ [Lb.idx n]).length := paired_len hL2
    have AL : (L ++ [Lb.idx n]).length ≤ 2901 := by rw [List.length_append]; show L.length + 1 ≤ _; omega
    generalize L ++ [.idx n] = A at hL2 gl al AL
    generalize es ++ [.int (n : Nat)] = as at hL2 hla2 al
    refine ⟨la, _, rfl, SqL.of hla2, ?_⟩
    refine for_enumL (xs := as) (fun i σ H' => ∃ (f b : Nat) (o5 o6 : Option V) (got : List V) (rs : List Gap), σ = [some (.int (n : Nat)), some (.ref te), some (.ref lt), some (.int (f : Nat)), some (.int (b : Nat)), o5, o6] ∧ H' lt = some (.lst got) ∧ GapsR H' got rs ∧ rs ++ gapG (A.drop i) i f b = gapsM L n ∧ rs.length ≤ i ∧ Same H H' ∧ H' la = some (.lst as) ∧ LbsR H' as A) ?_ ?_ ?_ ?_
    · exact ⟨0, 0, _, _, [], [], rfl, hl2, .nil, gl, Nat.le_refl _, s2, hla2, hL2⟩
    · rintro i σ H' _ ⟨f, b, o5, o6, got, rs, rfl, _, _, _, _, _, hla, _⟩
      exact SqL.of hla
    · rintro i v σ H' T hv hT ⟨f, b, o5, o6, got, rs, rfl, hg, gr, ge, rl, sm, hla, hA⟩
      obtain ⟨l, hl, hlr⟩ := paired_at hA hv
      have il := (List.getElem?_eq_some_iff.mp hv).1
      have sT := same_new (o := .tup [.int (i : Nat), v]) hT
      rw [drop_at hl] at ge
      have hlr2 : LbR (upd H' T (.tup [.int (i : Nat), v])) v l := LbR.keep hlr fun a ws h => sT _ _ h
      have hT2 : (upd H' T (.tup [.int (i : Nat), v])) T = some (.tup [.int (i : Nat), v]) := upd_same
      have hg2 := sT _ _ hg
      have gr2 : GapsR (upd H' T (.tup [.int (i : Nat), v])) got rs := GapsR.keep gr fun a ws h => sT _ _ h
      have sm2 := sm.trans sT
      have hla3 := sT _ _ hla
      have hA2 : LbsR (upd H' T (.tup [.int (i : Nat), v])) as A := LbsR.keep hA fun a ws h => sT _ _ h
      generalize upd H' T (.tup [.int (i : Nat), v]) = H3 at hlr2 hT2 hg2 gr2 sm2 hla3 hA2 ⊢
      obtain ⟨ty, tk, kk⟩ := lb_isi (K := K) hlr2
      refine ⟨T, _, rfl, SqT.of hT2, rfl, _, _, rfl, _, _, rfl, rfl, ?_⟩
      have gL := paired_len gr2
      cases l with
      | put e p q =>
        refine ⟨_, rfl, _, .ty "int", ty, .type "int", false, rfl, .ty "int", tk, kk, _, rfl, iteT ?_⟩
        exact ⟨f, b, _, _, got, rs, rfl, hg2, gr2, ge, by omega, sm2, hla3, hA2⟩
      | idx e =>
        refine ⟨_, rfl, _, .ty "int", ty, .type "int", true, rfl, .ty "int", tk, kk, _, rfl, iteF ?_⟩
        cases (show v = .int (e : Nat) from hlr2)
        rw [gap_idx] at ge
        have fin : ∀ (H4 : Hp) (got' : List V) (rs' : List Gap), H4 lt = some (.lst got') → GapsR H4 got' rs' → rs' ++ gapG (A.drop (i + 1)) (i + 1) (e + 1) (i + 1) = gapsM L n → rs'.length ≤ i + 1 → Same H H4 → H4 la = some (.lst as) → LbsR H4 as A →
            ∃ (f b : Nat) (o5 o6 : Option V) (got : List V) (rs : List Gap), [some (V.int (n : Nat)), some (.ref te), some (.ref lt), some (.int ((e : Nat) + 1 : Int)), some (.int ((i : Nat) + 1 : Int)), some (.int (i : Nat)), some (.int (e : Nat))] = [some (.int (n : Nat)), some (.ref te), some (.ref lt), some (.int (f : Nat)), some (.int (b : Nat)), o5, o6] ∧ H4 lt = some (.lst got) ∧ GapsR H4 got rs ∧ rs ++ gapG (A.drop (i + 1)) (i + 1) f b = gapsM L n ∧ rs.length ≤ i + 1 ∧ Same H H4 ∧ H4 la = some (.lst as) ∧ LbsR H4 as A :=
          fun H4 got' rs' a1 a2 a3 a4 a5 a6 a7 => ⟨e + 1, i + 1, _, _, got', rs', rfl, a1, a2, a3, a4, a5, a6, a7⟩
        have add : (f < e ∨ b < i) → ∀ (t : Addr), H3 t = none → ∀ H4, H4 = upd (upd H3 t (.tup [.int (f : Nat), .int (e : Nat), .int (b : Nat), .int (i : Nat)])) lt (.lst (got ++ [.ref t])) → H4 lt = some (.lst (got ++ [.ref t])) ∧ GapsR H4 (got ++ [.ref t]) (rs ++ [(f, e, b, i)]) ∧ (rs ++ [(f, e, b, i)]) ++ gapG (A.drop (i + 1)) (i + 1) (e + 1) (i + 1) = gapsM L n ∧ (rs ++ [(f, e, b, i)]).length ≤ i + 1 ∧ Same H H4 ∧ H4 la = some (.lst as) ∧ LbsR H4 as A := by
          rintro hc t ht H4 rfl
          have st := same_new (o := .tup [.int (f : Nat), .int (e : Nat), .int (b : Nat), .int (i : Nat)]) ht
          have ht2 : (upd H3 t (.tup [.int (f : Nat), .int (e : Nat), .int (b : Nat), .int (i : Nat)])) t = some (.tup [.int (f : Nat), .int (e : Nat), .int (b : Nat), .int (i : Nat)]) := upd_same
          generalize upd H3 t (.tup [.int (f : Nat), .int (e : Nat), .int (b : Nat), .int (i : Nat)]) = H5 at st ht2
          have ne : ∀ u ws, H5 u = some (.tup ws) → (upd H5 lt (.lst (got ++ [.ref t]))) u = some (.tup ws) := fun u ws h => by
            rw [upd_ne (fun z => by rw [z, st _ _ hg2] at h; cases h)]
            exact h
          refine ⟨upd_same, paired_app ((GapsR.keep gr2 fun u ws h => st _ _ h).keep ne) (.cons ⟨t, rfl, ne _ _ ht2⟩ .nil), ?_, by rw [List.length_append, List.length_singleton]; omega, upd_out hlt (sm2.trans st), (upd_ne nla.symm).trans (st _ _ hla3), LbsR.keep (LbsR.keep hA2 fun u ws h => st _ _ h) ne⟩
          rw [if_pos hc] at ge
          rw [List.append_assoc]
          exact ge
        refine ⟨_, rfl, _, rfl, _, _, rfl, rfl, _, rfl, ?_⟩
        by_cases c1 : f < e
        · rw [decide_eq_true (Int.ofNat_lt.mpr c1)]
          refine iteT ⟨_, rfl, .inl ⟨rfl, _, SqL.of hg2⟩, ?_⟩
          refine ⟨_, rfl, _, rfl, _, rfl, _, rfl, few_len (Nat.le_of_ble_eq_true rfl), fun t ht => ?_⟩
          obtain ⟨a1, a2, a3, a4, a5, a6, a7⟩ := add (.inl c1) t ht _ rfl
          refine ⟨lt, _, _, rfl, rfl, (same_new ht) _ _ hg2, few_lt2 (by omega), ?_⟩
          exact ⟨_, rfl, _, _, rfl, rfl, _, rfl, _, _, rfl, rfl, _, _, rfl, fin _ _ _ a1 a2 a3 a4 a5 a6 a7⟩
        · rw [decide_eq_false (fun z => c1 (Int.ofNat_lt.mp z))]
          refine iteF ⟨_, rfl, _, rfl, _, _, rfl, rfl, _, rfl, ?_⟩
          by_cases c2 : b < i
          · rw [decide_eq_true (Int.ofNat_lt.mpr c2)]
            refine iteT ⟨_, rfl, .inl ⟨rfl, _, SqL.of hg2⟩, ?_⟩
            refine ⟨_, rfl, _, rfl, _, rfl, _, rfl, few_len (Nat.le_of_ble_eq_true rfl), fun t ht => ?_⟩
            obtain ⟨a1, a2, a3, a4, a5, a6, a7⟩ := add (.inr c2) t ht _ rfl
            refine ⟨lt, _, _, rfl, rfl, (same_new ht) _ _ hg2, few_lt2 (by omega), ?_⟩
            exact ⟨_, rfl, _, _, rfl, rfl, _, rfl, _, _, rfl, rfl, _, _, rfl, fin _ _ _ a1 a2 a3 a4 a5 a6 a7⟩
          · rw [decide_eq_false (fun z => c2 (Int.ofNat_lt.mp z))]
            rw [if_neg (fun z => z.elim c1 c2), List.nil_append] at ge
            exact iteF ⟨_, rfl, _, _, rfl, rfl, _, rfl, _, _, rfl, rfl, _, _, rfl, fin _ _ _ hg2 gr2 ge (by omega) sm2 hla3 hA2⟩
    · rintro σ H' ⟨f, b, o5, o6, got, rs, rfl, hg, gr, ge, rl, sm, hla, hA⟩
      rw [List.drop_of_length_le (by omega)] at ge
      rw [show gapG [] as.length f b = [] from rfl, List.append_nil] at ge
      subst ge
      exact ⟨_, rfl, k lt got H' sm hg gr⟩
end
end Vk
set_option Elab.async false
set_option maxRecDepth 100000
set_option linter.all false
set_option maxHeartbeats 4000000
namespace Vk
open PySem PySem.Spec PyProof.Rows L2 LamX NdefX StX
/-! ## hunks: first, last, what stands there -/
abbrev Hunk := Nat × Nat × Str
def ofGap (y : Str) (r : Gap) : Hunk := (r.1, r.2.1, cutS y (some (r.2.2.1 : Int)) (some (r.2.2.2 : Int)))
def hunkM (L : List Lb) (n : Nat) (y : Str) : List Hunk := (gapsM L n).map (ofGap y)
def keyG (y : Str) (r : Gap) : List Key := [.inl (r.1 : Int), .inl (r.2.1 : Int), .inr (cutS y (some (r.2.2.1 : Int)) (some (r.2.2.2 : Int)))]
def HunkR (H : Hp) (v : V) (h : Hunk) : Prop := ∃ t, v = .ref t ∧ H t = some (.tup [.int (h.1 : Nat), .int (h.2.1 : Nat), .str h.2.2])
def HunksR (H : Hp) : List V → List Hunk → Prop := Paired (HunkR H)
theorem HunksR.keep {H H1 : Hp} {xs : List V} {gs : List Hunk} (h : HunksR H xs gs) (s : ∀ u ws, H u = some (.tup ws) → H1 u = some (.tup ws)) : HunksR H1 xs gs := paired_impl (fun v g ⟨t, e, ht⟩ => ⟨t, e, s _ _ ht⟩) h
theorem putK_new {kvs : List (List Key × V)} {k : List Key} {v : V} (h : ∀ kv ∈ kvs, kv.1 ≠ k) : putK kvs k v = kvs ++ [(k, v)] := by
  unfold putK
  rw [if_neg]
  intro q
  rw [List.any_eq_true] at q
  obtain ⟨kv, hk, e⟩ := q
  exact h kv hk (of_decide_eq_true e)
theorem hunks_of {H : Hp} {y : Str} : ∀ {kvs : List (List Key × V)} {bs : List Addr} {gs : List Gap}, IsKeys H kvs bs → kvs.map (·.1) = gs.map (keyG y) → HunksR H (bs.map V.ref) (gs.map (ofGap y))
  | [], _, [], .nil, _ => .nil
  | p :: kvs, _, [], .cons _ _, e => nomatch e
  | [], _, g :: gs, .nil, e => nomatch e
  | p :: kvs, _, g :: gs, .cons (b := b) a t, e => by
    obtain ⟨e1, e2⟩ := List.cons.inj (show p.1 :: kvs.map (·.1) = keyG y g :: gs.map (keyG y) from e)
    refine .cons ⟨b, rfl, ?_⟩ (hunks_of t e2)
    have a : H b = some (.tup (p.1.map kV)) := a
    rw [e1] at a
    exact a
theorem lab_no : ∀ {es : List EdM} {i j m : Nat} {x : Str} {L : List Lb}, labsA es i x L = .no j m → runA es i x = .no j m
  | [], _, _, _, _, _, h => nomatch (show OutL.labs _ = OutL.no _ _ from h)
  | e :: r, i, j, m, x, L, h => by
    cases o : outE x e with
    | txt y => rw [labsA_txt o] at h; rw [runA_txt o]; exact lab_no h
    | no k => rw [labsA_no o] at h; rw [runA_no o]; cases h; rfl
    | over => rw [labsA_over o] at h; cases h
theorem lab_over : ∀ {es : List EdM} {i j : Nat} {x : Str} {L : List Lb}, labsA es i x L = .over j → runA es i x = .over j
  | [], _, _, _, _, h => nomatch (show OutL.labs _ = OutL.over _ from h)
  | e :: r, i, j, x, L, h => by
    cases o : outE x e with
    | txt y => rw [labsA_txt o] at h; rw [runA_txt o]; exact lab_over h
    | no k => rw [labsA_no o] at h; cases h
    | over => rw [labsA_over o] at h; rw [runA_over o]; cases h; rfl
theorem lab_txt : ∀ {es : List EdM} {i : Nat} {x : Str} {L L2 : List Lb}, labsA es i x L = .labs L2 → ∃ y, runA es i x = .txt y
  | [], i, x, L, L2, h => ⟨x, rfl⟩
  | e :: r, i, x, L, L2, h => by
    cases o : outE x e with
    | txt y => rw [labsA_txt o] at h; rw [runA_txt o]; exact lab_txt h
    | no k => rw [labsA_no o] at h; cases h
    | over => rw [labsA_over o] at h; cases h
section
variable {P : Program} {w : World} {K : PySem.W.Frag} {mg : Str → Option Value} {base : Heap}
variable {C_Once C_First C_Perhaps C_Every C_AtOnce C_Edit C_Program C_NoPlace C_Overlap C_InvalidText : Addr}
theorem sl_tupAK {X : Cx} (h : X.K = K) : SlR X (rSlA K) := h ▸ sl_tupA
/-- what becomes of a text, and errors; R: the answer where all is right -/
def HunkT (CN CO : Addr) (es : List EdM) (x : Str) (H : Hp) (E : XK) (R : Str → List Lb → Prop) : Prop := BndA es x ∧ (∀ y, runA es 0 x = .txt y → y.length ≤ 2900) ∧
  (∀ i m, runA es 0 x = .no i m → ∀ H1 d, Same H H1 → H1 d = none → E (.ref CN) (some d) (upd H1 d (.xd [(("number" : Str), .int (m : Nat)), (("index" : Str), .int (i : Nat))]))) ∧
  (∀ i, runA es 0 x = .over i → ∀ H1 d, Same H H1 → H1 d = none → E (.ref CO) (some d) (upd H1 d (.xd [(("index" : Str), .int (i : Nat))]))) ∧
  (∀ y L, runA es 0 x = .txt y → labsA es 0 x (start0 x) = .labs L → R y L)
def spHk (Cs : Nat → Addr) (Ca CP CN CO CT : Addr) (R : Hp → VK → Str → Str → List Lb → Prop) : Sp := fun vs H Q E => ∃ pr es v d, vs = [.ref pr, v] ∧ IsPr Cs Ca CP H pr es ∧ Th H v d ∧ Srt d ∧
  (isT d = false → ∀ H1 dd, Same H H1 → H1 dd = none → E (.ref CT) (some dd) (upd H1 dd (.xd [(("value" : Str), v)]))) ∧ (∀ x, d = .str x → isT d = true → HunkT CN CO es x H E (R H Q x))
def RDict (H : Hp) (Q : VK) (x y : Str) (L : List Lb) : Prop := ∀ d kvs H', Same H H' → H' d = some (.dT kvs) → kvs.map (·.1) = (gapsM L x.length).map (keyG y) → Q (.ref d) H'
def RList (H : Hp) (Q : VK) (x y : Str) (L : List Lb) : Prop := ∀ l xs H', Same H H' → H' l = some (.lst xs) → HunksR H' xs (hunkM L x.length y) → Q (.ref l) H'
theorem take_next {α : Type} : ∀ {xs : List α} {i : Nat} {x : α}, xs[i]? = some x → xs.take (i + 1) = xs.take i ++ [x] := fun h => by
  rw [List.take_add_one, h]
  rfl
theorem asc_ne {y : Str} {G : List Gap} {i : Nat} {r r2 : Gap} (h : G.Pairwise (fun r s => r.1 < s.1)) (hr : G[i]? = some r) (m : r2 ∈ G.take i) : keyG y r2 ≠ keyG y r := by
  intro e
  obtain ⟨j, hj⟩ := List.mem_iff_getElem?.mp m
  have jl : j < i := by
    have := (List.getElem?_eq_some_iff.mp hj).1
    rw [List.length_take] at this
    omega
  rw [List.getElem?_take_of_lt jl] at hj
  obtain ⟨a1, b1⟩ := List.getElem?_eq_some_iff.mp hj
  obtain ⟨a2, b2⟩ := List.getElem?_eq_some_iff.mp hr
  have := List.pairwise_iff_getElem.mp h j i a1 a2 jl
  rw [b1, b2] at this
  have q : (r2.1 : Int) = (r.1 : Int) := Sum.inl.inj (List.cons.inj e).1
  omega
theorem hk_step {σ : L2.St} {H : Hp} {y : Str} {te : Addr} {es : List V} {r : Gap} 
    {R : V → V → Hp → Prop} (e2 : σ[2]? = some (some (.ref te))) (e3 : σ[3]? = some (some (.str y))) (e5 : σ[5]? = some (some (.int (r.1 : Nat)))) (e6 : σ[6]? = some (some (.int (r.2.1 : Nat)))) (e7 : σ[7]? = some (some (.int (r.2.2.1 : Nat)))) (e8 : σ[8]? = some (some (.int (r.2.2.2 : Nat))))
    (ht : H te = some (.tup es)) (yl : y.length ≤ sizeLine)
    (k : ∀ q H5, Same H H5 → H5 q = some (.tup ((keyG y r).map kV)) → ∀ z H6, Same H5 H6 → R (.ref q) z H6) :
    tTup (tCons (tVar 5) (tCons (tVar 6) (tCons (L2.tSl rSlS (tVar 3) (tPart (tVar 7)) (tPart (tVar 8))) tNil))) σ H fun y1 H4 => L2.tSl (rSlA K) (tVar 2) (tPart (tVar 7)) (tPart (tVar 8)) σ H4 fun z H5 => R y1 z H5 := by
  refine ⟨_, e5, _, e6, _, e3, _, e7, _, rfl, _, e8, _, rfl, _, rfl, yl, by rw [sizeLine_eq]; exact Nat.le_of_ble_eq_true rfl, fun q hq => ?_⟩
  have s1 : Same H (upd H q (.tup [.int (r.1 : Nat), .int (r.2.1 : Nat), .str (cutS y (some (r.2.2.1 : Int)) (some (r.2.2.2 : Int)))])) := same_new hq
  refine ⟨_, e2, _, e7, _, rfl, _, e8, _, rfl, te, es, rfl, SqT.of (s1 _ _ ht), fun _ => ?_, fun _ p hp => ?_⟩
  · exact k q _ s1 upd_same _ _ (Same.refl _)
  · exact k q _ s1 upd_same _ _ (same_new hp)
abbrev s_origins_of_hunks : Stmt := top 47
theorem sc_origins_of_hunks : FnScope ["program", "text", "entries", "result", "found", "first", "last", "begin", "end"] ["program", "text"] (defScope s_origins_of_hunks) := ⟨rfl, rfl, rfl, by decide +kernel, rfl, by decide +kernel, by decide +kernel⟩
theorem b_origins_of_hunks {f : Addr} {fd : FuncData} (F : Fun K "origins_of_hunks" "origins_of_hunks" s_origins_of_hunks f fd) (T : Txt mg) (clP : Cls K C_Program) (c_origins : CalG P w K mg base (L2.CX P w) 6 "origins" (spOrg (cls4 C_Once C_First C_Perhaps C_Every) C_AtOnce C_Program C_NoPlace C_Overlap C_InvalidText)) (c_run : MthG P w K mg base (L2.CX P w) 6 C_Program "run" (spRun (cls4 C_Once C_First C_Perhaps C_Every) C_AtOnce C_Program C_NoPlace C_Overlap C_InvalidText)) (c_gaps : CalG P w K mg base CX0 1 "gaps" spGaps) : FnG P w K mg base (L2.CX P w) 7 f fd ["program", "text"] (spHk (cls4 C_Once C_First C_Perhaps C_Every) C_AtOnce C_Program C_NoPlace C_Overlap C_InvalidText RDict) := by
  refine okG F sc_origins_of_hunks (fun vs H Q E h => ?_) (fun cdv A outer s H vs Q E hg hr h => ?_)
  · obtain ⟨pr, es, v, d, rfl, _⟩ := h
    rfl
  · have hu := hu_of hr
    have hu64 := hr.units
    obtain ⟨pr, es, v, d, rfl, ip, th, sr, kT, kx⟩ := h
    refine ⟨_, (pss_cons (ps_set (i := 2) sc_origins_of_hunks.nd rfl (Or.inr rfl) (pe_cG c_origins hg hr (by decide) (passes_call (takes_of rfl rfl rfl rfl) (fun _ _ _ _ h => h)) (pa_cons (pv 0) (pa_cons (pv 1) pa_nil))))
      (pss_cons (ps_set (i := 3) sc_origins_of_hunks.nd rfl (Or.inr rfl) (pe_methG (pv 0) clP c_run hg hr (by decide) (passes_call (takes_of rfl rfl rfl rfl) (fun _ _ _ _ h => h)) (pa_cons (pv 1) pa_nil)))
      (pss_cons (ps_set (i := 4) sc_origins_of_hunks.nd rfl (Or.inl rfl) (pe_cG c_gaps hg hr (by decide) pass0 (pa_cons (pe_callB call_len (by rfl) T.len (by decide +kernel) (pa_cons (pv 1) pa_nil)) (pa_cons (pv 2) pa_nil))))
      (pss_one (ps_ret (pe_dcT (own := [("first", 5), ("last", 6), ("begin", 7), ("end", 8)]) rfl hu sc_origins_of_hunks.nd (pi_list (pv 4)) (blkOk_by (own := [("first", 5), ("last", 6), ("begin", 7), ("end", 8)]) (N := ["program", "text", "entries", "result", "found", "first", "last", "begin", "end"]) (sc := defScope s_origins_of_hunks) (by decide +kernel)) (fun _ _ _ _ _ => (pg_tupK (K := K) (n := 4) rfl rfl (pgs_cons (pg_name (i := 5) sc_origins_of_hunks.nd rfl (Or.inl rfl)) (pgs_cons (pg_name (i := 6) sc_origins_of_hunks.nd rfl (Or.inl rfl)) (pgs_cons (pg_name (i := 7) sc_origins_of_hunks.nd rfl (Or.inl rfl)) (pgs_cons (pg_name (i := 8) sc_origins_of_hunks.nd rfl (Or.inl rfl)) pgs_nil)))))) (fun _ _ _ _ _ => pts_nil) (fun _ _ _ _ _ => (pe_tup (pa_cons (pv 5) (pa_cons (pv 6) (pa_cons (pe_slice sl_str (pv 3) (po_some (pv 7)) (po_some (pv 8))) pa_nil))))) (fun _ _ _ _ _ => (pe_slice (sl_tupAK (K := K) rfl) (pv 2) (po_some (pv 7)) (po_some (pv 8)))))))))), ?_⟩
    refine ⟨_, rfl, _, rfl, pr, es, v, d, rfl, ip, th, sr, kT, fun x ex hT => ?_⟩
    obtain ⟨bnd, ylen, k1, k2, k3⟩ := kx x ex hT
    subst ex
    cases th_str th
    refine ⟨bnd, fun i m er => k1 i m (lab_no er), fun i er => k2 i (lab_over er), fun L hL te es1 H1 s1 hte lbs => ?_⟩
    obtain ⟨y, hy⟩ := lab_txt hL
    obtain ⟨L', hL', lL⟩ := labs_is (start_len (x := x)) hy
    rw [hL] at hL'
    cases hL'
    replace k3 := k3 y L hy hL
    have yl := ylen y hy
    have gok := gaps_ok hL
    have ip0 := ip.keep s1
    obtain ⟨dx, q, xs, hp, _, _⟩ := ip0
    refine ⟨_, rfl, pr, dx, _, rfl, hp, rfl, _, rfl, pr, es, .str x, .str x, rfl, ip.keep s1, .atm (.str x), sr, (fun z => nomatch hT.symm.trans z), fun x2 e _ => ?_⟩
    cases e
    refine ⟨bnd, ?_, ?_, ?_⟩
    · intro i m er
      rw [hy] at er
      cases er
    · intro i er
      rw [hy] at er
      cases er
    · intro y2 er H2 s2
      rw [hy] at er
      cases er
      have x10 : x.length ≤ 1000 := sr.1
      have s12 := s1.trans s2
      refine ⟨_, rfl, _, _, rfl, ⟨by rw [sizeLine_eq]; omega, rfl⟩, _, rfl, te, es1, L, x.length, rfl, s2 _ _ hte, LbsR.keep lbs (fun u ws h => s2 _ _ h), by omega, fun lf fs H3 s3 hlf gr => ?_⟩
      have s13 := s12.trans s3
      have hte3 := s3 _ _ (s2 _ _ hte)
      have gl := paired_len gr
      have gle : (gapsM L x.length).length ≤ L.length + 1 := by
        have := gap_len (L := L ++ [.idx x.length]) (p := 0) (f := 0) (b := 0)
        rw [List.length_append] at this
        exact this
      unfold RDict at k3
      generalize gapsM L x.length = G at gok k3 gr gl gle
      refine ⟨_, rfl, lf, rfl, ⟨_, SqL.of hlf⟩, fun D hD => ?_⟩
      refine dcT_list (K := K) (a := lf) (xs := fs) (fun i H' => Same H3 H' ∧ ∃ kvs, H' D = some (.dT kvs) ∧ kvs.map (·.1) = (G.take i).map (keyG y)) ⟨same_new hD, [], upd_same, rfl⟩ (fun i H' _ p => SqL.of (p.1 _ _ hlf)) (fun i u H' hu' p => ?_) (fun H' p => ?_)
      · obtain ⟨sm, kvs, hd, ek⟩ := p
        obtain ⟨r, hr', t, rfl, ht⟩ := paired_at gr hu'
        have il := (List.getElem?_eq_some_iff.mp hr').1
        have rok := gok.2 r (List.mem_of_getElem? hr')
        have kl : kvs.length ≤ i := by
          have := congrArg List.length ek
          rw [List.length_map, List.length_map, List.length_take] at this
          omega
        refine ⟨t, _, rfl, SqT.of (sm _ _ ht), rfl, _, _, rfl, _, _, rfl, _, _, rfl, _, _, rfl, rfl, ?_⟩
        refine ⟨rfl, ?_⟩
        dsimp only [tYes]
        rw [if_pos rfl]
        refine hk_step (es := es1) (r := r) (y := y) rfl rfl rfl rfl rfl rfl (sm _ _ hte3) (by rw [sizeLine_eq]; omega) (fun q H5 s5 hq => ?_)
        refine fun z H6 s6 => ⟨kvs, keyG y r, q, rfl, s6 _ _ hq, (s5.trans s6) _ _ hd, by rw [sizeLine_eq]; omega, ?_, _, upd_same, ?_⟩
        · exact fun b o e => (upd_ne (ne_of_none e hD)).trans ((sm.trans (s5.trans s6)) b o e)
        · rw [putK_new]
          · rw [List.map_append, ek]
            show (G.take i).map (keyG y) ++ [keyG y r] = _
            rw [take_next hr', List.map_append]
            rfl
          · intro kv hkv e
            have m : kv.1 ∈ (G.take i).map (keyG y) := ek ▸ List.mem_map_of_mem hkv
            obtain ⟨r2, m2, e2⟩ := List.mem_map.mp m
            exact asc_ne gok.1 hr' m2 (e2.trans e)
      · obtain ⟨sm, kvs, hd, ek⟩ := p
        rw [List.take_of_length_le (by omega)] at ek
        exact k3 D kvs H' (s13.trans sm) hd ek
end
end Vk
set_option Elab.async false
set_option maxRecDepth 100000
set_option linter.all false
set_option maxHeartbeats 4000000
namespace Vk
open PySem PySem.Spec PyProof.Rows L2 LamX NdefX StX
section
variable {P : Program} {w : World} {K : PySem.W.Frag} {mg : Str → Option Value} {base : Heap}
variable {C_Once C_First C_Perhaps C_Every C_AtOnce C_Edit C_Program C_NoPlace C_Overlap C_InvalidText : Addr}
abbrev s_hunks : Stmt := top 48
theorem sc_hunks : FnScope ["program", "text"] ["program", "text"] (defScope s_hunks) := ⟨rfl, rfl, rfl, by decide +kernel, rfl, by decide +kernel, by decide +kernel⟩
theorem b_hunks {f : Addr} {fd : FuncData} (F : Fun K "hunks" "hunks" s_hunks f fd) (T : Txt mg) (c_origins_of_hunks : CalG P w K mg base (L2.CX P w) 7 "origins_of_hunks" (spHk (cls4 C_Once C_First C_Perhaps C_Every) C_AtOnce C_Program C_NoPlace C_Overlap C_InvalidText RDict)) : FnG P w K mg base (L2.CX P w) 8 f fd ["program", "text"] (spHk (cls4 C_Once C_First C_Perhaps C_Every) C_AtOnce C_Program C_NoPlace C_Overlap C_InvalidText RList) := by
  refine okG F sc_hunks (fun vs H Q E h => ?_) (fun cdv A outer s H vs Q E hg hr h => ?_)
  · obtain ⟨pr, es, v, d, rfl, _⟩ := h
    rfl
  · have hu := hu_of hr
    have hu64 := hr.units
    obtain ⟨pr, es, v, d, rfl, ip, th, sr, kT, kx⟩ := h
    refine ⟨_, (pss_one (ps_ret (pe_callTy (call_list_dT rfl) (by rfl) T.list (by decide +kernel) (pa_cons (pe_cG c_origins_of_hunks hg hr (by decide) (passes_call (takes_of rfl rfl rfl rfl) (fun _ _ _ _ h => h)) (pa_cons (pv 0) (pa_cons (pv 1) pa_nil))) pa_nil)))), ?_⟩
    refine ⟨_, rfl, _, rfl, pr, es, v, d, rfl, ip, th, sr, kT, fun x ex hT => ?_⟩
    obtain ⟨bnd, ylen, k1, k2, k3⟩ := kx x ex hT
    refine ⟨bnd, ylen, k1, k2, fun y L hy hL dd kvs H1 s1 hd ek => ?_⟩
    refine ⟨dd, kvs, rfl, .inl hd, fun p bs hp ks => ?_⟩
    exact k3 y L hy hL p _ _ (s1.trans (same_new hp)) upd_same (HunksR.keep (hunks_of ks ek) (fun u ws e => same_new hp _ _ e))
end
end Vk
set_option Elab.async false
set_option maxRecDepth 100000
set_option linter.all false
set_option maxHeartbeats 4000000
namespace Vk
open PySem PySem.Spec PyProof.Rows L2 LamX NdefX StX
theorem str_none {x : Str} (h : x.length = 0) : x = "" := Str.ext' (by
  rw [Array.size_eq_zero_iff.mp (show x.cps.size = 0 from h)]
  rfl)
theorem cut_some {y : Str} {b p : Nat} (h1 : b ≤ p) (h2 : p ≤ y.length) : (!decide (V.str (cutS y (some (b : Int)) (some (p : Int))) = V.str "")) = decide (b < p) := by
  have hl := cutS_nat h1 h2
  by_cases c : b < p
  · rw [decide_eq_true c, decide_eq_false]
    · rfl
    · intro z
      rw [V.str.inj z] at hl
      have : (Str.ofString "").length = 0 := by decide +kernel
      omega
  · rw [decide_eq_false c, decide_eq_true]
    · rfl
    · exact congrArg V.str (str_none (by omega))
section
variable {P : Program} {w : World} {K : PySem.W.Frag} {mg : Str → Option Value} {base : Heap}
/-- its letters are among those of z -/
def Of (z x : Str) : Prop := ∀ c ∈ x.cps.toList, c ∈ z.cps.toList
theorem Of.more {z x y : Str} (h1 : Of z x) (h2 : Of z y) : Of z (x ++ y) := fun c hc => by
  rw [more_list] at hc
  rcases List.mem_append.mp hc with h | h
  · exact h1 c h
  · exact h2 c h
theorem Of.cut {z x : Str} (h : Of z x) (a b : Option Int) : Of z (cutS x a b) := fun c hc => by
  have hc2 : c ∈ (List.toArray ((x.cps.toList.drop (HT.sIx x.length 0 a)).take (HT.sIx x.length x.length b - HT.sIx x.length 0 a))).toList := hc
  rw [List.toList_toArray] at hc2
  exact h c (List.mem_of_mem_drop (List.mem_of_mem_take hc2))
theorem Of.fold {z x : Str} (hx : Of z x) : ∀ {R : List Rw} {k : Nat} {s : Str}, (∀ r ∈ R, Of z r.n) → Of z s → Of z (foldA x R k s)
  | [], k, s, _, hs => by
    rw [foldA_nil]
    exact hs.more (hx.cut _ _)
  | r :: R, k, s, h, hs => by
    rw [foldA_cons]
    exact Of.fold hx (fun q hq => h q (List.mem_cons_of_mem _ hq)) ((hs.more (hx.cut _ _)).more (h r List.mem_cons_self))
theorem cut_len {x : Str} {k b : Nat} (h1 : k < b) (h2 : k < x.length) : 1 ≤ (cutS x (some (k : Int)) (some (b : Int))).length ∧ (cutS x (some (k : Int)) (some (b : Int))).length ≤ b - k := by
  unfold cutS
  rw [HT.sIx_nat, HT.sIx_nat, Nat.min_eq_left (Nat.le_of_lt h2)]
  have hx : x.cps.toList.length = x.length := Array.length_toList
  have e : ((x.cps.toList.drop k).take (min b x.length - k)).toArray.size = min b x.length - k := by
    simp only [List.size_toArray, List.length_take, List.length_drop, hx]
    omega
  constructor
  · show 1 ≤ ((x.cps.toList.drop k).take (min b x.length - k)).toArray.size
    rw [e]
    omega
  · show ((x.cps.toList.drop k).take (min b x.length - k)).toArray.size ≤ b - k
    rw [e]
    omega
theorem fold_times {x : Str} {m : Nat} (hm : 1 ≤ m) : ∀ {R : List Rw} {k : Nat} {s : Str}, Ch x.length k R → (∀ r ∈ R, 1 ≤ r.o.length ∧ r.n.length ≤ m) → (foldA x R k s).length ≤ s.length + m * (x.length - k)
  | [], k, s, c, _ => by
    rw [foldA_nil, strLen_append, cutS_tail c]
    have : 1 * (x.length - k) ≤ m * (x.length - k) := Nat.mul_le_mul_right _ hm
    omega
  | r :: R, k, s, c, h => by
    rw [foldA_cons]
    have h1 := c.1
    have h2 := c.2.1
    have ih := fold_times hm (s := s ++ cutS x (some (k : Int)) (some (r.b : Int)) ++ r.n) c.2.2 fun q hq => h q (List.mem_cons_of_mem _ hq)
    obtain ⟨a, b⟩ := h r List.mem_cons_self
    unfold Rw.e at *
    rw [strLen_append, strLen_append, cutS_nat h1 (by omega)] at ih
    have d : x.length - k = (r.b - k) + (r.o.length + (x.length - (r.b + r.o.length))) := by omega
    have m1 : 1 * (r.b - k) ≤ m * (r.b - k) := Nat.mul_le_mul_right _ hm
    have m2 : m * 1 ≤ m * r.o.length := Nat.mul_le_mul_left _ a
    rw [d, Nat.mul_add, Nat.mul_add]
    omega
/-- short words -/
def Sml : EdM → Prop
  | .one _ z1 z2 => 1 ≤ z1.length ∧ z1.length ≤ 3 ∧ z2.length ≤ 3
  | .many ps => (∀ p ∈ ps, 1 ≤ p.1.length ∧ p.1.length ≤ 3 ∧ p.2.length ≤ 3) ∧ ps.length ≤ 3 ∧ (ps.map (·.1)).Nodup
theorem rows_lt {x : Str} : ∀ {ps : List (Str × Str)} {k : Nat} {r : Rw}, r ∈ rowsM x ps k → r.k < k + ps.length
  | p :: t, k, r, h => by
    rw [rowsM_cons] at h
    rw [List.length_cons]
    rcases List.mem_cons.mp h with rfl | h
    · show k < k + (t.length + 1)
      omega
    · have := rows_lt h
      omega
theorem rows_k {x : Str} {ps : List (Str × Str)} {r : Rw} (h : r ∈ rowsM x ps 0) (hl : ps.length ≤ 3) : r.k ≤ 3 := by
  have := rows_lt h
  omega
theorem Sml.rows {x : Str} {e : EdM} (h : Sml e) : ∀ r ∈ rowsE x e, 1 ≤ r.o.length ∧ r.n.length ≤ 3 ∧ r.k ≤ 3 := by
  cases e with
  | one n z1 z2 =>
    intro r hr
    obtain ⟨p, _, rfl⟩ := List.mem_map.mp hr
    exact ⟨h.1, h.2.2, Nat.zero_le _⟩
  | many ps =>
    intro r hr
    have hr2 := (ordM_perm _).mem_iff.mp hr
    obtain ⟨a, b, c⟩ := h.1 _ (rowsM_mem hr2).2.1
    exact ⟨a, c, rows_k hr2 h.2.1⟩
theorem Sml.ok {x : Str} {e : EdM} (h : Sml e) (hx : x.length ≤ 800) : OkE x e := by
  cases e with
  | one n z1 z2 => exact ⟨hx, Nat.le_trans h.2.1 (by decide), Nat.le_trans h.2.2 (by decide)⟩
  | many ps => exact ⟨hx, h.2.1, fun p hp => ⟨(h.1 p hp).1, Nat.le_trans (h.1 p hp).2.1 (by decide), Nat.le_trans (h.1 p hp).2.2 (by decide)⟩, h.2.2⟩
theorem Sml.thrice {x y : Str} {e : EdM} (h : Sml e) (o : outE x e = .txt y) : y.length ≤ 3 * x.length := by
  rw [outE_txt o]
  have e0 : (Str.ofString "").length = 0 := by decide +kernel
  have := fold_times (m := 3) (by decide) (s := "") (ch_rows o) fun r hr => ⟨(h.rows r hr).1, (h.rows r hr).2.1⟩
  omega
theorem bnd_small : ∀ {es : List EdM} {x : Str}, (∀ e ∈ es, Sml e) → x.length * 3 ^ es.length ≤ 2400 → BndA es x
  | [], _, _, _ => trivial
  | e :: r, x, h, hx => by
    have he := h e List.mem_cons_self
    rw [List.length_cons, Nat.pow_succ] at hx
    have p1 : 1 ≤ 3 ^ r.length := Nat.pow_pos (by decide)
    have x8 : x.length ≤ 800 := by
      have : x.length * (1 * 3) ≤ x.length * (3 ^ r.length * 3) := Nat.mul_le_mul_left _ (Nat.mul_le_mul_right _ p1)
      omega
    refine ⟨he.ok x8, fun y hy => bnd_small (fun e he => h e (List.mem_cons_of_mem _ he)) ?_⟩
    have h2 := he.thrice hy
    have : y.length * 3 ^ r.length ≤ 3 * x.length * 3 ^ r.length := Nat.mul_le_mul_right _ h2
    have e1 : 3 * x.length * 3 ^ r.length = x.length * (3 ^ r.length * 3) := by
      rw [Nat.mul_comm 3 x.length, Nat.mul_assoc, Nat.mul_comm 3]
    omega
theorem run_len : ∀ {es : List EdM} {i : Nat} {x y : Str}, (∀ e ∈ es, Sml e) → runA es i x = .txt y → y.length ≤ x.length * 3 ^ es.length
  | [], i, x, y, _, h => by
    cases (show OutR.txt x = .txt y from h)
    rw [List.length_nil]
    omega
  | e :: r, i, x, y, h, hy => by
    cases o : outE x e with
    | txt z =>
      rw [runA_txt o] at hy
      have a := run_len (fun e he => h e (List.mem_cons_of_mem _ he)) hy
      have b := (h e List.mem_cons_self).thrice o
      have c : z.length * 3 ^ r.length ≤ 3 * x.length * 3 ^ r.length := Nat.mul_le_mul_right _ b
      have e1 : 3 * x.length * 3 ^ r.length = x.length * (3 ^ r.length * 3) := by
        rw [Nat.mul_comm 3 x.length, Nat.mul_assoc, Nat.mul_comm 3]
      rw [List.length_cons, Nat.pow_succ]
      omega
    | no k => rw [runA_no o] at hy; cases hy
    | over => rw [runA_over o] at hy; cases hy
theorem run_snoc : ∀ {es : List EdM} {i : Nat} {x y z : Str} {e : EdM}, runA es i x = .txt y → outE y e = .txt z → runA (es ++ [e]) i x = .txt z
  | [], i, x, y, z, e, h, o => by
    cases (show OutR.txt x = .txt y from h)
    show runA [e] i x = _
    rw [runA_txt o]
    rfl
  | a :: r, i, x, y, z, e, h, o => by
    show runA (a :: (r ++ [e])) i x = _
    cases q : outE x a with
    | txt u => rw [runA_txt q] at h ⊢; exact run_snoc h o
    | no k => rw [runA_no q] at h; cases h
    | over => rw [runA_over q] at h; cases h
theorem isT_of {z : Str} (h : ∀ c ∈ z.cps.toList, c ∈ letS.cps.toList) : isT (.str z) = true := by
  rw [isT_all, List.all_eq_true]
  intro c hc
  simpa using h c hc
theorem isOld_of {z : Str} (h : isT (.str z) = true) (h1 : z.length ≤ 40) (h2 : 1 ≤ z.length) : isOld (.str z) = true := by
  rw [isOld_eq h, Bool.and_eq_true, decide_eq_true_eq, decide_eq_true_eq]
  omega
theorem isNew_of {z : Str} (h : isT (.str z) = true) (h1 : z.length ≤ 40) : isNew (.str z) = true := by
  rw [isNew_eq h, decide_eq_true_eq]
  omega
theorem gw_wds {sg : Str} {e : EdM} (fz : Few sg) (g : Gw sg 3 e) : Wds e ∧ Sml e := by
  have l1 : ∀ {a b : Nat} {x : Str}, Word sg a b x → Of letS x := fun g c hc => fz.2.2 c (g.2.2 c hc)
  have one : ∀ {z1 z2 : Str}, Word sg 1 3 z1 → Word sg 0 3 z2 → isOld (.str z1) = true ∧ isNew (.str z2) = true ∧ Srt (.str z1) ∧ Srt (.str z2) := fun {z1 z2} g1 g2 => by
    have m1 := g1.2.1
    have m2 := g2.2.1
    exact ⟨isOld_of (isT_of (l1 g1)) (by omega) g1.1, isNew_of (isT_of (l1 g2)) (by omega), ⟨by omega, ok_letters (l1 g1)⟩, ⟨by omega, ok_letters (l1 g2)⟩⟩
  cases e with
  | one n z1 z2 => exact ⟨one g.2.1 g.2.2, g.2.1.1, g.2.1.2.1, g.2.2.2.1⟩
  | many ps => exact ⟨⟨fun p hp => one (g.1 p hp).1 (g.1 p hp).2, g.2.1, g.2.2⟩, fun p hp => ⟨(g.1 p hp).1.1, (g.1 p hp).1.2.1, (g.1 p hp).2.2.1⟩, g.2⟩
theorem Gw.wide {sg : Str} {a b : Nat} {e : EdM} (h : a ≤ b) (g : Gw sg a e) : Gw sg b e := by
  have l1 : ∀ {c : Nat} {x : Str}, Word sg c a x → Word sg c b x := fun g => ⟨g.1, Nat.le_trans g.2.1 h, g.2.2⟩
  cases e with
  | one n z1 z2 => exact ⟨g.1, l1 g.2.1, l1 g.2.2⟩
  | many ps => exact ⟨fun q hq => ⟨l1 (g.1 q hq).1, l1 (g.1 q hq).2⟩, g.2⟩
theorem Gw.news {sg x : Str} {a : Nat} {e : EdM} (g : Gw sg a e) : ∀ r ∈ rowsE x e, Of sg r.n := by
  cases e with
  | one n z1 z2 =>
    intro r hr
    obtain ⟨p, _, rfl⟩ := List.mem_map.mp hr
    exact g.2.2.2.2
  | many ps =>
    intro r hr
    have hr2 := (ordM_perm _).mem_iff.mp hr
    exact (g.1 _ (rowsM_mem hr2).2.1).2.2.2
theorem Gw.of {sg x y : Str} {a : Nat} {e : EdM} (g : Gw sg a e) (hx : Of sg x) (o : outE x e = .txt y) : Of sg y := by
  rw [outE_txt o]
  exact hx.fold g.news (fun c hc => absurd hc (by
    rw [show ((Str.ofString "").cps.toList) = [] from by decide +kernel]
    exact List.not_mem_nil))
end
end Vk
set_option Elab.async false
set_option maxRecDepth 100000
set_option linter.all false
set_option maxHeartbeats 4000000
namespace Vk
open PySem PySem.Spec PyProof.Rows L2 LamX NdefX StX
/-! ## hunks make the result -/
def asm (X Y : List Nat) : List Gap → Nat → List Nat
  | [], c => X.drop c
  | (f, e, b, p) :: r, c => (X.drop c).take (f - c) ++ (Y.drop b).take (p - b) ++ asm X Y r e
theorem asm_cons {X Y : List Nat} {f e b p c : Nat} {r : List Gap} : asm X Y ((f, e, b, p) :: r) c = (X.drop c).take (f - c) ++ (Y.drop b).take (p - b) ++ asm X Y r e := rfl
theorem asm_step {X Y : List Nat} {e c : Nat} (he : X[e]? = some c) : ∀ {G : List Gap}, (∀ g ∈ G, e + 1 ≤ g.1) → asm X Y G e = c :: asm X Y G (e + 1)
  | [], _ => drop_at he
  | (f, e2, b, p) :: r, h => by
    have h1 : e + 1 ≤ f := h _ List.mem_cons_self
    rw [asm_cons, asm_cons, drop_at he, show f - e = (f - (e + 1)) + 1 from by omega, List.take_succ_cons]
    rfl
theorem asm_split {X Y : List Nat} {c : Nat} : ∀ {G : List Gap}, (∀ g ∈ G, c ≤ g.1) → asm X Y G 0 = X.take c ++ asm X Y G c
  | [], _ => (List.take_append_drop c X).symm
  | (f, e2, b, p) :: r, h => by
    have h1 : c ≤ f := h _ List.mem_cons_self
    rw [asm_cons, asm_cons, List.drop_zero, Nat.sub_zero]
    have : X.take f = X.take c ++ (X.drop c).take (f - c) := by
      rw [← List.take_add]
      congr 1
      omega
    rw [this]
    simp only [List.append_assoc]
theorem idx_ok {n : Nat} {L : List Lb} {p f b : Nat} (h : (idxs L).Pairwise (· < ·)) (hf : ∀ e ∈ idxs L, f ≤ e ∧ e < n) (hn : f ≤ n) (hb : b ≤ p) : ∀ r ∈ gapG (L ++ [.idx n]) p f b, f ≤ r.1 ∧ r.1 ≤ r.2.1 ∧ r.2.1 ≤ n ∧ r.2.2.1 ≤ r.2.2.2 := fun r hr => by
  have e : idxs (L ++ [.idx n]) = idxs L ++ [n] := idxs_app
  have := (gap_asc (n := n) (L := L ++ [.idx n]) (p := p) (f := f) (b := b) (by
    rw [e]
    refine List.pairwise_append.mpr ⟨h, List.pairwise_singleton _ _, fun i hi j hj => ?_⟩
    rw [List.mem_singleton.mp hj]
    exact (hf i hi).2) (fun i hi => by
    rw [e] at hi
    rcases List.mem_append.mp hi with hi | hi
    · have := hf i hi
      exact ⟨this.1, by omega⟩
    · rw [List.mem_singleton.mp hi]
      exact ⟨hn, Nat.le_refl _⟩) hb).2 r hr
  exact ⟨this.1, this.2.1, this.2.2.1, this.2.2.2.1⟩
theorem asm_gap {X Y : List Nat} {n : Nat} (hn : X.length = n) : ∀ {L : List Lb} {p f b : Nat}, (∀ j i, L[j]? = some (.idx i) → ∃ c, X[i]? = some c ∧ Y[p + j]? = some c) → (idxs L).Pairwise (· < ·) → (∀ e ∈ idxs L, f ≤ e ∧ e < n) → f ≤ n → b ≤ p → p + L.length = Y.length → asm X Y (gapG (L ++ [.idx n]) p f b) f = Y.drop b
  | [], p, f, b, _, _, _, fn, hb, hl => by
    show asm X Y ((if f < n ∨ b < p then [(f, n, b, p)] else []) ++ []) f = _
    rw [List.length_nil, Nat.add_zero] at hl
    rw [List.append_nil]
    by_cases c : f < n ∨ b < p
    · rw [if_pos c, asm_cons, Nat.sub_self, List.take_zero, List.nil_append, List.take_of_length_le (by rw [List.length_drop]; omega)]
      show _ ++ X.drop n = _
      have e1 : X.drop n = [] := List.drop_of_length_le (by omega)
      rw [e1, List.append_nil]
    · rw [if_neg c]
      show X.drop f = _
      rw [List.drop_of_length_le (by omega), List.drop_of_length_le (by omega)]
  | .put _ _ _ :: L, p, f, b, hL, ha, hf, fn, hb, hl => by
    show asm X Y (gapG (L ++ [.idx n]) (p + 1) f b) f = _
    rw [List.length_cons] at hl
    exact asm_gap hn (fun j i e => by
      obtain ⟨c, h1, h2⟩ := hL (j + 1) i e
      exact ⟨c, h1, by rw [show p + 1 + j = p + (j + 1) from by omega]; exact h2⟩) ha hf fn (by omega) (by omega)
  | .idx e :: L, p, f, b, hL, ha, hf, fn, hb, hl => by
    show asm X Y ((if f < e ∨ b < p then [(f, e, b, p)] else []) ++ gapG (L ++ [.idx n]) (p + 1) (e + 1) (p + 1)) f = _
    rw [List.length_cons] at hl
    rw [idxs_idx] at ha hf
    obtain ⟨h1, h2⟩ := List.pairwise_cons.mp ha
    have fe := hf e List.mem_cons_self
    have hf2 : ∀ a ∈ idxs L, e + 1 ≤ a ∧ a < n := fun a hm => ⟨h1 a hm, (hf a (List.mem_cons_of_mem _ hm)).2⟩
    have ih := asm_gap hn (L := L) (p := p + 1) (f := e + 1) (b := p + 1) (fun j i q => by
      obtain ⟨c, h1, h2⟩ := hL (j + 1) i q
      exact ⟨c, h1, by rw [show p + 1 + j = p + (j + 1) from by omega]; exact h2⟩) h2 hf2 (by omega) (Nat.le_refl _) (by omega)
    obtain ⟨c, c1, c2⟩ := hL 0 e rfl
    rw [Nat.add_zero] at c2
    have hd := idx_ok (p := p + 1) (f := e + 1) (b := p + 1) h2 hf2 (by omega) (Nat.le_refl _)
    have st : asm X Y (gapG (L ++ [.idx n]) (p + 1) (e + 1) (p + 1)) e = Y.drop p := by
      rw [asm_step c1 fun g hg => (hd g hg).1, ih, drop_at c2]
    by_cases c : f < e ∨ b < p
    · rw [if_pos c]
      show asm X Y ((f, e, b, p) :: gapG (L ++ [.idx n]) (p + 1) (e + 1) (p + 1)) f = _
      rw [asm_cons, Nat.sub_self, List.take_zero, List.nil_append, st]
      have : Y.drop p = (Y.drop b).drop (p - b) := by
        rw [List.drop_drop]
        congr 1
        omega
      rw [this, List.take_append_drop]
    · rw [if_neg c, List.nil_append, show f = e from by omega, show b = p from by omega]
      exact st
def goneL (G : List Gap) : List Nat := (G.map fun r => List.range' r.1 (r.2.1 - r.1)).flatten
theorem gone_ge {G : List Gap} {c : Nat} (h : ∀ r ∈ G, c ≤ r.1) : ∀ a ∈ goneL G, c ≤ a := fun a ha => by
  obtain ⟨l, hl, ha⟩ := List.mem_flatten.mp ha
  obtain ⟨r, hr, rfl⟩ := List.mem_map.mp hl
  have := h r hr
  have := (List.mem_range'_1.mp ha).1
  omega
theorem kept_gap {n : Nat} : ∀ {L : List Lb} {p f b : Nat}, (idxs L).Pairwise (· < ·) → (∀ e ∈ idxs L, f ≤ e ∧ e < n) → f ≤ n → b ≤ p → (List.range' f (n - f)).filter (fun a => !decide (a ∈ goneL (gapG (L ++ [.idx n]) p f b))) = idxs L
  | [], p, f, b, _, _, fn, hb => by
    show _ = []
    rw [List.filter_eq_nil_iff]
    intro a ha
    have := List.mem_range'_1.mp ha
    have m : a ∈ goneL (gapG ([] ++ [.idx n]) p f b) := by
      show a ∈ goneL ((if f < n ∨ b < p then [(f, n, b, p)] else []) ++ [])
      rw [if_pos (.inl (by omega))]
      show a ∈ List.range' f (n - f) ++ []
      rw [List.append_nil]
      exact ha
    rw [decide_eq_true m]
    decide
  | .put _ _ _ :: L, p, f, b, ha, hf, fn, hb => kept_gap (L := L) (p := p + 1) ha hf fn (by omega)
  | .idx e :: L, p, f, b, ha, hf, fn, hb => by
    rw [idxs_idx] at ha hf ⊢
    obtain ⟨h1, h2⟩ := List.pairwise_cons.mp ha
    have fe := hf e List.mem_cons_self
    have hf2 : ∀ a ∈ idxs L, e + 1 ≤ a ∧ a < n := fun a hm => ⟨h1 a hm, (hf a (List.mem_cons_of_mem _ hm)).2⟩
    have ih := kept_gap (L := L) (p := p + 1) (f := e + 1) (b := p + 1) h2 hf2 (by omega) (Nat.le_refl _)
    have hd := idx_ok (p := p + 1) (f := e + 1) (b := p + 1) h2 hf2 (by omega) (Nat.le_refl _)
    have gg := gone_ge (c := e + 1) fun r hr => (hd r hr).1
    have eq : goneL (gapG ((.idx e :: L) ++ [.idx n]) p f b) = List.range' f (e - f) ++ goneL (gapG (L ++ [.idx n]) (p + 1) (e + 1) (p + 1)) := by
      show goneL ((if f < e ∨ b < p then [(f, e, b, p)] else []) ++ gapG (L ++ [.idx n]) (p + 1) (e + 1) (p + 1)) = _
      by_cases c : f < e ∨ b < p
      · rw [if_pos c]
        rfl
      · rw [if_neg c, show e - f = 0 from by omega]
        rfl
    have spl : List.range' f (n - f) = List.range' f (e - f) ++ (e :: List.range' (e + 1) (n - (e + 1))) := by
      have e1 : List.range' f (e - f) ++ List.range' (f + (e - f)) (n - e) = List.range' f ((e - f) + (n - e)) := List.range'_append_1
      rw [show n - f = (e - f) + (n - e) from by omega, ← e1, show f + (e - f) = e from by omega, show n - e = (n - (e + 1)) + 1 from by omega, List.range'_succ]
    rw [eq, spl, List.filter_append]
    have z1 : (List.range' f (e - f)).filter (fun a => !decide (a ∈ List.range' f (e - f) ++ goneL (gapG (L ++ [.idx n]) (p + 1) (e + 1) (p + 1)))) = [] := by
      rw [List.filter_eq_nil_iff]
      intro a ha
      rw [decide_eq_true (List.mem_append_left _ ha)]
      decide
    have ne : e ∉ List.range' f (e - f) ++ goneL (gapG (L ++ [.idx n]) (p + 1) (e + 1) (p + 1)) := fun m => by
      rcases List.mem_append.mp m with m | m
      · have := List.mem_range'_1.mp m
        omega
      · have := gg e m
        omega
    rw [z1, List.nil_append, List.filter_cons_of_pos (by rw [decide_eq_false ne]; rfl), ← ih]
    congr 1
    refine List.filter_congr fun a ha => ?_
    have ar := List.mem_range'_1.mp ha
    have : a ∈ List.range' f (e - f) ++ goneL (gapG (L ++ [.idx n]) (p + 1) (e + 1) (p + 1)) ↔ a ∈ goneL (gapG (L ++ [.idx n]) (p + 1) (e + 1) (p + 1)) := by
      rw [List.mem_append]
      refine ⟨fun m => m.elim (fun m => ?_) id, .inr⟩
      have := List.mem_range'_1.mp m
      omega
    exact congrArg (fun z => !z) (decide_eq_decide.mpr this)
theorem gap_far {n : Nat} : ∀ {L : List Lb} {p f b : Nat}, (idxs L).Pairwise (· < ·) → (∀ e ∈ idxs L, f ≤ e ∧ e < n) → f ≤ n → b ≤ p → (gapG (L ++ [.idx n]) p f b).Pairwise (fun r s => r.2.1 < s.1) ∧ ∀ r ∈ gapG (L ++ [.idx n]) p f b, r.1 < r.2.1 ∨ r.2.2.1 < r.2.2.2
  | [], p, f, b, _, _, fn, hb => by
    show ((if f < n ∨ b < p then [(f, n, b, p)] else []) ++ []).Pairwise _ ∧ ∀ r ∈ (if f < n ∨ b < p then [(f, n, b, p)] else ([] : List Gap)) ++ [], _
    rw [List.append_nil]
    by_cases c : f < n ∨ b < p
    · rw [if_pos c]
      exact ⟨List.pairwise_singleton _ _, fun r hr => by rw [List.mem_singleton.mp hr]; exact c⟩
    · rw [if_neg c]
      exact ⟨.nil, fun r hr => absurd hr List.not_mem_nil⟩
  | .put _ _ _ :: L, p, f, b, ha, hf, fn, hb => gap_far (L := L) (p := p + 1) ha hf fn (by omega)
  | .idx e :: L, p, f, b, ha, hf, fn, hb => by
    rw [idxs_idx] at ha hf
    obtain ⟨h1, h2⟩ := List.pairwise_cons.mp ha
    have fe := hf e List.mem_cons_self
    have hf2 : ∀ a ∈ idxs L, e + 1 ≤ a ∧ a < n := fun a hm => ⟨h1 a hm, (hf a (List.mem_cons_of_mem _ hm)).2⟩
    obtain ⟨i1, i2⟩ := gap_far (L := L) (p := p + 1) (f := e + 1) (b := p + 1) h2 hf2 (by omega) (Nat.le_refl _)
    have hd := idx_ok (p := p + 1) (f := e + 1) (b := p + 1) h2 hf2 (by omega) (Nat.le_refl _)
    show ((if f < e ∨ b < p then [(f, e, b, p)] else []) ++ gapG (L ++ [.idx n]) (p + 1) (e + 1) (p + 1)).Pairwise _ ∧ ∀ r ∈ (if f < e ∨ b < p then [(f, e, b, p)] else []) ++ gapG (L ++ [.idx n]) (p + 1) (e + 1) (p + 1), _
    by_cases c : f < e ∨ b < p
    · rw [if_pos c]
      refine ⟨List.pairwise_cons.mpr ⟨fun r hr => ?_, i1⟩, fun r hr => ?_⟩
      · have := (hd r hr).1
        show e < r.1
        omega
      · rcases List.mem_cons.mp hr with rfl | hr
        · exact c
        · exact i2 r hr
    · rw [if_neg c]
      exact ⟨i1, i2⟩
/-- all of it, of a program that is right -/
theorem all_gaps {es : List EdM} {x y : Str} {L : List Lb} (hy : runA es 0 x = .txt y) (hL : labsA es 0 x (start0 x) = .labs L) : asm x.cps.toList y.cps.toList (gapsM L x.length) 0 = y.cps.toList ∧ (List.range x.length).filter (fun a => !decide (a ∈ goneL (gapsM L x.length))) = idxs L ∧
    (gapsM L x.length).Pairwise (fun r s => r.2.1 < s.1) ∧ ∀ r ∈ gapsM L x.length, (r.1 < r.2.1 ∨ r.2.2.1 < r.2.2.2) ∧ r.1 ≤ r.2.1 ∧ r.2.1 ≤ x.length ∧ r.2.2.1 ≤ r.2.2.2 ∧ r.2.2.2 ≤ y.length := by
  obtain ⟨k1, k2⟩ := kept_asc hL
  obtain ⟨g1, g2⟩ := gaps_ok hL
  obtain ⟨L', hL', lL⟩ := labs_is (start_len (x := x)) hy
  rw [hL] at hL'
  cases hL'
  have xl : x.cps.toList.length = x.length := Array.length_toList
  have yl : y.cps.toList.length = y.length := Array.length_toList
  have lt : Paired (LtrR es x) L y.cps.toList := labs_ltr (es := es) (x := x) (r := es) (i := 0) rfl start_ltr hy hL
  have kf : ∀ e ∈ idxs L, 0 ≤ e ∧ e < x.length := fun e he => ⟨Nat.zero_le _, k2 e he⟩
  obtain ⟨f1, f2⟩ := gap_far (n := x.length) (L := L) (p := 0) (f := 0) (b := 0) k1 kf (Nat.zero_le _) (Nat.le_refl _)
  refine ⟨asm_gap xl (L := L) (p := 0) (f := 0) (b := 0) (fun j i e => ?_) k1 kf (Nat.zero_le _) (Nat.le_refl _) (by omega), ?_, f1, fun r hr => ?_⟩
  · obtain ⟨c, hc, r⟩ := paired_at lt e
    exact ⟨c, r, by rw [Nat.zero_add]; exact hc⟩
  · have := kept_gap (n := x.length) (L := L) (p := 0) (f := 0) (b := 0) k1 kf (Nat.zero_le _) (Nat.le_refl _)
    rw [Nat.sub_zero, ← List.range_eq_range'] at this
    exact this
  · have := g2 r hr
    exact ⟨f2 r hr, this.1, this.2.1, this.2.2.1, by omega⟩
end Vk
set_option Elab.async false
set_option maxRecDepth 100000
set_option linter.all false
set_option maxHeartbeats 4000000
namespace Vk
open PySem PySem.Spec PyProof.Rows L2 LamX NdefX StX
section
variable {P : Program} {w : World} {K : PySem.W.Frag} {mg : Str → Option Value} {base : Heap}
variable {C_Once C_First C_Perhaps C_Every C_AtOnce C_Edit C_Program C_NoPlace C_Overlap C_InvalidText : Addr}
theorem cutS_head_list {x : Str} {b : Nat} (h : b ≤ x.length) : (cutS x none (some (b : Int))).cps.toList = x.cps.toList.take b := by
  unfold cutS
  rw [HT.sIx_none, HT.sIx_nat, Nat.min_eq_left h]
  rfl
theorem asm_len {X Y : List Nat} : ∀ {G : List Gap} {c : Nat}, (asm X Y G c).length ≤ (G.length + 1) * (X.length + Y.length)
  | [], c => by
    show (X.drop c).length ≤ _
    rw [List.length_drop, List.length_nil]
    omega
  | (f, e, b, p) :: r, c => by
    have ih := asm_len (X := X) (Y := Y) (G := r) (c := e)
    rw [asm_cons, List.length_append, List.length_append, List.length_take, List.length_take, List.length_drop, List.length_drop, List.length_cons, Nat.add_mul (r.length + 1) 1]
    omega
theorem done_step {x y t : Str} {f e b p : Nat} {r : List Gap} (h1 : f ≤ e) (h2 : e ≤ x.length) (h3 : b ≤ p) (h4 : p ≤ y.length) (hr : ∀ s ∈ r, e ≤ s.1) (ht : t.cps.toList = asm x.cps.toList y.cps.toList r 0) :
    e ≤ t.length ∧ (cutS t none (some (f : Int)) ++ cutS y (some (b : Int)) (some (p : Int)) ++ cutS t (some (e : Int)) none).cps.toList = asm x.cps.toList y.cps.toList ((f, e, b, p) :: r) 0 := by
  have xl : x.cps.toList.length = x.length := Array.length_toList
  have tl : t.cps.toList.length = t.length := Array.length_toList
  have sp := asm_split (X := x.cps.toList) (Y := y.cps.toList) hr
  have te : e ≤ t.length := by
    rw [← tl, ht, sp, List.length_append, List.length_take]
    omega
  refine ⟨te, ?_⟩
  rw [more_list, more_list, cutS_head_list (by omega), cutS_list h3 h4, cutS_tail_list te, ht, asm_cons, List.drop_zero, Nat.sub_zero]
  have le : (x.cps.toList.take e).length = e := by rw [List.length_take]; omega
  congr 1
  · congr 1
    rw [sp, List.take_append_of_le_length (by omega), List.take_take, Nat.min_eq_left h1]
  · rw [sp, List.drop_left' le]
def spDone : Sp := fun vs H Q _ => ∃ x y G l xs, vs = [.str x, .ref l] ∧ H l = some (.lst xs) ∧ HunksR H xs (G.map (ofGap y)) ∧ G.Pairwise (fun r s => r.2.1 < s.1) ∧ (∀ r ∈ G, r.1 ≤ r.2.1 ∧ r.2.1 ≤ x.length ∧ r.2.2.1 ≤ r.2.2.2 ∧ r.2.2.2 ≤ y.length) ∧ x.length ≤ 100 ∧ y.length ≤ 2900 ∧ G.length ≤ 200 ∧ asm x.cps.toList y.cps.toList G 0 = y.cps.toList ∧ ∀ H', Same H H' → Q (.str y) H'
abbrev s_ldone : Stmt := top 62
theorem sc_ldone : FnScope ["_law_text_here", "_law_some", "_law_begin", "_law_end", "_law_fresh"] ["_law_text_here", "_law_some"] (defScope s_ldone) := ⟨rfl, rfl, rfl, by decide +kernel, rfl, by decide +kernel, by decide +kernel⟩
theorem b_ldone {f : Addr} {fd : FuncData} (F : Fun K "_law_done" "_law_done" s_ldone f fd) (T : Txt mg) : FnG P w K mg base CX0 1 f fd ["_law_text_here", "_law_some"] spDone := by
  refine okG0 F sc_ldone (fun vs H Q E h => ?_) (fun cdv A outer s H vs Q E hg hr h => ?_)
  · obtain ⟨x, y, G, l, xs, rfl, _⟩ := h
    rfl
  · have hu := hu_of hr
    have hu64 := hr.units
    obtain ⟨x, y, G, l, xs, rfl, hl, hk, gp, gok, x1, y29, g2, ha, k⟩ := h
    have xl := paired_len hk
    rw [List.length_map] at xl
    have lx : x.cps.toList.length = x.length := Array.length_toList
    have ly : y.cps.toList.length = y.length := Array.length_toList
    refine ⟨_, (pss_cons (ps_for PassesOwn.never rfl (pi_list (pe_revL (pv 1))) (pg_tup rfl (pgs_cons (pg_name (i := 2) sc_ldone.nd rfl (Or.inl rfl)) (pgs_cons (pg_name (i := 3) sc_ldone.nd rfl (Or.inl rfl)) (pgs_cons (pg_name (i := 4) sc_ldone.nd rfl (Or.inl rfl)) pgs_nil)))) (pss_one (ps_set (i := 0) sc_ldone.nd rfl (Or.inl rfl) (pe_op op_add_str (pe_op op_add_str (pe_slice sl_str (pv 0) po_none (po_some (pv 2))) (pv 4)) (pe_slice sl_str (pv 0) (po_some (pv 3)) po_none)))))
      (pss_one (ps_ret (pv 0)))), ?_⟩
    refine ⟨_, rfl, l, xs, rfl, SqL.of hl, fun D hD => ?_⟩
    have sD := same_new (o := .lst xs.reverse) hD
    have hD2 : (upd H D (.lst xs.reverse)) D = some (.lst xs.reverse) := upd_same
    generalize upd H D (.lst xs.reverse) = H1 at sD hD2 ⊢
    refine ⟨D, rfl, ⟨_, SqL.of hD2⟩, ?_⟩
    refine for_list (xs := xs.reverse) (fun i σ H' => ∃ (t : Str) (o2 o3 o4 : Option V), σ = [some (.str t), some (.ref l), o2, o3, o4] ∧ Same H1 H' ∧ t.cps.toList = asm x.cps.toList y.cps.toList (G.drop (G.length - i)) 0) ?_ ?_ ?_ ?_
    · refine ⟨x, _, _, _, rfl, Same.rfl, ?_⟩
      rw [Nat.sub_zero, List.drop_length]
      rfl
    · rintro i σ H' _ ⟨t, o2, o3, o4, rfl, sm, _⟩
      exact SqL.of (sm _ _ hD2)
    · rintro i v σ H' hv ⟨t, o2, o3, o4, rfl, sm, ht⟩
      have il := (List.getElem?_eq_some_iff.mp hv).1
      rw [List.length_reverse] at il
      rw [List.getElem?_reverse il] at hv
      obtain ⟨h, hh, u, rfl, hu⟩ := paired_at hk hv
      rw [List.getElem?_map] at hh
      obtain ⟨⟨f1, e1, b1, p1⟩, hr1, rfl⟩ := Option.map_eq_some_iff.mp hh
      have hu2 := sm _ _ (sD _ _ hu)
      have gk := gok _ (List.mem_of_getElem? hr1)
      have dr : G.drop (G.length - i) = G.drop (xs.length - 1 - i + 1) := by
        congr 1
        omega
      have dr2 : G.drop (G.length - (i + 1)) = (f1, e1, b1, p1) :: G.drop (xs.length - 1 - i + 1) := by
        rw [show G.length - (i + 1) = xs.length - 1 - i from by omega]
        exact drop_at hr1
      rw [dr] at ht
      have far : ∀ s ∈ G.drop (xs.length - 1 - i + 1), e1 ≤ s.1 := fun s hs => by
        have q := gp
        rw [← List.take_append_drop (xs.length - 1 - i) G, drop_at hr1] at q
        have := (List.pairwise_cons.mp (List.pairwise_append.mp q).2.1).1 s hs
        exact Nat.le_of_lt this
      obtain ⟨te, hn⟩ := done_step (f := f1) gk.1 gk.2.1 gk.2.2.1 gk.2.2.2 far ht
      have tl : t.length ≤ 700000 := by
        have a := asm_len (X := x.cps.toList) (Y := y.cps.toList) (G := G.drop (xs.length - 1 - i + 1)) (c := 0)
        rw [← ht, lx, ly] at a
        have b : t.cps.toList.length = t.length := Array.length_toList
        have c : ((G.drop (xs.length - 1 - i + 1)).length + 1) * (x.length + y.length) ≤ 201 * 3000 := Nat.mul_le_mul (by rw [List.length_drop]; omega) (by omega)
        omega
      have c1 := cutS_len t none (some (f1 : Int))
      have c2 := cutS_len t (some (e1 : Int)) none
      have c3 := cutS_len y (some (b1 : Int)) (some (p1 : Int))
      have q1 : (cutS t none (some (f1 : Int))).length + (cutS y (some (b1 : Int)) (some (p1 : Int))).length ≤ sizeLine := by rw [sizeLine_eq]; omega
      have q2 : (cutS t none (some (f1 : Int)) ++ cutS y (some (b1 : Int)) (some (p1 : Int))).length + (cutS t (some (e1 : Int)) none).length ≤ sizeLine := by rw [strLen_append, sizeLine_eq]; omega
      refine ⟨u, _, rfl, SqT.of hu2, rfl, _, _, rfl, _, _, rfl, _, _, rfl, rfl, ?_⟩
      refine ⟨_, rfl, _, rfl, _, rfl, _, rfl, by rw [sizeLine_eq]; omega, _, rfl, _, _, rfl, rfl, q1, ?_⟩
      refine ⟨_, rfl, _, rfl, _, rfl, _, rfl, by rw [sizeLine_eq]; omega, _, _, rfl, rfl, q2, ?_⟩
      refine ⟨_, _, _, _, rfl, sm, ?_⟩
      rw [dr2]
      exact hn
    · rintro σ H' ⟨t, o2, o3, o4, rfl, sm, ht⟩
      rw [List.length_reverse, show G.length - xs.length = 0 from by omega, List.drop_zero, ha] at ht
      have : t = y := Str.ext' (Array.toList_inj.mp ht)
      subst this
      exact ⟨_, rfl, k _ (sD.trans sm)⟩
abbrev s_lsorts : Stmt := top 64
theorem sc_lsorts : FnScope [] [] (defScope s_lsorts) := ⟨rfl, rfl, rfl, by decide +kernel, rfl, by decide +kernel, by decide +kernel⟩
def KS : List Nat := [0, 0, 1, 2, 3, 4]
def spSorts : Sp := fun vs H Q _ => vs = [] ∧ ∀ l, H l = none → Q (.ref l) (upd H l (.lst (srtV KS)))
theorem b_lsorts {f : Addr} {fd : FuncData} (F : Fun K "_law_sorts" "_law_sorts" s_lsorts f fd) (T : Txt mg) : FnG P w K mg base CX0 1 f fd [] spSorts := by
  refine okG0 F sc_lsorts (fun vs H Q E h => ?_) (fun cdv A outer s H vs Q E hg hr h => ?_)
  · obtain ⟨rfl, _⟩ := h
    rfl
  · obtain ⟨rfl, k⟩ := h
    refine ⟨_, (pss_one (ps_ret (pe_lst (pa_cons pe_str (pa_cons pe_str (pa_cons pe_str (pa_cons pe_str (pa_cons pe_str (pa_cons pe_str pa_nil))))))))), ?_⟩
    exact ⟨few_len (Nat.le_of_ble_eq_true rfl), fun l hl => k l hl⟩
end
end Vk
set_option Elab.async false
set_option maxRecDepth 100000
set_option linter.all false
set_option maxHeartbeats 4000000
namespace Vk
open PySem PySem.Spec PyProof.Rows L2 LamX NdefX StX
section
variable {P : Program} {w : World} {K : PySem.W.Frag} {mg : Str → Option Value} {base : Heap}
variable {C_Once C_First C_Perhaps C_Every C_AtOnce C_Edit C_Program C_NoPlace C_Overlap C_InvalidText : Addr}
theorem seq_mid {A B : TS} {D : Ends} {σ : L2.St} {H : Hp} (Mid : L2.St → Hp → Prop) (h1 : ∀ D', (∀ σ H, Mid σ H → D'.nx σ H) → A D' σ H) (h2 : ∀ σ H, Mid σ H → B D σ H) : tSeq A B D σ H := h1 _ h2
theorem name_go {i : Nat} {v : V} {σ : L2.St} {H : Hp} {Q : L2.St → Hp → Prop} (h : Q (σ.set i (some v)) H) : gName i v σ H Q := h
structure FB (p c : Addr) (H0 : Hp) (lo : Addr) (got : List V) (es : List EdM) (T : Nat) (H : Hp) : Prop where
  pen : Pen H p c T
  ext : Ext p H0 H
  hg : H lo = some (.lst got)
  pl : Plains H got es
theorem Plains.ext {H H1 : Hp} {xs : List V} {es : List EdM} {p c : Addr} {T : Nat} (q : Plains H xs es) (P : Pen H p c T) (x : Ext p H H1) : Plains H1 xs es := paired_impl (fun v e h => h.ext P x) q
theorem FB.draw {p c lo : Addr} {H0 H H1 : Hp} {got : List V} {es : List EdM} {T T1 : Nat} (b : FB p c H0 lo got es T H) (P : Pen H1 p c T1) (x : Ext p H H1) : FB p c H0 lo got es T1 H1 :=
  ⟨P, b.ext.trans x, x _ _ b.hg (b.pen.ne b.hg), b.pl.ext b.pen x⟩
theorem FB.same {p c lo : Addr} {H0 H H1 : Hp} {got : List V} {es : List EdM} {T : Nat} (b : FB p c H0 lo got es T H) (s : Same H H1) : FB p c H0 lo got es T H1 := b.draw (b.pen.stay s) (Ext.same s)
theorem FB.mono {p c lo : Addr} {H0 H : Hp} {got : List V} {es : List EdM} {T T1 : Nat} (b : FB p c H0 lo got es T H) (h : T ≤ T1) : FB p c H0 lo got es T1 H := ⟨b.pen.mono h, b.ext, b.hg, b.pl⟩
theorem tup_put {H : Hp} {D u : Addr} {xs ws : List V} {o : HO} (hd : H D = some (.lst xs)) (h : H u = some (.tup ws)) : (upd H D o) u = some (.tup ws) := by
  rw [upd_ne (fun e => by rw [e, hd] at h; cases h)]
  exact h
theorem FB.put {p c lo D : Addr} {H0 H : Hp} {got xs ys : List V} {es : List EdM} {T : Nat} (b : FB p c H0 lo got es T H) (h1 : D ≠ p) (h2 : D ≠ c) (h0 : H0 D = none) (hl : lo ≠ D) (hd : H D = some (.lst xs)) : FB p c H0 lo got es T (upd H D (.lst ys)) :=
  ⟨b.pen.set h1 h2, b.ext.set h0, (upd_ne hl).trans b.hg, paired_impl (fun v e h => h.keep fun u ws h => tup_put hd h) b.pl⟩
def srtE : EdM → Str
  | .one n _ _ => sortAt n
  | .many _ => "together"
theorem Plain.top {H : Hp} {v : V} {e : EdM} (p : Plain H v e) : ∃ t t2, v = .ref t ∧ H t = some (.tup [.str (srtE e), .ref t2]) := by
  cases e with
  | one n z1 z2 =>
    obtain ⟨hn, t, t2, t3, rfl, h1, h2, h3⟩ := p
    exact ⟨t, t2, rfl, h1⟩
  | many ps =>
    obtain ⟨t, t2, rfl, h1, h2⟩ := p
    exact ⟨t, t2, rfl, h1⟩
theorem srt_many {sg : Str} {a : Nat} {e : EdM} (g : Gw sg a e) : decide (V.str (srtE e) = V.str "together") = (match e with | .one _ _ _ => false | .many _ => true) := by
  cases e with
  | one n z1 z2 => exact (sort_is n g.1).1
  | many ps => exact decide_eq_true rfl
theorem ne_nil {y : Str} : (!decide (V.str y = V.str "")) = decide (0 < y.length) := by
  have e0 : (Str.ofString "").length = 0 := by decide +kernel
  by_cases c : 0 < y.length
  · rw [decide_eq_true c, decide_eq_false]
    · rfl
    · intro z
      rw [V.str.inj z] at c
      omega
  · rw [decide_eq_false c, decide_eq_true]
    · rfl
    · exact congrArg V.str (str_none (by omega))
def spFit : Sp := fun vs H Q _ => ∃ (p c : Addr) (sg x : Str) (m : Nat) (so : Addr) (ks : List Nat) (T : Nat), vs = [.ref p, .str sg, .str x, .int (m : Nat), .ref so] ∧ Few sg ∧ Of sg x ∧ H so = some (.lst (srtV ks)) ∧ (∀ n ∈ ks, n < 5) ∧ ks ≠ [] ∧ ks.length ≤ 10 ∧ m ≤ 10 ∧ x.length * 3 ^ m ≤ 2400 ∧ Pen H p c T ∧ T + 2000 < 1000000000 ∧
  ∀ l xs es H', H l = none → H' l = some (.lst xs) → Plains H' xs es → (∀ e ∈ es, Gw sg 3 e) → es.length ≤ m → (∃ y, runA es 0 x = .txt y) → Pen H' p c (T + 100 * m) → Ext p H H' → Q (.ref l) H'
abbrev s_lfitting : Stmt := top 63
theorem sc_lfitting : FnScope ["_law_pen_here", "_law_signs_here", "_law_text_here", "_law_many", "_law_sorts_here", "_law_found", "_law_k", "_law_plain", "_law_at", "_law_olds", "_law_turn", "_law_was", "_law_swaps_here"] ["_law_pen_here", "_law_signs_here", "_law_text_here", "_law_many", "_law_sorts_here"] (defScope s_lfitting) := ⟨rfl, rfl, rfl, by decide +kernel, rfl, by decide +kernel, by decide +kernel⟩
theorem b_lfitting {f : Addr} {fd : FuncData} (F : Fun K "_law_fitting" "_law_fitting" s_lfitting f fd) (T : Txt mg) (c_ldraw : CalG P w K mg base CX0 1 "_law_draw" spDraw) (c_lword : CalG P w K mg base CX0 3 "_law_word" spWord) (c_ledit : CalG P w K mg base CX0 4 "_law_edit" spPlain) (c_lswaps : CalG P w K mg base CX0 2 "_law_swaps" spSwaps) (c_lswapped : CalG P w K mg base CX0 1 "_law_swapped" spSwapped) : FnG P w K mg base CX0 5 f fd ["_law_pen_here", "_law_signs_here", "_law_text_here", "_law_many", "_law_sorts_here"] spFit := by
  refine okG0 F sc_lfitting (fun vs H Q E h => ?_) (fun cdv A outer s H vs Q E hg hr h => ?_)
  · obtain ⟨p, pc, sg, x, m, so, ks, T0, rfl, _⟩ := h
    rfl
  · have hu := hu_of hr
    have hu64 := hr.units
    obtain ⟨p, pc, sg, x, m, so, ks, T0, rfl, fz, xo, hso, hks, hne, hkl, hm10, x24, hpen, hT, k⟩ := h
    refine ⟨_, (pss_cons (ps_set (i := 5) sc_lfitting.nd rfl (Or.inl rfl) (pe_lst pa_nil))
      (pss_cons (ps_for PassesOwn.never rfl (pi_range1 rfl T.range (pa_cons (pv 3) pa_nil)) (pg_name (i := 6) sc_lfitting.nd rfl (Or.inl rfl)) (pss_cons (ps_set (i := 7) sc_lfitting.nd rfl (Or.inl rfl) (pe_cG c_ledit hg hr (by decide) pass0 (pa_cons (pv 0) (pa_cons (pv 1) (pa_cons pe_int (pa_cons (pv 4) pa_nil))))))
      (pss_cons (ps_if (PW.pt (pw_and (pt_cmpR op_ne (pv 2) pe_str (nomark _)) (pw_and (pt_cmpR op_ne (pe_ix ix_seq (pv 7) pe_int (fun _ _ => rfl)) pe_str (nomark _)) (pw_and1 (pt_cmpR op_gt (pe_cG c_ldraw hg hr (by decide) pass0 (pa_cons (pv 0) (pa_cons pe_int pa_nil))) pe_int (nomark _)))))) (pss_cons (ps_set (i := 8) sc_lfitting.nd rfl (Or.inr rfl) (pe_cG c_ldraw hg hr (by decide) pass0 (pa_cons (pv 0) (pa_cons (pe_callB call_len (by rfl) T.len (by decide +kernel) (pa_cons (pv 2) pa_nil)) pa_nil))))
      (pss_one (ps_set (i := 7) sc_lfitting.nd rfl (Or.inl rfl) (pe_tup (pa_cons (pe_ix ix_seq (pv 7) pe_int (fun _ _ => rfl)) (pa_cons (pe_tup (pa_cons (pe_tup (pa_cons (pe_slice sl_str (pv 2) (po_some (pv 8)) (po_some (pe_op op_add (pe_op op_add (pv 8) pe_int) (pe_cG c_ldraw hg hr (by decide) pass0 (pa_cons (pv 0) (pa_cons pe_int pa_nil)))))) (pa_cons (pe_ix ix_seq (pe_ix ix_seq (pe_ix ix_seq (pv 7) pe_int (fun _ _ => rfl)) pe_int (fun _ _ => rfl)) pe_int (fun _ _ => rfl)) pa_nil))) pa_nil)) pa_nil)))))) pss_nil)
      (pss_cons (ps_if (PW.pt (pw_and (pt_cmpR op_ne (pv 2) pe_str (nomark _)) (pw_and (pt_cmpR op_eq (pe_ix ix_seq (pv 7) pe_int (fun _ _ => rfl)) pe_str (nomark _)) (pw_and1 (pt_cmpR op_gt (pe_cG c_ldraw hg hr (by decide) pass0 (pa_cons (pv 0) (pa_cons pe_int pa_nil))) pe_int (nomark _)))))) (pss_cons (ps_set (i := 9) sc_lfitting.nd rfl (Or.inl rfl) (pe_lst pa_nil))
      (pss_cons (ps_for PassesOwn.never rfl (pi_range1 rfl T.range (pa_cons (pe_op op_add pe_int (pe_cG c_ldraw hg hr (by decide) pass0 (pa_cons (pv 0) (pa_cons pe_int pa_nil)))) pa_nil)) (pg_name (i := 10) sc_lfitting.nd rfl (Or.inl rfl)) (pss_cons (ps_set (i := 8) sc_lfitting.nd rfl (Or.inr rfl) (pe_cG c_ldraw hg hr (by decide) pass0 (pa_cons (pv 0) (pa_cons (pe_callB call_len (by rfl) T.len (by decide +kernel) (pa_cons (pv 2) pa_nil)) pa_nil))))
      (pss_one (ps_set (i := 9) sc_lfitting.nd rfl (Or.inl rfl) (pe_op op_cat (pe_lc (own := [("_law_was", 11)]) (g := gName 11) rfl sc_lfitting.nd (pi_list (pv 9)) (blkOk_by (own := [("_law_was", 11)]) (N := ["_law_pen_here", "_law_signs_here", "_law_text_here", "_law_many", "_law_sorts_here", "_law_found", "_law_k", "_law_plain", "_law_at", "_law_olds", "_law_turn", "_law_was", "_law_swaps_here"]) (sc := defScope s_lfitting) (by decide +kernel)) (fun _ _ _ _ _ => (pg_name (i := 11) sc_lfitting.nd rfl (Or.inl rfl))) (fun _ _ _ _ _ => (pts_one (pt_cmpR op_ne (pv 11) (pe_slice sl_str (pv 2) (po_some (pv 8)) (po_some (pe_op op_add (pv 8) pe_int))) (nomark _)))) (fun _ _ _ _ _ => (pv 11))) (pe_lst (pa_cons (pe_slice sl_str (pv 2) (po_some (pv 8)) (po_some (pe_op op_add (pv 8) pe_int))) pa_nil)))))))
      (pss_one (ps_set (i := 7) sc_lfitting.nd rfl (Or.inl rfl) (pe_tup (pa_cons pe_str (pa_cons (pe_callTy call_tuple_of (by rfl) T.tuple (by decide +kernel) (pa_cons (pe_lc (own := [("_law_was", 11)]) (g := gName 11) (tt := tYes) rfl sc_lfitting.nd (pi_list (pv 9)) (blkOk_by (own := [("_law_was", 11)]) (N := ["_law_pen_here", "_law_signs_here", "_law_text_here", "_law_many", "_law_sorts_here", "_law_found", "_law_k", "_law_plain", "_law_at", "_law_olds", "_law_turn", "_law_was", "_law_swaps_here"]) (sc := defScope s_lfitting) (by decide +kernel)) (fun _ _ _ _ _ => (pg_name (i := 11) sc_lfitting.nd rfl (Or.inl rfl))) (fun _ _ _ _ _ => pts_nil) (fun _ _ _ _ _ => (pe_tup (pa_cons (pv 11) (pa_cons (pe_cG c_lword hg hr (by decide) pass0 (pa_cons (pv 0) (pa_cons (pv 1) (pa_cons pe_int (pa_cons pe_int pa_nil))))) pa_nil))))) pa_nil)) pa_nil))))))) pss_nil)
      (pss_cons (ps_if (PW.pt (pw_and (pt_cmpR op_eq (pe_ix ix_seq (pv 7) pe_int (fun _ _ => rfl)) pe_str (nomark _)) (pw_and1 (pt_cmpR op_gt (pe_callB call_len (by rfl) T.len (by decide +kernel) (pa_cons (pv 2) pa_nil)) pe_int (nomark _))))) (pss_one (ps_set (i := 7) sc_lfitting.nd rfl (Or.inl rfl) (pe_tup (pa_cons pe_str (pa_cons (pe_ix ix_seq (pv 7) pe_int (fun _ _ => rfl)) pa_nil))))) pss_nil)
      (pss_cons (ps_set (i := 12) sc_lfitting.nd rfl (Or.inl rfl) (pe_cG c_lswaps hg hr (by decide) pass0 (pa_cons (pv 7) (pa_cons (pv 2) pa_nil))))
      (pss_one (ps_if (pt_not (pt_val (pe_callB call_isi (by rfl) T.isinstance (by decide +kernel) (pa_cons (pv 12) (pa_cons (pe_bltn (v := .ty "tuple") (by rfl) T.tuple rfl rfl) pa_nil))))) (pss_cons (ps_expr (pe_bm PySem.F.plainAttrs_list PySem.F.slot_list_append PySem.F.type_list_append mt_append (pv 5) (pa_cons (pv 7) pa_nil)))
      (pss_one (ps_set (i := 2) sc_lfitting.nd rfl (Or.inr rfl) (pe_cG c_lswapped hg hr (by decide) pass0 (pa_cons (pv 2) (pa_cons (pv 12) pa_nil)))))) pss_nil))))))))
      (pss_one (ps_ret (pv 5))))), ?_⟩
    refine ⟨few_len (Nat.zero_le _), fun lo hlo => ?_⟩
    have b0 : FB p pc H lo [] [] T0 (upd H lo (.lst [])) := ⟨hpen.new hlo, Ext.new hlo, upd_same, .nil⟩
    have nso : so ≠ p := hpen.ne hso
    have apl := hpen.apart hlo
    generalize upd H lo (.lst []) = H0 at b0 ⊢
    refine ⟨_, rfl, _, rfl, by omega, by omega, ?_⟩
    refine for_range (lo := 0) (n := m) (fun i σ H' => ∃ (y : Str) (o6 o7 o8 o9 o10 o11 o12 : Option V) (got : List V) (es : List EdM), σ = [some (.ref p), some (.str sg), some (.str y), some (.int (m : Nat)), some (.ref so), some (.ref lo), o6, o7, o8, o9, o10, o11, o12] ∧ FB p pc H lo got es (T0 + 100 * i) H' ∧ (∀ e ∈ es, Gw sg 3 e) ∧ es.length ≤ i ∧ runA es 0 x = .txt y ∧ Of sg y) ?_ ?_ ?_
    · exact ⟨x, _, _, _, _, _, _, _, [], [], rfl, b0, (fun e h => absurd h List.not_mem_nil), Nat.le_refl _, rfl, xo⟩
    · rintro i σ H1 hi ⟨y, o6, o7, o8, o9, o10, o11, o12, got, es, rfl, b1, gw, el, er, yo⟩
      have y8 : y.length ≤ 800 := by
        have a := run_len (fun e he => (gw_wds fz (gw e he)).2) er
        have b : x.length * 3 ^ (es.length + 1) ≤ x.length * 3 ^ m := Nat.mul_le_mul_left _ (Nat.pow_le_pow_right (by decide) (by omega))
        rw [Nat.pow_succ, ← Nat.mul_assoc] at b
        omega
      let Mid : Nat → L2.St → Hp → Prop := fun T' σ H' => ∃ (v : V) (e : EdM) (o8 o9 o10 o11 : Option V), σ = [some (.ref p), some (.str sg), some (.str y), some (.int (m : Nat)), some (.ref so), some (.ref lo), some (.int (0 + (i : Int))), some v, o8, o9, o10, o11, o12] ∧ Plain H' v e ∧ Gw sg 3 e ∧ FB p pc H lo got es T' H'
      refine ⟨_, rfl, _, rfl, _, rfl, p, pc, sg, 2, so, ks, _, rfl, fz, by decide, by decide, b1.ext _ _ hso nso, hks, hne, hkl, b1.pen, by omega, fun v e H2 pl g P2 x2 => ?_⟩
      have m1 : Mid (T0 + 100 * i + 60) [some (.ref p), some (.str sg), some (.str y), some (.int (m : Nat)), some (.ref so), some (.ref lo), some (.int (0 + (i : Int))), some v, o8, o9, o10, o11, o12] H2 := ⟨v, e, _, _, _, _, rfl, pl, g.wide (by decide), b1.draw P2 x2⟩
      refine name_go ?_
      dsimp only
      refine seq_mid (Mid (T0 + 100 * i + 63)) (fun D' hD => ?_) (fun σ H3 hm => ?_)
      · obtain ⟨t, t2, rfl, ht⟩ := pl.top
        replace b1 := b1.draw P2 x2
        have stay : ∀ {T' : Nat} {H' : Hp}, T' ≤ T0 + 100 * i + 63 → Pen H' p pc T' → Ext p H2 H' → D'.nx [some (.ref p), some (.str sg), some (.str y), some (.int (m : Nat)), some (.ref so), some (.ref lo), some (.int (0 + (i : Int))), some (.ref t), o8, o9, o10, o11, o12] H' := fun le P x => hD _ _ ⟨_, e, _, _, _, _, rfl, pl.ext b1.pen x, g.wide (by decide), (b1.draw P x).mono le⟩
        refine ⟨_, rfl, rfl, _, rfl, ?_⟩
        dsimp only
        rw [ne_nil]
        by_cases c0 : 0 < y.length
        case neg =>
          rw [decide_eq_false c0]
          exact iteF (iteF (stay (by omega) P2 Ext.rfl))
        rw [decide_eq_true c0]
        refine iteT ⟨_, rfl, .inr (.inl ⟨t, _, 0, _, rfl, rfl, SqT.of ht, rfl, rfl, _, rfl, ?_⟩)⟩
        dsimp only
        rw [srt_many g]
        cases e with
        | many ps => exact iteF (iteF (stay (by omega) P2 Ext.rfl))
        | one n z1 z2 =>
          refine iteT ⟨_, rfl, p, pc, 5, _, rfl, by decide, by decide, P2, by omega, fun d H3 d0 d5 P3 x3 => ⟨_, _, rfl, rfl, _, rfl, ?_⟩⟩
          by_cases c1 : 0 < d
          case neg =>
            rw [decide_eq_false c1]
            exact iteF (stay (by omega) P3 x3)
          rw [decide_eq_true c1]
          refine iteT ⟨_, rfl, _, rfl, _, _, rfl, ⟨by rw [sizeLine_eq]; omega, rfl⟩, p, pc, (y.length : Nat), _, rfl, by omega, by omega, P3, by omega, fun a H4 a0 am P4 x4 => ?_⟩
          obtain ⟨a, rfl⟩ := Int.eq_ofNat_of_zero_le a0
          have ay : a < y.length := by omega
          obtain ⟨hn, u1, u2, u3, eu, h1, h2, h3⟩ := pl.ext b1.pen (x3.trans x4)
          cases eu
          refine ⟨_, rfl, .inr (.inl ⟨t, _, 0, _, rfl, rfl, SqT.of h1, rfl, ?_⟩)⟩
          refine ⟨_, rfl, _, rfl, _, rfl, _, rfl, _, _, rfl, rfl, _, rfl, p, pc, 3, _, rfl, by decide, by decide, P4, by omega, fun d3 H5 d30 d33 P5 x5 => ?_⟩
          obtain ⟨d3, rfl⟩ := Int.eq_ofNat_of_zero_le d30
          have x35 := (x3.trans x4).trans x5
          obtain ⟨_, w1, w2, w3, ew, k1, k2, k3⟩ := pl.ext b1.pen x35
          cases ew
          obtain ⟨c2, c3⟩ := cut_len (x := y) (k := a) (b := a + 1 + d3) (by omega) ay
          replace c3 : (cutS y (some (a : Int)) (some ((a : Int) + 1 + (d3 : Int)))).length ≤ a + 1 + d3 - a := c3
          have cw : Word sg 1 3 (cutS y (some (a : Int)) (some ((a : Int) + 1 + (d3 : Int)))) := ⟨c2, by omega, yo.cut _ _⟩
          refine ⟨_, _, rfl, rfl, _, rfl, _, rfl, by rw [sizeLine_eq]; omega, ?_⟩
          refine ⟨_, rfl, .inr (.inl ⟨t, _, 1, _, rfl, rfl, SqT.of k1, rfl, .inr (.inl ⟨w2, _, 0, _, rfl, rfl, SqT.of k2, rfl, .inr (.inl ⟨w3, _, 1, _, rfl, rfl, SqT.of k3, rfl, ?_⟩)⟩)⟩)⟩
          refine ⟨few_len (Nat.le_of_ble_eq_true rfl), fun t5 ht5 => ⟨few_len (Nat.le_of_ble_eq_true rfl), fun t6 ht6 => ⟨few_len (Nat.le_of_ble_eq_true rfl), fun t7 ht7 => ?_⟩⟩⟩
          have s5 := same_new (o := .tup [.str (cutS y (some (a : Int)) (some ((a : Int) + 1 + (d3 : Int)))), .str z2]) ht5
          have s6 := same_new (o := .tup [.ref t5]) ht6
          have s7 := same_new (o := .tup [.str (sortAt n), .ref t6]) ht7
          refine hD _ _ ⟨_, .one n (cutS y (some (a : Int)) (some ((a : Int) + 1 + (d3 : Int)))) z2, _, _, _, _, rfl, ⟨hn, t7, t6, t5, rfl, upd_same, s7 _ _ upd_same, s7 _ _ (s6 _ _ upd_same)⟩, ⟨hn, cw, g.2.2.1, Nat.le_trans g.2.2.2.1 (by decide), g.2.2.2.2⟩, ((b1.draw P5 x35).same ((s5.trans s6).trans s7)).mono (by omega)⟩
      clear m1
      obtain ⟨v, e, o8, o9, o10, o11, rfl, pl, g, b3⟩ := hm
      refine seq_mid (Mid (T0 + 100 * i + 80)) (fun D' hD' => ?_) (fun σ H3 hm => ?_)
      · obtain ⟨t, t2, rfl, ht⟩ := pl.top
        have stay : ∀ {T' : Nat} {H' : Hp}, T' ≤ T0 + 100 * i + 80 → Pen H' p pc T' → Ext p H3 H' → D'.nx [some (.ref p), some (.str sg), some (.str y), some (.int (m : Nat)), some (.ref so), some (.ref lo), some (.int (0 + (i : Int))), some (.ref t), o8, o9, o10, o11, o12] H' := fun le P x => hD' _ _ ⟨_, e, _, _, _, _, rfl, pl.ext b3.pen x, g, (b3.draw P x).mono le⟩
        have P3 := b3.pen
        refine ⟨_, rfl, rfl, _, rfl, ?_⟩
        dsimp only
        rw [ne_nil]
        by_cases c0 : 0 < y.length
        case neg =>
          rw [decide_eq_false c0]
          exact iteF (iteF (stay (by omega) P3 Ext.rfl))
        rw [decide_eq_true c0]
        refine iteT ⟨_, rfl, .inr (.inl ⟨t, _, 0, _, rfl, rfl, SqT.of ht, rfl, rfl, _, rfl, ?_⟩)⟩
        dsimp only
        rw [srt_many g]
        cases e with
        | one n z1 z2 => exact iteF (iteF (stay (by omega) P3 Ext.rfl))
        | many ps =>
          refine iteT ⟨_, rfl, p, pc, 5, _, rfl, by decide, by decide, P3, by omega, fun d H4 d0 d5 P4 x4 => ⟨_, _, rfl, rfl, _, rfl, ?_⟩⟩
          by_cases c1 : 0 < d
          case neg =>
            rw [decide_eq_false c1]
            exact iteF (stay (by omega) P4 x4)
          rw [decide_eq_true c1]
          refine iteT ⟨few_len (Nat.zero_le _), fun lw hlw => ?_⟩
          have b4 := (b3.draw P4 x4).same (same_new (o := .lst []) hlw)
          have hw0 : (upd H4 lw (.lst [])) lw = some (.lst []) := upd_same
          generalize upd H4 lw (.lst []) = H5 at b4 hw0 ⊢
          refine ⟨_, rfl, p, pc, 2, _, rfl, by decide, by decide, b4.pen, by omega, fun d2 H6 d20 d22 P6 x6 => ?_⟩
          obtain ⟨d2, rfl⟩ := Int.eq_ofNat_of_zero_le d20
          have b6 := b4.draw P6 x6
          replace hw0 := x6 _ _ hw0 (b4.pen.ne hw0)
          refine ⟨_, _, rfl, rfl, ((1 + d2 : Nat) : Int), rfl, by omega, by omega, ?_⟩
          refine for_range (lo := 0) (n := 1 + d2) (fun j σ H' => ∃ (o8 o10 : Option V) (lw : Addr) (ws : List Str), σ = [some (.ref p), some (.str sg), some (.str y), some (.int (m : Nat)), some (.ref so), some (.ref lo), some (.int (0 + (i : Int))), some (.ref t), o8, some (.ref lw), o10, o11, o12] ∧ FB p pc H lo got es (T0 + 100 * i + 65 + j) H' ∧ H' lw = some (.lst (ws.map V.str)) ∧ (∀ q ∈ ws, Word sg 1 2 q) ∧ ws.Nodup ∧ ws.length ≤ j) ?_ ?_ ?_
          · exact ⟨_, _, lw, [], rfl, b6, hw0, (fun q h => absurd h List.not_mem_nil), .nil, Nat.le_refl _⟩
          · rintro j σ H7 hj ⟨o8, o10, lw, ws, rfl, b7, hw, wg, nd, wl⟩
            refine ⟨_, rfl, _, rfl, _, _, rfl, ⟨by rw [sizeLine_eq]; omega, rfl⟩, p, pc, (y.length : Nat), _, rfl, by omega, by omega, b7.pen, by omega, fun a H8 a0 am P8 x8 => ?_⟩
            obtain ⟨a, rfl⟩ := Int.eq_ofNat_of_zero_le a0
            have ay : a < y.length := by omega
            have b8 := b7.draw P8 x8
            replace hw := x8 _ _ hw (b7.pen.ne hw)
            have cl := cut_len (x := y) (k := a) (b := a + 2) (by omega) ay
            have cw : Word sg 1 2 (cutS y (some (a : Int)) (some ((a : Int) + 2))) := ⟨cl.1, by
              have c3 : (cutS y (some (a : Int)) (some ((a : Int) + 2))).length ≤ a + 2 - a := cl.2
              omega, yo.cut _ _⟩
            clear cl
            refine ⟨_, rfl, lw, rfl, ⟨_, SqL.of hw⟩, fun D hD => ?_⟩
            refine lc_list (K := K) (a := lw) (xs := ws.map V.str) (fun q H' => Same H8 H' ∧ H' D = some (.lst (((ws.take q).filter (fun z => !decide (z = cutS y (some (a : Int)) (some ((a : Int) + 2))))).map V.str))) ⟨same_new hD, upd_same⟩ (fun q H' _ w => SqL.of (w.1 _ _ hw)) (fun q u H' hu' w => ?_) (fun H' w => ?_)
            · obtain ⟨sm, hd⟩ := w
              rw [List.getElem?_map] at hu'
              obtain ⟨z, hz, rfl⟩ := Option.map_eq_some_iff.mp hu'
              have fl : ((ws.take q).filter (fun z => !decide (z = cutS y (some (a : Int)) (some ((a : Int) + 2))))).length ≤ 10 := by
                have h1 := List.length_filter_le (fun z => !decide (z = cutS y (some (a : Int)) (some ((a : Int) + 2)))) (ws.take q)
                rw [List.length_take] at h1
                omega
              refine ⟨rfl, ?_⟩
              refine ⟨_, rfl, _, rfl, _, rfl, _, rfl, _, rfl, _, _, rfl, rfl, _, rfl, _, rfl, by rw [sizeLine_eq]; omega, rfl, _, rfl, ?_⟩
              rw [take_next hz, List.filter_append]
              by_cases ez : z = cutS y (some (a : Int)) (some ((a : Int) + 2))
              · rw [decide_eq_true (congrArg V.str ez), List.filter_cons_of_neg (by rw [decide_eq_true ez]; decide), List.filter_nil, List.append_nil]
                exact iteF ⟨sm, hd⟩
              · rw [decide_eq_false (fun e => ez (V.str.inj e)), List.filter_cons_of_pos (by rw [decide_eq_false ez]; rfl), List.filter_nil]
                refine iteT ⟨_, rfl, _, hd, by rw [List.length_map]; exact few_lt (by omega), upd_out hD sm, ?_⟩
                rw [upd_same, List.map_append]
                rfl
            · obtain ⟨sm, hd⟩ := w
              rw [List.length_map, List.take_length] at hd
              have b9 := b8.same sm
              refine ⟨_, rfl, _, rfl, _, rfl, _, rfl, _, _, rfl, rfl, _, rfl, _, rfl, by rw [sizeLine_eq]; omega, few_len (Nat.le_of_ble_eq_true rfl), fun l1 hl1 => ?_⟩
              have s1 := same_new (o := .lst [.str (cutS y (some (a : Int)) (some ((a : Int) + 2)))]) hl1
              have fl := List.length_filter_le (fun z => !decide (z = cutS y (some (a : Int)) (some ((a : Int) + 2)))) ws
              refine ⟨D, l1, _, _, rfl, rfl, s1 _ _ hd, upd_same, by rw [sizeLine_eq, List.length_map]; show _ + 1 ≤ _; omega, fun l2 hl2 => ?_⟩
              refine ⟨_, _, l2, ws.filter (fun z => !decide (z = cutS y (some (a : Int)) (some ((a : Int) + 2)))) ++ [cutS y (some (a : Int)) (some ((a : Int) + 2))], rfl, ((b9.same s1).same (same_new hl2)).mono (by omega), by rw [upd_same, List.map_append]; rfl, fun q hq => ?_, ?_, by rw [List.length_append, List.length_singleton]; omega⟩
              · rcases List.mem_append.mp hq with hq | hq
                · exact wg q ((List.mem_filter.mp hq).1)
                · rw [List.mem_singleton.mp hq]
                  exact cw
              · refine List.nodup_append.mpr ⟨nd.filter _, List.pairwise_singleton _ _, fun q hq b hb e => ?_⟩
                rw [List.mem_singleton.mp hb] at e
                have := (List.mem_filter.mp hq).2
                rw [decide_eq_true e] at this
                cases this
          · rintro σ H7 ⟨o8, o10, lw, ws, rfl, b7, hw, wg, nd, wl⟩
            refine ⟨_, rfl, lw, rfl, ⟨_, SqL.of hw⟩, fun D hD => ?_⟩
            have ap := b7.pen.apart hD
            have h0D := b7.ext.none_of ap.1 hD
            have nlo := ne_of_none b7.hg hD
            have nlw := ne_of_none hw hD
            have bD := b7.same (same_new (o := .lst []) hD)
            refine lc_list (K := K) (a := lw) (xs := ws.map V.str) (fun q H' => ∃ (vs : List V) (qs : List (Str × Str)), H' D = some (.lst vs) ∧ Paired (fun v (z : Str × Str) => ∃ t, v = V.ref t ∧ H' t = some (.tup [.str z.1, .str z.2])) vs qs ∧ qs.map (·.1) = ws.take q ∧ (∀ z ∈ qs, Word sg 1 3 z.1 ∧ Word sg 0 3 z.2) ∧ FB p pc H lo got es (T0 + 100 * i + 67 + 3 * q) H' ∧ H' lw = some (.lst (ws.map V.str))) ⟨[], [], upd_same, .nil, rfl, (fun z h => absurd h List.not_mem_nil), bD.mono (by omega), (upd_ne nlw).trans hw⟩ (fun q H' _ w => let ⟨_, _, _, _, _, _, _, h⟩ := w; SqL.of h) (fun q u H' hu' w => ?_) (fun H' w => ?_)
            · obtain ⟨vs, qs, hd, pr, em, wq, b9, hw9⟩ := w
              have il := (List.getElem?_eq_some_iff.mp hu').1
              rw [List.length_map] at il
              rw [List.getElem?_map] at hu'
              obtain ⟨z, hz, rfl⟩ := Option.map_eq_some_iff.mp hu'
              refine ⟨rfl, ?_⟩
              dsimp only [tYes]
              rw [if_pos rfl]
              refine ⟨_, rfl, _, rfl, _, rfl, p, pc, sg, 0, 2, _, rfl, by omega, by omega, fz.1, Nat.le_trans fz.2.1 (by decide), b9.pen, by omega, fun w2 H6 g2 P6 x6 => ⟨few_len (Nat.le_of_ble_eq_true rfl), fun t5 ht5 => ?_⟩⟩
              have st := same_new (o := .tup [.str z, .str w2]) ht5
              have b10 := (b9.draw P6 x6).same st
              have hd6 := st _ _ (x6 _ _ hd ap.1)
              have pl := paired_len pr
              have ql := congrArg List.length em
              rw [List.length_map, List.length_take] at ql
              have zw := wg z (List.mem_of_getElem? hz)
              refine ⟨vs, hd6, few_lt (by omega), vs ++ [.ref t5], qs ++ [(z, w2)], upd_same, ?_, by rw [List.map_append, em, take_next hz]; rfl, fun r hr => ?_, (b10.put ap.1 ap.2 h0D nlo hd6).mono (by omega), (upd_ne nlw).trans (st _ _ (x6 _ _ hw9 (b9.pen.ne hw9)))⟩
              · refine paired_app2 (paired_impl (fun v q ⟨t, e, h⟩ => ⟨t, e, tup_put hd6 (st _ _ (tup_ext b9.pen x6 h))⟩) pr) ⟨t5, rfl, tup_put hd6 upd_same⟩
              · rcases List.mem_append.mp hr with hr | hr
                · exact wq r hr
                · rw [List.mem_singleton.mp hr]
                  exact ⟨⟨zw.1, Nat.le_trans zw.2.1 (by decide), zw.2.2⟩, ⟨g2.1, Nat.le_trans g2.2.1 (by decide), g2.2.2⟩⟩
            · obtain ⟨vs, qs, hd, pr, em, wq, b9, hw9⟩ := w
              rw [List.length_map, List.take_length] at em
              have ql := congrArg List.length em
              rw [List.length_map] at ql
              rw [List.length_map] at b9
              refine ⟨D, vs, rfl, .inl ⟨SqL.of hd, fun t2 ht2 => ⟨few_len (Nat.le_of_ble_eq_true rfl), fun t1 ht1 => ?_⟩⟩⟩
              have s1 := same_new (o := .tup vs) ht2
              have s2 := same_new (o := .tup [.str "together", .ref t2]) ht1
              refine hD' _ _ ⟨_, .many qs, _, _, _, _, rfl, ⟨t1, t2, rfl, upd_same, vs, s2 _ _ upd_same, paired_impl (fun v q ⟨t, e, h⟩ => ⟨t, e, s2 _ _ (s1 _ _ h)⟩) pr⟩, ⟨wq, by omega, by rw [em]; exact nd⟩, (b9.same (s1.trans s2)).mono (by omega)⟩
      obtain ⟨v, e, o8, o9, o10, o11, rfl, pl, g, b3⟩ := hm
      refine seq_mid (Mid (T0 + 100 * i + 80)) (fun D' hD' => ?_) (fun σ H4 hm => ?_)
      · obtain ⟨t, t2, rfl, ht⟩ := pl.top
        have stay : D'.nx [some (.ref p), some (.str sg), some (.str y), some (.int (m : Nat)), some (.ref so), some (.ref lo), some (.int (0 + (i : Int))), some (.ref t), o8, o9, o10, o11, o12] H3 := hD' _ _ ⟨_, e, _, _, _, _, rfl, pl, g, b3⟩
        refine ⟨_, rfl, .inr (.inl ⟨t, _, 0, _, rfl, rfl, SqT.of ht, rfl, rfl, _, rfl, ?_⟩)⟩
        cases e with
        | many ps =>
          rw [show decide (V.str (srtE (.many ps)) = V.str "every") = false from (show decide (V.str "together" = V.str "every") = false from by decide +kernel)]
          exact iteF (iteF stay)
        | one n z1 z2 =>
          obtain ⟨hn, u1, u2, u3, eu, h1, h2, h3⟩ := pl
          cases eu
          rw [show decide (V.str (srtE (.one n z1 z2)) = V.str "every") = (n == 3) from (sort_is n hn).2.2.2.2]
          cases h3n : (n == 3) with
          | false => exact iteF (iteF stay)
          | true =>
            refine iteT ⟨_, rfl, _, _, rfl, ⟨by rw [sizeLine_eq]; omega, rfl⟩, _, _, rfl, rfl, _, rfl, ?_⟩
            by_cases c4 : (40 : Int) < (y.length : Nat)
            · rw [decide_eq_true c4]
              refine iteT ⟨_, rfl, .inr (.inl ⟨t, _, 1, _, rfl, rfl, SqT.of h1, rfl, few_len (Nat.le_of_ble_eq_true rfl), fun t5 ht5 => ?_⟩)⟩
              have s5 := same_new (o := .tup [.str "first", .ref u2]) ht5
              exact hD' _ _ ⟨_, .one 1 z1 z2, _, _, _, _, rfl, ⟨by decide, t5, u2, u3, rfl, upd_same, s5 _ _ h2, s5 _ _ h3⟩, ⟨by decide, g.2⟩, b3.same s5⟩
            · rw [decide_eq_false c4]
              exact iteF stay
      obtain ⟨v, e, o8, o9, o10, o11, rfl, pl, g, b3⟩ := hm
      clear k Mid
      have ok : OkE y e := (gw_wds fz g).2.ok y8
      refine ⟨_, rfl, _, rfl, v, e, y, rfl, pl, ok, fun m2 hw t H5 s5 ht => ?_, fun hw t H5 s5 ht => ?_, fun z hw l4 rows H5 s5 n4 hl4 hr4 => ?_⟩
      · refine ⟨_, rfl, .ref t, .ty "tuple", .type "tuple", .type "tuple", true, rfl, .ty "tuple", .base (.tup ht), kit_ty (by decide +kernel), _, rfl, iteF ?_⟩
        exact ⟨y, _, _, _, _, _, _, _, got, es, rfl, (b3.same s5).mono (by omega), gw, by omega, er, yo⟩
      · refine ⟨_, rfl, .ref t, .ty "tuple", .type "tuple", .type "tuple", true, rfl, .ty "tuple", .base (.tup ht), kit_ty (by decide +kernel), _, rfl, iteF ?_⟩
        exact ⟨y, _, _, _, _, _, _, _, got, es, rfl, (b3.same s5).mono (by omega), gw, by omega, er, yo⟩
      · have b5 := b3.same s5
        have gl := paired_len b5.pl
        have ne4 : lo ≠ l4 := ne_of_none b3.hg n4
        refine ⟨_, rfl, .ref l4, .ty "tuple", .type "list", .type "tuple", false, rfl, .ty "tuple", .base (.lst hl4), kit_ty (by decide +kernel), _, rfl, iteT ?_⟩
        refine ⟨_, rfl, .inl ⟨rfl, _, SqL.of b5.hg⟩, _, rfl, lo, _, _, rfl, rfl, b5.hg, few_lt (by omega), ?_⟩
        have pl5 := pl.same s5
        have un : ∀ {u : Addr} {ws : List V}, H5 u = some (.tup ws) → (upd H5 lo (.lst (got ++ [v]))) u = some (.tup ws) := fun h => tup_put b5.hg h
        refine ⟨_, rfl, _, rfl, y, l4, rows, _, rfl, (upd_ne ne4.symm).trans hl4, RwsA.keep un hr4, y8, rowsE_n ok, rowsE_len ok, fun H6 s6 => ?_⟩
        have ez := outE_txt hw
        subst ez
        have P6 : Pen (upd H5 lo (.lst (got ++ [v]))) p pc (T0 + 100 * i + 80) := b5.pen.set apl.1 apl.2
        refine ⟨_, _, _, _, _, _, _, _, got ++ [v], es ++ [e], rfl, ⟨(P6.stay s6).mono (by omega), (b5.ext.set hlo).trans (Ext.same s6), s6 _ _ upd_same, Plains.same (paired_app2 (paired_impl (fun v e h => h.keep fun u ws h => un h) b5.pl) (pl5.keep fun u ws h => un h)) s6⟩, fun q hq => ?_, by rw [List.length_append, List.length_singleton]; omega, run_snoc er hw, g.of yo hw⟩
        rcases List.mem_append.mp hq with hq | hq
        · exact gw q hq
        · rw [List.mem_singleton.mp hq]
          exact g
    · rintro σ H1 ⟨y, o6, o7, o8, o9, o10, o11, o12, got, es, rfl, b1, gw, el, er, yo⟩
      exact ⟨_, rfl, k lo got es _ hlo b1.hg b1.pl gw el ⟨y, er⟩ b1.pen b1.ext⟩
end
end Vk
set_option Elab.async false
set_option maxRecDepth 100000
set_option maxHeartbeats 4000000
set_option linter.all false
namespace Vk
open PySem PySem.Spec PyProof.Rows L2
/-! ## a call in a try whose handlers read the slots as they stand -/
section
variable {X : Cx} {CX : CXT} {j k : Nat} {f : Addr} {fd : FuncData} {ps : List Str} {sp : Sp} {E : L2.St → XK} {x : Str} {p pos : Pos} {e : Expr} {es : List Expr} {t : TA}
end
end Vk
set_option Elab.async false
set_option maxRecDepth 100000
set_option maxHeartbeats 4000000
set_option linter.all false
namespace Vk
open PySem PySem.Spec PyProof.Rows L2
/-! ## sum of lists, from a list; chains of three -/
section
variable {prog : Program} {w : World} {A : Around} {R : Result → Shared → Prop} {E : Value → Shared → Prop}
def cats (x0 : Array Value) (its : Nat → Array Value) : Nat → Array Value
  | 0 => x0
  | j + 1 => cats x0 its j ++ its j
theorem upd_keep {h : Heap} {S b : Addr} {f : Obj → Obj} {o : Obj} (n : S ≠ b) (e : h.get? b = some o) : (h.update S f).get? b = some o := (Heap.get?_update_other h f n).trans e
theorem codeAny_sum_lists (hh : A.in1.handled = none) {I l S b0 : Addr} {items : Array Value} (hne : l ≠ I) (hSI : S ≠ I) (h0 : Heap) (hI : h0.objs.size ≤ I) (hS0 : h0.objs.size ≤ S) (x0 : Array Value) (its : Nat → Array Value)
    (hval : ∀ i v, items[i]? = some v → ∃ a c, v = .ref a ∧ PySem.IsL h0 a (its i) c) (hl0 : l < h0.objs.size) (hb : b0 < h0.objs.size) (hz : ∀ i, i ≤ items.size → (cats x0 its i).size ≤ sizeLine) :
    ∀ (k i : Nat) (s : Shared) (T cT c : Nat), items.size - i = k → i ≤ items.size → (s.heap.IsListIter I l i ∧ s.heap.IsList l items) → (∀ b o, h0.get? b = some o → s.heap.get? b = some o) → PySem.IsL s.heap T (cats x0 its i) cT → T ≠ S → T ≠ I → (i = 0 → T = b0) → (0 < i → h0.objs.size ≤ T) →
    s.heap.get? S = some { cls := .type "list", dict := none, data := .seq #[.ref T] c, slots := #[] } →
    (∀ h' tk T' c', (∀ b o, h0.get? b = some o → h'.get? b = some o) → PySem.IsL h' T' (cats x0 its items.size) c' → (items.size = 0 → T' = b0) → (0 < items.size → h0.objs.size ≤ T') → R (.ok (.ret (.ref T'))) { s with heap := h', toks := tk }) →
    codeAny (model prog w) A (.builtin "sum.loop" ⟨[.ref I, .ref S, rawInt 2, rawInt 0], []⟩) R s := by
  have W := Walks.list (prog := prog) (w := w) (A := A.in1) hh I l hne items
  intro k
  induction k with
  | zero =>
    intro i s T cT c hk hi hst hkp hT nTS nTI z0 z1 hS hR
    have hin : i = items.size := by omega
    subst hin
    refine codeAny_builtin F.entry_sum_loop ?_
    rw [Around.under_plainId F.plain_sum_loop _]
    show wpAny _ A.in1 (seqItems? (.ref S) >>= _) _ _ s
    refine wpAny_bind (wpAny_seqItems hS rfl ?_)
    show wpAny _ A.in1 (tryCatch (pyNext (.ref I)) _ >>= _) _ _ s
    refine wpAny_bind (wpAny_tryCatch (W.done s _ _ hst fun h' tk hk' => ?_))
    exact wpAny_pure (hR h' tk T cT (fun b o e => hk' b o (fun m => absurd (Heap.lt_size e) (by rw [List.mem_singleton.mp m]; exact Nat.not_lt.mpr hI)) (hkp b o e)) (hk' T _ (fun m => nTI (List.mem_singleton.mp m)) hT) z0 z1)
  | succ k ih =>
    intro i s T cT c hk hi hst hkp hT nTS nTI z0 z1 hS hR
    have hlt : i < items.size := by omega
    refine codeAny_builtin F.entry_sum_loop ?_
    rw [Around.under_plainId F.plain_sum_loop _]
    show wpAny _ A.in1 (seqItems? (.ref S) >>= _) _ _ s
    refine wpAny_bind (wpAny_seqItems hS rfl ?_)
    show wpAny _ A.in1 (tryCatch (pyNext (.ref I)) _ >>= _) _ _ s
    refine wpAny_bind (wpAny_tryCatch (W.item i s _ _ hlt hst fun v h' tk hP hst' hk' => ?_))
    obtain ⟨a, ca, rfl, ha⟩ := hval i v hP
    have hS' := hk' S _ (fun m => hSI (List.mem_singleton.mp m)) hS
    have hT' := hk' T _ (fun m => nTI (List.mem_singleton.mp m)) hT
    have hkp' : ∀ b o, h0.get? b = some o → h'.get? b = some o := fun b o e => hk' b o (fun m => absurd (Heap.lt_size e) (by rw [List.mem_singleton.mp m]; exact Nat.not_lt.mpr hI)) (hkp b o e)
    have ha' := hkp' a _ ha
    have hz1 := hz (i + 1) hlt
    show wpAny _ A.in1 ((holding [Value.ref a] (binaryOp .Add (.ref T) (.ref a))).attempt >>= _) _ _ _
    refine wpAny_bind (wpAny_attempt (wpAny_holding (PySem.P.add_list (s := { s with heap := h', toks := tk }) hT' ha' ?_ (by
      have : (cats x0 its i ++ its i).size ≤ sizeLine := hz1
      rw [Array.size_append] at this
      exact this))))
    have big : ∀ {b o}, h0.get? b = some o → b < h'.objs.size := fun e => Heap.lt_size (hkp' _ _ e)
    have sS : S < h'.objs.size := Heap.lt_size hS'
    have sI : I < h'.objs.size := by
      obtain ⟨it, e, _⟩ := hst'.1
      exact Heap.lt_size e
    have h0le : h0.objs.size ≤ h'.objs.size := Nat.le_trans hS0 (Nat.le_of_lt sS)
    have hSp : (h'.push { cls := .type "list", data := .seq (cats x0 its i ++ its i) }).get? S = some { cls := .type "list", dict := none, data := .seq #[.ref T] c, slots := #[] } := Heap.get?_push_of_some _ hS'
    show wpAny _ A.in1 (updateSeq S (fun _ => #[.ref h'.objs.size]) >>= _) _ _ _
    refine wpAny_bind (wpAny_updateSeq hSp rfl ?_)
    refine wpAny_bind (wpAny_letGo ?_)
    have hS₂ := Heap.get?_update_self (Obj.mapSeq fun _ => #[Value.ref h'.objs.size]) hSp rfl
    refine wpAny_bind (wpAny_updateSeq hS₂ rfl (wpAny_pure ⟨plainId_quiet F.plain_sum_loop _, ih (i + 1) _ h'.objs.size 0 _ (by omega) hlt (W.frame _ _ _ hst' fun b hb o e => ?_) (fun b o e => ?_) ?_ (Nat.ne_of_gt sS) (Nat.ne_of_gt sI) (fun z => absurd z (Nat.succ_ne_zero _)) (fun _ => h0le) (Heap.get?_update_self _ hS₂ rfl) fun h'' tk'' T' c' k2 k3 k4 k5 => hR h'' tk'' T' c' k2 k3 k4 k5⟩))
    · have nb : S ≠ b := by
        rcases List.mem_cons.mp hb with rfl | hb
        · exact hSI
        · rw [List.mem_singleton.mp hb]
          exact fun z => absurd hl0 (by rw [← z]; exact Nat.not_lt.mpr hS0)
      exact upd_keep nb (upd_keep nb (Heap.get?_push_of_some _ e))
    · have nb : S ≠ b := fun z => absurd (Heap.lt_size e) (by rw [← z]; exact Nat.not_lt.mpr hS0)
      exact upd_keep nb (upd_keep nb (Heap.get?_push_of_some _ (hkp' b o e)))
    · have nb : S ≠ h'.objs.size := Nat.ne_of_lt sS
      exact upd_keep nb (upd_keep nb (PySem.IsL.new h' _))
theorem args_sum2 (a b : Value) : argsOk "sum" ⟨[a, b], []⟩ := by unfold argsOk; kernel_rfl
theorem call_sum_lists (hh : A.handled = none) {s : Shared} {l b0 c0 : Nat} {items : Array Value} {x0 : Array Value} {its : Nat → Array Value} {Q : Value → Shared → Prop} (hl : s.heap.IsList l items) (hb : PySem.IsL s.heap b0 x0 c0)
    (hval : ∀ i v, items[i]? = some v → ∃ a c, v = .ref a ∧ PySem.IsL s.heap a (its i) c) (hz : ∀ i, i ≤ items.size → (cats x0 its i).size ≤ sizeLine)
    (h : ∀ h' tk T c', (∀ b o, s.heap.get? b = some o → h'.get? b = some o) → PySem.IsL h' T (cats x0 its items.size) c' → (items.size = 0 → T = b0) → (0 < items.size → s.heap.objs.size ≤ T) → Q (.ref T) { s with heap := h', toks := tk }) :
    wpAny (model prog w) A (call (.builtin "sum") [.ref l, .ref b0]) Q E s := by
  refine call_function_tree F.kind_sum F.plain_sum F.entry_sum (args_sum2 _ _) ?_
  unfold Builtin.«sum»
  simp only [List.length_cons, List.length_nil]
  rw [if_neg (by decide)]
  refine wpAny_bind (wpAny_of_eq (show Builtin.Builtins.bindParams "sum" ["start"] 0 ⟨[.ref b0], []⟩ = pure [some (.ref b0)] from rfl) ?_)
  have hlt : l < s.heap.objs.size := by obtain ⟨_, e, _⟩ := hl; exact Heap.lt_size e
  have blt : b0 < s.heap.objs.size := Heap.lt_size hb
  refine wpAny_bind (wpAny_pyIter_list hl ?_)
  have hb2 : PySem.IsL (s.heap.push { cls := .type "list_iterator", data := .fields #[.ref l, .int 0 0] }) b0 x0 c0 := hb.push _
  refine wpAny_bind (wpAny_pure ?_)
  simp only [List.forIn_cons, List.forIn_nil]
  have ty : ({ s with heap := s.heap.push { cls := .type "list_iterator", data := .fields #[.ref l, .int 0 0] } } : Shared).TypeIs (.ref b0) "list" := ⟨_, hb2, rfl⟩
  refine wpAny_bind (wpAny_bind (wpAny_bind (wpAny_isInstance (T := "list") (b := false) ty F.sub_list_str ?_)))
  simp only [Bool.false_eq_true, if_false]
  refine wpAny_pure (wpAny_bind (wpAny_bind (wpAny_isInstance (T := "list") (b := false) ty (by rw [isSubtype_type]; kernel_rfl) ?_)))
  simp only [Bool.false_eq_true, if_false]
  refine wpAny_pure (wpAny_bind (wpAny_bind (wpAny_isInstance (T := "list") (b := false) ty (by rw [isSubtype_type]; kernel_rfl) ?_)))
  simp only [Bool.false_eq_true, if_false]
  refine wpAny_pure (wpAny_pure ?_)
  refine wpAny_bind (wpAny_newObj_type ?_)
  have e1 : (s.heap.push { cls := .type "list_iterator", data := .fields #[.ref l, .int 0 0] }).objs.size = s.heap.objs.size + 1 := Heap.size_push ..
  refine wpAny_pure ⟨plainId_quiet F.plain_sum_loop _, codeAny_sum_lists (A := A) (by exact hh) (b0 := b0) (S := (s.heap.push { cls := .type "list_iterator", data := .fields #[.ref l, .int 0 0] }).objs.size) (Nat.ne_of_lt hlt) (fun z => absurd (e1.symm.trans z) (Nat.succ_ne_self _)) s.heap (Nat.le_refl _) (by rw [e1]; exact Nat.le_succ _) x0 its hval hlt blt hz items.size 0 _ b0 c0 0 rfl (Nat.zero_le _)
    ⟨⟨_, Heap.get?_push_of_some _ (Heap.get?_push_size _ rfl), rfl, rfl⟩, (hl.push _).push _⟩ (fun b o e => Heap.get?_push_of_some _ (Heap.get?_push_of_some _ e)) (hb2.push _) (fun z => by rw [z, e1] at blt; exact absurd blt (by omega)) (Nat.ne_of_lt blt) (fun _ => rfl) (fun z => absurd z (Nat.lt_irrefl _)) (Heap.get?_push_size _ rfl) fun h' tk T' c' k1 k2 k3 k4 => ?_⟩
  exact h h' tk T' c' k1 k2 k3 k4
end
section
variable {X : Cx}
theorem lists_raw {pins : List (Addr × Obj)} {σ : L2.St} {H : Hp} {s : Shared} (I : Inv X pins σ H s) : ∀ {as : List Addr} {xss : List (List V)}, Paired (fun l xs => H l = some (.lst xs)) as xss →
    ∃ arrs : List (List Value), Paired (fun (l : Addr) (vs : List Value) => ∃ c, PySem.IsL s.heap l vs.toArray c) as arrs ∧ Paired Vals xss arrs
  | _, _, .nil => ⟨[], .nil, .nil⟩
  | _, _, .cons a t => by
    obtain ⟨arrs, h1, h2⟩ := lists_raw I t
    obtain ⟨z, its, n, r, hl, e⟩ := I.lstM a
    exact ⟨its :: arrs, .cons ⟨n, e⟩ h1, .cons r h2⟩
theorem vals_flat : ∀ {xss : List (List V)} {arrs : List (List Value)}, Paired Vals xss arrs → Vals xss.flatten arrs.flatten
  | _, _, .nil => .nil
  | _, _, .cons a t => by
    rw [List.flatten_cons, List.flatten_cons]
    exact a.append (vals_flat t)
theorem cats_eq (x0 : List Value) (arrs : List (List Value)) : ∀ n, n ≤ arrs.length → cats x0.toArray (fun i => (arrs.getD i []).toArray) n = (x0 ++ (arrs.take n).flatten).toArray
  | 0, _ => by
    show x0.toArray = _
    rw [List.take_zero, List.flatten_nil, List.append_nil]
  | n + 1, h => by
    show cats x0.toArray _ n ++ _ = _
    rw [cats_eq x0 arrs n (by omega)]
    have e : arrs[n]? = some (arrs[n]'(by omega)) := List.getElem?_eq_getElem (by omega)
    dsimp only
    rw [List.take_add_one, e, List.getD_eq_getElem?_getD, e]
    show _ = (x0 ++ (List.take n arrs ++ [arrs[n]'(by omega)]).flatten).toArray
    rw [List.flatten_append]
    simp
def rSumL (K : PySem.W.Frag) : List V → Hp → VK → Prop := fun vs H Q => ∃ (a b : Addr) (as : List Addr) (xss : List (List V)) (x0 : List V), vs = [.ref a, .ref b] ∧ SqL K H a (as.map V.ref) ∧ H b = some (.lst x0) ∧ Paired (fun l xs => H l = some (.lst xs)) as xss ∧ (x0 ++ xss.flatten).length ≤ sizeLine ∧
  (xss = [] → Q (.ref b) H) ∧ (xss ≠ [] → ∀ p, H p = none → Q (.ref p) (upd H p (.lst (x0 ++ xss.flatten))))
theorem refs_at : ∀ {as : List Addr} {its : List Value} {i : Nat} {v : Value}, Vals (as.map V.ref) its → its[i]? = some v → ∃ l, as[i]? = some l ∧ v = .ref l
  | [], _, _, v, .nil, h => absurd h (by simp)
  | l :: as, _, 0, v, .cons r t, h => by
    cases h
    cases r
    exact ⟨l, rfl, rfl⟩
  | l :: as, _, i + 1, v, .cons r t, h => refs_at (as := as) (i := i) t h
theorem call_sumL (hc : X.calm = true) : CallR X (.builtin "sum") (rSumL X.K) := by
  intro pins s σ H vs us Q I r h
  obtain ⟨a, b, as, xss, x0, rfl, hs, hb, pr, hz, q1, q2⟩ := h
  obtain ⟨its, rv, hl, _⟩ := I.list hs
  obtain ⟨zb, ib, nb, rb, lb, eb⟩ := I.lstM hb
  obtain ⟨arrs, p1, p2⟩ := lists_raw I pr
  obtain ⟨u1, u2, rfl, r1, r2⟩ := vals2 r
  cases r1
  cases r2
  have e1 : as.length = arrs.length := paired_len p1
  have e2 : xss.length = arrs.length := paired_len p2
  have e3 : its.length = as.length := by rw [← rv.length, List.length_map]
  have vf := rb.append (vals_flat p2)
  have lf : (ib ++ arrs.flatten).length ≤ sizeLine := by rw [← vf.length]; exact hz
  refine call_sum_lists (I.ok.hd hc) (x0 := ib.toArray) (its := fun i => (arrs.getD i []).toArray) hl.isList eb (fun i v hv => ?_) (fun i hi => ?_) fun h' tk T c' k1 k2 k3 k4 => ?_
  · have hv2 : its[i]? = some v := by simpa using hv
    obtain ⟨l, hl2, rfl⟩ := refs_at rv hv2
    obtain ⟨vs, hvs, c, hc2⟩ := paired_at p1 hl2
    refine ⟨l, c, rfl, ?_⟩
    have : arrs.getD i [] = vs := by rw [List.getD_eq_getElem?_getD, hvs]; rfl
    rw [this]
    exact hc2
  · have hi2 : i ≤ arrs.length := by
      have : its.toArray.size = its.length := List.size_toArray
      omega
    rw [cats_eq ib arrs i hi2, List.size_toArray]
    refine Nat.le_trans ?_ lf
    rw [List.length_append, List.length_append]
    have : ((arrs.take i).flatten).length ≤ arrs.flatten.length := by
      have e : arrs.flatten = (arrs.take i).flatten ++ (arrs.drop i).flatten := by rw [← List.flatten_append, List.take_append_drop]
      rw [e, List.length_append]
      omega
    omega
  · have sz : its.toArray.size = arrs.length := by rw [List.size_toArray]; omega
    rw [sz, cats_eq ib arrs _ (Nat.le_refl _), List.take_length] at k2
    by_cases c0 : xss = []
    · have z : arrs.length = 0 := by rw [← e2, c0]; rfl
      rw [k3 (by omega)]
      exact ⟨.ref b, H, I.kept k1, rfl, q1 c0⟩
    · have z : 0 < its.toArray.size := by
        rw [sz, ← e2]
        exact List.length_pos_iff.mpr c0
      have hT := k4 z
      exact ⟨.ref T, _, I.laid (o := .lst (x0 ++ xss.flatten)) k1 hT ⟨hz, _, c', vf, k2⟩, rfl, q2 c0 T (I.hok.fresh hT)⟩
/-- a op1 b op2 c op3 d -/
def tChain3 (r r' r'' : R2) (ta tb tc td : TE) : TE := fun σ H Q => ta σ H fun x H1 => tb σ H1 fun y H2 => r x y H2 fun z H3 => ∃ k, z = .bl k ∧
  (if k = true then tc σ H3 fun w' H4 => r' y w' H4 fun z H5 => ∃ k, z = .bl k ∧ (if k = true then td σ H5 fun u' H6 => r'' w' u' H6 Q else Q (.bl false) H5) else Q (.bl false) H3)
theorem pt_chain3 {a b c d : Expr} {pos : Pos} {op op' op'' : CmpOp} {r r' r'' : R2} {ta tb tc td : TE} (ho : OpR X (compareOp op) r) (ho' : OpR X (compareOp op') r') (ho'' : OpR X (compareOp op'') r'') (ha : PE X a ta) (hb : PE X b tb) (hc : PE X c tc) (hd : PE X d td)
    (hm : lastMarks [op, op', op''] [b, c, d] = false := by with_unfolding_all rfl) : PT X (.Compare a [op, op', op''] [b, c, d] pos) (tTest (tChain3 r r' r'' ta tb tc td)) := by
  refine ⟨fun pins s σ H Q I h => ?_⟩
  refine isTrue_chain (thn (ha.run pins s σ H _ I h) fun v s1 ⟨x, H1, I1, r1, q1⟩ => test_link (thn (hb.run pins s1 σ H1 _ I1 q1) fun u s2 ⟨y, H2, I2, r2, q2⟩ =>
    thn (ho pins s2 σ H2 x y v u _ I2 r1 r2 q2) fun d s3 ⟨z, H3, I3, r3, k, e, q3⟩ => ?_)) hm
  subst e
  cases r3
  refine wpAny_truthy_bool ?_
  cases k with
  | false =>
    obtain ⟨k', e', q'⟩ := q3
    cases e'
    exact ite_ff ⟨H3, I3, q'⟩
  | true =>
    refine ite_tt (test_link (thn (hc.run pins s3 σ H3 _ I3 q3) fun w' s4 ⟨z', H4, I4, r4, q4⟩ => thn (ho' pins s4 σ H4 y z' u w' _ I4 r2 r4 q4) fun d' s5 ⟨z2, H5, I5, r5, k2, e2, q5⟩ => ?_))
    subst e2
    cases r5
    refine wpAny_truthy_bool ?_
    cases k2 with
    | false =>
      obtain ⟨k', e', q'⟩ := q5
      cases e'
      exact ite_ff ⟨H5, I5, q'⟩
    | true =>
      refine ite_tt (test_last (thn (hd.run pins s5 σ H5 _ I5 q5) fun w2 s6 ⟨z3, H6, I6, r6, q6⟩ => thn (ho'' pins s6 σ H6 z' z3 w' w2 _ I6 r4 r6 q6) fun d2 s7 ⟨z4, H7, I7, r7, k3, e3, q7⟩ => ?_))
      subst e3
      cases r7
      exact wpAny_truthy_bool ⟨H7, I7, q7⟩
end
end Vk
set_option Elab.async false
set_option maxRecDepth 100000
set_option linter.all false
set_option maxHeartbeats 4000000
namespace Vk
open PySem PySem.Spec PyProof.Rows L2 LamX NdefX StX
section
variable {P : Program} {w : World} {K : PySem.W.Frag} {mg : Str → Option Value} {base : Heap}
variable {C_Once C_First C_Perhaps C_Every C_AtOnce C_Edit C_Program C_NoPlace C_Overlap C_InvalidText : Addr}
theorem gap_start : ∀ {m f p : Nat}, gapG ((List.range' f m).map Lb.idx ++ [.idx (f + m)]) p f p = []
  | 0, f, p => by
    show (if f < f ∨ p < p then _ else []) ++ [] = []
    rw [if_neg (fun z => z.elim (Nat.lt_irrefl _) (Nat.lt_irrefl _))]
    rfl
  | m + 1, f, p => by
    rw [List.range'_succ]
    show (if f < f ∨ p < p then [(f, f, p, p)] else []) ++ gapG ((List.range' (f + 1) m).map Lb.idx ++ [.idx (f + (m + 1))]) (p + 1) (f + 1) (p + 1) = []
    rw [if_neg (fun z => z.elim (Nat.lt_irrefl _) (Nat.lt_irrefl _)), List.nil_append, show f + (m + 1) = (f + 1) + m from by omega]
    exact gap_start
theorem gaps_none {x : Str} {L : List Lb} (h : labsA [] 0 x (start0 x) = .labs L) : gapsM L x.length = [] := by
  cases (show OutL.labs (start0 x) = .labs L from h)
  unfold gapsM start0
  have := gap_start (m := x.length) (f := 0) (p := 0)
  rw [Nat.zero_add, ← List.range_eq_range'] at this
  exact this
def gapL (G : List Gap) : List (List V) := G.map fun r => rgV (r.1 : Nat) (r.2.1 : Nat)
theorem rgV_nat (f e : Nat) : rgV (f : Nat) (e : Nat) = (List.range' f (e - f)).map fun a => V.int (a : Nat) := by
  unfold rgV
  rw [List.range'_eq_map_range, List.map_map, show ((e : Int) - (f : Int)).toNat = e - f from by omega]
  refine List.map_congr_left fun i _ => ?_
  show V.int ((f : Int) + (i : Nat)) = V.int ((f + i : Nat) : Int)
  rfl
theorem gapL_flat (G : List Gap) : (gapL G).flatten = (goneL G).map fun a => V.int (a : Nat) := by
  unfold gapL goneL
  rw [List.map_flatten, List.map_map]
  congr 1
  exact List.map_congr_left fun r _ => rgV_nat _ _
theorem in_ints {a : Nat} {l : List Nat} : inV (V.int (a : Nat)) (l.map fun a => V.int (a : Nat)) = decide (a ∈ l) := by
  rw [Bool.eq_iff_iff, decide_eq_true_eq]
  unfold inV
  rw [List.any_eq_true]
  constructor
  · rintro ⟨y, hy, e⟩
    obtain ⟨b, hb, rfl⟩ := List.mem_map.mp hy
    have : (b : Int) = (a : Int) := by simpa [eqV] using e
    rw [show a = b from by omega]
    exact hb
  · intro h
    exact ⟨_, List.mem_map.mpr ⟨a, h, rfl⟩, by simp [eqV]⟩
theorem flat_ints (l : List Nat) : (l.map fun a => V.int (a : Nat)).all flatV = true := List.all_eq_true.mpr fun v hv => by
  obtain ⟨a, _, rfl⟩ := List.mem_map.mp hv
  rfl
theorem gap_len2 {n : Nat} : ∀ {G : List Gap} {f : Nat}, G.Pairwise (fun r s => r.1 < s.1) → (∀ r ∈ G, f ≤ r.1 ∧ r.1 ≤ n) → G.length ≤ n + 1 - f
  | [], f, _, _ => Nat.zero_le _
  | r :: G, f, h, hf => by
    obtain ⟨h1, h2⟩ := List.pairwise_cons.mp h
    have a := hf r List.mem_cons_self
    have b := gap_len2 (f := r.1 + 1) h2 fun s hs => ⟨h1 s hs, (hf s (List.mem_cons_of_mem _ hs)).2⟩
    rw [List.length_cons]
    omega
theorem gone_len {G : List Gap} {n : Nat} (h : ∀ r ∈ G, r.2.1 ≤ n) : (goneL G).length ≤ G.length * n := by
  induction G with
  | nil => exact Nat.zero_le _
  | cons r G ih =>
    have a := h r List.mem_cons_self
    have b := ih fun s hs => h s (List.mem_cons_of_mem _ hs)
    show (List.range' r.1 (r.2.1 - r.1) ++ goneL G).length ≤ _
    rw [List.length_append, List.length_range', List.length_cons, Nat.add_mul]
    omega
def spLaw (K : PySem.W.Frag) : Sp := fun vs H Q _ => ∃ (a : Addr) (ns : List Int), vs = [.ref a] ∧ SqL K H a (ns.map V.int) ∧ ns.length ≤ 63 ∧ ∀ H', Q (.bl true) H'
abbrev s_law : Stmt := top 65
theorem sc_law : FnScope ["_law_script", "_law_pen_here", "_law_turn", "_law_signs_here", "_law_text_here", "_law_plains", "_law_made_here", "_law_some", "_law_k", "_law_begin", "_law_end", "_law_fresh", "_law_gone", "_law_kept", "_law_entry", "_law_at"] ["_law_script"] (defScope s_law) := ⟨rfl, rfl, rfl, by decide +kernel, rfl, by decide +kernel, by decide +kernel⟩
theorem b_law {f : Addr} {fd : FuncData} (F : Fun K "law" "law" s_law f fd) (T : Txt mg) (mSum : mg "sum" = none) (clP : Cls K C_Program) (c_lpen : CalG P w K mg base CX0 1 "_law_pen" (spPen K)) (c_lfew : CalG P w K mg base CX0 3 "_law_few" spFew) (c_lword : CalG P w K mg base CX0 3 "_law_word" spWord) (c_lfitting : CalG P w K mg base CX0 5 "_law_fitting" spFit) (c_lsorts : CalG P w K mg base CX0 1 "_law_sorts" spSorts) (c_lprogram : CalG P w K mg base CX0 9 "_law_program" (spProg (cls4 C_Once C_First C_Perhaps C_Every) C_AtOnce C_Program)) (c_ldone : CalG P w K mg base CX0 1 "_law_done" spDone) (c_hunks : CalG P w K mg base (L2.CX P w) 8 "hunks" (spHk (cls4 C_Once C_First C_Perhaps C_Every) C_AtOnce C_Program C_NoPlace C_Overlap C_InvalidText RList)) (c_origins : CalG P w K mg base (L2.CX P w) 6 "origins" (spOrg (cls4 C_Once C_First C_Perhaps C_Every) C_AtOnce C_Program C_NoPlace C_Overlap C_InvalidText)) (c_run : MthG P w K mg base (L2.CX P w) 6 C_Program "run" (spRun (cls4 C_Once C_First C_Perhaps C_Every) C_AtOnce C_Program C_NoPlace C_Overlap C_InvalidText)) : FnG P w K mg base CX0 10 f fd ["_law_script"] (spLaw K) := by
  refine okG0 F sc_law (fun vs H Q E h => ?_) (fun cdv A outer s H vs Q E hg hr h => ?_)
  · obtain ⟨a, ns, rfl, _⟩ := h
    rfl
  · have hu := hu_of hr
    have hu64 := hr.units
    obtain ⟨a, ns, rfl, hS, hlen, k⟩ := h
    refine ⟨_, (pss_cons (ps_set (i := 1) sc_law.nd rfl (Or.inl rfl) (pe_cG c_lpen hg hr (by decide) pass0 (pa_cons (pv 0) pa_nil)))
      (pss_cons (ps_for PassesOwn.never rfl (pi_range1 rfl T.range (pa_cons (pe_op op_add pe_int (pe_callB (call_min2 rfl) (by rfl) T.min (by decide +kernel) (pa_cons pe_int (pa_cons (pe_callB call_len (by rfl) T.len (by decide +kernel) (pa_cons (pv 0) pa_nil)) pa_nil)))) pa_nil)) (pg_name (i := 2) sc_law.nd rfl (Or.inl rfl)) (pss_cons (ps_set (i := 3) sc_law.nd rfl (Or.inl rfl) (pe_cG c_lfew hg hr (by decide) pass0 (pa_cons (pv 1) pa_nil)))
      (pss_cons (ps_set (i := 4) sc_law.nd rfl (Or.inl rfl) (pe_cG c_lword hg hr (by decide) pass0 (pa_cons (pv 1) (pa_cons (pv 3) (pa_cons pe_int (pa_cons pe_int pa_nil))))))
      (pss_cons (ps_set (i := 5) sc_law.nd rfl (Or.inl rfl) (pe_cG c_lfitting hg hr (by decide) pass0 (pa_cons (pv 1) (pa_cons (pv 3) (pa_cons (pv 4) (pa_cons pe_int (pa_cons (pe_cG0 c_lsorts hg hr (by decide) pass0) pa_nil)))))))
      (pss_cons (ps_set (i := 6) sc_law.nd rfl (Or.inl rfl) (pe_cG c_lprogram hg hr (by decide) pass0 (pa_cons (pv 5) pa_nil)))
      (pss_cons (ps_set (i := 7) sc_law.nd rfl (Or.inl rfl) (pe_cG c_hunks hg hr (by decide) passesF (pa_cons (pv 6) (pa_cons (pv 4) pa_nil))))
      (pss_cons (ps_if (PW.pt (pw_or (pt_cmpR op_ne (pe_cG c_ldone hg hr (by decide) pass0 (pa_cons (pv 4) (pa_cons (pv 7) pa_nil))) (pe_methG (pv 6) clP c_run hg hr (by decide) passesF (pa_cons (pv 4) pa_nil)) (nomark _)) (pw_or1 (PW.pt (pw_and (pt_cmpR (op_eqNil hu64) (pv 5) (pe_lst pa_nil) (nomark _)) (pw_and1 (pt_cmpR (op_neD hu64) (pv 7) (pe_lst pa_nil) (nomark _)))))))) (pss_one (ps_ret pe_bl)) pss_nil)
      (pss_cons (ps_for PassesOwn.never rfl (pi_range1 rfl T.range (pa_cons (pe_callB call_len (by rfl) T.len (by decide +kernel) (pa_cons (pv 7) pa_nil)) pa_nil)) (pg_name (i := 8) sc_law.nd rfl (Or.inl rfl)) (pss_cons (ps_asg (pe_ix ix_seq (pv 7) (pv 8) (fun _ _ => rfl)) (pg_tup rfl (pgs_cons (pg_name (i := 9) sc_law.nd rfl (Or.inl rfl)) (pgs_cons (pg_name (i := 10) sc_law.nd rfl (Or.inl rfl)) (pgs_cons (pg_name (i := 11) sc_law.nd rfl (Or.inl rfl)) pgs_nil)))))
      (pss_cons (ps_if (PW.pt (pw_or (pt_not (pt_chain3 op_le op_le op_le pe_int (pv 9) (pv 10) (pe_callB call_len (by rfl) T.len (by decide +kernel) (pa_cons (pv 4) pa_nil)))) (pw_or1 (PW.pt (pw_and (pt_cmpR op_eq (pv 9) (pv 10) (nomark _)) (pw_and1 (pt_cmpR op_eq (pv 11) pe_str (nomark _)))))))) (pss_one (ps_ret pe_bl)) pss_nil)
      (pss_one (ps_if (PW.pt (pw_and (pt_cmpR op_gt (pv 8) pe_int (nomark _)) (pw_and1 (pt_cmpR op_le (pv 9) (pe_ix ix_seq (pe_ix ix_seq (pv 7) (pe_op op_sub (pv 8) pe_int) (fun _ _ => rfl)) pe_int (fun _ _ => rfl)) (nomark _))))) (pss_one (ps_ret pe_bl)) pss_nil)))))
      (pss_cons (ps_set (i := 12) sc_law.nd rfl (Or.inr rfl) (pe_callB (call_sumL rfl) (by rfl) mSum (by decide +kernel) (pa_cons (pe_lc (own := [("_law_begin", 9), ("_law_end", 10), ("_law_fresh", 11)]) (g := (gTup K 3 (gCons (gName 9) (gCons (gName 10) (gCons (gName 11) gNil))))) (tt := tYes) rfl sc_law.nd (pi_list (pv 7)) (blkOk_by (own := [("_law_begin", 9), ("_law_end", 10), ("_law_fresh", 11)]) (N := ["_law_script", "_law_pen_here", "_law_turn", "_law_signs_here", "_law_text_here", "_law_plains", "_law_made_here", "_law_some", "_law_k", "_law_begin", "_law_end", "_law_fresh", "_law_gone", "_law_kept", "_law_entry", "_law_at"]) (sc := defScope s_law) (by decide +kernel)) (fun _ _ _ _ _ => (pg_tupK (K := K) (n := 3) rfl rfl (pgs_cons (pg_name (i := 9) sc_law.nd rfl (Or.inl rfl)) (pgs_cons (pg_name (i := 10) sc_law.nd rfl (Or.inl rfl)) (pgs_cons (pg_name (i := 11) sc_law.nd rfl (Or.inl rfl)) pgs_nil))))) (fun _ _ _ _ _ => pts_nil) (fun _ _ _ _ _ => (pe_listRg rfl (by rfl) T.list (prg_2 (by rfl) T.range (pv 9) (pv 10))))) (pa_cons (pe_lst pa_nil) pa_nil))))
      (pss_cons (ps_setLc (i := 13) (own := [("_law_entry", 14)]) (g := gName 14) rfl sc_law.nd rfl rfl (sw_true rfl rfl rfl (by decide +kernel)) (pi_tup (pe_cG c_origins hg hr (by decide) passesF (pa_cons (pv 6) (pa_cons (pv 4) pa_nil)))) (blkOk_by (own := [("_law_entry", 14)]) (N := ["_law_script", "_law_pen_here", "_law_turn", "_law_signs_here", "_law_text_here", "_law_plains", "_law_made_here", "_law_some", "_law_k", "_law_begin", "_law_end", "_law_fresh", "_law_gone", "_law_kept", "_law_entry", "_law_at"]) (sc := defScope s_law) (by decide +kernel)) (fun _ _ _ _ _ => (pg_name (i := 14) sc_law.nd rfl (Or.inl rfl))) (fun _ _ _ _ _ => (pts_one (pt_val (pe_callB (call_isiK (K := K) rfl) (by rfl) T.isinstance (by decide +kernel) (pa_cons (pv 14) (pa_cons (pe_bltn (v := .ty "int") (by rfl) T.int rfl rfl) pa_nil)))))) (fun _ _ _ _ _ => (pv 14)))
      (pss_one (ps_if (pt_cmpR (op_neD hu64) (pv 13) (pe_lc (own := [("_law_at", 15)]) (g := gName 15) rfl sc_law.nd (pi_range1 rfl T.range (pa_cons (pe_callB call_len (by rfl) T.len (by decide +kernel) (pa_cons (pv 4) pa_nil)) pa_nil)) (blkOk_by (own := [("_law_at", 15)]) (N := ["_law_script", "_law_pen_here", "_law_turn", "_law_signs_here", "_law_text_here", "_law_plains", "_law_made_here", "_law_some", "_law_k", "_law_begin", "_law_end", "_law_fresh", "_law_gone", "_law_kept", "_law_entry", "_law_at"]) (sc := defScope s_law) (by decide +kernel)) (fun _ _ _ _ _ => (pg_name (i := 15) sc_law.nd rfl (Or.inl rfl))) (fun _ _ _ _ _ => (pts_one (pt_cmpR (op_notIn_seqK (K := K) rfl) (pv 15) (pv 12) (by rfl)))) (fun _ _ _ _ _ => (pv 15))) (nomark _)) (pss_one (ps_ret pe_bl)) pss_nil))))))))))))
      (pss_one (ps_ret pe_bl)))), ?_⟩
    refine ⟨_, rfl, a, ns, rfl, hS, fun p pc H1 hp0 Pn0 s1 => ?_⟩
    refine ⟨_, rfl, _, _, rfl, .inl ⟨_, s1.seq hS, rfl⟩, _, _, rfl, _, _, rfl, rfl, _, rfl, ?_, ?_, ?_⟩
    · split <;> omega
    · split <;> omega
    refine for_range (lo := 0) (fun i σ H' => ∃ o2 o3 o4 o5 o6 o7 o8 o9 o10 o11 o12 o13 o14 o15 : Option V, σ = [some (.ref a), some (.ref p), o2, o3, o4, o5, o6, o7, o8, o9, o10, o11, o12, o13, o14, o15] ∧ Pen H' p pc (1000 * i)) ?_ ?_ ?_
    · exact ⟨_, _, _, _, _, _, _, _, _, _, _, _, _, _, rfl, Pn0⟩
    · rintro i σ H2 hi ⟨o2, o3, o4, o5, o6, o7, o8, o9, o10, o11, o12, o13, o14, o15, rfl, P2⟩
      have hi8 : i ≤ 30 := by
        have : i < 31 := by
          revert hi
          split <;> omega
        omega
      refine ⟨_, rfl, p, pc, 1000 * i, rfl, P2, by omega, fun sg H3 fz P3 x3 => ?_⟩
      refine ⟨_, rfl, _, rfl, p, pc, sg, 0, 24, _, rfl, by decide, by decide, fz.1, Nat.le_trans fz.2.1 (by decide), P3, by omega, fun x H4 gx P4 x4 => ?_⟩
      have x24 : x.length ≤ 24 := gx.2.1
      have xo : Of sg x := gx.2.2
      refine ⟨_, rfl, _, rfl, _, rfl, rfl, fun so hso => ?_⟩
      have P5 := P4.new (o := .lst (srtV KS)) hso
      have h34 : x.length * 3 ^ 4 ≤ 2400 := by
        have : x.length * 3 ^ 4 ≤ 24 * 3 ^ 4 := Nat.mul_le_mul_right _ x24
        exact Nat.le_trans this (by decide)
      refine ⟨p, pc, sg, x, 4, so, KS, 1000 * i + 4 + 25, rfl, fz, xo, upd_same, by decide, by decide, by decide, by decide, h34, P5.mono (by omega), by omega, fun lp got es H6 _ hlp pls gw el ery P6 x6 => ?_⟩
      obtain ⟨y, er⟩ := ery
      have sm : ∀ e ∈ es, Sml e := fun e he => (gw_wds fz (gw e he)).2
      have p4 : 3 ^ es.length ≤ 3 ^ 4 := Nat.pow_le_pow_right (by decide) el
      have hx2 : x.length * 3 ^ es.length ≤ 1944 := Nat.le_trans (Nat.mul_le_mul x24 p4) (by decide)
      have bd := bnd_small sm (Nat.le_trans hx2 (by decide))
      have yl : y.length ≤ 1944 := Nat.le_trans (run_len sm er) hx2
      have xl : Of letS x := fun c hc => fz.2.2 c (xo c hc)
      have hT : isT (.str x) = true := isT_of xl
      have r1 : Srt (.str x) := ⟨by omega, ok_letters xl⟩
      have gl := paired_len pls
      refine ⟨_, rfl, lp, got, es, rfl, hlp, pls, fun e he => (gw_wds fz (gw e he)).1, el, fun pr H7 s7 ip => ?_⟩
      refine ⟨_, rfl, _, rfl, pr, es, .str x, .str x, rfl, ip, .atm (.str x), r1, (fun z => nomatch hT.symm.trans z), fun x2 e _ => ?_⟩
      cases e
      refine ⟨bd, fun y2 e2 => by rw [er] at e2; cases e2; omega, (fun i m e2 => nomatch er.symm.trans e2), (fun i e2 => nomatch er.symm.trans e2), fun y2 L hy hL l xs H8 s8 hl hk => ?_⟩
      rw [er] at hy
      cases hy
      obtain ⟨ha, hkept, hfar, hok⟩ := all_gaps er hL
      obtain ⟨Lx, hLx, lL⟩ := labs_is (start_len (x := x)) er
      rw [hL] at hLx
      cases hLx
      have gle := gap_len2 (f := 0) (n := x.length) (gaps_ok hL).1 fun r hr => ⟨Nat.zero_le _, by have := hok r hr; omega⟩
      have ip8 := ip.keep s8
      have P8 := (P6.stay s7).stay s8
      have hlp8 := s8 _ _ (s7 _ _ hlp)
      have none0 : es = [] → gapsM L x.length = [] := fun z => gaps_none (by rw [← z]; exact hL)
      have xsl := paired_len hk
      unfold hunkM at hk xsl
      rw [List.length_map] at xsl
      generalize hG : gapsM L x.length = G at ha hkept hfar hok gle none0 hk xsl
      clear P2 P3 P4 P5 P6 x3 x4 x6 s7 ip hlp hso h34
      refine name_go ?_
      dsimp only
      refine seq_mid (fun σ H' => σ = [some (.ref a), some (.ref p), some (.int (0 + (i : Int))), some (.str sg), some (.str x), some (.ref lp), some (.ref pr), some (.ref l), o8, o9, o10, o11, o12, o13, o14, o15] ∧ Same H8 H') (fun D' hD => ?_) (fun σ H9 hm => ?_)
      · refine ⟨_, rfl, _, rfl, x, y, G, l, xs, rfl, hl, hk, hfar, (fun r hr => (hok r hr).2), by omega, by omega, by omega, ha, fun H9 s9 => ?_⟩
        have ip9 := ip8.keep s9
        obtain ⟨dx, q, vs, hp, _, _⟩ := ip9
        refine ⟨_, rfl, pr, dx, _, rfl, hp, rfl, _, rfl, pr, es, .str x, .str x, rfl, ip8.keep s9, .atm (.str x), r1, (fun z => nomatch hT.symm.trans z), fun x2 e _ => ?_⟩
        cases e
        refine ⟨bd, (fun i m e2 => nomatch er.symm.trans e2), (fun i e2 => nomatch er.symm.trans e2), fun y2 er2 H10 s10 => ?_⟩
        rw [er] at er2
        cases er2
        refine ⟨rfl, _, rfl, ?_⟩
        dsimp only
        rw [show (!decide (V.str y = V.str y)) = false by rw [decide_eq_true rfl]; rfl]
        refine iteF ⟨_, rfl, few_len (Nat.zero_le _), fun e1 he1 => ?_⟩
        have s11 := (s9.trans s10).trans (same_new (o := .lst []) he1)
        refine ⟨lp, got, e1, rfl, rfl, SqL.of (s11 _ _ hlp8), SqL.of upd_same, _, rfl, ?_⟩
        cases hz : decide (got.length = 0) with
        | false => exact iteF (iteF (hD _ _ ⟨rfl, s11⟩))
        | true =>
          have e0 : es = [] := List.length_eq_zero_iff.mp (by rw [← gl]; exact of_decide_eq_true hz)
          have xs0 : xs = [] := List.length_eq_zero_iff.mp (by rw [xsl, none0 e0]; rfl)
          refine iteT ⟨_, rfl, few_len (Nat.zero_le _), fun e2 he2 => ?_⟩
          have s12 := s11.trans (same_new (o := .lst []) he2)
          refine ⟨.list [], .list [], .lst (SqL.of (s12 _ _ (by rw [xs0] at hl; exact hl))) .nil, .lst (SqL.of upd_same) .nil, by decide +kernel, by decide +kernel, _, rfl, ?_⟩
          rw [show (!PyData.eqv (.list []) (.list [])) = false by decide +kernel]
          exact iteF (hD _ _ ⟨rfl, s12⟩)
      obtain ⟨rfl, s9⟩ := hm
      refine seq_mid (fun σ H' => ∃ o8 o9 o10 o11 : Option V, σ = [some (.ref a), some (.ref p), some (.int (0 + (i : Int))), some (.str sg), some (.str x), some (.ref lp), some (.ref pr), some (.ref l), o8, o9, o10, o11, o12, o13, o14, o15] ∧ Same H8 H') (fun D' hD => ?_) (fun σ H10 hm => ?_)
      · refine ⟨_, rfl, .ref l, xs.length, rfl, .inl ⟨_, SqL.of (s9 _ _ hl), rfl⟩, _, rfl, by omega, by omega, ?_⟩
        refine for_range (lo := 0) (n := xs.length) (fun j σ H' => ∃ o8 o9 o10 o11 : Option V, σ = [some (.ref a), some (.ref p), some (.int (0 + (i : Int))), some (.str sg), some (.str x), some (.ref lp), some (.ref pr), some (.ref l), o8, o9, o10, o11, o12, o13, o14, o15] ∧ Same H8 H') ?_ ?_ ?_
        · exact ⟨_, _, _, _, rfl, s9⟩
        · rintro j σ H11 hj ⟨o8, o9, o10, o11, rfl, s11⟩
          obtain ⟨v, hv⟩ : ∃ v, xs[j]? = some v := ⟨xs[j], List.getElem?_eq_getElem hj⟩
          obtain ⟨h, hh, u, rfl, hu⟩ := paired_at hk hv
          rw [List.getElem?_map] at hh
          obtain ⟨⟨f1, e1, b1, p1⟩, hr1, rfl⟩ := Option.map_eq_some_iff.mp hh
          obtain ⟨g1, g2, g3, g4, g5⟩ := hok _ (List.mem_of_getElem? hr1)
          have hu2 : H11 u = some (.tup [.int (f1 : Nat), .int (e1 : Nat), .str (cutS y (some (b1 : Int)) (some (p1 : Int)))]) := s11 _ _ hu
          have ix : atI xs (0 + (j : Int)) = some (.ref u) := by
            rw [Int.zero_add]
            exact atI_nat hv
          refine ⟨_, rfl, _, rfl, .inl ⟨l, xs, _, _, rfl, rfl, SqL.of (s11 _ _ hl), ix, u, _, rfl, SqT.of hu2, rfl, _, _, rfl, _, _, rfl, _, _, rfl, rfl, ?_⟩⟩
          dsimp only
          refine seq_mid (fun σ H' => σ = [some (.ref a), some (.ref p), some (.int (0 + (i : Int))), some (.str sg), some (.str x), some (.ref lp), some (.ref pr), some (.ref l), some (.int (0 + (j : Int))), some (.int (f1 : Nat)), some (.int (e1 : Nat)), some (.str (cutS y (some (b1 : Int)) (some (p1 : Int)))), o12, o13, o14, o15] ∧ H' = H11) (fun D'' hD'' => ?_) (fun σ H12 hm => ?_)
          · refine ⟨_, rfl, _, _, rfl, rfl, _, rfl, ?_⟩
            rw [decide_eq_true (show (0 : Int) ≤ ((f1 : Nat) : Int) by omega)]
            refine iteT ⟨_, rfl, _, _, rfl, rfl, _, rfl, ?_⟩
            rw [decide_eq_true (show ((f1 : Nat) : Int) ≤ ((e1 : Nat) : Int) from Int.ofNat_le.mpr g2)]
            refine iteT ⟨_, rfl, _, _, rfl, ⟨by rw [sizeLine_eq]; omega, rfl⟩, _, _, rfl, rfl, _, rfl, ?_⟩
            rw [decide_eq_true (show ((e1 : Nat) : Int) ≤ (x.length : Nat) from Int.ofNat_le.mpr g3)]
            refine iteF ⟨_, rfl, _, rfl, rfl, _, rfl, ?_⟩
            by_cases c : f1 = e1
            · rw [decide_eq_true (show V.int ((f1 : Nat) : Int) = V.int ((e1 : Nat) : Int) by rw [c])]
              refine iteT ⟨_, rfl, rfl, _, rfl, ?_⟩
              have bp : b1 < p1 := by
                have : f1 < e1 ∨ b1 < p1 := g1
                omega
              have cs := cut_some (y := y) (b := b1) (p := p1) g4 g5
              rw [decide_eq_true bp] at cs
              have c2 : decide (V.str (cutS y (some (b1 : Int)) (some (p1 : Int))) = V.str "") = false := by
                cases q : decide (V.str (cutS y (some (b1 : Int)) (some (p1 : Int))) = V.str "") with
                | false => rfl
                | true => rw [q] at cs; cases cs
              have c3 : ∀ z : Bool, z = false → ∀ {A B : Prop}, B → (if z = true then A else B) := fun z hz A B b => by rw [hz]; exact iteF b
              exact c3 _ c2 (hD'' _ _ ⟨rfl, rfl⟩)
            · rw [decide_eq_false (fun z => c (by have := V.int.inj z; omega))]
              exact iteF (iteF (hD'' _ _ ⟨rfl, rfl⟩))
          obtain ⟨rfl, rfl⟩ := hm
          refine ⟨_, rfl, _, _, rfl, rfl, _, rfl, ?_⟩
          cases j with
          | zero => exact iteF (iteF ⟨_, _, _, _, rfl, s11⟩)
          | succ j =>
            rw [decide_eq_true (show (0 : Int) < 0 + ((j + 1 : Nat) : Int) by omega)]
            obtain ⟨v0, hv0⟩ : ∃ v, xs[j]? = some v := ⟨xs[j]'(by omega), List.getElem?_eq_getElem (by omega)⟩
            obtain ⟨h0, hh0, u0, rfl, hu0⟩ := paired_at hk hv0
            rw [List.getElem?_map] at hh0
            obtain ⟨⟨f0, e0, b0, p0⟩, hr0, rfl⟩ := Option.map_eq_some_iff.mp hh0
            have hu02 : H12 u0 = some (.tup [.int (f0 : Nat), .int (e0 : Nat), .str (cutS y (some (b0 : Int)) (some (p0 : Int)))]) := s11 _ _ hu0
            have ix0 : atI xs (0 + ((j + 1 : Nat) : Int) - 1) = some (.ref u0) := by
              rw [show (0 + ((j + 1 : Nat) : Int) - 1) = (j : Nat) from by omega]
              exact atI_nat hv0
            have far : e0 < f1 := by
              obtain ⟨i1, j1⟩ := List.getElem?_eq_some_iff.mp hr0
              obtain ⟨i2, j2⟩ := List.getElem?_eq_some_iff.mp hr1
              have := List.pairwise_iff_getElem.mp hfar j (j + 1) i1 i2 (Nat.lt_succ_self _)
              rw [j1, j2] at this
              exact this
            refine iteT ⟨_, rfl, _, rfl, _, rfl, _, _, rfl, rfl, .inl ⟨l, xs, _, _, rfl, rfl, SqL.of (s11 _ _ hl), ix0, .inr (.inl ⟨u0, _, 1, _, rfl, rfl, SqT.of hu02, rfl, _, _, rfl, rfl, _, rfl, ?_⟩)⟩⟩
            have c3 : ∀ z : Bool, z = false → ∀ {A B : Prop}, B → (if z = true then A else B) := fun z hz A B b => by rw [hz]; exact iteF b
            refine c3 _ (decide_eq_false ?_) ⟨_, _, _, _, rfl, s11⟩
            show ¬ ((f1 : Nat) : Int) ≤ ((e0 : Nat) : Int)
            omega
        · rintro σ H11 ⟨o8, o9, o10, o11, rfl, s11⟩
          exact hD _ _ ⟨_, _, _, _, rfl, s11⟩
      obtain ⟨o8, o9, o10, o11, rfl, s10⟩ := hm
      have gnl : (goneL G).length ≤ 700 := by
        have a := gone_len (G := G) (n := x.length) fun r hr => (hok r hr).2.2.1
        have b : G.length * x.length ≤ 25 * 24 := Nat.mul_le_mul (by omega) x24
        omega
      refine seq_mid (fun σ H' => ∃ g : Addr, σ = [some (.ref a), some (.ref p), some (.int (0 + (i : Int))), some (.str sg), some (.str x), some (.ref lp), some (.ref pr), some (.ref l), o8, o9, o10, o11, some (.ref g), o13, o14, o15] ∧ Same H8 H' ∧ H' g = some (.lst ((goneL G).map fun a => V.int (a : Nat)))) (fun D' hD => ?_) (fun σ H11 hm => ?_)
      · refine ⟨_, rfl, l, rfl, ⟨_, SqL.of (s10 _ _ hl)⟩, fun D hDn => ?_⟩
        refine lc_list (K := K) (a := l) (xs := xs) (fun i H' => ∃ as : List Addr, Same H10 H' ∧ H' D = some (.lst (as.map V.ref)) ∧ Paired (fun b zs => b ≠ D ∧ H' b = some (.lst zs)) as (gapL (G.take i))) ⟨[], same_new hDn, upd_same, .nil⟩ (fun i H' _ q => let ⟨_, s, _⟩ := q; SqL.of (s _ _ (s10 _ _ hl))) (fun i v H' hv q => ?_) (fun H' q => ?_)
        · obtain ⟨as, sm, hd, pr⟩ := q
          obtain ⟨h, hh, u, rfl, hu⟩ := paired_at hk hv
          rw [List.getElem?_map] at hh
          obtain ⟨⟨f1, e1, b1, p1⟩, hr1, rfl⟩ := Option.map_eq_some_iff.mp hh
          obtain ⟨g1, g2, g3, g4, g5⟩ := hok _ (List.mem_of_getElem? hr1)
          have hu2 : H' u = some (.tup [.int (f1 : Nat), .int (e1 : Nat), .str (cutS y (some (b1 : Int)) (some (p1 : Int)))]) := sm _ _ (s10 _ _ hu)
          have il := (List.getElem?_eq_some_iff.mp hv).1
          have pl := paired_len pr
          unfold gapL at pl
          rw [List.length_map, List.length_take] at pl
          replace g3 : e1 ≤ x.length := g3
          replace g2 : f1 ≤ e1 := g2
          refine ⟨u, _, rfl, SqT.of hu2, rfl, _, _, rfl, _, _, rfl, _, _, rfl, rfl, ?_⟩
          refine ⟨rfl, ?_⟩
          dsimp only [tYes]
          rw [if_pos rfl]
          refine ⟨_, rfl, _, rfl, _, _, rfl, rfl, .of_le (by omega) (by omega) (by omega) (by omega), fun q hq => ?_⟩
          have sq := same_new (o := .lst (rgV (f1 : Nat) (e1 : Nat))) hq
          have nq : q ≠ D := (ne_of_none hd hq).symm
          refine ⟨as.map V.ref, sq _ _ hd, by rw [List.length_map]; exact few_lt2 (by omega), as ++ [q], upd_out hDn (sm.trans sq), by rw [upd_same, List.map_append]; rfl, ?_⟩
          rw [take_next hr1]
          unfold gapL
          rw [List.map_append]
          refine paired_app (paired_impl (fun b zs ⟨n, h⟩ => ⟨n, by rw [upd_ne n]; exact sq _ _ h⟩) pr) (.cons ⟨nq, ?_⟩ .nil)
          rw [upd_ne nq]
          exact upd_same
        · obtain ⟨as, sm, hd, pr⟩ := q
          rw [List.take_of_length_le (by omega)] at pr
          refine ⟨few_len (Nat.zero_le _), fun b hb => ?_⟩
          have sb := same_new (o := .lst []) hb
          have fl := gapL_flat G
          refine ⟨D, b, as, gapL G, [], rfl, SqL.of (sb _ _ hd), upd_same, paired_impl (fun b zs ⟨_, h⟩ => sb _ _ h) pr, ?_, fun e => ?_, fun _ q hq => ?_⟩
          · rw [List.nil_append, fl, List.length_map]
            exact few_len (by omega)
          · refine hD _ _ ⟨b, rfl, (s10.trans sm).trans sb, ?_⟩
            rw [← fl, e]
            exact upd_same
          · have sq := same_new (o := .lst ([] ++ (gapL G).flatten)) hq
            refine hD _ _ ⟨q, rfl, ((s10.trans sm).trans sb).trans sq, ?_⟩
            rw [← fl]
            exact upd_same
      obtain ⟨g, rfl, s11, hg11⟩ := hm
      refine seq_mid (fun σ H' => ∃ D : Addr, σ = [some (.ref a), some (.ref p), some (.int (0 + (i : Int))), some (.str sg), some (.str x), some (.ref lp), some (.ref pr), some (.ref l), o8, o9, o10, o11, some (.ref g), some (.ref D), o14, o15] ∧ Same H8 H' ∧ H' g = some (.lst ((goneL G).map fun a => V.int (a : Nat))) ∧ H' D = some (.lst ((idxs L).map fun a => V.int (a : Nat)))) (fun D' hD => ?_) (fun σ H13 hm => ?_)
      · refine ⟨_, rfl, _, rfl, pr, es, .str x, .str x, rfl, ip8.keep s11, .atm (.str x), r1, (fun z => nomatch hT.symm.trans z), fun x2 e _ => ?_⟩
        cases e
        refine ⟨bd, fun i m e2 => (nomatch er.symm.trans (lab_no e2)), fun i e2 => (nomatch er.symm.trans (lab_over e2)), fun L2 hL2 te es1 H12 s12 hte lbs => ?_⟩
        rw [hL] at hL2
        cases hL2
        have ell := paired_len lbs
        refine ⟨te, rfl, ⟨_, SqT.of hte⟩, fun D hDn => ?_⟩
        refine lc_tup (K := K) (a := te) (xs := es1) (fun i H' => Same H12 H' ∧ H' D = some (.lst ((idxs (L.take i)).map fun a => V.int (a : Nat)))) ⟨same_new hDn, upd_same⟩ (fun i H' _ q => SqT.of (q.1 _ _ hte)) (fun i v H' hv q => ?_) (fun H' q => ?_)
        · obtain ⟨sm, hd⟩ := q
          obtain ⟨lb, hlb, hlr⟩ := paired_at lbs hv
          have hlr2 : LbR H' v lb := LbR.keep hlr fun a ws h => sm _ _ h
          obtain ⟨ty, tk, kk⟩ := lb_isi (K := K) hlr2
          have il := (List.getElem?_eq_some_iff.mp hv).1
          have kn : idxs (L.take (i + 1)) = idxs (L.take i) ++ idxs [lb] := by rw [take_next hlb, idxs_app]
          have kl : (idxs (L.take i)).length ≤ 1944 := by
            have : (idxs (L.take i)).length ≤ (L.take i).length := List.length_filterMap_le _ _
            rw [List.length_take] at this
            omega
          refine ⟨rfl, ?_⟩
          cases lb with
          | put e q k =>
            refine ⟨_, rfl, v, .ty "int", ty, .type "int", false, rfl, .ty "int", tk, kk, _, rfl, iteF ⟨sm, ?_⟩⟩
            rw [kn, hd]
            exact congrArg (fun z => some (HO.lst (List.map _ z))) (List.append_nil _).symm
          | idx e =>
            cases (show v = .int (e : Nat) from hlr2)
            refine ⟨_, rfl, _, .ty "int", ty, .type "int", true, rfl, .ty "int", tk, kk, _, rfl, iteT ⟨_, rfl, _, hd, by rw [List.length_map]; exact few_lt2 (by omega), upd_out hDn sm, ?_⟩⟩
            rw [kn, upd_same, List.map_append]
            rfl
        · obtain ⟨sm, hd⟩ := q
          rw [List.take_of_length_le (by omega)] at hd
          exact hD _ _ ⟨D, rfl, (s11.trans s12).trans sm, sm _ _ (s12 _ _ hg11), hd⟩
      obtain ⟨D, rfl, s13, hg13, hd13⟩ := hm
      refine ⟨_, rfl, _, rfl, _, _, rfl, ⟨by rw [sizeLine_eq]; omega, rfl⟩, _, rfl, by omega, by omega, fun D2 hD2 => ?_⟩
      refine lc_range (lo := 0) (n := x.length) (fun i H' => Same H13 H' ∧ H' D2 = some (.lst (((List.range i).filter (fun a => !decide (a ∈ goneL G))).map fun a => V.int (a : Nat)))) ⟨same_new hD2, upd_same⟩ (fun i H' hi q => ?_) (fun H' q => ?_)
      · obtain ⟨sm, hd⟩ := q
        have fl : ((List.range i).filter (fun a => !decide (a ∈ goneL G))).length ≤ 24 := by
          have := List.length_filter_le (fun a => !decide (a ∈ goneL G)) (List.range i)
          rw [List.length_range] at this
          omega
        refine ⟨rfl, ?_⟩
        refine ⟨_, rfl, _, rfl, g, _, rfl, .inl (SqL.of (sm _ _ hg13)), rfl, flat_ints _, _, rfl, ?_⟩
        have e0 : (if (true : Bool) = true then !inV (V.int (0 + (i : Int))) ((goneL G).map fun a => V.int (a : Nat)) else inV (V.int (0 + (i : Int))) ((goneL G).map fun a => V.int (a : Nat))) = !decide (i ∈ goneL G) := by
          rw [if_pos rfl, Int.zero_add, in_ints]
        rw [e0]
        cases hc : (!decide (i ∈ goneL G)) with
        | false =>
          refine iteF ⟨sm, ?_⟩
          rw [hd, List.range_succ, List.filter_append, List.filter_cons_of_neg (by rw [hc]; decide), List.filter_nil, List.append_nil]
        | true =>
          refine iteT ⟨_, rfl, _, hd, by rw [List.length_map]; exact few_lt2 (by omega), upd_out hD2 sm, ?_⟩
          rw [upd_same, List.range_succ, List.filter_append, List.filter_cons_of_pos (p := fun a => !decide (a ∈ goneL G)) hc, List.filter_nil, List.map_append, Int.zero_add]
          rfl
      · obtain ⟨sm, hd⟩ := q
        rw [hkept] at hd
        have dp : ∀ {H : Hp} (l : List Nat), DpAll K H (l.map fun a => V.int (a : Nat)) ((l.map fun a => ((a : Nat) : Int)).map PyData.int) := fun {H} l => by
          induction l with
          | nil => exact .nil
          | cons a l ih => exact .cons (.int _) ih
        have sh := ints_shaped ((idxs L).map fun a => ((a : Nat) : Int))
        refine ⟨_, _, .lst (SqL.of (sm _ _ hd13)) (dp _), .lst (SqL.of hd) (dp _), sh, sh, _, rfl, ?_⟩
        rw [SeqAt.eqv_refl _ (ints_can _)]
        exact iteF ⟨_, _, _, _, _, _, _, _, _, _, _, _, _, _, rfl, ((P8.stay (s13.trans sm))).mono (by omega)⟩
    · rintro σ H2 ⟨o2, o3, o4, o5, o6, o7, o8, o9, o10, o11, o12, o13, o14, o15, rfl, P2⟩
      exact k _
end
end Vk
set_option Elab.async false
set_option maxRecDepth 100000
set_option maxHeartbeats 4000000
set_option linter.all false
namespace Vk
open PySem PySem.Spec PyProof.Rows L2 PySem.W
theorem walkX {l : PySem.W.OpenLaw} {n k : Nat} {q : Program} {loose : List Str} {XP : (Str → Option Value) → Heap → Prop} {YP : World → Heap → Prop} {d : DefRec} {K : Params → PySem.W.Frag} {CX : CXT} {sp : PySem.W.Frag → Sp} {x : Str}
    (hn : l.most = some n) (hn2 : n ≤ sizeLine) (hdf : d.params.defaults = []) (hr : Room k callerA) (hY : ∀ (w : World) (h : Heap), YP w h → (K w.params).In h)
    (F : ∀ (w : World) (mg : Str → Option Value) (fa : Addr) (h : Heap), (K w.params).In h → (∃ s0 mb, PySem.W.Ground q loose [] XP w s0 mg mb h) → mg d.name = some (.ref fa) →
      ∃ fd : FuncData, (∀ (s : Shared) (u : Value), BindsTo s fd ⟨[u], []⟩ [(x, u)]) ∧ ∀ base : Heap, (K w.params).In base → base.Ns mainGlobals mg → FnG l.prog w (K w.params) mg base CX k fa fd [x] (sp (K w.params)))
    (hsp : ∀ (K : PySem.W.Frag) (H : Hp) (a : Addr) (ns : List Int), ns.length ≤ n → Only H → SqL K H a (ns.map V.int) → sp K [.ref a] H (fun v _ => v = .bl true) fun _ _ _ => False)
    (noX : ∀ (H : Hp) (s : Shared) (e : Value) (s2 : Shared), CX [] H s (fun _ _ _ => False) e s2 → False) : PySem.W.WalkO q loose XP YP l.row.toRowW d [] (fun f vs => PySem.call f vs) := by
  refine Att.attach_call hn hdf ?_
  intro w s0 s1 mg mb fa o pm cd doc a vs ns G Y _ _ _ hmg scr hints hlen gens0
  obtain ⟨fd, hb, hF⟩ := F w mg fa _ (hY w _ Y) ⟨s0, mb, G⟩ hmg
  exact lawG (hY w _ Y) G.T.g G.T.b G.T.builtins G.T.nolimit gens0 scr hints (Nat.le_trans hlen hn2) hr hF hb (fun H h1 h2 => hsp _ H a ns hlen h1 h2) (fun H => noX H s1)
end Vk
set_option Elab.async false
set_option maxRecDepth 100000
set_option linter.all false
set_option maxHeartbeats 4000000
namespace Vk
open PySem PySem.Spec PyProof.Rows L2 LamX NdefX StX PySem.VkX
section
variable {P : Program} {w : World} {K : PySem.W.Frag} {mg : Str → Option Value} {base : Heap}
abbrev m_oldOnce : Stmt := mtd (top 24) 1
theorem b_oldOnce {f C : Addr} {fd : FuncData} (F : Fun K "old" "Once.old" m_oldOnce f fd) (e : EdF K C) : FnOk P w K mg base CX0 1 f fd ["self"] (getSp C "_old") := by
  obtain ⟨oc, od, kV, doc, pm, an, cdv, ct, osl, rfl, lk, hcd⟩ := F.ex
  exact fn_getter (N := ["self"]) lk hcd ⟨rfl, rfl, rfl, by decide +kernel, rfl, by decide +kernel, by decide +kernel⟩ rfl rfl e.cl e.n1
abbrev m_newOnce : Stmt := mtd (top 24) 2
theorem b_newOnce {f C : Addr} {fd : FuncData} (F : Fun K "new" "Once.new" m_newOnce f fd) (e : EdF K C) : FnOk P w K mg base CX0 1 f fd ["self"] (getSp C "_new") := by
  obtain ⟨oc, od, kV, doc, pm, an, cdv, ct, osl, rfl, lk, hcd⟩ := F.ex
  exact fn_getter (N := ["self"]) lk hcd ⟨rfl, rfl, rfl, by decide +kernel, rfl, by decide +kernel, by decide +kernel⟩ rfl rfl e.cl e.n2
abbrev m_oldFirst : Stmt := mtd (top 25) 1
theorem b_oldFirst {f C : Addr} {fd : FuncData} (F : Fun K "old" "First.old" m_oldFirst f fd) (e : EdF K C) : FnOk P w K mg base CX0 1 f fd ["self"] (getSp C "_old") := by
  obtain ⟨oc, od, kV, doc, pm, an, cdv, ct, osl, rfl, lk, hcd⟩ := F.ex
  exact fn_getter (N := ["self"]) lk hcd ⟨rfl, rfl, rfl, by decide +kernel, rfl, by decide +kernel, by decide +kernel⟩ rfl rfl e.cl e.n1
abbrev m_newFirst : Stmt := mtd (top 25) 2
theorem b_newFirst {f C : Addr} {fd : FuncData} (F : Fun K "new" "First.new" m_newFirst f fd) (e : EdF K C) : FnOk P w K mg base CX0 1 f fd ["self"] (getSp C "_new") := by
  obtain ⟨oc, od, kV, doc, pm, an, cdv, ct, osl, rfl, lk, hcd⟩ := F.ex
  exact fn_getter (N := ["self"]) lk hcd ⟨rfl, rfl, rfl, by decide +kernel, rfl, by decide +kernel, by decide +kernel⟩ rfl rfl e.cl e.n2
abbrev m_oldPerhaps : Stmt := mtd (top 26) 1
theorem b_oldPerhaps {f C : Addr} {fd : FuncData} (F : Fun K "old" "Perhaps.old" m_oldPerhaps f fd) (e : EdF K C) : FnOk P w K mg base CX0 1 f fd ["self"] (getSp C "_old") := by
  obtain ⟨oc, od, kV, doc, pm, an, cdv, ct, osl, rfl, lk, hcd⟩ := F.ex
  exact fn_getter (N := ["self"]) lk hcd ⟨rfl, rfl, rfl, by decide +kernel, rfl, by decide +kernel, by decide +kernel⟩ rfl rfl e.cl e.n1
abbrev m_newPerhaps : Stmt := mtd (top 26) 2
theorem b_newPerhaps {f C : Addr} {fd : FuncData} (F : Fun K "new" "Perhaps.new" m_newPerhaps f fd) (e : EdF K C) : FnOk P w K mg base CX0 1 f fd ["self"] (getSp C "_new") := by
  obtain ⟨oc, od, kV, doc, pm, an, cdv, ct, osl, rfl, lk, hcd⟩ := F.ex
  exact fn_getter (N := ["self"]) lk hcd ⟨rfl, rfl, rfl, by decide +kernel, rfl, by decide +kernel, by decide +kernel⟩ rfl rfl e.cl e.n2
abbrev m_oldEvery : Stmt := mtd (top 27) 1
theorem b_oldEvery {f C : Addr} {fd : FuncData} (F : Fun K "old" "Every.old" m_oldEvery f fd) (e : EdF K C) : FnOk P w K mg base CX0 1 f fd ["self"] (getSp C "_old") := by
  obtain ⟨oc, od, kV, doc, pm, an, cdv, ct, osl, rfl, lk, hcd⟩ := F.ex
  exact fn_getter (N := ["self"]) lk hcd ⟨rfl, rfl, rfl, by decide +kernel, rfl, by decide +kernel, by decide +kernel⟩ rfl rfl e.cl e.n1
abbrev m_newEvery : Stmt := mtd (top 27) 2
theorem b_newEvery {f C : Addr} {fd : FuncData} (F : Fun K "new" "Every.new" m_newEvery f fd) (e : EdF K C) : FnOk P w K mg base CX0 1 f fd ["self"] (getSp C "_new") := by
  obtain ⟨oc, od, kV, doc, pm, an, cdv, ct, osl, rfl, lk, hcd⟩ := F.ex
  exact fn_getter (N := ["self"]) lk hcd ⟨rfl, rfl, rfl, by decide +kernel, rfl, by decide +kernel, by decide +kernel⟩ rfl rfl e.cl e.n2
end
/-- what of the text a class of edits must have -/
structure ClsT (K : PySem.W.Frag) (x : Str) (C fI : Addr) : Prop where
  ns : PySem.W.nsIn K mainGlobals x = some (some (.ref C))
  mks : PySem.W.makesIn K C = true
  it : PySem.W.findIn K (.ref C) "__init__" = some (some (.ref fI))
  fn : PySem.W.isFn K (.ref fI) = true
  kp : PySem.W.keepIn K (.ref C) = true
  pg : PySem.W.plainGet K C Str.empty = true
  hd : PySem.W.hasDictIn K C = true
  po : PySem.W.plainOver K C = true
  sa : PySem.W.findIn K (.ref C) "__setattr__" = some (some (.builtin "object.__setattr__"))
  n1 : PySem.W.findIn K (.ref C) "_old" = some none
  n2 : PySem.W.findIn K (.ref C) "_new" = some none
  ca : PySem.W.findIn K (.ref C) "__class__" = some (some (.builtin "object.__class__"))
  cn : PySem.W.specialIn K (.builtin "object.__class__") "__get__" = some (some (.builtin "getset_descriptor.__get__"))
  ct : PySem.W.takesIn K (.builtin "object.__class__") = some true
  cm : PySem.W.mroIn K C (.type "object") = some true
theorem ClsT.cl {K : PySem.W.Frag} {x : Str} {C fI : Addr} (t : ClsT K x C fI) : Cls K C := ⟨t.pg, t.hd, t.po, t.sa⟩
theorem ClsT.ed {K : PySem.W.Frag} {x : Str} {C fI : Addr} (t : ClsT K x C fI) : EdF K C := ⟨t.cl, t.n1, t.n2, t.ca, t.cn, t.ct, t.cm⟩
theorem ClsT.M {K : PySem.W.Frag} {x : Str} {C fI : Addr} (t : ClsT K x C fI) : L2.Mk K C fI := ⟨t.mks, t.it, t.fn, t.kp⟩
theorem kit_of {K : PySem.W.Frag} {C D : Addr} {b : Bool} (ic : PySem.W.isClsIn K D = true) (ty : PySem.W.typeIn K (.ref D) = some (.type "type")) (d : PySem.W.subIn K (.ref D) (.ref D) = some true) (s : PySem.W.subIn K (.ref C) (.ref D) = some b) : PySem.W.kitOne K (.ref C) (.ref D) = some b := by
  unfold PySem.W.kitOne
  by_cases e : C = D
  · subst e
    rw [if_pos (by simp)]
    exact d.symm.trans s
  · rw [if_neg (by simpa using e)]
    show (if ((PySem.W.clsIn K D).isSome && PySem.W.typeIn K (.ref D) == some (.type "type")) = true then PySem.W.subIn K (.ref C) (.ref D) else none) = some b
    rw [if_pos (by rw [show (PySem.W.clsIn K D).isSome = true from ic, ty]; simp)]
    exact s
theorem four {p : Nat → Prop} (a : p 0) (b : p 1) (c : p 2) (d : p 3) : ∀ n, n < 4 → p n
  | 0, _ => a
  | 1, _ => b
  | 2, _ => c
  | 3, _ => d
  | n + 4, h => absurd h (by omega)
theorem four2 {p : Nat → Nat → Prop} (h : ∀ i, i < 4 → p i 0 ∧ p i 1 ∧ p i 2 ∧ p i 3) : ∀ i j, i < 4 → j < 4 → p i j := fun i j hi hj => four (p := p i) (h i hi).1 (h i hi).2.1 (h i hi).2.2.1 (h i hi).2.2.2 j hj
theorem prop_mk {K : PySem.W.Frag} {C p g : Addr} {f : Str} {rest : List Value} (a : PySem.W.findIn K (.ref C) f = some (some (.ref p))) (b : PySem.W.specialIn K (.ref p) "__get__" = some (some (.builtin "property.__get__"))) (c : PySem.W.takesIn K (.ref p) = some true) (d : PySem.W.recIn K p "property" = some (.ref g :: rest)) : L2.PropOf K C f p g := ⟨a, b, c, ⟨rest, d⟩⟩
structure MostT (K : PySem.W.Frag) (x : Str) (C : Addr) (t : Tok) : Prop where
  ns : PySem.W.nsIn K mainGlobals x = some (some (.ref C))
  rd : PySem.W.readsIn K C (.type "type") = true
  sp : PySem.W.specialIn K (.ref C) "__getattribute__" = some (some (.builtin "type.__getattribute__"))
  fc : PySem.W.findCls K (.ref C) (.type "type") "MOST" = some (.val (.int 40 t))
structure EdC (K : PySem.W.Frag) (x : Str) (q0 q1 q2 : Str) (st : Stmt) (C fI p1 g1 p2 g2 : Addr) (dI d1 d2 : FuncData) : Prop where
  T : ClsT K x C fI
  P1 : L2.PropOf K C "old" p1 g1
  P2 : L2.PropOf K C "new" p2 g2
  FI : Fun K "__init__" q0 (mtd st 0) fI dI
  F1 : Fun K "old" q1 (mtd st 1) g1 d1
  F2 : Fun K "new" q2 (mtd st 2) g2 d2
theorem kit_two {K : PySem.W.Frag} {t c1 c2 : Value} {b1 b2 : Bool} (h1 : PySem.W.kitOne K t c1 = some b1) (h2 : PySem.W.kitOne K t c2 = some b2) : PySem.W.kitAny K t [c1, c2] = some (b1 || b2) := by
  cases b1 with
  | true => exact kitAny_cons h1 (fun z => nomatch z) (fun _ => rfl)
  | false =>
    refine kitAny_cons h1 (fun _ => ?_) (fun z => nomatch z)
    cases b2 with
    | true => exact kitAny_cons h2 (fun z => nomatch z) (fun _ => rfl)
    | false => exact kitAny_cons h2 (fun _ => rfl) (fun z => nomatch z)
structure AtC (K : PySem.W.Frag) (C fI p g : Addr) (dI dp : FuncData) : Prop where
  T : ClsT K "AtOnce" C fI
  np : PySem.W.findIn K (.ref C) "_parts" = some none
  P : L2.PropOf K C "parts" p g
  FI : Fun K "__init__" "AtOnce.__init__" m_AtOnce fI dI
  FP : Fun K "parts" "AtOnce.parts" m_parts g dp
abbrev m_pedits : Stmt := mtd (top 43) 1
structure PrC (K : PySem.W.Frag) (C fI p g fR : Addr) (dI dp dR : FuncData) : Prop where
  ns : PySem.W.nsIn K mainGlobals "Program" = some (some (.ref C))
  mks : PySem.W.makesIn K C = true
  it : PySem.W.findIn K (.ref C) "__init__" = some (some (.ref fI))
  fn : PySem.W.isFn K (.ref fI) = true
  kp : PySem.W.keepIn K (.ref C) = true
  pg : PySem.W.plainGet K C Str.empty = true
  hd : PySem.W.hasDictIn K C = true
  po : PySem.W.plainOver K C = true
  sa : PySem.W.findIn K (.ref C) "__setattr__" = some (some (.builtin "object.__setattr__"))
  n1 : PySem.W.findIn K (.ref C) "_edits" = some none
  r1 : PySem.W.findIn K (.ref C) "run" = some (some (.ref fR))
  r2 : PySem.W.isFn K (.ref fR) = true
  r3 : PySem.W.keepIn K (.ref fR) = true
  P : L2.PropOf K C "edits" p g
  FI : Fun K "__init__" "Program.__init__" m_Program fI dI
  FP : Fun K "edits" "Program.edits" m_pedits g dp
  FR : Fun K "run" "Program.run" m_run fR dR
theorem PrC.cl {K : PySem.W.Frag} {C fI p g fR : Addr} {dI dp dR : FuncData} (t : PrC K C fI p g fR dI dp dR) : Cls K C := ⟨t.pg, t.hd, t.po, t.sa⟩
theorem PrC.M {K : PySem.W.Frag} {C fI p g fR : Addr} {dI dp dR : FuncData} (t : PrC K C fI p g fR dI dp dR) : L2.Mk K C fI := ⟨t.mks, t.it, t.fn, t.kp⟩
theorem b_pedits {P : Program} {w : World} {K : PySem.W.Frag} {mg : Str → Option Value} {base : Heap} {f C : Addr} {fd : FuncData} (F : Fun K "edits" "Program.edits" m_pedits f fd) (cl : Cls K C) (np : NoAttr K C "_edits") : FnOk P w K mg base CX0 1 f fd ["self"] (getSp C "_edits") := by
  obtain ⟨oc, od, kV, doc, pm, an, cdv, ct, osl, rfl, lk, hcd⟩ := F.ex
  exact fn_getter (N := ["self"]) lk hcd ⟨rfl, rfl, rfl, by decide +kernel, rfl, by decide +kernel, by decide +kernel⟩ rfl rfl cl np
structure Mat (K : PySem.W.Frag) (C0 C1 C2 C3 CE CA CP : Addr) : Prop where
  ns_Once : PySem.W.nsIn K mainGlobals "Once" = some (some (.ref C0))
  ic_Once : PySem.W.isClsIn K C0 = true
  ty_Once : PySem.W.typeIn K (.ref C0) = some (.type "type")
  ns_First : PySem.W.nsIn K mainGlobals "First" = some (some (.ref C1))
  ic_First : PySem.W.isClsIn K C1 = true
  ty_First : PySem.W.typeIn K (.ref C1) = some (.type "type")
  ns_Perhaps : PySem.W.nsIn K mainGlobals "Perhaps" = some (some (.ref C2))
  ic_Perhaps : PySem.W.isClsIn K C2 = true
  ty_Perhaps : PySem.W.typeIn K (.ref C2) = some (.type "type")
  ns_Every : PySem.W.nsIn K mainGlobals "Every" = some (some (.ref C3))
  ic_Every : PySem.W.isClsIn K C3 = true
  ty_Every : PySem.W.typeIn K (.ref C3) = some (.type "type")
  ns_Edit : PySem.W.nsIn K mainGlobals "Edit" = some (some (.ref CE))
  ic_Edit : PySem.W.isClsIn K CE = true
  ty_Edit : PySem.W.typeIn K (.ref CE) = some (.type "type")
  ns_AtOnce : PySem.W.nsIn K mainGlobals "AtOnce" = some (some (.ref CA))
  ic_AtOnce : PySem.W.isClsIn K CA = true
  ty_AtOnce : PySem.W.typeIn K (.ref CA) = some (.type "type")
  ns_Program : PySem.W.nsIn K mainGlobals "Program" = some (some (.ref CP))
  s_Once_Once : PySem.W.subIn K (.ref C0) (.ref C0) = some true
  s_Once_First : PySem.W.subIn K (.ref C0) (.ref C1) = some false
  s_Once_Perhaps : PySem.W.subIn K (.ref C0) (.ref C2) = some false
  s_Once_Every : PySem.W.subIn K (.ref C0) (.ref C3) = some false
  s_Once_AtOnce : PySem.W.subIn K (.ref C0) (.ref CA) = some false
  s_First_Once : PySem.W.subIn K (.ref C1) (.ref C0) = some false
  s_First_First : PySem.W.subIn K (.ref C1) (.ref C1) = some true
  s_First_Perhaps : PySem.W.subIn K (.ref C1) (.ref C2) = some false
  s_First_Every : PySem.W.subIn K (.ref C1) (.ref C3) = some false
  s_First_AtOnce : PySem.W.subIn K (.ref C1) (.ref CA) = some false
  s_Perhaps_Once : PySem.W.subIn K (.ref C2) (.ref C0) = some false
  s_Perhaps_First : PySem.W.subIn K (.ref C2) (.ref C1) = some false
  s_Perhaps_Perhaps : PySem.W.subIn K (.ref C2) (.ref C2) = some true
  s_Perhaps_Every : PySem.W.subIn K (.ref C2) (.ref C3) = some false
  s_Perhaps_AtOnce : PySem.W.subIn K (.ref C2) (.ref CA) = some false
  s_Every_Once : PySem.W.subIn K (.ref C3) (.ref C0) = some false
  s_Every_First : PySem.W.subIn K (.ref C3) (.ref C1) = some false
  s_Every_Perhaps : PySem.W.subIn K (.ref C3) (.ref C2) = some false
  s_Every_Every : PySem.W.subIn K (.ref C3) (.ref C3) = some true
  s_Every_AtOnce : PySem.W.subIn K (.ref C3) (.ref CA) = some false
  s_Once_Edit : PySem.W.subIn K (.ref C0) (.ref CE) = some true
  s_First_Edit : PySem.W.subIn K (.ref C1) (.ref CE) = some true
  s_Perhaps_Edit : PySem.W.subIn K (.ref C2) (.ref CE) = some true
  s_Every_Edit : PySem.W.subIn K (.ref C3) (.ref CE) = some true
  s_Edit_Edit : PySem.W.subIn K (.ref CE) (.ref CE) = some true
  s_AtOnce_AtOnce : PySem.W.subIn K (.ref CA) (.ref CA) = some true
  s_AtOnce_Edit : PySem.W.subIn K (.ref CA) (.ref CE) = some true
theorem all {l : PySem.W.OpenLaw} {w : World} {K : PySem.W.Frag} {h : Heap} {mg : Str → Option Value} {fa : Addr} (X : K.In h) (G : h.Ns mainGlobals mg) (hfa : mg "law" = some (.ref fa))
    (e_InvalidOld : ∃ (C f : Addr) (fd : FuncData), ExcTxt K "InvalidOld" "InvalidOld.__init__" m_InvalidOld C f fd ["value"] tlV)
    (e_InvalidNew : ∃ (C f : Addr) (fd : FuncData), ExcTxt K "InvalidNew" "InvalidNew.__init__" m_InvalidNew C f fd ["value"] tlV)
    (e_InvalidText : ∃ (C f : Addr) (fd : FuncData), ExcTxt K "InvalidText" "InvalidText.__init__" m_InvalidText C f fd ["value"] tlV)
    (e_InvalidPart : ∃ (C f : Addr) (fd : FuncData), ExcTxt K "InvalidPart" "InvalidPart.__init__" m_InvalidPart C f fd ["index"] tlV)
    (e_TooMany : ∃ (C f : Addr) (fd : FuncData), ExcTxt K "TooMany" "TooMany.__init__" m_TooMany C f fd ["limit"] tlO)
    (e_NoPlace : ∃ (C f : Addr) (fd : FuncData), ExcTxt K "NoPlace" "NoPlace.__init__" m_NoPlace C f fd ["index", "number"] tlL)
    (e_Overlap : ∃ (C f : Addr) (fd : FuncData), ExcTxt K "Overlap" "Overlap.__init__" m_Overlap C f fd ["index"] tlL)
    (e_Once : ∃ (C fI p1 g1 p2 g2 : Addr) (dI d1 d2 : FuncData), EdC K "Once" "Once.__init__" "Once.old" "Once.new" (top 24) C fI p1 g1 p2 g2 dI d1 d2)
    (e_First : ∃ (C fI p1 g1 p2 g2 : Addr) (dI d1 d2 : FuncData), EdC K "First" "First.__init__" "First.old" "First.new" (top 25) C fI p1 g1 p2 g2 dI d1 d2)
    (e_Perhaps : ∃ (C fI p1 g1 p2 g2 : Addr) (dI d1 d2 : FuncData), EdC K "Perhaps" "Perhaps.__init__" "Perhaps.old" "Perhaps.new" (top 26) C fI p1 g1 p2 g2 dI d1 d2)
    (e_Every : ∃ (C fI p1 g1 p2 g2 : Addr) (dI d1 d2 : FuncData), EdC K "Every" "Every.__init__" "Every.old" "Every.new" (top 27) C fI p1 g1 p2 g2 dI d1 d2)
    (e_AtOnce : ∃ (C fI p g : Addr) (dI dp : FuncData), AtC K C fI p g dI dp)
    (e_Program : ∃ (C fI p g fR : Addr) (dI dp dR : FuncData), PrC K C fI p g fR dI dp dR)
    (e_M : ∃ C0 C1 C2 C3 CE CA CP : Addr, Mat K C0 C1 C2 C3 CE CA CP)
    (d_lsigns : ∃ (f : Addr) (fd : FuncData), At K "_law_signs" s_lsigns f fd)
    (d_ldraw : ∃ (f : Addr) (fd : FuncData), At K "_law_draw" s_ldraw f fd)
    (d_lpen : ∃ (f : Addr) (fd : FuncData), At K "_law_pen" s_lpen f fd)
    (d_lpick : ∃ (f : Addr) (fd : FuncData), At K "_law_pick" s_lpick f fd)
    (d_lfew : ∃ (f : Addr) (fd : FuncData), At K "_law_few" s_lfew f fd)
    (d_lword : ∃ (f : Addr) (fd : FuncData), At K "_law_word" s_lword f fd)
    (d_ledit : ∃ (f : Addr) (fd : FuncData), At K "_law_edit" s_ledit f fd)
    (d_lmade : ∃ (f : Addr) (fd : FuncData), At K "_law_made" s_lmade f fd)
    (d_lprogram : ∃ (f : Addr) (fd : FuncData), At K "_law_program" s_lprogram f fd)
    (d_lplaces : ∃ (f : Addr) (fd : FuncData), At K "_law_places" s_lplaces f fd)
    (d_lswaps : ∃ (f : Addr) (fd : FuncData), At K "_law_swaps" s_lswaps f fd)
    (d_lswapped : ∃ (f : Addr) (fd : FuncData), At K "_law_swapped" s_lswapped f fd)
    (d_ldone : ∃ (f : Addr) (fd : FuncData), At K "_law_done" s_ldone f fd)
    (d_lfitting : ∃ (f : Addr) (fd : FuncData), At K "_law_fitting" s_lfitting f fd)
    (d_lsorts : ∃ (f : Addr) (fd : FuncData), At K "_law_sorts" s_lsorts f fd)
    (d_law : ∃ (f : Addr) (fd : FuncData), At K "law" s_law f fd)
    (d_is_text : ∃ (f : Addr) (fd : FuncData), At K "is_text" s_is_text f fd)
    (d_is_new : ∃ (f : Addr) (fd : FuncData), At K "is_new" s_is_new f fd)
    (d_is_old : ∃ (f : Addr) (fd : FuncData), At K "is_old" s_is_old f fd)
    (d_is_part : ∃ (f : Addr) (fd : FuncData), At K "is_part" s_is_part f fd)
    (d_check_words : ∃ (f : Addr) (fd : FuncData), At K "check_words" s_check_words f fd)
    (d_check_parts : ∃ (f : Addr) (fd : FuncData), At K "check_parts" s_check_parts f fd)
    (d_places : ∃ (f : Addr) (fd : FuncData), At K "places" s_places f fd)
    (d_fits : ∃ (f : Addr) (fd : FuncData), At K "fits" s_fits f fd)
    (d_apart : ∃ (f : Addr) (fd : FuncData), At K "apart" s_apart f fd)
    (d_puts_of_one : ∃ (f : Addr) (fd : FuncData), At K "puts_of_one" s_puts_of_one f fd)
    (d_checked_puts : ∃ (f : Addr) (fd : FuncData), At K "checked_puts" s_checked_puts f fd)
    (d_puts_of_parts : ∃ (f : Addr) (fd : FuncData), At K "puts_of_parts" s_puts_of_parts f fd)
    (d_puts_of : ∃ (f : Addr) (fd : FuncData), At K "puts_of" s_puts_of f fd)
    (d_text_behind : ∃ (f : Addr) (fd : FuncData), At K "text_behind" s_text_behind f fd)
    (d_check_edits : ∃ (f : Addr) (fd : FuncData), At K "check_edits" s_check_edits f fd)
    (d_origins_behind : ∃ (f : Addr) (fd : FuncData), At K "origins_behind" s_origins_behind f fd)
    (d_origins : ∃ (f : Addr) (fd : FuncData), At K "origins" s_origins f fd)
    (d_gaps : ∃ (f : Addr) (fd : FuncData), At K "gaps" s_gaps f fd)
    (d_origins_of_hunks : ∃ (f : Addr) (fd : FuncData), At K "origins_of_hunks" s_origins_of_hunks f fd)
    (d_hunks : ∃ (f : Addr) (fd : FuncData), At K "hunks" s_hunks f fd)
    (z_str : PySem.W.nsIn K mainGlobals "str" = some none)
    (z_tuple : PySem.W.nsIn K mainGlobals "tuple" = some none)
    (z_enumerate : PySem.W.nsIn K mainGlobals "enumerate" = some none)
    (z_len : PySem.W.nsIn K mainGlobals "len" = some none)
    (z_list : PySem.W.nsIn K mainGlobals "list" = some none)
    (z_int : PySem.W.nsIn K mainGlobals "int" = some none)
    (z_abs : PySem.W.nsIn K mainGlobals "abs" = some none)
    (z_range : PySem.W.nsIn K mainGlobals "range" = some none)
    (z_min : PySem.W.nsIn K mainGlobals "min" = some none)
    (z_repr : PySem.W.nsIn K mainGlobals "repr" = some none)
    (z_isinstance : PySem.W.nsIn K mainGlobals "isinstance" = some none)
    (z_sorted : PySem.W.nsIn K mainGlobals "sorted" = some none)
    (z_zip : PySem.W.nsIn K mainGlobals "zip" = some none)
    (z_sum : PySem.W.nsIn K mainGlobals "sum" = some none)
    (g_LETTERS : ∃ u, mg "LETTERS" = some u ∧ RelV (.str letS) u) (g_MAX_WORD : ∃ u, mg "MAX_WORD" = some u ∧ RelV (.int 40) u) (g_MAX_PARTS : ∃ u, mg "MAX_PARTS" = some u ∧ RelV (.int 3) u) (g_MAX_EDITS : ∃ u, mg "MAX_EDITS" = some u ∧ RelV (.int 4) u)
    : ∃ (fd : FuncData), (∀ (s : Shared) (v : Value), BindsTo s fd ⟨[v], []⟩ [("_law_script", v)]) ∧ ∀ base : Heap, K.In base → base.Ns mainGlobals mg → FnG l.prog w K mg base CX0 10 fa fd ["_law_script"] (spLaw K) := by
  obtain ⟨C_InvalidOld, i_InvalidOld, fd_InvalidOld, E_InvalidOld⟩ := e_InvalidOld
  have o_InvalidOld : One K C_InvalidOld "InvalidOld" tlV := ⟨E_InvalidOld.cn, E_InvalidOld.ns, rfl⟩
  obtain ⟨C_InvalidNew, i_InvalidNew, fd_InvalidNew, E_InvalidNew⟩ := e_InvalidNew
  have o_InvalidNew : One K C_InvalidNew "InvalidNew" tlV := ⟨E_InvalidNew.cn, E_InvalidNew.ns, rfl⟩
  obtain ⟨C_InvalidText, i_InvalidText, fd_InvalidText, E_InvalidText⟩ := e_InvalidText
  have o_InvalidText : One K C_InvalidText "InvalidText" tlV := ⟨E_InvalidText.cn, E_InvalidText.ns, rfl⟩
  obtain ⟨C_InvalidPart, i_InvalidPart, fd_InvalidPart, E_InvalidPart⟩ := e_InvalidPart
  have o_InvalidPart : One K C_InvalidPart "InvalidPart" tlV := ⟨E_InvalidPart.cn, E_InvalidPart.ns, rfl⟩
  obtain ⟨C_TooMany, i_TooMany, fd_TooMany, E_TooMany⟩ := e_TooMany
  have o_TooMany : One K C_TooMany "TooMany" tlO := ⟨E_TooMany.cn, E_TooMany.ns, rfl⟩
  obtain ⟨C_NoPlace, i_NoPlace, fd_NoPlace, E_NoPlace⟩ := e_NoPlace
  have o_NoPlace : One K C_NoPlace "NoPlace" tlL := ⟨E_NoPlace.cn, E_NoPlace.ns, rfl⟩
  obtain ⟨C_Overlap, i_Overlap, fd_Overlap, E_Overlap⟩ := e_Overlap
  have o_Overlap : One K C_Overlap "Overlap" tlL := ⟨E_Overlap.cn, E_Overlap.ns, rfl⟩
  obtain ⟨C0, C1, C2, C3, CE, CA, CP, M⟩ := e_M
  obtain ⟨C_Once, fI_Once, p1_Once, g1_Once, p2_Once, g2_Once, dI_Once, d1_Once, d2_Once, E_Once⟩ := e_Once
  cases E_Once.T.ns.symm.trans M.ns_Once
  obtain ⟨C_First, fI_First, p1_First, g1_First, p2_First, g2_First, dI_First, d1_First, d2_First, E_First⟩ := e_First
  cases E_First.T.ns.symm.trans M.ns_First
  obtain ⟨C_Perhaps, fI_Perhaps, p1_Perhaps, g1_Perhaps, p2_Perhaps, g2_Perhaps, dI_Perhaps, d1_Perhaps, d2_Perhaps, E_Perhaps⟩ := e_Perhaps
  cases E_Perhaps.T.ns.symm.trans M.ns_Perhaps
  obtain ⟨C_Every, fI_Every, p1_Every, g1_Every, p2_Every, g2_Every, dI_Every, d1_Every, d2_Every, E_Every⟩ := e_Every
  cases E_Every.T.ns.symm.trans M.ns_Every
  obtain ⟨C_At, fI_At, p_At, g_At, dI_At, dp_At, T_AtOnce⟩ := e_AtOnce
  cases T_AtOnce.T.ns.symm.trans M.ns_AtOnce
  obtain ⟨C_Pr, fI_Pr, p_Pr, g_Pr, fR_Pr, dI_Pr, dp_Pr, dR_Pr, T_Program⟩ := e_Program
  cases T_Program.ns.symm.trans M.ns_Program
  have n_Once := PySem.W.mg_of X G M.ns_Once
  have n_First := PySem.W.mg_of X G M.ns_First
  have n_Perhaps := PySem.W.mg_of X G M.ns_Perhaps
  have n_Every := PySem.W.mg_of X G M.ns_Every
  have n_Edit := PySem.W.mg_of X G M.ns_Edit
  have n_AtOnce := PySem.W.mg_of X G M.ns_AtOnce
  have n_Program := PySem.W.mg_of X G M.ns_Program
  obtain ⟨f_lsigns, fd_lsigns, A_lsigns⟩ := d_lsigns
  have m_lsigns := PySem.W.mg_of X G A_lsigns.ns
  obtain ⟨f_ldraw, fd_ldraw, A_ldraw⟩ := d_ldraw
  have m_ldraw := PySem.W.mg_of X G A_ldraw.ns
  obtain ⟨f_lpen, fd_lpen, A_lpen⟩ := d_lpen
  have m_lpen := PySem.W.mg_of X G A_lpen.ns
  obtain ⟨f_lpick, fd_lpick, A_lpick⟩ := d_lpick
  have m_lpick := PySem.W.mg_of X G A_lpick.ns
  obtain ⟨f_lfew, fd_lfew, A_lfew⟩ := d_lfew
  have m_lfew := PySem.W.mg_of X G A_lfew.ns
  obtain ⟨f_lword, fd_lword, A_lword⟩ := d_lword
  have m_lword := PySem.W.mg_of X G A_lword.ns
  obtain ⟨f_ledit, fd_ledit, A_ledit⟩ := d_ledit
  have m_ledit := PySem.W.mg_of X G A_ledit.ns
  obtain ⟨f_lmade, fd_lmade, A_lmade⟩ := d_lmade
  have m_lmade := PySem.W.mg_of X G A_lmade.ns
  obtain ⟨f_lprogram, fd_lprogram, A_lprogram⟩ := d_lprogram
  have m_lprogram := PySem.W.mg_of X G A_lprogram.ns
  obtain ⟨f_lplaces, fd_lplaces, A_lplaces⟩ := d_lplaces
  have m_lplaces := PySem.W.mg_of X G A_lplaces.ns
  obtain ⟨f_lswaps, fd_lswaps, A_lswaps⟩ := d_lswaps
  have m_lswaps := PySem.W.mg_of X G A_lswaps.ns
  obtain ⟨f_lswapped, fd_lswapped, A_lswapped⟩ := d_lswapped
  have m_lswapped := PySem.W.mg_of X G A_lswapped.ns
  obtain ⟨f_ldone, fd_ldone, A_ldone⟩ := d_ldone
  have m_ldone := PySem.W.mg_of X G A_ldone.ns
  obtain ⟨f_lfitting, fd_lfitting, A_lfitting⟩ := d_lfitting
  have m_lfitting := PySem.W.mg_of X G A_lfitting.ns
  obtain ⟨f_lsorts, fd_lsorts, A_lsorts⟩ := d_lsorts
  have m_lsorts := PySem.W.mg_of X G A_lsorts.ns
  obtain ⟨f_law, fd_law, A_law⟩ := d_law
  have m_law := PySem.W.mg_of X G A_law.ns
  obtain ⟨f_is_text, fd_is_text, A_is_text⟩ := d_is_text
  have m_is_text := PySem.W.mg_of X G A_is_text.ns
  obtain ⟨f_is_new, fd_is_new, A_is_new⟩ := d_is_new
  have m_is_new := PySem.W.mg_of X G A_is_new.ns
  obtain ⟨f_is_old, fd_is_old, A_is_old⟩ := d_is_old
  have m_is_old := PySem.W.mg_of X G A_is_old.ns
  obtain ⟨f_is_part, fd_is_part, A_is_part⟩ := d_is_part
  have m_is_part := PySem.W.mg_of X G A_is_part.ns
  obtain ⟨f_check_words, fd_check_words, A_check_words⟩ := d_check_words
  have m_check_words := PySem.W.mg_of X G A_check_words.ns
  obtain ⟨f_check_parts, fd_check_parts, A_check_parts⟩ := d_check_parts
  have m_check_parts := PySem.W.mg_of X G A_check_parts.ns
  obtain ⟨f_places, fd_places, A_places⟩ := d_places
  have m_places := PySem.W.mg_of X G A_places.ns
  obtain ⟨f_fits, fd_fits, A_fits⟩ := d_fits
  have m_fits := PySem.W.mg_of X G A_fits.ns
  obtain ⟨f_apart, fd_apart, A_apart⟩ := d_apart
  have m_apart := PySem.W.mg_of X G A_apart.ns
  obtain ⟨f_puts_of_one, fd_puts_of_one, A_puts_of_one⟩ := d_puts_of_one
  have m_puts_of_one := PySem.W.mg_of X G A_puts_of_one.ns
  obtain ⟨f_checked_puts, fd_checked_puts, A_checked_puts⟩ := d_checked_puts
  have m_checked_puts := PySem.W.mg_of X G A_checked_puts.ns
  obtain ⟨f_puts_of_parts, fd_puts_of_parts, A_puts_of_parts⟩ := d_puts_of_parts
  have m_puts_of_parts := PySem.W.mg_of X G A_puts_of_parts.ns
  obtain ⟨f_puts_of, fd_puts_of, A_puts_of⟩ := d_puts_of
  have m_puts_of := PySem.W.mg_of X G A_puts_of.ns
  obtain ⟨f_text_behind, fd_text_behind, A_text_behind⟩ := d_text_behind
  have m_text_behind := PySem.W.mg_of X G A_text_behind.ns
  obtain ⟨f_check_edits, fd_check_edits, A_check_edits⟩ := d_check_edits
  have m_check_edits := PySem.W.mg_of X G A_check_edits.ns
  obtain ⟨f_origins_behind, fd_origins_behind, A_origins_behind⟩ := d_origins_behind
  have m_origins_behind := PySem.W.mg_of X G A_origins_behind.ns
  obtain ⟨f_origins, fd_origins, A_origins⟩ := d_origins
  have m_origins := PySem.W.mg_of X G A_origins.ns
  obtain ⟨f_gaps, fd_gaps, A_gaps⟩ := d_gaps
  have m_gaps := PySem.W.mg_of X G A_gaps.ns
  obtain ⟨f_origins_of_hunks, fd_origins_of_hunks, A_origins_of_hunks⟩ := d_origins_of_hunks
  have m_origins_of_hunks := PySem.W.mg_of X G A_origins_of_hunks.ns
  obtain ⟨f_hunks, fd_hunks, A_hunks⟩ := d_hunks
  have m_hunks := PySem.W.mg_of X G A_hunks.ns
  have e := hfa.symm.trans m_law
  cases e
  have T : Txt mg := ⟨PySem.W.mg_none_of X G z_str, PySem.W.mg_none_of X G z_tuple, PySem.W.mg_none_of X G z_enumerate, PySem.W.mg_none_of X G z_len, PySem.W.mg_none_of X G z_list, PySem.W.mg_none_of X G z_int, PySem.W.mg_none_of X G z_abs, PySem.W.mg_none_of X G z_range, PySem.W.mg_none_of X G z_min, PySem.W.mg_none_of X G z_repr, PySem.W.mg_none_of X G z_isinstance⟩
  have z0_sorted := PySem.W.mg_none_of X G z_sorted
  have z0_zip := PySem.W.mg_none_of X G z_zip
  have z0_sum := PySem.W.mg_none_of X G z_sum
  have bd_lsigns : Binds K fd_lsigns [] [] := A_lsigns.fn.binds (ps := []) fun _ _ _ _ _ _ us hl => match us, hl with | [], _ => rfl
  have bd_ldraw : Binds K fd_ldraw ["_law_pen_here", "_law_many"] [] := A_ldraw.fn.binds (ps := ["_law_pen_here", "_law_many"]) fun _ _ _ _ _ _ us hl => match us, hl with | [_, _], _ => rfl
  have bd_lpen : Binds K fd_lpen ["_law_script"] [] := A_lpen.fn.binds (ps := ["_law_script"]) fun _ _ _ _ _ _ us hl => match us, hl with | [_], _ => rfl
  have bd_lpick : Binds K fd_lpick ["_law_pen_here", "_law_options"] [] := A_lpick.fn.binds (ps := ["_law_pen_here", "_law_options"]) fun _ _ _ _ _ _ us hl => match us, hl with | [_, _], _ => rfl
  have bd_lfew : Binds K fd_lfew ["_law_pen_here"] [] := A_lfew.fn.binds (ps := ["_law_pen_here"]) fun _ _ _ _ _ _ us hl => match us, hl with | [_], _ => rfl
  have bd_lword : Binds K fd_lword ["_law_pen_here", "_law_signs_here", "_law_least", "_law_most_letters"] [] := A_lword.fn.binds (ps := ["_law_pen_here", "_law_signs_here", "_law_least", "_law_most_letters"]) fun _ _ _ _ _ _ us hl => match us, hl with | [_, _, _, _], _ => rfl
  have bd_ledit : Binds K fd_ledit ["_law_pen_here", "_law_signs_here", "_law_wide", "_law_sorts_here"] [] := A_ledit.fn.binds (ps := ["_law_pen_here", "_law_signs_here", "_law_wide", "_law_sorts_here"]) fun _ _ _ _ _ _ us hl => match us, hl with | [_, _, _, _], _ => rfl
  have bd_lmade : Binds K fd_lmade ["_law_plain"] [] := A_lmade.fn.binds (ps := ["_law_plain"]) fun _ _ _ _ _ _ us hl => match us, hl with | [_], _ => rfl
  have bd_lprogram : Binds K fd_lprogram ["_law_plains"] [] := A_lprogram.fn.binds (ps := ["_law_plains"]) fun _ _ _ _ _ _ us hl => match us, hl with | [_], _ => rfl
  have bd_lplaces : Binds K fd_lplaces ["_law_text_here", "_law_was"] [] := A_lplaces.fn.binds (ps := ["_law_text_here", "_law_was"]) fun _ _ _ _ _ _ us hl => match us, hl with | [_, _], _ => rfl
  have bd_lswaps : Binds K fd_lswaps ["_law_plain", "_law_text_here"] [] := A_lswaps.fn.binds (ps := ["_law_plain", "_law_text_here"]) fun _ _ _ _ _ _ us hl => match us, hl with | [_, _], _ => rfl
  have bd_lswapped : Binds K fd_lswapped ["_law_text_here", "_law_swaps_here"] [] := A_lswapped.fn.binds (ps := ["_law_text_here", "_law_swaps_here"]) fun _ _ _ _ _ _ us hl => match us, hl with | [_, _], _ => rfl
  have bd_ldone : Binds K fd_ldone ["_law_text_here", "_law_some"] [] := A_ldone.fn.binds (ps := ["_law_text_here", "_law_some"]) fun _ _ _ _ _ _ us hl => match us, hl with | [_, _], _ => rfl
  have bd_lfitting : Binds K fd_lfitting ["_law_pen_here", "_law_signs_here", "_law_text_here", "_law_many", "_law_sorts_here"] [] := A_lfitting.fn.binds (ps := ["_law_pen_here", "_law_signs_here", "_law_text_here", "_law_many", "_law_sorts_here"]) fun _ _ _ _ _ _ us hl => match us, hl with | [_, _, _, _, _], _ => rfl
  have bd_lsorts : Binds K fd_lsorts [] [] := A_lsorts.fn.binds (ps := []) fun _ _ _ _ _ _ us hl => match us, hl with | [], _ => rfl
  have bd_law : Binds K fd_law ["_law_script"] [] := A_law.fn.binds (ps := ["_law_script"]) fun _ _ _ _ _ _ us hl => match us, hl with | [_], _ => rfl
  have bd_is_text : Binds K fd_is_text ["value"] [] := A_is_text.fn.binds (ps := ["value"]) fun _ _ _ _ _ _ us hl => match us, hl with | [_], _ => rfl
  have bd_is_new : Binds K fd_is_new ["value"] [] := A_is_new.fn.binds (ps := ["value"]) fun _ _ _ _ _ _ us hl => match us, hl with | [_], _ => rfl
  have bd_is_old : Binds K fd_is_old ["value"] [] := A_is_old.fn.binds (ps := ["value"]) fun _ _ _ _ _ _ us hl => match us, hl with | [_], _ => rfl
  have bd_is_part : Binds K fd_is_part ["value"] [] := A_is_part.fn.binds (ps := ["value"]) fun _ _ _ _ _ _ us hl => match us, hl with | [_], _ => rfl
  have bd_check_words : Binds K fd_check_words ["old", "new"] [] := A_check_words.fn.binds (ps := ["old", "new"]) fun _ _ _ _ _ _ us hl => match us, hl with | [_, _], _ => rfl
  have bd_check_parts : Binds K fd_check_parts ["parts"] [] := A_check_parts.fn.binds (ps := ["parts"]) fun _ _ _ _ _ _ us hl => match us, hl with | [_], _ => rfl
  have bd_places : Binds K fd_places ["text", "word"] [] := A_places.fn.binds (ps := ["text", "word"]) fun _ _ _ _ _ _ us hl => match us, hl with | [_, _], _ => rfl
  have bd_fits : Binds K fd_fits ["edit", "number"] [] := A_fits.fn.binds (ps := ["edit", "number"]) fun _ _ _ _ _ _ us hl => match us, hl with | [_, _], _ => rfl
  have bd_apart : Binds K fd_apart ["found", "length"] [] := A_apart.fn.binds (ps := ["found", "length"]) fun _ _ _ _ _ _ us hl => match us, hl with | [_, _], _ => rfl
  have bd_puts_of_one : Binds K fd_puts_of_one ["edit", "index", "text"] [] := A_puts_of_one.fn.binds (ps := ["edit", "index", "text"]) fun _ _ _ _ _ _ us hl => match us, hl with | [_, _, _], _ => rfl
  have bd_checked_puts : Binds K fd_checked_puts ["puts", "index"] [] := A_checked_puts.fn.binds (ps := ["puts", "index"]) fun _ _ _ _ _ _ us hl => match us, hl with | [_, _], _ => rfl
  have bd_puts_of_parts : Binds K fd_puts_of_parts ["parts", "index", "text"] [] := A_puts_of_parts.fn.binds (ps := ["parts", "index", "text"]) fun _ _ _ _ _ _ us hl => match us, hl with | [_, _, _], _ => rfl
  have bd_puts_of : Binds K fd_puts_of ["edit", "index", "text"] [] := A_puts_of.fn.binds (ps := ["edit", "index", "text"]) fun _ _ _ _ _ _ us hl => match us, hl with | [_, _, _], _ => rfl
  have bd_text_behind : Binds K fd_text_behind ["text", "puts"] [] := A_text_behind.fn.binds (ps := ["text", "puts"]) fun _ _ _ _ _ _ us hl => match us, hl with | [_, _], _ => rfl
  have bd_check_edits : Binds K fd_check_edits ["edits"] [] := A_check_edits.fn.binds (ps := ["edits"]) fun _ _ _ _ _ _ us hl => match us, hl with | [_], _ => rfl
  have bd_origins_behind : Binds K fd_origins_behind ["entries", "puts", "index"] [] := A_origins_behind.fn.binds (ps := ["entries", "puts", "index"]) fun _ _ _ _ _ _ us hl => match us, hl with | [_, _, _], _ => rfl
  have bd_origins : Binds K fd_origins ["program", "text"] [] := A_origins.fn.binds (ps := ["program", "text"]) fun _ _ _ _ _ _ us hl => match us, hl with | [_, _], _ => rfl
  have bd_gaps : Binds K fd_gaps ["length", "entries"] [] := A_gaps.fn.binds (ps := ["length", "entries"]) fun _ _ _ _ _ _ us hl => match us, hl with | [_, _], _ => rfl
  have bd_origins_of_hunks : Binds K fd_origins_of_hunks ["program", "text"] [] := A_origins_of_hunks.fn.binds (ps := ["program", "text"]) fun _ _ _ _ _ _ us hl => match us, hl with | [_, _], _ => rfl
  have bd_hunks : Binds K fd_hunks ["program", "text"] [] := A_hunks.fn.binds (ps := ["program", "text"]) fun _ _ _ _ _ _ us hl => match us, hl with | [_, _], _ => rfl
  have h_ed : ∀ n, n < 4 → EdF K (cls4 C0 C1 C2 C3 n) := four (E_Once.T.ed) (E_First.T.ed) (E_Perhaps.T.ed) (E_Every.T.ed)
  have h_kit : ∀ i j, i < 4 → j < 4 → PySem.W.kitOne K (.ref (cls4 C0 C1 C2 C3 i)) (.ref (cls4 C0 C1 C2 C3 j)) = some (i == j) := four2 (four ⟨kit_of M.ic_Once M.ty_Once M.s_Once_Once M.s_Once_Once, kit_of M.ic_First M.ty_First M.s_First_First M.s_Once_First, kit_of M.ic_Perhaps M.ty_Perhaps M.s_Perhaps_Perhaps M.s_Once_Perhaps, kit_of M.ic_Every M.ty_Every M.s_Every_Every M.s_Once_Every⟩ ⟨kit_of M.ic_Once M.ty_Once M.s_Once_Once M.s_First_Once, kit_of M.ic_First M.ty_First M.s_First_First M.s_First_First, kit_of M.ic_Perhaps M.ty_Perhaps M.s_Perhaps_Perhaps M.s_First_Perhaps, kit_of M.ic_Every M.ty_Every M.s_Every_Every M.s_First_Every⟩ ⟨kit_of M.ic_Once M.ty_Once M.s_Once_Once M.s_Perhaps_Once, kit_of M.ic_First M.ty_First M.s_First_First M.s_Perhaps_First, kit_of M.ic_Perhaps M.ty_Perhaps M.s_Perhaps_Perhaps M.s_Perhaps_Perhaps, kit_of M.ic_Every M.ty_Every M.s_Every_Every M.s_Perhaps_Every⟩ ⟨kit_of M.ic_Once M.ty_Once M.s_Once_Once M.s_Every_Once, kit_of M.ic_First M.ty_First M.s_First_First M.s_Every_First, kit_of M.ic_Perhaps M.ty_Perhaps M.s_Perhaps_Perhaps M.s_Every_Perhaps, kit_of M.ic_Every M.ty_Every M.s_Every_Every M.s_Every_Every⟩)
  have h_kE : ∀ i, i < 4 → PySem.W.kitOne K (.ref (cls4 C0 C1 C2 C3 i)) (.ref CE) = some true := four (kit_of M.ic_Edit M.ty_Edit M.s_Edit_Edit M.s_Once_Edit) (kit_of M.ic_Edit M.ty_Edit M.s_Edit_Edit M.s_First_Edit) (kit_of M.ic_Edit M.ty_Edit M.s_Edit_Edit M.s_Perhaps_Edit) (kit_of M.ic_Edit M.ty_Edit M.s_Edit_Edit M.s_Every_Edit)
  have h_kA : ∀ i, i < 4 → PySem.W.kitOne K (.ref (cls4 C0 C1 C2 C3 i)) (.ref CA) = some false := four (kit_of M.ic_AtOnce M.ty_AtOnce M.s_AtOnce_AtOnce M.s_Once_AtOnce) (kit_of M.ic_AtOnce M.ty_AtOnce M.s_AtOnce_AtOnce M.s_First_AtOnce) (kit_of M.ic_AtOnce M.ty_AtOnce M.s_AtOnce_AtOnce M.s_Perhaps_AtOnce) (kit_of M.ic_AtOnce M.ty_AtOnce M.s_AtOnce_AtOnce M.s_Every_AtOnce)
  have h_kFE : ∀ n, n < 4 → PySem.W.kitAny K (.ref (cls4 C0 C1 C2 C3 n)) [.ref C1, .ref C3] = some (n == 1 || n == 3) := four (kit_two (h_kit 0 1 (by decide) (by decide)) (h_kit 0 3 (by decide) (by decide))) (kit_two (h_kit 1 1 (by decide) (by decide)) (h_kit 1 3 (by decide) (by decide))) (kit_two (h_kit 2 1 (by decide) (by decide)) (h_kit 2 3 (by decide) (by decide))) (kit_two (h_kit 3 1 (by decide) (by decide)) (h_kit 3 3 (by decide) (by decide)))
  have edA := T_AtOnce.T.ed
  have h_kAA := kit_of M.ic_AtOnce M.ty_AtOnce M.s_AtOnce_AtOnce M.s_AtOnce_AtOnce
  have h_kEA := kit_of M.ic_Edit M.ty_Edit M.s_Edit_Edit M.s_AtOnce_Edit
  refine ⟨fd_law, fun s v => A_law.fn.binds1 rfl s v, fun base _ _ => ?_⟩
  have k_InvalidOld : ClsI l.prog w K mg base 1 "InvalidOld" C_InvalidOld ["value"] := c_InvalidOld X G E_InvalidOld
  have k_InvalidNew : ClsI l.prog w K mg base 1 "InvalidNew" C_InvalidNew ["value"] := c_InvalidNew X G E_InvalidNew
  have k_InvalidText : ClsI l.prog w K mg base 1 "InvalidText" C_InvalidText ["value"] := c_InvalidText X G E_InvalidText
  have k_InvalidPart : ClsI l.prog w K mg base 1 "InvalidPart" C_InvalidPart ["index"] := c_InvalidPart X G E_InvalidPart
  have k_TooMany : ClsI l.prog w K mg base 1 "TooMany" C_TooMany ["limit"] := c_TooMany X G E_TooMany
  have k_NoPlace : ClsI l.prog w K mg base 1 "NoPlace" C_NoPlace ["index", "number"] := c_NoPlace X G E_NoPlace
  have k_Overlap : ClsI l.prog w K mg base 1 "Overlap" C_Overlap ["index"] := c_Overlap X G E_Overlap
  have h_old : ∀ n, n < 4 → PrI l.prog w K mg base 1 (cls4 C0 C1 C2 C3 n) "old" "_old" := four ⟨p1_Once, g1_Once, d1_Once, E_Once.T.cl, E_Once.P1, b_oldOnce E_Once.F1 E_Once.T.ed, E_Once.F1.binds (ps := ["self"]) fun _ _ _ _ _ _ us hl => match us, hl with | [_], _ => rfl⟩ ⟨p1_First, g1_First, d1_First, E_First.T.cl, E_First.P1, b_oldFirst E_First.F1 E_First.T.ed, E_First.F1.binds (ps := ["self"]) fun _ _ _ _ _ _ us hl => match us, hl with | [_], _ => rfl⟩ ⟨p1_Perhaps, g1_Perhaps, d1_Perhaps, E_Perhaps.T.cl, E_Perhaps.P1, b_oldPerhaps E_Perhaps.F1 E_Perhaps.T.ed, E_Perhaps.F1.binds (ps := ["self"]) fun _ _ _ _ _ _ us hl => match us, hl with | [_], _ => rfl⟩ ⟨p1_Every, g1_Every, d1_Every, E_Every.T.cl, E_Every.P1, b_oldEvery E_Every.F1 E_Every.T.ed, E_Every.F1.binds (ps := ["self"]) fun _ _ _ _ _ _ us hl => match us, hl with | [_], _ => rfl⟩
  have h_new : ∀ n, n < 4 → PrI l.prog w K mg base 1 (cls4 C0 C1 C2 C3 n) "new" "_new" := four ⟨p2_Once, g2_Once, d2_Once, E_Once.T.cl, E_Once.P2, b_newOnce E_Once.F2 E_Once.T.ed, E_Once.F2.binds (ps := ["self"]) fun _ _ _ _ _ _ us hl => match us, hl with | [_], _ => rfl⟩ ⟨p2_First, g2_First, d2_First, E_First.T.cl, E_First.P2, b_newFirst E_First.F2 E_First.T.ed, E_First.F2.binds (ps := ["self"]) fun _ _ _ _ _ _ us hl => match us, hl with | [_], _ => rfl⟩ ⟨p2_Perhaps, g2_Perhaps, d2_Perhaps, E_Perhaps.T.cl, E_Perhaps.P2, b_newPerhaps E_Perhaps.F2 E_Perhaps.T.ed, E_Perhaps.F2.binds (ps := ["self"]) fun _ _ _ _ _ _ us hl => match us, hl with | [_], _ => rfl⟩ ⟨p2_Every, g2_Every, d2_Every, E_Every.T.cl, E_Every.P2, b_newEvery E_Every.F2 E_Every.T.ed, E_Every.F2.binds (ps := ["self"]) fun _ _ _ _ _ _ us hl => match us, hl with | [_], _ => rfl⟩
  have pr_parts : ∀ n, n < 1 → PrI l.prog w K mg base 1 ((fun _ => CA) n) "parts" "_parts" := fun n hn => ⟨p_At, g_At, dp_At, T_AtOnce.T.cl, T_AtOnce.P, b_parts T_AtOnce.FP edA T_AtOnce.np, T_AtOnce.FP.binds (ps := ["self"]) fun _ _ _ _ _ _ us hl => match us, hl with | [_], _ => rfl⟩
  have pr_edits : ∀ n, n < 1 → PrI l.prog w K mg base 1 ((fun _ => CP) n) "edits" "_edits" := fun n hn => ⟨p_Pr, g_Pr, dp_Pr, T_Program.cl, T_Program.P, b_pedits T_Program.FP T_Program.cl T_Program.n1, T_Program.FP.binds (ps := ["self"]) fun _ _ _ _ _ _ us hl => match us, hl with | [_], _ => rfl⟩
  have t_signs : FnT l.prog w K mg base 1 "_law_signs" letS := okT A_lsigns.fn sc_lsigns m_lsigns bd_lsigns rfl
  have c_is_text : CalG l.prog w K mg base CX0 1 "is_text" (spTest isT) := ⟨f_is_text, fd_is_text, _, b_is_text A_is_text.fn T g_LETTERS, m_is_text, A_is_text.fn.kp, bd_is_text⟩
  have c_is_new : CalG l.prog w K mg base CX0 2 "is_new" (spTest isNew) := ⟨f_is_new, fd_is_new, _, b_is_new A_is_new.fn T c_is_text g_MAX_WORD, m_is_new, A_is_new.fn.kp, bd_is_new⟩
  have c_is_old : CalG l.prog w K mg base CX0 3 "is_old" (spTest isOld) := ⟨f_is_old, fd_is_old, _, b_is_old A_is_old.fn T c_is_new, m_is_old, A_is_old.fn.kp, bd_is_old⟩
  have c_is_part : CalG l.prog w K mg base CX0 4 "is_part" spPart := ⟨f_is_part, fd_is_part, _, b_is_part A_is_part.fn T c_is_old c_is_new, m_is_part, A_is_part.fn.kp, bd_is_part⟩
  have c_check_words : CalG l.prog w K mg base (L2.CX l.prog w) 4 "check_words" (spCheck C_InvalidOld C_InvalidNew) := ⟨f_check_words, fd_check_words, _, b_check_words A_check_words.fn T c_is_old c_is_new k_InvalidOld k_InvalidNew, m_check_words, A_check_words.fn.kp, bd_check_words⟩
  have c_check_parts : CalG l.prog w K mg base (L2.CX l.prog w) 5 "check_parts" (spChk C_InvalidPart C_TooMany) := ⟨f_check_parts, fd_check_parts, _, b_check_parts A_check_parts.fn T c_is_part k_InvalidPart k_TooMany g_MAX_PARTS, m_check_parts, A_check_parts.fn.kp, bd_check_parts⟩
  have c_places : CalG l.prog w K mg base CX0 1 "places" (spPlaces K) := ⟨f_places, fd_places, _, b_places A_places.fn T, m_places, A_places.fn.kp, bd_places⟩
  have c_fits : CalG l.prog w K mg base CX0 1 "fits" (spFits C0 C1 C2 C3) := ⟨f_fits, fd_fits, _, b_fits A_fits.fn T n_First n_Every n_Perhaps h_ed h_kit h_kFE, m_fits, A_fits.fn.kp, bd_fits⟩
  have c_apart : CalG l.prog w K mg base CX0 1 "apart" (spApart K) := ⟨f_apart, fd_apart, _, b_apart A_apart.fn T, m_apart, A_apart.fn.kp, bd_apart⟩
  have c_puts_of_one : CalG l.prog w K mg base (L2.CX l.prog w) 3 "puts_of_one" (spPuts (cls4 C0 C1 C2 C3) C_NoPlace) := ⟨f_puts_of_one, fd_puts_of_one, _, b_puts_of_one A_puts_of_one.fn T c_places c_fits c_apart k_NoPlace n_First h_ed h_kit h_old h_new, m_puts_of_one, A_puts_of_one.fn.kp, bd_puts_of_one⟩
  have c_checked_puts : CalG l.prog w K mg base (L2.CX l.prog w) 3 "checked_puts" (spCkP C_Overlap) := ⟨f_checked_puts, fd_checked_puts, _, b_checked_puts A_checked_puts.fn T k_Overlap z0_sorted z0_zip, m_checked_puts, A_checked_puts.fn.kp, bd_checked_puts⟩
  have c_puts_of_parts : CalG l.prog w K mg base (L2.CX l.prog w) 4 "puts_of_parts" (spPutsP C_NoPlace C_Overlap) := ⟨f_puts_of_parts, fd_puts_of_parts, _, b_puts_of_parts A_puts_of_parts.fn T c_places k_NoPlace c_checked_puts, m_puts_of_parts, A_puts_of_parts.fn.kp, bd_puts_of_parts⟩
  have c_puts_of : CalG l.prog w K mg base (L2.CX l.prog w) 5 "puts_of" (spPutsE (cls4 C0 C1 C2 C3) CA C_NoPlace C_Overlap) := ⟨f_puts_of, fd_puts_of, _, b_puts_of A_puts_of.fn T c_puts_of_parts c_puts_of_one n_AtOnce edA h_ed h_kAA h_kA pr_parts, m_puts_of, A_puts_of.fn.kp, bd_puts_of⟩
  have c_text_behind : CalG l.prog w K mg base CX0 1 "text_behind" spBehind := ⟨f_text_behind, fd_text_behind, _, b_text_behind A_text_behind.fn T, m_text_behind, A_text_behind.fn.kp, bd_text_behind⟩
  have c_check_edits : CalG l.prog w K mg base CX0 1 "check_edits" (spCE K CE) := ⟨f_check_edits, fd_check_edits, _, b_check_edits A_check_edits.fn T n_Edit g_MAX_EDITS, m_check_edits, A_check_edits.fn.kp, bd_check_edits⟩
  have c_origins_behind : CalG l.prog w K mg base CX0 1 "origins_behind" spOB := ⟨f_origins_behind, fd_origins_behind, _, b_origins_behind A_origins_behind.fn T, m_origins_behind, A_origins_behind.fn.kp, bd_origins_behind⟩
  have c_origins : CalG l.prog w K mg base (L2.CX l.prog w) 6 "origins" (spOrg (cls4 C0 C1 C2 C3) CA CP C_NoPlace C_Overlap C_InvalidText) := ⟨f_origins, fd_origins, _, b_origins A_origins.fn T c_is_text c_origins_behind c_text_behind c_puts_of k_InvalidText pr_edits, m_origins, A_origins.fn.kp, bd_origins⟩
  have c_lsigns : CalG l.prog w K mg base CX0 1 "_law_signs" spSigns := ⟨f_lsigns, fd_lsigns, _, b_lsigns A_lsigns.fn T, m_lsigns, A_lsigns.fn.kp, bd_lsigns⟩
  have c_ldraw : CalG l.prog w K mg base CX0 1 "_law_draw" spDraw := ⟨f_ldraw, fd_ldraw, _, b_ldraw A_ldraw.fn T, m_ldraw, A_ldraw.fn.kp, bd_ldraw⟩
  have c_lpen : CalG l.prog w K mg base CX0 1 "_law_pen" (spPen K) := ⟨f_lpen, fd_lpen, _, b_lpen A_lpen.fn T, m_lpen, A_lpen.fn.kp, bd_lpen⟩
  have c_lpick : CalG l.prog w K mg base CX0 2 "_law_pick" (spPick K) := ⟨f_lpick, fd_lpick, _, b_lpick A_lpick.fn T c_ldraw, m_lpick, A_lpick.fn.kp, bd_lpick⟩
  have c_lfew : CalG l.prog w K mg base CX0 3 "_law_few" spFew := ⟨f_lfew, fd_lfew, _, b_lfew A_lfew.fn T c_lpick t_signs, m_lfew, A_lfew.fn.kp, bd_lfew⟩
  have c_lword : CalG l.prog w K mg base CX0 3 "_law_word" spWord := ⟨f_lword, fd_lword, _, b_lword A_lword.fn T c_ldraw c_lpick, m_lword, A_lword.fn.kp, bd_lword⟩
  have c_ledit : CalG l.prog w K mg base CX0 4 "_law_edit" spPlain := ⟨f_ledit, fd_ledit, _, b_ledit A_ledit.fn T c_ldraw c_lpick c_lword, m_ledit, A_ledit.fn.kp, bd_ledit⟩
  have mk_Once : MakI l.prog w K mg base (L2.CX l.prog w) 5 "Once" C0 ["old", "new"] (spEdit C0 C_InvalidOld C_InvalidNew) := ⟨n_Once, fI_Once, dI_Once, E_Once.T.M, b_Once E_Once.FI c_check_words E_Once.T.cl E_Once.T.n1 E_Once.T.n2, E_Once.FI.binds (ps := ["self", "old", "new"]) fun _ _ _ _ _ _ us hl => match us, hl with | [_, _, _], _ => rfl, fun s v ws KI hl => by
    match ws, hl with
    | [y, z], _ =>
      obtain ⟨oc, od, kV, doc, pm, an, cdv, ct, osl, rfl, lk, hcd⟩ := E_Once.FI.ex
      exact .of_eq rfl⟩
  have mk_First : MakI l.prog w K mg base (L2.CX l.prog w) 5 "First" C1 ["old", "new"] (spEdit C1 C_InvalidOld C_InvalidNew) := ⟨n_First, fI_First, dI_First, E_First.T.M, b_First E_First.FI c_check_words E_First.T.cl E_First.T.n1 E_First.T.n2, E_First.FI.binds (ps := ["self", "old", "new"]) fun _ _ _ _ _ _ us hl => match us, hl with | [_, _, _], _ => rfl, fun s v ws KI hl => by
    match ws, hl with
    | [y, z], _ =>
      obtain ⟨oc, od, kV, doc, pm, an, cdv, ct, osl, rfl, lk, hcd⟩ := E_First.FI.ex
      exact .of_eq rfl⟩
  have mk_Perhaps : MakI l.prog w K mg base (L2.CX l.prog w) 5 "Perhaps" C2 ["old", "new"] (spEdit C2 C_InvalidOld C_InvalidNew) := ⟨n_Perhaps, fI_Perhaps, dI_Perhaps, E_Perhaps.T.M, b_Perhaps E_Perhaps.FI c_check_words E_Perhaps.T.cl E_Perhaps.T.n1 E_Perhaps.T.n2, E_Perhaps.FI.binds (ps := ["self", "old", "new"]) fun _ _ _ _ _ _ us hl => match us, hl with | [_, _, _], _ => rfl, fun s v ws KI hl => by
    match ws, hl with
    | [y, z], _ =>
      obtain ⟨oc, od, kV, doc, pm, an, cdv, ct, osl, rfl, lk, hcd⟩ := E_Perhaps.FI.ex
      exact .of_eq rfl⟩
  have mk_Every : MakI l.prog w K mg base (L2.CX l.prog w) 5 "Every" C3 ["old", "new"] (spEdit C3 C_InvalidOld C_InvalidNew) := ⟨n_Every, fI_Every, dI_Every, E_Every.T.M, b_Every E_Every.FI c_check_words E_Every.T.cl E_Every.T.n1 E_Every.T.n2, E_Every.FI.binds (ps := ["self", "old", "new"]) fun _ _ _ _ _ _ us hl => match us, hl with | [_, _, _], _ => rfl, fun s v ws KI hl => by
    match ws, hl with
    | [y, z], _ =>
      obtain ⟨oc, od, kV, doc, pm, an, cdv, ct, osl, rfl, lk, hcd⟩ := E_Every.FI.ex
      exact .of_eq rfl⟩
  have h_FA : FnRG l.prog w K mg base (L2.CX l.prog w) 6 fI_At (spAt CA C_InvalidPart C_TooMany) := b_AtOnce T_AtOnce.FI c_check_parts T_AtOnce.T.cl T_AtOnce.np
  have h_FP : FnRG l.prog w K mg base (L2.CX l.prog w) 2 fI_Pr (spPr K CE CP) := b_Program T_Program.FI c_check_edits T_Program.cl T_Program.n1
  have c_lmade : CalG l.prog w K mg base CX0 8 "_law_made" (spMade (cls4 C0 C1 C2 C3) CA) := ⟨f_lmade, fd_lmade, _, b_lmade A_lmade.fn T mk_Once mk_First mk_Perhaps mk_Every n_AtOnce T_AtOnce.T.M h_FA, m_lmade, A_lmade.fn.kp, bd_lmade⟩
  have c_lprogram : CalG l.prog w K mg base CX0 9 "_law_program" (spProg (cls4 C0 C1 C2 C3) CA CP) := ⟨f_lprogram, fd_lprogram, _, b_lprogram A_lprogram.fn T c_lmade n_Program h_ed h_kE edA h_kEA T_Program.M h_FP, m_lprogram, A_lprogram.fn.kp, bd_lprogram⟩
  have c_lplaces : CalG l.prog w K mg base CX0 1 "_law_places" (spPlaces K) := ⟨f_lplaces, fd_lplaces, _, b_lplaces A_lplaces.fn T, m_lplaces, A_lplaces.fn.kp, bd_lplaces⟩
  have c_lswaps : CalG l.prog w K mg base CX0 2 "_law_swaps" spSwaps := ⟨f_lswaps, fd_lswaps, _, b_lswaps A_lswaps.fn T c_lplaces z0_sorted, m_lswaps, A_lswaps.fn.kp, bd_lswaps⟩
  have c_lswapped : CalG l.prog w K mg base CX0 1 "_law_swapped" spSwapped := ⟨f_lswapped, fd_lswapped, _, b_lswapped A_lswapped.fn T, m_lswapped, A_lswapped.fn.kp, bd_lswapped⟩
  have c_ldone : CalG l.prog w K mg base CX0 1 "_law_done" spDone := ⟨f_ldone, fd_ldone, _, b_ldone A_ldone.fn T, m_ldone, A_ldone.fn.kp, bd_ldone⟩
  have c_lfitting : CalG l.prog w K mg base CX0 5 "_law_fitting" spFit := ⟨f_lfitting, fd_lfitting, _, b_lfitting A_lfitting.fn T c_ldraw c_lword c_ledit c_lswaps c_lswapped, m_lfitting, A_lfitting.fn.kp, bd_lfitting⟩
  have c_lsorts : CalG l.prog w K mg base CX0 1 "_law_sorts" spSorts := ⟨f_lsorts, fd_lsorts, _, b_lsorts A_lsorts.fn T, m_lsorts, A_lsorts.fn.kp, bd_lsorts⟩
  have c_gaps : CalG l.prog w K mg base CX0 1 "gaps" spGaps := ⟨f_gaps, fd_gaps, _, b_gaps A_gaps.fn T, m_gaps, A_gaps.fn.kp, bd_gaps⟩
  have m_runP : MthG l.prog w K mg base (L2.CX l.prog w) 6 CP "run" (spRun (cls4 C0 C1 C2 C3) CA CP C_NoPlace C_Overlap C_InvalidText) := ⟨fR_Pr, dR_Pr, _, ⟨T_Program.r1, T_Program.r2, T_Program.r3⟩, b_run T_Program.FR T c_is_text c_puts_of c_text_behind k_InvalidText T_Program.cl T_Program.n1, T_Program.FR.binds (ps := ["self", "text"]) fun _ _ _ _ _ _ us hl => match us, hl with | [_, _], _ => rfl⟩
  have c_origins_of_hunks : CalG l.prog w K mg base (L2.CX l.prog w) 7 "origins_of_hunks" (spHk (cls4 C0 C1 C2 C3) CA CP C_NoPlace C_Overlap C_InvalidText RDict) := ⟨f_origins_of_hunks, fd_origins_of_hunks, _, b_origins_of_hunks A_origins_of_hunks.fn T T_Program.cl c_origins m_runP c_gaps, m_origins_of_hunks, A_origins_of_hunks.fn.kp, bd_origins_of_hunks⟩
  have c_hunks : CalG l.prog w K mg base (L2.CX l.prog w) 8 "hunks" (spHk (cls4 C0 C1 C2 C3) CA CP C_NoPlace C_Overlap C_InvalidText RList) := ⟨f_hunks, fd_hunks, _, b_hunks A_hunks.fn T c_origins_of_hunks, m_hunks, A_hunks.fn.kp, bd_hunks⟩
  exact b_law A_law.fn T z0_sum T_Program.cl c_lpen c_lfew c_lword c_lfitting c_lsorts c_lprogram c_ldone c_hunks c_origins m_runP
end Vk
set_option Elab.async false
set_option maxRecDepth 100000
set_option linter.all false
open PySem PySem.W PyProof.Rows
set_option maxRecDepth 100000 in
set_option maxHeartbeats 0 in
theorem PySem.Challenge.cw_anchoredits_k68_whole_hunks_make_the_res_holds : PySem.Challenge.rw_anchoredits_k68_whole_hunks_make_the_res.Holds := by
  w_on; o_law
  refine holds_open (q := Vk.hd.view_39) (loose := Vk.hdLo) (Xt := Vk.hdXt) (XP := XL Vk.hd.view_39 []) (Yf := Hook.obs (kHook Vk.hd.heap_39 Vk.hdAs Vk.hdEk)) (Ya := Hook.val (kHook Vk.hd.heap_39 Vk.hdAs Vk.hdEk)) (YP := Hook.says (kHook Vk.hd.heap_39 Vk.hdAs Vk.hdEk)) (N := 13122) Vk.hdLeft (Hook.of (kHook Vk.hd.heap_39 Vk.hdAs Vk.hdEk)) (Hook.keeps (kHook Vk.hd.heap_39 Vk.hdAs Vk.hdEk)) (fun s e => xl_of s (Bool.and_eq_true_iff.mp e).1) XL.keeps (by rfl) (by rfl) (by rfl) (fun s e => recFacts_of (Bool.and_eq_true_iff.mp e).2) (by rfl) (by first | assumption | decide +kernel) (by decide +kernel) ⟨rfl, rfl, rfl, rfl, rfl, by decide +kernel⟩ ?hw ?hc
  case hw => w_witness2
  case hc =>
  k_fill
  refine Vk.walkX (l := PySem.Challenge.rw_anchoredits_k68_whole_hunks_make_the_res) (n := 63) (k := 10) (x := "_law_script") (CX := L2.CX0) (sp := Vk.spLaw) rfl (by decide) rfl ⟨rfl, by decide, by decide⟩ (fun w h Y => PySem.W.kIn_of Y) ?F (fun K H a ns hl _ hS => ⟨a, ns, rfl, hS, hl, fun _ => rfl⟩) (fun _ _ _ _ z => z)
  case F =>
    intro w mg fa h KX Gr hmg
    obtain ⟨s0, mb, Gr⟩ := Gr
    refine' Vk.all KX Gr.T.g hmg ?e_InvalidOld ?e_InvalidNew ?e_InvalidText ?e_InvalidPart ?e_TooMany ?e_NoPlace ?e_Overlap ?e_Once ?e_First ?e_Perhaps ?e_Every ?e_AtOnce ?e_Program ?e_M ?d_lsigns ?d_ldraw ?d_lpen ?d_lpick ?d_lfew ?d_lword ?d_ledit ?d_lmade ?d_lprogram ?d_lplaces ?d_lswaps ?d_lswapped ?d_ldone ?d_lfitting ?d_lsorts ?d_law ?d_is_text ?d_is_new ?d_is_old ?d_is_part ?d_check_words ?d_check_parts ?d_places ?d_fits ?d_apart ?d_puts_of_one ?d_checked_puts ?d_puts_of_parts ?d_puts_of ?d_text_behind ?d_check_edits ?d_origins_behind ?d_origins ?d_gaps ?d_origins_of_hunks ?d_hunks ?z_str ?z_tuple ?z_enumerate ?z_len ?z_list ?z_int ?z_abs ?z_range ?z_min ?z_repr ?z_isinstance ?z_sorted ?z_zip ?z_sum ?g_LETTERS ?g_MAX_WORD ?g_MAX_PARTS ?g_MAX_EDITS
    (case e_InvalidOld => as_aux_lemma => (refine' ⟨_, _, _, Vk.exc_mk PySem.VkX.exB_value ?ns ?iC ?cls ?sa ?kC ?ga ?gg ?ex ?hd ?ha ?hn ?ht ?hm ?tI ?kI (Vk.no1 ?n1) ?l ?c⟩; (case ns => k_is); (case iC => k_is); (case cls => k_is); (case sa => k_is); (case kC => k_is); (case ga => k_is); (case gg => k_is); (case ex => k_is); (case hd => k_is); (case ha => k_is); (case hn => k_is); (case ht => k_is); (case hm => k_is); (case tI => k_is); (case kI => k_is); (case n1 => k_is); (case l => k_is); (case c => k_is)))
    (case e_InvalidNew => as_aux_lemma => (refine' ⟨_, _, _, Vk.exc_mk PySem.VkX.exB_value ?ns ?iC ?cls ?sa ?kC ?ga ?gg ?ex ?hd ?ha ?hn ?ht ?hm ?tI ?kI (Vk.no1 ?n1) ?l ?c⟩; (case ns => k_is); (case iC => k_is); (case cls => k_is); (case sa => k_is); (case kC => k_is); (case ga => k_is); (case gg => k_is); (case ex => k_is); (case hd => k_is); (case ha => k_is); (case hn => k_is); (case ht => k_is); (case hm => k_is); (case tI => k_is); (case kI => k_is); (case n1 => k_is); (case l => k_is); (case c => k_is)))
    (case e_InvalidText => as_aux_lemma => (refine' ⟨_, _, _, Vk.exc_mk PySem.VkX.exB_value ?ns ?iC ?cls ?sa ?kC ?ga ?gg ?ex ?hd ?ha ?hn ?ht ?hm ?tI ?kI (Vk.no1 ?n1) ?l ?c⟩; (case ns => k_is); (case iC => k_is); (case cls => k_is); (case sa => k_is); (case kC => k_is); (case ga => k_is); (case gg => k_is); (case ex => k_is); (case hd => k_is); (case ha => k_is); (case hn => k_is); (case ht => k_is); (case hm => k_is); (case tI => k_is); (case kI => k_is); (case n1 => k_is); (case l => k_is); (case c => k_is)))
    (case e_InvalidPart => as_aux_lemma => (refine' ⟨_, _, _, Vk.exc_mk PySem.VkX.exB_value ?ns ?iC ?cls ?sa ?kC ?ga ?gg ?ex ?hd ?ha ?hn ?ht ?hm ?tI ?kI (Vk.no1 ?n1) ?l ?c⟩; (case ns => k_is); (case iC => k_is); (case cls => k_is); (case sa => k_is); (case kC => k_is); (case ga => k_is); (case gg => k_is); (case ex => k_is); (case hd => k_is); (case ha => k_is); (case hn => k_is); (case ht => k_is); (case hm => k_is); (case tI => k_is); (case kI => k_is); (case n1 => k_is); (case l => k_is); (case c => k_is)))
    (case e_TooMany => as_aux_lemma => (refine' ⟨_, _, _, Vk.exc_mk PySem.VkX.exB_overflow ?ns ?iC ?cls ?sa ?kC ?ga ?gg ?ex ?hd ?ha ?hn ?ht ?hm ?tI ?kI (Vk.no1 ?n1) ?l ?c⟩; (case ns => k_is); (case iC => k_is); (case cls => k_is); (case sa => k_is); (case kC => k_is); (case ga => k_is); (case gg => k_is); (case ex => k_is); (case hd => k_is); (case ha => k_is); (case hn => k_is); (case ht => k_is); (case hm => k_is); (case tI => k_is); (case kI => k_is); (case n1 => k_is); (case l => k_is); (case c => k_is)))
    (case e_NoPlace => as_aux_lemma => (refine' ⟨_, _, _, Vk.exc_mk PySem.VkX.exB_lookup ?ns ?iC ?cls ?sa ?kC ?ga ?gg ?ex ?hd ?ha ?hn ?ht ?hm ?tI ?kI (Vk.no2 ?n1 ?n2) ?l ?c⟩; (case ns => k_is); (case iC => k_is); (case cls => k_is); (case sa => k_is); (case kC => k_is); (case ga => k_is); (case gg => k_is); (case ex => k_is); (case hd => k_is); (case ha => k_is); (case hn => k_is); (case ht => k_is); (case hm => k_is); (case tI => k_is); (case kI => k_is); (case n1 => k_is); (case n2 => k_is); (case l => k_is); (case c => k_is)))
    (case e_Overlap => as_aux_lemma => (refine' ⟨_, _, _, Vk.exc_mk PySem.VkX.exB_lookup ?ns ?iC ?cls ?sa ?kC ?ga ?gg ?ex ?hd ?ha ?hn ?ht ?hm ?tI ?kI (Vk.no1 ?n1) ?l ?c⟩; (case ns => k_is); (case iC => k_is); (case cls => k_is); (case sa => k_is); (case kC => k_is); (case ga => k_is); (case gg => k_is); (case ex => k_is); (case hd => k_is); (case ha => k_is); (case hn => k_is); (case ht => k_is); (case hm => k_is); (case tI => k_is); (case kI => k_is); (case n1 => k_is); (case l => k_is); (case c => k_is)))
    (case e_Once => as_aux_lemma => (refine' ⟨_, _, _, _, _, _, _, _, _, ⟨⟨?ns, ?mks, ?it, ?fn, ?kp, ?pg, ?hd, ?po, ?sa, ?n1, ?n2, ?ca, ?cn, ?ct, ?cm⟩, Vk.prop_mk ?pa1 ?pg1 ?pt1 ?pr1, Vk.prop_mk ?pa2 ?pg2 ?pt2 ?pr2, L2.fun_mk ?lI ?cI ?kI, L2.fun_mk ?l1 ?c1 ?k1, L2.fun_mk ?l2 ?c2 ?k2⟩⟩; (case ns => k_is); (case mks => k_is); (case it => k_is); (case fn => k_is); (case kp => k_is); (case pg => k_is); (case hd => k_is); (case po => k_is); (case sa => k_is); (case n1 => k_is); (case n2 => k_is); (case ca => k_is); (case cn => k_is); (case ct => k_is); (case cm => k_is); (case pa1 => k_is); (case pg1 => k_is); (case pt1 => k_is); (case pr1 => k_is); (case pa2 => k_is); (case pg2 => k_is); (case pt2 => k_is); (case pr2 => k_is); (case lI => k_is); (case cI => k_is); (case kI => k_is); (case l1 => k_is); (case c1 => k_is); (case k1 => k_is); (case l2 => k_is); (case c2 => k_is); (case k2 => k_is)))
    (case e_First => as_aux_lemma => (refine' ⟨_, _, _, _, _, _, _, _, _, ⟨⟨?ns, ?mks, ?it, ?fn, ?kp, ?pg, ?hd, ?po, ?sa, ?n1, ?n2, ?ca, ?cn, ?ct, ?cm⟩, Vk.prop_mk ?pa1 ?pg1 ?pt1 ?pr1, Vk.prop_mk ?pa2 ?pg2 ?pt2 ?pr2, L2.fun_mk ?lI ?cI ?kI, L2.fun_mk ?l1 ?c1 ?k1, L2.fun_mk ?l2 ?c2 ?k2⟩⟩; (case ns => k_is); (case mks => k_is); (case it => k_is); (case fn => k_is); (case kp => k_is); (case pg => k_is); (case hd => k_is); (case po => k_is); (case sa => k_is); (case n1 => k_is); (case n2 => k_is); (case ca => k_is); (case cn => k_is); (case ct => k_is); (case cm => k_is); (case pa1 => k_is); (case pg1 => k_is); (case pt1 => k_is); (case pr1 => k_is); (case pa2 => k_is); (case pg2 => k_is); (case pt2 => k_is); (case pr2 => k_is); (case lI => k_is); (case cI => k_is); (case kI => k_is); (case l1 => k_is); (case c1 => k_is); (case k1 => k_is); (case l2 => k_is); (case c2 => k_is); (case k2 => k_is)))
    (case e_Perhaps => as_aux_lemma => (refine' ⟨_, _, _, _, _, _, _, _, _, ⟨⟨?ns, ?mks, ?it, ?fn, ?kp, ?pg, ?hd, ?po, ?sa, ?n1, ?n2, ?ca, ?cn, ?ct, ?cm⟩, Vk.prop_mk ?pa1 ?pg1 ?pt1 ?pr1, Vk.prop_mk ?pa2 ?pg2 ?pt2 ?pr2, L2.fun_mk ?lI ?cI ?kI, L2.fun_mk ?l1 ?c1 ?k1, L2.fun_mk ?l2 ?c2 ?k2⟩⟩; (case ns => k_is); (case mks => k_is); (case it => k_is); (case fn => k_is); (case kp => k_is); (case pg => k_is); (case hd => k_is); (case po => k_is); (case sa => k_is); (case n1 => k_is); (case n2 => k_is); (case ca => k_is); (case cn => k_is); (case ct => k_is); (case cm => k_is); (case pa1 => k_is); (case pg1 => k_is); (case pt1 => k_is); (case pr1 => k_is); (case pa2 => k_is); (case pg2 => k_is); (case pt2 => k_is); (case pr2 => k_is); (case lI => k_is); (case cI => k_is); (case kI => k_is); (case l1 => k_is); (case c1 => k_is); (case k1 => k_is); (case l2 => k_is); (case c2 => k_is); (case k2 => k_is)))
    (case e_Every => as_aux_lemma => (refine' ⟨_, _, _, _, _, _, _, _, _, ⟨⟨?ns, ?mks, ?it, ?fn, ?kp, ?pg, ?hd, ?po, ?sa, ?n1, ?n2, ?ca, ?cn, ?ct, ?cm⟩, Vk.prop_mk ?pa1 ?pg1 ?pt1 ?pr1, Vk.prop_mk ?pa2 ?pg2 ?pt2 ?pr2, L2.fun_mk ?lI ?cI ?kI, L2.fun_mk ?l1 ?c1 ?k1, L2.fun_mk ?l2 ?c2 ?k2⟩⟩; (case ns => k_is); (case mks => k_is); (case it => k_is); (case fn => k_is); (case kp => k_is); (case pg => k_is); (case hd => k_is); (case po => k_is); (case sa => k_is); (case n1 => k_is); (case n2 => k_is); (case ca => k_is); (case cn => k_is); (case ct => k_is); (case cm => k_is); (case pa1 => k_is); (case pg1 => k_is); (case pt1 => k_is); (case pr1 => k_is); (case pa2 => k_is); (case pg2 => k_is); (case pt2 => k_is); (case pr2 => k_is); (case lI => k_is); (case cI => k_is); (case kI => k_is); (case l1 => k_is); (case c1 => k_is); (case k1 => k_is); (case l2 => k_is); (case c2 => k_is); (case k2 => k_is)))
    (case e_AtOnce => as_aux_lemma => (refine' ⟨_, _, _, _, _, _, ⟨⟨?ns, ?mks, ?it, ?fn, ?kp, ?pg, ?hd, ?po, ?sa, ?n1, ?n2, ?ca, ?cn, ?ct, ?cm⟩, ?np, Vk.prop_mk ?pa ?pg1 ?pt ?pr, L2.fun_mk ?lI ?cI ?kI, L2.fun_mk ?l1 ?c1 ?k1⟩⟩; (case ns => k_is); (case mks => k_is); (case it => k_is); (case fn => k_is); (case kp => k_is); (case pg => k_is); (case hd => k_is); (case po => k_is); (case sa => k_is); (case n1 => k_is); (case n2 => k_is); (case ca => k_is); (case cn => k_is); (case ct => k_is); (case cm => k_is); (case np => k_is); (case pa => k_is); (case pg1 => k_is); (case pt => k_is); (case pr => k_is); (case lI => k_is); (case cI => k_is); (case kI => k_is); (case l1 => k_is); (case c1 => k_is); (case k1 => k_is)))
    (case e_Program => as_aux_lemma => (refine' ⟨_, _, _, _, _, _, _, _, ⟨?ns, ?mks, ?it, ?fn, ?kp, ?pg, ?hd, ?po, ?sa, ?n1, ?r1, ?r2, ?r3, Vk.prop_mk ?pa ?pg1 ?pt ?pr, L2.fun_mk ?lI ?cI ?kI, L2.fun_mk ?lE ?cE ?kE, L2.fun_mk ?lR ?cR ?kR⟩⟩; (case ns => k_is); (case mks => k_is); (case it => k_is); (case fn => k_is); (case kp => k_is); (case pg => k_is); (case hd => k_is); (case po => k_is); (case sa => k_is); (case n1 => k_is); (case r1 => k_is); (case r2 => k_is); (case r3 => k_is); (case pa => k_is); (case pg1 => k_is); (case pt => k_is); (case pr => k_is); (case lI => k_is); (case cI => k_is); (case kI => k_is); (case lE => k_is); (case cE => k_is); (case kE => k_is); (case lR => k_is); (case cR => k_is); (case kR => k_is)))
    (case e_M => as_aux_lemma => (refine' ⟨_, _, _, _, _, _, _, ⟨?ns_Once, ?ic_Once, ?ty_Once, ?ns_First, ?ic_First, ?ty_First, ?ns_Perhaps, ?ic_Perhaps, ?ty_Perhaps, ?ns_Every, ?ic_Every, ?ty_Every, ?ns_Edit, ?ic_Edit, ?ty_Edit, ?ns_AtOnce, ?ic_AtOnce, ?ty_AtOnce, ?ns_Program, ?s_Once_Once, ?s_Once_First, ?s_Once_Perhaps, ?s_Once_Every, ?s_Once_AtOnce, ?s_First_Once, ?s_First_First, ?s_First_Perhaps, ?s_First_Every, ?s_First_AtOnce, ?s_Perhaps_Once, ?s_Perhaps_First, ?s_Perhaps_Perhaps, ?s_Perhaps_Every, ?s_Perhaps_AtOnce, ?s_Every_Once, ?s_Every_First, ?s_Every_Perhaps, ?s_Every_Every, ?s_Every_AtOnce, ?s_Once_Edit, ?s_First_Edit, ?s_Perhaps_Edit, ?s_Every_Edit, ?s_Edit_Edit, ?s_AtOnce_AtOnce, ?s_AtOnce_Edit⟩⟩; (case ns_Once => k_is); (case ns_First => k_is); (case ns_Perhaps => k_is); (case ns_Every => k_is); (case ns_Edit => k_is); (case ns_AtOnce => k_is); (case ns_Program => k_is); (case ic_Once => k_is); (case ty_Once => k_is); (case ic_First => k_is); (case ty_First => k_is); (case ic_Perhaps => k_is); (case ty_Perhaps => k_is); (case ic_Every => k_is); (case ty_Every => k_is); (case ic_Edit => k_is); (case ty_Edit => k_is); (case ic_AtOnce => k_is); (case ty_AtOnce => k_is); (case s_Once_Once => k_is); (case s_Once_First => k_is); (case s_Once_Perhaps => k_is); (case s_Once_Every => k_is); (case s_Once_AtOnce => k_is); (case s_First_Once => k_is); (case s_First_First => k_is); (case s_First_Perhaps => k_is); (case s_First_Every => k_is); (case s_First_AtOnce => k_is); (case s_Perhaps_Once => k_is); (case s_Perhaps_First => k_is); (case s_Perhaps_Perhaps => k_is); (case s_Perhaps_Every => k_is); (case s_Perhaps_AtOnce => k_is); (case s_Every_Once => k_is); (case s_Every_First => k_is); (case s_Every_Perhaps => k_is); (case s_Every_Every => k_is); (case s_Every_AtOnce => k_is); (case s_Once_Edit => k_is); (case s_First_Edit => k_is); (case s_Perhaps_Edit => k_is); (case s_Every_Edit => k_is); (case s_Edit_Edit => k_is); (case s_AtOnce_AtOnce => k_is); (case s_AtOnce_Edit => k_is)))
    (case d_lsigns => as_aux_lemma => (refine' ⟨_, _, Vk.at_mk ?a ?l ?c ?k⟩; (case a => k_is); (case l => k_is); (case c => k_is); (case k => k_is)))
    (case d_ldraw => as_aux_lemma => (refine' ⟨_, _, Vk.at_mk ?a ?l ?c ?k⟩; (case a => k_is); (case l => k_is); (case c => k_is); (case k => k_is)))
    (case d_lpen => as_aux_lemma => (refine' ⟨_, _, Vk.at_mk ?a ?l ?c ?k⟩; (case a => k_is); (case l => k_is); (case c => k_is); (case k => k_is)))
    (case d_lpick => as_aux_lemma => (refine' ⟨_, _, Vk.at_mk ?a ?l ?c ?k⟩; (case a => k_is); (case l => k_is); (case c => k_is); (case k => k_is)))
    (case d_lfew => as_aux_lemma => (refine' ⟨_, _, Vk.at_mk ?a ?l ?c ?k⟩; (case a => k_is); (case l => k_is); (case c => k_is); (case k => k_is)))
    (case d_lword => as_aux_lemma => (refine' ⟨_, _, Vk.at_mk ?a ?l ?c ?k⟩; (case a => k_is); (case l => k_is); (case c => k_is); (case k => k_is)))
    (case d_ledit => as_aux_lemma => (refine' ⟨_, _, Vk.at_mk ?a ?l ?c ?k⟩; (case a => k_is); (case l => k_is); (case c => k_is); (case k => k_is)))
    (case d_lmade => as_aux_lemma => (refine' ⟨_, _, Vk.at_mk ?a ?l ?c ?k⟩; (case a => k_is); (case l => k_is); (case c => k_is); (case k => k_is)))
    (case d_lprogram => as_aux_lemma => (refine' ⟨_, _, Vk.at_mk ?a ?l ?c ?k⟩; (case a => k_is); (case l => k_is); (case c => k_is); (case k => k_is)))
    (case d_lplaces => as_aux_lemma => (refine' ⟨_, _, Vk.at_mk ?a ?l ?c ?k⟩; (case a => k_is); (case l => k_is); (case c => k_is); (case k => k_is)))
    (case d_lswaps => as_aux_lemma => (refine' ⟨_, _, Vk.at_mk ?a ?l ?c ?k⟩; (case a => k_is); (case l => k_is); (case c => k_is); (case k => k_is)))
    (case d_lswapped => as_aux_lemma => (refine' ⟨_, _, Vk.at_mk ?a ?l ?c ?k⟩; (case a => k_is); (case l => k_is); (case c => k_is); (case k => k_is)))
    (case d_ldone => as_aux_lemma => (refine' ⟨_, _, Vk.at_mk ?a ?l ?c ?k⟩; (case a => k_is); (case l => k_is); (case c => k_is); (case k => k_is)))
    (case d_lfitting => as_aux_lemma => (refine' ⟨_, _, Vk.at_mk ?a ?l ?c ?k⟩; (case a => k_is); (case l => k_is); (case c => k_is); (case k => k_is)))
    (case d_lsorts => as_aux_lemma => (refine' ⟨_, _, Vk.at_mk ?a ?l ?c ?k⟩; (case a => k_is); (case l => k_is); (case c => k_is); (case k => k_is)))
    (case d_law => as_aux_lemma => (refine' ⟨_, _, Vk.at_mk ?a ?l ?c ?k⟩; (case a => k_is); (case l => k_is); (case c => k_is); (case k => k_is)))
    (case d_is_text => as_aux_lemma => (refine' ⟨_, _, Vk.at_mk ?a ?l ?c ?k⟩; (case a => k_is); (case l => k_is); (case c => k_is); (case k => k_is)))
    (case d_is_new => as_aux_lemma => (refine' ⟨_, _, Vk.at_mk ?a ?l ?c ?k⟩; (case a => k_is); (case l => k_is); (case c => k_is); (case k => k_is)))
    (case d_is_old => as_aux_lemma => (refine' ⟨_, _, Vk.at_mk ?a ?l ?c ?k⟩; (case a => k_is); (case l => k_is); (case c => k_is); (case k => k_is)))
    (case d_is_part => as_aux_lemma => (refine' ⟨_, _, Vk.at_mk ?a ?l ?c ?k⟩; (case a => k_is); (case l => k_is); (case c => k_is); (case k => k_is)))
    (case d_check_words => as_aux_lemma => (refine' ⟨_, _, Vk.at_mk ?a ?l ?c ?k⟩; (case a => k_is); (case l => k_is); (case c => k_is); (case k => k_is)))
    (case d_check_parts => as_aux_lemma => (refine' ⟨_, _, Vk.at_mk ?a ?l ?c ?k⟩; (case a => k_is); (case l => k_is); (case c => k_is); (case k => k_is)))
    (case d_places => as_aux_lemma => (refine' ⟨_, _, Vk.at_mk ?a ?l ?c ?k⟩; (case a => k_is); (case l => k_is); (case c => k_is); (case k => k_is)))
    (case d_fits => as_aux_lemma => (refine' ⟨_, _, Vk.at_mk ?a ?l ?c ?k⟩; (case a => k_is); (case l => k_is); (case c => k_is); (case k => k_is)))
    (case d_apart => as_aux_lemma => (refine' ⟨_, _, Vk.at_mk ?a ?l ?c ?k⟩; (case a => k_is); (case l => k_is); (case c => k_is); (case k => k_is)))
    (case d_puts_of_one => as_aux_lemma => (refine' ⟨_, _, Vk.at_mk ?a ?l ?c ?k⟩; (case a => k_is); (case l => k_is); (case c => k_is); (case k => k_is)))
    (case d_checked_puts => as_aux_lemma => (refine' ⟨_, _, Vk.at_mk ?a ?l ?c ?k⟩; (case a => k_is); (case l => k_is); (case c => k_is); (case k => k_is)))
    (case d_puts_of_parts => as_aux_lemma => (refine' ⟨_, _, Vk.at_mk ?a ?l ?c ?k⟩; (case a => k_is); (case l => k_is); (case c => k_is); (case k => k_is)))
    (case d_puts_of => as_aux_lemma => (refine' ⟨_, _, Vk.at_mk ?a ?l ?c ?k⟩; (case a => k_is); (case l => k_is); (case c => k_is); (case k => k_is)))
    (case d_text_behind => as_aux_lemma => (refine' ⟨_, _, Vk.at_mk ?a ?l ?c ?k⟩; (case a => k_is); (case l => k_is); (case c => k_is); (case k => k_is)))
    (case d_check_edits => as_aux_lemma => (refine' ⟨_, _, Vk.at_mk ?a ?l ?c ?k⟩; (case a => k_is); (case l => k_is); (case c => k_is); (case k => k_is)))
    (case d_origins_behind => as_aux_lemma => (refine' ⟨_, _, Vk.at_mk ?a ?l ?c ?k⟩; (case a => k_is); (case l => k_is); (case c => k_is); (case k => k_is)))
    (case d_origins => as_aux_lemma => (refine' ⟨_, _, Vk.at_mk ?a ?l ?c ?k⟩; (case a => k_is); (case l => k_is); (case c => k_is); (case k => k_is)))
    (case d_gaps => as_aux_lemma => (refine' ⟨_, _, Vk.at_mk ?a ?l ?c ?k⟩; (case a => k_is); (case l => k_is); (case c => k_is); (case k => k_is)))
    (case d_origins_of_hunks => as_aux_lemma => (refine' ⟨_, _, Vk.at_mk ?a ?l ?c ?k⟩; (case a => k_is); (case l => k_is); (case c => k_is); (case k => k_is)))
    (case d_hunks => as_aux_lemma => (refine' ⟨_, _, Vk.at_mk ?a ?l ?c ?k⟩; (case a => k_is); (case l => k_is); (case c => k_is); (case k => k_is)))
    (case z_str => as_aux_lemma => k_is)
    (case z_tuple => as_aux_lemma => k_is)
    (case z_enumerate => as_aux_lemma => k_is)
    (case z_len => as_aux_lemma => k_is)
    (case z_list => as_aux_lemma => k_is)
    (case z_int => as_aux_lemma => k_is)
    (case z_abs => as_aux_lemma => k_is)
    (case z_range => as_aux_lemma => k_is)
    (case z_min => as_aux_lemma => k_is)
    (case z_repr => as_aux_lemma => k_is)
    (case z_isinstance => as_aux_lemma => k_is)
    (case z_sorted => as_aux_lemma => k_is)
    (case z_zip => as_aux_lemma => k_is)
    (case z_sum => as_aux_lemma => k_is)
    (case g_LETTERS => as_aux_lemma => exact Vk.const_s Gr.T (by first | kernel_rfl | decide +kernel))
    (case g_MAX_WORD => as_aux_lemma => exact Vk.const_i Gr.T (by first | kernel_rfl | decide +kernel))
    (case g_MAX_PARTS => as_aux_lemma => exact Vk.const_i Gr.T (by first | kernel_rfl | decide +kernel))
    (case g_MAX_EDITS => as_aux_lemma => exact Vk.const_i Gr.T (by first | kernel_rfl | decide +kernel))
#print axioms PySem.Challenge.cw_anchoredits_k68_whole_hunks_make_the_res_holds
