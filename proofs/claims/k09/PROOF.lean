import PyProof.Rows.All
import Wide.All
import OpenK.AllK
import Wide.FinOn
import KE.OsRunLaw
import PySem.Challenge.RW_anchoredits_k09_whole_mirrored_programs
import HandS.Base
import HandS.Call
import HandS.List
import HandS.Comp
import HandS.Ends
import HandS.Text
import HandS.Words
import HandS.StrMore
import HandS.ForMost
import HandS.Codes
import HandS.Replace
import HandS.FStrTup
import PyProof.StrBlock2
import HandS.Exc
import HandS.ExcInit
import HandS.ExcIs
import HandS.ExcField
import KE.KExcIs
import HandS.IsInst
import HandS.Zip
import HandS.Nested
import HandS.OwnEq
import HandS.More
import HandS.Star
import HandS.ClsMeth
import HandS.Property
import HandS.Iter
import HandS.Zip0
import KE.GoesMore
import KE.GoesEnum
import HandS.NoneIn
import PyProof.StrLawsRepr
import HandS.EndTab
import HandS.ListEq
import KE.KTryMore
import HandS.Style
import HandS.SortRule
import KE.KRevSl
import OpenK.KOps
import KE.GoesRaise
import PyProof.EnumMake
import PyProof.ListStr
import PyProof.CollectStr
import HandS.Strs
import HandS.ExcValue
import PyProof.Rows.SortShellAny
import PyProof.NeKinds
set_option Elab.async false
set_option maxRecDepth 100000
set_option linter.all false
namespace Vk
open PySem PySem.W PyProof.Rows
def Triv {P : Prop} (_ : P) : Prop := True
@[irreducible] def Al (P : Prop) : Prop := P
theorem al {P : Prop} (p : Al P) : P := by unfold Al at p; exact p
theorem drop_ {P : Prop} (p : Al P) (_ : Triv p) : P := al p
set_option maxHeartbeats 0 in
theorem hd : True :=
  haveI x : PySem.Challenge.rw_anchoredits_k09_whole_mirrored_programs.Holds := by
    w_on; o_law; k_headL; all_goals (apply_rules (newGoals := .nonDependentOnly) (transparency := .reducible) (maxDepth := 1) only [drop_]; exact trivial)
  trivial
end Vk
#print axioms Vk.hd
set_option Elab.async false
set_option maxRecDepth 100000
set_option linter.all false
namespace Vk
open PySem PySem.W PySem.Calls PyProof.Rows
abbrev hdR : OpenRow := OpenLaw.row PySem.Challenge.rw_anchoredits_k09_whole_mirrored_programs
abbrev hdP : Program := PySem.Challenge.pw_anchoredits_k09_whole_mirrored_programs
def hdLo : List PySem.Str := ["Edit", "Once", "First", "Perhaps", "Every", "AtOnce", "Program"]
noncomputable def hdEnd (w : World) (os : OsState) : Option SharedT := HeadRun.endF (HeadRun.stepQ (HeadRun.denQ HeadRun.tabQ) hdP w) 12502 hdP w os
noncomputable abbrev hdXt : Shared → Bool := fun s => xlAt hd.view_39 [] s && recOk (RowW.records hdR.toRowW) s
theorem hdRunL (w : World) (os : OsState) : (hdEnd w os).map (fun s => HeadRun.looksF hdP (boot_heap w.params) s.abs) = some true := by kernel_rfl
theorem hdRunS0 (w : World) (os : OsState) : (hdEnd w os).map (fun s => (HeadRun.seenQ hd.view_39 hdLo (importedModules hdP.main.body) hdXt s.abs).1) = some (openGood hd.view_39 hdLo).1 := by kernel_rfl
theorem hdRunS1 (w : World) (os : OsState) : (hdEnd w os).map (fun s => ((HeadRun.seenQ hd.view_39 hdLo (importedModules hdP.main.body) hdXt s.abs).2.1, (HeadRun.seenQ hd.view_39 hdLo (importedModules hdP.main.body) hdXt s.abs).2.2.1)) = some ((openGood hd.view_39 hdLo).2.1, (openGood hd.view_39 hdLo).2.2.1) := by kernel_rfl
theorem hdRunS2 (w : World) (os : OsState) : (hdEnd w os).map (fun s => ((HeadRun.seenQ hd.view_39 hdLo (importedModules hdP.main.body) hdXt s.abs).2.2.2.1, (HeadRun.seenQ hd.view_39 hdLo (importedModules hdP.main.body) hdXt s.abs).2.2.2.2.1, (HeadRun.seenQ hd.view_39 hdLo (importedModules hdP.main.body) hdXt s.abs).2.2.2.2.2.1, (HeadRun.seenQ hd.view_39 hdLo (importedModules hdP.main.body) hdXt s.abs).2.2.2.2.2.2.1, (HeadRun.seenQ hd.view_39 hdLo (importedModules hdP.main.body) hdXt s.abs).2.2.2.2.2.2.2.1, (HeadRun.seenQ hd.view_39 hdLo (importedModules hdP.main.body) hdXt s.abs).2.2.2.2.2.2.2.2)) = some ((openGood hd.view_39 hdLo).2.2.2.1, (openGood hd.view_39 hdLo).2.2.2.2.1, (openGood hd.view_39 hdLo).2.2.2.2.2.1, (openGood hd.view_39 hdLo).2.2.2.2.2.2.1, (openGood hd.view_39 hdLo).2.2.2.2.2.2.2.1, (openGood hd.view_39 hdLo).2.2.2.2.2.2.2.2) := by kernel_rfl
def hdAs : List Addr := [nat_lit 2, nat_lit 3, nat_lit 15, nat_lit 17, nat_lit 18, nat_lit 20, nat_lit 21, nat_lit 22, nat_lit 29, nat_lit 31, nat_lit 32, nat_lit 34, nat_lit 35, nat_lit 36, nat_lit 37, nat_lit 38, nat_lit 39, nat_lit 42, nat_lit 49, nat_lit 51, nat_lit 52, nat_lit 54, nat_lit 55, nat_lit 56, nat_lit 57, nat_lit 58, nat_lit 59, nat_lit 62, nat_lit 69, nat_lit 71, nat_lit 72, nat_lit 74, nat_lit 75, nat_lit 76, nat_lit 77, nat_lit 78, nat_lit 79, nat_lit 82, nat_lit 89, nat_lit 91, nat_lit 92, nat_lit 94, nat_lit 95, nat_lit 96, nat_lit 97, nat_lit 98, nat_lit 99, nat_lit 102, nat_lit 109, nat_lit 111, nat_lit 112, nat_lit 114, nat_lit 115, nat_lit 116, nat_lit 117, nat_lit 118, nat_lit 119, nat_lit 122, nat_lit 129, nat_lit 131, nat_lit 132, nat_lit 134, nat_lit 135, nat_lit 136, nat_lit 137, nat_lit 138, nat_lit 139, nat_lit 142, nat_lit 149, nat_lit 151, nat_lit 152, nat_lit 154, nat_lit 155, nat_lit 156, nat_lit 157, nat_lit 158, nat_lit 159, nat_lit 162, nat_lit 169, nat_lit 171, nat_lit 172, nat_lit 174, nat_lit 175, nat_lit 176, nat_lit 177, nat_lit 178, nat_lit 179, nat_lit 182, nat_lit 189, nat_lit 191, nat_lit 192, nat_lit 194, nat_lit 195, nat_lit 196, nat_lit 197, nat_lit 198, nat_lit 199, nat_lit 202, nat_lit 204, nat_lit 205, nat_lit 207, nat_lit 208, nat_lit 209, nat_lit 211, nat_lit 212, nat_lit 214, nat_lit 215, nat_lit 216, nat_lit 218, nat_lit 219, nat_lit 221, nat_lit 222, nat_lit 223, nat_lit 225, nat_lit 226, nat_lit 228, nat_lit 229, nat_lit 230, nat_lit 232, nat_lit 233, nat_lit 235, nat_lit 236, nat_lit 237, nat_lit 239, nat_lit 240, nat_lit 242, nat_lit 243, nat_lit 244, nat_lit 246, nat_lit 247, nat_lit 249, nat_lit 250, nat_lit 258, nat_lit 259, nat_lit 260, nat_lit 261, nat_lit 262, nat_lit 265, nat_lit 272, nat_lit 274, nat_lit 275, nat_lit 277, nat_lit 278, nat_lit 279, nat_lit 281, nat_lit 282, nat_lit 284, nat_lit 285, nat_lit 286, nat_lit 287, nat_lit 289, nat_lit 290, nat_lit 292, nat_lit 293, nat_lit 294, nat_lit 295, nat_lit 297, nat_lit 298, nat_lit 300, nat_lit 301, nat_lit 302, nat_lit 303, nat_lit 304, nat_lit 307, nat_lit 314, nat_lit 316, nat_lit 317, nat_lit 319, nat_lit 320, nat_lit 321, nat_lit 323, nat_lit 324, nat_lit 326, nat_lit 327, nat_lit 328, nat_lit 329, nat_lit 331, nat_lit 332, nat_lit 334, nat_lit 335, nat_lit 336, nat_lit 337, nat_lit 339, nat_lit 340, nat_lit 342, nat_lit 343, nat_lit 344, nat_lit 345, nat_lit 346, nat_lit 349, nat_lit 356, nat_lit 358, nat_lit 359, nat_lit 361, nat_lit 362, nat_lit 363, nat_lit 365, nat_lit 366, nat_lit 368, nat_lit 369, nat_lit 370, nat_lit 371, nat_lit 373, nat_lit 374, nat_lit 376, nat_lit 377, nat_lit 378, nat_lit 379, nat_lit 381, nat_lit 382, nat_lit 384, nat_lit 385, nat_lit 386, nat_lit 387, nat_lit 388, nat_lit 391, nat_lit 398, nat_lit 400, nat_lit 401, nat_lit 403, nat_lit 404, nat_lit 405, nat_lit 407, nat_lit 408, nat_lit 410, nat_lit 411, nat_lit 412, nat_lit 413, nat_lit 415, nat_lit 416, nat_lit 418, nat_lit 419, nat_lit 420, nat_lit 421, nat_lit 423, nat_lit 424, nat_lit 426, nat_lit 427, nat_lit 428, nat_lit 429, nat_lit 430, nat_lit 433, nat_lit 440, nat_lit 442, nat_lit 443, nat_lit 445, nat_lit 446, nat_lit 447, nat_lit 449, nat_lit 450, nat_lit 452, nat_lit 453, nat_lit 454, nat_lit 455, nat_lit 457, nat_lit 458, nat_lit 460, nat_lit 461, nat_lit 462, nat_lit 463, nat_lit 464, nat_lit 467, nat_lit 469, nat_lit 470, nat_lit 472, nat_lit 473, nat_lit 474, nat_lit 476, nat_lit 477, nat_lit 479, nat_lit 480, nat_lit 481, nat_lit 483, nat_lit 484, nat_lit 486, nat_lit 487, nat_lit 488, nat_lit 491, nat_lit 492, nat_lit 493, nat_lit 495, nat_lit 496, nat_lit 498, nat_lit 499, nat_lit 500, nat_lit 502, nat_lit 503, nat_lit 505, nat_lit 506, nat_lit 507, nat_lit 509, nat_lit 510, nat_lit 512, nat_lit 513, nat_lit 514, nat_lit 516, nat_lit 517, nat_lit 519, nat_lit 520, nat_lit 521, nat_lit 523, nat_lit 524, nat_lit 526, nat_lit 527, nat_lit 528, nat_lit 531, nat_lit 532, nat_lit 540, nat_lit 542, nat_lit 543, nat_lit 545, nat_lit 546, nat_lit 547, nat_lit 549, nat_lit 550, nat_lit 552, nat_lit 553, nat_lit 554, nat_lit 555, nat_lit 558, nat_lit 559, nat_lit 560, nat_lit 561, nat_lit 563, nat_lit 564, nat_lit 566, nat_lit 567, nat_lit 568, nat_lit 569, nat_lit 571, nat_lit 572, nat_lit 574, nat_lit 575, nat_lit 576, nat_lit 578, nat_lit 579, nat_lit 581, nat_lit 582, nat_lit 583, nat_lit 585, nat_lit 586, nat_lit 588, nat_lit 589, nat_lit 590, nat_lit 592, nat_lit 593, nat_lit 595, nat_lit 596, nat_lit 597, nat_lit 599, nat_lit 600, nat_lit 602, nat_lit 603, nat_lit 604, nat_lit 606, nat_lit 607, nat_lit 609, nat_lit 610, nat_lit 611, nat_lit 614, nat_lit 615, nat_lit 616, nat_lit 617, nat_lit 618, nat_lit 619, nat_lit 620, nat_lit 623, nat_lit 625, nat_lit 626, nat_lit 628, nat_lit 629, nat_lit 630, nat_lit 632, nat_lit 633, nat_lit 635, nat_lit 636, nat_lit 637, nat_lit 639, nat_lit 640, nat_lit 642, nat_lit 643, nat_lit 644, nat_lit 646, nat_lit 647, nat_lit 649, nat_lit 650, nat_lit 651, nat_lit 653, nat_lit 654, nat_lit 656, nat_lit 657, nat_lit 658, nat_lit 661, nat_lit 662, nat_lit 663, nat_lit 666, nat_lit 667, nat_lit 668, nat_lit 671, nat_lit 672, nat_lit 673, nat_lit 675, nat_lit 676, nat_lit 678, nat_lit 679, nat_lit 680, nat_lit 683, nat_lit 684, nat_lit 685, nat_lit 688, nat_lit 689, nat_lit 690, nat_lit 692, nat_lit 693, nat_lit 695, nat_lit 696, nat_lit 697, nat_lit 699, nat_lit 700, nat_lit 702, nat_lit 703, nat_lit 704, nat_lit 706, nat_lit 707, nat_lit 709, nat_lit 710, nat_lit 711, nat_lit 714, nat_lit 715]
theorem hdRunA (w : World) (os : OsState) : (hdEnd w os).map (fun s => hdAs.map (HeadRun.getT s)) = some ((hd.heap_39 w.params).map fun x => some x.2) := by kernel_rfl
theorem hdEk : ∀ P, hdAs = (hd.heap_39 P).map (·.1) := fun _ => by kernel_rfl
theorem hdRun (w : World) (os : OsState) : (HeadRun.endF (HeadRun.stepQ (HeadRun.denQ HeadRun.tabQ) hdP w) 12502 hdP w os).map (fun s => (HeadRun.looksF hdP (boot_heap w.params) s.abs, HeadRun.seenQ hd.view_39 hdLo (importedModules hdP.main.body) hdXt s.abs, hdAs.map (HeadRun.getT s))) = some (true, openGood hd.view_39 hdLo, (hd.heap_39 w.params).map fun x => some x.2) := by
  have rL := hdRunL w os
  have rA := hdRunA w os
  have r0 := hdRunS0 w os
  have r1 := hdRunS1 w os
  have r2 := hdRunS2 w os
  show (hdEnd w os).map _ = _
  generalize hdEnd w os = e at *
  cases e with
  | none => cases rL
  | some s =>
    have qL := Option.some.inj rL
    have qA := Option.some.inj rA
    have z0 := Option.some.inj r0
    have z1 := Option.some.inj r1
    have z2 := Option.some.inj r2
    have q0 := z0
    obtain ⟨q1, q2⟩ := Prod.mk.inj z1
    obtain ⟨q3, z2⟩ := Prod.mk.inj z2
    obtain ⟨q4, z2⟩ := Prod.mk.inj z2
    obtain ⟨q5, z2⟩ := Prod.mk.inj z2
    obtain ⟨q6, z2⟩ := Prod.mk.inj z2
    obtain ⟨q7, q8⟩ := Prod.mk.inj z2
    exact congrArg some (Prod.ext qL (Prod.ext (Prod.ext q0 (Prod.ext q1 (Prod.ext q2 (Prod.ext q3 (Prod.ext q4 (Prod.ext q5 (Prod.ext q6 (Prod.ext q7 q8)))))))) qA))
theorem hdLeft : LeftO hdP hd.view_39 hdLo hdXt (Hook.obs (kHook hd.heap_39 hdAs hdEk)) (Hook.val (kHook hd.heap_39 hdAs hdEk)) 13202 true :=
  HeadRun.left_oneK (M := 12502) (by kernel_rfl) (by rfl) (fun s => by kernel_rfl) (by rfl) hdRun
end Vk
set_option Elab.async false
set_option maxRecDepth 100000
set_option linter.all false
namespace Vk
open PySem PySem.Spec PyProof.Rows L2
/-! ## defs that may show values: no guard is under way -/
structure FnG (P : Program) (w : World) (K : PySem.W.Frag) (mg : Str → Option Value) (base : Heap) (CX : CXT) (k : Nat) (f : Addr) (fd : FuncData) (ps : List Str) (sp : Sp) : Prop where
  len : ∀ vs H Q E, sp vs H Q E → vs.length = ps.length
  run : ∀ (A : Around) (outer : List Env) (s : Shared) (H : Hp) (args : Args) (us : List Value) (vs : List V) (Q : VK) (E : XK), A.guards = some [] → Room k A → Env0 P w K mg base A outer s H → BindsTo s fd args (ps.zip us) → Vals vs us → sp vs H Q E →
    codeAny (model P w) A (.call (.ref f) args) (CR CX outer P w H s Q E) s
theorem FnG.of {P : Program} {w : World} {K : PySem.W.Frag} {mg : Str → Option Value} {base : Heap} {CX : CXT} {k : Nat} {f : Addr} {fd : FuncData} {ps : List Str} {sp : Sp} (F : FnOk P w K mg base CX k f fd ps sp) : FnG P w K mg base CX k f fd ps sp :=
  ⟨F.len, fun A outer s H args us vs Q E _ => F.run A outer s H args us vs Q E⟩
section
variable {P : Program} {w : World} {K : PySem.W.Frag} {mg : Str → Option Value} {base : Heap}
theorem okG {CX : CXT} {x qual : Str} {st : Stmt} {f : Addr} {fd : FuncData} {N ps : List Str} {k : Nat} {sp : Sp} (F : Fun K x qual st f fd) (S : FnScope N ps (defScope st)) (hlen : ∀ vs H Q E, sp vs H Q E → vs.length = ps.length)
    (hbody : ∀ (cdv : Value) (A : Around) (outer : List Env) (s : Shared) (H : Hp) (vs : List V) (Q : VK) (E : XK), A.guards = some [] → Room k (A.deeper (envOfC qual (defScope st) s.heap.objs.size f cdv)) → sp vs H Q E →
      ∃ t, PSs (cxOf CX P w K mg base N qual (defScope st) f cdv A outer s H E) (defBody st) t ∧ t { nx := fun _ H' => Q .non H', rt := Q } (start N vs) H) : FnG P w K mg base CX (k + 1) f fd ps sp := by
  obtain ⟨oc, od, kV, doc, pm, an, cdv, ct, osl, rfl, lk, hcd⟩ := F.ex
  refine ⟨hlen, fun A outer s H args us vs Q E hg hr e0 hb r hsp => ?_⟩
  have hvl := hlen _ _ _ _ hsp
  have KX := e0.mod.kin.keeps (fun b o e => (e0.bs b o e).1 : ∀ b o, base.get? b = some o → s.heap.get? b = some o)
  have noLim := e0.mod.nolimit.keeps (fun b o e => (e0.bs b o e).1 : ∀ b o, base.get? b = some o → s.heap.get? b = some o)
  have kinds : ∀ y ∈ ps.zip us, (defScope st).names.lookup y.1 = some .local ∨ ((defScope st).names.lookup y.1 = some .cell ∧ ((cellsFrom (s.heap.objs.size + 1) (defScope st).names []).lookup y.1).isSome = true) := by
    rintro ⟨n, v⟩ hy
    have hy1 := (List.of_mem_zip hy).1
    cases S.par n hy1 with
    | inl q => exact Or.inl q
    | inr q => exact Or.inr (And.intro q (PySem.W.cellsFrom_some _ _ _ (Or.inl q)))
  refine codeAny_call_function hr.depth (KX f _ lk) rfl S.co S.gen rfl (PySem.W.codeRec_of KX hcd) (hb _ _ _ _ (wpAny_newFunctionEnv_cells S.kind kinds fun env he s1 x => ?_))
  cases he
  refine And.intro (noLim.keeps x.toInCall.keep) (codeAny_func ?_)
  obtain ⟨t, ht, hq⟩ := hbody cdv A outer s H vs Q E hg (hr.deeper _) hsp
  have I0 := inv_start (CX := CX) (E := E) S hr.hd e0 hvl r x
  refine wpAny_mono (ht.run [] s1 (start N vs) H _ I0 hq) (fun fl s2 hs => ?_) (fun e s2 hs => hs)
  have close : ∀ {σ2 : L2.St} {H2 : Hp} {v : V} {u : Value}, Inv (cxOf CX P w K mg base N qual (defScope st) f cdv A outer s H E) [] σ2 H2 s2 → RelV v u → Q v H2 → CE outer P w H s Q u s2 := by
    intro σ2 H2 v u J rv q
    exact ⟨v, H2, And.intro J.os (And.intro J.bare (And.intro J.base (And.intro J.hok (And.intro rv q))))⟩
  match fl, hs with
  | .ret u, ⟨v, σ2, H2, J, rv, q⟩ => exact close J rv q
  | .next, ⟨σ2, H2, J, q⟩ => exact close (v := V.non) (u := Value.none) J rfl q
  | .brk, ⟨_, _, _, q⟩ => exact q.elim
  | .cont, ⟨_, _, _, q⟩ => exact q.elim
end
section
variable {P : Program} {w : World} {K : PySem.W.Frag} {mg : Str → Option Value} {base : Heap}
theorem okG0 {x qual : Str} {st : Stmt} {f : Addr} {fd : FuncData} {N ps : List Str} {k : Nat} {sp : Sp} (F : Fun K x qual st f fd) (S : FnScope N ps (defScope st)) (hlen : ∀ vs H Q E, sp vs H Q E → vs.length = ps.length)
    (hbody : ∀ (cdv : Value) (A : Around) (outer : List Env) (s : Shared) (H : Hp) (vs : List V) (Q : VK) (E : XK), A.guards = some [] → Room k (A.deeper (envOfC qual (defScope st) s.heap.objs.size f cdv)) → sp vs H Q E →
      ∃ t, PSs (cxOf CX0 P w K mg base N qual (defScope st) f cdv A outer s H E).nox (defBody st) t ∧ t { nx := fun _ H' => Q .non H', rt := Q } (start N vs) H) : FnG P w K mg base CX0 (k + 1) f fd ps sp :=
  okG F S hlen fun cdv A outer s H vs Q E hg hr hsp => match hbody cdv A outer s H vs Q E hg hr hsp with | ⟨t, h, q⟩ => ⟨t, h.nox, q⟩
end
/-- a def of the module by its name -/
structure CalG (P : Program) (w : World) (K : PySem.W.Frag) (mg : Str → Option Value) (base : Heap) (CX : CXT) (k : Nat) (x : Str) (sp : Sp) : Prop where
  ex : ∃ (f : Addr) (fd : FuncData) (ps : List Str), FnG P w K mg base CX k f fd ps sp ∧ mg x = some (.ref f) ∧ PySem.W.keepIn K (.ref f) = true ∧ Binds K fd ps []
section
variable {X : Cx} {CX : CXT} {j k : Nat} {f : Addr} {fd : FuncData} {ps : List Str} {sp : Sp} {E : XK} {x : Str} {p pos : Pos} {e : Expr} {es : List Expr} {t : TA}
theorem run_fnG {pins : List (Addr × Obj)} {σ : L2.St} {H : Hp} {s : Shared} {Q : VK} {us : List Value} {vs : List V} (F : FnG X.prog X.w X.K X.mg X.base CX k f fd ps sp) (hg : X.A.guards = some []) (hr : Room k X.A) (hb : Binds X.K fd ps []) (hx : Passes CX X E)
    (I : Inv X pins σ H s) (r : Vals vs us) (h : sp vs H Q E) : wpAny (model X.prog X.w) X.A (call (.ref f) us) (EP X pins σ Q) X.xe s := by
  have hl : us.length = ps.length := r.length.symm.trans (F.len _ _ _ _ h)
  have b := hb s us I.kIn ((congrArg List.length (List.append_nil us)).trans hl)
  rw [List.append_nil] at b
  refine wpAny_call (codeAny_mono (F.run X.A X.stack s H ⟨us, []⟩ us vs Q E hg hr I.env0 b r h) (fun res s2 hq => ?_))
  match res, hq with
  | .error e, hq => exact hx pins σ H s e s2 I hq
  | .ok (.ret u), hq => exact I.after hq
  | .ok .next, hq => exact hq.elim
  | .ok .brk, hq => exact hq.elim
  | .ok .cont, hq => exact hq.elim
theorem pe_cG (c : CalG X.prog X.w X.K X.mg X.base CX k x sp) (hg : X.A.guards = some []) (hr : Room j X.A) (hk : k ≤ j) (hx : Passes CX X E) (ha : PA X (e :: es) t) (gl : Gl X x := by rfl)
    (hdb : (x == ("__debug__" : Str)) = false := by decide) (he : starEach (e :: es) X.env = (false, eval e X.env) :: starEach es X.env := by rfl) (hpl : (backTo pos (starEach es X.env)).any (·.1) = false := by rfl) :
    PE X (.Call (.Name x p) (e :: es) [] pos) (tCall sp [] E t) := by
  obtain ⟨f, fd, ps, F, hm, kp, hb⟩ := c.ex
  refine ⟨fun pins s σ H Q I h => wpAny_Call_Name_kw (ld_glob I gl hm (PySem.W.callWith_K (h₀ := X.base) I.ok.mod.kin kp (thn (ha.run pos pins s σ H _ I h) fun us s1 hh => ?_) he hpl) hdb)⟩
  obtain ⟨vs, H1, I1, r, q⟩ := hh
  rw [List.append_nil] at q
  exact ⟨I1.kIn, run_fnG F hg (hr.mono hk) hb hx I1 r q⟩
end
/-! ## repr -/
section
variable {X : Cx}
end
/-! ## the law's own call -/
end Vk
set_option Elab.async false
set_option maxRecDepth 100000
set_option linter.all false
namespace Vk
open PySem PySem.Spec PyProof.Rows L2
/-! ## what stays -/
/-- all that was tracked stays, but what stands at p -/
def Ext (p : Addr) (H H' : Hp) : Prop := ∀ b o, H b = some o → b ≠ p → H' b = some o
theorem Ext.rfl {p : Addr} {H : Hp} : Ext p H H := fun _ _ h _ => h
theorem Ext.trans {p : Addr} {H H1 H2 : Hp} (a : Ext p H H1) (b : Ext p H1 H2) : Ext p H H2 := fun c o h n => b c o (a c o h n) n
theorem Ext.same {p : Addr} {H H1 : Hp} (a : Same H H1) : Ext p H H1 := fun c o h _ => a c o h
theorem Ext.at {p : Addr} {H : Hp} {o : HO} : Ext p H (upd H p o) := fun c u h n => (upd_ne n).trans h
theorem same_new {H : Hp} {a : Addr} {o : HO} (h : H a = none) : Same H (upd H a o) := fun c u e => (upd_ne (ne_of_none e h)).trans e
theorem Ext.new {p a : Addr} {H : Hp} {o : HO} (h : H a = none) : Ext p H (upd H a o) := .same (same_new h)
theorem Ext.set {p a : Addr} {H H1 : Hp} {o : HO} (x : Ext p H H1) (h : H a = none) : Ext p H (upd H1 a o) := fun c u e n => (upd_ne (ne_of_none e h)).trans (x c u e n)
theorem Ext.none_of {p a : Addr} {H H1 : Hp} (x : Ext p H H1) (hp : a ≠ p) (h : H1 a = none) : H a = none := by
  match q : H a with
  | none => rfl
  | some o => exact nomatch (x a o q hp).symm.trans h
theorem up_new {H : Hp} {a b : Addr} {o u : HO} (h : H a = some o) (hb : H b = none) : upd H b u a = some o := same_new hb a o h
/-! ## the pen -/
def penL (c : Addr) (t l : Int) : List (Key × V) := [(.inr "cells", .ref c), (.inr "turn", .int t), (.inr "left", .int l)]
theorem k_ct : ¬ ((Str.ofString "cells") = Str.ofString "turn") := by decide +kernel
theorem k_cl : ¬ ((Str.ofString "cells") = Str.ofString "left") := by decide +kernel
theorem k_tl : ¬ ((Str.ofString "turn") = Str.ofString "left") := by decide +kernel
theorem k_lt : ¬ ((Str.ofString "left") = Str.ofString "turn") := by decide +kernel
theorem pen_cells (c : Addr) (t l : Int) : valV (penL c t l) (Sum.inr "cells" : Key) = some (.ref c) := valV_pos rfl
theorem pen_turn (c : Addr) (t l : Int) : valV (penL c t l) (Sum.inr "turn" : Key) = some (.int t) := (valV_neg (fun e => k_ct (Sum.inr.inj e))).trans (valV_pos rfl)
theorem pen_left (c : Addr) (t l : Int) : valV (penL c t l) (Sum.inr "left" : Key) = some (.int l) := (valV_neg (fun e => k_cl (Sum.inr.inj e))).trans ((valV_neg (fun e => k_tl (Sum.inr.inj e))).trans (valV_pos rfl))
theorem pen_put_turn (c : Addr) (t l u : Int) : putK (penL c t l) (Sum.inr "turn" : Key) (.int u) = penL c u l := by
  unfold putK
  rw [valV_any, pen_turn]
  simp [penL, k_ct, k_lt]
theorem pen_put_left (c : Addr) (t l u : Int) : putK (penL c t l) (Sum.inr "left" : Key) (.int u) = penL c t u := by
  unfold putK
  rw [valV_any, pen_left]
  simp [penL, k_cl, k_tl]
theorem pen_made (c : Addr) (t l : Int) : mergeK [] (penL c t l) = penL c t l := by
  simp [mergeK, penL, putK, k_ct, k_cl, k_tl]
structure Pen (H : Hp) (p c : Addr) (T : Nat) : Prop where
  ex : ∃ (ns : List Int) (t l : Int), H p = some (.dK (penL c t l)) ∧ H c = some (.lst (ns.map V.int)) ∧ ns.length ≤ 63 ∧ 0 ≤ t ∧ t ≤ T ∧ 0 ≤ l
section
variable {H H1 : Hp} {p c a : Addr} {T U : Nat} {o : HO} {xs : List V}
theorem Pen.mono (x : Pen H p c T) (h : T ≤ U) : Pen H p c U := by
  obtain ⟨ns, t, l, h1, h2, h3, h4, h5, h6⟩ := x.ex
  exact ⟨ns, t, l, h1, h2, h3, h4, by omega, h6⟩
theorem Pen.stay (x : Pen H p c T) (s : Same H H1) : Pen H1 p c T := by
  obtain ⟨ns, t, l, h1, h2, r⟩ := x.ex
  exact ⟨ns, t, l, s _ _ h1, s _ _ h2, r⟩
theorem Pen.new (x : Pen H p c T) (h : H a = none) : Pen (upd H a o) p c T := x.stay (same_new h)
theorem Pen.is (x : Pen H p c T) : ∃ t l, H p = some (.dK (penL c t l)) := by
  obtain ⟨ns, t, l, h1, _⟩ := x.ex
  exact ⟨t, l, h1⟩
theorem Pen.ne (x : Pen H p c T) (h : H a = some (.lst xs)) : a ≠ p := by
  obtain ⟨t, l, h1⟩ := x.is
  exact ne_of h h1 (by intro z; cases z)
/-- another thing is changed -/
theorem Pen.set (x : Pen H p c T) (h1 : a ≠ p) (h2 : a ≠ c) : Pen (upd H a o) p c T := by
  obtain ⟨ns, t, l, g1, g2, r⟩ := x.ex
  exact ⟨ns, t, l, (upd_ne h1.symm).trans g1, (upd_ne h2.symm).trans g2, r⟩
/-- a thing that was not there when the pen stood is neither the pen nor its cells -/
theorem Pen.apart (x : Pen H p c T) (h : H a = none) : a ≠ p ∧ a ≠ c := by
  obtain ⟨ns, t, l, g1, g2, r⟩ := x.ex
  exact ⟨(ne_of_none g1 h).symm, (ne_of_none g2 h).symm⟩
end
/-- draw's promise -/
def spDraw : Sp := fun vs H Q _ => ∃ (p c : Addr) (m : Int) (T : Nat), vs = [.ref p, .int m] ∧ 0 < m ∧ m < 1073741824 ∧ Pen H p c T ∧ T < 1000000000 ∧
  ∀ (d : Int) (H' : Hp), 0 ≤ d → d < m → Pen H' p c (T + 1) → Ext p H H' → Q (.int d) H'
def spPen (K : PySem.W.Frag) : Sp := fun vs H Q _ => ∃ (a : Addr) (ns : List Int), vs = [.ref a] ∧ SqL K H a (ns.map V.int) ∧
  ∀ (p c : Addr) (H' : Hp), H p = none → Pen H' p c 0 → Same H H' → Q (.ref p) H'
/-! ## draws' small facts -/
theorem ints_dp {K : PySem.W.Frag} {H : Hp} : ∀ ns : List Int, DpAll K H (ns.map V.int) (ns.map PyData.int)
  | [] => .nil
  | n :: ns => .cons (.int n) (ints_dp ns)
theorem ints_canLay : ∀ ns : List Int, PyData.canLayAll0 (ns.map PyData.int) = true
  | [] => rfl
  | n :: ns => by
    show (PyData.canLay0 (.int n) && PyData.canLayAll0 (ns.map PyData.int)) = true
    rw [ints_canLay ns]
    rfl
theorem ints_depth : ∀ ns : List Int, PyData.depthAll (ns.map PyData.int) = 0
  | [] => rfl
  | n :: ns => by
    show max (PyData.depth (.int n)) (PyData.depthAll (ns.map PyData.int)) = 0
    rw [ints_depth ns]
    rfl
theorem ints_shaped (ns : List Int) : SeqAt.shaped (.list (ns.map PyData.int)) = true := by
  have h1 : PyData.canLay0 (.list (ns.map PyData.int)) = true := ints_canLay ns
  have h2 : PyData.depth (.list (ns.map PyData.int)) = 1 := by
    show PyData.depthAll (ns.map PyData.int) + 1 = 1
    rw [ints_depth]
  unfold SeqAt.shaped
  rw [h1, h2]
  rfl
theorem ints_ne_nil (ns : List Int) : PyData.eqv (.list (ns.map PyData.int)) (.list []) = ns.isEmpty := by
  match ns with
  | [] => rfl
  | n :: r => rfl
theorem get_left {H : Hp} {p c : Addr} {t l : Int} (h : H p = some (.dK (penL c t l))) : DGet H p (.str "left") (some (.int l)) := pen_left c t l ▸ DGet.k (k := Sum.inr "left") h
theorem get_turn {H : Hp} {p c : Addr} {t l : Int} (h : H p = some (.dK (penL c t l))) : DGet H p (.str "turn") (some (.int t)) := pen_turn c t l ▸ DGet.k (k := Sum.inr "turn") h
theorem get_cells {H : Hp} {p c : Addr} {t l : Int} (h : H p = some (.dK (penL c t l))) : DGet H p (.str "cells") (some (.ref c)) := pen_cells c t l ▸ DGet.k (k := Sum.inr "cells") h
theorem put_left {H : Hp} {p c : Addr} {t l u : Int} (h : H p = some (.dK (penL c t l))) : DPut H p (.str "left") (.int u) (upd H p (.dK (penL c t u))) := pen_put_left c t l u ▸ DPut.k (k := Sum.inr "left") h (by show 3 < sizeLine; decide)
theorem put_turn {H : Hp} {p c : Addr} {t l u : Int} (h : H p = some (.dK (penL c t l))) : DPut H p (.str "turn") (.int u) (upd H p (.dK (penL c u l))) := pen_put_turn c t l u ▸ DPut.k (k := Sum.inr "turn") h (by show 3 < sizeLine; decide)
theorem at_mod {α : Type} {xs : List α} {i : Int} (h0 : 0 ≤ i) (h : i < (xs.length : Int)) : ∃ v, atI xs i = some v ∧ v ∈ xs := by
  have hj : i.toNat < xs.length := by omega
  refine ⟨xs[i.toNat], ?_, List.getElem_mem hj⟩
  have e : i = (i.toNat : Int) := by omega
  have q := atI_nat (List.getElem?_eq_getElem hj)
  rw [← e] at q
  exact q
def primes : List Int := [2147483629, 2147483647, 2147483587, 2147483563, 2147483579]
theorem primes_in {v : V} (h : v ∈ primes.map V.int) : ∃ i : Int, v = .int i ∧ 0 < i ∧ i < 2147483648 := by
  obtain ⟨i, hi, e⟩ := List.mem_map.mp h
  refine ⟨i, e.symm, ?_⟩
  have q : ∀ j ∈ primes, 0 < j ∧ j < 2147483648 := by decide
  exact q i hi
end Vk
set_option Elab.async false
set_option maxRecDepth 100000
set_option linter.all false
namespace Vk
open PySem PySem.Spec PyProof.Rows L2
/-! ## a def that returns one written text, and a replace of what it returns (a token is out behind it) -/
structure FnT (P : Program) (w : World) (K : PySem.W.Frag) (mg : Str → Option Value) (base : Heap) (k : Nat) (x : Str) (z : Str) : Prop where
  ex : ∃ f : Addr, mg x = some (.ref f) ∧ PySem.W.keepIn K (.ref f) = true ∧ ∀ (A : Around) (outer : List Env) (s : Shared) (H : Hp) (Q : VK), Room k A → Env0 P w K mg base A outer s H → Q (.str z) H →
    codeAny (model P w) A (.call (.ref f) ⟨[], []⟩) (fun r s2 => 1 ≤ s2.toks ∧ CR CX0 outer P w H s Q E0 r s2) s
section
variable {P : Program} {w : World} {K : PySem.W.Frag} {mg : Str → Option Value} {base : Heap}
theorem okT {x : Str} {st : Stmt} {f : Addr} {fd : FuncData} {z : Str} {j : Nat} {p1 p2 : Pos} (F : Fun K x x st f fd) (S : FnScope [] [] (defScope st)) (hm : mg x = some (.ref f)) (hb : Binds K fd [] [])
    (body : defBody st = [.Return (some (.Constant (.str z) j p1)) p2]) : FnT P w K mg base 1 x z := by
  refine ⟨f, hm, F.kp, ?_⟩
  obtain ⟨oc, od, kV, doc, pm, an, cdv, ct, osl, rfl, lk, hcd⟩ := F.ex
  intro A outer s H Q hr e0 hsp
  have KX := e0.mod.kin.keeps (fun b o e => (e0.bs b o e).1 : ∀ b o, base.get? b = some o → s.heap.get? b = some o)
  have noLim := e0.mod.nolimit.keeps (fun b o e => (e0.bs b o e).1 : ∀ b o, base.get? b = some o → s.heap.get? b = some o)
  refine codeAny_call_function hr.depth (KX f _ lk) rfl S.co S.gen rfl (PySem.W.codeRec_of KX hcd) (hb s [] KX rfl _ _ _ _ (wpAny_newFunctionEnv_cells S.kind (fun y hy => absurd hy (List.not_mem_nil (a := y))) fun env he s1 x0 => ?_))
  cases he
  refine And.intro (noLim.keeps x0.toInCall.keep) (codeAny_func ?_)
  have I0 := inv_start (P := P) (CX := CX0) (E := E0) (us := []) (vs := []) S hr.hd e0 rfl .nil x0
  show wpAny _ _ (execs (defBody st) _) _ _ s1
  rw [body]
  refine wpAny_execs_cons (wpAny_Return_some (Calls.Constant_str ?_))
  exact ⟨Nat.succ_pos _, .str z, H, I0.os, I0.bare, (I0.tok (s1.toks + 1)).base, (I0.tok (s1.toks + 1)).hok, ⟨_, rfl⟩, hsp⟩
end
section
variable {X : Cx} {j k : Nat} {x z y v : Str} {q q2 apos pos c0 c1 : Pos} {j0 j1 : Nat}
theorem pe_replT (c : FnT X.prog X.w X.K X.mg X.base k x z) (hr : Room j X.A) (hk : k ≤ j) (hz : z.length + (z.length + 1) * v.length ≤ 16777216) (hyz : (y == v) = false) (gl : Gl X x := by rfl) (hdb : (x == ("__debug__" : Str)) = false := by decide)
    (hst : starEach [.Constant (.str y) j0 c0, .Constant (.str v) j1 c1] X.env = [(false, eval (.Constant (.str y) j0 c0) X.env), (false, eval (.Constant (.str v) j1 c1) X.env)] := by rfl)
    (hbase : attributeBase (.Call (.Name x q) [] [] q2) "replace" X.env (eval (.Call (.Name x q) [] [] q2) X.env) = eval (.Call (.Name x q) [] [] q2) X.env := by rfl) (hline : (apos.endLine == pos.line) = true := by rfl) :
    PE X (.Call (.Attribute (.Call (.Name x q) [] [] q2) "replace" apos) [.Constant (.str y) j0 c0, .Constant (.str v) j1 c1] [] pos) (fun σ H Q => Q (.str (Txt.replace z y v)) H) := by
  obtain ⟨f, hm, kp, run⟩ := c.ex
  refine ⟨fun pins s σ H Q I h => PySem.Call_method2 (Q := EP X pins σ Q) hbase hst hline (wpAny_mono (Q := fun u s1 => 1 ≤ s1.toks ∧ EP X pins σ (fun w H1 => w = .str z ∧ H1 = H) u s1) ?_ ?_ (fun _ _ e => e))⟩
  · refine wpAny_Call_Name_kw (ld_glob I gl hm (PySem.W.callWith_K0 I.kIn kp (wpAny_call (codeAny_mono (run X.A X.stack s H (fun w H1 => w = .str z ∧ H1 = H) (hr.mono hk) I.env0 ⟨rfl, rfl⟩) fun res s2 hq => ?_))) hdb)
    match res, hq with
    | .error e, hq => exact hq.2.elim
    | .ok (.ret u), hq => exact ⟨hq.1, I.after hq.2⟩
    | .ok .next, hq => exact hq.2.elim
    | .ok .brk, hq => exact hq.2.elim
    | .ok .cont, hq => exact hq.2.elim
  · rintro u s1 ⟨ht, w, H1, I1, r1, rfl, rfl⟩
    obtain ⟨tx, rfl⟩ := r1
    refine ⟨"str", _, PySem.F.plainAttrs_str, PySem.F.slot_str_replace, PySem.F.type_str_replace, typeIs_str _ _ _, (fun _ e => nomatch e), Calls.callWith_builtin rfl (Calls.evalArgs_plain (Calls.spliced_cons (Calls.Constant_str (Calls.spliced_cons (Calls.Constant_str (Calls.spliced_nil ?_))))))⟩
    exact PySem.SC.replace (Nat.ne_of_gt ht) (Nat.succ_ne_zero _) (by show s1.toks ≠ s1.toks + 1; omega) hyz hz fun t' kk => ⟨V.str _, _, I1.tok kk, ⟨t', rfl⟩, h⟩
end
/-! ## options to pick from -/
def OneS (c : Nat) : V := .str ⟨#[c]⟩
inductive Opts (K : PySem.W.Frag) (H : Hp) : V → List V → Prop
  | str (z : Str) (h : z.length ≤ 1000) : Opts K H (.str z) (z.cps.toList.map OneS)
  | lst {a : Addr} {xs : List V} (h : SqL K H a xs) : Opts K H (.ref a) xs
  | tup {a : Addr} {xs : List V} (h : SqT K H a xs) : Opts K H (.ref a) xs
theorem Ext.sqL {K : PySem.W.Frag} {p a : Addr} {H H1 : Hp} {xs : List V} {kvs : List (Key × V)} (x : Ext p H H1) (hp : H p = some (.dK kvs)) (h : SqL K H a xs) : SqL K H1 a xs := by
  match h with
  | .inl (.inl e) => exact .inl (.inl (x _ _ e (ne_of e hp (by intro z; cases z))))
  | .inl (.inr ⟨o, e⟩) => exact .inl (.inr ⟨o, x _ _ e (ne_of e hp (by intro z; cases z))⟩)
  | .inr e => exact .inr e
theorem Ext.sqT {K : PySem.W.Frag} {p a : Addr} {H H1 : Hp} {xs : List V} {kvs : List (Key × V)} (x : Ext p H H1) (hp : H p = some (.dK kvs)) (h : SqT K H a xs) : SqT K H1 a xs := by
  match h with
  | .inl (.inl e) => exact .inl (.inl (x _ _ e (ne_of e hp (by intro z; cases z))))
  | .inl (.inr ⟨o, e⟩) => exact .inl (.inr ⟨o, x _ _ e (ne_of e hp (by intro z; cases z))⟩)
  | .inr e => exact .inr e
theorem Ext.is {p a : Addr} {H H1 : Hp} {xs : List V} {kvs : List (Key × V)} (x : Ext p H H1) (hp : H p = some (.dK kvs)) (h : H a = some (.lst xs)) : H1 a = some (.lst xs) := x _ _ h (ne_of h hp (by intro z; cases z))
theorem Ext.isT {p a : Addr} {H H1 : Hp} {xs : List V} {kvs : List (Key × V)} (x : Ext p H H1) (hp : H p = some (.dK kvs)) (h : H a = some (.tup xs)) : H1 a = some (.tup xs) := x _ _ h (ne_of h hp (by intro z; cases z))
theorem Pen.keepL {K : PySem.W.Frag} {p c a : Addr} {T : Nat} {H H1 : Hp} {xs : List V} (q : Pen H p c T) (x : Ext p H H1) (h : SqL K H a xs) : SqL K H1 a xs := by
  obtain ⟨t, l, hp⟩ := q.is
  exact x.sqL hp h
theorem Pen.keepT {K : PySem.W.Frag} {p c a : Addr} {T : Nat} {H H1 : Hp} {xs : List V} (q : Pen H p c T) (x : Ext p H H1) (h : SqT K H a xs) : SqT K H1 a xs := by
  obtain ⟨t, l, hp⟩ := q.is
  exact x.sqT hp h
theorem Pen.keepI {p c a : Addr} {T : Nat} {H H1 : Hp} {xs : List V} (q : Pen H p c T) (x : Ext p H H1) (h : H a = some (.lst xs)) : H1 a = some (.lst xs) := by
  obtain ⟨t, l, hp⟩ := q.is
  exact x.is hp h
def spPick (K : PySem.W.Frag) : Sp := fun vs H Q _ => ∃ (p c : Addr) (o : V) (xs : List V) (T : Nat), vs = [.ref p, o] ∧ Opts K H o xs ∧ xs ≠ [] ∧ xs.length ≤ 1000 ∧ Pen H p c T ∧ T < 1000000000 ∧
  ∀ (v : V) (H' : Hp), v ∈ xs → Pen H' p c (T + 1) → Ext p H H' → Q v H'
def letS : Str := "\n !\"#$&'()*+,-./0123456789:;<=>?@ABCDEFGHIJKLMNOPQRSTUVWXYZ[\\]^_`abcdefghijklmnopqrstuvwxyz{|}~"
def spSigns : Sp := fun vs H Q _ => vs = [] ∧ Q (.str letS) H
/-- what few gives: one to three letters -/
def Few (z : Str) : Prop := 1 ≤ z.length ∧ z.length ≤ 3 ∧ ∀ c ∈ z.cps.toList, c ∈ letS.cps.toList
def spFew : Sp := fun vs H Q _ => ∃ (p c : Addr) (T : Nat), vs = [.ref p] ∧ Pen H p c T ∧ T + 4 < 1000000000 ∧ ∀ (z : Str) (H' : Hp), Few z → Pen H' p c (T + 4) → Ext p H H' → Q (.str z) H'
/-- a word of the letters of z, a to b of them -/
def Word (z : Str) (a b : Nat) (x : Str) : Prop := a ≤ x.length ∧ x.length ≤ b ∧ ∀ c ∈ x.cps.toList, c ∈ z.cps.toList
def spWord : Sp := fun vs H Q _ => ∃ (p c : Addr) (z : Str) (a b T : Nat), vs = [.ref p, .str z, .int a, .int b] ∧ a ≤ b ∧ b ≤ 100 ∧ 1 ≤ z.length ∧ z.length ≤ 1000 ∧ Pen H p c T ∧ T + 200 < 1000000000 ∧
  ∀ (x : Str) (H' : Hp), Word z a b x → Pen H' p c (T + b + 1) → Ext p H H' → Q (.str x) H'
theorem cut63 (ns : List Int) : ∃ ms : List Int, cutV (ns.map V.int) none (some 63) = ms.map V.int ∧ ms.length ≤ 63 := by
  refine ⟨ns.take 63, ?_, List.length_take_le _ _⟩
  unfold cutV
  rw [HT.sIx_none, show (63 : Int) = ((63 : Nat) : Int) from rfl, HT.sIx_nat, List.drop_zero, Nat.sub_zero, List.map_take, Nat.min_comm, ← List.take_take]
  exact List.take_of_length_le (by rw [List.length_take]; omega)
theorem one_len (z : Str) : (z.cps.toList.map OneS).length = z.length := by
  rw [List.length_map]
  exact Array.length_toList
theorem join_nil : ∀ ls : List (List Nat), TL.joinL [] ls = ls.flatten
  | [] => rfl
  | [p] => by simp [TL.joinL]
  | p :: q :: r => by
    show p ++ ([] ++ TL.joinL [] (q :: r)) = _
    rw [List.nil_append, join_nil (q :: r)]
    rfl
theorem join_ones (cs : List Nat) : Txt.join "" (cs.map fun c => (⟨#[c]⟩ : Str)) = ⟨cs.toArray⟩ := by
  rw [TL.join_eq]
  refine TL.ext_tl ?_
  rw [TL.tl_join]
  refine (join_nil _).trans ?_
  show (List.map TL.tl (cs.map fun c => (⟨#[c]⟩ : Str))).flatten = cs
  rw [List.map_map]
  induction cs with
  | nil => rfl
  | cons c r ih => exact congrArg (c :: ·) ih
theorem ones_len (cs : List Nat) : ((cs.map fun c => (⟨#[c]⟩ : Str)).map (·.length)).sum = cs.length := by
  induction cs with
  | nil => rfl
  | cons c r ih =>
    rw [List.map_cons, List.map_cons, List.sum_cons, ih, List.length_cons]
    show 1 + r.length = r.length + 1
    omega
theorem ones_map (cs : List Nat) : (cs.map fun c => (⟨#[c]⟩ : Str)).map V.str = cs.map OneS := List.map_map
theorem noq_list : (Txt.replace letS "q" "").cps.toList = letS.cps.toList.filter (· != 113) := replace_strikes letS 113
theorem noq_len : (Txt.replace letS "q" "").length = 94 := by
  rw [show (Txt.replace letS "q" "").length = (Txt.replace letS "q" "").cps.toList.length from Array.length_toList.symm, noq_list]
  decide +kernel
theorem noq_in {c : Nat} (h : c ∈ (Txt.replace letS "q" "").cps.toList) : c ∈ letS.cps.toList := by
  rw [noq_list] at h
  exact (List.mem_filter.mp h).1
theorem ones_of {z : Str} {v : V} (h : v ∈ z.cps.toList.map OneS) : ∃ c, v = OneS c ∧ c ∈ z.cps.toList := by
  obtain ⟨c, hc, e⟩ := List.mem_map.mp h
  exact ⟨c, e.symm, hc⟩
theorem opts_ne {z : Str} (h : 1 ≤ z.length) : z.cps.toList.map OneS ≠ [] := fun e => by
  have q := one_len z
  rw [e] at q
  simp at q
  omega
theorem opts_le {z : Str} {n : Nat} (h : z.length ≤ n) : (z.cps.toList.map OneS).length ≤ n := by
  rw [one_len]
  exact h
/-- the fixed choices of few are few -/
theorem few_of {z : Str} (h : (decide (1 ≤ z.length) && decide (z.length ≤ 3) && z.cps.toList.all fun c => decide (c ∈ letS.cps.toList)) = true) : Few z := by
  simp only [Bool.and_eq_true, decide_eq_true_eq, List.all_eq_true] at h
  exact ⟨h.1.1, h.1.2, h.2⟩
theorem few_ones {cs : List Nat} (h1 : 1 ≤ cs.length) (h3 : cs.length ≤ 3) (h : ∀ c ∈ cs, c ∈ letS.cps.toList) : Few ⟨cs.toArray⟩ := ⟨by simpa [Str.length] using h1, by simpa [Str.length] using h3, by simpa using h⟩
/-! ## rules whose written part is named (within a comprehension's block) -/
section
variable {X : Cx} {K : PySem.W.Frag}
theorem ix_seqK (h : X.K = K) : IxR X (rIx K) := h ▸ ix_seq
theorem op_in_seqK (h : X.K = K) : OpR X (compareOp .In) (rIn K false) := h ▸ op_in_seq
theorem op_notIn_seqK (h : X.K = K) : OpR X (compareOp .NotIn) (rIn K true) := h ▸ op_notIn_seq
theorem sl_listK (h : X.K = K) : SlR X (rSlL K) := h ▸ sl_list
theorem call_lenK (h : X.K = K) : CallR X (.builtin "len") (fun xs H Q => ∃ x n, xs = [x] ∧ LenV K x H n ∧ Q (.int n) H) := h ▸ call_len
end
theorem cutV_mem {xs : List V} {lo hi : Option Int} {v : V} (h : v ∈ cutV xs lo hi) : v ∈ xs := List.mem_of_mem_drop (List.mem_of_mem_take h)
theorem cutV_all {xs : List V} {lo hi : Option Int} {f : V → Bool} (h : xs.all f = true) : (cutV xs lo hi).all f = true := List.all_eq_true.mpr fun v hv => List.all_eq_true.mp h v (cutV_mem hv)
theorem ones_flat (cs : List Nat) : (cs.map OneS).all flatV = true := List.all_eq_true.mpr fun v hv => by
  obtain ⟨c, _, rfl⟩ := List.mem_map.mp hv
  rfl
theorem cutV_zero (xs : List V) : cutV xs none (some 0) = [] := by
  unfold cutV
  rw [HT.sIx_none, show (0 : Int) = ((0 : Nat) : Int) from rfl, HT.sIx_nat]
  simp
theorem one_mem {cs : List Nat} {v : V} (h : v ∈ cs.map OneS) : ∃ c, v = OneS c ∧ c ∈ cs := by
  obtain ⟨c, hc, e⟩ := List.mem_map.mp h
  exact ⟨c, e.symm, hc⟩
end Vk
set_option Elab.async false
set_option maxRecDepth 100000
set_option linter.all false
namespace Vk
open PySem PySem.Spec PyProof.Rows L2
/-! ## how long what is shown may be -/
theorem listText_le : ∀ ts : List Str, (listText ts).length ≤ piled ts + 2
  | [] => by decide +kernel
  | t :: r => by
    have h := textFrom_length_pos r 1 (("[" : Str) ++ (if (0 : Nat) > 0 then ", " else "" : String) ++ t) (Nat.succ_pos 0)
    have e : (listText (t :: r)).length = (textFrom 1 (("[" : Str) ++ (if (0 : Nat) > 0 then ", " else "" : String) ++ t) r).length + 1 := strLen_append _ _
    rw [e, h, strLen_append, strLen_append, piled_cons]
    show 1 + 0 + t.length + piled r + 1 ≤ _
    omega
theorem piled_le {ts : List Str} {n : Nat} (h : ∀ t ∈ ts, t.length ≤ n) : piled ts ≤ ts.length * (n + 2) := by
  induction ts with
  | nil => exact Nat.zero_le _
  | cons t r ih =>
    have h1 := h t List.mem_cons_self
    have h2 := ih fun u hu => h u (List.mem_cons_of_mem _ hu)
    rw [piled_cons, List.length_cons, Nat.succ_mul]
    omega
theorem shownAll_map : ∀ ds : List PyData, PyData.shownAll ds = ds.map PyData.shown
  | [] => rfl
  | d :: r => congrArg (d.shown :: ·) (shownAll_map r)
theorem showableAll_iff : ∀ {ds : List PyData}, (∀ d ∈ ds, d.showable = true) → PyData.showableAll ds = true
  | [], _ => rfl
  | d :: r, h => by
    show (d.showable && PyData.showableAll r) = true
    rw [h d List.mem_cons_self, showableAll_iff fun e he => h e (List.mem_cons_of_mem _ he)]
    rfl
theorem hasDictAll_of : ∀ {ds : List PyData}, (∀ d ∈ ds, d.hasDict = false) → PyData.hasDictAll ds = false
  | [], _ => rfl
  | d :: r, h => by
    show (d.hasDict || PyData.hasDictAll r) = false
    rw [h d List.mem_cons_self, hasDictAll_of fun e he => h e (List.mem_cons_of_mem _ he)]
    rfl
theorem depthAll_le : ∀ {ds : List PyData} {n : Nat}, (∀ d ∈ ds, d.depth ≤ n) → PyData.depthAll ds ≤ n
  | [], _, _ => Nat.zero_le _
  | d :: r, n, h => Nat.max_le.mpr ⟨h d List.mem_cons_self, depthAll_le fun e he => h e (List.mem_cons_of_mem _ he)⟩
/-- d may be shown, in at most n signs, at most k deep -/
structure Showy (d : PyData) (k n : Nat) : Prop where
  sh : d.showable = true
  nd : d.hasDict = false
  dp : d.depth ≤ k
  ln : d.shown.length ≤ n
theorem Showy.list {ds : List PyData} {k n : Nat} (h : ∀ d ∈ ds, Showy d k n) : Showy (.list ds) (k + 1) (ds.length * (n + 2) + 2) := by
  refine ⟨showableAll_iff fun d hd => (h d hd).sh, hasDictAll_of fun d hd => (h d hd).nd, Nat.succ_le_succ (depthAll_le fun d hd => (h d hd).dp), ?_⟩
  show (listText (PyData.shownAll ds)).length ≤ _
  rw [shownAll_map]
  have h1 := listText_le (ds.map PyData.shown)
  have h2 := piled_le (ts := ds.map PyData.shown) (n := n) fun t ht => by
    obtain ⟨d, hd, rfl⟩ := List.mem_map.mp ht
    exact (h d hd).ln
  rw [List.length_map] at h2
  omega
theorem Showy.tuple {ds : List PyData} {k n : Nat} (h : ∀ d ∈ ds, Showy d k n) : Showy (.tuple ds) (k + 1) (ds.length * (n + 2) + 2) := by
  refine ⟨showableAll_iff fun d hd => (h d hd).sh, hasDictAll_of fun d hd => (h d hd).nd, Nat.succ_le_succ (depthAll_le fun d hd => (h d hd).dp), ?_⟩
  show (tupleText (PyData.shownAll ds)).length ≤ _
  rw [shownAll_map]
  have h1 := fmt_text (ds.map PyData.shown)
  have h2 := piled_le (ts := ds.map PyData.shown) (n := n) fun t ht => by
    obtain ⟨d, hd, rfl⟩ := List.mem_map.mp ht
    exact (h d hd).ln
  rw [List.length_map] at h2
  omega
theorem Showy.int {i : Int} (h : i.natAbs < 10 ^ 100) : Showy (.int i) 0 101 := by
  have hl : i.natAbs.log2 < 1920 := by
    by_cases h0 : i.natAbs = 0
    · rw [h0]; decide
    · exact (Nat.log2_lt h0).mpr (Nat.lt_of_lt_of_le h (by decide +kernel))
  refine ⟨decide_eq_true hl, rfl, Nat.le_refl _, ?_⟩
  show (Str.ofString (toString i)).length ≤ 101
  rw [PySem.ofString_length]
  exact int_text_length_le10 (k := 100) (by decide) h
theorem Showy.mono {d : PyData} {k k' n n' : Nat} (h : Showy d k n) (h1 : k ≤ k') (h2 : n ≤ n') : Showy d k' n' := ⟨h.sh, h.nd, Nat.le_trans h.dp h1, Nat.le_trans h.ln h2⟩
/-! ## places of words -/
open StrLaws in
theorem find_from (x y : Str) (lo : Nat) (hlo : lo ≤ x.length + 1) :
    ((match Builtin.Str.occurrences x y lo x.length 1 with | i :: _ => (i : Int) | [] => -1) = -1 ∧ ∀ i, lo ≤ i → ¬ At x y x.length i) ∨
    ∃ i : Nat, (match Builtin.Str.occurrences x y lo x.length 1 with | i :: _ => (i : Int) | [] => -1) = (i : Int) ∧ lo ≤ i ∧ At x y x.length i ∧ ∀ k, lo ≤ k → k < i → ¬ At x y x.length k := by
  rw [occ_eq]
  have inr : ∀ i, lo ≤ i → i ≤ x.length → i ∈ List.range' lo (x.length + 1 - lo) := fun i h1 h2 => by
    simp only [List.mem_range'_1]
    omega
  rcases occ_first x y x.length 1 (Nat.le_refl _) (List.range' lo (x.length + 1 - lo)) lo (fun i hi => (List.mem_range'_1.mp hi).1) with ⟨h0, hn⟩ | ⟨pre, a, post, e, h0, ha, hn⟩
  · refine .inl ⟨by rw [h0], fun i hi hA => hn i (inr i hi (Nat.le_trans (Nat.le_add_right _ _) hA.1)) hA⟩
  · refine .inr ⟨a, ?_, ?_, ha, fun k h1 h2 => ?_⟩
    · generalize (forIn (List.range' lo (x.length + 1 - lo)) ((#[] : Array Nat), lo) (occBody x y x.length 1)).run.fst = arr at h0
      have h1 : arr.toList[0]? = some a := by simpa using h0
      match hL : arr.toList with
      | [] => rw [hL] at h1; cases h1
      | b :: t => rw [hL] at h1; simp at h1; rw [h1]
    · exact (List.mem_range'_1.mp (by rw [e]; exact List.mem_append_right _ List.mem_cons_self : a ∈ List.range' lo (x.length + 1 - lo))).1
    · refine hn k ?_
      have hk : k ∈ pre ++ a :: post := by
        rw [← e]
        refine inr k h1 ?_
        have q := ha.1
        omega
      have pw : (pre ++ a :: post).Pairwise (· < ·) := by rw [← e]; exact List.pairwise_lt_range'
      rcases List.mem_append.mp hk with hk | hk
      · exact hk
      · rcases List.mem_cons.mp hk with rfl | hk
        · exact absurd h2 (Nat.lt_irrefl _)
        · have q := (List.pairwise_cons.mp (List.pairwise_append.mp pw).2.1).1 k hk
          omega
def atB (x w : Str) (i : Nat) : Bool := decide (i + w.length ≤ x.length) && Builtin.Str.subAt x w i
theorem atB_iff (x w : Str) (i : Nat) : atB x w i = true ↔ StrLaws.At x w x.length i := by
  unfold atB StrLaws.At
  simp
/-- all places of a word in a text -/
def plc (x w : Str) : List Nat := (List.range (x.length + 1)).filter (atB x w)
theorem filter_more {P : Nat → Bool} {lo m : Nat} (h : lo ≤ m) (hn : ∀ i, lo ≤ i → i < m → P i = false) : (List.range m).filter P = (List.range lo).filter P := by
  induction m with
  | zero => rw [Nat.le_zero.mp h]
  | succ m ih =>
    by_cases e : lo = m + 1
    · rw [e]
    · rw [List.range_succ, List.filter_append, ih (by omega) fun i h1 h2 => hn i h1 (by omega)]
      have q := hn m (by omega) (Nat.lt_succ_self _)
      simp [q]
theorem filter_snoc {P : Nat → Bool} {m : Nat} (h : P m = true) : (List.range (m + 1)).filter P = (List.range m).filter P ++ [m] := by
  rw [List.range_succ, List.filter_append]
  simp [h]
def plcI (x w : Str) : List Int := (plc x w).map Int.ofNat
theorem plc_len (x w : Str) : (plc x w).length ≤ x.length + 1 := Nat.le_trans (List.length_filter_le _ _) (Nat.le_of_eq List.length_range)
def spPlaces (K : PySem.W.Frag) : Sp := fun vs H Q _ => ∃ (x w : Str), vs = [.str x, .str w] ∧ x.length ≤ 10000 ∧ w.length ≤ 10000 ∧
  ∀ (a : Addr) (H' : Hp), H a = none → H' a = some (.lst ((plcI x w).map V.int)) → Same H H' → Q (.ref a) H'
/-- the slice of a text at a place -/
theorem cut_at (x w : Str) (k : Nat) (h : k + w.length ≤ x.length) : decide (V.str (cutS x (some (k : Int)) (some ((k : Int) + (w.length : Int)))) = V.str w) = atB x w k := by
  have e : cutS x (some (k : Int)) (some ((k : Int) + (w.length : Int))) = ⟨((x.cps.toList.drop k).take w.length).toArray⟩ := by
    unfold cutS
    rw [show (k : Int) + (w.length : Int) = ((k + w.length : Nat) : Int) by omega, HT.sIx_nat, HT.sIx_nat, Nat.min_eq_left h, Nat.min_eq_left (show k ≤ x.length by omega), show k + w.length - k = w.length by omega]
  rw [e]
  unfold atB
  rw [StrLaws.subAt_eq, decide_eq_true h, Bool.true_and, Bool.eq_iff_iff, decide_eq_true_eq, beq_iff_eq]
  constructor
  · intro q
    have q2 := V.str.inj q
    exact congrArg (fun z : Str => z.cps.toList) q2
  · intro q
    rw [q]
end Vk
set_option Elab.async false
set_option maxRecDepth 100000
set_option linter.all false
namespace Vk
open PySem PySem.Spec PyProof.Rows L2
/-! ## a text some times -/
theorem mulOk {x : Str} {n : Int} (h0 : 0 ≤ n) (h1 : n ≤ 1000000) (h : x.length * n.toNat ≤ 10000000) (hx : x.length ≤ 10000000) : MulOk x n := by
  refine ⟨?_, fun a _ c => ?_, fun _ _ => ?_⟩
  · rw [decide_eq_false (by omega), decide_eq_false (by omega)]
    rfl
  · have hn : 0 < n := by omega
    have q : (10000000 : Int) ≤ (2 ^ 63 - 1) / n := (Int.le_ediv_iff_mul_le hn).mpr (by omega)
    omega
  · unfold Builtin.Str.tooLong sizeLine
    exact decide_eq_false (by omega)
def CMulS (x : Str) (n : Int) : Prop := 0 ≤ n ∧ n ≤ 1000000 ∧ x.length * n.toNat ≤ 10000000 ∧ x.length ≤ 10000000
def rMulS : R2 := fun x y H Q => ∃ (z : Str) (n : Int), x = .str z ∧ y = .int n ∧ CMulS z n ∧ Q (.str (Txt.mul z n)) H
section
variable {X : Cx}
theorem op_mulS : OpR X (binaryOp .Mult) rMulS := by
  intro pins s σ H x y v u Q I rx ry h
  obtain ⟨z, n, rfl, rfl, ⟨h0, h1, h2, h3⟩, q⟩ := h
  obtain ⟨t, rfl⟩ := rx
  obtain ⟨t2, rfl⟩ := ry
  exact SB.mul (mulOk h0 h1 h2 h3) fun t' k => ⟨V.str _, H, I.tok k, ⟨t', rfl⟩, q⟩
end
theorem foldl_cat : ∀ (l : List (Array Nat)) (acc : Array Nat), (l.foldl (· ++ ·) acc).toList = acc.toList ++ (l.map Array.toList).flatten
  | [], acc => by simp
  | a :: r, acc => by
    rw [List.foldl_cons, foldl_cat r]
    simp
theorem mul_list (x : Str) (n : Int) (h : 0 ≤ n) : (Txt.mul x n).cps.toList = (List.replicate n.toNat x.cps.toList).flatten := by
  unfold Txt.mul
  split
  · rw [show n.toNat = 0 by omega]
    rfl
  · split
    · rename_i h1 h2
      rw [Bool.or_eq_true] at h2
      rcases h2 with h2 | h2
      · rw [show n = 1 from eq_of_beq h2]
        simp
      · have e : x.cps.toList = [] := List.eq_nil_of_length_eq_zero (Array.length_toList.trans (eq_of_beq h2))
        rw [e]
        simp
    · show ((List.replicate n.toNat x.cps).foldl (· ++ ·) #[]).toList = _
      rw [foldl_cat, List.map_replicate]
      rfl
theorem len_list (x : Str) : x.length = x.cps.toList.length := Array.length_toList.symm
theorem mul_len (x : Str) (n : Int) (h : 0 ≤ n) : (Txt.mul x n).length = n.toNat * x.length := by
  rw [len_list, mul_list x n h, len_list x]
  simp [List.length_flatten]
/-! ## a def called by keywords alone -/
structure CalK (P : Program) (w : World) (K : PySem.W.Frag) (mg : Str → Option Value) (base : Heap) (CX : CXT) (k : Nat) (x : Str) (sp : Sp) (ks : List Str) (g : {α : Type} → List α → List α) : Prop where
  ex : ∃ (f : Addr) (fd : FuncData) (ps : List Str), FnG P w K mg base CX k f fd ps sp ∧ mg x = some (.ref f) ∧ PySem.W.keepIn K (.ref f) = true ∧
    (∀ (s : Shared) (ws : List Value), K.In s.heap → ws.length = ks.length → BindsTo s fd ⟨[], ks.zip ws⟩ (ps.zip (g ws))) ∧ ∀ (vs : List V) (ws : List Value), Vals vs ws → vs.length = ks.length → Vals (g vs) (g ws)
section
variable {X : Cx} {CX : CXT} {j k : Nat} {sp : Sp} {E : XK} {x : Str} {p pos : Pos} {kws : List Keyword} {tk : TA} {ks : List Str} {g : {α : Type} → List α → List α}
end
theorem vals_rev : ∀ {vs : List V} {ws : List Value}, Vals vs ws → Vals vs.reverse ws.reverse
  | _, _, .nil => .nil
  | _, _, .cons r t => by
    rw [List.reverse_cons, List.reverse_cons]
    exact (vals_rev t).append (.cons r .nil)
/-! ## a def of the text as the head leaves it -/
structure At (K : PySem.W.Frag) (x : Str) (st : Stmt) (f : Addr) (fd : FuncData) : Prop where
  ns : PySem.W.nsIn K mainGlobals x = some (some (.ref f))
  fn : Fun K x x st f fd
theorem at_mk {K : PySem.W.Frag} {x : Str} {st : Stmt} {f : Addr} {oc : Value} {od an : Option Addr} {sl : Array (Option Value)} {kV doc pm cd ct : Value} (a : PySem.W.nsIn K mainGlobals x = some (some (.ref f)))
    (l : K.lookup f = some ⟨oc, od, .func (PySem.W.fnOf x x (defArgs st) (defBody st) (defScope st) .none kV doc pm an cd ct), sl⟩) (c : PySem.W.codeIn K cd x = true) (k : PySem.W.keepIn K (.ref f) = true) :
    At K x st f (PySem.W.fnOf x x (defArgs st) (defBody st) (defScope st) .none kV doc pm an cd ct) := ⟨a, fun_mk l c k⟩
section
variable {K : PySem.W.Frag} {x y qual : Str} {st : Stmt} {f : Addr} {fd : FuncData} {ps ks : List Str} {g : List Value → List Value}
theorem _root_.L2.Fun.binds1 (F : Fun K x qual st f fd)
    (h : ∀ {kV doc pm : Value} {an : Option Addr} {cdv ct : Value} {v : Value}, bindArgs (PySem.W.fnOf x qual (defArgs st) (defBody st) (defScope st) .none kV doc pm an cdv ct) ⟨[v], []⟩ = pure [(y, v)]) :
    ∀ (s : Shared) (v : Value), BindsTo s fd ⟨[v], []⟩ [(y, v)] := by
  obtain ⟨oc, od, kV, doc, pm, an, cdv, ct, osl, rfl, lk, hcd⟩ := F.ex
  exact fun s v => .of_eq h
end
end Vk
set_option Elab.async false
set_option maxRecDepth 100000
set_option maxHeartbeats 4000000
set_option linter.all false
namespace PySem
namespace VkX
open PySem.W PySem.Calls PyProof.Rows Builtin Builtin.ObjectAttr PySem.HandSPX
/-! ## own exception classes straight below one of the four -/
structure ExB (B newId initId : String) (tl : List Value) : Prop where
  F : ExcBaseFacts B newId initId tl
  pass : ∀ self : Value, refuseLoop self "__setattr__" tl = pure ()
  obj : tl.contains (.type "object") = true
  refs : tl.all (fun v => match v with | .type _ => true | _ => false) = true
theorem exB_value : ExB "ValueError" "ValueError.__new__" "ValueError.__init__" [.type "ValueError", .type "Exception", .type "BaseException", .type "object"] := ⟨F.excBase_ValueError, fun _ => by kernel_rfl, by decide +kernel, rfl⟩
theorem exB_lookup : ExB "LookupError" "LookupError.__new__" "LookupError.__init__" [.type "LookupError", .type "Exception", .type "BaseException", .type "object"] := ⟨F.excBase_LookupError, fun _ => by kernel_rfl, by decide +kernel, rfl⟩
theorem exB_overflow : ExB "OverflowError" "OverflowError.__new__" "OverflowError.__init__" [.type "OverflowError", .type "ArithmeticError", .type "Exception", .type "BaseException", .type "object"] := ⟨F.excBase_OverflowError, fun _ => by kernel_rfl, by decide +kernel, rfl⟩
section
variable {M : Model} {A : Around} {E : Value → Shared → Prop} {h : Heap} {g : Array GenState} {d : Drawn} {t : Nat} {os : OsState}
variable {nm q : Str} {C N : Addr} {bs bm : List Value} {hdct : Bool} {sn : List Str} {sub : List Value} {ab : Bool} {col : Option Bool} {dd : Option Addr} {k0 k1 k2 k3 k5 : Option Value} {B newId initId : String}
theorem check_newK (F : ExcBaseFacts B newId initId bm) {rest : List Value} {kw : List (Str × Value)} {Q : Unit → Shared → Prop} (hC : h.get? C = some (excClassObj nm q C N bs bm hdct sn sub ab col dd k0 k1 k2 k3 k5 newId))
    (hq : Q () ⟨h, g, d, t, os⟩) : wpAny M A (checkBuiltinCall newId ⟨.ref C :: rest, kw⟩) Q E ⟨h, g, d, t, os⟩ := by
  have inB : (Value.ref C :: bm).contains (.type B) = true := by rw [List.contains_cons, F.hasB, Bool.or_true]
  have star := F.noStar
  simp only [checkBuiltinCall, F.newKind, F.newSplit, F.newRow]
  repeat (first | refine wpAny_loadPart_at hC ?_ | (refine wpAny_isSubtype_exc hC ?_; rw [inB]) | refine wpAny_staticBase_exc hC ?_ | refine wpAny_madeBy_exc hC ?_ | simp only [bne_self_eq_false, Bool.false_eq_true, if_false] | wp_step)
  exact hq
end
section
variable {prog : Program} {w : World} {A : Around} {E : Value → Shared → Prop} {R : Result → Shared → Prop} {h : Heap} {g : Array GenState} {d : Drawn} {t : Nat} {os : OsState}
variable {nm q : Str} {C N : Addr} {bs bm : List Value} {hdct : Bool} {sn : List Str} {sub : List Value} {ab : Bool} {col : Option Bool} {dd : Option Addr} {k0 k1 k2 k3 k5 : Option Value} {B newId initId : String}
theorem new_ownK (F : ExcBaseFacts B newId initId bm) {rest : List Value} {kw : List (Str × Value)} (hC : h.get? C = some (excClassObj nm q C N bs bm hdct sn sub ab col dd k0 k1 k2 k3 k5 newId))
    (hq : R (.ok (.ret (.ref (h.objs.size + 1)))) ⟨(h.push (W.kdv_tup rest)).push (excO C h.objs.size), g, d, t, os⟩) (hrest : rest.length ≤ sizeLine) :
    codeAny (model prog w) A (.builtin newId ⟨.ref C :: rest, kw⟩) R ⟨h, g, d, t, os⟩ := by
  have fends := F.ends
  have cB : (Value.ref C :: bm).contains (.type B) = true := by rw [List.contains_cons, F.hasB, Bool.or_true]
  have cA : (Value.ref C :: bm).contains (.type "AttributeError") = false := by rw [List.contains_cons, F.noAttr]; rfl
  have cN : (Value.ref C :: bm).contains (.type "NameError") = false := by rw [List.contains_cons, F.noName]; rfl
  refine codeAny_builtinAt F.entry ?_
  unfold Builtin.«BaseException.__new__»
  refine wpAt_bind (show wpAt _ _ _ (stack >>= _) _ _ _ from wpAt_bind (wpAt_stack fun p below => wpAt_of_wpAny ?_))
  wp_walk
  refine wpAt_of_wpAny ?_
  rw [F.owner]
  repeat (first | with_reducible refine wpAny_madeHere_exc F.canon hC ?_ | with_reducible refine wpAny_loadPart_at hC ?_ | (with_reducible refine wpAny_isSubtype_exc hC ?_; first | rw [cB] | rw [cA] | rw [cN]) | wp_step)
  exact (show R _ _ by rw [Heap.size_push]; exact hq)
theorem check_callK {M : Model} {rest : List Value} {kw : List (Str × Value)} {Q : Unit → Shared → Prop} (hC : h.get? C = some (excClassObj nm q C N bs bm hdct sn sub ab col dd k0 k1 k2 k3 k5 newId)) (hq : Q () ⟨h, g, d, t, os⟩) : wpAny M A (checkBuiltinCall "type.__call__" ⟨.ref C :: rest, kw⟩) Q E ⟨h, g, d, t, os⟩ := by
  have own := tc_sub
  have typed : (⟨h, g, d, t, os⟩ : Shared).TypeIs (.ref C) "type" := ⟨_, hC, rfl⟩
  simp only [checkBuiltinCall, tc_kind, tc_split]
  repeat (any_goals (first | assumption | with_reducible refine wpAny_loadPart_at hC ?_ | with_reducible refine wpAny_onRaise ?_ | with_reducible refine wpAny_map ?_ | wp_step))
theorem type_callK (F : ExcBaseFacts B newId initId bm) {rest : List Value} {kw : List (Str × Value)} {fI : Addr} {Q : Fin → Shared → Prop} (hC : h.get? C = some (excClassObj nm q C N bs bm hdct sn sub ab col dd k0 k1 k2 k3 k5 newId))
    (hi : W.Looks (model prog w) h (typeLookup (.ref C) "__init__") (some (.ref fI))) (hb : ∀ self, W.Looks (model prog w) h (bindSpecial (.ref fI) self) (.ref fI, [self])) (hrest : rest.length ≤ sizeLine)
    (hq : codeAny (model prog w) A (.call (.ref fI) ⟨.ref (h.objs.size + 1) :: rest, kw⟩)
      (fun r s' => match r with | .ok (.ret v) => v = .none ∧ Q (.done (.ret (.ref (h.objs.size + 1)))) s' | .ok _ => False | .error e => E e s')
      ⟨(h.push (W.kdv_tup rest)).push (excO C h.objs.size), g, d, t, os⟩) :
    wpAny (model prog w) A (Builtin.«type.__call__» ⟨.ref C :: rest, kw⟩) Q E ⟨h, g, d, t, os⟩ := by
  repeat (first | with_reducible refine wpAny_loadPart_at hC ?_ | with_reducible refine wpAny_madeBy_exc hC ?_ | wp_step)
  refine codeAny_call_builtin_code (Code.quiet_builtin _ F.quiet) (check_newK F hC (new_ownK F hC (show wpAny _ _ _ _ _ _ from ?_) hrest))
  have kp : ∀ b o, h.get? b = some o → ((h.push (W.kdv_tup rest)).push (excO C h.objs.size)).get? b = some o := fun b o e => Heap.get?_push_of_some _ (Heap.get?_push_of_some _ e)
  have hC1 := kp _ _ hC
  have made : ((h.push (W.kdv_tup rest)).push (excO C h.objs.size)).get? (h.objs.size + 1) = some (excO C h.objs.size) := by heap_get
  have self1 : (Value.ref C :: bm).contains (.ref C) = true := by simp
  have looked := hi.keeps kp
  have bound := (hb (.ref (h.objs.size + 1))).keeps kp
  unfold isInstance
  repeat (first | with_reducible refine wpAny_loadPart_at made ?_ | (with_reducible refine wpAny_isSubtype_exc hC1 ?_; rw [self1]) | wp_step)
  refine (show wpAny _ _ (typeLookup (.ref C) _) _ _ _ from looked.at (wpAny_holding (wpAny_bind (bound.at (wpAny_bind (wpAny_call (codeAny_mono hq fun res s2 z => ?_)))))))
  match res, z with
  | .error e, z => exact z
  | .ok (.ret v), z =>
    obtain ⟨rfl, z⟩ := z
    first
      | exact wpAny_pure (wpAny_pure z)
      | (wp_walk; exact z)
  | .ok .next, z => exact z.elim
  | .ok .brk, z => exact z.elim
  | .ok .cont, z => exact z.elim
theorem call_ownK (F : ExcBaseFacts B newId initId bm) {rest : List Value} {kw : List (Str × Value)} {fI : Addr} (hC : h.get? C = some (excClassObj nm q C N bs bm hdct sn sub ab col dd k0 k1 k2 k3 k5 newId))
    (hi : W.Looks (model prog w) h (typeLookup (.ref C) "__init__") (some (.ref fI))) (hb : ∀ self, W.Looks (model prog w) h (bindSpecial (.ref fI) self) (.ref fI, [self])) (hrest : rest.length ≤ sizeLine)
    (hq : codeAny (model prog w) (A.under (.builtin "type.__call__" ⟨.ref C :: rest, kw⟩)) (.call (.ref fI) ⟨.ref (h.objs.size + 1) :: rest, kw⟩) (W.InitBack (h.objs.size + 1) R)
      ⟨(h.push (W.kdv_tup rest)).push (excO C h.objs.size), g, d, t, os⟩) :
    codeAny (model prog w) A (.call (.ref C) ⟨rest, kw⟩) R ⟨h, g, d, t, os⟩ := by
  have l1 := tc_lookup
  have l2 := tc_bind (.ref C)
  have hTy : (⟨h, g, d, t, os⟩ : Shared).TypeIs (.ref C) "type" := ⟨_, hC, rfl⟩
  refine codeAny_of_tree (show wpAny _ _ (callAny (.ref C) _) _ _ _ from ?_)
  repeat (any_goals (first | assumption | with_reducible refine wpAny_loadPart_at hC ?_ | wp_step))
  refine ⟨rfl, codeAny_call_builtin_at (Code.quiet_builtin _ (by decide +kernel)) entry_typeCall (check_callK hC (type_callK F hC hi hb hrest (codeAny_mono hq fun res s2 z => ?_)))⟩
  match res, z with
  | .error e, z => exact z
  | .ok (.ret v), z => exact z
  | .ok .next, z => exact z.elim
  | .ok .brk, z => exact z.elim
  | .ok .cont, z => exact z.elim
end
end VkX
end PySem
set_option Elab.async false
set_option maxRecDepth 100000
set_option maxHeartbeats 4000000
set_option linter.all false
namespace PySem
namespace VkX
open PySem.W PySem.Calls PyProof.Rows Builtin Builtin.ObjectAttr PySem.HandSPX
section
variable {prog : Program} {w : World} {A : Around} {E : Value → Shared → Prop} {R : Result → Shared → Prop} {hp : Heap} {g : Array GenState} {d : Drawn} {t : Nat} {os : OsState}
/-- object.__setattr__ on an exception of an own class, up to the store into its own dict -/
theorem osa_way {K : Frag} {name : Str} {tk : Tok} {v : Value} {x C : Addr} {ox : Obj} {od : Option Obj} {cd : ClassData} {B newId initId : String} {tl : List Value} (hB : ExB B newId initId tl)
    (X : K.In hp) (I : InstAt hp x ox C od) (hcd : clsIn K C = some cd) (hm : cd.mro = .ref C :: tl) (ha : findIn K (.ref C) name = some none)
    (hq : wpAny (model prog w) (A.under (.builtin "object.__setattr__" ⟨[.ref x, .str name tk, v], []⟩)) (storeInOwnDict (.ref x) (.ref C) (.str name tk) name v false)
      (fun fin s2 => match fin with | .done f => R (.ok f) s2 | .again c2 => c2.quiet = true ∧ codeAny (model prog w) A c2 R s2) (fun e s2 => R (.error e) s2) ⟨hp, g, d, t, os⟩) :
    codeAny (model prog w) A (.call (.builtin "object.__setattr__") ⟨[.ref x, .str name tk, v], []⟩) R ⟨hp, g, d, t, os⟩ := by
  have slot := F.store_object
  have some1 : cd.mro.isEmpty = false := by rw [hm]; rfl
  have obj1 : cd.mro.contains (.type "object") = true := by rw [hm, List.contains_cons, hB.obj, Bool.or_true]
  have within : Looks (model prog w) hp (isInstance (.ref x) (.type "object")) true := I.type.andThen (looks_mroIn X (by unfold mroIn; rw [hcd, Option.bind_some, if_neg (by rw [some1]; decide), obj1]))
  refine codeAny_call_builtin slot.slot.plain slot.entry (@check_slot (model prog w) _ _ ⟨hp, g, d, t, os⟩ "object.__setattr__" "object" "__setattr__" (.ref x) [.str name tk, v] [] _ slot.kind slot.split within (slot.args (.ref x) (.str name tk) v) ?_)
  have line : Looks (model prog w) hp (mroOf (.ref C)) cd.mro := (looks_clsIn X hcd).andThen .now
  rw [osa_eq, refuse_eq]
  refine wpAny_bind (wpAny_bind (I.type.at (wpAny_bind (line.at ?_))))
  rw [hm, refuseLoop_ref, hB.pass]
  exact wpAny_pure (wpAny_bind (I.type.at (wpAny_bind ((looks_findIn X ha).at (wpAny_bind ((show Looks (model prog w) hp (storeTaker? none) none from .now).at hq))))))
theorem osa_first {K : Frag} {name : Str} {tk : Tok} {v : Value} {x C : Addr} {fv : Array Value} {cd : ClassData} {B newId initId : String} {tl : List Value} (hB : ExB B newId initId tl)
    (X : K.In hp) (hx : hp.get? x = some { cls := .ref C, data := .fields fv }) (hcd : clsIn K C = some cd) (hm : cd.mro = .ref C :: tl) (hd : cd.hasDict = true) (ha : findIn K (.ref C) name = some none)
    (hq : ∀ h2 tk2 dx, (∀ b o, b ≠ x → hp.get? b = some o → h2.get? b = some o) → hp.objs.size ≤ dx → dx ≠ x → h2.get? x = some { cls := .ref C, dict := some dx, data := .fields fv } →
      h2.Ns1 dx (fun y => if y = name then some v else none) → R (.ok (.ret .none)) ⟨h2, g, d, tk2, os⟩) :
    codeAny (model prog w) A (.call (.builtin "object.__setattr__") ⟨[.ref x, .str name tk, v], []⟩) R ⟨hp, g, d, t, os⟩ := by
  refine osa_way hB X (ox := { cls := .ref C, data := .fields fv }) (od := none) ⟨hx, rfl, rfl, trivial⟩ hcd hm ha ?_
  have far : x ≠ hp.objs.size := Nat.ne_of_lt (Heap.lt_size hx)
  have whole : Looks (model prog w) hp (classData C) cd := looks_clsIn X hcd
  obtain ⟨c1, c2, c3, c4, c5, c6, c7, c8, c9, c10, c11⟩ := cd
  cases (show c6 = true from hd)
  unfold storeInOwnDict ownDictForStores
  repeat (first | with_reducible refine store_in_new ?_ ?_ | with_reducible refine wpAny_loadPart_at hx ?_ | with_reducible refine whole.at ?_ | wp_step)
  · exact ⟨_, #[], _, (Heap.get?_update_ne _ _ _ _ far.symm).trans (Heap.get?_push_at rfl rfl), rfl, fun e he => absurd he (by simp), fun _ => rfl⟩
  · intro h2 tk2 ns same
    have there : (hp.push { cls := .type "dict", data := .dict #[] }).get? x = some { cls := .ref C, data := .fields fv } := Heap.get?_push_of_some _ hx
    exact hq h2 tk2 hp.objs.size (fun b o hb ho => (same.2 b (Nat.ne_of_lt (Heap.lt_size ho))).trans ((Heap.get?_update_ne _ _ _ _ hb).trans (Heap.get?_push_of_some _ ho))) (Nat.le_refl _) far.symm
      ((same.2 x far).trans (Heap.get?_update_self _ there rfl)) ns
theorem osa_next {K : Frag} {name : Str} {tk : Tok} {v : Value} {x C dx : Addr} {fv : Array Value} {cd : ClassData} {m0 : Str → Option Value} {nl : List Str} {B newId initId : String} {tl : List Value} (hB : ExB B newId initId tl)
    (X : K.In hp) (hx : hp.get? x = some { cls := .ref C, dict := some dx, data := .fields fv }) (hns : hp.Ns1 dx m0) (hw : Within m0 nl) (hz : nl.length ≤ 1000) (hcd : clsIn K C = some cd) (hm : cd.mro = .ref C :: tl) (hd : cd.hasDict = true) (ha : findIn K (.ref C) name = some none)
    (hq : ∀ h2 tk2, (∀ b o, b ≠ dx → hp.get? b = some o → h2.get? b = some o) → h2.Ns1 dx (fun y => if y = name then some v else m0 y) → R (.ok (.ret .none)) ⟨h2, g, d, tk2, os⟩) :
    codeAny (model prog w) A (.call (.builtin "object.__setattr__") ⟨[.ref x, .str name tk, v], []⟩) R ⟨hp, g, d, t, os⟩ := by
  obtain ⟨oD, esD, epD, hoD, hdD, _⟩ := hns.count hw
  refine osa_way hB X (ox := { cls := .ref C, dict := some dx, data := .fields fv }) (od := some oD) ⟨hx, rfl, rfl, hoD⟩ hcd hm ha ?_
  have whole : Looks (model prog w) hp (classData C) cd := looks_clsIn X hcd
  obtain ⟨c1, c2, c3, c4, c5, c6, c7, c8, c9, c10, c11⟩ := cd
  cases (show c6 = true from hd)
  unfold storeInOwnDict ownDictForStores
  repeat (first | with_reducible refine PySem.OEX.store_in_old hns hw hz ?_ | with_reducible refine wpAny_loadPart_at hx ?_ | with_reducible refine whole.at ?_ | wp_step)
  intro h2 tk2 ns same
  exact hq h2 tk2 (fun b o hb ho => (same.2 b hb).trans ho) ns
end
end VkX
end PySem
namespace Vk
open L2 PySem PySem.Spec PyProof.Rows PySem.VkX
/-- what the written part says of an own exception class over one of the four -/
structure OexK (K : PySem.W.Frag) (C : Addr) : Prop where
  cls : ∃ B newId initId tl nm q N bs sn sub ab col dd k0 k1 k2 k3 k5, ExB B newId initId tl ∧ K.lookup C = some (excClassObj nm q C N bs tl true sn sub ab col dd k0 k1 k2 k3 k5 newId)
  sa : PySem.W.findIn K (.ref C) "__setattr__" = some (some (.builtin "object.__setattr__"))
  kC : PySem.W.keepIn K (.ref C) = true
  xf : XfC K C
  ic : ExcC K C
section
variable {X : Cx} {pins : List (Addr × Obj)} {σ : L2.St} {H : Hp} {s : Shared} {a C dx : Addr} {f : Str} {y : V} {u : Value} {fs : List (Str × V)} {Q : Unit → Shared → Prop} {E : Value → Shared → Prop} {A : Around}
theorem kst_first (T : OexK X.K C) (I : Inv X pins σ H s) (e : H a = some (exo a C none)) (hno : PySem.W.findIn X.K (.ref C) f = some none) (ry : RelV y u)
    (h : ∀ dx s2, H dx = none → dx ≠ a → Inv X pins σ (upd (upd H dx (exd dx [(f, y)])) a (exo a C (some dx))) s2 → Q () s2) : wpAny (model X.prog X.w) A (setAttr (.ref a) f u) Q E s := by
  obtain ⟨B, newId, initId, tl, nm, q, N, bs, sn, sub, ab, col, dd, k0, k1, k2, k3, k5, hB, hC⟩ := T.cls
  have hcl : PySem.W.clsIn X.K C = some { name := nm, bases := bs, mro := .ref C :: tl, ns := N, qualname := q, hasDict := true, slotNames := sn, subclasses := sub, abstract := ab, collection := col, hasDel := false } := by unfold PySem.W.clsIn; rw [hC] <;> rfl
  obtain ⟨t1, ho⟩ := exo_at I.hok e
  obtain ⟨hp, g, d, t, os⟩ := s
  refine PySem.W.set_plain I.kIn (ox := { cls := .ref C, dict := none, data := .fields #[.ref t1, .none, .none, .none, .bool false, .none] }) (od := none) ⟨ho, rfl, rfl, trivial⟩ T.sa ?_
  refine osa_first hB I.kIn ho hcl rfl rfl hno fun h2 tk2 dx kept low apart put ns => ?_
  have free1 : H dx = none := I.hok.fresh low
  have old1 : ∀ {b : Addr} {o : Obj}, hp.get? b = some o → b ≠ dx := fun z => Nat.ne_of_lt (Nat.lt_of_lt_of_le (Heap.lt_size z) low)
  have not1 : ∀ {b : Addr}, H b = none → b ≠ a := fun n z => nomatch (z ▸ n).symm.trans e
  have un1 : Un X.fs [] H (upd (upd H dx (exd dx [(f, y)])) a (exo a C (some dx))) hp h2 := {
    keep := fun b o z n _ _ => kept b o (not1 n) z
    slot := fun b o z n _ _ => ⟨o.slots, kept b o (not1 n) z⟩
    free := fun b o z n _ => (upd_ne (not1 n)).trans ((upd_ne (old1 z)).trans n)
    there := fun b o z _ => by
      by_cases hb : b = a
      · exact ⟨_, hb ▸ put⟩
      · exact ⟨o, kept b o hb z⟩
    tups := fun b xs z => (upd_ne (at_ne e z exo_tup)).trans ((upd_ne (ne_of_none z free1)).trans z)
    frzs := fun b o v z => (upd_ne (at_ne e z exo_frz)).trans ((upd_ne (ne_of_none z free1)).trans z)
    tbls := fun b ps z => ⟨#[], by rw [upd_ne (at_ne e z exo_tbl), upd_ne (ne_of_none z free1), z]; simp⟩ }
  refine h dx _ free1 apart (I.un (t' := tk2) un1 fun b o z => ?_)
  by_cases hb : b = a
  · subst hb
    rw [upd_same] at z
    cases z
    exact exo_ok put
  · rw [upd_ne hb] at z
    by_cases hd : b = dx
    · subst hd
      rw [upd_same] at z
      cases z
      exact exd_ok ns (relO_put (fs := []) ry fun g => True.intro)
    · rw [upd_ne hd] at z
      refine (I.hok b o z).stay (fun c v hc r => kept c v ?_ r) (fun c hc => (upd_ne (at_ne e hc exo_own)).trans ((upd_ne (ne_of_none hc free1)).trans hc)) (fun c xs hc => (upd_ne (at_ne e hc exo_tup)).trans ((upd_ne (ne_of_none hc free1)).trans hc))
      exact hc.elim (fun z => z ▸ hb) (fun z => at_ne e z exo_own)
theorem kst_next (T : OexK X.K C) (I : Inv X pins σ H s) (e : H a = some (exo a C (some dx))) (ed : H dx = some (exd dx fs)) (hl : fs.length ≤ 900) (hno : PySem.W.findIn X.K (.ref C) f = some none) (ry : RelV y u)
    (h : ∀ s2, Inv X pins σ (upd H dx (exd dx ((f, y) :: fs))) s2 → Q () s2) : wpAny (model X.prog X.w) A (setAttr (.ref a) f u) Q E s := by
  obtain ⟨B, newId, initId, tl, nm, q, N, bs, sn, sub, ab, col, dd, k0, k1, k2, k3, k5, hB, hC⟩ := T.cls
  have hcl : PySem.W.clsIn X.K C = some { name := nm, bases := bs, mro := .ref C :: tl, ns := N, qualname := q, hasDict := true, slotNames := sn, subclasses := sub, abstract := ab, collection := col, hasDel := false } := by unfold PySem.W.clsIn; rw [hC] <;> rfl
  obtain ⟨t1, ho⟩ := exo_at I.hok e
  obtain ⟨mA, hns, rel⟩ := exd_at I.hok ed
  have hw := within_of rel
  obtain ⟨hp, g, d, t, os⟩ := s
  obtain ⟨oD, _, _, hoD, _, _⟩ := hns.count hw
  refine PySem.W.set_plain I.kIn (ox := { cls := .ref C, dict := some dx, data := .fields #[.ref t1, .none, .none, .none, .bool false, .none] }) (od := some oD) ⟨ho, rfl, rfl, hoD⟩ T.sa ?_
  refine osa_next hB I.kIn ho hns hw (by rw [List.length_map]; omega) hcl rfl rfl hno fun h2 tk2 kept ns => ?_
  exact h _ (I.write (t' := tk2) (x := dx) (e := dx) (o := exd dx ((f, y) :: fs)) (by rw [ed]; exact True.intro) (.inl rfl) kept (match ns with | ⟨o, _, _, z, _⟩ => ⟨o, z⟩) (exd_ok ns (relO_put ry rel)))
end
/-- self.f = e on such an exception -/
def tOsk (K : PySem.W.Frag) (f : Str) (to te : TE) : TS := fun D σ H => te σ H fun y H1 => to σ H1 fun x H2 => ∃ a C : Addr, x = .ref a ∧ OexK K C ∧ PySem.W.findIn K (.ref C) f = some none ∧
  ((H2 a = some (exo a C none) ∧ ∀ dx, H2 dx = none → dx ≠ a → D.nx σ (upd (upd H2 dx (exd dx [(f, y)])) a (exo a C (some dx)))) ∨
    ∃ (dx : Addr) (fs : List (Str × V)), H2 a = some (exo a C (some dx)) ∧ H2 dx = some (exd dx fs) ∧ fs.length ≤ 900 ∧ D.nx σ (upd H2 dx (exd dx ((f, y) :: fs))))
section
variable {X : Cx} {o e : Expr} {es : List Expr} {to te : TE} {ta : TA} {f : Str} {p p' p1 p2 pos : Pos}
theorem ps_osk (ho : PE X o to) (he : PE X e te) (hs : swapsWith e (some (.Attribute o f p')) pos.line X.env = pure false := by rfl) : PS X (.Assign [.Attribute o f p'] e pos) (tOsk X.K f to te) := by
  refine ⟨fun pins s σ H D I h => plainObj_wpAny_Assign_Attribute (thn (he.run pins s σ H _ I h) fun v s1 ⟨y, H1, I1, r1, q1⟩ => thn (ho.run pins s1 σ H1 _ I1 q1) fun u s2 ⟨x, H2, I2, r2, a, C, ex, T, hno, q⟩ => ?_) hs⟩
  subst ex
  obtain rfl : u = Value.ref a := r2
  exact q.elim (fun z => kst_first T I2 z.1 hno r1 fun dx s3 n ne J => ⟨σ, _, J, z.2 dx n ne⟩) (fun ⟨dx, fs, ea, ed, hl, z⟩ => kst_next T I2 ea ed hl hno r1 fun s3 J => ⟨σ, _, J, z⟩)
end
end Vk
set_option Elab.async false
set_option maxRecDepth 100000
set_option maxHeartbeats 4000000
set_option linter.all false
namespace Vk
open L2 PySem PySem.Spec PyProof.Rows PySem.VkX
/-! ## making one -/
/-- __init__(self, f1, ..): the fields stored in their order -/
def spIni (C : Addr) (fsn : List Str) : Sp := fun vs H Q E => ∃ a ws, vs = .ref a :: ws ∧ ws.length = fsn.length ∧ H a = some (exo a C none) ∧
  (fsn = [] → Q .non H) ∧ (fsn ≠ [] → ∀ d, H d = none → d ≠ a → Q .non (upd (upd H d (exd d (fsn.zip ws).reverse)) a (exo a C (some d))))
structure ClsI (P : Program) (w : World) (K : PySem.W.Frag) (mg : Str → Option Value) (base : Heap) (k : Nat) (x : Str) (C : Addr) (fsn : List Str) : Prop where
  T : OexK K C
  hm : mg x = some (.ref C)
  no : ∀ f ∈ fsn, PySem.W.findIn K (.ref C) f = some none
  ex : ∃ (fI : Addr) (fd : FuncData), PySem.W.findIn K (.ref C) "__init__" = some (some (.ref fI)) ∧ PySem.W.typeIn K (.ref fI) = some (.type "function") ∧ FnG P w K mg base CX0 k fI fd (("self" : Str) :: fsn) (spIni C fsn) ∧ Binds K fd (("self" : Str) :: fsn) [] ∧
    (∀ (s : Shared) (v : Value) (ws : List Value), K.In s.heap → ws.length = fsn.length → BindsTo s fd ⟨[v], fsn.reverse.zip ws⟩ ((("self" : Str) :: fsn).zip (v :: ws.reverse)))
/-- the exception that was made of H: at a, and its dict -/
def Made (C : Addr) (fsn : List Str) (vs : List V) (H : Hp) (Q : VK) : Prop := ∀ a, H a = none → (fsn = [] → Q (.ref a) (upd H a (exo a C none))) ∧
  (fsn ≠ [] → ∀ d, H d = none → d ≠ a → Q (.ref a) (upd (upd H d (exd d (fsn.zip vs).reverse)) a (exo a C (some d))))
theorem upd_over {H : Hp} {a d : Addr} {o1 o2 o3 : HO} (h : d ≠ a) : upd (upd (upd H a o1) d o2) a o3 = upd (upd H d o2) a o3 := by
  funext b
  by_cases hb : b = a
  · subst hb; rw [upd_same, upd_same]
  · rw [upd_ne hb, upd_ne hb]
    by_cases hd : b = d
    · subst hd; rw [upd_same, upd_same]
    · rw [upd_ne hd, upd_ne hd, upd_ne hb]
section
variable {X : Cx} {j k : Nat} {x : Str} {C : Addr} {fsn : List Str} {p pos : Pos} {e : Expr} {es : List Expr} {t : TA}
theorem few_len {n : Nat} (h : n ≤ 1000) : n ≤ sizeLine := Nat.le_trans h (by rw [sizeLine_eq]; decide)
theorem vals_back : ∀ {vs : List V} {ws : List Value}, Vals vs ws → Vals vs.reverse ws.reverse := fun r => vals_rev r
end
end Vk
set_option Elab.async false
set_option maxRecDepth 100000
set_option maxHeartbeats 4000000
set_option linter.all false
namespace Vk
open L2 PySem PySem.Spec PyProof.Rows PySem.VkX
/-- the j-th statement of a class -/
def mtd (st : Stmt) (j : Nat) : Stmt := match st with
  | .ClassDef _ _ _ b _ _ _ _ _ _ _ => b.getD j (.Pass ⟨0, 0, 0, 0⟩)
  | _ => .Pass ⟨0, 0, 0, 0⟩
theorem no1 {P : Str → Prop} {a : Str} (h : P a) : ∀ f ∈ ([a] : List Str), P f := fun f z => by
  rw [List.mem_singleton] at z
  exact z ▸ h
theorem no2 {P : Str → Prop} {a b : Str} (h : P a) (h2 : P b) : ∀ f ∈ ([a, b] : List Str), P f := fun f z => by
  rcases List.mem_cons.mp z with z | z
  · exact z ▸ h
  · rw [List.mem_singleton] at z
    exact z ▸ h2
/-- the class at C has the name x and these classes behind it -/
def ClsN (K : PySem.W.Frag) (C : Addr) (x : Str) (tl : List Value) : Prop := ∃ newId q N bs sn sub ab col dd k0 k1 k2 k3 k5, K.lookup C = some (excClassObj x q C N bs tl true sn sub ab col dd k0 k1 k2 k3 k5 newId)
structure ExcTxt (K : PySem.W.Frag) (x qual : Str) (st : Stmt) (C fI : Addr) (fd : FuncData) (fsn : List Str) (tl : List Value) : Prop where
  cn : ClsN K C x tl
  ns : PySem.W.nsIn K mainGlobals x = some (some (.ref C))
  T : OexK K C
  iC : PySem.W.findIn K (.ref C) "__init__" = some (some (.ref fI))
  tI : PySem.W.typeIn K (.ref fI) = some (.type "function")
  no : ∀ f ∈ fsn, PySem.W.findIn K (.ref C) f = some none
  fn : Fun K "__init__" qual st fI fd
theorem exc_mk {K : PySem.W.Frag} {x qual : Str} {st : Stmt} {C fI : Addr} {fsn : List Str} {B newId initId : String} {tl : List Value} {q : Str} {N : Addr} {bs : List Value} {sn : List Str} {sub : List Value} {ab : Bool} {col : Option Bool} {dd : Option Addr} {k0 k1 k2 k3 k5 : Option Value}
    {oc : Value} {od an : Option Addr} {sl : Array (Option Value)} {kV doc pm cd ct : Value} (hB : ExB B newId initId tl) (ns : PySem.W.nsIn K mainGlobals x = some (some (.ref C))) (iC : PySem.W.findIn K (.ref C) "__init__" = some (some (.ref fI)))
    (cls : K.lookup C = some (excClassObj x q C N bs tl true sn sub ab col dd k0 k1 k2 k3 k5 newId)) (sa : PySem.W.findIn K (.ref C) "__setattr__" = some (some (.builtin "object.__setattr__"))) (kC : PySem.W.keepIn K (.ref C) = true)
    (ga : PySem.W.findIn K (.ref C) "__getattribute__" = some (some (.builtin "BaseException.__getattribute__"))) (gg : PySem.W.findIn K (.ref C) "__getattr__" = some none) (ex : PySem.W.subIn K (.ref C) (.type "BaseException") = some true) (hd : PySem.W.hasDictIn K C = true)
    (ha : PySem.W.findIn K (.ref C) "__class__" = some (some (.builtin "object.__class__"))) (hn : PySem.W.specialIn K (.builtin "object.__class__") "__get__" = some (some (.builtin "getset_descriptor.__get__"))) (ht : PySem.W.takesIn K (.builtin "object.__class__") = some true)
    (hm : PySem.W.mroIn K C (.type "object") = some true) (tI : PySem.W.typeIn K (.ref fI) = some (.type "function")) (kI : PySem.W.keepIn K (.ref fI) = true) (no : ∀ f ∈ fsn, PySem.W.findIn K (.ref C) f = some none)
    (l : K.lookup fI = some ⟨oc, od, .func (PySem.W.fnOf "__init__" qual (defArgs st) (defBody st) (defScope st) .none kV doc pm an cd ct), sl⟩) (c : PySem.W.codeIn K cd qual = true) :
    ExcTxt K x qual st C fI (PySem.W.fnOf "__init__" qual (defArgs st) (defBody st) (defScope st) .none kV doc pm an cd ct) fsn tl := by
  exact ⟨⟨newId, q, N, bs, sn, sub, ab, col, dd, k0, k1, k2, k3, k5, cls⟩, ns, ⟨⟨B, newId, initId, tl, x, q, N, bs, sn, sub, ab, col, dd, k0, k1, k2, k3, k5, hB, cls⟩, sa, kC, ⟨ga, gg, ex, hd⟩, ⟨ga, gg, ex, hd, ha, hn, ht, hm⟩⟩, iC, tI, no, fun_mk l c kI⟩
section
variable {P : Program} {w : World} {K : PySem.W.Frag} {mg : Str → Option Value} {base h : Heap} {x qual f f2 : Str} {st : Stmt} {C fI : Addr} {fd : FuncData} {p1 p2 p3 p4 q1 q2 q3 q4 : Pos}
theorem ClsI.of1 {tl : List Value} (G : ExcTxt K x qual st C fI fd [f] tl) (KX : K.In h) (Gn : h.Ns mainGlobals mg) (F : FnG P w K mg base CX0 1 fI fd [("self" : Str), f] (spIni C [f]))
    (hb : ∀ (kV doc pm : Value) (an : Option Addr) (cdv ct v y : Value), bindArgs (PySem.W.fnOf "__init__" qual (defArgs st) (defBody st) (defScope st) .none kV doc pm an cdv ct) ⟨[v, y], []⟩ = pure [(("self" : Str), v), (f, y)])
    (hk : ∀ (kV doc pm : Value) (an : Option Addr) (cdv ct v y : Value), bindArgs (PySem.W.fnOf "__init__" qual (defArgs st) (defBody st) (defScope st) .none kV doc pm an cdv ct) ⟨[v], [((f : Str), y)]⟩ = pure [(("self" : Str), v), (f, y)]) : ClsI P w K mg base 1 x C [f] where
  T := G.T
  hm := PySem.W.mg_of KX Gn G.ns
  no := G.no
  ex := ⟨fI, fd, G.iC, G.tI, F, G.fn.binds fun kV doc pm an cdv ct us hl => match us, hl with | [v, y], _ => hb kV doc pm an cdv ct v y, fun s v ws KI hl => by
    match ws, hl with
    | [y], _ =>
      obtain ⟨oc, od, kV, doc, pm, an, cdv, ct, osl, rfl, lk, hcd⟩ := G.fn.ex
      exact .of_eq (hk kV doc pm an cdv ct v y)⟩
theorem ClsI.of2 {tl : List Value} (G : ExcTxt K x qual st C fI fd [f, f2] tl) (KX : K.In h) (Gn : h.Ns mainGlobals mg) (F : FnG P w K mg base CX0 1 fI fd [("self" : Str), f, f2] (spIni C [f, f2]))
    (hb : ∀ (kV doc pm : Value) (an : Option Addr) (cdv ct v y z : Value), bindArgs (PySem.W.fnOf "__init__" qual (defArgs st) (defBody st) (defScope st) .none kV doc pm an cdv ct) ⟨[v, y, z], []⟩ = pure [(("self" : Str), v), (f, y), (f2, z)])
    (hk : ∀ (kV doc pm : Value) (an : Option Addr) (cdv ct v y z : Value), bindArgs (PySem.W.fnOf "__init__" qual (defArgs st) (defBody st) (defScope st) .none kV doc pm an cdv ct) ⟨[v], [(f2, z), (f, y)]⟩ = pure [(("self" : Str), v), (f, y), (f2, z)]) : ClsI P w K mg base 1 x C [f, f2] where
  T := G.T
  hm := PySem.W.mg_of KX Gn G.ns
  no := G.no
  ex := ⟨fI, fd, G.iC, G.tI, F, G.fn.binds fun kV doc pm an cdv ct us hl => match us, hl with | [v, y, z], _ => hb kV doc pm an cdv ct v y z, fun s v ws KI hl => by
    match ws, hl with
    | [z, y], _ =>
      obtain ⟨oc, od, kV, doc, pm, an, cdv, ct, osl, rfl, lk, hcd⟩ := G.fn.ex
      exact .of_eq (hk kV doc pm an cdv ct v y z)⟩
end
end Vk
namespace Vk
open L2 PySem PySem.Spec PyProof.Rows PySem.VkX
theorem two_upd {H : Hp} {a d : Addr} {o1 o2 o3 : HO} (h : d ≠ a) : upd (upd (upd H d o1) a o2) d o3 = upd (upd H d o3) a o2 := by
  funext b
  by_cases hb : b = d
  · subst hb; rw [upd_same, upd_ne h, upd_same]
  · rw [upd_ne hb]
    by_cases ha : b = a
    · subst ha; rw [upd_same, upd_same]
    · rw [upd_ne ha, upd_ne ha, upd_ne hb, upd_ne hb]
end Vk
set_option Elab.async false
set_option maxRecDepth 100000
set_option maxHeartbeats 4000000
set_option linter.all false
namespace Vk
open L2 PySem PySem.Spec PyProof.Rows PySem.VkX
/-! ## values that are shown, dicts among them -/
inductive Atm : V → PyData → Prop
  | non : Atm .non .none
  | bl (b : Bool) : Atm (.bl b) (.bool b)
  | int (i : Int) : Atm (.int i) (.int i)
  | str (x : Str) : Atm (.str x) (.str x)
def kvS (ps : List (Str × Str)) : List (Key × V) := ps.map fun p => (Sum.inr p.1, V.str p.2)
def kvD (ps : List (Str × Str)) : List (PyData × PyData) := ps.map fun p => (.str p.1, .str p.2)
/-- one level deep -/
inductive Th (H : Hp) : V → PyData → Prop
  | atm {v : V} {d : PyData} : Atm v d → Th H v d
  | lst {a : Addr} {xs : List V} {ds : List PyData} : H a = some (.lst xs) → a ≠ sysModules → Paired Atm xs ds → Th H (.ref a) (.list ds)
  | tup {a : Addr} {xs : List V} {ds : List PyData} : H a = some (.tup xs) → Paired Atm xs ds → Th H (.ref a) (.tuple ds)
  | dct {a : Addr} {ps : List (Str × Str)} : H a = some (.dK (kvS ps)) → Th H (.ref a) (.dict (kvD ps))
theorem Th.keep {H H' : Hp} {v : V} {d : PyData} (h : Th H v d) (k : ∀ a o, H a = some o → H' a = some o) : Th H' v d := by
  cases h with
  | atm h => exact .atm h
  | lst e n h => exact .lst (k _ _ e) n h
  | tup e h => exact .tup (k _ _ e) h
  | dct e => exact .dct (k _ _ e)
section
variable {X : Cx} {pins : List (Addr × Obj)} {σ : L2.St} {H : Hp} {s : Shared}
theorem Atm.reads {h : Heap} {v : V} {u : Value} {d : PyData} (a : Atm v d) (r : RelV v u) : Reads h u d [] ∧ d.hasDict = false := by
  cases a with
  | non => cases r; exact ⟨Reads.none, by simp only [PyData.hasDict]⟩
  | bl b => cases r; exact ⟨Reads.bool b, by simp only [PyData.hasDict]⟩
  | int i => obtain ⟨t, rfl⟩ := r; exact ⟨Reads.int i t, by simp only [PyData.hasDict]⟩
  | str x => obtain ⟨t, rfl⟩ := r; exact ⟨Reads.str x t, by simp only [PyData.hasDict]⟩
theorem atms_reads {h : Heap} : ∀ {vs : List V} {ds : List PyData} {us : List Value}, Paired Atm vs ds → Vals vs us → ReadsAll h us ds [] ∧ PyData.hasDictAll ds = false
  | _, _, _, .nil, .nil => ⟨ReadsAll.nil, by simp only [PyData.hasDictAll]⟩
  | _, _, _, .cons a t, .cons r rs => by
    obtain ⟨h1, n1⟩ := a.reads (h := h) r
    obtain ⟨h2, n2⟩ := atms_reads (h := h) t rs
    exact ⟨ReadsAll.cons h1 h2, by simp only [PyData.hasDictAll, n1, n2, Bool.or_false]⟩
theorem strs_read {P : Program} {w : World} {h : Heap} : ∀ {ps : List (Str × Str)} {vs : List (Key × Value)} {es : List DictEntry}, KV (kvS ps) vs → Pairs (mixKind P w) es vs →
    ReadsAll h (es.map (·.key)) ((kvD ps).map (·.1)) [] ∧ ReadsAll h (es.map (·.val)) ((kvD ps).map (·.2)) []
  | [], _, _, .nil, .nil => ⟨ReadsAll.nil, ReadsAll.nil⟩
  | p :: ps, _, _, .cons a t, .cons k v r => by
    obtain ⟨h1, h2⟩ := strs_read (P := P) (w := w) (h := h) (ps := ps) t r
    obtain ⟨e1, e2⟩ := a
    rw [mixKind_is, ← e1] at k
    obtain ⟨y, ey⟩ := (show ∃ y, _ = Value.str p.2 y from e2)
    rcases keyIs_shape k with ⟨i, t, z, _⟩ | ⟨x, t, z, z2⟩
    · cases z
    · cases z
      refine ⟨?_, ?_⟩
      · have q := ReadsAll.cons (Reads.str (h := h) p.1 t) h1
        rw [← z2] at q
        exact q
      · have q := ReadsAll.cons (Reads.str (h := h) p.2 y) h2
        rw [← ey, ← v] at q
        exact q
theorem Th.reads (I : Inv X pins σ H s) {v : V} {u : Value} {d : PyData} (h : Th H v d) (r : RelV v u) : ∃ as, Reads s.heap u d as ∧ sysModules ∉ as := by
  cases h with
  | atm a =>
    obtain ⟨h1, n⟩ := a.reads (h := s.heap) r
    exact ⟨_, h1, List.not_mem_nil⟩
  | lst e ne a =>
    cases r
    obtain ⟨its, rv, ⟨o, n, ho, hc, _, hd⟩, _⟩ := I.list (SqL.of e)
    obtain ⟨h1, n1⟩ := atms_reads (h := s.heap) a rv
    exact ⟨_, Reads.list ho hc hd h1, fun z => by simp at z; exact ne z.symm⟩
  | tup e a =>
    cases r
    obtain ⟨its, rv, ⟨o, ho, hc, n, hd⟩, _⟩ := I.tuple (SqT.of e)
    obtain ⟨h1, n1⟩ := atms_reads (h := s.heap) a rv
    exact ⟨_, Reads.tuple ho hc hd h1, List.not_mem_nil⟩
  | @dct a ps e =>
    cases r
    obtain ⟨_, ne, vs, kv, o, es, ep, ho, ex, hd, _, pr, _⟩ := (show ObjOk X.prog X.w H s.heap a (.dK (kvS ps)) from I.hok a _ e)
    obtain ⟨h1, h2⟩ := strs_read (h := s.heap) kv pr
    refine ⟨_, Reads.dict ho ex.1 hd h1 h2, fun hm => ?_⟩
    have z : sysModules = a := by simpa using hm
    rw [← z] at ne
    exact absurd ne (by decide)
/-- what is handed to repr -/
def Shw (H : Hp) (x : V) (d : PyData) : Prop := Th H x d ∨ ∃ q y e, x = .ref q ∧ H q = some (.lst [y, y]) ∧ q ≠ sysModules ∧ Th H y e ∧ d = .list [e, e]
theorem Shw.reads (I : Inv X pins σ H s) {v : V} {u : Value} {d : PyData} (h : Shw H v d) (r : RelV v u) : ∃ as, Reads s.heap u d as ∧ (d.hasDict = true → sysModules ∉ as) := by
  rcases h with h | ⟨q, y, d, rfl, e, ne, t, rfl⟩
  · obtain ⟨as, h1, n1⟩ := h.reads I r
    exact ⟨as, h1, fun _ => n1⟩
  · cases r
    obtain ⟨its, rv, ⟨o, n, ho, hc, _, hd⟩, _⟩ := I.list (SqL.of e)
    cases rv with
    | cons r1 rv =>
      cases rv with
      | cons r2 rv =>
        cases rv
        obtain ⟨as, h1, n1⟩ := t.reads I r1
        obtain ⟨bs, h2, n2⟩ := t.reads I r2
        refine ⟨_, Reads.list ho hc hd (ReadsAll.cons h1 (ReadsAll.cons h2 ReadsAll.nil)), fun z => ?_⟩
        simp only [PyData.hasDict, PyData.hasDictAll, Bool.or_false, Bool.or_self] at z
        have m1 := n1
        have m2 := n2
        simp only [List.append_nil, List.mem_cons, List.mem_append, not_or]
        exact ⟨fun w => ne w.symm, m1, m2⟩
end
section
variable {X : Cx} {es : List Expr} {pos : Pos} {t : TA}
end
end Vk
set_option Elab.async false
set_option maxRecDepth 100000
set_option maxHeartbeats 4000000
set_option linter.all false
namespace Vk
open L2 PySem PySem.Spec PyProof.Rows PySem.VkX
/-! ## isinstance among own exception classes -/
section
variable {K : PySem.W.Frag} {C D : Addr} {x y : Str} {tl tl2 : List Value}
theorem ClsN.cls (c : ClsN K C x tl) : ∃ cd, PySem.W.clsIn K C = some cd ∧ cd.name = x ∧ cd.mro = .ref C :: tl ∧ PySem.W.typeIn K (.ref C) = some (.type "type") := by
  obtain ⟨newId, q, N, bs, sn, sub, ab, col, dd, k0, k1, k2, k3, k5, e⟩ := c
  refine ⟨{ name := x, bases := bs, mro := .ref C :: tl, ns := N, qualname := q, hasDict := true, slotNames := sn, subclasses := sub, abstract := ab, collection := col, hasDel := false }, ?_, rfl, rfl, ?_⟩
  · unfold PySem.W.clsIn; rw [e] <;> rfl
  · show (K.lookup C).map (·.cls) = _
    rw [e] <;> rfl
theorem ClsN.inj (c : ClsN K C x tl) (d : ClsN K D y tl2) : (C == D) = true → x = y := by
  intro h
  have e : C = D := by simpa using h
  subst e
  obtain ⟨cd, h1, h2, _⟩ := c.cls
  obtain ⟨ce, g1, g2, _⟩ := d.cls
  cases h1.symm.trans g1
  exact h2.symm.trans g2
/-- what stands at a name is one class -/
structure One (K : PySem.W.Frag) (C : Addr) (x : Str) (tl : List Value) : Prop where
  cn : ClsN K C x tl
  ns : PySem.W.nsIn K mainGlobals x = some (some (.ref C))
  rf : tl.all (fun v => match v with | .type _ => true | _ => false) = true
theorem notIn_types {l : List Value} (h : l.all (fun v => match v with | .type _ => true | _ => false) = true) : l.contains (.ref D) = false := by
  induction l with
  | nil => rfl
  | cons a r ih =>
    rw [List.all_cons, Bool.and_eq_true] at h
    rw [List.contains_cons, ih h.2, Bool.or_false]
    cases a <;> first | rfl | (exact absurd h.1 (by simp)) | simp
theorem kit_type {T : String} (c : One K C x tl) (hT : PySem.W.kitMeta T = true) : PySem.W.kitOne K (.ref C) (.type T) = some (tl.contains (.type T)) := by
  obtain ⟨cd, h1, h2, h3, h4⟩ := c.cn.cls
  unfold PySem.W.kitOne
  have far : ¬ ((Value.ref C == Value.type T) = true) := fun z => nomatch (beq_iff_eq.mp z)
  rw [if_neg far]
  show (if PySem.W.kitMeta T = true then PySem.W.subIn K (.ref C) (.type T) else none) = _
  rw [if_pos hT]
  show PySem.W.mroIn K C (.type T) = _
  unfold PySem.W.mroIn
  rw [h1, Option.bind_some, h3, if_neg (by simp), List.contains_cons]
  have ne : (Value.type T == Value.ref C) = false := beq_eq_false_iff_ne.mpr (fun z => nomatch z)
  rw [ne, Bool.false_or]
end
/-! ## list.count -/
/-! ## a comprehension over zip of two lists of one length -/
end Vk
set_option Elab.async false
set_option maxRecDepth 100000
set_option maxHeartbeats 4000000
set_option linter.all false
namespace Vk
open L2 PySem PySem.Spec PyProof.Rows PySem.VkX
/-! ## what is laid, told by what it shows -/
theorem Same.rfl {H : Hp} : Same H H := fun _ _ h => h
theorem Same.trans {H H1 H2 : Hp} (a : Same H H1) (b : Same H1 H2) : Same H H2 := fun c o h => b c o (a c o h)
def Mk (t : TE) (d : PyData) : Prop := ∀ σ H Q, (∀ v H', Same H H' → Th H' v d → Q v H') → t σ H Q
section
variable {t te : TE} {ta : TA} {d : PyData} {ds : List PyData}
theorem paired_len {α β : Type} {R : α → β → Prop} : ∀ {xs : List α} {ys : List β}, Paired R xs ys → xs.length = ys.length
  | _, _, .nil => rfl
  | _, _, .cons _ t => congrArg (· + 1) (paired_len t)
theorem ths_keep {H H' : Hp} (k : Same H H') : ∀ {vs : List V} {ds : List PyData}, Paired (Th H) vs ds → Paired (Th H') vs ds
  | _, _, .nil => .nil
  | _, _, .cons a t => .cons (a.keep k) (ths_keep k t)
theorem paired_app {α β : Type} {R : α → β → Prop} : ∀ {xs : List α} {ys : List β} {us : List α} {vs : List β}, Paired R xs ys → Paired R us vs → Paired R (xs ++ us) (ys ++ vs)
  | _, _, _, _, .nil, b => b
  | _, _, _, _, .cons a t, b => .cons a (paired_app t b)
theorem paired_mem {α β : Type} {R : α → β → Prop} : ∀ {xs : List α} {ys : List β} {x : α}, Paired R xs ys → x ∈ xs → ∃ y, y ∈ ys ∧ R x y
  | _, _, _, .cons a t, h => by
    rcases List.mem_cons.mp h with rfl | h
    · exact ⟨_, List.mem_cons_self, a⟩
    · obtain ⟨y, h1, h2⟩ := paired_mem t h
      exact ⟨y, List.mem_cons_of_mem _ h1, h2⟩
end
/-- nothing of such a value is the pen -/
theorem Th.ext {H H' : Hp} {p c : Addr} {T : Nat} {v : V} {d : PyData} (h : Th H v d) (hp : Pen H p c T) (x : Ext p H H') : Th H' v d := by
  obtain ⟨ns, t, l, hpp, _⟩ := hp.ex
  cases h with
  | atm a => exact .atm a
  | lst e n a => exact .lst (x _ _ e (fun z => by rw [z, hpp] at e; cases e)) n a
  | tup e a => exact .tup (x _ _ e (fun z => by rw [z, hpp] at e; cases e)) a
  | @dct a ps e =>
    refine .dct (x _ _ e (fun z => ?_))
    rw [z, hpp] at e
    have e2 : penL c t l = kvS ps := HO.dK.inj (Option.some.inj e)
    match ps, e2 with
    | [], e2 => cases e2
    | q :: r, e2 =>
      have z := congrArg (fun l => (l.head?).map (·.2)) e2
      cases z
end Vk
namespace Vk
open L2 PySem PySem.Spec PyProof.Rows PySem.VkX
theorem seq_asg {te : TE} {g : TG} {u : TS} {D : Ends} {σ : L2.St} {H : Hp} (h : te σ H fun v H1 => g v σ H1 (u D)) : tSeq (tAsg te g) u D σ H := h
end Vk
namespace Vk
open L2 PySem PySem.Spec PyProof.Rows PySem.VkX
end Vk
set_option Elab.async false
set_option maxRecDepth 100000
set_option maxHeartbeats 4000000
set_option linter.all false
namespace Vk
open L2 PySem PySem.Spec PyProof.Rows PySem.VkX
/-! ## several except clauses, with a name or without -/
abbrev Sui := Addr → Value → Option Addr → TS
inductive Clz
  | only (c : Value) (ts : Sui)
  | named (c : Value) (i : Nat) (ts : Sui)
/-- the ends of a suite whose name lies in slot i: the name is gone behind it -/
def gone (D : Ends) (i : Nat) : Ends := { nx := fun σ H => D.nx (σ.set i none) H, rt := D.rt, bk := fun σ H => D.bk (σ.set i none) H, ct := fun σ H => D.ct (σ.set i none) H }
def wEach (K : PySem.W.Frag) (W0 : WX) (D : Ends) : List Clz → WX
  | [] => W0
  | .only c ts :: r => fun cls d σ H => ∃ b, PySem.W.exmOne K cls c = some b ∧ (b = true → ∀ a, H a = none → ts a cls d D σ H) ∧ (b = false → wEach K W0 D r cls d σ H)
  | .named c i ts :: r => fun cls d σ H => ∃ b, PySem.W.exmOne K cls c = some b ∧ (b = true → ∀ a, H a = none → ts a cls d (gone D i) (σ.set i (some (.ref a))) H) ∧ (b = false → wEach K W0 D r cls d σ H)
def SuiOk (X : Cx) (ss : List Stmt) (ts : Sui) : Prop := ∀ (a : Addr) (oe : Obj) (cls : Value) (d : Option Addr) (pn : List (Addr × Obj)), Zc cls d oe → (∃ vs, oe.data = .fields vs) → PSs (X.suite a ((a, oe) :: pn)) ss (ts a cls d)
inductive ClzOk (X : Cx) : List ExceptHandler → List Clz → Prop
  | nil : ClzOk X [] []
  | only {x : Str} {c : Value} {ts : Sui} {s0 : Stmt} {ss : List Stmt} {p1 p2 : Pos} {hs : List ExceptHandler} {l : List Clz} (hc : Names X x c) (su : SuiOk X (s0 :: ss) ts) (r : ClzOk X hs l) : ClzOk X (.ExceptHandler (some (.Name x p1)) none (s0 :: ss) p2 :: hs) (.only c ts :: l)
  | named {x n : Str} {c : Value} {i : Nat} {ts : Sui} {s0 : Stmt} {ss : List Stmt} {p1 p2 : Pos} {hs : List ExceptHandler} {l : List Clz} (hi : X.N[i]? = some n) (hl : X.env.kindOf n = some .local) (hc : Names X x c) (su : SuiOk X (s0 :: ss) ts) (r : ClzOk X hs l) :
      ClzOk X (.ExceptHandler (some (.Name x p1)) (some n) (s0 :: ss) p2 :: hs) (.named c i ts :: l)
section
variable {X : Cx} {body : List Stmt} {e0 : ExceptHandler} {es : List ExceptHandler} {l : List Clz} {pos : Pos} {tb : WX → TS} {W0 : WX}
theorem ps_try_each (hs : X.stack = X.env :: X.outer) (hf : X.env.frame = some X.env.locals) (hN : X.N.Nodup) (tk : Takes X W0)
    (hb : ∀ (W : WX) (pn : List (Addr × Obj)) (xe : Value → Shared → Prop), Takes (X.tr pn xe) W → PassesOwn (model X.prog X.w) X.A X.env xe → PSs (X.tr pn xe) body (tb W))
    (hh : ClzOk X (e0 :: es) l) : PS X (.Try body (e0 :: es) [] [] pos) (fun D σ H => tb (wEach X.K W0 D l) D σ H) := by
  constructor
  intro pins s σ H D I h
  have fine := I.ok
  have frames : X.A.frames = some (X.env :: X.outer) := fine.frames.trans (by rw [hs])
  let caught : Value → Shared → Prop := fun e t1 => wpAny (model X.prog X.w) X.A (noteFrame e X.env) (fun _ t2 => wpAny (model X.prog X.w) X.A (setFlight e none) (fun _ t3 => wpAny (model X.prog X.w) X.A (handleBy e X.env (e0 :: es)) (SP X pins D) X.xe t3) X.xe t2) X.xe t1
  have taken : Takes (X.tr (X.pn ++ pins) caught) (wEach X.K W0 D l) := by
    rintro u t1 ⟨a, B, sI, pins1, σ1, H1, cls, d, rfl, J0, ground, up, sky, na, os, ag, wish⟩
    have J : Inv X pins σ1 H1 sI := J0.ofTry fine
    have sky1 : Sky B (X.env :: X.outer) a (Zc cls d) X.env.locals t1.heap := hs ▸ sky
    show wpAny (model X.prog X.w) X.A (noteFrame (.ref a) X.env) _ _ _
    refine Sky.land Zc.steady frames hf sky1 fun h3 fl3 up3 => ?_
    have J3 : Inv X pins σ1 H1 { t1 with heap := h3 } := J.landed ground fl3.1 (up.trans up3) os ag
    obtain ⟨o3, v3, at3, z3, dat3⟩ := fl3.there
    have apart : a ∉ frs (X.env :: X.outer) := by
      intro hm
      obtain ⟨_, o, eo, plain⟩ := fl3.2.2.1.mem hm
      rw [at3] at eo
      cases eo
      exact plain _ dat3
    have notLoc : a ≠ X.env.locals := fun z => apart (List.mem_filterMap.mpr ⟨X.env, List.mem_cons_self, hf.trans (congrArg some z.symm)⟩)
    have notFs : a ∉ X.fs := fun hm => match List.mem_filterMap.mp hm with | ⟨e, he, q⟩ => apart (List.mem_filterMap.mpr ⟨e, List.mem_cons_of_mem _ he, q⟩)
    have S3 := J3.suite at3 dat3 na notLoc notFs
    have typed : PySem.W.Looks (model X.prog X.w) h3 (typeOf (.ref a)) cls := fun A Q E s k q => wpAny_typeOf_ref (k _ _ at3) (z3.1.symm ▸ q)
    have asked : ∀ {x : Str} {c : Value} {p1 : Pos} {Q : Value → Shared → Prop} {E : Value → Shared → Prop}, Names X x c → Q c { t1 with heap := h3 } → wpAny (model X.prog X.w) (X.A.mark (some (.ref a))) (eval (.Name x p1) X.env) Q E { t1 with heap := h3 } := by
      rintro x c p1 Q E ⟨g1, g2, g3⟩ q
      rcases g3 with g3 | ⟨g3, g4, g5⟩
      · exact ld_glob (X := X.suite a ((a, o3) :: (X.pn ++ pins))) S3 g1 g3 q g2
      · exact ld_blt (X := X.suite a ((a, o3) :: (X.pn ++ pins))) S3 g1 g3 g4 q g5 g2
    have walk : ∀ {hs1 : List ExceptHandler} {l1 : List Clz}, ClzOk X hs1 l1 → wEach X.K W0 D l1 cls d σ1 H1 → wpAny (model X.prog X.w) X.A (handleBy (.ref a) X.env hs1) (SP X pins D) X.xe { t1 with heap := h3 } := by
      intro hs1 l1 ok1
      induction ok1 with
      | nil =>
        intro w
        refine wpAny_handleBy_nil ?_
        obtain ⟨_, _, _, oe, vs, tr, _, _, he, _, hd, first1, _⟩ := id fl3
        unfold PySem.passOn
        refine wpAny_bind (wpAny_field he hd first1 ?_)
        rw [if_neg (show ¬ ((Value.ref tr == Value.none) = true) from by simp)]
        have out : wpAny (model X.prog X.w) X.A (setFlight (.ref a) X.env.frame) (fun _ t4 => wpAny (model X.prog X.w) X.A (throw (.ref a) : Sem Flow) (SP X pins D) X.xe t4) X.xe { t1 with heap := h3 } := by
          rw [hf]
          exact HandSPX.setFlight_upZ fl3 fun h4 held up4 => wpAny_throw (tk _ _ ⟨a, B, sI, pins, σ1, H1, cls, d, rfl, J, ground, (up.trans up3).trans up4, .inr (.inr (hs.symm ▸ held)), na, os, ag, w⟩)
        first
          | exact wpAny_bind (wpAny_pure (wpAny_bind out))
          | exact wpAny_bind out
      | only hc su r ih =>
        rintro ⟨b, m, yes, no⟩
        refine wpAny_handleBy_cons (codeAny_handlers_test (asked hc ((PySem.W.exm_one (M := model X.prog X.w) J3.kIn typed m).here ?_))) (by intro q; cases q)
        cases b with
        | false => exact ih (no rfl)
        | true =>
          refine codeAny_handlers_suite (HandSPX.lands_againZ fl3 fun h4 fl4 up4 => ?_)
          have J4 : Inv X pins σ1 H1 { t1 with heap := h4 } := J.landed ground fl4.1 ((up.trans up3).trans up4) os ag
          obtain ⟨o4, v4, at4, z4, dat4⟩ := fl4.there
          have S4 := J4.suite at4 dat4 na notLoc notFs
          refine wpAny_mono ((su a o4 cls d (X.pn ++ pins) z4 ⟨_, dat4⟩).run [] _ _ H1 _ S4 (yes rfl a na)) (fun f t6 sp => ?_) (fun _ _ z => z.elim)
          match f, sp with
          | .next, ⟨σ6, H6, S6, q6⟩ => exact ⟨_, _, S6.unsuite fine, q6⟩
          | .brk, ⟨σ6, H6, S6, q6⟩ => exact ⟨_, _, S6.unsuite fine, q6⟩
          | .cont, ⟨σ6, H6, S6, q6⟩ => exact ⟨_, _, S6.unsuite fine, q6⟩
          | .ret u, ⟨v6, σ6, H6, S6, r6, q6⟩ => exact ⟨_, _, _, S6.unsuite fine, r6, q6⟩
      | @named x n c i ts s0 ss p1 p2 hs2 l2 hi hl hc su r ih =>
        rintro ⟨b, m, yes, no⟩
        refine wpAny_handleBy_cons (codeAny_handlers_test (asked hc ((PySem.W.exm_one (M := model X.prog X.w) J3.kIn typed m).here ?_))) (by intro q; cases q)
        cases b with
        | false => exact ih (no rfl)
        | true =>
          refine codeAny_handlers_suite_as (HandSPX.lands_againZ fl3 fun h4 fl4 up4 => ?_)
          have J4 : Inv X pins σ1 H1 { t1 with heap := h4 } := J.landed ground fl4.1 ((up.trans up3).trans up4) os ag
          obtain ⟨o4, v4, at4, z4, dat4⟩ := fl4.there
          have S4 := J4.suite at4 dat4 na notLoc notFs
          refine store_ok (X := X.suite a ((a, o4) :: (X.pn ++ pins))) (v := .ref a) S4 hN hi (.inl hl) rfl (fun t5 S5 => ?_) (.inr hl)
          refine wpAny_mono ((su a o4 cls d (X.pn ++ pins) z4 ⟨_, dat4⟩).run [] t5 _ H1 _ S5 (yes rfl a na)) (fun f t6 sp => ?_) (fun _ _ z => z.elim)
          have drop1 : ∀ {σ6 : L2.St} {H6 : Hp} {Q : Shared → Prop}, Inv (X.suite a ((a, o4) :: (X.pn ++ pins))) [] σ6 H6 t6 → (∀ t7, Inv X pins (σ6.set i none) H6 t7 → Q t7) → wpAny (model X.prog X.w) X.A (do bindName X.env n .none; unbindBehindTheSuite X.env n p2) (fun _ t7 => Q t7) X.xe t6 := fun S6 hq => gone_ok (S6.unsuite fine) hN hi hl hq
          match f, sp with
          | .next, ⟨σ6, H6, S6, q6⟩ => exact drop1 S6 fun t7 J7 => ⟨_, _, J7, q6⟩
          | .brk, ⟨σ6, H6, S6, q6⟩ => exact drop1 S6 fun t7 J7 => ⟨_, _, J7, q6⟩
          | .cont, ⟨σ6, H6, S6, q6⟩ => exact drop1 S6 fun t7 J7 => ⟨_, _, J7, q6⟩
          | .ret u, ⟨v6, σ6, H6, S6, r6, q6⟩ => exact drop1 S6 fun t7 J7 => ⟨_, _, _, J7, r6, q6⟩
    exact walk hh wish
  refine wpAny_Try_except (wpAny_mono ((hb (wEach X.K W0 D l) (X.pn ++ pins) caught taken PassesOwn.looking).run [] s σ H D (I.toTry _) h) (fun f t1 sp => ?_) (fun e t1 he => he))
  match f, sp with
  | .next, ⟨σ1, H1, J, q⟩ => exact wpAny_execs_nil ⟨σ1, H1, J.ofTry fine, q⟩
  | .brk, ⟨σ1, H1, J, q⟩ => exact ⟨σ1, H1, J.ofTry fine, q⟩
  | .cont, ⟨σ1, H1, J, q⟩ => exact ⟨σ1, H1, J.ofTry fine, q⟩
  | .ret u, ⟨v, σ1, H1, J, r, q⟩ => exact ⟨v, σ1, H1, J.ofTry fine, r, q⟩
end
end Vk
set_option Elab.async false
set_option maxRecDepth 100000
set_option maxHeartbeats 4000000
set_option linter.all false
namespace Vk
open L2 PySem PySem.Spec PyProof.Rows PySem.VkX
/-! ## C(e, ..) to be raised -/
theorem oex_type {K : PySem.W.Frag} {C : Addr} (T : OexK K C) : PySem.W.typeIn K (.ref C) = some (.type "type") := by
  obtain ⟨B, newId, initId, tl, nm, q1, N, bs, sn, sub, ab, col, dd, k0, k1, k2, k3, k5, hB, hC⟩ := T.cls
  show (K.lookup C).map (·.cls) = _
  rw [hC] <;> rfl
def tMkE (C : Addr) (fsn : List Str) (ta : TA) : L2.St → Hp → XK → Prop := fun σ H Q => ta σ H fun vs H1 => vs.length = fsn.length ∧ ∀ d, H1 d = none → Q (.ref C) (some d) (upd H1 d (.xd (fsn.zip vs).reverse))
theorem let_go {H : Hp} {a d : Addr} {o1 o2 o3 : HO} (n : H a = none) (ne : d ≠ a) : upd (del (upd (upd H d o1) a o2) a) d o3 = upd H d o3 := by
  funext b
  by_cases hd : b = d
  · subst hd; rw [upd_same, upd_same]
  · rw [upd_ne hd, upd_ne hd]
    by_cases ha : b = a
    · subst ha; rw [del_same, n]
    · rw [del_ne ha, upd_ne ha, upd_ne hd]
section
variable {X : Cx} {j k : Nat} {x : Str} {C : Addr} {fsn : List Str} {p pos : Pos} {e : Expr} {es : List Expr} {t : TA}
theorem pmk_k (c : ClsI X.prog X.w X.K X.mg X.base k x C fsn) (hg : X.A.guards = some []) (hr : Room j X.A) (hk : k + 1 ≤ j) (hx : Passes CX0 X (fun _ _ _ => False)) (ha : PA X (e :: es) t) (hn : fsn.length ≤ 1000 := by decide) (h0 : fsn ≠ [] := by decide) (gl : Gl X x := by rfl)
    (hdb : (x == ("__debug__" : Str)) = false := by decide) (he : starEach (e :: es) X.env = (false, eval e X.env) :: starEach es X.env := by rfl) (hpl : (backTo pos (starEach es X.env)).any (·.1) = false := by rfl) :
    PMk X (.Call (.Name x p) (e :: es) [] pos) (tMkE C fsn t) := by
  intro pins s σ H Q I h
  refine wpAny_Call_Name_kw (ld_glob I gl c.hm (PySem.W.callWith_K (h₀ := X.base) I.ok.mod.kin c.T.kC (thn (ha.run pos pins s σ H _ I h) fun us s1 hh => ?_) he hpl) hdb)
  obtain ⟨vs, H1, I1, r, hl, q⟩ := hh
  refine ⟨I1.kIn, ?_⟩
  show wpAny _ _ (call (.ref C) us) _ _ _
  have hus : us.length ≤ sizeLine := few_len (by rw [← r.length, hl]; exact hn)
  obtain ⟨fI, fd, iC, tI, F, hbn, hbk⟩ := c.ex
  obtain ⟨B, newId, initId, tl, nm, q1, N, bs, sn, sub, ab, col, dd, k0, k1, k2, k3, k5, hB, hC⟩ := c.T.cls
  obtain ⟨hp, g, dr, tk, os⟩ := s1
  have big : hp.objs.size ≤ hp.objs.size + 1 := Nat.le_succ _
  have new1 : H1 (hp.objs.size + 1) = none := I1.hok.fresh big
  have kept : ∀ b o, hp.get? b = some o → ((hp.push (PySem.W.kdv_tup us)).push (PySem.HandSPX.excO C hp.objs.size)).get? b = some o := fun b o z => Heap.get?_push_of_some _ (Heap.get?_push_of_some _ z)
  have put : ((hp.push (PySem.W.kdv_tup us)).push (PySem.HandSPX.excO C hp.objs.size)).get? (hp.objs.size + 1) = some (PySem.HandSPX.excO C hp.objs.size) := by heap_get
  have I2 : Inv X pins σ (upd H1 (hp.objs.size + 1) (exo (hp.objs.size + 1) C none)) ⟨(hp.push (PySem.W.kdv_tup us)).push (PySem.HandSPX.excO C hp.objs.size), g, dr, tk, os⟩ :=
    I1.laid (t' := tk) (a := hp.objs.size + 1) (o := exo (hp.objs.size + 1) C none) kept big (exo_ok put)
  have sp1 : spIni C fsn (V.ref (hp.objs.size + 1) :: vs) (upd H1 (hp.objs.size + 1) (exo (hp.objs.size + 1) C none))
      (fun v H2 => v = .non ∧ ∃ d, H1 d = none ∧ d ≠ hp.objs.size + 1 ∧ H2 = upd (upd H1 d (exd d (fsn.zip vs).reverse)) (hp.objs.size + 1) (exo (hp.objs.size + 1) C (some d))) (fun _ _ _ => False) := by
    refine ⟨_, vs, rfl, hl, upd_same, fun z => absurd z h0, fun z d hd ne => ⟨rfl, d, ?_, ne, upd_over ne⟩⟩
    rw [upd_ne ne] at hd
    exact hd
  have bound := hbn ⟨(hp.push (PySem.W.kdv_tup us)).push (PySem.HandSPX.excO C hp.objs.size), g, dr, tk, os⟩ (.ref (hp.objs.size + 1) :: us) I2.kIn (by simpa using (r.length.symm.trans hl))
  rw [List.append_nil] at bound
  refine wpAny_call (call_ownK hB.F (I1.kIn _ _ hC) (PySem.W.looks_findIn I1.kIn iC) (fun self => PySem.W.bind_fn I1.kIn self tI) hus
    (codeAny_mono (F.run _ X.stack _ _ _ (Value.ref (hp.objs.size + 1) :: us) (V.ref (hp.objs.size + 1) :: vs) _ (fun _ _ _ => False) ?_ ((hr.mono hk).make C us []) (I2.env0.make C us []) bound (.cons rfl r) sp1) fun res s3 hz => ?_))
  · first
      | exact hg
      | (simpa [Around.under, Code.isGuard, guardIds] using hg)
  · match res, hz with
    | .error er, hz => exact hx pins σ _ _ er s3 I2 hz
    | .ok (.ret u), hz =>
      obtain ⟨v, H2, os2, bare2, un2, hok2, rv, ev, d, hd1, ne, eH⟩ := hz
      subst ev
      subst eH
      obtain ⟨h2, g2, d2, t2, osx⟩ := s3
      refine ⟨rv, mk_end (raises_own c.T.xf.exC (oex_type c.T)) I1 big kept un2 hok2 os2 bare2 upd_same ((upd_ne ne).trans upd_same) hd1 ?_⟩
      rw [let_go new1 ne]
      exact q d hd1
    | .ok .next, hz => exact hz.elim
    | .ok .brk, hz => exact hz.elim
    | .ok .cont, hz => exact hz.elim
end
/-- what such a class answers to a clause -/
theorem exm_own {K : PySem.W.Frag} {C D : Addr} {b : Bool} (T : OexK K D) (h : PySem.W.subIn K (.ref C) (.ref D) = some b) : PySem.W.exmOne K (.ref C) (.ref D) = some b := PySem.W.exm_ref T.xf.exC T.xf.hdC (oex_type T) h
end Vk
set_option Elab.async false
set_option maxRecDepth 100000
set_option maxHeartbeats 4000000
set_option linter.all false
namespace Vk
open L2 PySem PySem.Spec PyProof.Rows PySem.VkX
/-! ## instances of own classes whose __init__ may raise, made by position and by all keywords in the other order -/
structure MakI (P : Program) (w : World) (K : PySem.W.Frag) (mg : Str → Option Value) (base : Heap) (CX : CXT) (k : Nat) (x : Str) (C : Addr) (fsn : List Str) (sp : Sp) : Prop where
  hm : mg x = some (.ref C)
  ex : ∃ (fI : Addr) (fd : FuncData), L2.Mk K C fI ∧ FnG P w K mg base CX k fI fd (("self" : Str) :: fsn) sp ∧ Binds K fd (("self" : Str) :: fsn) [] ∧
    (∀ (s : Shared) (v : Value) (ws : List Value), K.In s.heap → ws.length = fsn.length → BindsTo s fd ⟨[v], fsn.reverse.zip ws⟩ ((("self" : Str) :: fsn).zip (v :: ws.reverse)))
def Born (C : Addr) (sp : Sp) (vs : List V) (H : Hp) (Q : VK) (E : XK) : Prop := ∀ a dx, H a = none → H dx = none → dx ≠ a → sp (.ref a :: vs) (upd (upd H dx (.own a)) a (.ins C dx [])) (fun v H2 => v = .non ∧ Q (.ref a) H2) E
section
variable {X : Cx} {CX : CXT} {E : XK} {j k : Nat} {x : Str} {C : Addr} {fsn : List Str} {sp : Sp} {p pos : Pos} {e : Expr} {es : List Expr} {t : TA}
theorem born_run {pins : List (Addr × Obj)} {σ : L2.St} {H : Hp} {s : Shared} {Q : VK} {us : List Value} {kw : List (Str × Value)} {vs : List V} {zs : List Value} {fI : Addr} {fd : FuncData} (M : L2.Mk X.K C fI) (F : FnG X.prog X.w X.K X.mg X.base CX k fI fd (("self" : Str) :: fsn) sp)
    (hg : X.A.guards = some []) (hr : Room (k + 1) X.A) (hx : Passes CX X E) (I : Inv X pins σ H s) (r : Vals vs zs) (q : Born C sp vs H Q E)
    (hb : ∀ s2 : Shared, X.K.In s2.heap → ∀ a : Addr, BindsTo s2 fd ⟨.ref a :: us, kw⟩ ((("self" : Str) :: fsn).zip (.ref a :: zs))) : wpAny (model X.prog X.w) X.A (call (.ref C) us kw) (EP X pins σ Q) X.xe s := by
  have I2 := Inv.made (C := C) I
  have asked := q (s.heap.objs.size + 1) s.heap.objs.size (I.hok.fresh (Nat.le_succ _)) (I.hok.fresh (Nat.le_refl _)) (Nat.ne_of_lt (Nat.lt_succ_self _))
  refine wpAny_call (make_map (f := fI) I.kIn M.makes M.init (beq_iff_eq.mp M.fn) (codeAny_mono (F.run _ X.stack _ _ _ (Value.ref (s.heap.objs.size + 1) :: zs) (V.ref (s.heap.objs.size + 1) :: vs) _ E ?_ (hr.make C us kw) (I2.env0.make C us kw) (hb _ I2.kIn _) (.cons rfl r) asked) fun res s3 hz => ?_))
  · first
      | exact hg
      | (simpa [Around.under, Code.isGuard, guardIds] using hg)
  · match res, hz with
    | .error er, hz => exact hx pins σ _ _ er s3 I2 hz
    | .ok (.ret u), hz =>
      obtain ⟨v, H2, I3, rv, ev, q3⟩ := I2.after hz
      subst ev
      exact ⟨rv, V.ref (s.heap.objs.size + 1), H2, I3, rfl, q3⟩
    | .ok .next, hz => exact hz.elim
    | .ok .brk, hz => exact hz.elim
    | .ok .cont, hz => exact hz.elim
def tIns (C : Addr) (n : Nat) (sp : Sp) (E : XK) (t : TA) : TE := fun σ H Q => t σ H fun vs H1 => vs.length = n ∧ Born C sp vs H1 Q E
theorem pe_ins (c : MakI X.prog X.w X.K X.mg X.base CX k x C fsn sp) (hg : X.A.guards = some []) (hr : Room j X.A) (hk : k + 1 ≤ j) (hx : Passes CX X E) (ha : PA X (e :: es) t) (gl : Gl X x := by rfl)
    (hdb : (x == ("__debug__" : Str)) = false := by decide) (he : starEach (e :: es) X.env = (false, eval e X.env) :: starEach es X.env := by rfl) (hpl : (backTo pos (starEach es X.env)).any (·.1) = false := by rfl) :
    PE X (.Call (.Name x p) (e :: es) [] pos) (tIns C fsn.length sp E t) := by
  obtain ⟨fI, fd, M, F, hb, hbk⟩ := c.ex
  refine ⟨fun pins s σ H Q I h => wpAny_Call_Name_kw (ld_glob I gl c.hm (PySem.W.callWith_K (h₀ := X.base) I.ok.mod.kin M.kp (thn (ha.run pos pins s σ H _ I h) fun us s1 hh => ?_) he hpl) hdb)⟩
  obtain ⟨vs, H1, I1, r, hl, q⟩ := hh
  refine ⟨I1.kIn, born_run (us := us) (kw := []) M F hg (hr.mono hk) hx I1 r q fun s2 K2 a => ?_⟩
  have b := hb s2 (.ref a :: us) K2 (by simpa using (r.length.symm.trans hl))
  rw [List.append_nil] at b
  exact b
end
end Vk
set_option Elab.async false
set_option maxRecDepth 100000
set_option maxHeartbeats 4000000
set_option linter.all false
namespace Vk
open L2 PySem PySem.Spec PyProof.Rows PySem.VkX LamX NdefX
/-! ## a lambda as a value: made in a def, kept in lists, handed to a def that calls it -/
structure LF where
  qual : Str
  params : Arguments
  body : Expr
  scope : Scope
  cl : List (Str × Addr)
  c : Addr
def LF.nf (F : LF) : NF := ⟨"<lambda>", F.qual, F.params, [], F.scope, F.cl, F.c⟩
def LamO (f : Addr) (F : LF) : HO := .ext fun h => ∃ pm ctv : Value, h.get? f = some (PySem.W.kla_obj "<lambda>" F.qual F.params F.body F.scope F.cl pm F.c ctv)
theorem lamO_at {P : Program} {w : World} {H : Hp} {h : Heap} {f : Addr} {F : LF} (ok : HOk P w H h) (e : H f = some (LamO f F)) : ∃ pm ctv : Value, h.get? f = some (PySem.W.kla_obj "<lambda>" F.qual F.params F.body F.scope F.cl pm F.c ctv) := (ok f _ e).1
section
variable {X : Cx} {pins : List (Addr × Obj)} {σ : L2.St} {H : Hp} {s : Shared}
theorem inv_lam {F : LF} {t' : Nat} {pm ctv : Value} (I : Inv X pins σ H s) :
    Inv X pins σ (upd H s.heap.objs.size (LamO s.heap.objs.size F)) { s with heap := s.heap.push (PySem.W.kla_obj "<lambda>" F.qual F.params F.body F.scope F.cl pm F.c ctv), toks := t' } := by
  have at1 : (s.heap.push (PySem.W.kla_obj "<lambda>" F.qual F.params F.body F.scope F.cl pm F.c ctv)).get? s.heap.objs.size = some (PySem.W.kla_obj "<lambda>" F.qual F.params F.body F.scope F.cl pm F.c ctv) := Heap.get?_push_size _ rfl
  exact I.laid (a := s.heap.objs.size) (fun b u q => Heap.get?_push_of_some _ q) (Nat.le_refl _) ⟨⟨pm, ctv, at1⟩, ⟨_, at1⟩, fun h1 h2 ⟨p, t, z⟩ stays => ⟨p, t, stays _ z⟩⟩
/-- the maker's table and code object, T the tables -/
theorem lam_new {T : List (Addr × Str)} {c P : Addr} {params : Arguments} {body : Expr} {scope : Scope} {pos : Pos} {E : Value → Shared → Prop} {Q : Value → Shared → Prop} (I : Inv X pins σ H s) (tb : TabB X.base X.mg c P) (code : X.env.code = .ref c)
    (mem : (P, X.env.qual ++ "<lambda>") ∈ T) (one : ∀ p ∈ T, p.1 = P → p.2 = X.env.qual ++ "<lambda>") (tabs : Tabs T H) (dflt : defaultsOf params X.env = ([], [])) (free : ∀ y ∈ scope.names, y.2 = .free → ∃ c, X.env.cells.lookup y.1 = some c)
    (k : ∀ (f c' : Addr) (H1 : Hp) (s' : Shared), Inv X pins σ H1 s' → ExtN H H1 → (∀ b, H1 b = none → H b = none) → Tabs T H1 → H f = none → H1 f = some (LamO f ⟨X.env.qual ++ "<lambda>", params, body, scope, cloFrom X.env.cells scope.names [], c'⟩) → H1 c' = some (CodeO c' (X.env.qual ++ "<lambda>")) → Q (.ref f) s') :
    wpAny (model X.prog X.w) X.A (eval (.Lambda params body scope pos) X.env) Q E s := by
  obtain ⟨ps, tP, trip, told⟩ := tabs _ mem
  have lies : s.heap.get? P = some { cls := .none, data := .fields ps } := I.hok P _ tP
  have blt : s.heap.BuiltinsAt X.mg P := tb.bm.keeps I.bk
  refine PySem.W.kla_eval dflt ?_
  match among : codeAmong pos ps.toList with
  | some cv =>
    obtain ⟨c', rfl, is⟩ := told pos cv among
    refine PySem.W.kla_makeFunctionHit (mg := X.mg) (c := c) (P := P) (ps := ps) (closure_ok free) I.ok.glob (I.mod.glob.keeps I.bk) code (tb.code.keeps I.bk) lies trip among blt fun ctv h' tk grown big => ?_
    have I1 : Inv X pins σ H { s with heap := h', toks := tk } := I.kept grown
    have new1 : H h'.objs.size = none := I1.hok.fresh (Nat.le_refl _)
    refine k h'.objs.size c' _ _ (inv_lam (F := ⟨X.env.qual ++ "<lambda>", params, body, scope, cloFrom X.env.cells scope.names [], c'⟩) (t' := tk) (pm := (X.mg "__name__").getD .none) (ctv := ctv) I1) (fun b o e n => ?_) (fun b e => upd_none e) (tabs.ext fun b o e => ?_) new1 upd_same ?_
    · rw [upd_ne (ne_of_none e new1)]; exact e
    · rw [upd_ne (ne_of_none e new1)]; exact e
    · rw [upd_ne (ne_of_none is new1)]; exact is
  | none =>
    refine PySem.W.kla_makeFunction (mg := X.mg) (c := c) (P := P) (ps := ps) (closure_ok free) I.ok.glob (I.mod.glob.keeps I.bk) code (tb.code.keeps I.bk) lies trip among tb.gP blt fun c' ctv h' tk grown low high rec2 put => ?_
    obtain ⟨c2, oc, vs, t, ec, hoc, hd, hv⟩ := rec2
    cases ec
    have newC : H c' = none := I.hok.fresh low
    have I1 := inv_table (t' := tk) (more := #[rawInt pos.line, rawInt pos.col, .ref c']) (h' := h') I tP (fun b o hb e => grown b o hb e) put low ⟨oc, vs, t, hoc, hd, hv⟩
    have out1 : ExtN H (upd (upd H P (.tbl (ps ++ #[rawInt pos.line, rawInt pos.col, .ref c']))) c' (CodeO c' (X.env.qual ++ "<lambda>"))) := fun b o e n => by
      have hb : b ≠ P := fun z => n ps (Option.some.inj (e.symm.trans (z ▸ tP)))
      rw [upd_ne (ne_of_none e newC), upd_ne hb]
      exact e
    have tabs1 : Tabs T (upd (upd H P (.tbl (ps ++ #[rawInt pos.line, rawInt pos.col, .ref c']))) c' (CodeO c' (X.env.qual ++ "<lambda>"))) := fun p hp => by
      by_cases hb : p.1 = P
      · rw [one p hp hb, hb]
        have whole : (ps ++ #[rawInt pos.line, rawInt pos.col, .ref c']).toList = ps.toList ++ [rawInt pos.line, rawInt pos.col, .ref c'] := by simp
        refine ⟨_, by rw [upd_ne (ne_of_none tP newC), upd_same], by rw [whole]; exact PySem.TriplesOk_snoc _ _ _ _ trip, fun p' cv hcv => ?_⟩
        rw [whole] at hcv
        rcases among_app _ trip hcv with z | z
        · obtain ⟨c0, e1, e2⟩ := told p' cv z
          exact ⟨c0, e1, out1 _ _ e2 codeO_ne⟩
        · exact ⟨c', z, upd_same⟩
      · obtain ⟨ps', a1, a2, a3⟩ := tabs p hp
        refine ⟨ps', by rw [upd_ne (ne_of_none a1 newC), upd_ne hb]; exact a1, a2, fun p' cv hcv => ?_⟩
        obtain ⟨c0, e1, e2⟩ := a3 p' cv hcv
        exact ⟨c0, e1, out1 _ _ e2 codeO_ne⟩
    have newF := I1.hok.fresh (Nat.le_refl _)
    have newF0 : H h'.objs.size = none := upd_none (upd_none newF)
    refine k h'.objs.size c' _ _ (inv_lam (F := ⟨X.env.qual ++ "<lambda>", params, body, scope, cloFrom X.env.cells scope.names [], c'⟩) (t' := tk) (pm := (X.mg "__name__").getD .none) (ctv := ctv) I1) (fun b o e n => ?_) (fun b e => upd_none (upd_none (upd_none e))) (tabs1.ext fun b o e => ?_) newF0 upd_same ?_
    · have e1 := out1 b o e n
      rw [upd_ne (ne_of_none e1 newF)]; exact e1
    · rw [upd_ne (ne_of_none e newF)]; exact e
    · rw [upd_ne (Nat.ne_of_lt high)]; exact upd_same
end
def tLamV (T : List (Addr × Str)) (mk : Addr → LF) : TE := fun σ H Q => Tabs T H ∧ ∀ (f c' : Addr) (H1 : Hp), ExtN H H1 → (∀ b, H1 b = none → H b = none) → Tabs T H1 → H f = none → H1 f = some (LamO f (mk c')) → H1 c' = some (CodeO c' (mk c').qual) → Q (.ref f) H1
section
variable {X : Cx}
theorem pe_lamv {T : List (Addr × Str)} {c P : Addr} {params : Arguments} {body : Expr} {scope : Scope} {pos : Pos} (tb : TabB X.base X.mg c P) (code : X.env.code = .ref c) (mem : (P, X.env.qual ++ "<lambda>") ∈ T) (one : ∀ p ∈ T, p.1 = P → p.2 = X.env.qual ++ "<lambda>")
    (dflt : defaultsOf params X.env = ([], [])) (free : ∀ y ∈ scope.names, y.2 = .free → X.env.scope.names.lookup y.1 = some .cell ∨ X.env.scope.names.lookup y.1 = some .free) :
    PE X (.Lambda params body scope pos) (tLamV T fun c' => ⟨X.env.qual ++ "<lambda>", params, body, scope, cloFrom X.env.cells scope.names [], c'⟩) := by
  refine ⟨fun pins s σ H Q I h => lam_new I tb code mem one h.1 dflt (fun y hy e => I.ok.has y.1 (free y hy e)) fun f c' H1 s' I1 x1 b1 t1 n1 f1 c1 => ?_⟩
  exact ⟨.ref f, H1, I1, rfl, h.2 f c' H1 x1 b1 t1 n1 f1 c1⟩
end
/-! ### what it does -/
abbrev SpL := List (Option V) → Hp → VK → XK → Prop
structure LamK (P : Program) (w : World) (K : PySem.W.Frag) (mg : Str → Option Value) (base : Heap) (k : Nat) (F : LF) (fr : List Str) (sp : SpL) : Prop where
  run : ∀ (A : Around) (outer : List Env) (s : Shared) (H : Hp) (f : Addr) (ws : List (Option V)) (Q : VK) (E : XK), A.guards = some [] → Room k A → Env0 P w K mg base A outer s H → H f = some (LamO f F) → H F.c = some (CodeO F.c F.qual) → CellsAt F.cl fr ws s.heap H → sp ws H Q E →
    codeAny (model P w) A (.call (.ref f) ⟨[], []⟩) (CR (L2.CX P w) outer P w H s Q E) s
section
variable {P : Program} {w : World} {K : PySem.W.Frag} {mg : Str → Option Value} {base : Heap} {N fr : List Str} {F : LF} {k j : Nat} {sp : SpL}
theorem LamK.mono (l : LamK P w K mg base j F fr sp) (h : j ≤ k) : LamK P w K mg base k F fr sp := ⟨fun A outer s H f ws Q E hg hr => l.run A outer s H f ws Q E hg (hr.mono h)⟩
theorem lamk_of (S : NScope N [] fr F.scope) (hb : ∀ pm ctv : Value, bindArgs (PySem.W.kla_fn "<lambda>" F.qual F.params F.body F.scope F.cl pm (.ref F.c) ctv) ⟨[], []⟩ = pure [])
    (body : ∀ (A : Around) (outer : List Env) (s : Shared) (H : Hp) (f : Addr) (ws : List (Option V)) (Q : VK) (E : XK), A.guards = some [] → Room k (A.deeper (envF F.nf f s.heap.objs.size)) → ws.length = fr.length → sp ws H Q E →
      ∃ t, PE (ncx (L2.CX P w) P w K mg base N F.nf f A outer s H E) F.body t ∧ t (startF N [] ws) H Q) : LamK P w K mg base (k + 1) F fr sp := by
  refine ⟨fun A outer s H f ws Q E hg hr e0 hf hc C hsp => ?_⟩
  have lim : s.heap.NoLimit := e0.mod.nolimit.keeps fun b o e => (e0.bs b o e).1
  obtain ⟨pm, ctv, ho⟩ := lamO_at e0.hok hf
  refine PySem.W.kla_callFunE hr.depth ho rfl S.co S.gen rfl (codeO_at e0.hok hc) ?_
  rw [hb pm ctv]
  refine wpAny_pure (wpAny_newFunctionEnv S.nocell (fun y hy => absurd hy (List.not_mem_nil (a := y))) (fun h1 hns hsb => ⟨lim.fresh _ hsb, ?_⟩) S.kind)
  have kp : ∀ b o, s.heap.get? b = some o → h1.get? b = some o := fun b o e => hsb.extBut b o (Nat.ne_of_lt (Heap.lt_size e)) (Heap.get?_push_of_some _ e)
  obtain ⟨t, ht, hq⟩ := body A outer s H f ws Q E hg (hr.deeper _) C.len hsp
  have I : Inv (ncx (L2.CX P w) P w K mg base N F.nf f A outer s H E) [] (startF N [] ws) H { s with heap := h1, toks := s.toks + ([] : List (Str × Value)).length } := inv_startN (ps := []) (us := []) (vs := []) S hr.hd e0 rfl .nil C hns kp
  refine PySem.W.kla_codeExpr (wpAny_mono (ht.run [] _ _ H Q I hq) (fun v s' hv => ?_) fun e s' hv => hv)
  obtain ⟨v1, H1, J, rv, q⟩ := hv
  exact ⟨v1, H1, J.os, J.bare, J.base, J.hok, rv, q⟩
end
/-! ### called by the def that got it -/
theorem cells_later {X : Cx} {pins : List (Addr × Obj)} {σ : L2.St} {H : Hp} {s : Shared} {cl : List (Str × Addr)} {fr : List Str} {ws : List (Option V)} (C : CellsAt cl fr ws X.s_0.heap X.H_0) (hx : X.ex = []) (I : Inv X pins σ H s) : CellsAt cl fr ws s.heap H := by
  have out : ∀ c : Addr, c ∉ X.ex := fun c z => by
    rw [hx] at z
    exact absurd z (List.not_mem_nil (a := c))
  have same : ∀ y c, cl.lookup y = some c → ∀ v, X.s_0.heap.IsCell c v → s.heap.IsCell c v := fun y c e v ⟨o, ho, hd⟩ => by
    obtain ⟨sl, z⟩ := I.base.any ho (C.all y c e).1 (out c)
    exact ⟨_, z, hd⟩
  refine ⟨C.len, fun y c e => ?_, C.inj, fun i y e => ?_⟩
  · obtain ⟨n, v, z⟩ := C.all y c e
    have z2 := same y c e v z
    obtain ⟨o, ho, _⟩ := z
    exact ⟨I.base.free c o ho n (out c), v, z2⟩
  · obtain ⟨c, hc, hv⟩ := C.has i y e
    refine ⟨c, hc, fun v ev => ?_⟩
    obtain ⟨u, r, z⟩ := hv v ev
    exact ⟨u, r, same y c hc _ z⟩
section
variable {X : Cx} {F : LF} {fr : List Str} {ws : List (Option V)} {i j k : Nat} {x : Str} {sp : SpL} {E : XK} {p pos : Pos} {f0 : Addr}
/-- x(), x a name that holds the lambda -/
theorem pe_lamact (C : CellsAt F.cl fr ws X.s_0.heap X.H_0) (hx0 : X.ex = []) (L : LamK X.prog X.w X.K X.mg X.base k F fr sp) (hg : X.A.guards = some []) (hr : Room j X.A) (hk : k ≤ j) (hx : Passes (L2.CX X.prog X.w) X E) (hN : X.N[i]? = some x) (hv : Vis X.env.scope x)
    (hd : (x == ("__debug__" : Str)) = false := by decide) (hcd : (x == ("__classdict__" : Str)) = false := by decide) :
    PE X (.Call (.Name x p) [] [] pos) (fun σ H Q => σ[i]? = some (some (.ref f0)) ∧ H f0 = some (LamO f0 F) ∧ H F.c = some (CodeO F.c F.qual) ∧ sp ws H Q E) := by
  refine ⟨fun pins s σ H Q I h => ?_⟩
  obtain ⟨hs, hf, hc, hsp⟩ := h
  refine wpAny_Call_Name_kw (thn ((pe_var (pos := p) hN hv hd hcd).run pins s σ H (fun v H1 => v = .ref f0 ∧ H1 = H) I ⟨.ref f0, hs, rfl, rfl⟩) fun u s1 ⟨v, H1, I1, r1, q1⟩ => ?_)
  obtain ⟨ev, eH⟩ := q1
  subst ev
  subst eH
  obtain rfl : u = Value.ref f0 := r1
  obtain ⟨pm, ctv, ho⟩ := lamO_at I1.hok hf
  refine PySem.W.callWith_F0 ⟨_, _, _, _, ho⟩ (wpAny_call (codeAny_mono (L.run X.A X.stack s1 H1 f0 ws Q E hg (hr.mono hk) I1.env0 hf hc (cells_later C hx0 I1) hsp) fun r s2 hq => ?_))
  match r, hq with
  | .error e, hq => exact hx pins σ H1 s1 e s2 I1 hq
  | .ok (.ret u), hq => exact I1.after hq
  | .ok .next, hq => exact hq.elim
  | .ok .brk, hq => exact hq.elim
  | .ok .cont, hq => exact hq.elim
end
/-! ### defs whose promise speaks of the cells that the heap holds -/
structure FnH (P : Program) (w : World) (K : PySem.W.Frag) (mg : Str → Option Value) (base : Heap) (CX : CXT) (k : Nat) (f : Addr) (fd : FuncData) (ps : List Str) (sp : Heap → Sp) : Prop where
  len : ∀ h vs H Q E, sp h vs H Q E → vs.length = ps.length
  run : ∀ (A : Around) (outer : List Env) (s : Shared) (H : Hp) (args : Args) (us : List Value) (vs : List V) (Q : VK) (E : XK), A.guards = some [] → Room k A → Env0 P w K mg base A outer s H → BindsTo s fd args (ps.zip us) → Vals vs us → sp s.heap vs H Q E →
    codeAny (model P w) A (.call (.ref f) args) (CR CX outer P w H s Q E) s
theorem okH {P : Program} {w : World} {K : PySem.W.Frag} {mg : Str → Option Value} {base : Heap} {CX : CXT} {x qual : Str} {st : Stmt} {f : Addr} {fd : FuncData} {N ps : List Str} {k : Nat} {sp : Heap → Sp} (F : Fun K x qual st f fd) (S : FnScope N ps (defScope st)) (hlen : ∀ h vs H Q E, sp h vs H Q E → vs.length = ps.length)
    (hbody : ∀ (cdv : Value) (A : Around) (outer : List Env) (s : Shared) (H : Hp) (vs : List V) (Q : VK) (E : XK), A.guards = some [] → Room k (A.deeper (envOfC qual (defScope st) s.heap.objs.size f cdv)) → sp s.heap vs H Q E →
      ∃ t, PSs (cxOf CX P w K mg base N qual (defScope st) f cdv A outer s H E) (defBody st) t ∧ t { nx := fun _ H' => Q .non H', rt := Q } (start N vs) H) : FnH P w K mg base CX (k + 1) f fd ps sp := by
  refine ⟨hlen, fun A outer s H args us vs Q E hg hr e0 hb r hsp => ?_⟩
  obtain ⟨oc, od, kV, doc, pm, an, cdv, ct, osl, rfl, lk, hcd⟩ := F.ex
  exact run_ofS lk hcd S hr e0 hb r (hlen _ _ _ _ _ hsp) fun hr2 => hbody cdv A outer s H vs Q E hg hr2 hsp
structure CalH (P : Program) (w : World) (K : PySem.W.Frag) (mg : Str → Option Value) (base : Heap) (CX : CXT) (k : Nat) (x : Str) (sp : Heap → Sp) : Prop where
  ex : ∃ (f : Addr) (fd : FuncData) (ps : List Str), FnH P w K mg base CX k f fd ps sp ∧ mg x = some (.ref f) ∧ PySem.W.keepIn K (.ref f) = true ∧ Binds K fd ps []
/-- x(e, ..): rd says of the values and the names what the call asks -/
def tCallH (rd : L2.St → List V → Hp → VK → Prop) (t : TA) : TE := fun σ H Q => t σ H fun vs H1 => rd σ vs H1 Q
section
variable {X : Cx} {CX : CXT} {j k : Nat} {x : Str} {sp : Heap → Sp} {E : XK} {p pos : Pos} {e : Expr} {es : List Expr} {t : TA} {rd : L2.St → List V → Hp → VK → Prop}
theorem pe_cH (c : CalH X.prog X.w X.K X.mg X.base CX k x sp) (hg : X.A.guards = some []) (hr : Room j X.A) (hk : k ≤ j) (hx : Passes CX X E) (ha : PA X (e :: es) t)
    (asks : ∀ (pins : List (Addr × Obj)) (s : Shared) (σ : L2.St) (H : Hp) (vs : List V) (Q : VK), Inv X pins σ H s → rd σ vs H Q → sp s.heap vs H Q E) (gl : Gl X x := by rfl)
    (hdb : (x == ("__debug__" : Str)) = false := by decide) (he : starEach (e :: es) X.env = (false, eval e X.env) :: starEach es X.env := by rfl) (hpl : (backTo pos (starEach es X.env)).any (·.1) = false := by rfl) :
    PE X (.Call (.Name x p) (e :: es) [] pos) (tCallH rd t) := by
  obtain ⟨f, fd, ps, F, hm, kp, hb⟩ := c.ex
  refine ⟨fun pins s σ H Q I h => wpAny_Call_Name_kw (ld_glob I gl hm (PySem.W.callWith_K (h₀ := X.base) I.ok.mod.kin kp (thn (ha.run pos pins s σ H _ I h) fun us s1 hh => ?_) he hpl) hdb)⟩
  obtain ⟨vs, H1, I1, r, q⟩ := hh
  have q := asks pins s1 σ H1 vs Q I1 q
  have hl : us.length = ps.length := r.length.symm.trans (F.len _ _ _ _ _ q)
  have b := hb s1 us I1.kIn ((congrArg List.length (List.append_nil us)).trans hl)
  rw [List.append_nil] at b
  refine ⟨I1.kIn, wpAny_call (codeAny_mono (F.run X.A X.stack s1 H1 ⟨us, []⟩ us vs Q E hg (hr.mono hk) I1.env0 b r q) (fun res s2 hq => ?_))⟩
  match res, hq with
  | .error e, hq => exact hx pins σ H1 s1 e s2 I1 hq
  | .ok (.ret u), hq => exact I1.after hq
  | .ok .next, hq => exact hq.elim
  | .ok .brk, hq => exact hq.elim
  | .ok .cont, hq => exact hq.elim
end
/-! ### isinstance(e, T) of a caught exception that has fields -/
theorem call_isEd {X : Cx} {a C : Addr} {cls : Value} {d : Option Addr} {oe : Obj} {pn : List (Addr × Obj)} (T : OexK X.K C) (hz : Zc cls d oe) (hf : ∃ vs, oe.data = .fields vs) :
    CallR (X.suite a ((a, oe) :: pn)) (.builtin "isinstance") (fun xs H Q => ∃ (c : V) (cv : Value) (b : Bool) (dd : Addr) (fs : List (Str × V)), xs = [.ref a, c] ∧ cls = .ref C ∧ d = some dd ∧ H dd = some (.xd fs) ∧ (∀ u, RelV c u → u = cv) ∧ PySem.W.kitOne X.K (.ref C) cv = some b ∧ Q (.bl b) H) := by
  intro pins s σ H xs us Q I r h
  obtain ⟨c, cv, b, dd, fs, rfl, rfl, rfl, ed, hc, e, q⟩ := h
  obtain ⟨u1, u2, rfl, r1, r2⟩ := vals2 r
  cases (show u1 = Value.ref a from r1)
  cases hc u2 r2
  obtain ⟨ha, _⟩ := I.pin (a, oe) (List.mem_append_left _ List.mem_cons_self)
  obtain ⟨vs, hd⟩ := hf
  obtain ⟨mA, hns, hr⟩ := (show ObjOk X.prog X.w H s.heap dd (.xd fs) from I.hok dd _ ed)
  obtain ⟨od, ho, hl⟩ := lookIn_ns hns
  have J : PySem.W.InstAt s.heap a oe C (some od) := ⟨ha, hz.1, by unfold PySem.W.notCls; rw [hd] <;> rfl, by rw [hz.2]; exact ho⟩
  obtain ⟨B, newId, initId, tl, nm, q1, N, bs, sn, sub, ab, col, dd2, k0, k1, k2, k3, k5, hB, hC⟩ := T.cls
  have hcl : (PySem.W.clsIn X.K C).isSome = true := by unfold PySem.W.clsIn; rw [hC] <;> rfl
  exact PySem.W.kia_one (PySem.W.kitx_exc hcl T.ic.hg T.ic.hk T.ic.hs T.ic.ha T.ic.hn T.ic.ht T.ic.hm) I.kIn J e (fun z => nomatch z) fun tk => ⟨.bl b, H, I.tok tk, rfl, q⟩
theorem passes_len {X : Cx} {W : WX} {E : XK} (tk : Takes X W) (hW : ∀ cls d σ H, σ.length = X.N.length → E cls d H → W cls d σ H) : Passes (L2.CX X.prog X.w) X E := fun _ σ _ _ e s' I c => tk e s' (XE.of_call I (fun cls d H' h => hW cls d σ H' I.len h) c)
/-- try: return x() of a lambda that x holds -/
def tTryLam (f : Addr) (F : LF) (ws : List (Option V)) (sp : SpL) (n : Nat) : WX → TS := fun W D σ H => ∃ E : XK, (∀ cls d (σ' : L2.St) H', σ'.length = n → E cls d H' → W cls d σ' H') ∧ σ[0]? = some (some (.ref f)) ∧ H f = some (LamO f F) ∧ H F.c = some (CodeO F.c F.qual) ∧ sp ws H D.rt E
theorem pss_tryLam {X : Cx} {W : WX} {pn : List (Addr × Obj)} {xe : Value → Shared → Prop} {f : Addr} {F : LF} {fr : List Str} {ws : List (Option V)} {sp : SpL} {j k n : Nat} {x : Str} {p1 p2 p3 : Pos} (tk : Takes (X.tr pn xe) W) (C : CellsAt F.cl fr ws X.s_0.heap X.H_0) (hx0 : X.ex = [])
    (L : LamK X.prog X.w X.K X.mg X.base k F fr sp) (hg : X.A.guards = some []) (hr : Room j X.A) (hk : k ≤ j) (hl : X.N.length = n) (hN : X.N[0]? = some x) (hv : Vis X.env.scope x) (hd : (x == ("__debug__" : Str)) = false := by decide) (hcd : (x == ("__classdict__" : Str)) = false := by decide) :
    PSs (X.tr pn xe) [.Return (some (.Call (.Name x p1) [] [] p2)) p3] (tTryLam f F ws sp n W) := by
  refine ⟨fun pins s σ H D I h => ?_⟩
  obtain ⟨E, hW, h1, h2, h3, h4⟩ := h
  exact (pss_one (ps_ret (pe_lamact (X := X.tr pn xe) (f0 := f) C hx0 L hg hr hk (passes_len tk fun cls d σ' H' le => hW cls d σ' H' (le.trans hl)) hN hv hd hcd))).run pins s σ H D I ⟨h1, h2, h3, h4⟩
/-! ### a def whose code object is known -/
structure FunC (K : PySem.W.Frag) (x qual : Str) (st : Stmt) (f : Addr) (fd : FuncData) (c : Addr) : Prop where
  ex : ∃ (oc : Value) (od : Option Addr) (kV doc pm : Value) (an : Option Addr) (ct : Value) (sl : Array (Option Value)), fd = PySem.W.fnOf x qual (defArgs st) (defBody st) (defScope st) .none kV doc pm an (.ref c) ct ∧ K.lookup f = some ⟨oc, od, .func fd, sl⟩ ∧ PySem.W.codeIn K (.ref c) qual = true
  kp : PySem.W.keepIn K (.ref f) = true
theorem FunC.fn {K : PySem.W.Frag} {x qual : Str} {st : Stmt} {f c : Addr} {fd : FuncData} (F : FunC K x qual st f fd c) : Fun K x qual st f fd := by
  obtain ⟨oc, od, kV, doc, pm, an, ct, sl, e, l, hc⟩ := F.ex
  exact ⟨⟨oc, od, kV, doc, pm, an, .ref c, ct, sl, e, l, hc⟩, F.kp⟩
theorem okC0 {P : Program} {w : World} {K : PySem.W.Frag} {mg : Str → Option Value} {base : Heap} {x qual : Str} {st : Stmt} {f c : Addr} {fd : FuncData} {N ps : List Str} {k : Nat} {sp : Sp} (F : FunC K x qual st f fd c) (S : FnScope N ps (defScope st)) (hlen : ∀ vs H Q E, sp vs H Q E → vs.length = ps.length)
    (hbody : ∀ (A : Around) (outer : List Env) (s : Shared) (H : Hp) (vs : List V) (Q : VK) (E : XK), A.guards = some [] → Room k (A.deeper (envOfC qual (defScope st) s.heap.objs.size f (.ref c))) → sp vs H Q E →
      ∃ t, PSs (cxOf CX0 P w K mg base N qual (defScope st) f (.ref c) A outer s H E).nox (defBody st) t ∧ t { nx := fun _ H' => Q .non H', rt := Q } (start N vs) H) : FnG P w K mg base CX0 (k + 1) f fd ps sp := by
  refine ⟨hlen, fun A outer s H args us vs Q E hg hr e0 hb r hsp => ?_⟩
  obtain ⟨oc, od, kV, doc, pm, an, ct, sl, rfl, lk, hcd⟩ := F.ex
  refine run_ofS lk hcd S hr e0 hb r (hlen _ _ _ _ hsp) fun hr2 => ?_
  obtain ⟨t, ht, hq⟩ := hbody A outer s H vs Q E hg hr2 hsp
  exact ⟨t, ht.nox, hq⟩
end Vk
set_option Elab.async false
set_option maxRecDepth 100000
set_option maxHeartbeats 4000000
set_option linter.all false
namespace Vk
open PySem PySem.Spec PyProof.Rows PySem.SeqAt L2
open Builtin
section
variable {prog : Program} {w : World} {A : Around} {E : Value → Shared → Prop} {s : Shared} {K : PySem.W.Frag} {x C : Addr} {ox : Obj} {od : Option Obj}
theorem ifBound_objNe {M : Model} {args : List Value} {Q : Option Value → Shared → Prop} (X : K.In s.heap) (I : PySem.W.InstAt s.heap x ox C od) (hs : PySem.W.findIn K (.ref C) "__ne__" = some (some (.builtin "object.__ne__")))
    (h : wpAny M A (call (.builtin "object.__ne__") (.ref x :: args)) (fun v => Q (some v)) E s) : wpAny M A (callSpecialIfBound? (.ref x) "__ne__" args) Q E s := by
  simp only [callSpecialIfBound?, bindSpecialIfBound?]
  refine wpAny_holding (wpAny_bind (wpAny_bind (wpAny_bind (I.type.here ((PySem.W.looks_findIn X hs).here ?_)))))
  refine wpAny_bind (wpAny_askSetting (wpAny_ite ?_))
  have whole : wpAny M A (call (.builtin "object.__ne__") ([.ref x] ++ args) >>= fun v => pure (some v)) Q E s := wpAny_bind (wpAny_mono h (fun v s' q => wpAny_pure q) fun _ _ q => q)
  split
  · exact wpAny_bind (wpAny_of_eq (F.cmp_object.ne.bind _) (wpAny_pure (by exact whole)))
  · exact wpAny_tryCatch (wpAny_bind (wpAny_of_eq (F.cmp_object.ne.bind _) (wpAny_pure (by exact whole))))
/-- x != b by the own == -/
theorem ne_K {b tb : Value} {f : Addr} {Q : Value → Shared → Prop} (hu : A.units + 1 < cLine) (X : K.In s.heap) (I : PySem.W.InstAt s.heap x ox C od) (hb : PySem.W.Looks (model prog w) s.heap (typeOf b) tb) (hn : PySem.W.notFirst K C tb = true)
    (hne : PySem.W.findIn K (.ref C) "__ne__" = some (some (.builtin "object.__ne__"))) (hobj : PySem.W.mroIn K C (.type "object") = some true) (hs : PySem.W.findIn K (.ref C) "__eq__" = some (some (.ref f))) (hf : PySem.W.isFn K (.ref f) = true)
    (h : wpAny (model prog w) A.in1 (call (.ref f) [.ref x, b]) (fun v s' => ∃ r, v = .bool r ∧ Q (.bool (!r)) s') E s) : wpAny (model prog w) A (richCompare .NotEq (.ref x) b) Q E s := by
  have one : wpAny (model prog w) A (tryCompare (.ref x) "__ne__" b) (fun r s' => ∃ v, r = some v ∧ Q v s') E s := by
    unfold tryCompare
    refine wpAny_bind (ifBound_objNe X I hne (wpAny_call (codeAny_call_builtin F.cmp_object.ne.plain F.cmpEntry_ne (PySem.W.check_slot F.cmpKind_ne F.cmpSplit_ne (I.type.andThen (PySem.W.looks_mroIn X hobj)) (F.cmpArgs_ne _ _) ?_))))
    unfold Builtin.«object.__ne__»
    repeat (first
      | with_reducible refine wpAny_cRoomFor (A := A.in1) hu ?_
      | (refine wpAny_bind (m := callSpecialIfBound? (.ref x) (Str.ofString "__eq__") [b]) (PySem.W.ifBound_K X I hs hf (wpAny_mono h (fun r s' hr => ?_) fun _ _ e => e)))
      | wp_step)
    obtain ⟨r, rfl, q⟩ := hr
    repeat (first | (refine wpAny_bind (m := truthy (.bool _)) (wpAny_truthy_bool ?_)) | wp_step)
    exact ⟨_, rfl, q⟩
  simp only [richCompare, cmpInfo_NotEq, oneThing_ref]
  refine wpAny_holding (wpAny_bind (wpAny_cRoomFor (Nat.lt_of_succ_lt hu) ?_))
  refine wpAny_bind (I.type.here (wpAny_bind (hb.here ?_)))
  have done : ∀ r s', (∃ v, r = some v ∧ Q v s') → wpAny (model prog w) A (match r with | some v => pure v | none => pure .none) Q E s' := fun r s' ⟨v, e, q⟩ => by subst e; exact wpAny_pure q
  split
  · rename_i q
    have e : PySem.W.subIn K tb (.ref C) = some false := by
      rcases Bool.or_eq_true_iff.mp hn with e | e
      · rw [beq_iff_eq.mp e] at q; simp at q
      · exact beq_iff_eq.mp e
    refine wpAny_bind ((PySem.W.looks_subIn X e).here ?_)
    simp only [Bool.false_eq_true, if_false]
    refine wpAny_bind (wpAny_mono one (fun r s' z => ?_) fun _ _ e => e)
    obtain ⟨v, rfl, hq⟩ := z
    exact wpAny_pure hq
  · refine wpAny_bind (wpAny_pure ?_)
    simp only [Bool.false_eq_true, if_false]
    refine wpAny_bind (wpAny_mono one (fun r s' z => ?_) fun _ _ e => e)
    obtain ⟨v, rfl, hq⟩ := z
    exact wpAny_pure hq
end
end Vk
set_option Elab.async false
set_option maxRecDepth 100000
set_option maxHeartbeats 4000000
set_option linter.all false
namespace Vk
open PySem PySem.Spec PyProof.Rows PySem.SeqAt L2
open Builtin
/-! ## == and != and in, on the left an instance of an own class with its own == -/
inductive TyE (H : Hp) : V → Value → Prop
  | non : TyE H .non (.type "NoneType")
  | bl (b : Bool) : TyE H (.bl b) (.type "bool")
  | int (i : Int) : TyE H (.int i) (.type "int")
  | str (z : Str) : TyE H (.str z) (.type "str")
  | tup {a : Addr} {xs : List V} (e : H a = some (.tup xs)) : TyE H (.ref a) (.type "tuple")
  | lst {a : Addr} {xs : List V} (e : H a = some (.lst xs)) : TyE H (.ref a) (.type "list")
  | ins {a C dx : Addr} {fs : List (Str × V)} (e : H a = some (.ins C dx fs)) : TyE H (.ref a) (.ref C)
section
variable {X : Cx} {pins : List (Addr × Obj)} {σ : L2.St} {H : Hp} {s : Shared}
theorem looks_of {T : String} {u : Value} (h : ∀ s2 : Shared, (∀ b o, s.heap.get? b = some o → s2.heap.get? b = some o) → s2.TypeIs u T) : PySem.W.Looks (model X.prog X.w) s.heap (typeOf u) (.type T) := fun A Q E s2 k q => wpAny_typeOf (h s2 k) q
theorem TyE.looks {y : V} {u t : Value} (I : Inv X pins σ H s) (h : TyE H y t) (r : RelV y u) : PySem.W.Looks (model X.prog X.w) s.heap (typeOf u) t := by
  cases h with
  | non => cases (show u = Value.none from r); exact looks_of fun _ _ => rfl
  | bl b => cases (show u = Value.bool b from r); exact looks_of fun _ _ => rfl
  | int i => obtain ⟨t, rfl⟩ := (show ∃ t, u = Value.int i t from r); exact looks_of fun _ _ => rfl
  | str z => obtain ⟨t, rfl⟩ := (show ∃ t, u = Value.str z t from r); exact looks_of fun _ _ => rfl
  | tup e =>
    cases (show u = Value.ref _ from r)
    obtain ⟨its, rv, ⟨o, ho, hc, n, hd⟩, _⟩ := I.tuple (SqT.of e)
    exact looks_of fun s2 k => ⟨o, k _ _ ho, hc⟩
  | lst e =>
    cases (show u = Value.ref _ from r)
    obtain ⟨its, rv, ⟨o, n, ho, hc, _, hd⟩, _⟩ := I.list (SqL.of e)
    exact looks_of fun s2 k => ⟨o, k _ _ ho, hc⟩
  | ins e =>
    cases (show u = Value.ref _ from r)
    obtain ⟨mA, O, _⟩ := ins_get I.hok e
    obtain ⟨od, J, _⟩ := O.look
    exact J.type
end
/-- the own == of the class at C -/
structure EqI (P : Program) (w : World) (K : PySem.W.Frag) (mg : Str → Option Value) (base : Heap) (k : Nat) (C : Addr) (sp : Sp) : Prop where
  ex : ∃ (f : Addr) (fd : FuncData), PySem.W.findIn K (.ref C) "__eq__" = some (some (.ref f)) ∧ PySem.W.isFn K (.ref f) = true ∧ FnOk P w K mg base CX0 k f fd ["self", "other"] sp ∧ Binds K fd ["self", "other"] []
  ne : PySem.W.findIn K (.ref C) "__ne__" = some (some (.builtin "object.__ne__"))
  obj : PySem.W.mroIn K C (.type "object") = some true
  no1 : PySem.W.mroIn K C (.type "tuple") = some false
  no2 : PySem.W.mroIn K C (.type "list") = some false
  no3 : PySem.W.mroIn K C (.type "str") = some false
  no4 : PySem.W.mroIn K C (.type "NoneType") = some false
def rEqI (K : PySem.W.Frag) (C : Addr) (sp : Sp) (g : Bool → Bool) : R2 := fun x y H Q => ∃ a dx fs tb, x = .ref a ∧ H a = some (.ins C dx fs) ∧ TyE H y tb ∧ PySem.W.notFirst K C tb = true ∧ sp [x, y] H (fun v H' => ∃ b, v = .bl b ∧ Q (.bl (g b)) H') E0
section
variable {X : Cx} {k j : Nat} {C : Addr} {sp : Sp}
theorem eq_run {A : Around} {pins : List (Addr × Obj)} {σ : L2.St} {H : Hp} {s : Shared} {Q : VK} {a f : Addr} {fd : FuncData} {y : V} {u : Value} {E' : Value → Shared → Prop} (F : FnOk X.prog X.w X.K X.mg X.base CX0 k f fd ["self", "other"] sp) (hb : Binds X.K fd ["self", "other"] []) (hr : Room k A) (hfr : A.frames = X.A.frames)
    (I : Inv X pins σ H s) (r : RelV y u) (h : sp [.ref a, y] H Q E0) : wpAny (model X.prog X.w) A (call (.ref f) [.ref a, u]) (EP X pins σ Q) E' s := by
  have e0 : Env0 X.prog X.w X.K X.mg X.base A X.stack s H := by
    have e := I.env0
    exact ⟨hfr.trans e.frames, e.mod, e.bs, e.bsz, e.funs, e.frf, e.hok, e.bare⟩
  have bound := hb s [.ref a, u] I.kIn rfl
  rw [List.append_nil] at bound
  refine wpAny_call (codeAny_mono (F.run A X.stack s H ⟨[.ref a, u], []⟩ [.ref a, u] [.ref a, y] Q E0 hr e0 bound (.cons rfl (.cons r .nil)) h) fun res s' hq => ?_)
  match res, hq with
  | .error e, hq => exact hq.elim
  | .ok (.ret u), hq => exact I.after hq
  | .ok .next, hq => exact hq.elim
  | .ok .brk, hq => exact hq.elim
  | .ok .cont, hq => exact hq.elim
theorem op_neI (e : EqI X.prog X.w X.K X.mg X.base k C sp) (hr : Room j X.A) (hk : k + 1 ≤ j) : OpR X (compareOp .NotEq) (rEqI X.K C sp not) := by
  intro pins s σ H x y v u Q I rx ry h
  obtain ⟨a, dx, fs, tb, rfl, ha, ty, hn, q⟩ := h
  cases (show v = Value.ref a from rx)
  obtain ⟨f, fd, hs, hf, F, hb⟩ := e.ex
  obtain ⟨mA, O, _⟩ := ins_get I.hok ha
  obtain ⟨od, J, _⟩ := O.look
  have hr1 := hr.mono hk
  show wpAny (model X.prog X.w) X.A (richCompare .NotEq (.ref a) u) (EP X pins σ Q) X.xe s
  refine ne_K (by have := hr.units; omega) I.kIn J (ty.looks I ry) hn e.ne e.obj hs hf (wpAny_mono (eq_run F hb hr1.in1 rfl I ry q) (fun v1 s1 z => ?_) fun _ _ z => z)
  obtain ⟨z1, H1, I1, rz, b, rfl, q1⟩ := z
  cases (show v1 = Value.bool b from rz)
  exact ⟨b, rfl, .bl (!b), H1, I1, rfl, q1⟩
/-- the items that give way to the instance's own == -/
inductive Dec (H : Hp) : V → Prop
  | non : Dec H .non
  | str (z : Str) : Dec H (.str z)
  | tup {a : Addr} {xs : List V} (e : H a = some (.tup xs)) : Dec H (.ref a)
  | lst {a : Addr} {xs : List V} (e : H a = some (.lst xs)) : Dec H (.ref a)
end
end Vk
set_option Elab.async false
set_option maxRecDepth 100000
set_option maxHeartbeats 4000000
set_option linter.all false
namespace Vk
open PySem PySem.Spec PyProof.Rows L2 StX
/-! ## def f(self, *parts), with nothing under way -/
def FnRG (P : Program) (w : World) (K : PySem.W.Frag) (mg : Str → Option Value) (base : Heap) (CX : CXT) (k : Nat) (f : Addr) (sp : Sp) : Prop :=
  ∀ (A : Around) (outer : List Env) (s : Shared) (H : Hp) (us : List Value) (vs : List V) (Q : VK) (E : XK), A.guards = some [] → Room k A → Env0 P w K mg base A outer s H → Vals vs us → sp vs H Q E →
    codeAny (model P w) A (.call (.ref f) ⟨us, []⟩) (CR CX outer P w H s Q E) s
theorem passesF {X : Cx} : Passes (L2.CX X.prog X.w) X (fun _ _ _ => False) := by
  rintro pins σ H s e s' I ⟨a, B, H', cls, d, _, _, _, _, _, _, _, h⟩
  exact h.elim
section
variable {CX : CXT} {P : Program} {w : World} {K : PySem.W.Frag} {mg : Str → Option Value} {base : Heap} {k : Nat} {x qual : Str} {st : Stmt} {f : Addr} {fd : FuncData} {N ps : List Str} {sp : Sp}
theorem okStar {pv : Str} (F : Fun K x qual st f fd) (S : FnScope N (ps ++ [pv]) (defScope st)) (hCX : CXUp CX)
    (hb : ∀ (kV doc pm : Value) (an : Option Addr) (cdv ct : Value) (us rest : List Value), us.length = ps.length → bindArgs (PySem.W.fnOf x qual (defArgs st) (defBody st) (defScope st) .none kV doc pm an cdv ct) ⟨us ++ rest, []⟩ = (newTuple rest >>= fun t => pure (ps.zip us ++ [(pv, t)])))
    (body : ∀ (cdv : Value) (A : Around) (outer : List Env) (s : Shared) (H : Hp) (vs : List V) (Q : VK) (E : XK), A.guards = some [] → Room k (A.deeper (envOfC qual (defScope st) s.heap.objs.size f cdv)) → sp vs H Q E →
      ∃ t, PSs (cxOf CX P w K mg base N qual (defScope st) f cdv A outer s H E) (defBody st) t ∧ t { nx := fun _ H' => Q .non H', rt := Q } (start N vs) H) :
    FnRG P w K mg base CX (k + 1) f (fun vs H Q E => ∃ ws rest, vs = ws ++ rest ∧ ws.length = ps.length ∧ rest.length ≤ sizeLine ∧ ∀ p, H p = none → sp (ws ++ [.ref p]) (upd H p (.tup rest)) Q E) := by
  intro A outer s H us vs Q E hg hr e0 r hsp
  obtain ⟨ws, rest, rfl, hl, hz, q⟩ := hsp
  obtain ⟨oc, od, kV, doc, pm, an, cdv, ct, osl, rfl, lk, hcd⟩ := F.ex
  obtain ⟨u1, u2, rfl, r1, r2⟩ := vals_split r
  have free : H s.heap.objs.size = none := e0.hok.fresh (Nat.le_refl _)
  have l1 : u1.length = ps.length := r1.length.symm.trans hl
  have l2 : u2.length ≤ sizeLine := by rw [← r2.length]; exact hz
  refine run_bnd lk hcd S hr e0 (G := fun xs H2 => ∃ p, H p = none ∧ xs = ws ++ [V.ref p] ∧ H2 = upd H p (.tup rest)) (fun A1 E1 Q1 h => ?_) (fun s2 H2 xs g hr2 => ?_)
  · rw [hb kV doc pm an cdv ct u1 u2 l1]
    refine wpAny_bind (wpAny_newTuple (wpAny_pure ?_) l2)
    have laid : ObjOk P w (upd H s.heap.objs.size (.tup rest)) (s.heap.push ({ cls := .type "tuple", data := .seq u2.toArray } : Obj)) s.heap.objs.size (.tup rest) := ⟨hz, u2, r2, ⟨_, Heap.get?_push_size _ rfl, rfl, _, rfl⟩⟩
    have un1 := un_laid (fs := frs outer) (s := s) (o := ({ cls := .type "tuple", data := .seq u2.toArray } : Obj)) (u := .tup rest) free
    have all := h _ _ (ws ++ [V.ref s.heap.objs.size]) (u1 ++ [Value.ref s.heap.objs.size]) (env0_laid e0 laid) un1 rfl (fun e s3 => hCX outer s H _ _ E e s3 un1 (fun b o z => Heap.get?_push_of_some _ z) rfl) (r1.append (.cons rfl .nil))
      (by rw [List.length_append, List.length_append, hl] <;> rfl) ⟨_, free, rfl, rfl⟩
    rw [List.zip_append l1.symm] at all
    exact all
  · obtain ⟨p, hp, rfl, rfl⟩ := g
    exact body cdv A outer s2 _ _ Q E hg hr2 (q p hp)
end
section
variable {X : Cx} {CX : CXT} {k j : Nat} {C f : Addr} {sp : Sp} {E : XK} {x : Str} {p pos : Pos} {e : Expr} {es : List Expr} {t : TA}
theorem star_run {pins : List (Addr × Obj)} {σ : L2.St} {H : Hp} {s : Shared} {Q : VK} {us : List Value} {vs : List V} (M : L2.Mk X.K C f) (F : FnRG X.prog X.w X.K X.mg X.base CX k f sp) (hg : X.A.guards = some []) (hr : Room (k + 1) X.A) (hx : Passes CX X E) (I : Inv X pins σ H s) (r : Vals vs us) (q : Born C sp vs H Q E) :
    wpAny (model X.prog X.w) X.A (call (.ref C) us) (EP X pins σ Q) X.xe s := by
  have I2 := Inv.made (C := C) I
  have asked := q (s.heap.objs.size + 1) s.heap.objs.size (I.hok.fresh (Nat.le_succ _)) (I.hok.fresh (Nat.le_refl _)) (Nat.ne_of_lt (Nat.lt_succ_self _))
  refine wpAny_call (make_map (f := f) I.kIn M.makes M.init (beq_iff_eq.mp M.fn) (codeAny_mono (F _ X.stack _ _ (Value.ref (s.heap.objs.size + 1) :: us) (V.ref (s.heap.objs.size + 1) :: vs) _ E ?_ (hr.make C us []) (I2.env0.make C us []) (.cons rfl r) asked) fun res s3 hz => ?_))
  · first
      | exact hg
      | (simpa [Around.under, Code.isGuard, guardIds] using hg)
  · match res, hz with
    | .error er, hz => exact hx pins σ _ _ er s3 I2 hz
    | .ok (.ret u), hz =>
      obtain ⟨v, H2, I3, rv, ev, q3⟩ := I2.after hz
      subst ev
      exact ⟨rv, V.ref (s.heap.objs.size + 1), H2, I3, rfl, q3⟩
    | .ok .next, hz => exact hz.elim
    | .ok .brk, hz => exact hz.elim
    | .ok .cont, hz => exact hz.elim
def tStarI (C : Addr) (sp : Sp) (E : XK) (t : TA) : TE := fun σ H Q => t σ H fun vs H1 => Born C sp vs H1 Q E
theorem pe_starI (M : L2.Mk X.K C f) (F : FnRG X.prog X.w X.K X.mg X.base CX k f sp) (hg : X.A.guards = some []) (hr : Room j X.A) (hk : k + 1 ≤ j) (hm : X.mg x = some (.ref C)) (hx : Passes CX X E) (ha : PA X (e :: es) t) (gl : Gl X x := by rfl) (hdb : (x == ("__debug__" : Str)) = false := by decide)
    (he : starEach (e :: es) X.env = (false, eval e X.env) :: starEach es X.env := by rfl) (hpl : (backTo pos (starEach es X.env)).any (·.1) = false := by rfl) : PE X (.Call (.Name x p) (e :: es) [] pos) (tStarI C sp E t) := by
  refine ⟨fun pins s σ H Q I h => wpAny_Call_Name_kw (ld_glob I gl hm (PySem.W.callWith_K (h₀ := X.base) I.ok.mod.kin M.kp (thn (ha.run pos pins s σ H _ I h) fun us s1 hh => ?_) he hpl) hdb)⟩
  obtain ⟨vs, H1, I1, r, q⟩ := hh
  exact ⟨I1.kIn, star_run M F hg (hr.mono hk) hx I1 r q⟩
theorem pe_starI0 (M : L2.Mk X.K C f) (F : FnRG X.prog X.w X.K X.mg X.base CX k f sp) (hg : X.A.guards = some []) (hr : Room j X.A) (hk : k + 1 ≤ j) (hm : X.mg x = some (.ref C)) (hx : Passes CX X E) (gl : Gl X x := by rfl) (hdb : (x == ("__debug__" : Str)) = false := by decide) :
    PE X (.Call (.Name x p) [] [] pos) (tStarI C sp E tNil) :=
  ⟨fun pins s σ H Q I h => wpAny_Call_Name_kw (ld_glob I gl hm (PySem.W.callWith_K0 I.kIn M.kp (star_run M F hg (hr.mono hk) hx I .nil h)) hdb)⟩
end
theorem pg_tupK {X : Cx} {K : PySem.W.Frag} {es : List Expr} {k : Nat} {t : TGs} {n : Nat} {pos : Pos} (hK : X.K = K) (hc : X.calm = true) (h : PGs X es t)
    (hn : (assignEach es X.env).length = n := by rfl) (hst : (assignEach es X.env).findIdx? (·.1) = none := by rfl) : PG X (.Tuple es k pos) (gTup K n t) := hK ▸ pg_tup hc h hn hst
end Vk
set_option Elab.async false
set_option maxRecDepth 100000
set_option maxHeartbeats 4000000
set_option linter.all false
namespace Vk
open PySem PySem.Spec PyProof.Rows L2
/-! ## for i, x in enumerate(t), t a tuple -/
theorem enum_new1 (t : Addr) (items : Array Value) : Meets (Builtin.«enumerate.__new__» ⟨[.type "enumerate", .ref t], []⟩) (fun _ R s => s.heap.IsTuple t items ∧
    R (.ok (.ret (.ref (s.heap.push { cls := .type "tuple_iterator", data := .fields #[.ref t, .int 0 0] }).objs.size)))
      { s with heap := (s.heap.push { cls := .type "tuple_iterator", data := .fields #[.ref t, .int 0 0] }).push { cls := .type "enumerate", data := .fields #[.none, .bool false, .ref s.heap.objs.size, rawInt 0, .none, .none] } }) :=
  .of_wp fun prog w A R s h => by
    obtain ⟨hp, g, d, tk, os⟩ := s
    obtain ⟨isT, k⟩ := h
    have sub := sub_enumerate
    have it1 : ∀ {A1 : Around} {E1 : Value → Shared → Prop} {Q1 : Value → Shared → Prop}, Q1 (.ref hp.objs.size) ⟨hp.push { cls := .type "tuple_iterator", data := .fields #[.ref t, .int 0 0] }, g, d, tk, os⟩ → wpAny (model prog w) A1 (pyIter (.ref t)) Q1 E1 ⟨hp, g, d, tk, os⟩ := fun q => wpAny_pyIter_tuple isT q
    wp_walk
    refine wpAny_stack_any fun st => wpAny_pure ?_
    split
    · rename_i c _ _ _ _ _
      cases (c == Value.type "enumerate")
      · wp_walk using it1
        exact ⟨_, rfl, k⟩
      · wp_walk using it1
        exact ⟨_, rfl, k⟩
    · wp_walk using it1
      exact ⟨_, rfl, k⟩
section
variable {prog : Program} {w : World} {A : Around} {E : Value → Shared → Prop} {s : Shared}
theorem call_enumT {t : Addr} {items : Array Value} {Q : Value → Shared → Prop} (isT : s.heap.IsTuple t items)
    (h : ∀ h2, IsEnum h2 (s.heap.objs.size + 1) s.heap.objs.size 0 .none → h2.IsTupleIter s.heap.objs.size t 0 → (∀ b o, s.heap.get? b = some o → h2.get? b = some o) → Q (.ref (s.heap.objs.size + 1)) { s with heap := h2 }) :
    wpAny (model prog w) A (call (.type "enumerate") [.ref t]) Q E s := by
  refine callType_new F.called_enumerate (by decide) (F.typeCall_enumerate_1 _) (F.newCall_enumerate_1 _) (fun obj => F.args_object_init_2 obj _) F.entry_enumerate_new (enum_new1 t items) ⟨isT, ?_⟩
  have one : (s.heap.push { cls := .type "tuple_iterator", data := .fields #[.ref t, .int 0 0] }).objs.size = s.heap.objs.size + 1 := Heap.size_push ..
  show _ ∧ _
  rw [one]
  have at1 : IsEnum ((s.heap.push { cls := .type "tuple_iterator", data := .fields #[.ref t, .int 0 0] }).push
      { cls := .type "enumerate", data := .fields #[.none, .bool false, .ref s.heap.objs.size, rawInt 0, .none, .none] }) (s.heap.objs.size + 1) s.heap.objs.size 0 .none := by
    have z := Heap.get?_push_size (s.heap.push { cls := .type "tuple_iterator", data := .fields #[.ref t, .int 0 0] })
      (o := { cls := .type "enumerate", data := .fields #[.none, .bool false, .ref s.heap.objs.size, rawInt 0, .none, .none] }) rfl
    rw [one] at z
    exact z
  exact ⟨⟨_, at1, rfl⟩, h _ at1 ⟨_, Heap.get?_push_of_some _ (Heap.get?_push_size _ rfl), rfl, rfl⟩ fun b o z => Heap.get?_push_of_some _ (Heap.get?_push_of_some _ z)⟩
end
/-- the tuple at a, each item in a new pair -/
def Itet (a : Addr) : It :=
  ⟨fun i H => ∃ (xs : List V) (x : V), H a = some (.tup xs) ∧ xs[i]? = some x, fun i H v H' => ∃ T x xs, v = .ref T ∧ H T = none ∧ H' = upd H T (.tup [.int (i : Nat), x]) ∧ H a = some (.tup xs) ∧ xs[i]? = some x, fun i H => ∃ xs : List V, H a = some (.tup xs) ∧ xs.length = i⟩
theorem turn_enumT {P : Program} {w : World} {K : PySem.W.Frag} {elts : List Expr} {kk : Nat} {tpos : Pos} (a e it : Addr) :
    Turn P w K (.Tuple elts kk tpos) (Itet a) [e, it] e (fun i h => (∃ old, IsEnum h e it ((i : Nat) : Int) old) ∧ h.IsTupleIter it a i ∧ e ≠ it ∧ a ≠ it ∧ e ≠ a) where
  mem := by simp
  obj := fun i h st b hb => by
    obtain ⟨⟨old, he⟩, ⟨o, ho, hc, hd⟩, _⟩ := st
    rcases List.mem_cons.mp hb with z | z
    · exact z ▸ ⟨_, he, fun v q => nomatch q⟩
    · rw [List.mem_singleton] at z
      exact z ▸ ⟨o, ho, fun v q => by rw [hd] at q; cases q⟩
  keep := fun i h h' st k => by
    obtain ⟨⟨old, he⟩, hi, rest⟩ := st
    exact ⟨⟨old, k e List.mem_cons_self _ he⟩, hi.at fun o q => k it (List.mem_cons_of_mem _ List.mem_cons_self) o q, rest⟩
  item := by
    intro X hP hw hK hc i pins s σ H E I hf st hg
    subst hP hw hK
    obtain ⟨⟨old, he⟩, hit, hne, hat, hea⟩ := st
    obtain ⟨xs, x, hq, hx⟩ := hg
    obtain ⟨its, rv, isT, hz⟩ := I.tuple (SqT.of hq)
    obtain ⟨u, hu, ru⟩ := rv.get hx
    have lt : i < its.toArray.size := by
      have := (List.getElem?_eq_some_iff.mp hu).1
      simpa using this
    have big1 : e < s.heap.objs.size := Heap.lt_size he
    have big2 : it < s.heap.objs.size := by obtain ⟨_, q, _⟩ := hit; exact Heap.lt_size q
    refine wpAny_pyNext_enum_itemD (Draws.tuple (A := X.A.in1) (I.ok.hd hc) it a hat its.toArray) he ⟨hit, isT⟩ lt hne (by simp [hne, hea]) fun u2 h2 tk hu2 ho st2 hT hsz hk => ?_
    obtain ⟨hit2, _⟩ := st2
    have eu : u2 = u := by
      have q := hu2
      simp only [List.getElem?_toArray] at q
      rw [hu] at q
      exact (Option.some.inj q).symm
    subst eu
    refine ⟨_, rfl, wpAny_letOwnedTupleGo_enum (s := { s with heap := h2, toks := tk + 1 }) ho fun h3 he3 sb => ?_⟩
    have hT3 : h3.get? s.heap.objs.size = some { cls := .type "tuple", data := .seq #[.int i tk, u2] } := (sb.2 _ (Nat.ne_of_gt big1)).trans hT
    have laid : ObjOk X.prog X.w (upd H s.heap.objs.size (.tup [.int (i : Nat), x])) h3 s.heap.objs.size (.tup [.int (i : Nat), x]) := ⟨few_len (Nat.le_of_ble_eq_true rfl), [.int i tk, u2], .cons ⟨_, rfl⟩ (.cons ru .nil), ⟨_, hT3, rfl, _, rfl⟩⟩
    have I1 : Inv X pins σ (upd H s.heap.objs.size (.tup [.int (i : Nat), x])) { s with heap := h3, toks := tk + 1 } :=
      I.turnedNew (ch := [e, it]) (fun b ob hb q => (sb.2 b (fun z => hb (by simp [z]))).trans (hk b ob (fun z => hb (by simp [z])) (fun z => hb (by simp [z])) q)) hf (Nat.le_refl _) laid
    refine ⟨.ref s.heap.objs.size, _, I1, rfl, ⟨_, x, xs, rfl, I.hok.fresh (Nat.le_refl _), rfl, hq, hx⟩, ⟨⟨u2, ?_⟩, hit2.at fun o q => (sb.2 it (Ne.symm hne)).trans q, hne, hat, hea⟩, fun b hb => ?_⟩
    · rw [show ((i + 1 : Nat) : Int) = (i : Int) + 1 by omega]
      exact he3
    · have old1 : b < s.heap.objs.size := by
        rcases List.mem_cons.mp hb with z | z
        · exact z ▸ big1
        · rw [List.mem_singleton] at z
          exact z ▸ big2
      exact (upd_ne (Nat.ne_of_lt old1)).trans (hf b hb).1
  done := by
    intro X hP hw hK hc i pins s σ H E I hf st hg
    subst hP hw hK
    obtain ⟨⟨old, he⟩, hit, hne, hat, hea⟩ := st
    obtain ⟨xs, hq, hx⟩ := hg
    obtain ⟨its, rv, isT, hz⟩ := I.tuple (SqT.of hq)
    obtain ⟨f0, f1, f2, f3, f4, f5⟩ := hf it (List.mem_cons_of_mem _ List.mem_cons_self)
    have le : i = its.toArray.size := by rw [← hx, rv.length, List.size_toArray]
    exact wpAny_pyNext_enum_endD (Draws.tuple (A := X.A.in1) (I.ok.hd hc) it a hat its.toArray) he ⟨le ▸ hit, isT⟩ fun h' eb => ⟨rfl, I.turned (t' := s.toks) (fun b o hb q => eb b o hb q) f0 f1 f3 f4 f5⟩
  self := fun A i s Q E st h => let ⟨⟨_, he⟩, _⟩ := st; wpAny_pyIter_enum he h
def iEnumT (ta : TA) : TI := fun σ H R => ta σ H fun vs H1 => ∃ a xs, vs = [.ref a] ∧ H1 a = some (.tup xs) ∧ R (Itet a) H1
theorem pi_enumT {X : Cx} {e : Expr} {ta : TA} {p pos tpos : Pos} {elts : List Expr} {kk : Nat} (gl : Gl X "enumerate") (hm : X.mg "enumerate" = none) (ha : PA X [e] ta) (hs : starEach [e] X.env = [(false, eval e X.env)] := by rfl) :
    PI X (.Tuple elts kk tpos) (.Call (.Name "enumerate" p) [e] [] pos) (iEnumT ta) := by
  refine ⟨fun pins s σ H R I h => Call_ (ld_blt I gl hm boot_enumerate (PyProof.Rows.callWith_type1 (thn (ha.run pos pins s σ H _ I h) fun us s1 hh => ?_) hs rfl))⟩
  obtain ⟨vs, H1, I1, r1, a, xs, rfl, hq, q⟩ := hh
  obtain ⟨u, rfl, ru⟩ := r1.one
  cases (show u = Value.ref a from ru)
  obtain ⟨its, rv, isT, hz⟩ := I1.tuple (SqT.of hq)
  have lta : a < s1.heap.objs.size := by obtain ⟨o, ho, _⟩ := isT; exact Heap.lt_size ho
  refine call_enumT isT fun h2 he hit hk => wpAny_pyIter_enum he ?_
  have I2 : Inv X pins σ H1 { s1 with heap := h2 } := I1.kept (t' := s1.toks) hk
  refine ⟨s1.heap.objs.size + 1, [s1.heap.objs.size + 1, s1.heap.objs.size], _, _, H1, rfl, I2, turn_enumT a (s1.heap.objs.size + 1) s1.heap.objs.size, ⟨⟨.none, he⟩, hit, Nat.succ_ne_self _, Nat.ne_of_lt lta, Nat.ne_of_gt (Nat.lt_succ_of_lt lta)⟩, fun b hb => ?_, q⟩
  have le : s1.heap.objs.size ≤ b := by
    rcases List.mem_cons.mp hb with z | z
    · rw [z]; exact Nat.le_succ _
    · rw [List.mem_singleton.mp z]; exact Nat.le_refl _
  exact I1.fpOk le (I1.hok.fresh le)
end Vk
set_option Elab.async false
set_option maxRecDepth 100000
set_option maxHeartbeats 4000000
set_option linter.all false
namespace Vk
open PySem PySem.Spec PyProof.Rows L2
section
variable {X : Cx}
/-- e.f, a property, e an instance of one of some classes -/
structure PrI (P : Program) (w : World) (K : PySem.W.Frag) (mg : Str → Option Value) (base : Heap) (k : Nat) (C : Addr) (f fa : Str) : Prop where
  ex : ∃ (p g : Addr) (fd : FuncData), Cls K C ∧ PropOf K C f p g ∧ FnOk P w K mg base CX0 k g fd ["self"] (getSp C fa) ∧ Binds K fd ["self"] []
def tPropN (N : Nat) (Cs : Nat → Addr) (fa : Str) (ta : TE) : TE := fun σ H Q => ta σ H fun x H1 => ∃ n a dx fs v, n < N ∧ x = .ref a ∧ H1 a = some (.ins (Cs n) dx fs) ∧ fs.lookup fa = some v ∧ Q v H1
theorem pe_propN {N : Nat} {Cs : Nat → Addr} {f fa : Str} {k j : Nat} {e : Expr} {ta : TE} {pos : Pos} (he : PE X e ta) (h : ∀ n, n < N → PrI X.prog X.w X.K X.mg X.base k (Cs n) f fa) (hr : Room j X.A) (hk : k + 1 ≤ j) (hab : attributeBase e f X.env (eval e X.env) = eval e X.env := by rfl) :
    PE X (.Attribute e f pos) (tPropN N Cs fa ta) := by
  refine ⟨fun pins s σ H Q I hh => attr_of hab (thn (he.run pins s σ H _ I hh) fun u s1 q1 => ?_)⟩
  obtain ⟨x, H1, I1, rx, n, a, dx, fs, v, hn, rfl, ea, l, q⟩ := q1
  obtain ⟨p, g, fd, c, hp, F, hb⟩ := (h n hn).ex
  cases (show u = Value.ref a from rx)
  exact getprop_ok (ds := []) (dvs := []) (E := E0) I1 ea c hp F (hr.mono hk) hb .nil (fun _ _ _ _ _ _ _ z => z.elim) ⟨a, dx, fs, v, rfl, ea, l, q⟩
end
end Vk
set_option Elab.async false
set_option maxRecDepth 100000
set_option maxHeartbeats 4000000
set_option linter.all false
namespace Vk
open L2 PySem PySem.Spec PyProof.Rows
/-! ## lstrip leaves nothing of a string exactly if all its signs are to be stripped -/
theorem take_all {α : Type} (g : α → Bool) : ∀ l : List α, (l.takeWhile g).length = l.length ↔ l.all g = true
  | [] => by simp
  | a :: r => by
    rw [List.takeWhile_cons, List.all_cons]
    cases h : g a with
    | true =>
      rw [if_pos rfl, List.length_cons, List.length_cons, Bool.true_and]
      exact ⟨fun z => (take_all g r).mp (Nat.succ.inj z), fun z => congrArg Nat.succ ((take_all g r).mpr z)⟩
    | false =>
      rw [if_neg (by decide)]
      simp
theorem take_le {α : Type} (g : α → Bool) : ∀ l : List α, (l.takeWhile g).length ≤ l.length
  | [] => Nat.le_refl _
  | a :: r => by
    rw [List.takeWhile_cons]
    split
    · exact Nat.succ_le_succ (take_le g r)
    · exact Nat.zero_le _
theorem str_empty {z : Str} : z = "" ↔ z.cps.toList = [] := by
  constructor
  · rintro rfl
    rfl
  · intro h
    cases z with
    | mk c =>
      have e : c = #[] := by simpa using h
      subst e
      rfl
theorem lstrip_all {z y : Str} : Txt.lstripChars z y = "" ↔ z.cps.toList.all y.cps.contains = true := by
  unfold Txt.lstripChars Txt.stripBy
  have len : z.length = z.cps.toList.length := by simp [Str.length]
  have lo : stripLo y.cps.contains true z = (z.cps.toList.takeWhile y.cps.contains).length := rfl
  have hi : ∀ n, stripHi y.cps.contains false z n = z.length := fun n => rfl
  rw [← take_all]
  by_cases h0 : (z.cps.toList.takeWhile y.cps.contains).length = 0
  · have same : stripSame y.cps.contains true false z = true := by
      unfold stripSame
      rw [hi, lo, h0]
      simp
    rw [if_pos same, str_empty, h0]
    exact ⟨fun e => by rw [e]; rfl, fun e => List.length_eq_zero_iff.mp e.symm⟩
  · have same : ¬ (stripSame y.cps.contains true false z = true) := by
      unfold stripSame
      rw [hi, lo]
      simpa using fun e => absurd (by simpa using e) h0
    rw [if_neg same, str_empty]
    have sub : (stripped y.cps.contains true false z).cps.toList = z.cps.toList.drop (z.cps.toList.takeWhile y.cps.contains).length := by
      unfold stripped
      rw [hi, lo]
      show ((z.cps.extract _ z.length).toList) = _
      rw [Array.toList_extract, List.extract_eq_drop_take, len]
      rw [List.take_of_length_le (by rw [List.length_drop]; exact Nat.le_refl _)]
    rw [sub, List.drop_eq_nil_iff]
    have le := take_le y.cps.contains z.cps.toList
    exact ⟨fun e => Nat.le_antisymm le e, fun e => Nat.le_of_eq e.symm⟩
end Vk
namespace Vk
open L2 PySem PySem.Spec PyProof.Rows
end Vk
set_option Elab.async false
set_option maxRecDepth 100000
set_option linter.all false
namespace Vk
open PySem PySem.Spec PyProof.Rows L2
def top (i : Nat) : Stmt := PySem.Challenge.pw_anchoredits_k09_whole_mirrored_programs.main.body.getD i (.Pass ⟨0, 0, 0, 0⟩)
structure Txt (mg : Str → Option Value) : Prop where
  str : mg "str" = none
  tuple : mg "tuple" = none
  enumerate : mg "enumerate" = none
  len : mg "len" = none
  list : mg "list" = none
  int : mg "int" = none
  abs : mg "abs" = none
  range : mg "range" = none
  min : mg "min" = none
  repr : mg "repr" = none
  isinstance : mg "isinstance" = none
abbrev tlV : List Value := [.type "ValueError", .type "Exception", .type "BaseException", .type "object"]
abbrev tlL : List Value := [.type "LookupError", .type "Exception", .type "BaseException", .type "object"]
abbrev tlO : List Value := [.type "OverflowError", .type "ArithmeticError", .type "Exception", .type "BaseException", .type "object"]
section
variable {P : Program} {w : World} {K : PySem.W.Frag} {mg : Str → Option Value} {base : Heap}
abbrev m_InvalidOld : Stmt := mtd (top 2) 0
theorem sc_InvalidOld : FnScope ["self", "value"] ["self", "value"] (defScope m_InvalidOld) := ⟨rfl, rfl, rfl, by decide +kernel, rfl, by decide +kernel, by decide +kernel⟩
theorem b_InvalidOld {f C : Addr} {fd : FuncData} (F : Fun K "__init__" "InvalidOld.__init__" m_InvalidOld f fd) (T : OexK K C) (no : ∀ f ∈ (["value"] : List Str), PySem.W.findIn K (.ref C) f = some none) : FnG P w K mg base CX0 1 f fd ["self", "value"] (spIni C ["value"]) := by
  refine okG0 F sc_InvalidOld (fun vs H Q E h => ?_) (fun cdv A outer s H vs Q E hg hr h => ?_)
  · obtain ⟨a, ws, rfl, hl, _⟩ := h
    rw [List.length_cons, hl]
    rfl
  · obtain ⟨a, ws, rfl, hl, ha, k0, k⟩ := h
    match ws, hl with
    | [y], _ => exact ⟨_, (pss_one (ps_osk (pv 0) (pv 1))), _, rfl, _, rfl, a, C, rfl, T, no _ (by simp), .inl ⟨ha, fun dx n ne => k (by simp) dx n ne⟩⟩
theorem c_InvalidOld {h : Heap} {f C : Addr} {fd : FuncData} {tl : List Value} (KX : K.In h) (G : h.Ns mainGlobals mg) (E : ExcTxt K "InvalidOld" "InvalidOld.__init__" m_InvalidOld C f fd ["value"] tl) : ClsI P w K mg base 1 "InvalidOld" C ["value"] :=
  .of1 E KX G (b_InvalidOld E.fn E.T E.no) (fun _ _ _ _ _ _ _ _ => rfl) (fun _ _ _ _ _ _ _ _ => rfl)
abbrev m_InvalidNew : Stmt := mtd (top 3) 0
theorem sc_InvalidNew : FnScope ["self", "value"] ["self", "value"] (defScope m_InvalidNew) := ⟨rfl, rfl, rfl, by decide +kernel, rfl, by decide +kernel, by decide +kernel⟩
theorem b_InvalidNew {f C : Addr} {fd : FuncData} (F : Fun K "__init__" "InvalidNew.__init__" m_InvalidNew f fd) (T : OexK K C) (no : ∀ f ∈ (["value"] : List Str), PySem.W.findIn K (.ref C) f = some none) : FnG P w K mg base CX0 1 f fd ["self", "value"] (spIni C ["value"]) := by
  refine okG0 F sc_InvalidNew (fun vs H Q E h => ?_) (fun cdv A outer s H vs Q E hg hr h => ?_)
  · obtain ⟨a, ws, rfl, hl, _⟩ := h
    rw [List.length_cons, hl]
    rfl
  · obtain ⟨a, ws, rfl, hl, ha, k0, k⟩ := h
    match ws, hl with
    | [y], _ => exact ⟨_, (pss_one (ps_osk (pv 0) (pv 1))), _, rfl, _, rfl, a, C, rfl, T, no _ (by simp), .inl ⟨ha, fun dx n ne => k (by simp) dx n ne⟩⟩
theorem c_InvalidNew {h : Heap} {f C : Addr} {fd : FuncData} {tl : List Value} (KX : K.In h) (G : h.Ns mainGlobals mg) (E : ExcTxt K "InvalidNew" "InvalidNew.__init__" m_InvalidNew C f fd ["value"] tl) : ClsI P w K mg base 1 "InvalidNew" C ["value"] :=
  .of1 E KX G (b_InvalidNew E.fn E.T E.no) (fun _ _ _ _ _ _ _ _ => rfl) (fun _ _ _ _ _ _ _ _ => rfl)
abbrev m_InvalidText : Stmt := mtd (top 4) 0
theorem sc_InvalidText : FnScope ["self", "value"] ["self", "value"] (defScope m_InvalidText) := ⟨rfl, rfl, rfl, by decide +kernel, rfl, by decide +kernel, by decide +kernel⟩
theorem b_InvalidText {f C : Addr} {fd : FuncData} (F : Fun K "__init__" "InvalidText.__init__" m_InvalidText f fd) (T : OexK K C) (no : ∀ f ∈ (["value"] : List Str), PySem.W.findIn K (.ref C) f = some none) : FnG P w K mg base CX0 1 f fd ["self", "value"] (spIni C ["value"]) := by
  refine okG0 F sc_InvalidText (fun vs H Q E h => ?_) (fun cdv A outer s H vs Q E hg hr h => ?_)
  · obtain ⟨a, ws, rfl, hl, _⟩ := h
    rw [List.length_cons, hl]
    rfl
  · obtain ⟨a, ws, rfl, hl, ha, k0, k⟩ := h
    match ws, hl with
    | [y], _ => exact ⟨_, (pss_one (ps_osk (pv 0) (pv 1))), _, rfl, _, rfl, a, C, rfl, T, no _ (by simp), .inl ⟨ha, fun dx n ne => k (by simp) dx n ne⟩⟩
theorem c_InvalidText {h : Heap} {f C : Addr} {fd : FuncData} {tl : List Value} (KX : K.In h) (G : h.Ns mainGlobals mg) (E : ExcTxt K "InvalidText" "InvalidText.__init__" m_InvalidText C f fd ["value"] tl) : ClsI P w K mg base 1 "InvalidText" C ["value"] :=
  .of1 E KX G (b_InvalidText E.fn E.T E.no) (fun _ _ _ _ _ _ _ _ => rfl) (fun _ _ _ _ _ _ _ _ => rfl)
abbrev m_InvalidPart : Stmt := mtd (top 5) 0
theorem sc_InvalidPart : FnScope ["self", "index"] ["self", "index"] (defScope m_InvalidPart) := ⟨rfl, rfl, rfl, by decide +kernel, rfl, by decide +kernel, by decide +kernel⟩
theorem b_InvalidPart {f C : Addr} {fd : FuncData} (F : Fun K "__init__" "InvalidPart.__init__" m_InvalidPart f fd) (T : OexK K C) (no : ∀ f ∈ (["index"] : List Str), PySem.W.findIn K (.ref C) f = some none) : FnG P w K mg base CX0 1 f fd ["self", "index"] (spIni C ["index"]) := by
  refine okG0 F sc_InvalidPart (fun vs H Q E h => ?_) (fun cdv A outer s H vs Q E hg hr h => ?_)
  · obtain ⟨a, ws, rfl, hl, _⟩ := h
    rw [List.length_cons, hl]
    rfl
  · obtain ⟨a, ws, rfl, hl, ha, k0, k⟩ := h
    match ws, hl with
    | [y], _ => exact ⟨_, (pss_one (ps_osk (pv 0) (pv 1))), _, rfl, _, rfl, a, C, rfl, T, no _ (by simp), .inl ⟨ha, fun dx n ne => k (by simp) dx n ne⟩⟩
theorem c_InvalidPart {h : Heap} {f C : Addr} {fd : FuncData} {tl : List Value} (KX : K.In h) (G : h.Ns mainGlobals mg) (E : ExcTxt K "InvalidPart" "InvalidPart.__init__" m_InvalidPart C f fd ["index"] tl) : ClsI P w K mg base 1 "InvalidPart" C ["index"] :=
  .of1 E KX G (b_InvalidPart E.fn E.T E.no) (fun _ _ _ _ _ _ _ _ => rfl) (fun _ _ _ _ _ _ _ _ => rfl)
abbrev m_NoPlace : Stmt := mtd (top 8) 0
theorem sc_NoPlace : FnScope ["self", "index", "number"] ["self", "index", "number"] (defScope m_NoPlace) := ⟨rfl, rfl, rfl, by decide +kernel, rfl, by decide +kernel, by decide +kernel⟩
theorem b_NoPlace {f C : Addr} {fd : FuncData} (F : Fun K "__init__" "NoPlace.__init__" m_NoPlace f fd) (T : OexK K C) (no : ∀ f ∈ (["index", "number"] : List Str), PySem.W.findIn K (.ref C) f = some none) : FnG P w K mg base CX0 1 f fd ["self", "index", "number"] (spIni C ["index", "number"]) := by
  refine okG0 F sc_NoPlace (fun vs H Q E h => ?_) (fun cdv A outer s H vs Q E hg hr h => ?_)
  · obtain ⟨a, ws, rfl, hl, _⟩ := h
    rw [List.length_cons, hl]
    rfl
  · obtain ⟨a, ws, rfl, hl, ha, k0, k⟩ := h
    match ws, hl with
    | [y, z], _ =>
      refine ⟨_, (pss_cons (ps_osk (pv 0) (pv 1)) (pss_one (ps_osk (pv 0) (pv 2)))), _, rfl, _, rfl, a, C, rfl, T, no _ (by simp), .inl ⟨ha, fun dx n ne => ?_⟩⟩
      refine ⟨_, rfl, _, rfl, a, C, rfl, T, no _ (by simp), .inr ⟨dx, _, upd_same, (upd_ne ne).trans upd_same, Nat.le_of_ble_eq_true rfl, ?_⟩⟩
      have q := k (by simp) dx n ne
      rw [← two_upd ne] at q
      exact q
theorem c_NoPlace {h : Heap} {f C : Addr} {fd : FuncData} {tl : List Value} (KX : K.In h) (G : h.Ns mainGlobals mg) (E : ExcTxt K "NoPlace" "NoPlace.__init__" m_NoPlace C f fd ["index", "number"] tl) : ClsI P w K mg base 1 "NoPlace" C ["index", "number"] :=
  .of2 E KX G (b_NoPlace E.fn E.T E.no) (fun _ _ _ _ _ _ _ _ _ => rfl) (fun _ _ _ _ _ _ _ _ _ => rfl)
abbrev m_Overlap : Stmt := mtd (top 9) 0
theorem sc_Overlap : FnScope ["self", "index"] ["self", "index"] (defScope m_Overlap) := ⟨rfl, rfl, rfl, by decide +kernel, rfl, by decide +kernel, by decide +kernel⟩
theorem b_Overlap {f C : Addr} {fd : FuncData} (F : Fun K "__init__" "Overlap.__init__" m_Overlap f fd) (T : OexK K C) (no : ∀ f ∈ (["index"] : List Str), PySem.W.findIn K (.ref C) f = some none) : FnG P w K mg base CX0 1 f fd ["self", "index"] (spIni C ["index"]) := by
  refine okG0 F sc_Overlap (fun vs H Q E h => ?_) (fun cdv A outer s H vs Q E hg hr h => ?_)
  · obtain ⟨a, ws, rfl, hl, _⟩ := h
    rw [List.length_cons, hl]
    rfl
  · obtain ⟨a, ws, rfl, hl, ha, k0, k⟩ := h
    match ws, hl with
    | [y], _ => exact ⟨_, (pss_one (ps_osk (pv 0) (pv 1))), _, rfl, _, rfl, a, C, rfl, T, no _ (by simp), .inl ⟨ha, fun dx n ne => k (by simp) dx n ne⟩⟩
theorem c_Overlap {h : Heap} {f C : Addr} {fd : FuncData} {tl : List Value} (KX : K.In h) (G : h.Ns mainGlobals mg) (E : ExcTxt K "Overlap" "Overlap.__init__" m_Overlap C f fd ["index"] tl) : ClsI P w K mg base 1 "Overlap" C ["index"] :=
  .of1 E KX G (b_Overlap E.fn E.T E.no) (fun _ _ _ _ _ _ _ _ => rfl) (fun _ _ _ _ _ _ _ _ => rfl)
abbrev m_TooMany : Stmt := mtd (top 10) 0
theorem sc_TooMany : FnScope ["self", "limit"] ["self", "limit"] (defScope m_TooMany) := ⟨rfl, rfl, rfl, by decide +kernel, rfl, by decide +kernel, by decide +kernel⟩
theorem b_TooMany {f C : Addr} {fd : FuncData} (F : Fun K "__init__" "TooMany.__init__" m_TooMany f fd) (T : OexK K C) (no : ∀ f ∈ (["limit"] : List Str), PySem.W.findIn K (.ref C) f = some none) : FnG P w K mg base CX0 1 f fd ["self", "limit"] (spIni C ["limit"]) := by
  refine okG0 F sc_TooMany (fun vs H Q E h => ?_) (fun cdv A outer s H vs Q E hg hr h => ?_)
  · obtain ⟨a, ws, rfl, hl, _⟩ := h
    rw [List.length_cons, hl]
    rfl
  · obtain ⟨a, ws, rfl, hl, ha, k0, k⟩ := h
    match ws, hl with
    | [y], _ => exact ⟨_, (pss_one (ps_osk (pv 0) (pv 1))), _, rfl, _, rfl, a, C, rfl, T, no _ (by simp), .inl ⟨ha, fun dx n ne => k (by simp) dx n ne⟩⟩
theorem c_TooMany {h : Heap} {f C : Addr} {fd : FuncData} {tl : List Value} (KX : K.In h) (G : h.Ns mainGlobals mg) (E : ExcTxt K "TooMany" "TooMany.__init__" m_TooMany C f fd ["limit"] tl) : ClsI P w K mg base 1 "TooMany" C ["limit"] :=
  .of1 E KX G (b_TooMany E.fn E.T E.no) (fun _ _ _ _ _ _ _ _ => rfl) (fun _ _ _ _ _ _ _ _ => rfl)
def isStr : PyData → Bool
  | .str _ => true
  | _ => false
theorem kit_str {H : Hp} {v : V} {d : PyData} (h : Th H v d) : ∃ t b, TyX K H v t ∧ PySem.W.kitOne K t (.type "str") = some b ∧ b = isStr d := by
  cases h with
  | atm a => cases a with
    | non => exact ⟨.type "NoneType", false, .base .non, kit_ty (by decide +kernel), rfl⟩
    | bl b => exact ⟨.type "bool", false, .base (.bl b), kit_ty (by decide +kernel), rfl⟩
    | int i => exact ⟨.type "int", false, .base (.int i), kit_ty (by decide +kernel), rfl⟩
    | str x => exact ⟨.type "str", true, .base (.str x), kit_ty (by decide +kernel), rfl⟩
  | lst e _ _ => exact ⟨.type "list", false, .base (.lst e), kit_ty (by decide +kernel), rfl⟩
  | tup e _ => exact ⟨.type "tuple", false, .base (.tup e), kit_ty (by decide +kernel), rfl⟩
  | dct e => exact ⟨.type "dict", false, .base (.dK e), kit_ty (by decide +kernel), rfl⟩
/-- a text: a string of letters -/
def isT : PyData → Bool
  | .str z => decide (V.str (Txt.lstripChars z letS) = V.str "")
  | _ => false
def isNew (d : PyData) : Bool := isT d && match d with | .str z => decide ((z.length : Int) ≤ 40) | _ => false
def isOld (d : PyData) : Bool := isNew d && match d with | .str z => !decide (V.str z = V.str "") | _ => false
/-- strings of values are short -/
def Srt (d : PyData) : Prop := match d with | .str z => z.length ≤ 1000 ∧ PyData.strOk z = true | _ => True
def spTest (f : PyData → Bool) : Sp := fun vs H Q _ => ∃ v d, vs = [v] ∧ Th H v d ∧ Srt d ∧ Q (.bl (f d)) H
abbrev s_is_text : Stmt := top 13
theorem sc_is_text : FnScope ["value"] ["value"] (defScope s_is_text) := ⟨rfl, rfl, rfl, by decide +kernel, rfl, by decide +kernel, by decide +kernel⟩
theorem b_is_text {f : Addr} {fd : FuncData} (F : Fun K "is_text" "is_text" s_is_text f fd) (T : Txt mg) (g_LETTERS : ∃ u, mg "LETTERS" = some u ∧ RelV (.str letS) u) : FnG P w K mg base CX0 1 f fd ["value"] (spTest isT) := by
  refine okG0 F sc_is_text (fun vs H Q E h => ?_) (fun cdv A outer s H vs Q E hg hr h => ?_)
  · obtain ⟨v, d, rfl, _⟩ := h
    rfl
  · have hu := hu_of hr
    have hu64 := hr.units
    obtain ⟨v, d, rfl, th, sr, k⟩ := h
    obtain ⟨t, b, ty, kt, hb⟩ := kit_str (K := K) th
    refine ⟨_, (pss_one (ps_ret (pe_and (pe_callB call_isi (by rfl) T.isinstance (by decide +kernel) (pa_cons (pv 0) (pa_cons (pe_bltn (v := .ty "str") (by rfl) T.str rfl rfl) pa_nil))) (pe_one (pe_cmpR op_eq (pe_bm PySem.F.plainAttrs_str PySem.F.slot_str_lstrip PySem.F.type_str_lstrip mt_lstripChars (pv 0) (pa_cons (C8.pe_gc (by rfl) g_LETTERS) pa_nil)) pe_str (nomark _)))))), ?_⟩
    refine ⟨_, rfl, v, .ty "str", t, .type "str", b, rfl, .ty "str", ty, kt, _, rfl, ?_⟩
    cases th with
    | atm a =>
      cases a with
      | str x =>
        subst hb
        refine iteT ⟨_, rfl, rfl, x, _, rfl, rfl, few_len sr.1, rfl, ?_⟩
        exact k
      | _ => subst hb; exact iteF k
    | _ => subst hb; exact iteF k

theorem isT_str {d : PyData} (h : isT d = true) : ∃ z, d = .str z := by
  cases d with
  | str z => exact ⟨z, rfl⟩
  | _ => cases h
theorem isNew_str {d : PyData} (h : isNew d = true) : ∃ z, d = .str z := by
  refine isT_str ?_
  unfold isNew at h
  rw [Bool.and_eq_true] at h
  exact h.1
theorem th_str {H : Hp} {v : V} {z : Str} (h : Th H v (.str z)) : v = .str z := by
  cases h with
  | atm a => cases a; rfl
abbrev s_is_new : Stmt := top 19
theorem sc_is_new : FnScope ["value"] ["value"] (defScope s_is_new) := ⟨rfl, rfl, rfl, by decide +kernel, rfl, by decide +kernel, by decide +kernel⟩
theorem b_is_new {f : Addr} {fd : FuncData} (F : Fun K "is_new" "is_new" s_is_new f fd) (T : Txt mg) (c_is_text : CalG P w K mg base CX0 1 "is_text" (spTest isT)) (g_MAX_WORD : ∃ u, mg "MAX_WORD" = some u ∧ RelV (.int 40) u) : FnG P w K mg base CX0 2 f fd ["value"] (spTest isNew) := by
  refine okG0 F sc_is_new (fun vs H Q E h => ?_) (fun cdv A outer s H vs Q E hg hr h => ?_)
  · obtain ⟨v, d, rfl, _⟩ := h
    rfl
  · have hu := hu_of hr
    have hu64 := hr.units
    obtain ⟨v, d, rfl, th, sr, k⟩ := h
    refine ⟨_, (pss_one (ps_ret (pe_and (pe_cG c_is_text hg hr (by decide) pass0 (pa_cons (pv 0) pa_nil)) (pe_one (pe_cmpR op_le (pe_callB call_len (by rfl) T.len (by decide +kernel) (pa_cons (pv 0) pa_nil)) (C8.pe_gc (by rfl) g_MAX_WORD) (nomark _)))))), ?_⟩
    refine ⟨_, rfl, v, d, rfl, th, sr, _, rfl, ?_⟩
    match hT : isT d with
    | false =>
      have e : isNew d = false := by unfold isNew; rw [hT, Bool.false_and]
      rw [e] at k
      exact iteF k
    | true =>
      obtain ⟨z, rfl⟩ := isT_str hT
      cases th_str th
      rw [isNew, hT] at k
      exact iteT ⟨_, rfl, _, _, rfl, ⟨few_len sr.1, rfl⟩, _, _, rfl, rfl, k⟩

abbrev s_is_old : Stmt := top 20
theorem sc_is_old : FnScope ["value"] ["value"] (defScope s_is_old) := ⟨rfl, rfl, rfl, by decide +kernel, rfl, by decide +kernel, by decide +kernel⟩
theorem b_is_old {f : Addr} {fd : FuncData} (F : Fun K "is_old" "is_old" s_is_old f fd) (T : Txt mg) (c_is_new : CalG P w K mg base CX0 2 "is_new" (spTest isNew)) : FnG P w K mg base CX0 3 f fd ["value"] (spTest isOld) := by
  refine okG0 F sc_is_old (fun vs H Q E h => ?_) (fun cdv A outer s H vs Q E hg hr h => ?_)
  · obtain ⟨v, d, rfl, _⟩ := h
    rfl
  · have hu := hu_of hr
    have hu64 := hr.units
    obtain ⟨v, d, rfl, th, sr, k⟩ := h
    refine ⟨_, (pss_one (ps_ret (pe_and (pe_cG c_is_new hg hr (by decide) pass0 (pa_cons (pv 0) pa_nil)) (pe_one (pe_cmpR op_ne (pv 0) pe_str (nomark _)))))), ?_⟩
    refine ⟨_, rfl, v, d, rfl, th, sr, _, rfl, ?_⟩
    match hT : isNew d with
    | false =>
      have e : isOld d = false := by unfold isOld; rw [hT, Bool.false_and]
      rw [e] at k
      exact iteF k
    | true =>
      obtain ⟨z, rfl⟩ := isNew_str hT
      cases th_str th
      rw [isOld, hT] at k
      exact iteT ⟨_, rfl, rfl, k⟩

/-- the first error that is due for the words of an edit -/
def spCheck (Co Cn : Addr) : Sp := fun vs H Q E => ∃ v1 d1 v2 d2, vs = [v1, v2] ∧ Th H v1 d1 ∧ Srt d1 ∧ Th H v2 d2 ∧ Srt d2 ∧ (isOld d1 = false → ∀ d, H d = none → E (.ref Co) (some d) (upd H d (.xd [(("value" : Str), v1)]))) ∧
  (isOld d1 = true → isNew d2 = false → ∀ d, H d = none → E (.ref Cn) (some d) (upd H d (.xd [(("value" : Str), v2)]))) ∧ (isOld d1 = true → isNew d2 = true → Q .non H)
abbrev s_check_words : Stmt := top 22
theorem sc_check_words : FnScope ["old", "new"] ["old", "new"] (defScope s_check_words) := ⟨rfl, rfl, rfl, by decide +kernel, rfl, by decide +kernel, by decide +kernel⟩
theorem b_check_words {f : Addr} {fd : FuncData} (F : Fun K "check_words" "check_words" s_check_words f fd) (T : Txt mg) (c_is_old : CalG P w K mg base CX0 3 "is_old" (spTest isOld)) (c_is_new : CalG P w K mg base CX0 2 "is_new" (spTest isNew)) {C_InvalidOld : Addr} (c_InvalidOld : ClsI P w K mg base 1 "InvalidOld" C_InvalidOld ["value"]) {C_InvalidNew : Addr} (c_InvalidNew : ClsI P w K mg base 1 "InvalidNew" C_InvalidNew ["value"]) : FnG P w K mg base (L2.CX P w) 4 f fd ["old", "new"] (spCheck C_InvalidOld C_InvalidNew) := by
  refine okG F sc_check_words (fun vs H Q E h => ?_) (fun cdv A outer s H vs Q E hg hr h => ?_)
  · obtain ⟨v1, d1, v2, d2, rfl, _⟩ := h
    rfl
  · have hu := hu_of hr
    have hu64 := hr.units
    obtain ⟨v1, d1, v2, d2, rfl, t1, r1, t2, r2, k1, k2, k3⟩ := h
    refine ⟨_, (pss_cons (ps_if (pt_not (pt_val (pe_cG c_is_old hg hr (by decide) pass0 (pa_cons (pv 0) pa_nil)))) (pss_one (ps_raise rfl (takes_of rfl rfl rfl rfl) (pmk_k c_InvalidOld hg hr (by decide) pass0 (pa_cons (pv 0) pa_nil)))) pss_nil)
      (pss_one (ps_if (pt_not (pt_val (pe_cG c_is_new hg hr (by decide) pass0 (pa_cons (pv 1) pa_nil)))) (pss_one (ps_raise rfl (takes_of rfl rfl rfl rfl) (pmk_k c_InvalidNew hg hr (by decide) pass0 (pa_cons (pv 1) pa_nil)))) pss_nil))), ?_⟩
    refine ⟨_, rfl, v1, d1, rfl, t1, r1, _, rfl, ?_⟩
    match h1 : isOld d1 with
    | false => exact iteT ⟨_, rfl, rfl, fun d hd => k1 h1 d hd⟩
    | true =>
      refine iteF ⟨_, rfl, v2, d2, rfl, t2, r2, _, rfl, ?_⟩
      match h2 : isNew d2 with
      | false => exact iteT ⟨_, rfl, rfl, fun d hd => k2 h1 h2 d hd⟩
      | true => exact iteF (k3 h1 h2)

/-- Once(old, new) and its like: the words are looked at first -/
def spEdit (C Co Cn : Addr) : Sp := fun vs H Q E => ∃ a dx v1 d1 v2 d2, vs = [.ref a, v1, v2] ∧ H a = some (.ins C dx []) ∧ Th H v1 d1 ∧ Srt d1 ∧ Th H v2 d2 ∧ Srt d2 ∧ (isOld d1 = false → ∀ d, H d = none → E (.ref Co) (some d) (upd H d (.xd [(("value" : Str), v1)]))) ∧
  (isOld d1 = true → isNew d2 = false → ∀ d, H d = none → E (.ref Cn) (some d) (upd H d (.xd [(("value" : Str), v2)]))) ∧ (isOld d1 = true → isNew d2 = true → Q .non (upd H a (.ins C dx [("_old", v1), ("_new", v2)])))
theorem upd_twice {H : Hp} {a : Addr} {o1 o2 : HO} : upd (upd H a o1) a o2 = upd H a o2 := by
  funext b
  by_cases h : b = a
  · subst h; rw [upd_same, upd_same]
  · rw [upd_ne h, upd_ne h, upd_ne h]
abbrev m_Once : Stmt := mtd (top 25) 0
theorem sc_Once : FnScope ["self", "old", "new"] ["self", "old", "new"] (defScope m_Once) := ⟨rfl, rfl, rfl, by decide +kernel, rfl, by decide +kernel, by decide +kernel⟩
theorem b_Once {f C Co Cn : Addr} {fd : FuncData} (F : Fun K "__init__" "Once.__init__" m_Once f fd) (c_check_words : CalG P w K mg base (L2.CX P w) 4 "check_words" (spCheck Co Cn)) (cl : Cls K C) (n1 : NoAttr K C "_old") (n2 : NoAttr K C "_new") : FnG P w K mg base (L2.CX P w) 5 f fd ["self", "old", "new"] (spEdit C Co Cn) := by
  refine okG F sc_Once (fun vs H Q E h => ?_) (fun cdv A outer s H vs Q E hg hr h => ?_)
  · obtain ⟨a, dx, v1, d1, v2, d2, rfl, _⟩ := h
    rfl
  · obtain ⟨a, dx, v1, d1, v2, d2, rfl, ha, t1, r1, t2, r2, k1, k2, k3⟩ := h
    refine ⟨_, (pss_cons (ps_expr (pe_cG c_check_words hg hr (by decide) (passes_call (takes_of rfl rfl rfl rfl) (fun _ _ _ _ h => h)) (pa_cons (pv 1) (pa_cons (pv 2) pa_nil)))) (pss_cons (ps_fld (pv 0) (pv 1) rfl) (pss_one (ps_fld (pv 0) (pv 2) rfl)))), ?_⟩
    refine ⟨_, rfl, _, rfl, v1, d1, v2, d2, rfl, t1, r1, t2, r2, k1, k2, fun g1 g2 => ?_⟩
    refine ⟨_, rfl, _, rfl, a, C, dx, [], rfl, ha, cl, n1, by decide, ?_⟩
    refine ⟨_, rfl, _, rfl, a, C, dx, _, rfl, upd_same, cl, n2, Nat.lt_of_succ_le (Nat.le_of_ble_eq_true rfl), ?_⟩
    rw [upd_twice]
    exact k3 g1 g2
abbrev m_First : Stmt := mtd (top 26) 0
theorem sc_First : FnScope ["self", "old", "new"] ["self", "old", "new"] (defScope m_First) := ⟨rfl, rfl, rfl, by decide +kernel, rfl, by decide +kernel, by decide +kernel⟩
theorem b_First {f C Co Cn : Addr} {fd : FuncData} (F : Fun K "__init__" "First.__init__" m_First f fd) (c_check_words : CalG P w K mg base (L2.CX P w) 4 "check_words" (spCheck Co Cn)) (cl : Cls K C) (n1 : NoAttr K C "_old") (n2 : NoAttr K C "_new") : FnG P w K mg base (L2.CX P w) 5 f fd ["self", "old", "new"] (spEdit C Co Cn) := by
  refine okG F sc_First (fun vs H Q E h => ?_) (fun cdv A outer s H vs Q E hg hr h => ?_)
  · obtain ⟨a, dx, v1, d1, v2, d2, rfl, _⟩ := h
    rfl
  · obtain ⟨a, dx, v1, d1, v2, d2, rfl, ha, t1, r1, t2, r2, k1, k2, k3⟩ := h
    refine ⟨_, (pss_cons (ps_expr (pe_cG c_check_words hg hr (by decide) (passes_call (takes_of rfl rfl rfl rfl) (fun _ _ _ _ h => h)) (pa_cons (pv 1) (pa_cons (pv 2) pa_nil)))) (pss_cons (ps_fld (pv 0) (pv 1) rfl) (pss_one (ps_fld (pv 0) (pv 2) rfl)))), ?_⟩
    refine ⟨_, rfl, _, rfl, v1, d1, v2, d2, rfl, t1, r1, t2, r2, k1, k2, fun g1 g2 => ?_⟩
    refine ⟨_, rfl, _, rfl, a, C, dx, [], rfl, ha, cl, n1, by decide, ?_⟩
    refine ⟨_, rfl, _, rfl, a, C, dx, _, rfl, upd_same, cl, n2, Nat.lt_of_succ_le (Nat.le_of_ble_eq_true rfl), ?_⟩
    rw [upd_twice]
    exact k3 g1 g2
abbrev m_Perhaps : Stmt := mtd (top 27) 0
theorem sc_Perhaps : FnScope ["self", "old", "new"] ["self", "old", "new"] (defScope m_Perhaps) := ⟨rfl, rfl, rfl, by decide +kernel, rfl, by decide +kernel, by decide +kernel⟩
theorem b_Perhaps {f C Co Cn : Addr} {fd : FuncData} (F : Fun K "__init__" "Perhaps.__init__" m_Perhaps f fd) (c_check_words : CalG P w K mg base (L2.CX P w) 4 "check_words" (spCheck Co Cn)) (cl : Cls K C) (n1 : NoAttr K C "_old") (n2 : NoAttr K C "_new") : FnG P w K mg base (L2.CX P w) 5 f fd ["self", "old", "new"] (spEdit C Co Cn) := by
  refine okG F sc_Perhaps (fun vs H Q E h => ?_) (fun cdv A outer s H vs Q E hg hr h => ?_)
  · obtain ⟨a, dx, v1, d1, v2, d2, rfl, _⟩ := h
    rfl
  · obtain ⟨a, dx, v1, d1, v2, d2, rfl, ha, t1, r1, t2, r2, k1, k2, k3⟩ := h
    refine ⟨_, (pss_cons (ps_expr (pe_cG c_check_words hg hr (by decide) (passes_call (takes_of rfl rfl rfl rfl) (fun _ _ _ _ h => h)) (pa_cons (pv 1) (pa_cons (pv 2) pa_nil)))) (pss_cons (ps_fld (pv 0) (pv 1) rfl) (pss_one (ps_fld (pv 0) (pv 2) rfl)))), ?_⟩
    refine ⟨_, rfl, _, rfl, v1, d1, v2, d2, rfl, t1, r1, t2, r2, k1, k2, fun g1 g2 => ?_⟩
    refine ⟨_, rfl, _, rfl, a, C, dx, [], rfl, ha, cl, n1, by decide, ?_⟩
    refine ⟨_, rfl, _, rfl, a, C, dx, _, rfl, upd_same, cl, n2, Nat.lt_of_succ_le (Nat.le_of_ble_eq_true rfl), ?_⟩
    rw [upd_twice]
    exact k3 g1 g2
abbrev m_Every : Stmt := mtd (top 28) 0
theorem sc_Every : FnScope ["self", "old", "new"] ["self", "old", "new"] (defScope m_Every) := ⟨rfl, rfl, rfl, by decide +kernel, rfl, by decide +kernel, by decide +kernel⟩
theorem b_Every {f C Co Cn : Addr} {fd : FuncData} (F : Fun K "__init__" "Every.__init__" m_Every f fd) (c_check_words : CalG P w K mg base (L2.CX P w) 4 "check_words" (spCheck Co Cn)) (cl : Cls K C) (n1 : NoAttr K C "_old") (n2 : NoAttr K C "_new") : FnG P w K mg base (L2.CX P w) 5 f fd ["self", "old", "new"] (spEdit C Co Cn) := by
  refine okG F sc_Every (fun vs H Q E h => ?_) (fun cdv A outer s H vs Q E hg hr h => ?_)
  · obtain ⟨a, dx, v1, d1, v2, d2, rfl, _⟩ := h
    rfl
  · obtain ⟨a, dx, v1, d1, v2, d2, rfl, ha, t1, r1, t2, r2, k1, k2, k3⟩ := h
    refine ⟨_, (pss_cons (ps_expr (pe_cG c_check_words hg hr (by decide) (passes_call (takes_of rfl rfl rfl rfl) (fun _ _ _ _ h => h)) (pa_cons (pv 1) (pa_cons (pv 2) pa_nil)))) (pss_cons (ps_fld (pv 0) (pv 1) rfl) (pss_one (ps_fld (pv 0) (pv 2) rfl)))), ?_⟩
    refine ⟨_, rfl, _, rfl, v1, d1, v2, d2, rfl, t1, r1, t2, r2, k1, k2, fun g1 g2 => ?_⟩
    refine ⟨_, rfl, _, rfl, a, C, dx, [], rfl, ha, cl, n1, by decide, ?_⟩
    refine ⟨_, rfl, _, rfl, a, C, dx, _, rfl, upd_same, cl, n2, Nat.lt_of_succ_le (Nat.le_of_ble_eq_true rfl), ?_⟩
    rw [upd_twice]
    exact k3 g1 g2
theorem isT_all {z : Str} : isT (.str z) = z.cps.toList.all letS.cps.contains := by
  unfold isT
  rw [Bool.eq_iff_iff, ← lstrip_all]
  simp
abbrev s_lsigns : Stmt := top 48
theorem sc_lsigns : FnScope [] [] (defScope s_lsigns) := ⟨rfl, rfl, rfl, by decide +kernel, rfl, by decide +kernel, by decide +kernel⟩
theorem b_lsigns {f : Addr} {fd : FuncData} (F : Fun K "_law_signs" "_law_signs" s_lsigns f fd) (T : Txt mg) : FnG P w K mg base CX0 1 f fd [] spSigns := by
  refine okG0 F sc_lsigns (fun vs H Q E h => ?_) (fun cdv A outer s H vs Q E hg hr h => ?_)
  · obtain ⟨rfl, _⟩ := h
    rfl
  · have hu := hu_of hr
    have hu64 := hr.units
    obtain ⟨rfl, k⟩ := h
    exact ⟨_, (pss_one (ps_ret pe_str)), k⟩

end
end Vk
set_option Elab.async false
set_option maxRecDepth 100000
set_option maxHeartbeats 4000000
set_option linter.all false
namespace Vk
open PySem PySem.Spec PyProof.Rows L2 LamX
/-! ## the law's own call, one def of the text makes lambdas (its code object c, its table P) -/
theorem lawGT {P : Program} {w : World} {K : PySem.W.Frag} {mg mb : Str → Option Value} {CX : CXT} {k : Nat} {fa a c tP : Addr} {fd : FuncData} {x : Str} {sp : Sp} {s1 : Shared} {vs : List Value} {ns : List Int}
    (KX : K.In s1.heap) (gns : s1.heap.Ns mainGlobals mg) (bns : s1.heap.Ns builtinsNs mb) (bbt : ∀ x : Str, x ≠ "__name__" → mb x = bootBuiltins x) (nolim : s1.heap.NoLimit) (gens0 : s1.gens = #[])
    (tabAt : s1.heap.get? tP = some { cls := .none, data := .fields #[] }) (tabK : K.lookup tP = none) (code : PySem.W.CodeHd s1.heap c tP)
    (bmain : ∃ (bm : Addr) (ob : Obj), mg "__builtins__" = some (.ref bm) ∧ bm ≠ builtinsNs ∧ s1.heap.get? bm = some ob ∧ ob.cls = .type "module" ∧ ob.dict = some builtinsNs ∧ ob.data = .plain)
    (scr : s1.heap.get? a = some { cls := .type "list", data := .seq vs.toArray }) (hints : IntsAre vs ns) (short : ns.length ≤ sizeLine) (room : Room k callerA)
    (F : ∀ base : Heap, K.In base → base.Ns mainGlobals mg → TabB base mg c tP → FnG P w K mg base CX k fa fd [x] sp) (bind1 : ∀ (s : Shared) (u : Value), BindsTo s fd ⟨[u], []⟩ [(x, u)])
    (prom : ∀ H : Hp, H tP = some (.tbl #[]) → SqL K H a (ns.map V.int) → sp [.ref a] H (fun v _ => v = .bl true) fun _ _ _ => False)
    (noX : ∀ H e s2, CX [] H s1 (fun _ _ _ => False) e s2 → False) :
    codeAny (model P w) callerA (.call (.ref fa) ⟨[.ref a], []⟩) (fun r s2 => r = .ok (.ret (.bool true)) ∧ OldK s1.heap s2.heap ∧ s2.os = s1.os ∧ AllBare s2.gens) s1 := by
  have rel := vals_ints hints
  have aP : a ≠ tP := fun z => by
    rw [z, tabAt] at scr
    cases scr
  have main : ∀ H : Hp, H tP = some (.tbl #[]) → (∀ b u, H b = some u → b = tP ∨ (b = a ∧ ∃ ob xs, u = .frz ob (.lst xs))) → SqL K H a (ns.map V.int) → HOk P w H s1.heap → (∀ u, H a = some u → K.lookup a = none) →
      codeAny (model P w) callerA (.call (.ref fa) ⟨[.ref a], []⟩) (fun r s2 => r = .ok (.ret (.bool true)) ∧ OldK s1.heap s2.heap ∧ s2.os = s1.os ∧ AllBare s2.gens) s1 := by
    intro H hP only seq ok un1
    have apart : ∀ {b : Addr} {o : Obj}, s1.heap.get? b = some o → (∀ ws n, o.data ≠ .seq ws n) → o.data ≠ .fields #[] → H b = none := by
      intro b o e n1 n2
      match q : H b with
      | none => rfl
      | some u =>
        rcases only b u q with rfl | ⟨rfl, _⟩
        · rw [tabAt] at e
          cases e
          exact absurd rfl n2
        · rw [scr] at e
          cases e
          exact absurd rfl (n1 _ _)
    have nsAt : ∀ {b : Addr} {m : Str → Option Value}, s1.heap.Ns b m → (hidT s1.heap H).Ns b m := by
      rintro b m ⟨o, es, ep, e, d, r⟩
      exact ⟨o, es, ep, hidT_get e (apart e (fun ws n z => nomatch d.symm.trans z) (fun z => nomatch d.symm.trans z)), d, r⟩
    have inK : K.In (hidT s1.heap H) := by
      intro b o e
      refine hidT_get (KX b o e) ?_
      match q : H b with
      | none => rfl
      | some u =>
        rcases only b u q with rfl | ⟨rfl, _⟩
        · exact nomatch tabK.symm.trans e
        · exact nomatch (un1 u q).symm.trans e
    have limAt : (hidT s1.heap H).NoLimit := match nolim with | ⟨mc, h1, h2⟩ => ⟨mc, nsAt h1, h2⟩
    have mod1 : Mod K mg (hidT s1.heap H) := ⟨inK, nsAt gns, ⟨mb, nsAt bns, bbt⟩, limAt⟩
    have tb : TabB (hidT s1.heap H) mg c tP := by
      refine ⟨?_, ?_, fun z => ?_⟩
      · obtain ⟨o, us, file, tf, flags, tg, inF, text, tt, e1, r1, r2, r3, r⟩ := code
        refine ⟨o, us, file, tf, flags, tg, inF, text, tt, hidT_get e1 (apart e1 (fun ws n z => nomatch r2.symm.trans z) (fun z => ?_)), r1, r2, r3, r⟩
        have z2 := r2.symm.trans z
        cases z2
        simp at r3
      · obtain ⟨bm, ob, b1, b2, b3, b4, b5, b6⟩ := bmain
        refine ⟨bm, ob, b1, b2, fun q => ?_, fun q => ?_, hidT_get b3 (apart b3 (fun ws n z => nomatch b6.symm.trans z) (fun z => nomatch b6.symm.trans z)), b4, b5, b6⟩
        · obtain ⟨o, es, ep, e, hd, _⟩ := gns
          rw [q, e] at b3
          cases b3
          exact nomatch hd.symm.trans b6
        · rw [q, tabAt] at b3
          cases b3
          cases b6
      · obtain ⟨o, es, ep, e, hd, _⟩ := gns
        rw [z, tabAt] at e
        cases e
        cases hd
    have start0 : Env0 P w K mg (hidT s1.heap H) callerA [] s1 H := ⟨rfl, mod1, fun b o => of_hidT, Nat.le_of_eq (hidT_size s1.heap H), trivial, (fun b hb => absurd hb (List.not_mem_nil (a := b))), ok, AllBare.of_eq gens0⟩
    refine codeAny_mono ((F _ inK (nsAt gns) tb).run callerA [] s1 H ⟨[.ref a], []⟩ [.ref a] [.ref a] _ _ rfl room start0 (bind1 s1 (.ref a)) (.cons rfl .nil) (prom H hP seq)) ?_
    intro res s2 h
    match res, h with
    | .error e, h => exact (noX H e s2 h).elim
    | .ok .next, h => exact h.elim
    | .ok .brk, h => exact h.elim
    | .ok .cont, h => exact h.elim
    | .ok (.ret u), ⟨v, H2, os, bare, un, ok2, r2, (hv : v = .bl true)⟩ =>
      cases hv
      have hu : u = Value.bool true := r2
      cases hu
      obtain ⟨more, grown⟩ := un.tbls tP #[] hP
      have tab2 : s2.heap.get? tP = some { cls := .none, data := .fields (#[] ++ more) } := ok2 tP _ grown
      have rest : ∀ b o, b ≠ tP → s1.heap.get? b = some o → s2.heap.get? b = some o := by
        intro b o nb e
        match q : H b with
        | none => exact un.keep b o e q (fun z => nomatch z) (fun z => nomatch z)
        | some u =>
          rcases only b u q with rfl | ⟨rfl, ob, xs, rfl⟩
          · exact absurd rfl nb
          · have c1 := (ok b _ q).1
            have c2 := (ok2 b _ (un.frzs b ob _ q)).1
            exact c2.trans (c1.symm.trans e)
      refine ⟨rfl, ⟨fun b o e => ?_, fun b o e => ?_⟩, os, bare⟩
      · by_cases hb : b = tP
        · subst hb
          have e2 := tabAt.symm.trans e
          cases e2
          exact .inr (.inl ⟨(code.tab tabAt).isCodeTable, rfl, #[], more, rfl, tab2⟩)
        · exact .inl (rest b o hb e)
      · by_cases hb : b = tP
        · exact ⟨_, hb ▸ tab2⟩
        · exact ⟨o, rest b o hb e⟩
  match hk : K.lookup a with
  | some o =>
    have e := (KX a o hk).symm.trans scr
    cases e
    refine main (fun b => if b = tP then some (.tbl #[]) else none) (if_pos rfl) (fun b u z => ?_) (Or.inr ⟨_, vs.toArray, _, hk, rfl, rfl, rfl, ?_, ?_⟩) (fun b u z => ?_) (fun u z => nomatch (if_neg aP).symm.trans z)
    · by_cases hb : b = tP
      · exact .inl hb
      · exact nomatch (if_neg hb).symm.trans z
    · rw [List.size_toArray, hints.length]
      exact short
    · simpa using rel
    · by_cases hb : b = tP
      · subst hb
        have z2 := (if_pos rfl).symm.trans z
        cases z2
        exact tabAt
      · exact nomatch (if_neg hb).symm.trans z
  | none =>
    refine main (fun b => if b = a then some (.frz { cls := .type "list", data := .seq vs.toArray } (.lst (ns.map V.int))) else if b = tP then some (.tbl #[]) else none) ((if_neg aP.symm).trans (if_pos rfl)) (fun b u z => ?_) (Or.inl (Or.inr ⟨_, if_pos rfl⟩)) (fun b u z => ?_) (fun _ _ => hk)
    · by_cases ha : b = a
      · exact .inr ⟨ha, _, _, (Option.some.inj ((if_pos ha).symm.trans z)).symm⟩
      · by_cases hb : b = tP
        · exact .inl hb
        · exact nomatch ((if_neg ha).trans (if_neg hb)).symm.trans z
    · by_cases ha : b = a
      · subst ha
        have z1 := (if_pos rfl).symm.trans z
        cases z1
        exact ⟨scr, (by rw [List.length_map]; exact short), vs, _, rel, scr⟩
      · have z := (if_neg ha).symm.trans z
        by_cases hb : b = tP
        · subst hb
          have z2 := (if_pos rfl).symm.trans z
          cases z2
          exact tabAt
        · exact nomatch (if_neg hb).symm.trans z
theorem walkXT {l : PySem.W.OpenLaw} {n k : Nat} {q : Program} {loose : List Str} {XP : (Str → Option Value) → Heap → Prop} {YP : World → Heap → Prop} {d : DefRec} {K : Params → PySem.W.Frag} {CX : CXT} {sp : Addr → PySem.W.Frag → Sp} {x : Str}
    (hn : l.most = some n) (hn2 : n ≤ sizeLine) (hdf : d.params.defaults = []) (hr : Room k callerA) (hY : ∀ (w : World) (h : Heap), YP w h → (K w.params).In h)
    (F : ∀ (w : World) (mg : Str → Option Value) (fa : Addr) (h : Heap), (K w.params).In h → (∃ s0 mb, PySem.W.Ground q loose [] XP w s0 mg mb h) → mg d.name = some (.ref fa) →
      ∃ (fd : FuncData) (c tP : Addr), h.get? tP = some { cls := .none, data := .fields #[] } ∧ (K w.params).lookup tP = none ∧ PySem.W.CodeHd h c tP ∧ (∀ (s : Shared) (u : Value), BindsTo s fd ⟨[u], []⟩ [(x, u)]) ∧
        ∀ base : Heap, (K w.params).In base → base.Ns mainGlobals mg → TabB base mg c tP → FnG l.prog w (K w.params) mg base CX k fa fd [x] (sp tP (K w.params)))
    (hsp : ∀ (tP : Addr) (K : PySem.W.Frag) (H : Hp) (a : Addr) (ns : List Int), ns.length ≤ n → H tP = some (.tbl #[]) → SqL K H a (ns.map V.int) → sp tP K [.ref a] H (fun v _ => v = .bl true) fun _ _ _ => False)
    (noX : ∀ (H : Hp) (s : Shared) (e : Value) (s2 : Shared), CX [] H s (fun _ _ _ => False) e s2 → False) : PySem.W.WalkO q loose XP YP l.row.toRowW d [] (fun f vs => PySem.call f vs) := by
  refine Att.attach_call hn hdf ?_
  intro w s0 s1 mg mb fa o pm cd doc a vs ns G Y _ _ _ hmg scr hints hlen gens0
  obtain ⟨fd, c, tP, t1, t2, t3, hb, hF⟩ := F w mg fa _ (hY w _ Y) ⟨s0, mb, G⟩ hmg
  exact lawGT (hY w _ Y) G.T.g G.T.b G.T.builtins G.T.nolimit gens0 t1 t2 t3 G.T.bmain scr hints (Nat.le_trans hlen hn2) hr hF hb (fun H h1 h2 => hsp tP _ H a ns hlen h1 h2) (fun H => noX H s1)
theorem const_i {p : Program} {loose : List Str} {mean : ExcName → Option Value} {mg mb : Str → Option Value} {h : Heap} (T : PyProof.Rows.Top p loose mean mg mb h) {x : Str} {i : Int} (e : PyProof.Rows.valOf p x = some (.int i)) : ∃ u, mg x = some u ∧ RelV (.int i) u := by
  obtain ⟨v, hv, r⟩ := T.const x _ e
  cases r h with
  | int i t => exact ⟨_, hv, ⟨t, rfl⟩⟩
theorem const_s {p : Program} {loose : List Str} {mean : ExcName → Option Value} {mg mb : Str → Option Value} {h : Heap} (T : PyProof.Rows.Top p loose mean mg mb h) {x z : Str} (e : PyProof.Rows.valOf p x = some (.str z)) : ∃ u, mg x = some u ∧ RelV (.str z) u := by
  obtain ⟨v, hv, r⟩ := T.const x _ e
  cases r h with
  | str i t => exact ⟨_, hv, ⟨t, rfl⟩⟩
/-- the table of a def's code object -/
theorem tab_at {p : Program} {loose : List Str} {mean : ExcName → Option Value} {mg mb : Str → Option Value} {h : Heap} {K : PySem.W.Frag} {x : Str} {c tP : Addr} (T : PyProof.Rows.Top p loose mean mg mb h) (X : K.In h) (hr : ((PyProof.Rows.recsOf p).find? (fun e => e.name == x)).isSome = true) (ht : PySem.W.tabIn K x = some (c, tP)) (no : PySem.W.noTabs K = true) :
    h.get? tP = some { cls := .none, data := .fields #[] } ∧ K.lookup tP = none ∧ PySem.W.CodeHd h c tP := by
  obtain ⟨d, hd⟩ := Option.isSome_iff_exists.mp hr
  obtain ⟨h1, h2⟩ := PySem.W.tab_of T X hd ht
  refine ⟨h2, ?_, h1⟩
  match q : K.lookup tP with
  | none => rfl
  | some o =>
    have e := (X _ _ q).symm.trans h2
    cases e
    have z := List.all_eq_true.mp no _ (PySem.W.mem_of_lookupK q)
    exact nomatch (show false = true from z)
end Vk
set_option Elab.async false
set_option maxRecDepth 100000
set_option maxHeartbeats 4000000
set_option linter.all false
namespace Vk
open PySem PySem.Spec PyProof.Rows L2 LamX
/-! ## where the modules are told lies a dict -/
section
variable {X : Cx} {pins : List (Addr × Obj)} {σ : L2.St} {H : Hp} {s : Shared}
end
/-! ## == of a list and the empty list -/
section
open Builtin
theorem list_far {prog : Program} {w : World} {A : Around} {s : Shared} {l b : Addr} {items items2 : Array Value} (hl : s.heap.IsList l items) (hb : s.heap.IsList b items2) (hsz : items.size ≠ items2.size) (hu : A.units < cLine) (E Q : Value → Shared → Prop)
    (h : Q (.bool false) s) : wpAny (model prog w) A (richCompare .Eq (.ref l) (.ref b)) Q E s := by
  obtain ⟨⟨cls, dd, data, sl⟩, ho, hc, n, hd⟩ := id hl
  obtain ⟨⟨cls2, dd2, data2, sl2⟩, ho2, hc2, n2, hd2⟩ := id hb
  simp only at hc hd hc2 hd2
  subst hc hd hc2 hd2
  have ta : s.TypeIs (.ref l) "list" := ⟨_, ho, rfl⟩
  have tb : s.TypeIs (.ref b) "list" := ⟨_, ho2, rfl⟩
  refine wpAny_richCompare_same_room (op := .Eq) ta tb F.slot_list_eq (GQ.call_here F.slot_list_eq ta F.entry_list_eq (F.args_list_eq_2 _ _) ?_) hu
  have f3 := AutoSeq1.sub_list_list
  have hne : (items.size != items2.size) = true := by simpa using hsz
  obtain ⟨hp, g, d, tk, os⟩ := s
  wp_walk using AutoSeq1.wpAny_loadPart' ho, AutoSeq1.wpAny_loadPart' ho2
  exact ⟨(fun x => nomatch x), h⟩
end
def rEqNil (K : PySem.W.Frag) : R2 := fun x y H Q => ∃ a xs b, x = .ref a ∧ y = .ref b ∧ SqL K H a xs ∧ SqL K H b [] ∧ Q (.bl (decide (xs.length = 0))) H
theorem op_eqNil {X : Cx} (hu : X.A.units + 64 < cLine) : OpR X (compareOp .Eq) (rEqNil X.K) := by
  intro pins s σ H x y v u Q I rx ry h
  obtain ⟨a, xs, b, rfl, rfl, ha, hb, q⟩ := h
  cases (show v = Value.ref a from rx)
  cases (show u = Value.ref b from ry)
  obtain ⟨us, r1, p1, _⟩ := I.list ha
  obtain ⟨ws, r2, p2, _⟩ := I.list hb
  cases r2
  show wpAny (model X.prog X.w) X.A (richCompare .Eq (.ref a) (.ref b)) (EP X pins σ Q) X.xe s
  cases xs with
  | nil =>
    cases r1
    exact SeqAt.rcP_lists (e := fun _ => true) p1.isList p2.isList rfl (by omega) (fun j h1 h2 => absurd h1 (by simp)) _ _ ⟨.bl true, H, I, rfl, q⟩
  | cons y ys =>
    cases r1 with
    | cons r rs => exact list_far p1.isList p2.isList (by simp) (by omega) _ _ ⟨.bl false, H, I, rfl, q⟩
/-! ## the law's own call, one def of the text makes lambdas (its code object c, its table P) -/
end Vk
set_option Elab.async false
set_option maxRecDepth 100000
set_option maxHeartbeats 4000000
set_option linter.all false
namespace Vk
open L2 PySem PySem.Spec PyProof.Rows PySem.VkX
/-! ## what is made is new -/
def New (H : Hp) (v : V) : Prop := ∀ b, v = .ref b → H b = none
theorem New.same {H H1 : Hp} {v : V} (n : New H1 v) (s : Same H H1) : New H v := fun b e => by
  match q : H b with
  | none => rfl
  | some o => exact nomatch (s b o q).symm.trans (n b e)
theorem New.ext {H H1 : Hp} {v : V} {p c : Addr} {T : Nat} (n : New H1 v) (x : Ext p H H1) (P : Pen H1 p c T) : New H v := fun b e => by
  match q : H b with
  | none => rfl
  | some o =>
    obtain ⟨t, l, hp⟩ := P.is
    by_cases hb : b = p
    · rw [hb] at e
      exact nomatch hp.symm.trans (n p e)
    · exact nomatch (x b o q hb).symm.trans (n b e)
theorem Atm.new {H : Hp} {v : V} {d : PyData} (a : Atm v d) : New H v := fun b e => by
  subst e
  cases a
theorem New.ne {H : Hp} {v : V} {D : Addr} {o : HO} (n : New H v) (h : H D = some o) : v ≠ .ref D := fun e => nomatch h.symm.trans (n D e)
theorem Th.at {H : Hp} {v : V} {d : PyData} {D : Addr} {o : HO} (h : Th H v d) (n : v ≠ .ref D) : Th (upd H D o) v d := by
  cases h with
  | atm a => exact .atm a
  | @lst a xs ds e ne p => exact .lst ((upd_ne fun z => n (congrArg V.ref z)).trans e) ne p
  | @tup a xs ds e p => exact .tup ((upd_ne fun z => n (congrArg V.ref z)).trans e) p
  | @dct a ps e => exact .dct ((upd_ne fun z => n (congrArg V.ref z)).trans e)
section
variable {t te : TE} {ta : TA} {d : PyData} {ds : List PyData}
end
end Vk
set_option Elab.async false
set_option maxRecDepth 100000
set_option linter.all false
namespace Vk
open PySem PySem.Spec PyProof.Rows L2
section
variable {P : Program} {w : World} {K : PySem.W.Frag} {mg : Str → Option Value} {base : Heap}
/-- the strings within a tuple are short -/
def El (d : PyData) : Prop := ∀ l, d = .tuple l → ∀ x ∈ l, Srt x
theorem ok_letters {x : Str} (h : ∀ c ∈ x.cps.toList, c ∈ letS.cps.toList) : PyData.strOk x = true := by
  have all : ∀ c ∈ letS.cps.toList, c < 0x110000 := by decide +kernel
  show x.cps.all (· < 0x110000) = true
  rw [Array.all_eq_true_iff_forall_mem]
  intro c hc
  simpa using all c (h c (by simpa using hc))
abbrev s_ldraw : Stmt := top 45
theorem sc_ldraw : FnScope ["_law_pen_here", "_law_many", "_law_digit", "_law_turn", "_law_cell", "_law_primes", "_law_prime", "_law_drawn"] ["_law_pen_here", "_law_many"] (defScope s_ldraw) := ⟨rfl, rfl, rfl, by decide +kernel, rfl, by decide +kernel, by decide +kernel⟩
theorem b_ldraw {f : Addr} {fd : FuncData} (F : Fun K "_law_draw" "_law_draw" s_ldraw f fd) (T : Txt mg) : FnG P w K mg base CX0 1 f fd ["_law_pen_here", "_law_many"] spDraw := by
  refine okG0 F sc_ldraw (fun vs H Q E h => ?_) (fun cdv A outer s H vs Q E hg hr h => ?_)
  · obtain ⟨p, c, m, T0, rfl, _⟩ := h
    rfl
  · have hu := hu_of hr
    have hu64 := hr.units
    obtain ⟨p, c, m, T0, rfl, m0, m1, ⟨ns, t, l, hp, hc, hn, t0, tT, l0⟩, hT, k⟩ := h
    have ncp : c ≠ p := ne_of hc hp (by intro z; cases z)
    have lenns : (ns.map V.int).length = ns.length := List.length_map _
    refine ⟨_, (pss_cons (ps_if (pt_cmpR op_gt (pe_dget hu (pv 0) pe_str (fun _ _ => rfl)) pe_int (nomark _)) (pss_cons (ps_set (i := 2) sc_ldraw.nd rfl (Or.inl rfl) (pe_op op_mod (pe_callTy call_int1 (by rfl) T.int (by decide +kernel) (pa_cons (pe_dget hu (pv 0) pe_str (fun _ _ => rfl)) pa_nil)) (pv 1)))
      (pss_cons (ps_dput hu (pv 0) pe_str (pe_op op_fdiv (pe_dget hu (pv 0) pe_str (fun _ _ => rfl)) (pv 1)) rfl)
      (pss_one (ps_ret (pv 2))))) pss_nil)
      (pss_cons (ps_set (i := 3) sc_ldraw.nd rfl (Or.inl rfl) (pe_dget hu (pv 0) pe_str (fun _ _ => rfl)))
      (pss_cons (ps_dput hu (pv 0) pe_str (pe_op op_add (pv 3) pe_int) rfl)
      (pss_cons (ps_set (i := 4) sc_ldraw.nd rfl (Or.inl rfl) (pe_op op_add (pe_op op_mul pe_int (pv 3)) pe_int))
      (C8.pss_cut (ps_if (pt_cmpR (op_neD hu64) (pe_dget hu (pv 0) pe_str (fun _ _ => rfl)) (pe_lst pa_nil) (nomark _)) (pss_one (ps_set (i := 4) sc_ldraw.nd rfl (Or.inl rfl) (pe_ix ix_seq (pe_dget hu (pv 0) pe_str (fun _ _ => rfl)) (pe_op op_mod (pe_callTy call_int1 (by rfl) T.int (by decide +kernel) (pa_cons (pv 3) pa_nil)) (pe_callB call_len (by rfl) T.len (by decide +kernel) (pa_cons (pe_dget hu (pv 0) pe_str (fun _ _ => rfl)) pa_nil))) (fun _ _ => rfl)))) pss_nil)
      (C8.pss_cut (ps_if (PW.pt (pw_and (pt_cmpR op_lt (pv 3) (pe_callB call_len (by rfl) T.len (by decide +kernel) (pa_cons (pe_dget hu (pv 0) pe_str (fun _ _ => rfl)) pa_nil)) (nomark _)) (pw_and1 (pt_cmpR op_ge (pe_callB call_abs (by rfl) T.abs (by decide +kernel) (pa_cons (pv 4) pa_nil)) (pe_op op_pow pe_int pe_int) (nomark _))))) (pss_cons (ps_dput hu (pv 0) pe_str (pe_op op_fdiv (pe_op op_sub (pe_callB call_abs (by rfl) T.abs (by decide +kernel) (pa_cons (pv 4) pa_nil)) (pe_op op_pow pe_int pe_int)) (pv 1)) rfl)
      (pss_one (ps_ret (pe_op op_mod (pe_op op_sub (pe_callB call_abs (by rfl) T.abs (by decide +kernel) (pa_cons (pv 4) pa_nil)) (pe_op op_pow pe_int pe_int)) (pv 1))))) pss_nil)
      (pss_cons (ps_set (i := 5) sc_ldraw.nd rfl (Or.inl rfl) (pe_lst (pa_cons pe_int (pa_cons pe_int (pa_cons pe_int (pa_cons pe_int (pa_cons pe_int pa_nil)))))))
      (pss_cons (ps_set (i := 6) sc_ldraw.nd rfl (Or.inl rfl) (pe_ix ix_seq (pv 5) (pe_op op_mod (pe_callTy call_int1 (by rfl) T.int (by decide +kernel) (pa_cons (pv 3) pa_nil)) pe_int) (fun _ _ => rfl)))
      (pss_cons (ps_set (i := 7) sc_ldraw.nd rfl (Or.inl rfl) (pe_op op_mod (pe_callTy call_int1 (by rfl) T.int (by decide +kernel) (pa_cons (pe_op op_add (pe_op op_add (pe_op op_mul (pe_op op_mod (pe_callTy call_int1 (by rfl) T.int (by decide +kernel) (pa_cons (pv 4) pa_nil)) (pv 6)) pe_int) (pe_op op_mul (pv 3) (pe_op op_add (pe_op op_mul pe_int (pv 3)) pe_int))) pe_int) pa_nil)) (pv 6)))
      (pss_cons (ps_set (i := 7) sc_ldraw.nd rfl (Or.inl rfl) (pe_op op_mod (pe_callTy call_int1 (by rfl) T.int (by decide +kernel) (pa_cons (pe_op op_mul (pv 7) (pe_op op_add (pv 7) pe_int)) pa_nil)) (pe_ix ix_seq (pv 5) (pe_op op_mod (pe_callTy call_int1 (by rfl) T.int (by decide +kernel) (pa_cons (pe_op op_add (pv 3) pe_int) pa_nil)) pe_int) (fun _ _ => rfl))))
      (pss_one (ps_ret (pe_op op_mod (pe_callTy call_int1 (by rfl) T.int (by decide +kernel) (pa_cons (pe_op op_fdiv (pe_op op_mod (pe_callTy call_int1 (by rfl) T.int (by decide +kernel) (pa_cons (pe_op op_add (pe_op op_add (pe_op op_mul (pv 7) (pv 7)) (pe_op op_mul pe_int (pv 7))) (pv 3)) pa_nil)) pe_int) pe_int) pa_nil)) (pv 1)))))))))))))), ?_⟩
    refine ⟨_, rfl, p, _, rfl, get_left hp, _, _, rfl, rfl, _, rfl, ?_⟩
    refine ite2 (fun hl => ?_) (fun hl => ?_)
    · refine ⟨_, rfl, p, _, rfl, get_left hp, .inl ⟨_, rfl, ?_⟩⟩
      refine ⟨_, rfl, _, _, rfl, rfl, m0, ?_⟩
      refine ⟨_, rfl, p, _, rfl, get_left hp, _, rfl, _, _, rfl, rfl, ⟨by omega, by omega⟩, ?_⟩
      refine ⟨_, rfl, p, _, rfl, put_left hp, _, rfl, ?_⟩
      refine k _ _ (Int.emod_nonneg _ (by omega)) (Int.emod_lt_of_pos _ m0) ⟨ns, t, _, upd_same, (upd_ne ncp).trans hc, hn, t0, by omega, Int.ediv_nonneg l0 (by omega)⟩ Ext.at
    · refine ⟨_, rfl, p, _, rfl, get_turn hp, ?_⟩
      refine ⟨_, rfl, _, _, rfl, rfl, _, rfl, p, _, rfl, put_turn hp, ?_⟩
      generalize hH1 : upd H p (.dK (penL c (t + 1) l)) = H1
      have hp1 : H1 p = some (.dK (penL c (t + 1) l)) := by rw [← hH1]; exact upd_same
      have hc1 : H1 c = some (.lst (ns.map V.int)) := by rw [← hH1]; exact (upd_ne ncp).trans hc
      have e1 : Ext p H H1 := by rw [← hH1]; exact Ext.at
      refine ⟨_, rfl, _, _, rfl, rfl, .inl ⟨by decide, by decide⟩, _, _, rfl, rfl, ?_⟩
      refine ⟨fun σ' H2 => ∃ z : Int, σ' = [some (.ref p), some (.int m), none, some (.int t), some (.int z), none, none, none] ∧ H2 p = some (.dK (penL c (t + 1) l)) ∧ H2 c = some (.lst (ns.map V.int)) ∧ Ext p H H2, ?_, ?_⟩
      · refine ⟨_, rfl, p, _, rfl, get_cells hp1, by decide, fun b hb => ?_⟩
        have hp2 := up_new (u := .lst []) hp1 hb
        have hc2 := up_new (u := .lst []) hc1 hb
        refine ⟨.list (ns.map .int), .list [], .lst (SqL.of hc2) (ints_dp ns), .lst (SqL.of upd_same) .nil, ints_shaped ns, by decide +kernel, _, rfl, ?_⟩
        rw [ints_ne_nil]
        refine ite2 (fun hne => ?_) (fun _ => ?_)
        · have hpos : 0 < ns.length := by
            cases ns with
            | nil => simp at hne
            | cons a r => exact Nat.succ_pos _
          refine ⟨_, rfl, p, _, rfl, get_cells hp2, _, rfl, .inl ⟨_, rfl, _, rfl, p, _, rfl, get_cells hp2, _, _, rfl, .inl ⟨_, SqL.of hc2, rfl⟩, _, _, rfl, rfl, ?_, ?_⟩⟩
          · rw [lenns]; omega
          · obtain ⟨v, hv, hm⟩ := at_mod (xs := ns.map V.int) (i := t % ((ns.map V.int).length : Int)) (Int.emod_nonneg _ (by rw [lenns]; omega)) (Int.emod_lt_of_pos _ (by rw [lenns]; omega))
            obtain ⟨z, _, rfl⟩ := List.mem_map.mp hm
            refine .inl ⟨_, _, _, _, rfl, rfl, SqL.of hc2, hv, z, rfl, hp2, hc2, e1.set (e1.none_of ?_ hb)⟩
            exact (ne_of_none hp1 hb).symm
        · exact ⟨_, rfl, hp2, hc2, e1.set (e1.none_of (ne_of_none hp1 hb).symm hb)⟩
      · rintro σ2 H2 ⟨z, rfl, hp2, hc2, e2⟩
        refine ⟨fun σ' H3 => σ' = [some (.ref p), some (.int m), none, some (.int t), some (.int z), none, none, none] ∧ H3 = H2, ?_, ?_⟩
        · refine ⟨_, rfl, _, rfl, p, _, rfl, get_cells hp2, _, _, rfl, .inl ⟨_, SqL.of hc2, rfl⟩, _, _, rfl, rfl, _, rfl, ?_⟩
          refine ite2 (fun _ => ?_) (fun _ => ?_)
          · refine ⟨_, rfl, _, rfl, _, _, rfl, rfl, ⟨by decide, by decide, by decide⟩, _, _, rfl, rfl, _, rfl, ?_⟩
            refine ite2 (fun hbig => ?_) (fun _ => ?_)
            · have big := of_decide_eq_true hbig
              refine ⟨_, rfl, _, rfl, _, _, rfl, rfl, ⟨by decide, by decide, by decide⟩, _, _, rfl, rfl, _, rfl, _, _, rfl, rfl, ⟨by omega, by omega⟩, ?_⟩
              refine ⟨_, rfl, p, _, rfl, put_left hp2, ?_⟩
              refine ⟨_, rfl, _, rfl, _, _, rfl, rfl, ⟨by decide, by decide, by decide⟩, _, _, rfl, rfl, _, rfl, _, _, rfl, rfl, m0, ?_⟩
              refine k _ _ (Int.emod_nonneg _ (by omega)) (Int.emod_lt_of_pos _ m0) ⟨ns, t + 1, _, upd_same, (upd_ne ncp).trans hc2, hn, by omega, by omega, Int.ediv_nonneg (by omega) (by omega)⟩ (e2.trans Ext.at)
            · exact ⟨rfl, rfl⟩
          · exact ⟨rfl, rfl⟩
        · rintro σ3 H3 ⟨rfl, rfl⟩
          refine ⟨by decide, fun q hq => ?_⟩
          have hp3 := up_new (u := .lst (primes.map V.int)) hp2 hq
          have hc3 := up_new (u := .lst (primes.map V.int)) hc2 hq
          have e3 : Ext p H (upd H3 q (.lst (primes.map V.int))) := e2.set (e2.none_of (ne_of_none hp2 hq).symm hq)
          have hq3 : (upd H3 q (.lst (primes.map V.int))) q = some (.lst (primes.map V.int)) := upd_same
          have pick : ∀ i : Int, 0 ≤ i → i < 5 → ∃ z : Int, atI (primes.map V.int) i = some (.int z) ∧ 0 < z ∧ z < 2147483648 := fun i h0 h5 => by
            obtain ⟨v, hv, hm⟩ := at_mod (xs := primes.map V.int) h0 h5
            obtain ⟨z, rfl, hz⟩ := primes_in hm
            exact ⟨z, hv, hz⟩
          obtain ⟨a1, ha1, a1p, a1b⟩ := pick (t % 5) (Int.emod_nonneg _ (by decide)) (Int.emod_lt_of_pos _ (by decide))
          obtain ⟨a2, ha2, a2p, a2b⟩ := pick ((t + 2) % 5) (Int.emod_nonneg _ (by decide)) (Int.emod_lt_of_pos _ (by decide))
          refine ⟨_, rfl, _, rfl, .inl ⟨_, rfl, _, _, rfl, rfl, (by show (0 : Int) < 5; decide), .inl ⟨_, _, _, _, rfl, rfl, SqL.of hq3, ha1, ?_⟩⟩⟩
          have b1 := Int.emod_nonneg z (show a1 ≠ 0 by omega)
          have b2 := Int.emod_lt_of_pos z a1p
          refine ⟨_, rfl, .inl ⟨_, rfl, _, rfl, _, _, rfl, rfl, a1p, _, _, rfl, rfl, .inr ⟨by decide, by decide⟩, ?_⟩⟩
          refine ⟨_, rfl, _, rfl, _, _, rfl, rfl, .inl ⟨by decide, by decide⟩, _, _, rfl, rfl, _, _, rfl, rfl, .inl ⟨by omega, by omega⟩, _, _, rfl, rfl, _, _, rfl, rfl, .inl ⟨_, rfl, _, rfl, _, _, rfl, rfl, a1p, ?_⟩⟩
          have d1 := Int.emod_nonneg (z % a1 * 39373 + t * (30011 * t + 8117) + 23) (show a1 ≠ 0 by omega)
          have d2 := Int.emod_lt_of_pos (z % a1 * 39373 + t * (30011 * t + 8117) + 23) a1p
          refine ⟨_, rfl, _, rfl, _, _, rfl, rfl, _, _, rfl, rfl, .inl ⟨by omega, by omega⟩, .inl ⟨_, rfl, _, rfl, _, rfl, _, _, rfl, rfl, .inl ⟨_, rfl, _, _, rfl, rfl, (by show (0 : Int) < 5; decide), .inl ⟨_, _, _, _, rfl, rfl, SqL.of hq3, ha2, _, _, rfl, rfl, a2p, ?_⟩⟩⟩⟩
          have f1 := Int.emod_nonneg (((z % a1 * 39373 + t * (30011 * t + 8117) + 23) % a1) * (((z % a1 * 39373 + t * (30011 * t + 8117) + 23) % a1) + 69621)) (show a2 ≠ 0 by omega)
          have f2 := Int.emod_lt_of_pos (((z % a1 * 39373 + t * (30011 * t + 8117) + 23) % a1) * (((z % a1 * 39373 + t * (30011 * t + 8117) + 23) % a1) + 69621)) a2p
          refine ⟨_, rfl, _, rfl, _, _, rfl, rfl, .inl ⟨by omega, by omega⟩, _, rfl, _, _, rfl, rfl, .inl ⟨by decide, by decide⟩, _, _, rfl, rfl, _, rfl, _, _, rfl, rfl, .inl ⟨_, rfl, _, _, rfl, rfl, (by show (0 : Int) < 2147483549; decide), _, _, rfl, rfl, ⟨by decide, by decide⟩, .inl ⟨_, rfl, _, rfl, _, _, rfl, rfl, m0, ?_⟩⟩⟩
          exact k _ _ (Int.emod_nonneg _ (by omega)) (Int.emod_lt_of_pos _ m0) ⟨ns, t + 1, l, hp3, hc3, hn, by omega, by omega, l0⟩ e3

abbrev s_lpen : Stmt := top 44
theorem sc_lpen : FnScope ["_law_script"] ["_law_script"] (defScope s_lpen) := ⟨rfl, rfl, rfl, by decide +kernel, rfl, by decide +kernel, by decide +kernel⟩
theorem b_lpen {f : Addr} {fd : FuncData} (F : Fun K "_law_pen" "_law_pen" s_lpen f fd) (T : Txt mg) : FnG P w K mg base CX0 1 f fd ["_law_script"] (spPen K) := by
  refine okG0 F sc_lpen (fun vs H Q E h => ?_) (fun cdv A outer s H vs Q E hg hr h => ?_)
  · obtain ⟨a, ns, rfl, _⟩ := h
    rfl
  · have hu := hu_of hr
    have hu64 := hr.units
    obtain ⟨a, ns, rfl, hs, k⟩ := h
    refine ⟨_, (pss_one (ps_ret (pe_disp (pps_cons pe_str (pe_callTy call_list_of (by rfl) T.list (by decide +kernel) (pa_cons (pe_slice sl_list (pv 0) po_none (po_some pe_int)) pa_nil)) (pps_cons pe_str pe_int (pps_cons pe_str pe_int pps_nil))) (by rfl) (by rfl) (fun z => by cases z) (by decide)))), ?_⟩
    intro p hp
    obtain ⟨ms, hms, hml⟩ := cut63 ns
    refine ⟨_, rfl, 63, rfl, a, _, rfl, (same_new hp).seq hs, fun q hq => ?_⟩
    refine ⟨q, _, rfl, .inl (SqL.of upd_same), fun c hc => ?_⟩
    rw [hms] at hc ⊢
    have nqp : p ≠ q := fun e => by rw [← e, upd_same] at hq; cases hq
    have ncp : p ≠ c := fun e => by rw [← e, upd_ne nqp, upd_same] at hc; cases hc
    have hp2 : (upd (upd (upd H p (.dK [])) q (.lst (ms.map V.int))) c (.lst (ms.map V.int))) p = some (.dK []) := by rw [upd_ne ncp, upd_ne nqp, upd_same]
    refine ⟨hp2, penL c 0 0, rfl, (by show 3 ≤ 15; decide), ?_⟩
    rw [pen_made]
    refine k p c _ hp ⟨ms, 0, 0, upd_same, by rw [upd_ne ncp.symm, upd_same], hml, Int.le_refl _, Int.le_refl _, Int.le_refl _⟩ fun b o e => ?_
    rw [upd_ne (ne_of_none e hp), upd_ne ?_, upd_ne ?_, upd_ne (ne_of_none e hp)]
    · exact e
    · rintro rfl
      rw [upd_ne (ne_of_none e hp)] at hq
      rw [hq] at e
      cases e
    · rintro rfl
      by_cases ebq : b = q
      · subst ebq
        rw [upd_ne nqp.symm] at hq
        rw [hq] at e
        cases e
      · rw [upd_ne ebq, upd_ne (ne_of_none e hp)] at hc
        rw [hc] at e
        cases e

abbrev s_lpick : Stmt := top 46
theorem sc_lpick : FnScope ["_law_pen_here", "_law_options"] ["_law_pen_here", "_law_options"] (defScope s_lpick) := ⟨rfl, rfl, rfl, by decide +kernel, rfl, by decide +kernel, by decide +kernel⟩
theorem b_lpick {f : Addr} {fd : FuncData} (F : Fun K "_law_pick" "_law_pick" s_lpick f fd) (T : Txt mg) (c_ldraw : CalG P w K mg base CX0 1 "_law_draw" spDraw) : FnG P w K mg base CX0 2 f fd ["_law_pen_here", "_law_options"] (spPick K) := by
  refine okG0 F sc_lpick (fun vs H Q E h => ?_) (fun cdv A outer s H vs Q E hg hr h => ?_)
  · obtain ⟨p, c, o, xs, T0, rfl, _⟩ := h
    rfl
  · have hu := hu_of hr
    have hu64 := hr.units
    obtain ⟨p, c, o, xs, T0, rfl, ho, hne, hlen, hpen, hT, k⟩ := h
    have hpos : 0 < xs.length := List.length_pos_iff.mpr hne
    have hr1 : Room 1 _ := hr
    refine ⟨_, (pss_one (ps_ret (pe_ix ix_seq (pv 1) (pe_cG c_ldraw hg hr (by decide) pass0 (pa_cons (pv 0) (pa_cons (pe_callB call_len (by rfl) T.len (by decide +kernel) (pa_cons (pv 1) pa_nil)) pa_nil))) (fun _ _ => rfl)))), ?_⟩

    cases ho with
    | str z hz =>
      have e := one_len z
      have hz24 : z.length ≤ sizeLine := Nat.le_trans hz (by decide)
      refine ⟨_, rfl, _, rfl, _, rfl, _, _, rfl, ⟨hz24, rfl⟩, p, c, _, T0, rfl, by omega, by omega, hpen, hT, fun d H' d0 d1 hpen' x => ?_⟩
      obtain ⟨e1, hc, hm⟩ := at_mod (xs := z.cps.toList) d0 (by rw [show (z.cps.toList.length : Int) = (z.length : Int) from congrArg Nat.cast Array.length_toList]; exact d1)
      exact .inr (.inr ⟨z, d, e1, rfl, rfl, hz24, hc, k _ _ (List.mem_map_of_mem (f := OneS) hm) hpen' x⟩)
    | lst hs =>
      refine ⟨_, rfl, _, rfl, _, rfl, _, _, rfl, .inl ⟨_, hs, rfl⟩, p, c, _, T0, rfl, by omega, by omega, hpen, hT, fun d H' d0 d1 hpen' x => ?_⟩
      obtain ⟨v, hv, hm⟩ := at_mod d0 d1
      exact .inl ⟨_, xs, d, v, rfl, rfl, hpen.keepL x hs, hv, k _ _ hm hpen' x⟩
    | tup hs =>
      refine ⟨_, rfl, _, rfl, _, rfl, _, _, rfl, .inr ⟨_, hs, rfl⟩, p, c, _, T0, rfl, by omega, by omega, hpen, hT, fun d H' d0 d1 hpen' x => ?_⟩
      obtain ⟨v, hv, hm⟩ := at_mod d0 d1
      exact .inr (.inl ⟨_, xs, d, v, rfl, rfl, hpen.keepT x hs, hv, k _ _ hm hpen' x⟩)

abbrev s_lfew : Stmt := top 49
theorem sc_lfew : FnScope ["_law_pen_here", "_law_some", "_law_rare", "_law_k"] ["_law_pen_here"] (defScope s_lfew) := ⟨rfl, rfl, rfl, by decide +kernel, rfl, by decide +kernel, by decide +kernel⟩
theorem b_lfew {f : Addr} {fd : FuncData} (F : Fun K "_law_few" "_law_few" s_lfew f fd) (T : Txt mg) (c_lpick : CalG P w K mg base CX0 2 "_law_pick" (spPick K)) (t_signs : FnT P w K mg base 1 "_law_signs" letS) : FnG P w K mg base CX0 3 f fd ["_law_pen_here"] spFew := by
  refine okG0 F sc_lfew (fun vs H Q E h => ?_) (fun cdv A outer s H vs Q E hg hr h => ?_)
  · obtain ⟨p, pc, T0, rfl, _⟩ := h
    rfl
  · have hu := hu_of hr
    have hu64 := hr.units
    obtain ⟨p, pc, T0, rfl, hpen, hT, k⟩ := h
    have hr2 : Room 2 _ := hr
    refine ⟨_, (pss_cons (ps_set (i := 1) sc_lfew.nd rfl (Or.inr rfl) (pe_lst (pa_cons (pe_cG c_lpick hg hr (by decide) pass0 (pa_cons (pv 0) (pa_cons (pe_replT t_signs hr (by decide) (by decide +kernel) (by decide +kernel)) pa_nil))) (pa_cons (pe_cG c_lpick hg hr (by decide) pass0 (pa_cons (pv 0) (pa_cons pe_str pa_nil))) (pa_cons (pe_cG c_lpick hg hr (by decide) pass0 (pa_cons (pv 0) (pa_cons pe_str pa_nil))) pa_nil)))))
      (pss_cons (ps_set (i := 2) sc_lfew.nd rfl (Or.inl rfl) (pe_join pe_str (pe_lc (own := [("_law_k", 3)]) (g := gName 3) rfl sc_lfew.nd (pi_range1 rfl T.range (pa_cons pe_int pa_nil)) (blkOk_by (own := [("_law_k", 3)]) (N := ["_law_pen_here", "_law_some", "_law_rare", "_law_k"]) (sc := defScope s_lfew) (by decide +kernel)) (fun _ _ _ _ _ => (pg_name (i := 3) sc_lfew.nd rfl (Or.inl rfl))) (fun _ _ _ _ _ => (pts_one (pt_cmpR (op_notIn_seqK (K := K) rfl) (pe_ix (ix_seqK (K := K) rfl) (pv 1) (pv 3) (fun _ _ => rfl)) (pe_slice (sl_listK (K := K) rfl) (pv 1) po_none (po_some (pv 3))) (by rfl)))) (fun _ _ _ _ _ => (pe_ix (ix_seqK (K := K) rfl) (pv 1) (pv 3) (fun _ _ => rfl))))))
      (pss_one (ps_ret (pe_cG c_lpick hg hr (by decide) pass0 (pa_cons (pv 0) (pa_cons (pe_lst (pa_cons pe_str (pa_cons pe_str (pa_cons pe_str (pa_cons pe_str (pa_cons pe_str (pa_cons pe_str (pa_cons pe_str (pa_cons pe_str (pa_cons pe_str (pa_cons (pv 2) pa_nil))))))))))) pa_nil))))))), ?_⟩
    refine ⟨_, rfl, p, pc, _, _, T0, rfl, .str _ (by rw [noq_len]; decide), opts_ne (by rw [noq_len]; decide), opts_le (by rw [noq_len]; decide), hpen, by omega, fun v1 H1 m1 P1 x1 => ?_⟩
    obtain ⟨c1, rfl, k1⟩ := ones_of m1
    refine ⟨_, rfl, p, pc, _, _, T0 + 1, rfl, .str _ (by decide), opts_ne (by decide), opts_le (by decide), P1, by omega, fun v2 H2 m2 P2 x2 => ?_⟩
    obtain ⟨c2, rfl, k2⟩ := ones_of m2
    refine ⟨_, rfl, p, pc, _, _, T0 + 2, rfl, .str _ (by decide), opts_ne (by decide), opts_le (by decide), P2, by omega, fun v3 H3 m3 P3 x3 => ?_⟩
    obtain ⟨c3, rfl, k3⟩ := ones_of m3
    refine ⟨by show 3 ≤ sizeLine; decide, fun a ha => ?_⟩
    have hin : ∀ c ∈ [c1, c2, c3], c ∈ letS.cps.toList := by
      intro c hc
      simp only [List.mem_cons, List.not_mem_nil, or_false] at hc
      rcases hc with rfl | rfl | rfl
      · exact noq_in k1
      · exact (by decide +kernel : ∀ c ∈ (Str.ofString "yz").cps.toList, c ∈ letS.cps.toList) _ k2
      · exact (by decide +kernel : ∀ c ∈ (Str.ofString "(\n").cps.toList, c ∈ letS.cps.toList) _ k3
    have P4 := P3.new (o := .lst ([c1, c2, c3].map OneS)) ha
    have x4 : Ext p H (upd H3 a (.lst ([c1, c2, c3].map OneS))) := (x1.trans (x2.trans x3)).trans (Ext.new ha)
    have ha4 : (upd H3 a (.lst ([c1, c2, c3].map OneS))) a = some (.lst ([c1, c2, c3].map OneS)) := upd_same
    generalize hxs : ([c1, c2, c3].map OneS : List V) = xs at ha4 P4 x4
    have hxl : xs.length = 3 := by rw [← hxs]; rfl
    have hxf : xs.all flatV = true := by rw [← hxs]; exact ones_flat _
    have hxm : ∀ v ∈ xs, ∃ c, v = OneS c ∧ c ∈ [c1, c2, c3] := by rw [← hxs]; exact fun v hv => one_mem hv
    have ha5 : (upd H3 a (.lst ([c1, c2, c3].map OneS))) = upd H3 a (.lst xs) := by rw [hxs]
    generalize hH4 : upd H3 a (.lst xs) = H4 at ha4 P4 x4 ha5
    refine ⟨⟨_, rfl⟩, ?_⟩
    show (iRng1 (tCons (tC (V.int 3)) tNil)) _ (upd H3 a (.lst ([c1, c2, c3].map OneS))) _
    rw [ha5]
    refine ⟨3, rfl, by decide, by decide, fun D hD => lc_range (lo := 0) (n := 3) (fun i H' => ∃ cs : List Nat, H' D = some (.lst (cs.map OneS)) ∧ cs.length ≤ i ∧ (1 ≤ i → 1 ≤ cs.length) ∧ (∀ c ∈ cs, c ∈ letS.cps.toList) ∧ Same H4 H') ?_ ?_ ?_⟩
    · exact ⟨[], upd_same, Nat.le_refl _, fun h => by omega, fun c hc => absurd hc List.not_mem_nil, same_new hD⟩
    · rintro i H5 hi ⟨cs, hDc, hcl, hc1, hcm, sm⟩
      obtain ⟨v, hv, hvm⟩ := at_mod (xs := xs) (i := 0 + (i : Int)) (by omega) (by rw [hxl]; omega)
      obtain ⟨c, rfl, hcc⟩ := hxm v hvm
      have sa : SqL K H5 a xs := sm.seq (SqL.of ha4)
      refine ⟨rfl, _, rfl, _, rfl, .inl ⟨a, xs, _, _, rfl, rfl, sa, hv, _, rfl, _, rfl, _, rfl, a, xs, rfl, sa, fun q hq => ⟨q, _, rfl, .inl (SqL.of upd_same), rfl, cutV_all hxf, _, rfl, ?_⟩⟩⟩
      have sq : Same H4 (upd H5 q (.lst (cutV xs none (some (0 + (i : Int)))))) := sm.trans (same_new hq)
      have dq := up_new (u := .lst (cutV xs none (some (0 + (i : Int))))) hDc hq
      refine ite2 (fun hb => ?_) (fun hb => ?_)
      · refine ⟨_, rfl, _, rfl, .inl ⟨a, xs, _, _, rfl, rfl, sq.seq (SqL.of ha4), hv, _, dq, by rw [List.length_map]; exact Nat.lt_of_le_of_lt hcl (Nat.lt_trans hi (by decide)), cs ++ [c], ?_, ?_, fun _ => ?_, ?_, ?_⟩⟩
        · rw [upd_same, List.map_append]
          rfl
        · rw [List.length_append]; exact Nat.add_le_add_right hcl 1
        · rw [List.length_append]; exact Nat.le_add_left _ _
        · intro d hd
          rcases List.mem_append.mp hd with hd | hd
          · exact hcm d hd
          · rw [List.mem_singleton.mp hd]
            exact hin c hcc
        · intro b o e
          by_cases hbD : b = D
          · rw [hbD, hD] at e
            cases e
          · exact (upd_ne hbD).trans (sq b o e)
      · refine ⟨cs, dq, Nat.le_succ_of_le hcl, fun _ => ?_, hcm, sq⟩
        by_cases h0 : i = 0
        · subst h0
          refine absurd ?_ hb
          show (if true = true then !inV (OneS c) (cutV xs none (some (0 + ((0 : Nat) : Int)))) else inV (OneS c) (cutV xs none (some (0 + ((0 : Nat) : Int))))) = true
          rw [show (0 : Int) + ((0 : Nat) : Int) = 0 from rfl, cutV_zero]
          rfl
        · exact hc1 (by omega)
    · rintro H5 ⟨cs, hDc, hcl, hc1, hcm, sm⟩
      refine ⟨_, D, cs.map fun c => ⟨#[c]⟩, rfl, rfl, .inl (SqL.of (by rw [ones_map]; exact hDc)), ?_, ?_⟩
      · rw [ones_len]
        show cs.length + _ * 0 ≤ _
        omega
      · rw [join_ones]
        have fz : Few ⟨cs.toArray⟩ := few_ones (hc1 (by decide)) hcl hcm
        have x5 : Ext p H H5 := x4.trans (Ext.same sm)
        have P5 := P4.stay sm
        refine ⟨_, rfl, _, rfl, by show 10 ≤ sizeLine; decide, fun q hq => ?_⟩
        refine ⟨p, pc, _, _, T0 + 3, rfl, .lst (SqL.of upd_same), by simp, by show 10 ≤ 1000; decide, P5.new hq, by omega, fun v H6 hm P6 x6 => ?_⟩
        have fin : ∃ z, v = .str z ∧ Few z := by
          simp only [List.mem_cons, List.not_mem_nil, or_false] at hm
          rcases hm with rfl | rfl | rfl | rfl | rfl | rfl | rfl | rfl | rfl | rfl
          all_goals first
            | exact ⟨_, rfl, fz⟩
            | exact ⟨_, rfl, few_of (by decide +kernel)⟩
        obtain ⟨z, rfl, hz⟩ := fin
        exact k z H6 hz P6 (x5.trans ((Ext.new hq).trans x6))

abbrev s_lword : Stmt := top 50
theorem sc_lword : FnScope ["_law_pen_here", "_law_signs_here", "_law_least", "_law_most_letters", "_law_many", "_law_k"] ["_law_pen_here", "_law_signs_here", "_law_least", "_law_most_letters"] (defScope s_lword) := ⟨rfl, rfl, rfl, by decide +kernel, rfl, by decide +kernel, by decide +kernel⟩
theorem b_lword {f : Addr} {fd : FuncData} (F : Fun K "_law_word" "_law_word" s_lword f fd) (T : Txt mg) (c_ldraw : CalG P w K mg base CX0 1 "_law_draw" spDraw) (c_lpick : CalG P w K mg base CX0 2 "_law_pick" (spPick K)) : FnG P w K mg base CX0 3 f fd ["_law_pen_here", "_law_signs_here", "_law_least", "_law_most_letters"] spWord := by
  refine okG0 F sc_lword (fun vs H Q E h => ?_) (fun cdv A outer s H vs Q E hg hr h => ?_)
  · obtain ⟨p, pc, z, a, b, T0, rfl, _⟩ := h
    rfl
  · have hu := hu_of hr
    have hu64 := hr.units
    obtain ⟨p, pc, z, a, b, T0, rfl, hab, hb, hz1, hz, hpen, hT, k⟩ := h
    have hr2 : Room 2 _ := hr
    refine ⟨_, (pss_cons (ps_set (i := 4) sc_lword.nd rfl (Or.inl rfl) (pe_op op_add (pv 2) (pe_cG c_ldraw hg hr (by decide) pass0 (pa_cons (pv 0) (pa_cons (pe_op op_add (pe_op op_sub (pv 3) (pv 2)) pe_int) pa_nil)))))
      (pss_one (ps_ret (pe_join pe_str (pe_lc (own := [("_law_k", 5)]) (g := gName 5) (tt := tYes) rfl sc_lword.nd (pi_range1 rfl T.range (pa_cons (pv 4) pa_nil)) (blkOk_by (own := [("_law_k", 5)]) (N := ["_law_pen_here", "_law_signs_here", "_law_least", "_law_most_letters", "_law_many", "_law_k"]) (sc := defScope s_lword) (by decide +kernel)) (fun _ _ _ _ _ => (pg_name (i := 5) sc_lword.nd rfl (Or.inl rfl))) (fun _ _ _ _ _ => pts_nil) (fun _ _ _ _ _ => (pe_cG c_lpick hg hr (by decide) pass0 (pa_cons (pv 0) (pa_cons (pv 1) pa_nil))))))))), ?_⟩
    refine ⟨_, rfl, _, rfl, _, rfl, _, rfl, _, _, rfl, rfl, _, _, rfl, rfl, p, pc, _, T0, rfl, by omega, by omega, hpen, by omega, fun d H1 d0 d1 P1 x1 => ?_⟩
    refine ⟨_, _, rfl, rfl, ⟨_, rfl⟩, ?_⟩
    obtain ⟨n, rfl⟩ : ∃ n : Nat, d = (n : Int) := ⟨d.toNat, by omega⟩
    refine ⟨_, rfl, _, rfl, by omega, by omega, fun D hD => ?_⟩
    have en : ((a : Int) + (n : Int)).toNat = a + n := by omega
    have hn : a + n ≤ b := by omega
    obtain ⟨nDp, nDc⟩ := P1.apart hD
    refine lc_range (lo := 0) (n := ((a : Int) + (n : Int)).toNat) (fun i H' => ∃ cs : List Nat, H' D = some (.lst (cs.map OneS)) ∧ cs.length = i ∧ (∀ c ∈ cs, c ∈ z.cps.toList) ∧ Pen H' p pc (T0 + 1 + i) ∧ Ext p H H') ?_ ?_ ?_
    · refine ⟨[], upd_same, rfl, fun c hc => absurd hc List.not_mem_nil, P1.new hD, x1.trans (Ext.new hD)⟩
    · rintro i H2 hi ⟨cs, hDc, hcl, hcm, P2, x2⟩
      rw [en] at hi
      refine ⟨rfl, _, rfl, _, rfl, p, pc, _, _, T0 + 1 + i, rfl, .str z hz, opts_ne hz1, opts_le hz, P2, by omega, fun v H3 hm P3 x3 => ?_⟩
      obtain ⟨c, rfl, hc⟩ := ones_of hm
      have d3 := P2.keepI x3 hDc
      refine ⟨_, d3, by rw [List.length_map, hcl]; exact Nat.lt_of_lt_of_le hi (Nat.le_trans hn (Nat.le_trans hb (by decide))), cs ++ [c], ?_, by rw [List.length_append, hcl]; rfl, ?_, ?_, ?_⟩
      · rw [upd_same, List.map_append]
        rfl
      · intro e he
        rcases List.mem_append.mp he with he | he
        · exact hcm e he
        · rw [List.mem_singleton.mp he]
          exact hc
      · exact P3.set nDp nDc
      · exact fun b o e hb => by
          rw [upd_ne (fun q => by rw [q, x1.none_of nDp hD] at e; cases e)]
          exact x3 b o (x2 b o e hb) hb
    · rintro H2 ⟨cs, hDc, hcl, hcm, P2, x2⟩
      refine ⟨_, D, cs.map fun c => ⟨#[c]⟩, rfl, rfl, .inl (SqL.of (by rw [ones_map]; exact hDc)), ?_, ?_⟩
      · rw [ones_len]
        show cs.length + _ * 0 ≤ _
        omega
      · rw [join_ones]
        rw [en] at hcl P2
        exact k _ H2 ⟨by show a ≤ cs.toArray.size; rw [List.size_toArray]; omega, by show cs.toArray.size ≤ b; rw [List.size_toArray]; omega, by simpa using hcm⟩ (P2.mono (by omega)) x2

end
end Vk
set_option Elab.async false
set_option maxRecDepth 100000
set_option maxHeartbeats 4000000
set_option linter.all false
namespace Vk
open L2 PySem PySem.Spec PyProof.Rows PySem.VkX
/-! ## several except clauses, two classes in one among them -/
inductive Cly
  | only (c : Value) (ts : Sui)
  | named (c : Value) (i : Nat) (ts : Sui)
  | pair (c1 c2 : Value) (ts : Sui)
inductive ClyOk (X : Cx) : List ExceptHandler → List Cly → Prop
  | nil : ClyOk X [] []
  | only {x : Str} {c : Value} {ts : Sui} {s0 : Stmt} {ss : List Stmt} {p1 p2 : Pos} {hs : List ExceptHandler} {l : List Cly} (hc : Names X x c) (su : SuiOk X (s0 :: ss) ts) (r : ClyOk X hs l) : ClyOk X (.ExceptHandler (some (.Name x p1)) none (s0 :: ss) p2 :: hs) (.only c ts :: l)
  | named {x n : Str} {c : Value} {i : Nat} {ts : Sui} {s0 : Stmt} {ss : List Stmt} {p1 p2 : Pos} {hs : List ExceptHandler} {l : List Cly} (hi : X.N[i]? = some n) (hl : X.env.kindOf n = some .local) (hc : Names X x c) (su : SuiOk X (s0 :: ss) ts) (r : ClyOk X hs l) :
      ClyOk X (.ExceptHandler (some (.Name x p1)) (some n) (s0 :: ss) p2 :: hs) (.named c i ts :: l)
  | pair {x y : Str} {c1 c2 : Value} {ts : Sui} {s0 : Stmt} {ss : List Stmt} {p1 p2 p3 pt : Pos} {kk : Nat} {hs : List ExceptHandler} {l : List Cly} (hx : Names X x c1) (hy : Names X y c2) (su : SuiOk X (s0 :: ss) ts) (r : ClyOk X hs l) :
      ClyOk X (.ExceptHandler (some (.Tuple [.Name x p1, .Name y p3] kk pt)) none (s0 :: ss) p2 :: hs) (.pair c1 c2 ts :: l)
section
variable {X : Cx} {body : List Stmt} {e0 : ExceptHandler} {es : List ExceptHandler} {l : List Cly} {pos : Pos} {tb : WX → TS} {W0 : WX}
end
end Vk
set_option Elab.async false
set_option maxRecDepth 100000
set_option linter.all false
set_option maxHeartbeats 4000000
namespace Vk
open PySem PySem.Spec PyProof.Rows L2
/-! ## what is never reached -/
/-! ## methods with nothing under way -/
structure MthG (P : Program) (w : World) (K : PySem.W.Frag) (mg : Str → Option Value) (base : Heap) (CX : CXT) (k : Nat) (C : Addr) (m : Str) (sp : Sp) : Prop where
  ex : ∃ (f : Addr) (fd : FuncData) (ps : List Str), Meth K C m f ∧ FnG P w K mg base CX k f fd ps sp ∧ Binds K fd ps []
section
variable {X : Cx} {CX : CXT} {k j : Nat} {C : Addr} {m : Str} {sp : Sp} {E : XK} {o e : Expr} {es : List Expr} {ta : TE} {t : TA} {apos pos : Pos}
theorem pe_methG {pl : Sem Bool} (he : PE X o ta) (c : Cls X.K C) (M : MthG X.prog X.w X.K X.mg X.base CX k C m sp) (hg : X.A.guards = some []) (hr : Room j X.A) (hk : k ≤ j) (hx : Passes CX X E) (ha : PA X (e :: es) t)
    (hst : starEach (e :: es) X.env = (false, eval e X.env) :: starEach es X.env := by rfl) (hpl : (backTo pos (starEach es X.env)).any (·.1) = false := by rfl)
    (ht : eval (.Call (.Attribute o m apos) (e :: es) [] pos) X.env = (do
      let ov ← eval o X.env
      standAt apos.atName
      let (f, first) ← holding [ov] (getMethod ov m pl)
      callWith pos f first (backTo pos (starEach (e :: es) X.env)) (backToKw pos (keywordEach [] X.env))) := by rfl) :
    PE X (.Call (.Attribute o m apos) (e :: es) [] pos) (tMeth C m sp [] E ta t) := by
  obtain ⟨f, fd, ps, hm, F, hb⟩ := M.ex
  refine ⟨fun pins s σ H Q I h => PySem.W.methodCall_KW (pl := pl) (thn (he.run pins s σ H _ I h) fun u s1 hh => ?_) ht⟩
  obtain ⟨x, H1, I1, rx, a, dx, fs, rfl, ea, l, q⟩ := hh
  cases (show u = Value.ref a from rx)
  refine getmeth_ok I1 ea c hm l (PySem.W.callWith_K (first := [.ref a]) (h₀ := X.base) I.ok.mod.kin hm.kp (thn (ha.run pos pins s1 σ H1 _ I1 q) fun us s2 hh2 => ?_) hst hpl)
  obtain ⟨vs, H2, I2, r, q2⟩ := hh2
  rw [List.append_nil] at q2
  exact ⟨I2.kIn, run_fnG (us := .ref a :: us) (vs := .ref a :: vs) F hg (hr.mono hk) hb hx I2 (.cons rfl r) q2⟩
end
/-! ## places that do not overlap, from the left -/
def apartM (len : Nat) : List Nat → Nat → List Nat
  | [], _ => []
  | p :: r, e => if e ≤ p then p :: apartM len r (p + len) else apartM len r e
theorem apartM_cons {len p e : Nat} {r : List Nat} : apartM len (p :: r) e = if e ≤ p then p :: apartM len r (p + len) else apartM len r e := rfl
theorem apartM_nil {len e : Nat} : apartM len [] e = [] := rfl
theorem apart_le {len : Nat} : ∀ (ps : List Nat) (e : Nat), (apartM len ps e).length ≤ ps.length
  | [], _ => Nat.le_refl _
  | p :: r, e => by
    unfold apartM
    split
    · exact Nat.succ_le_succ (apart_le r _)
    · exact Nat.le_succ_of_le (apart_le r e)
theorem apart_one {len : Nat} : ∀ {ps : List Nat}, ps.length ≤ 1 → apartM len ps 0 = ps
  | [], _ => rfl
  | [p], _ => by
    unfold apartM
    rw [if_pos (Nat.zero_le _)]
    rfl
  | _ :: _ :: _, h => absurd h (by simp)
/-- whether so many places are right: Once, First, Perhaps, Every -/
def fitsM : Nat → Nat → Bool
  | 0, m => decide (m = 1)
  | 2, m => decide (m < 2)
  | _, m => decide (0 < m)
def spotsM (n len : Nat) (ps : List Nat) : List Nat := apartM len (if n = 1 then ps.take 1 else ps) 0
theorem spots_le {n len : Nat} {ps : List Nat} : (spotsM n len ps).length ≤ ps.length := by
  unfold spotsM
  refine Nat.le_trans (apart_le _ _) ?_
  split
  · rw [List.length_take]
    omega
  · exact Nat.le_refl _
theorem cutS_len (x : Str) (a b : Option Int) : (cutS x a b).length ≤ x.length := by
  show (List.toArray _).size ≤ x.cps.size
  rw [List.size_toArray, List.length_take, List.length_drop, Array.length_toList]
  omega
theorem more_list {z y : Str} : (z ++ y).cps.toList = z.cps.toList ++ y.cps.toList := by
  show (z.cps ++ y.cps).toList = _
  simp
theorem tl_flat (ps : List Str) : TL.tl (Txt.join "" ps) = (ps.map TL.tl).flatten := by
  rw [TL.join_eq, TL.tl_join]
  exact join_nil _
theorem join_snoc {ps : List Str} {y : Str} : Txt.join "" (ps ++ [y]) = Txt.join "" ps ++ y := by
  refine TL.ext_tl ?_
  rw [tl_flat, List.map_append, List.flatten_append]
  have e : TL.tl (Txt.join "" ps ++ y) = TL.tl (Txt.join "" ps) ++ TL.tl y := more_list
  rw [e, tl_flat]
  simp
/-! rows of tuples -/
def Rws (H : Hp) (f : Nat → List V) : List V → List Nat → Prop := Paired fun v p => ∃ t, v = .ref t ∧ H t = some (.tup (f p))
theorem Rws.keep {H H1 : Hp} {f : Nat → List V} (s : Same H H1) : ∀ {xs : List V} {ps : List Nat}, Rws H f xs ps → Rws H1 f xs ps
  | _, _, .nil => .nil
  | _, _, .cons a t => .cons (by obtain ⟨u, e, h⟩ := a; exact ⟨u, e, s _ _ h⟩) (Rws.keep s t)
theorem paired_at {α β : Type} {R : α → β → Prop} : ∀ {xs : List α} {ys : List β} {i : Nat} {x : α}, Paired R xs ys → xs[i]? = some x → ∃ y, ys[i]? = some y ∧ R x y
  | _, _, 0, _, .cons a t, h => by cases h; exact ⟨_, rfl, a⟩
  | _, _, i + 1, _, .cons a t, h => paired_at (i := i) t h
theorem drop_at {α : Type} : ∀ {l : List α} {i : Nat} {x : α}, l[i]? = some x → l.drop i = x :: l.drop (i + 1)
  | a :: l, 0, x, h => by cases h; rfl
  | a :: l, i + 1, x, h => by simpa using drop_at (l := l) (i := i) (x := x) (by simpa using h)
/-! the classes -/
def sorts : List Str := ["once", "first", "perhaps", "every"]
def sortAt (n : Nat) : Str := sorts.getD n ""
def cls4 (C0 C1 C2 C3 : Addr) : Nat → Addr
  | 0 => C0
  | 1 => C1
  | 2 => C2
  | _ => C3
def fl (z1 z2 : Str) : List (Str × V) := [("_old", .str z1), ("_new", .str z2)]
theorem fl_old {z1 z2 : Str} : (fl z1 z2).lookup ("_old" : Str) = some (.str z1) := rfl
theorem fl_new {z1 z2 : Str} : (fl z1 z2).lookup ("_new" : Str) = some (.str z2) := rfl
structure EdF (K : PySem.W.Frag) (C : Addr) : Prop where
  cl : Cls K C
  n1 : NoAttr K C "_old"
  n2 : NoAttr K C "_new"
  ca : PySem.W.findIn K (.ref C) "__class__" = some (some (.builtin "object.__class__"))
  cn : PySem.W.specialIn K (.builtin "object.__class__") "__get__" = some (some (.builtin "getset_descriptor.__get__"))
  ct : PySem.W.takesIn K (.builtin "object.__class__") = some true
  cm : PySem.W.mroIn K C (.type "object") = some true
theorem EdF.ty {K : PySem.W.Frag} {C a dx : Addr} {H : Hp} {fs : List (Str × V)} (e : EdF K C) (h : H a = some (.ins C dx fs)) : TyX K H (.ref a) (.ref C) := .base (.ins h e.cl e.ca e.cn e.ct e.cm)
theorem few_lt {n : Nat} (h : n ≤ 1000) : n < sizeLine := Nat.lt_of_le_of_lt h (by rw [sizeLine_eq]; decide)
theorem upd_twice3 {H : Hp} {a : Addr} {o1 o2 : HO} : upd (upd H a o1) a o2 = upd H a o2 := by
  funext b
  by_cases h : b = a
  · subst h; rw [upd_same, upd_same]
  · rw [upd_ne h, upd_ne h, upd_ne h]
end Vk
set_option Elab.async false
set_option maxRecDepth 100000
set_option maxHeartbeats 4000000
set_option linter.all false
/-! ## sorted of rows of four: two numbers that tell all rows apart, and two numbers or texts -/
namespace SrtO
open PySem PySem.Spec PyProof.Rows
section
variable {prog : Program} {w : World} {A : Around} {E : Value → Shared → Prop} {s : Shared}
def AtomU (v : Value) : Prop := (∃ x t, v = Value.str x t) ∨ (∃ i t, v = Value.int i t)
def IsQuad (h : Heap) (v : Value) (x y : Int) : Prop := ∃ a o t u c d n, v = .ref a ∧ h.get? a = some o ∧ o.cls = .type "tuple" ∧ o.data = .seq #[.int x t, .int y u, c, d] n ∧ AtomU c ∧ AtomU d
theorem IsQuad.keeps {h h' : Heap} {v : Value} {x y : Int} (p : IsQuad h v x y) (k : ∀ b o, h.get? b = some o → o.cls = .type "tuple" → h'.get? b = some o) : IsQuad h' v x y := by
  obtain ⟨a, o, t, u, c, d, n, e, ho, hc, r⟩ := p
  exact ⟨a, o, t, u, c, d, n, e, k _ _ ho hc, hc, r⟩
theorem firsts_of4 {h : Heap} : ∀ {vs : List Value}, (∀ v ∈ vs, ∃ x y, IsQuad h v x y) → ∃ fs : List Value, PySem.W.KatTups h vs fs ∧ fs.length = vs.length ∧ ∀ f ∈ fs, ∃ x t, f = Value.int x t
  | [], _ => ⟨[], PySem.W.KatTups.nil, rfl, fun _ hm => by simp at hm⟩
  | v :: vs, hp => by
    obtain ⟨fs, h1, h2, h3⟩ := firsts_of4 (vs := vs) fun v' hm => hp v' (List.mem_cons_of_mem _ hm)
    obtain ⟨x, y, a, o, t, u, c, d, n, e, ho, hc, hd, _⟩ := hp v (List.mem_cons_self ..)
    subst e
    refine ⟨.int x t :: fs, PySem.W.KatTups.cons ho hc hd rfl h1, by rw [List.length_cons, List.length_cons, h2], fun f hm => ?_⟩
    rcases List.mem_cons.mp hm with rfl | hm
    · exact ⟨x, t, rfl⟩
    · exact h3 f hm
theorem atom_self {c : Value} (hc : AtomU c) {Q : Bool → Shared → Prop} (h : Q true s) : wpAny (model prog w) A (eqBool c c) Q (fun _ _ => False) s := by
  rcases hc with ⟨x, t, rfl⟩ | ⟨i, t, rfl⟩
  · exact wpAny_eqBool_str (by rw [decide_eq_true rfl]; exact h)
  · exact wpAny_eqBool_int (by rw [beq_self_eq_true]; exact h)
theorem quad_cmp {vs : List Value} {k : Value → Int × Int} (hp : ∀ v ∈ vs, IsQuad s.heap v (k v).1 (k v).2) (hi : ∀ v ∈ vs, ∀ u ∈ vs, k v = k u → v = u) : Cmp prog w A s (tuples' true) (fun p => p.1 ∈ vs) (lt2 fun v u => lexB (k v) (k u)) := by
  intro p q hm hm'
  have h1 := hp _ hm
  have h2 := hp _ hm'
  have hi := hi _ hm _ hm'
  show wpAny (model prog w) A (keyLt' (tuples' true) p.1 q.1) (fun r s' => s' = s ∧ r = lexB (k p.1) (k q.1)) (fun _ _ => False) s
  have hk : (k p.1).1 = (k q.1).1 → (k p.1).2 = (k q.1).2 → p.1 = q.1 := fun a b => hi (Prod.ext a b)
  unfold lexB
  generalize (k p.1).1 = x at h1 hk ⊢
  generalize (k p.1).2 = y at h1 hk ⊢
  generalize (k q.1).1 = x' at h2 hk ⊢
  generalize (k q.1).2 = y' at h2 hk ⊢
  obtain ⟨a, o, t, u, c, d, n, e, ho, hc, hd, ac, ad⟩ := h1
  obtain ⟨a', o', t', u', c', d', n', e', ho', hc', hd', ac', ad'⟩ := h2
  rw [e, e'] at hk ⊢
  refine PySem.W.kat_lt ho hd ho' hd' ?_
  show PySem.W.KatLex prog w A true (decide (4 < 4)) _ [(.int x t, .int x' t'), (.int y u, .int y' u'), (c, c'), (d, d')] 0 s
  refine PySem.W.kat_cons (SeqAt.EqAt.int_int x t x' t' prog w _ _ ?_)
  refine PySem.W.kat_go (fun e1 => ?_) (fun e1 => ?_)
  · have ex : x = x' := by simpa using e1
    refine PySem.W.kat_yes (PySem.W.kat_cons (SeqAt.EqAt.int_int y u y' u' prog w _ _ ?_))
    refine PySem.W.kat_go (fun e2 => ?_) (fun e2 => ?_)
    · have ey : y = y' := by simpa using e2
      have e3 : (if x = x' then decide (y < y') else decide (x < x')) = false := by
        rw [if_pos ex, ey]
        exact decide_eq_false (Int.lt_irrefl _)
      have ea : a = a' := Value.ref.inj (hk ex ey)
      subst ea
      rw [ho] at ho'
      obtain rfl := Option.some.inj ho'
      rw [hd] at hd'
      have hz : c = c' ∧ d = d' := by
        have z := (Data.seq.inj hd').1
        have z2 := congrArg Array.toList z
        have z3 := (List.cons.inj (List.cons.inj z2).2).2
        exact ⟨(List.cons.inj z3).1, (List.cons.inj (List.cons.inj z3).2).1⟩
      obtain ⟨rfl, rfl⟩ := hz
      refine PySem.W.kat_yes (PySem.W.kat_cons (atom_self ac (PySem.W.kat_yes (PySem.W.kat_cons (atom_self ad (PySem.W.kat_yes (PySem.W.kat_nil ?_)))))))
      exact ⟨rfl, e3.symm⟩
    · have e3 : (if x = x' then decide (y < y') else decide (x < x')) = decide (y < y') := if_pos ex
      refine PySem.W.kat_no (PySem.W.kat_one _ _ (PyProof.Rows.lt_int ?_))
      exact (show s = s ∧ decide (y < y') = (if x = x' then decide (y < y') else decide (x < x')) from ⟨rfl, e3.symm⟩)
  · have ex : ¬ x = x' := by simpa using e1
    have e3 : (if x = x' then decide (y < y') else decide (x < x')) = decide (x < x') := if_neg ex
    exact PySem.W.kat_no (oneLt_int ⟨rfl, e3.symm⟩)
theorem quads_sortableO {a : Addr} {vs : List Value} {k : Value → Int × Int} (h0 : 0 < vs.length) (hp : ∀ v ∈ vs, IsQuad s.heap v (k v).1 (k v).2) (hi : ∀ v ∈ vs, ∀ u ∈ vs, k v = k u → v = u) (ha : ∀ o, s.heap.get? a = some o → o.cls ≠ .type "tuple") : SortableO prog w A s a vs fun v u => lexB (k v) (k u) := by
  intro h' keep
  have hp' : ∀ v ∈ vs, IsQuad h' v (k v).1 (k v).2 := fun v hm => (hp v hm).keeps fun b o e c => keep b o (fun z => by subst z; exact ha o e c) e
  obtain ⟨fs, h1, h2, h3⟩ := firsts_of4 fun v hm => ⟨_, _, hp' v hm⟩
  refine ⟨tuples' true, fun Q E hq => ?_, quad_cmp hp' hi⟩
  refine PySem.W.kat_kind (T := .type "int") h1 (by omega) (fun f hm => ?_) (by rfl) ?_
  · obtain ⟨x, t, rfl⟩ := h3 f hm
    exact PySem.W.Looks.now
  · have e : (Value.type "int" != Value.type "tuple") = true := by first | decide +kernel | rfl | decide
    rw [e]
    exact hq
theorem sorted_quadsO {l : Addr} {vs : List Value} {k : Value → Int × Int} {Q : Value → Shared → Prop} (hl : s.heap.IsList l vs.toArray) (hz : vs.length ≤ sizeLine) (hp : ∀ v ∈ vs, IsQuad s.heap v (k v).1 (k v).2) (hi : ∀ v ∈ vs, ∀ u ∈ vs, k v = k u → v = u)
    (h : ∀ (h' : Heap) (d : Addr) (out : List Value), Srtd (fun v u => lexB (k v) (k u)) out → Stb (fun v u => lexB (k v) (k u)) out vs → (∀ b o, s.heap.get? b = some o → h'.get? b = some o) → s.heap.objs.size ≤ d → (∃ n, h'.get? d = some (seqObj "list" out.toArray n)) → Q (.ref d) { s with heap := h' }) :
    wpAny (model prog w) A (call (.builtin "sorted") [.ref l]) Q E s := by
  refine sorted_ord (swo_lex k) hl hz (fun h2 h₁ a ha kk => ?_) fun out hs hb => ?_
  · refine quads_sortableO (s := { s with heap := h₁ }) (by omega) (fun v hm => (hp v hm).keeps fun b o e _ => (kk b o e).2) hi fun o e => ?_
    have e' : some o = some (seqObj "list" vs.toArray 0) := e.symm.trans ha
    cases e'
    intro c
    exact absurd (Value.type.inj c) (by decide)
  · exact h _ _ out hs hb (fun b o e => sortedAll_old e) (Nat.le_succ _) (sortedAll_at s.heap vs out.toArray)
end
end SrtO
namespace Vk
open L2 PySem PySem.Spec PyProof.Rows
def AtomV (v : V) : Prop := (∃ x, v = V.str x) ∨ (∃ i, v = V.int i)
theorem AtomV.of {v : V} {u : Value} (h : AtomV v) (r : RelV v u) : SrtO.AtomU u := by
  rcases h with ⟨x, rfl⟩ | ⟨i, rfl⟩
  · obtain ⟨t, rfl⟩ := r
    exact .inl ⟨_, _, rfl⟩
  · obtain ⟨t, rfl⟩ := r
    exact .inr ⟨_, _, rfl⟩
/-- sorted(xs), xs a list of rows of four that differ in their two numbers (k says which) -/
def rSortedQ (K : PySem.W.Frag) : List V → Hp → VK → Prop := fun vs H Q => ∃ (a : Addr) (xs : List V) (k : V → Int × Int), vs = [V.ref a] ∧ SqL K H a xs ∧ (∀ x ∈ xs, ∃ t c d, x = V.ref t ∧ H t = some (.tup [.int (k x).1, .int (k x).2, c, d]) ∧ AtomV c ∧ AtomV d) ∧ (∀ x ∈ xs, ∀ y ∈ xs, k x = k y → x = y) ∧
  ∀ ys p, SrtO.Srtd (ltP k) ys → ys.Perm xs → H p = none → Q (.ref p) (upd H p (.lst ys))
theorem vals4 {x y z z' : V} {us : List Value} (r : Vals [x, y, z, z'] us) : ∃ u w' t' t2, us = [u, w', t', t2] ∧ RelV x u ∧ RelV y w' ∧ RelV z t' ∧ RelV z' t2 := by
  cases r with
  | cons r1 r2 =>
    cases r2 with
    | cons r3 r4 =>
      obtain ⟨u, w', rfl, r5, r6⟩ := vals2 r4
      exact ⟨_, _, u, w', rfl, r1, r3, r5, r6⟩
theorem cr_sortedQ {X : Cx} : CallR X (.builtin "sorted") (rSortedQ X.K) := by
  intro pins s σ H vs us Q I r h
  obtain ⟨a, xs, k, rfl, hs, hx, hi, q⟩ := h
  obtain ⟨its, rv, hl, hz⟩ := I.list hs
  obtain ⟨u, rfl, ru⟩ := vals1 r
  obtain rfl : u = Value.ref a := ru
  obtain ⟨e1, e2⟩ := refs_back rv fun x m => by
    obtain ⟨t, _, _, e, _⟩ := hx x m
    exact ⟨t, e⟩
  refine SrtO.sorted_quadsO (k := fun u => k (backV u)) hl.isList (by rw [← rv.length]; exact hz) (fun v hv => ?_) (fun v hv v' hv' => ?_) fun h' d out h1 h2 kp hd hn => ?_
  · obtain ⟨t, rfl⟩ := e2 v hv
    have hm : V.ref t ∈ xs := by rw [e1]; exact List.mem_map.mpr ⟨_, hv, rfl⟩
    obtain ⟨t', c, d, e, ht, ac, ad⟩ := hx _ hm
    cases e
    obtain ⟨_, its2, r2, o, ho, hc, n, hd⟩ := I.hok _ _ ht
    obtain ⟨u1, u2, u3, u4, rfl, ri, rj, rc, rd⟩ := vals4 r2
    obtain ⟨t1, rfl⟩ := ri
    obtain ⟨t2, rfl⟩ := rj
    exact ⟨t, o, t1, t2, u3, u4, n, rfl, ho, hc, hd, ac.of rc, ad.of rd⟩
  · obtain ⟨t, rfl⟩ := e2 v hv
    obtain ⟨t', rfl⟩ := e2 v' hv'
    intro e
    have hm : V.ref t ∈ xs := by rw [e1]; exact List.mem_map.mpr ⟨_, hv, rfl⟩
    have hm' : V.ref t' ∈ xs := by rw [e1]; exact List.mem_map.mpr ⟨_, hv', rfl⟩
    have z := hi _ hm _ hm' e
    rw [V.ref.inj z]
  · have h3 : ∀ u ∈ out, ∃ a, u = Value.ref a := fun u hu => e2 u (h2.perm.mem_iff.mp hu)
    obtain ⟨n, hn⟩ := hn
    have hb : (out.map backV).Perm xs := by
      rw [e1]
      exact h2.perm.map backV
    refine ⟨.ref d, upd H d (.lst (out.map backV)), I.laid (t' := s.toks) kp hd ⟨?_, out, n, L2.vals_back h3, hn⟩, rfl, q _ d (SrtO.srtd_map h1) hb (I.hok.fresh hd)⟩
    rw [hb.length_eq]
    exact hz
end Vk
set_option Elab.async false
set_option maxRecDepth 100000
set_option linter.all false
set_option maxHeartbeats 4000000
namespace Vk
open PySem PySem.Spec PyProof.Rows L2 LamX NdefX StX
section
variable {P : Program} {w : World} {K : PySem.W.Frag} {mg : Str → Option Value} {base : Heap}
theorem isNew_eq {z : Str} (h : isT (.str z) = true) : isNew (.str z) = decide ((z.length : Int) ≤ 40) := by
  unfold isNew
  rw [h]
  rfl
theorem isOld_eq {z : Str} (h : isT (.str z) = true) : isOld (.str z) = (decide ((z.length : Int) ≤ 40) && decide ((1 : Int) ≤ z.length)) := by
  unfold isOld
  rw [isNew_eq h]
  show (_ && !decide (V.str z = V.str "")) = _
  congr 1
  by_cases e : z = ""
  · subst e
    decide
  · have n : V.str z ≠ V.str "" := fun w => e (V.str.inj w)
    rw [decide_eq_false n]
    symm
    rw [Bool.not_false, decide_eq_true_eq]
    have pos : z.length ≠ 0 := fun w => e (str_empty.mpr (List.length_eq_zero_iff.mp (by simpa [Str.length] using w)))
    omega
theorem isOld_str {d : PyData} (h : isOld d = true) : ∃ z, d = .str z := by
  unfold isOld at h
  rw [Bool.and_eq_true] at h
  exact isNew_str h.1
def isTup : PyData → Bool
  | .tuple _ => true
  | _ => false
theorem kit_tup {H : Hp} {v : V} {d : PyData} (h : Th H v d) : ∃ t b, TyX K H v t ∧ PySem.W.kitOne K t (.type "tuple") = some b ∧ b = isTup d := by
  cases h with
  | atm a => cases a with
    | non => exact ⟨.type "NoneType", false, .base .non, kit_ty (by decide +kernel), rfl⟩
    | bl b => exact ⟨.type "bool", false, .base (.bl b), kit_ty (by decide +kernel), rfl⟩
    | int i => exact ⟨.type "int", false, .base (.int i), kit_ty (by decide +kernel), rfl⟩
    | str x => exact ⟨.type "str", false, .base (.str x), kit_ty (by decide +kernel), rfl⟩
  | lst e _ _ => exact ⟨.type "list", false, .base (.lst e), kit_ty (by decide +kernel), rfl⟩
  | tup e _ => exact ⟨.type "tuple", true, .base (.tup e), kit_ty (by decide +kernel), rfl⟩
  | dct e => exact ⟨.type "dict", false, .base (.dK e), kit_ty (by decide +kernel), rfl⟩
/-- a right part -/
def isP : PyData → Bool
  | .tuple [x, y] => isOld x && isNew y
  | _ => false
def oldOf : PyData → Str
  | .tuple (.str z :: _) => z
  | _ => ""
def seen (z : Str) (olds : List Str) : Bool := inV (.str z) (olds.map V.str)
/-- the index of the first wrong part -/
def bad (olds : List Str) : List PyData → Nat → Option Nat
  | [], _ => none
  | d :: r, i => if isP d = true then (if seen (oldOf d) olds = true then some i else bad (olds ++ [oldOf d]) r (i + 1)) else some i
theorem flat_strs (olds : List Str) : (olds.map V.str).all flatV = true := by
  rw [List.all_eq_true]
  intro x hx
  obtain ⟨z, _, rfl⟩ := List.mem_map.mp hx
  rfl
theorem paired_get {α β : Type} {R : α → β → Prop} : ∀ {xs : List α} {ys : List β} {i : Nat} {x : α}, Paired R xs ys → xs[i]? = some x → ∃ y, ys[i]? = some y ∧ R x y
  | _, _, 0, _, .cons a t, h => by cases h; exact ⟨_, rfl, a⟩
  | _, _, i + 1, _, .cons a t, h => paired_get (i := i) t h
theorem isP_two {d : PyData} (h : isP d = true) : ∃ z y, d = .tuple [.str z, y] ∧ isOld (.str z) = true ∧ isNew y = true ∧ oldOf d = z := by
  match d, h with
  | .tuple [x, y], h =>
    have h2 : (isOld x && isNew y) = true := h
    rw [Bool.and_eq_true] at h2
    obtain ⟨z, rfl⟩ := isOld_str h2.1
    exact ⟨z, y, rfl, h2.1, h2.2, rfl⟩
theorem drop_cons {α : Type} : ∀ {l : List α} {i : Nat} {x : α}, l[i]? = some x → l.drop i = x :: l.drop (i + 1)
  | a :: l, 0, x, h => by cases h; rfl
  | a :: l, i + 1, x, h => by simpa using drop_cons (l := l) (i := i) (x := x) (by simpa using h)
def spPart : Sp := fun vs H Q _ => ∃ v d, vs = [v] ∧ Th H v d ∧ El d ∧ Q (.bl (isP d)) H
abbrev s_is_part : Stmt := top 21
theorem sc_is_part : FnScope ["value"] ["value"] (defScope s_is_part) := ⟨rfl, rfl, rfl, by decide +kernel, rfl, by decide +kernel, by decide +kernel⟩
theorem b_is_part {f : Addr} {fd : FuncData} (F : Fun K "is_part" "is_part" s_is_part f fd) (T : Txt mg) (c_is_old : CalG P w K mg base CX0 3 "is_old" (spTest isOld)) (c_is_new : CalG P w K mg base CX0 2 "is_new" (spTest isNew)) : FnG P w K mg base CX0 4 f fd ["value"] spPart := by
  refine okG0 F sc_is_part (fun vs H Q E h => ?_) (fun cdv A outer s H vs Q E hg hr h => ?_)
  · obtain ⟨v, d, rfl, _⟩ := h
    rfl
  · have hu := hu_of hr
    have hu64 := hr.units
    obtain ⟨v, d, rfl, th, el, k⟩ := h
    obtain ⟨t, b, ty, kt, hb⟩ := kit_tup (K := K) th
    refine ⟨_, (pss_one (ps_ret (pe_and (pe_callB call_isi (by rfl) T.isinstance (by decide +kernel) (pa_cons (pv 0) (pa_cons (pe_bltn (v := .ty "tuple") (by rfl) T.tuple rfl rfl) pa_nil))) (pe_and (pe_cmpR op_eq (pe_callB call_len (by rfl) T.len (by decide +kernel) (pa_cons (pv 0) pa_nil)) pe_int (nomark _)) (pe_and (pe_cG c_is_old hg hr (by decide) pass0 (pa_cons (pe_ix ix_seq (pv 0) pe_int (fun _ _ => rfl)) pa_nil)) (pe_one (pe_cG c_is_new hg hr (by decide) pass0 (pa_cons (pe_ix ix_seq (pv 0) pe_int (fun _ _ => rfl)) pa_nil)))))))), ?_⟩
    refine ⟨_, rfl, v, .ty "tuple", t, .type "tuple", b, rfl, .ty "tuple", ty, kt, _, rfl, ?_⟩
    cases th with
    | atm a => cases a <;> (subst hb; exact iteF k)
    | lst e n p => subst hb; exact iteF k
    | dct e => subst hb; exact iteF k
    | @tup a xs ds e pa =>
      subst hb
      refine iteT ⟨_, rfl, .ref a, xs.length, rfl, .inr ⟨_, SqT.of e, rfl⟩, rfl, _, rfl, ?_⟩
      match xs, ds, pa, e, el, k with
      | [], [], _, e, el, k => exact iteF k
      | [x1], [y1], _, e, el, k => exact iteF k
      | [x1, x2], [y1, y2], .cons p1 (.cons p2 .nil), e, el, k =>
        refine iteT ⟨_, rfl, .inr (.inl ⟨a, _, _, x1, rfl, rfl, SqT.of e, rfl, x1, y1, rfl, .atm p1, el _ rfl _ (by simp), _, rfl, ?_⟩)⟩
        have k : Q (.bl (isOld y1 && isNew y2)) H := k
        cases h1 : isOld y1 with
        | false =>
          rw [h1] at k
          exact iteF k
        | true =>
          rw [h1] at k
          exact iteT ⟨_, rfl, .inr (.inl ⟨a, _, _, x2, rfl, rfl, SqT.of e, rfl, x2, y2, rfl, .atm p2, el _ rfl _ (by simp), k⟩)⟩
      | x1 :: x2 :: x3 :: xr, y1 :: y2 :: y3 :: yr, _, e, el, k =>
        have z : decide (V.int ((x1 :: x2 :: x3 :: xr).length : Nat) = V.int 2) = false := decide_eq_false fun z => by
          have := V.int.inj z
          simp at this
          omega
        rw [z]
        exact iteF k

/-- the errors of the parts; EI and ET are told of the heaps that hold them -/
def Chk (Ci Cm : Addr) (ds : List PyData) (H : Hp) (E : XK) (ok : Prop) : Prop :=
  (∀ i, bad [] ds 0 = some i → ∀ H1 d, Same H H1 → H1 d = none → E (.ref Ci) (some d) (upd H1 d (.xd [(("index" : Str), .int i)]))) ∧
  (bad [] ds 0 = none → 3 < ds.length → ∀ H1 d, Same H H1 → H1 d = none → E (.ref Cm) (some d) (upd H1 d (.xd [(("limit" : Str), .int 3)]))) ∧
  (bad [] ds 0 = none → ds.length ≤ 3 → ok)
def spChk (Ci Cm : Addr) : Sp := fun vs H Q E => ∃ q xs ds, vs = [.ref q] ∧ H q = some (.tup xs) ∧ Paired (Th H) xs ds ∧ (∀ d ∈ ds, El d) ∧ ds.length ≤ 900 ∧ Chk Ci Cm ds H E (∀ H', Same H H' → Q .non H')
abbrev s_check_parts : Stmt := top 23
theorem sc_check_parts : FnScope ["parts", "olds", "index", "part"] ["parts"] (defScope s_check_parts) := ⟨rfl, rfl, rfl, by decide +kernel, rfl, by decide +kernel, by decide +kernel⟩
theorem b_check_parts {f : Addr} {fd : FuncData} (F : Fun K "check_parts" "check_parts" s_check_parts f fd) (T : Txt mg) (c_is_part : CalG P w K mg base CX0 4 "is_part" spPart) {C_InvalidPart : Addr} (c_InvalidPart : ClsI P w K mg base 1 "InvalidPart" C_InvalidPart ["index"]) {C_TooMany : Addr} (c_TooMany : ClsI P w K mg base 1 "TooMany" C_TooMany ["limit"]) (g_MAX_PARTS : ∃ u, mg "MAX_PARTS" = some u ∧ RelV (.int 3) u) : FnG P w K mg base (L2.CX P w) 5 f fd ["parts"] (spChk C_InvalidPart C_TooMany) := by
  refine okG F sc_check_parts (fun vs H Q E h => ?_) (fun cdv A outer s H vs Q E hg hr h => ?_)
  · obtain ⟨q, xs, ds, rfl, _⟩ := h
    rfl
  · have hu := hu_of hr
    have hu64 := hr.units
    obtain ⟨q, xs, ds, rfl, hq, pr, el, hl, k1, k2, k3⟩ := h
    have hlen := paired_len pr
    refine ⟨_, (pss_cons (ps_set (i := 1) sc_check_parts.nd rfl (Or.inl rfl) (pe_lst pa_nil))
      (pss_cons (ps_for (passes_of rfl) rfl (pi_enumT (by rfl) T.enumerate (pa_cons (pv 0) pa_nil)) (pg_tup rfl (pgs_cons (pg_name (i := 2) sc_check_parts.nd rfl (Or.inl rfl)) (pgs_cons (pg_name (i := 3) sc_check_parts.nd rfl (Or.inl rfl)) pgs_nil))) (pss_cons (ps_if (PW.pt (pw_or (pt_not (pt_val (pe_cG c_is_part hg hr (by decide) pass0 (pa_cons (pv 3) pa_nil)))) (pw_or1 (pt_cmpR op_in_seq (pe_ix ix_seq (pv 3) pe_int (fun _ _ => rfl)) (pv 1) (by rfl))))) (pss_one (ps_raise rfl (takes_of rfl rfl rfl rfl) (pmk_k c_InvalidPart hg hr (by decide) pass0 (pa_cons (pv 2) pa_nil)))) pss_nil)
      (pss_one (ps_expr (pe_bm PySem.F.plainAttrs_list PySem.F.slot_list_append PySem.F.type_list_append mt_append (pv 1) (pa_cons (pe_ix ix_seq (pv 3) pe_int (fun _ _ => rfl)) pa_nil))))))
      (pss_one (ps_if (pt_cmpR op_gt (pe_callB call_len (by rfl) T.len (by decide +kernel) (pa_cons (pv 0) pa_nil)) (C8.pe_gc (by rfl) g_MAX_PARTS) (nomark _)) (pss_one (ps_raise rfl (takes_of rfl rfl rfl rfl) (pmk_k c_TooMany hg hr (by decide) pass0 (pa_cons (C8.pe_gc (by rfl) g_MAX_PARTS) pa_nil)))) pss_nil)))), ?_⟩
    refine seq_asg ⟨few_len (Nat.zero_le _), fun lo hlo => ?_⟩
    have s0 := same_new (o := .lst []) hlo
    refine ⟨_, rfl, q, _, rfl, s0 _ _ hq, fun i m σ H2 => m + i = xs.length ∧ (∃ a b, σ = [some (.ref q), some (.ref lo), a, b]) ∧ Same H H2 ∧ ∃ olds : List Str, H2 lo = some (.lst (olds.map V.str)) ∧ olds.length = i ∧ bad [] ds 0 = bad olds (ds.drop i) i, ⟨xs.length, rfl, ⟨_, _, rfl⟩, s0, [], upd_same, rfl, rfl⟩, ?_⟩
    rintro i m σ H2 ⟨hm, ⟨a, b, rfl⟩, s2, olds, hlo2, hol, hb⟩
    by_cases hi : i < xs.length
    · obtain ⟨x, hx⟩ : ∃ x, xs[i]? = some x := ⟨xs[i], List.getElem?_eq_getElem hi⟩
      obtain ⟨d, hd, th⟩ := paired_get pr hx
      rw [drop_cons hd] at hb
      refine .inr ⟨⟨_, _, s2 _ _ hq, hx⟩, fun σ2 H3 => m - 1 + (i + 1) = xs.length ∧ (∃ a b, σ2 = [some (.ref q), some (.ref lo), a, b]) ∧ Same H H3 ∧ ∃ olds : List Str, H3 lo = some (.lst (olds.map V.str)) ∧ olds.length = i + 1 ∧ bad [] ds 0 = bad olds (ds.drop (i + 1)) (i + 1), fun σ2 H3 p => ⟨m - 1, by omega, p⟩, ?_⟩
      rintro y H3 ⟨T, y2, xs2, rfl, hT, rfl, hxs, hy⟩
      have e := (s2 _ _ hq).symm.trans hxs
      cases e
      cases hx.symm.trans hy
      have s3 := s2.trans (same_new (o := .tup [.int (i : Nat), x]) hT)
      have hlo3 := (same_new (o := .tup [.int (i : Nat), x]) hT) _ _ hlo2
      have eld := el d (List.mem_of_getElem? hd)
      refine ⟨T, _, rfl, SqT.of upd_same, rfl, ?_⟩
      refine ⟨_, _, rfl, _, _, rfl, rfl, _, rfl, x, d, rfl, th.keep s3, eld, _, rfl, ?_⟩
      cases hP : isP d with
      | false =>
        have e1 : bad [] ds 0 = some i := hb.trans (by unfold bad; rw [hP]; rfl)
        exact iteT (iteT ⟨_, rfl, rfl, fun d2 hd2 => k1 i e1 _ d2 s3 hd2⟩)
      | true =>
        obtain ⟨z, y, rfl, o1, o2, eo⟩ := isP_two hP
        cases th.keep s3 with
        | atm a => cases a
        | @tup t vs2 _ ht pa =>
        match vs2, pa, ht with
        | [_, v2], .cons (.str _) (.cons p2 .nil), ht =>
        refine iteF ⟨_, rfl, .inr (.inl ⟨t, _, _, _, rfl, rfl, SqT.of ht, rfl, _, rfl, lo, olds.map V.str, rfl, .inl (SqL.of hlo3), rfl, flat_strs _, _, rfl, ?_⟩)⟩
        show (if seen z olds = true then _ else _)
        cases hS : seen z olds with
        | true =>
          have e1 : bad [] ds 0 = some i := hb.trans (by unfold bad; rw [hP, eo, hS]; rfl)
          exact iteT ⟨_, rfl, rfl, fun d2 hd2 => k1 i e1 _ d2 s3 hd2⟩
        | false =>
          have e1 : bad [] ds 0 = bad (olds ++ [z]) (ds.drop (i + 1)) (i + 1) := hb.trans (by rw [bad, hP, eo, hS]; rfl)
          refine iteF ?_
          refine ⟨_, rfl, .inl ⟨rfl, _, SqL.of hlo3⟩, _, rfl, .inr (.inl ⟨t, _, _, _, rfl, rfl, SqT.of ht, rfl, lo, _, _, rfl, rfl, hlo3, few_lt (by rw [List.length_map]; omega), ?_⟩)⟩
          refine ⟨by omega, ⟨_, _, rfl⟩, fun b o h => ?_, olds ++ [z], ?_, by rw [List.length_append, hol]; rfl, e1⟩
          · rw [upd_ne (ne_of_none h hlo)]
            exact s3 _ _ h
          · rw [upd_same, List.map_append]
            rfl
    · have e : i = xs.length := by omega
      have e1 : bad [] ds 0 = none := hb.trans (by rw [List.drop_eq_nil_of_le (by omega)]; rfl)
      refine .inl ⟨⟨_, s2 _ _ hq, e.symm⟩, ?_⟩
      refine ⟨_, rfl, .ref q, xs.length, rfl, .inr ⟨_, SqT.of (s2 _ _ hq), rfl⟩, _, _, rfl, rfl, _, rfl, ?_⟩
      cases h3 : decide ((xs.length : Int) > 3) with
      | true => exact iteT ⟨rfl, fun d2 hd2 => k2 e1 (by have := of_decide_eq_true h3; omega) _ d2 s2 hd2⟩
      | false => exact iteF (k3 e1 (by have := of_decide_eq_false h3; omega) _ s2)

end
end Vk
set_option Elab.async false
set_option maxRecDepth 100000
set_option linter.all false
set_option maxHeartbeats 4000000
namespace Vk
open PySem PySem.Spec PyProof.Rows L2 LamX NdefX StX
section
variable {P : Program} {w : World} {K : PySem.W.Frag} {mg : Str → Option Value} {base : Heap}
theorem Chk.imp {Ci Cm : Addr} {ds : List PyData} {H H1 : Hp} {E : XK} {p q : Prop} (s : Same H H1) (k : Chk Ci Cm ds H E p) (h : p → q) : Chk Ci Cm ds H1 E q :=
  ⟨fun i e H2 d s2 hd => k.1 i e H2 d (s.trans s2) hd, fun e l H2 d s2 hd => k.2.1 e l H2 d (s.trans s2) hd, fun e l => h (k.2.2 e l)⟩
abbrev m_AtOnce : Stmt := mtd (top 29) 0
theorem sc_AtOnce : FnScope ["self", "parts"] ["self", "parts"] (defScope m_AtOnce) := ⟨rfl, rfl, rfl, by decide +kernel, rfl, by decide +kernel, by decide +kernel⟩
def spAtI (C Ci Cm : Addr) : Sp := fun vs H Q E => ∃ a dx q xs ds, vs = [.ref a, .ref q] ∧ H a = some (.ins C dx []) ∧ H q = some (.tup xs) ∧ Paired (Th H) xs ds ∧ (∀ d ∈ ds, El d) ∧ ds.length ≤ 900 ∧ Chk Ci Cm ds H E (∀ H', Same H H' → Q .non (upd H' a (.ins C dx [("_parts", .ref q)])))
abbrev spAt (C Ci Cm : Addr) : Sp := fun vs H Q E => ∃ ws rest, vs = ws ++ rest ∧ ws.length = (["self"] : List Str).length ∧ rest.length ≤ sizeLine ∧ ∀ p, H p = none → spAtI C Ci Cm (ws ++ [.ref p]) (upd H p (.tup rest)) Q E
theorem b_AtOnce {f C Ci Cm : Addr} {fd : FuncData} (F : Fun K "__init__" "AtOnce.__init__" m_AtOnce f fd) (c_check_parts : CalG P w K mg base (L2.CX P w) 5 "check_parts" (spChk Ci Cm)) (cl : Cls K C) (n1 : NoAttr K C "_parts") : FnRG P w K mg base (L2.CX P w) 6 f (spAt C Ci Cm) := by
  refine okStar (ps := ["self"]) (pv := "parts") F sc_AtOnce cxUp (fun kV doc pm an cdv ct us rest hl => ?_) (fun cdv A outer s H vs Q E hg hr h => ?_)
  · exact bind_star1 (B := fun us => bindArgs (PySem.W.fnOf _ _ _ _ _ _ kV doc pm an cdv ct) ⟨us, []⟩) (fun a => rfl) (fun a r rs => rfl) us rest hl
  · obtain ⟨a, dx, q, xs, ds, rfl, ha, hq, pr, el, hl, k⟩ := h
    refine ⟨_, (pss_cons (ps_expr (pe_cG c_check_parts hg hr (by decide) (passes_call (takes_of rfl rfl rfl rfl) (fun _ _ _ _ h => h)) (pa_cons (pv 1) pa_nil))) (pss_one (ps_fld (pv 0) (pv 1) rfl))), ?_⟩
    refine ⟨_, rfl, q, xs, ds, rfl, hq, pr, el, hl, k.imp Same.rfl fun k H2 s2 => ?_⟩
    exact ⟨_, rfl, _, rfl, a, C, dx, [], rfl, s2 _ _ ha, cl, n1, by decide, k _ s2⟩
/-- what comes of AtOnce(..) -/
def AtOut (C Ci Cm : Addr) (xs : List V) (ds : List PyData) (H : Hp) (Q : VK) (E : XK) : Prop := Chk Ci Cm ds H E (∀ b dx q H', Same H H' → H' b = some (.ins C dx [("_parts", .ref q)]) → H' q = some (.tup xs) → Q (.ref b) H')
theorem born_at {C Ci Cm : Addr} {xs : List V} {ds : List PyData} {H : Hp} {Q : VK} {E : XK} (pr : Paired (Th H) xs ds) (el : ∀ d ∈ ds, El d) (hl : ds.length ≤ 900) (k : AtOut C Ci Cm xs ds H Q E) : Born C (spAt C Ci Cm) xs H Q E := by
  intro a dx ha hdx ne
  have x1 : Same H (upd (upd H dx (.own a)) a (.ins C dx [])) := fun b o h => by
    rw [upd_ne (ne_of_none h ha), upd_ne (ne_of_none h hdx)]
    exact h
  refine ⟨[.ref a], xs, rfl, rfl, few_len (by have := paired_len pr; omega), fun p hp => ?_⟩
  have x2 := x1.trans (same_new (o := .tup xs) hp)
  refine ⟨a, dx, p, xs, ds, rfl, (same_new hp) _ _ upd_same, upd_same, ths_keep x2 pr, el, hl, Chk.imp x2 k fun k H2 s2 => ⟨rfl, ?_⟩⟩
  have nap : p ≠ a := fun z => by
    rw [z, upd_same] at hp
    cases hp
  refine k a dx p _ (fun b o h => ?_) upd_same ?_
  · rw [upd_ne (ne_of_none h ha)]
    exact s2 _ _ (x2 _ _ h)
  · rw [upd_ne nap]
    exact s2 _ _ upd_same
abbrev m_parts : Stmt := mtd (top 29) 1
theorem b_parts {f C : Addr} {fd : FuncData} (F : Fun K "parts" "AtOnce.parts" m_parts f fd) (e : EdF K C) (np : NoAttr K C "_parts") : FnOk P w K mg base CX0 1 f fd ["self"] (getSp C "_parts") := by
  obtain ⟨oc, od, kV, doc, pm, an, cdv, ct, osl, rfl, lk, hcd⟩ := F.ex
  exact fn_getter (N := ["self"]) lk hcd ⟨rfl, rfl, rfl, by decide +kernel, rfl, by decide +kernel, by decide +kernel⟩ rfl rfl e.cl np
end
end Vk
set_option Elab.async false
set_option maxRecDepth 100000
set_option linter.all false
set_option maxHeartbeats 4000000
namespace Vk
open PySem PySem.Spec PyProof.Rows L2 LamX NdefX StX
/-! ## several words at once: where they stand, in which order -/
/-- a place, the index of the part, old, new -/
structure Rw where
  b : Nat
  k : Nat
  o : Str
  n : Str
def Rw.e (r : Rw) : Nat := r.b + r.o.length
def overl : List Rw → Bool
  | a :: c :: r => decide (c.b < a.e) || overl (c :: r)
  | _ => false
theorem overl_cons {a c : Rw} {r : List Rw} : overl (a :: c :: r) = (decide (c.b < a.e) || overl (c :: r)) := rfl
theorem overl_strict : ∀ {L : List Rw}, (∀ r ∈ L, 1 ≤ r.o.length) → overl L = false → L.Pairwise fun a c => a.b < c.b
  | [], _, _ => .nil
  | [a], _, _ => List.pairwise_singleton _ _
  | a :: c :: r, h, e => by
    rw [overl_cons, Bool.or_eq_false_iff] at e
    have ih := overl_strict (L := c :: r) (fun x hx => h x (List.mem_cons_of_mem _ hx)) e.2
    have h1 : a.b < c.b := by
      have := of_decide_eq_false e.1
      have := h a List.mem_cons_self
      unfold Rw.e at *
      omega
    refine List.pairwise_cons.mpr ⟨fun x hx => ?_, ih⟩
    rcases List.mem_cons.mp hx with rfl | hx
    · exact h1
    · exact Nat.lt_trans h1 ((List.pairwise_cons.mp ih).1 x hx)
theorem strict_uniq : ∀ {L M : List Rw}, L.Perm M → (L.Pairwise fun a c => a.b < c.b) → (M.Pairwise fun a c => a.b ≤ c.b) → L = M
  | [], M, p, _, _ => (List.Perm.eq_nil p.symm).symm
  | x :: l, [], p, _, _ => absurd p.length_eq (by simp)
  | x :: l, y :: m, p, hl, hm => by
    have e : x = y := by
      rcases List.mem_cons.mp (p.mem_iff.mp (List.mem_cons_self (a := x) (l := l))) with e | hx
      · exact e
      · rcases List.mem_cons.mp (p.mem_iff.mpr (List.mem_cons_self (a := y) (l := m))) with e | hy
        · exact e.symm
        · have h1 := (List.pairwise_cons.mp hl).1 y hy
          have h2 := (List.pairwise_cons.mp hm).1 x hx
          omega
    subst e
    rw [strict_uniq p.cons_inv (List.pairwise_cons.mp hl).2 (List.pairwise_cons.mp hm).2]
theorem overl_same {L M : List Rw} (h : ∀ r ∈ L, 1 ≤ r.o.length) (p : L.Perm M) (hl : L.Pairwise fun a c => a.b ≤ c.b) (hm : M.Pairwise fun a c => a.b ≤ c.b) : overl L = overl M ∧ (overl M = false → L = M) := by
  have hM : ∀ r ∈ M, 1 ≤ r.o.length := fun r hr => h r (p.mem_iff.mpr hr)
  cases e : overl L with
  | false =>
    have := strict_uniq p (overl_strict h e) hm
    subst this
    exact ⟨e.symm, fun _ => rfl⟩
  | true =>
    cases e2 : overl M with
    | false =>
      have := strict_uniq p.symm (overl_strict hM e2) hl
      subst this
      rw [e] at e2
      cases e2
    | true => exact ⟨rfl, fun z => nomatch z⟩
def leR (a c : Rw) : Bool := decide (a.b ≤ c.b)
def ordM (L : List Rw) : List Rw := L.mergeSort leR
theorem ordM_perm (L : List Rw) : (ordM L).Perm L := List.mergeSort_perm L leR
theorem ordM_le (L : List Rw) : (ordM L).Pairwise fun a c => a.b ≤ c.b := by
  have h := List.pairwise_mergeSort (le := leR) (fun a b c h1 h2 => by
    have a1 := of_decide_eq_true h1
    have a2 := of_decide_eq_true h2
    exact decide_eq_true (by omega)) (fun a b => by
    unfold leR
    rw [Bool.or_eq_true, decide_eq_true_eq, decide_eq_true_eq]
    omega) L
  exact h.imp fun h => of_decide_eq_true h
/-- the rows of all parts -/
def rowsM (x : Str) : List (Str × Str) → Nat → List Rw
  | [], _ => []
  | p :: r, k => ⟨(plc x p.1).headD 0, k, p.1, p.2⟩ :: rowsM x r (k + 1)
theorem rowsM_cons {x : Str} {p : Str × Str} {r : List (Str × Str)} {k : Nat} : rowsM x (p :: r) k = ⟨(plc x p.1).headD 0, k, p.1, p.2⟩ :: rowsM x r (k + 1) := rfl
theorem rowsM_snoc {x : Str} {p : Str × Str} : ∀ {r : List (Str × Str)} {k : Nat}, rowsM x (r ++ [p]) k = rowsM x r k ++ [⟨(plc x p.1).headD 0, k + r.length, p.1, p.2⟩]
  | [], k => rfl
  | q :: r, k => by
    rw [List.cons_append, rowsM_cons, rowsM_cons, rowsM_snoc (r := r), List.cons_append, List.length_cons, show k + 1 + r.length = k + (r.length + 1) from by omega]
theorem rowsM_len {x : Str} : ∀ {ps : List (Str × Str)} {k : Nat}, (rowsM x ps k).length = ps.length
  | [], _ => rfl
  | p :: r, k => by rw [rowsM_cons, List.length_cons, List.length_cons, rowsM_len (ps := r)]
theorem rowsM_mem {x : Str} : ∀ {ps : List (Str × Str)} {k : Nat} {r : Rw}, r ∈ rowsM x ps k → k ≤ r.k ∧ (r.o, r.n) ∈ ps ∧ r.b = (plc x r.o).headD 0
  | p :: t, k, r, h => by
    rw [rowsM_cons] at h
    rcases List.mem_cons.mp h with rfl | h
    · exact ⟨Nat.le_refl _, List.mem_cons_self, rfl⟩
    · obtain ⟨a, b, c⟩ := rowsM_mem h
      exact ⟨by omega, List.mem_cons_of_mem _ b, c⟩
/-- the number of places of the first old that does not stand once -/
def wrongM (x : Str) : List (Str × Str) → Option Nat
  | [] => none
  | p :: r => if (plc x p.1).length = 1 then wrongM x r else some (plc x p.1).length
theorem wrongM_cons {x : Str} {p : Str × Str} {r : List (Str × Str)} : wrongM x (p :: r) = if (plc x p.1).length = 1 then wrongM x r else some (plc x p.1).length := rfl
theorem wrong_all {x : Str} : ∀ {ps : List (Str × Str)}, wrongM x ps = none → ∀ p ∈ ps, (plc x p.1).length = 1
  | p :: r, h, q, hq => by
    rw [wrongM_cons] at h
    by_cases e : (plc x p.1).length = 1
    · rw [if_pos e] at h
      rcases List.mem_cons.mp hq with rfl | hq
      · exact e
      · exact wrong_all h q hq
    · rw [if_neg e] at h
      cases h
theorem one_head {l : List Nat} (h : l.length = 1) : l = [l.headD 0] := by
  match l, h with
  | [a], _ => rfl
/-- the text with all rows put in -/
def foldA (x : Str) : List Rw → Nat → Str → Str
  | [], k, acc => acc ++ cutS x (some (k : Int)) none
  | r :: L, k, acc => foldA x L r.e (acc ++ cutS x (some (k : Int)) (some (r.b : Int)) ++ r.n)
theorem foldA_cons {x : Str} {r : Rw} {L : List Rw} {k : Nat} {acc : Str} : foldA x (r :: L) k acc = foldA x L r.e (acc ++ cutS x (some (k : Int)) (some (r.b : Int)) ++ r.n) := rfl
theorem foldA_nil {x : Str} {k : Nat} {acc : Str} : foldA x [] k acc = acc ++ cutS x (some (k : Int)) none := rfl
/-- what becomes of a text -/
inductive Out
  | txt (y : Str)
  | no (m : Nat)
  | over
def outM (x : Str) (ps : List (Str × Str)) : Out :=
  match wrongM x ps with
  | some m => .no m
  | none => if overl (ordM (rowsM x ps 0)) = true then .over else .txt (foldA x (ordM (rowsM x ps 0)) 0 "")
theorem outM_no {x : Str} {ps : List (Str × Str)} {m : Nat} (h : wrongM x ps = some m) : outM x ps = .no m := by
  unfold outM
  rw [h]
theorem outM_over {x : Str} {ps : List (Str × Str)} (h : wrongM x ps = none) (o : overl (ordM (rowsM x ps 0)) = true) : outM x ps = .over := by
  unfold outM
  rw [h]
  exact if_pos o
theorem outM_txt {x : Str} {ps : List (Str × Str)} (h : wrongM x ps = none) (o : overl (ordM (rowsM x ps 0)) = false) : outM x ps = .txt (foldA x (ordM (rowsM x ps 0)) 0 "") := by
  unfold outM
  rw [h]
  exact if_neg (by rw [o]; decide)
/-! rows as tuples -/
theorem paired_perm {α β : Type} {R : α → β → Prop} {xs ys : List α} (p : ys.Perm xs) : ∀ {rs : List β}, Paired R xs rs → ∃ ls, ls.Perm rs ∧ Paired R ys ls := by
  induction p with
  | nil => exact fun h => ⟨_, .refl _, h⟩
  | cons x p ih =>
    intro rs h
    cases h with
    | cons a t =>
      obtain ⟨ls, q, r⟩ := ih t
      exact ⟨_, q.cons _, .cons a r⟩
  | swap x y l =>
    intro rs h
    cases h with
    | cons a t =>
      cases t with
      | cons b t => exact ⟨_, .swap _ _ _, .cons b (.cons a t)⟩
  | trans p1 p2 ih1 ih2 =>
    intro rs h
    obtain ⟨ls, q, r⟩ := ih2 h
    obtain ⟨ms, q2, r2⟩ := ih1 r
    exact ⟨ms, q2.trans q, r2⟩
theorem paired_key {α β γ : Type} {R : α → β → Prop} {f : β → γ} {g : α → γ} (hg : ∀ x r, R x r → g x = f r) : ∀ {xs : List α} {rs : List β}, Paired R xs rs → (rs.map f).Nodup → ∀ x ∈ xs, ∀ y ∈ xs, g x = g y → x = y
  | _, _, .cons (a := a) (b := b) q t, nd, x, hx, y, hy, e => by
    rw [List.map_cons, List.nodup_cons] at nd
    have no : ∀ z, z ∈ _ → g z ≠ f b := fun z hz e2 => by
      obtain ⟨r, mr, qr⟩ := paired_mem t hz
      exact nd.1 (List.mem_map.mpr ⟨r, mr, by rw [← hg _ _ qr, e2]⟩)
    rcases List.mem_cons.mp hx with hx1 | hx1
    · rcases List.mem_cons.mp hy with hy1 | hy1
      · rw [hx1, hy1]
      · rw [hx1] at e
        exact absurd (e.symm.trans (hg _ _ q)) (no _ hy1)
    · rcases List.mem_cons.mp hy with hy1 | hy1
      · rw [hy1] at e
        exact absurd (e.trans (hg _ _ q)) (no _ hx1)
      · exact paired_key hg t nd.2 x hx1 y hy1 e
/-- a list's items are rows, as f shows them -/
def RwsA (H : Hp) (f : Rw → List V) : List V → List Rw → Prop := Paired fun v r => ∃ t, v = .ref t ∧ H t = some (.tup (f r))
theorem RwsA.keep {H H1 : Hp} {f : Rw → List V} (s : ∀ {u : Addr} {ws : List V}, H u = some (.tup ws) → H1 u = some (.tup ws)) : ∀ {xs : List V} {ps : List Rw}, RwsA H f xs ps → RwsA H1 f xs ps
  | _, _, .nil => .nil
  | _, _, .cons a t => .cons (by obtain ⟨u, e, h⟩ := a; exact ⟨u, e, s h⟩) (RwsA.keep s t)
/-- begin, end, new, part -/
def putA (r : Rw) : List V := [.int (r.b : Nat), .int (r.e : Nat), .str r.n, .int (r.k : Nat)]
/-- the two numbers at the head of a row -/
def keyA (H : Hp) : V → Int × Int
  | .ref t => match H t with
    | some (.tup (.int i :: .int j :: _)) => (i, j)
    | _ => (0, 0)
  | _ => (0, 0)
theorem key_put {H : Hp} {v : V} {r : Rw} (h : ∃ t, v = .ref t ∧ H t = some (.tup (putA r))) : keyA H v = ((r.b : Int), (r.e : Int)) := by
  obtain ⟨t, rfl, ht⟩ := h
  show (match H t with
    | some (.tup (.int i :: .int j :: _)) => (i, j)
    | _ => (0, 0)) = _
  rw [ht]
  rfl
theorem srtd_rows {H : Hp} {f : Rw → List V} {ky : Rw → Int × Int} (hk : ∀ v r, (∃ t, v = V.ref t ∧ H t = some (.tup (f r))) → keyA H v = ky r) (h1 : ∀ r, (ky r).1 = (r.b : Int)) : ∀ {ys : List V} {L : List Rw}, RwsA H f ys L → SrtO.Srtd (ltP (keyA H)) ys → L.Pairwise fun a c => a.b ≤ c.b
  | _, _, .nil, _ => .nil
  | _, _, .cons (a := x) (b := r) a t, h => by
    have h2 := List.pairwise_cons.mp h
    refine List.pairwise_cons.mpr ⟨fun c hc => ?_, srtd_rows hk h1 t h2.2⟩
    have : ∀ {ys : List V} {L : List Rw}, RwsA H f ys L → c ∈ L → ∃ y, y ∈ ys ∧ keyA H y = ky c := by
      intro ys L q
      induction q with
      | nil => intro h; cases h
      | cons a t ih =>
        intro h
        rcases List.mem_cons.mp h with rfl | h
        · exact ⟨_, List.mem_cons_self, hk _ _ a⟩
        · obtain ⟨y, m, e⟩ := ih h
          exact ⟨y, List.mem_cons_of_mem _ m, e⟩
    obtain ⟨y, m, e⟩ := this t hc
    have z := SrtO.lexB_no.mp (h2.1 y m)
    rw [e, hk _ _ a] at z
    have e1 := h1 r
    have e2 := h1 c
    omega
/-- the words of parts that differ stand at unlike ends -/
theorem plc_len_le {x o : Str} {b : Nat} (h : b ∈ plc x o) : b + o.length ≤ x.length := by
  unfold plc atB at h
  have h2 := (List.mem_filter.mp h).2
  rw [Bool.and_eq_true] at h2
  exact of_decide_eq_true h2.1
theorem plc_cut {x o : Str} {b : Nat} (h : b ∈ plc x o) : cutS x (some (b : Int)) (some ((b : Int) + (o.length : Int))) = o := by
  have h1 := cut_at x o b (plc_len_le h)
  unfold plc at h
  rw [(List.mem_filter.mp h).2] at h1
  exact V.str.inj (of_decide_eq_true h1)
theorem same_word {x o o' : Str} {b : Nat} (h : b ∈ plc x o) (h' : b ∈ plc x o') (e : o.length = o'.length) : o = o' := by
  rw [← plc_cut h, ← plc_cut h', e]
theorem row_at {x : Str} {ps : List (Str × Str)} (hw : wrongM x ps = none) {k : Nat} {r : Rw} (h : r ∈ rowsM x ps k) : r.b ∈ plc x r.o := by
  obtain ⟨_, m, e⟩ := rowsM_mem h
  have h1 := wrong_all hw _ m
  rw [e, one_head h1]
  exact List.mem_cons_self
theorem wrong_tail {x : Str} {p : Str × Str} {r : List (Str × Str)} (h : wrongM x (p :: r) = none) : wrongM x r = none := by
  rw [wrongM_cons] at h
  split at h
  · exact h
  · cases h
theorem keys_put {x : Str} : ∀ {ps : List (Str × Str)} {k : Nat}, wrongM x ps = none → (ps.map (·.1)).Nodup → ((rowsM x ps k).map fun r => ((r.b : Int), (r.e : Int))).Nodup
  | [], _, _, _ => .nil
  | p :: t, k, hw, nd => by
    have n2 := List.nodup_cons.mp (show (p.1 :: t.map (·.1)).Nodup from nd)
    rw [rowsM_cons, List.map_cons, List.nodup_cons]
    refine ⟨fun h => ?_, keys_put (wrong_tail hw) n2.2⟩
    obtain ⟨r, hr, e⟩ := List.mem_map.mp h
    have e1 : r.b = (plc x p.1).headD 0 := Int.ofNat.inj (Prod.mk.inj e).1
    have e2 : r.e = (plc x p.1).headD 0 + p.1.length := Int.ofNat.inj (Prod.mk.inj e).2
    have a1 := row_at (wrong_tail hw) hr
    have a2 : (plc x p.1).headD 0 ∈ plc x p.1 := by
      have h1 := wrong_all hw p List.mem_cons_self
      rw [one_head h1]
      exact List.mem_cons_self
    rw [← e1] at a2
    have e3 : r.o.length = p.1.length := by
      unfold Rw.e at e2
      omega
    have e4 := same_word a1 a2 e3
    exact n2.1 (List.mem_map.mpr ⟨_, (rowsM_mem hr).2.1, e4⟩)
end Vk
set_option Elab.async false
set_option maxRecDepth 100000
set_option linter.all false
set_option maxHeartbeats 4000000
namespace Vk
open PySem PySem.Spec PyProof.Rows L2 LamX NdefX StX
section
variable {P : Program} {w : World} {K : PySem.W.Frag} {mg : Str → Option Value} {base : Heap}
variable {C_AtOnce C_Edit C_Program C_NoPlace C_Overlap : Addr}
abbrev s_places : Stmt := top 18
theorem sc_places : FnScope ["text", "word", "found", "place"] ["text", "word"] (defScope s_places) := ⟨rfl, rfl, rfl, by decide +kernel, rfl, by decide +kernel, by decide +kernel⟩
theorem b_places {f : Addr} {fd : FuncData} (F : Fun K "places" "places" s_places f fd) (T : Txt mg) : FnG P w K mg base CX0 1 f fd ["text", "word"] (spPlaces K) := by
  refine okG0 F sc_places (fun vs H Q E h => ?_) (fun cdv A outer s H vs Q E hg hr h => ?_)
  · obtain ⟨x, wd, rfl, _⟩ := h
    rfl
  · have hu := hu_of hr
    have hu64 := hr.units
    obtain ⟨x, wd, rfl, hx, hw, k⟩ := h
    refine ⟨_, (pss_cons (ps_set (i := 2) sc_places.nd rfl (Or.inl rfl) (pe_lst pa_nil))
      (pss_cons (ps_set (i := 3) sc_places.nd rfl (Or.inl rfl) (pe_bm PySem.F.plainAttrs_str PySem.F.slot_str_find PySem.F.type_str_find mt_find (pv 0) (pa_cons (pv 1) pa_nil)))
      (pss_cons (ps_while PassesOwn.never (pt_cmpR op_ge (pv 3) pe_int (nomark _)) (pss_cons (ps_expr (pe_bm PySem.F.plainAttrs_list PySem.F.slot_list_append PySem.F.type_list_append mt_append (pv 2) (pa_cons (pv 3) pa_nil)))
      (pss_one (ps_set (i := 3) sc_places.nd rfl (Or.inl rfl) (pe_bm PySem.F.plainAttrs_str PySem.F.slot_str_find PySem.F.type_str_find mt_find3 (pv 0) (pa_cons (pv 1) (pa_cons (pe_op op_add (pv 3) pe_int) pa_nil)))))))
      (pss_one (ps_ret (pv 2)))))), ?_⟩
    refine ⟨Nat.zero_le _, fun a ha => ?_⟩
    have mono : ∀ {z : Int} {lo : Nat}, True := trivial
    let PI : Nat → Int → Prop := fun lo z => lo ≤ x.length + 1 ∧ ((z = -1 ∧ ∀ i, lo ≤ i → ¬ StrLaws.At x wd x.length i) ∨ ∃ i : Nat, z = (i : Int) ∧ lo ≤ i ∧ StrLaws.At x wd x.length i ∧ ∀ k, lo ≤ k → k < i → ¬ StrLaws.At x wd x.length k)
    refine ⟨_, rfl, rfl, _, rfl, x, wd, rfl, rfl, ?_⟩
    refine ⟨fun m σ H' => ∃ (lo : Nat) (z : Int), σ = [some (.str x), some (.str wd), some (.ref a), some (.int z)] ∧ H' a = some (.lst ((((List.range lo).filter (atB x wd)).map Int.ofNat).map V.int)) ∧ Same H H' ∧ PI lo z ∧ m = if z < 0 then 0 else x.length + 2 - lo, ⟨_, 0, Txt.find x wd, rfl, upd_same, same_new ha, ⟨Nat.zero_le _, find_from x wd 0 (Nat.zero_le _)⟩, rfl⟩, ?_⟩
    rintro m σ H2 ⟨lo, z, rfl, hd, sm, ⟨hlo, hP⟩, rfl⟩
    refine ⟨_, rfl, _, _, rfl, rfl, _, rfl, ?_⟩
    refine ite2 (fun hz => ?_) (fun hz => ?_)
    · have hz0 := of_decide_eq_true hz
      rcases hP with ⟨rfl, _⟩ | ⟨i, rfl, hi, hA, hB⟩
      · exact absurd hz0 (by decide)
      · have hA1 := hA.1
        have em : (if ((i : Nat) : Int) < 0 then 0 else x.length + 2 - lo) = x.length + 2 - lo := if_neg (by omega)
        rw [em]
        have fl : ((((List.range lo).filter (atB x wd)).map Int.ofNat).map V.int).length ≤ lo := by
          rw [List.length_map, List.length_map]
          exact Nat.le_trans (List.length_filter_le _ _) (Nat.le_of_eq List.length_range)
        have snoc : (List.range (i + 1)).filter (atB x wd) = (List.range lo).filter (atB x wd) ++ [i] := by
          rw [filter_snoc ((atB_iff x wd i).mpr hA), filter_more hi fun j h1 h2 => by
            cases q : atB x wd j with
            | false => rfl
            | true => exact absurd ((atB_iff x wd j).mp q) (hB j h1 h2)]
        refine ⟨fun σ' H' => ∃ z : Int, σ' = [some (.str x), some (.str wd), some (.ref a), some (.int z)] ∧ H' a = some (.lst ((((List.range (i + 1)).filter (atB x wd)).map Int.ofNat).map V.int)) ∧ Same H H' ∧ PI (i + 1) z, ?_, ?_⟩
        · rintro σ' H' ⟨z, rfl, h1, h2, h3⟩
          refine ⟨_, ?_, i + 1, z, rfl, h1, h2, h3, rfl⟩
          split <;> omega
        · refine ⟨_, rfl, .inl ⟨rfl, _, SqL.of hd⟩, _, rfl, a, _, _, rfl, rfl, hd, Nat.lt_of_le_of_lt fl (Nat.lt_of_le_of_lt (show lo ≤ 10002 by omega) (by decide)), ?_⟩
          refine ⟨_, rfl, rfl, _, rfl, _, rfl, _, _, rfl, rfl, x, wd, _, rfl, rfl, ?_⟩
          refine ⟨_, rfl, ?_, ?_, ?_⟩
          · rw [upd_same, snoc, List.map_append, List.map_append]
            rfl
          · intro b o e
            have nb : b ≠ a := fun q => by rw [q, ha] at e; cases e
            exact (upd_ne nb).trans (sm b o e)
          · refine ⟨by omega, ?_⟩
            have ef : Txt.find3 x wd ((i : Int) + 1) = (match Builtin.Str.occurrences x wd (i + 1) x.length 1 with | i :: _ => (i : Int) | [] => -1) := by
              unfold Txt.find3
              rw [show fromIndex x.length ((i : Int) + 1) = i + 1 by unfold fromIndex; rw [if_neg (by omega)]; omega]
              cases Builtin.Str.occurrences x wd (i + 1) x.length 1 <;> rfl
            rw [ef]
            exact find_from x wd (i + 1) (by omega)
    · have hz0 : z < 0 := by
        have := of_decide_eq_false (by simpa using hz : decide (0 ≤ z) = false)
        omega
      rcases hP with ⟨rfl, hN⟩ | ⟨i, rfl, _⟩
      · refine ⟨_, rfl, k a _ ha ?_ sm⟩
        rw [hd]
        unfold plcI plc
        rw [filter_more hlo fun j h1 h2 => by
            cases q : atB x wd j with
            | false => rfl
            | true => exact absurd ((atB_iff x wd j).mp q) (hN j h1)]
      · omega

def nats (ns : List Nat) : List V := ns.map fun n => V.int (n : Nat)
theorem nats_plc {x w : Str} : (plcI x w).map V.int = nats (plc x w) := by
  unfold plcI nats
  rw [List.map_map]
  rfl
theorem nats_at {ns : List Nat} {i : Nat} {v : V} (h : (nats ns)[i]? = some v) : ∃ n, ns[i]? = some n ∧ v = .int (n : Nat) := by
  unfold nats at h
  rw [List.getElem?_map] at h
  obtain ⟨n, hn, e⟩ := Option.map_eq_some_iff.mp h
  exact ⟨n, hn, e.symm⟩
theorem nats_len {ns : List Nat} : (nats ns).length = ns.length := List.length_map _
theorem cut_1 {x : V} {xr : List V} : cutV (x :: xr) (some 1) none = xr := by
  unfold cutV
  rw [HT.sIx_none, show (1 : Int) = ((1 : Nat) : Int) from rfl, HT.sIx_nat]
  simp
theorem paired_app2 {α β : Type} {R : α → β → Prop} : ∀ {xs : List α} {ys : List β} {x : α} {y : β}, Paired R xs ys → R x y → Paired R (xs ++ [x]) (ys ++ [y]) := fun h a => Paired.snoc h a
/-- the parts of an edit at once -/
def PartsOf (H : Hp) (q : Addr) (ps : List (Str × Str)) : Prop := ∃ xs, H q = some (.tup xs) ∧ Paired (fun v (p : Str × Str) => ∃ t, v = V.ref t ∧ H t = some (.tup [.str p.1, .str p.2])) xs ps
theorem paired_impl {α β : Type} {R S : α → β → Prop} (h : ∀ a b, R a b → S a b) : ∀ {xs : List α} {ys : List β}, Paired R xs ys → Paired S xs ys
  | _, _, .nil => .nil
  | _, _, .cons a t => .cons (h _ _ a) (paired_impl h t)
theorem PartsOf.keep {H H1 : Hp} {q : Addr} {ps : List (Str × Str)} (h : PartsOf H q ps) (s : Same H H1) : PartsOf H1 q ps := by
  obtain ⟨xs, hq, pr⟩ := h
  exact ⟨xs, s _ _ hq, paired_impl (fun v p ⟨t, e, ht⟩ => ⟨t, e, s _ _ ht⟩) pr⟩
structure OkP (ps : List (Str × Str)) (x : Str) : Prop where
  x8 : x.length ≤ 800
  len : ps.length ≤ 3
  olds : ∀ p ∈ ps, 1 ≤ p.1.length ∧ p.1.length ≤ 100 ∧ p.2.length ≤ 100
  nd : (ps.map (·.1)).Nodup
def spPutsP (CN CO : Addr) : Sp := fun vs H Q E => ∃ q ps i x, vs = [.ref q, .int (i : Nat), .str x] ∧ PartsOf H q ps ∧ OkP ps x ∧
  (∀ m, wrongM x ps = some m → ∀ H1 d, Same H H1 → H1 d = none → E (.ref CN) (some d) (upd H1 d (.xd [(("number" : Str), .int (m : Nat)), (("index" : Str), .int (i : Nat))]))) ∧
  (wrongM x ps = none → overl (ordM (rowsM x ps 0)) = true → ∀ H1 d, Same H H1 → H1 d = none → E (.ref CO) (some d) (upd H1 d (.xd [(("index" : Str), .int (i : Nat))]))) ∧
  (wrongM x ps = none → overl (ordM (rowsM x ps 0)) = false → ∀ l xs H', Same H H' → H l = none → H' l = some (.lst xs) → RwsA H' putA xs (ordM (rowsM x ps 0)) → Q (.ref l) H')
theorem op_cons {x : Str} {ps : List (Str × Str)} (h : OkP ps x) : (∀ r ∈ rowsM x ps 0, 1 ≤ r.o.length) := fun r hr => (h.olds _ (rowsM_mem hr).2.1).1
def spCkP (CO : Addr) : Sp := fun vs H Q E => ∃ l got i R, vs = [.ref l, .int (i : Nat)] ∧ H l = some (.lst got) ∧ RwsA H putA got R ∧ (R.map fun r => ((r.b : Int), (r.e : Int))).Nodup ∧ (∀ r ∈ R, 1 ≤ r.o.length) ∧ R.length ≤ 3 ∧
  (overl (ordM R) = true → ∀ H1 d, Same H H1 → H1 d = none → E (.ref CO) (some d) (upd H1 d (.xd [(("index" : Str), .int (i : Nat))]))) ∧
  (overl (ordM R) = false → ∀ p xs H', Same H H' → H p = none → H' p = some (.lst xs) → RwsA H' putA xs (ordM R) → Q (.ref p) H')
abbrev s_checked_puts : Stmt := top 35
theorem sc_checked_puts : FnScope ["puts", "index", "told", "left", "right"] ["puts", "index"] (defScope s_checked_puts) := ⟨rfl, rfl, rfl, by decide +kernel, rfl, by decide +kernel, by decide +kernel⟩
theorem b_checked_puts {f : Addr} {fd : FuncData} (F : Fun K "checked_puts" "checked_puts" s_checked_puts f fd) (T : Txt mg) (c_Overlap : ClsI P w K mg base 1 "Overlap" C_Overlap ["index"]) (mSorted : mg "sorted" = none) (mZip : mg "zip" = none) : FnG P w K mg base (L2.CX P w) 3 f fd ["puts", "index"] (spCkP C_Overlap) := by
  refine okG F sc_checked_puts (fun vs H Q E h => ?_) (fun cdv A outer s H vs Q E hg hr h => ?_)
  · obtain ⟨lo, got, i0, R, rfl, _⟩ := h
    rfl
  · have hu := hu_of hr
    have hu64 := hr.units
    obtain ⟨lo, got, i0, R, rfl, hgot, rw2, nd, h1r, hp3, k2, k3⟩ := h
    refine ⟨_, (pss_cons (ps_set (i := 2) sc_checked_puts.nd rfl (Or.inl rfl) (pe_callB cr_sortedQ (by rfl) mSorted (by decide +kernel) (pa_cons (pv 0) pa_nil)))
      (pss_cons (ps_for (passes_of rfl) rfl (pi_zip (by rfl) mZip (pa_cons (pv 2) (pa_cons (pe_slice sl_list (pv 2) (po_some pe_int) po_none) pa_nil))) (pg_tup rfl (pgs_cons (pg_name (i := 3) sc_checked_puts.nd rfl (Or.inl rfl)) (pgs_cons (pg_name (i := 4) sc_checked_puts.nd rfl (Or.inl rfl)) pgs_nil))) (pss_one (ps_if (pt_cmpR op_lt (pe_ix ix_seq (pv 4) pe_int (fun _ _ => rfl)) (pe_ix ix_seq (pv 3) pe_int (fun _ _ => rfl)) (nomark _)) (pss_one (ps_raise rfl (takes_of rfl rfl rfl rfl) (pmk_k c_Overlap hg hr (by decide) pass0 (pa_cons (pv 1) pa_nil)))) pss_nil)))
      (pss_one (ps_ret (pv 2))))), ?_⟩
    refine ⟨_, rfl, lo, got, keyA H, rfl, SqL.of hgot, fun v hv => ?_, paired_key (fun v r h => key_put h) rw2 nd, fun ys p srt perm hp => ?_⟩
    · obtain ⟨r, hr, t, e, ht⟩ := paired_mem rw2 hv
      refine ⟨t, _, _, e, ?_, .inl ⟨r.n, rfl⟩, .inr ⟨(r.k : Nat), rfl⟩⟩
      rw [key_put ⟨t, e, ht⟩]
      exact ht
    obtain ⟨L, pm, rwL⟩ := paired_perm perm rw2
    have le1 := srtd_rows (fun v r h => key_put h) (fun r => rfl) rwL srt
    have h1L : ∀ r ∈ L, 1 ≤ r.o.length := fun r hr => h1r r (pm.mem_iff.mp hr)
    obtain ⟨ov, eqL⟩ := overl_same h1L (pm.trans (ordM_perm _).symm) le1 (ordM_le _)
    rw [← ov] at k2 k3
    have sp := same_new (o := .lst ys) hp
    have s3 := sp
    have hlL := paired_len rwL
    have yl : ys.length ≤ 3 := by rw [perm.length_eq, paired_len rw2]; exact hp3
    have hp3' : (upd H p (.lst ys)) p = some (.lst ys) := upd_same
    refine ⟨_, rfl, _, rfl, 1, rfl, p, ys, rfl, SqL.of upd_same, fun D5 hD5 => ?_⟩
    have s5 := s3.trans (same_new (o := .lst (cutV ys (some 1) none)) hD5)
    have hc : cutV ys (some 1) none = ys.drop 1 := by
      cases ys with
      | nil => rfl
      | cons a r => exact cut_1 
    rw [hc] at s5 ⊢
    have hp5 : (upd (upd H p (.lst ys)) D5 (.lst (ys.drop 1))) p = some (.lst ys) := (same_new hD5) _ _ hp3'
    have hD6 : (upd (upd H p (.lst ys)) D5 (.lst (ys.drop 1))) D5 = some (.lst (ys.drop 1)) := upd_same
    have rw5 : RwsA (upd (upd H p (.lst ys)) D5 (.lst (ys.drop 1))) putA ys L := RwsA.keep (fun h => (same_new hD5) _ _ (sp _ _ h)) rwL
    generalize upd (upd H p (.lst ys)) D5 (.lst (ys.drop 1)) = H5 at s5 hp5 hD6 rw5
    refine ⟨p, D5, ys, ys.drop 1, rfl, SqL.of hp5, SqL.of hD6, fun i m σ H6 => m + i = ys.length ∧ ∃ o8 o9, σ = [some (.ref lo), some (.int (i0 : Nat)), some (.ref p), o8, o9] ∧ Same H5 H6 ∧ overl L = overl (L.drop i), ⟨ys.length, rfl, _, _, rfl, Same.rfl, rfl⟩, ?_⟩
    rintro i m σ H6 ⟨hm, o8, o9, rfl, s6, oe⟩
    by_cases hi2 : i + 1 < ys.length
    · obtain ⟨a, ha⟩ : ∃ v, ys[i]? = some v := ⟨ys[i], List.getElem?_eq_getElem (by omega)⟩
      obtain ⟨c, hc1⟩ : ∃ v, ys[i + 1]? = some v := ⟨ys[i + 1], List.getElem?_eq_getElem hi2⟩
      have hc2 : (ys.drop 1)[i]? = some c := by rw [List.getElem?_drop, Nat.add_comm]; exact hc1
      obtain ⟨ra, hra, ta, rfl, hta⟩ := paired_at rw5 ha
      obtain ⟨rc, hrc, tc, rfl, htc⟩ := paired_at rw5 hc1
      rw [drop_at hra, drop_at hrc, overl_cons, ← drop_at hrc] at oe
      refine .inr ⟨⟨_, _, _, _, SqL.of (s6 _ _ hp5), SqL.of (s6 _ _ hD6), ha, hc2⟩, fun σ2 H3 => m - 1 + (i + 1) = ys.length ∧ ∃ o8 o9, σ2 = [some (.ref lo), some (.int (i0 : Nat)), some (.ref p), o8, o9] ∧ Same H5 H3 ∧ overl L = overl (L.drop (i + 1)), fun σ2 H3 p => ⟨m - 1, by omega, p⟩, ?_⟩
      rintro w H7 ⟨T2, y2, y3, rfl, hT2, rfl, hy2, hy3⟩
      have e2 := (hy2 _ (SqL.of (s6 _ _ hp5))).symm.trans ha
      have e3 := (hy3 _ (SqL.of (s6 _ _ hD6))).symm.trans hc2
      cases e2
      cases e3
      have s7 := s6.trans (same_new (o := .tup [.ref ta, .ref tc]) hT2)
      refine ⟨T2, _, rfl, SqT.of upd_same, rfl, ?_⟩
      refine ⟨_, _, rfl, _, _, rfl, rfl, ?_⟩
      refine ⟨_, rfl, .inr (.inl ⟨tc, _, 0, _, rfl, rfl, SqT.of (s7 _ _ htc), rfl, _, rfl, .inr (.inl ⟨ta, _, 1, _, rfl, rfl, SqT.of (s7 _ _ hta), rfl, _, _, rfl, rfl, _, rfl, ?_⟩)⟩)⟩
      by_cases ho : rc.b < ra.e
      · rw [show decide (((rc.b : Nat) : Int) < ((ra.e : Nat) : Int)) = true from decide_eq_true (by omega)]
        rw [decide_eq_true ho, Bool.true_or] at oe
        exact iteT ⟨_, rfl, rfl, fun d hd => k2 oe _ d (s5.trans s7) hd⟩
      · rw [show decide (((rc.b : Nat) : Int) < ((ra.e : Nat) : Int)) = false from decide_eq_false (by omega)]
        rw [decide_eq_false ho, Bool.false_or] at oe
        exact iteF ⟨by omega, _, _, rfl, s7, oe⟩
    · refine .inl ⟨⟨_, _, SqL.of (s6 _ _ hp5), SqL.of (s6 _ _ hD6), .inr (by rw [List.length_drop]; omega)⟩, ?_⟩
      have of : overl L = false := by
        rw [oe]
        match q : L.drop i with
        | [] => rfl
        | [_] => rfl
        | _ :: _ :: _ =>
          have := congrArg List.length q
          rw [List.length_drop, List.length_cons, List.length_cons] at this
          omega
      have eL := eqL (ov.symm.trans of)
      refine ⟨_, rfl, k3 of p ys H6 (s5.trans s6) hp (s6 _ _ hp5) ?_⟩
      rw [← eL]
      exact RwsA.keep (fun h => s6 _ _ h) rw5

abbrev s_puts_of_parts : Stmt := top 36
theorem sc_puts_of_parts : FnScope ["parts", "index", "text", "puts", "part", "old", "new", "found"] ["parts", "index", "text"] (defScope s_puts_of_parts) := ⟨rfl, rfl, rfl, by decide +kernel, rfl, by decide +kernel, by decide +kernel⟩
theorem b_puts_of_parts {f : Addr} {fd : FuncData} (F : Fun K "puts_of_parts" "puts_of_parts" s_puts_of_parts f fd) (T : Txt mg) (c_places : CalG P w K mg base CX0 1 "places" (spPlaces K)) (c_NoPlace : ClsI P w K mg base 1 "NoPlace" C_NoPlace ["index", "number"]) (c_checked_puts : CalG P w K mg base (L2.CX P w) 3 "checked_puts" (spCkP C_Overlap)) : FnG P w K mg base (L2.CX P w) 4 f fd ["parts", "index", "text"] (spPutsP C_NoPlace C_Overlap) := by
  refine okG F sc_puts_of_parts (fun vs H Q E h => ?_) (fun cdv A outer s H vs Q E hg hr h => ?_)
  · obtain ⟨q, ps, i0, x, rfl, _⟩ := h
    rfl
  · have hu := hu_of hr
    have hu64 := hr.units
    obtain ⟨q, ps, i0, x, rfl, ⟨xs, hq, pr⟩, ok, k1, k2, k3⟩ := h
    have hlen := paired_len pr
    have hx8 := ok.x8
    have hp3 := ok.len
    refine ⟨_, (pss_cons (ps_set (i := 3) sc_puts_of_parts.nd rfl (Or.inl rfl) (pe_lst pa_nil))
      (pss_cons (ps_for (passes_of rfl) rfl (pi_enumT (by rfl) T.enumerate (pa_cons (pv 0) pa_nil)) (pg_tup rfl (pgs_cons (pg_name (i := 4) sc_puts_of_parts.nd rfl (Or.inl rfl)) (pgs_cons (pg_tup rfl (pgs_cons (pg_name (i := 5) sc_puts_of_parts.nd rfl (Or.inl rfl)) (pgs_cons (pg_name (i := 6) sc_puts_of_parts.nd rfl (Or.inl rfl)) pgs_nil))) pgs_nil))) (pss_cons (ps_set (i := 7) sc_puts_of_parts.nd rfl (Or.inl rfl) (pe_cG c_places hg hr (by decide) pass0 (pa_cons (pv 2) (pa_cons (pv 5) pa_nil))))
      (pss_cons (ps_if (pt_cmpR op_ne (pe_callB call_len (by rfl) T.len (by decide +kernel) (pa_cons (pv 7) pa_nil)) pe_int (nomark _)) (pss_one (ps_raise rfl (takes_of rfl rfl rfl rfl) (pmk_k c_NoPlace hg hr (by decide) pass0 (pa_cons (pv 1) (pa_cons (pe_callB call_len (by rfl) T.len (by decide +kernel) (pa_cons (pv 7) pa_nil)) pa_nil))))) pss_nil)
      (pss_one (ps_expr (pe_bm PySem.F.plainAttrs_list PySem.F.slot_list_append PySem.F.type_list_append mt_append (pv 3) (pa_cons (pe_tup (pa_cons (pe_ix ix_seq (pv 7) pe_int (fun _ _ => rfl)) (pa_cons (pe_op op_add (pe_ix ix_seq (pv 7) pe_int (fun _ _ => rfl)) (pe_callB call_len (by rfl) T.len (by decide +kernel) (pa_cons (pv 5) pa_nil))) (pa_cons (pv 6) (pa_cons (pv 4) pa_nil))))) pa_nil)))))))
      (pss_one (ps_ret (pe_cG c_checked_puts hg hr (by decide) (passes_call (takes_of rfl rfl rfl rfl) (fun _ _ _ _ h => h)) (pa_cons (pv 3) (pa_cons (pv 1) pa_nil))))))), ?_⟩
    refine ⟨few_len (Nat.zero_le _), fun lo hlo => ?_⟩
    have s0 := same_new (o := .lst []) hlo
    refine ⟨_, rfl, q, _, rfl, s0 _ _ hq, fun i m σ H2 => m + i = xs.length ∧ ∃ o4 o5 o6 o7 got, σ = [some (.ref q), some (.int (i0 : Nat)), some (.str x), some (.ref lo), o4, o5, o6, o7] ∧ Same H H2 ∧ H2 lo = some (.lst got) ∧ RwsA H2 putA got (rowsM x (ps.take i) 0) ∧ wrongM x ps = wrongM x (ps.drop i), ⟨xs.length, rfl, _, _, _, _, [], rfl, s0, upd_same, .nil, rfl⟩, ?_⟩
    rintro i m σ H2 ⟨hm, o4, o5, o6, o7, got, rfl, s2, hg, rw2, we⟩
    by_cases hi : i < xs.length
    · obtain ⟨v, hv⟩ : ∃ v, xs[i]? = some v := ⟨xs[i], List.getElem?_eq_getElem hi⟩
      obtain ⟨⟨z1, z2⟩, he, t, rfl, ht0⟩ := paired_at pr hv
      obtain ⟨b0, b1, b2⟩ := ok.olds _ (List.mem_of_getElem? he)
      dsimp only at b0 b1 b2 ht0
      have ptk : ps.take (i + 1) = ps.take i ++ [(z1, z2)] := by rw [List.take_add_one, he]; rfl
      rw [drop_at he, wrongM_cons] at we
      refine .inr ⟨⟨_, _, s2 _ _ hq, hv⟩, fun σ2 H3 => m - 1 + (i + 1) = xs.length ∧ ∃ o4 o5 o6 o7 got, σ2 = [some (.ref q), some (.int (i0 : Nat)), some (.str x), some (.ref lo), o4, o5, o6, o7] ∧ Same H H3 ∧ H3 lo = some (.lst got) ∧ RwsA H3 putA got (rowsM x (ps.take (i + 1)) 0) ∧ wrongM x ps = wrongM x (ps.drop (i + 1)), fun σ2 H3 p => ⟨m - 1, by omega, p⟩, ?_⟩
      rintro w H3 ⟨T2, y2, xs2, rfl, hT2, rfl, hxs, hy⟩
      have e := (s2 _ _ hq).symm.trans hxs
      cases e
      cases hv.symm.trans hy
      have sT := same_new (o := .tup [.int (i : Nat), .ref t]) hT2
      have s3 := s2.trans sT
      refine ⟨T2, _, rfl, SqT.of upd_same, rfl, ?_⟩
      refine ⟨_, _, rfl, _, _, rfl, t, _, rfl, SqT.of (s3 _ _ ht0), rfl, _, _, rfl, _, _, rfl, rfl, rfl, ?_⟩
      refine ⟨_, rfl, _, rfl, x, z1, rfl, by omega, by omega, fun D H4 hD0 hD s4 => ?_⟩
      rw [nats_plc] at hD
      have hpl : (plc x z1).length ≤ 801 := Nat.le_trans (plc_len x z1) (by omega)
      have s34 := s3.trans s4
      have lenP : LenV K (.ref D) H4 (plc x z1).length := .inl ⟨_, SqL.of hD, nats_len.symm⟩
      refine ⟨_, rfl, .ref D, (plc x z1).length, rfl, lenP, rfl, _, rfl, ?_⟩
      by_cases h1 : (plc x z1).length = 1
      · rw [if_pos h1] at we
        rw [show (!decide (V.int ((plc x z1).length : Nat) = V.int 1)) = false from by rw [h1]; rfl]
        refine iteF ?_
        have one := one_head h1
        have hg4 : H4 lo = some (.lst got) := s4 _ _ (sT _ _ hg)
        have at0 : atI (nats (plc x z1)) 0 = some (.int ((plc x z1).headD 0 : Nat)) := by rw [one]; rfl
        refine ⟨_, rfl, .inl ⟨rfl, _, SqL.of hg4⟩, _, rfl, .inl ⟨D, _, 0, _, rfl, rfl, SqL.of hD, at0, _, rfl, .inl ⟨D, _, 0, _, rfl, rfl, SqL.of hD, at0, _, rfl, _, _, rfl, ⟨by rw [sizeLine_eq]; omega, rfl⟩, _, _, rfl, rfl, _, rfl, _, rfl, few_len (Nat.le_of_ble_eq_true rfl), fun t5 ht5 => ?_⟩⟩⟩
        have st5 := same_new (o := .tup [.int ((plc x z1).headD 0 : Nat), .int (((plc x z1).headD 0 : Nat) + (z1.length : Int)), .str z2, .int (i : Nat)]) ht5
        have hne : t5 ≠ lo := (ne_of_none hg4 ht5).symm
        have gl := paired_len rw2
        rw [rowsM_len, List.length_take] at gl
        refine ⟨lo, _, _, rfl, rfl, st5 _ _ hg4, few_lt (by omega), by omega, _, _, _, _, got ++ [.ref t5], rfl, fun b o h => ?_, upd_same, ?_, we⟩
        · rw [upd_ne (ne_of_none h hlo)]
          exact st5 _ _ (s34 _ _ h)
        · have un : ∀ {u : Addr} {ws : List V}, H2 u = some (.tup ws) → (upd (upd H4 t5 (.tup [.int ((plc x z1).headD 0 : Nat), .int (((plc x z1).headD 0 : Nat) + (z1.length : Int)), .str z2, .int (i : Nat)])) lo (.lst (got ++ [.ref t5]))) u = some (.tup ws) := fun h => by
            rw [upd_ne (fun e => by rw [e, hg] at h; cases h)]
            exact st5 _ _ (s4 _ _ (sT _ _ h))
          rw [ptk, rowsM_snoc, List.length_take, Nat.min_eq_left (by omega), Nat.zero_add]
          refine paired_app2 (RwsA.keep un rw2) ⟨t5, rfl, ?_⟩
          rw [upd_ne hne]
          exact upd_same
      · rw [show (!decide (V.int ((plc x z1).length : Nat) = V.int 1)) = true from by rw [decide_eq_false (fun z => h1 (by have := V.int.inj z; omega))]; rfl]
        rw [if_neg h1] at we
        refine iteT ⟨_, rfl, _, rfl, .ref D, (plc x z1).length, rfl, lenP, rfl, fun d hd => k1 _ we _ d s34 hd⟩
    · have ei : i = xs.length := by omega
      rw [List.take_of_length_le (by omega)] at rw2
      rw [List.drop_of_length_le (by omega)] at we
      have hw : wrongM x ps = none := we
      refine .inl ⟨⟨_, s2 _ _ hq, ei.symm⟩, ?_⟩
      exact ⟨_, rfl, _, rfl, lo, got, i0, _, rfl, hg, rw2, keys_put hw ok.nd, op_cons ok, by rw [rowsM_len]; exact hp3, fun o H1 d s hd => k2 hw o H1 d (s2.trans s) hd, fun o p xs H' s hn h1 h2 => k3 hw o p xs H' (s2.trans s) (by
        match e : H p with
        | none => rfl
        | some o => exact nomatch (s2 _ _ e).symm.trans hn) h1 h2⟩

end
end Vk
set_option Elab.async false
set_option maxRecDepth 100000
set_option linter.all false
set_option maxHeartbeats 4000000
namespace Vk
open PySem PySem.Spec PyProof.Rows L2 LamX NdefX StX
section
variable {P : Program} {w : World} {K : PySem.W.Frag} {mg : Str → Option Value} {base : Heap}
variable {C_Once C_First C_Perhaps C_Every C_AtOnce C_Edit C_Program C_NoPlace C_Overlap : Addr}
def spFits (C0 C1 C2 C3 : Addr) : Sp := fun vs H Q _ => ∃ n a dx fs m, vs = [.ref a, .int (m : Nat)] ∧ n < 4 ∧ H a = some (.ins (cls4 C0 C1 C2 C3 n) dx fs) ∧ ∀ H', Same H H' → Q (.bl (fitsM n m)) H'
abbrev s_fits : Stmt := top 32
theorem sc_fits : FnScope ["edit", "number"] ["edit", "number"] (defScope s_fits) := ⟨rfl, rfl, rfl, by decide +kernel, rfl, by decide +kernel, by decide +kernel⟩
theorem b_fits {f : Addr} {fd : FuncData} (F : Fun K "fits" "fits" s_fits f fd) (T : Txt mg) (n_First : mg "First" = some (.ref C_First)) (n_Every : mg "Every" = some (.ref C_Every)) (n_Perhaps : mg "Perhaps" = some (.ref C_Perhaps)) (ed : ∀ n, n < 4 → EdF K (cls4 C_Once C_First C_Perhaps C_Every n)) (kit : ∀ i j, i < 4 → j < 4 → PySem.W.kitOne K (.ref (cls4 C_Once C_First C_Perhaps C_Every i)) (.ref (cls4 C_Once C_First C_Perhaps C_Every j)) = some (i == j)) (kFE : ∀ n, n < 4 → PySem.W.kitAny K (.ref (cls4 C_Once C_First C_Perhaps C_Every n)) [.ref C_First, .ref C_Every] = some (n == 1 || n == 3)) : FnG P w K mg base CX0 1 f fd ["edit", "number"] (spFits C_Once C_First C_Perhaps C_Every) := by
  refine okG0 F sc_fits (fun vs H Q E h => ?_) (fun cdv A outer s H vs Q E hg hr h => ?_)
  · obtain ⟨n, a, dx, fs, m, rfl, _⟩ := h
    rfl
  · have hu := hu_of hr
    have hu64 := hr.units
    obtain ⟨n, a, dx, fs, m, rfl, hn, ha, k⟩ := h
    refine ⟨_, (pss_cons (ps_if (pt_val (pe_callB call_isiT (by rfl) T.isinstance (by decide +kernel) (pa_cons (pv 0) (pa_cons (pe_tup (pa_cons (pe_glob (v := .ref C_First) (by rfl) n_First rfl) (pa_cons (pe_glob (v := .ref C_Every) (by rfl) n_Every rfl) pa_nil))) pa_nil)))) (pss_one (ps_ret (pe_cmpR op_gt (pv 1) pe_int (nomark _)))) pss_nil)
      (pss_cons (ps_if (pt_val (pe_callB call_isi (by rfl) T.isinstance (by decide +kernel) (pa_cons (pv 0) (pa_cons (pe_glob (v := .ref C_Perhaps) (by rfl) n_Perhaps rfl) pa_nil)))) (pss_one (ps_ret (pe_cmpR op_lt (pv 1) pe_int (nomark _)))) pss_nil)
      (pss_one (ps_ret (pe_cmpR op_eq (pv 1) pe_int (nomark _)))))), ?_⟩
    have ty := (ed n hn).ty ha
    refine ⟨_, rfl, few_len (Nat.le_of_ble_eq_true rfl), fun t ht => ?_⟩
    have s1 := same_new (o := .tup [.ref C_First, .ref C_Every]) ht
    have ha1 := s1 _ _ ha
    refine ⟨.ref a, t, _, _, _, _, rfl, upd_same, .cons (.own _) (.cons (.own _) .nil), (ed n hn).ty ha1, kFE n hn, _, rfl, ?_⟩
    match n, hn with
    | 0, hn =>
      refine iteF ⟨_, rfl, .ref a, .ref C_Perhaps, _, .ref C_Perhaps, _, rfl, .own _, (ed 0 hn).ty ha1, kit 0 2 hn (by decide), _, rfl, iteF ⟨_, rfl, rfl, ?_⟩⟩
      have q := k _ s1
      rw [show fitsM 0 m = decide (V.int (m : Int) = V.int 1) from by
        show decide (m = 1) = _
        by_cases e : m = 1
        · subst e; rfl
        · rw [decide_eq_false e, decide_eq_false (fun z => e (by have := V.int.inj z; omega))]] at q
      exact q
    | 1, hn => exact iteT ⟨_, rfl, _, _, rfl, rfl, by
        have q := k _ s1
        rw [show fitsM 1 m = decide ((m : Int) > 0) from by
          show decide (0 < m) = _
          by_cases e : 0 < m
          · rw [decide_eq_true e, decide_eq_true (by omega)]
          · rw [decide_eq_false e, decide_eq_false (by omega)]] at q
        exact q⟩
    | 2, hn => exact iteF ⟨_, rfl, .ref a, .ref C_Perhaps, _, .ref C_Perhaps, _, rfl, .own _, (ed 2 hn).ty ha1, kit 2 2 hn (by decide), _, rfl, iteT ⟨_, rfl, _, _, rfl, rfl, by
        have q := k _ s1
        rw [show fitsM 2 m = decide ((m : Int) < 2) from by
          show decide (m < 2) = _
          by_cases e : m < 2
          · rw [decide_eq_true e, decide_eq_true (by omega)]
          · rw [decide_eq_false e, decide_eq_false (by omega)]] at q
        exact q⟩⟩
    | 3, hn => exact iteT ⟨_, rfl, _, _, rfl, rfl, by
        have q := k _ s1
        rw [show fitsM 3 m = decide ((m : Int) > 0) from by
          show decide (0 < m) = _
          by_cases e : 0 < m
          · rw [decide_eq_true e, decide_eq_true (by omega)]
          · rw [decide_eq_false e, decide_eq_false (by omega)]] at q
        exact q⟩
    | n + 4, hn => exact absurd hn (by omega)

def spApart (K : PySem.W.Frag) : Sp := fun vs H Q _ => ∃ D len ns, vs = [.ref D, .int (len : Nat)] ∧ H D = some (.lst (nats ns)) ∧ ns.length ≤ 900 ∧ ∀ l H', Same H H' → H l = none → H' l = some (.lst (nats (apartM len ns 0))) → Q (.ref l) H'
abbrev s_apart : Stmt := top 33
theorem sc_apart : FnScope ["found", "length", "taken", "end", "place"] ["found", "length"] (defScope s_apart) := ⟨rfl, rfl, rfl, by decide +kernel, rfl, by decide +kernel, by decide +kernel⟩
theorem b_apart {f : Addr} {fd : FuncData} (F : Fun K "apart" "apart" s_apart f fd) (T : Txt mg) : FnG P w K mg base CX0 1 f fd ["found", "length"] (spApart K) := by
  refine okG0 F sc_apart (fun vs H Q E h => ?_) (fun cdv A outer s H vs Q E hg hr h => ?_)
  · obtain ⟨D, len, ns, rfl, _⟩ := h
    rfl
  · have hu := hu_of hr
    have hu64 := hr.units
    obtain ⟨D, len, ns, rfl, hD, hl, k⟩ := h
    refine ⟨_, (pss_cons (ps_set (i := 2) sc_apart.nd rfl (Or.inl rfl) (pe_lst pa_nil))
      (pss_cons (ps_set (i := 3) sc_apart.nd rfl (Or.inl rfl) pe_int)
      (pss_cons (ps_for PassesOwn.never rfl (pi_list (pv 0)) (pg_name (i := 4) sc_apart.nd rfl (Or.inl rfl)) (pss_one (ps_if (pt_cmpR op_ge (pv 4) (pv 3) (nomark _)) (pss_cons (ps_expr (pe_bm PySem.F.plainAttrs_list PySem.F.slot_list_append PySem.F.type_list_append mt_append (pv 2) (pa_cons (pv 4) pa_nil)))
      (pss_one (ps_set (i := 3) sc_apart.nd rfl (Or.inl rfl) (pe_op op_add (pv 4) (pv 1))))) pss_nil)))
      (pss_one (ps_ret (pv 2)))))), ?_⟩
    refine ⟨few_len (Nat.zero_le _), fun lo hlo => ?_⟩
    have s0 := same_new (o := .lst []) hlo
    refine ⟨_, rfl, D, rfl, ⟨_, SqL.of (s0 _ _ hD)⟩, ?_⟩
    refine for_list (xs := nats ns) (fun i σ H2 => ∃ (o : Option V) (e : Nat) (got : List Nat), σ = [some (.ref D), some (.int (len : Nat)), some (.ref lo), some (.int (e : Nat)), o] ∧ Same H H2 ∧ H2 lo = some (.lst (nats got)) ∧ got.length ≤ i ∧ got ++ apartM len (ns.drop i) e = apartM len ns 0) ?_ ?_ ?_ ?_
    · exact ⟨_, 0, [], rfl, s0, upd_same, Nat.le_refl _, rfl⟩
    · rintro i σ H2 _ ⟨o, e, got, rfl, s2, _⟩
      exact SqL.of (s2 _ _ hD)
    · rintro i v σ H2 hv ⟨o, e, got, rfl, s2, hg, gl, ge⟩
      obtain ⟨p, hp, rfl⟩ := nats_at hv
      have il : i < ns.length := (List.getElem?_eq_some_iff.mp hp).1
      rw [drop_at hp, apartM_cons] at ge
      refine ⟨_, rfl, _, rfl, _, _, rfl, rfl, _, rfl, ?_⟩
      by_cases h : e ≤ p
      · rw [if_pos h] at ge
        rw [show decide (((p : Nat) : Int) ≥ (e : Nat)) = true from decide_eq_true (by omega)]
        refine iteT ⟨_, rfl, .inl ⟨rfl, _, SqL.of hg⟩, _, rfl, lo, _, _, rfl, rfl, hg, few_lt (by unfold nats; rw [List.length_map]; omega), ?_⟩
        refine ⟨_, rfl, _, rfl, _, _, rfl, rfl, _, p + len, got ++ [p], rfl, fun b o2 h2 => ?_, ?_, by rw [List.length_append]; exact Nat.succ_le_succ gl, ?_⟩
        · rw [upd_ne (ne_of_none h2 hlo)]
          exact s2 _ _ h2
        · rw [upd_same]
          unfold nats
          rw [List.map_append]
          rfl
        · rw [← ge, List.append_assoc]
          rfl
      · rw [if_neg h] at ge
        rw [show decide (((p : Nat) : Int) ≥ (e : Nat)) = false from decide_eq_false (by omega)]
        exact iteF ⟨_, e, got, rfl, s2, hg, Nat.le_succ_of_le gl, ge⟩
    · rintro σ H2 ⟨o, e, got, rfl, s2, hg, gl, ge⟩
      rw [List.drop_of_length_le (by unfold nats; rw [List.length_map]; exact Nat.le_refl _)] at ge
      rw [apartM_nil, List.append_nil] at ge
      exact ⟨_, rfl, k lo H2 s2 hlo (ge ▸ hg)⟩

/-- begin, end, new, part -/
def putV (z2 : Str) (len p : Nat) : List V := [.int (p : Nat), .int (p + len : Nat), .str z2, .int 0]
def spPuts (Cs : Nat → Addr) (CN : Addr) : Sp := fun vs H Q E => ∃ n a dx z1 z2 i x, vs = [.ref a, .int (i : Nat), .str x] ∧ n < 4 ∧ H a = some (.ins (Cs n) dx (fl z1 z2)) ∧ x.length ≤ 800 ∧ z1.length ≤ 100 ∧
  (fitsM n (plc x z1).length = false → ∀ H1 d, Same H H1 → H1 d = none → E (.ref CN) (some d) (upd H1 d (.xd [(("number" : Str), .int ((plc x z1).length : Nat)), (("index" : Str), .int (i : Nat))]))) ∧
  (fitsM n (plc x z1).length = true → ∀ l xs H', Same H H' → H l = none → H' l = some (.lst xs) → Rws H' (putV z2 z1.length) xs (spotsM n z1.length (plc x z1)) → Q (.ref l) H')
theorem nats_take {ns : List Nat} {i : Nat} : (nats ns).take i = nats (ns.take i) := by
  unfold nats
  rw [List.map_take]
theorem cut_first {ns : List Nat} : cutV (nats ns) none (some 1) = nats (ns.take 1) := by
  unfold cutV
  rw [HT.sIx_none, show (1 : Int) = ((1 : Nat) : Int) from rfl, HT.sIx_nat, List.drop_zero, Nat.sub_zero]
  cases ns with
  | nil => rfl
  | cons a r =>
    rw [show min 1 (nats (a :: r)).length = 1 from by rw [nats_len, List.length_cons]; omega]
    exact nats_take
theorem ths_rows {H H1 : Hp} {f : Nat → List V} (s : ∀ {u : Addr} {ws : List V}, H u = some (.tup ws) → H1 u = some (.tup ws)) : ∀ {xs : List V} {ps : List Nat}, Rws H f xs ps → Rws H1 f xs ps
  | _, _, .nil => .nil
  | _, _, .cons a t => .cons (by obtain ⟨u, e, h⟩ := a; exact ⟨u, e, s h⟩) (ths_rows s t)
abbrev s_puts_of_one : Stmt := top 34
theorem sc_puts_of_one : FnScope ["edit", "index", "text", "found", "place"] ["edit", "index", "text"] (defScope s_puts_of_one) := ⟨rfl, rfl, rfl, by decide +kernel, rfl, by decide +kernel, by decide +kernel⟩
theorem b_puts_of_one {f : Addr} {fd : FuncData} (F : Fun K "puts_of_one" "puts_of_one" s_puts_of_one f fd) (T : Txt mg) (c_places : CalG P w K mg base CX0 1 "places" (spPlaces K)) (c_fits : CalG P w K mg base CX0 1 "fits" (spFits C_Once C_First C_Perhaps C_Every)) (c_apart : CalG P w K mg base CX0 1 "apart" (spApart K)) (c_NoPlace : ClsI P w K mg base 1 "NoPlace" C_NoPlace ["index", "number"]) (n_First : mg "First" = some (.ref C_First)) (ed : ∀ n, n < 4 → EdF K (cls4 C_Once C_First C_Perhaps C_Every n)) (kit : ∀ i j, i < 4 → j < 4 → PySem.W.kitOne K (.ref (cls4 C_Once C_First C_Perhaps C_Every i)) (.ref (cls4 C_Once C_First C_Perhaps C_Every j)) = some (i == j)) (pr_old : ∀ n, n < 4 → PrI P w K mg base 1 (cls4 C_Once C_First C_Perhaps C_Every n) "old" "_old") (pr_new : ∀ n, n < 4 → PrI P w K mg base 1 (cls4 C_Once C_First C_Perhaps C_Every n) "new" "_new") : FnG P w K mg base (L2.CX P w) 3 f fd ["edit", "index", "text"] (spPuts (cls4 C_Once C_First C_Perhaps C_Every) C_NoPlace) := by
  refine okG F sc_puts_of_one (fun vs H Q E h => ?_) (fun cdv A outer s H vs Q E hg hr h => ?_)
  · obtain ⟨n, a, dx, z1, z2, i, x, rfl, _⟩ := h
    rfl
  · have hu := hu_of hr
    have hu64 := hr.units
    obtain ⟨n, a, dx, z1, z2, i, x, rfl, hn, ha, hx, hz, k1, k2⟩ := h
    refine ⟨_, (pss_cons (ps_set (i := 3) sc_puts_of_one.nd rfl (Or.inl rfl) (pe_cG c_places hg hr (by decide) pass0 (pa_cons (pv 2) (pa_cons (pe_propN (pv 0) pr_old hr (by decide)) pa_nil))))
      (pss_cons (ps_if (pt_not (pt_val (pe_cG c_fits hg hr (by decide) pass0 (pa_cons (pv 0) (pa_cons (pe_callB call_len (by rfl) T.len (by decide +kernel) (pa_cons (pv 3) pa_nil)) pa_nil))))) (pss_one (ps_raise rfl (takes_of rfl rfl rfl rfl) (pmk_k c_NoPlace hg hr (by decide) pass0 (pa_cons (pv 1) (pa_cons (pe_callB call_len (by rfl) T.len (by decide +kernel) (pa_cons (pv 3) pa_nil)) pa_nil))))) pss_nil)
      (C8.pss_cut (ps_if (pt_val (pe_callB call_isi (by rfl) T.isinstance (by decide +kernel) (pa_cons (pv 0) (pa_cons (pe_glob (v := .ref C_First) (by rfl) n_First rfl) pa_nil)))) (pss_one (ps_set (i := 3) sc_puts_of_one.nd rfl (Or.inl rfl) (pe_slice sl_list (pv 3) po_none (po_some pe_int)))) pss_nil)
      (pss_one (ps_ret (pe_lc (own := [("place", 4)]) (g := gName 4) (tt := tYes) rfl sc_puts_of_one.nd (pi_list (pe_cG c_apart hg hr (by decide) pass0 (pa_cons (pv 3) (pa_cons (pe_callB call_len (by rfl) T.len (by decide +kernel) (pa_cons (pe_propN (pv 0) pr_old hr (by decide)) pa_nil)) pa_nil)))) (blkOk_by (own := [("place", 4)]) (N := ["edit", "index", "text", "found", "place"]) (sc := defScope s_puts_of_one) (by decide +kernel)) (fun _ _ _ _ _ => (pg_name (i := 4) sc_puts_of_one.nd rfl (Or.inl rfl))) (fun _ _ _ _ _ => pts_nil) (fun _ _ _ _ _ => (pe_tup (pa_cons (pv 4) (pa_cons (pe_op op_add (pv 4) (pe_callB (call_lenK (K := K) rfl) (by rfl) T.len (by decide +kernel) (pa_cons (pe_propN (pv 0) pr_old hr (by decide)) pa_nil))) (pa_cons (pe_propN (pv 0) pr_new hr (by decide)) (pa_cons pe_int pa_nil)))))))))))), ?_⟩
    have hpl : (plc x z1).length ≤ 801 := Nat.le_trans (plc_len x z1) (by omega)
    refine ⟨_, rfl, _, rfl, n, a, dx, _, .str z1, hn, rfl, ha, fl_old, x, z1, rfl, by omega, by omega, fun D H1 hD0 hD s1 => ?_⟩
    rw [nats_plc] at hD
    generalize hps : plc x z1 = ps at hD hpl k1 k2
    have lenP : ∀ {H' : Hp}, Same H1 H' → LenV K (.ref D) H' ps.length := fun s => .inl ⟨_, SqL.of (s _ _ hD), nats_len.symm⟩
    refine ⟨_, rfl, _, rfl, .ref D, ps.length, rfl, lenP Same.rfl, n, a, dx, _, ps.length, rfl, hn, s1 _ _ ha, fun H2 s2 => ⟨_, rfl, ?_⟩⟩
    have s12 := s1.trans s2
    cases hf : fitsM n ps.length with
    | false => exact iteT ⟨_, rfl, _, rfl, .ref D, ps.length, rfl, lenP s2, rfl, fun d hd => k1 hf _ d s12 hd⟩
    | true =>
      refine iteF ?_
      replace k2 := k2 hf
      refine ⟨fun σ' H' => ∃ D2 o, σ' = [some (.ref a), some (.int (i : Nat)), some (.str x), some (.ref D2), o] ∧ Same H H' ∧ H' D2 = some (.lst (nats (if n = 1 then ps.take 1 else ps))), ?_, ?_⟩
      · refine ⟨_, rfl, .ref a, .ref C_First, _, .ref C_First, _, rfl, .own _, (ed n hn).ty (s12 _ _ ha), kit n 1 hn (by decide), _, rfl, ?_⟩
        by_cases h1 : n = 1
        · subst h1
          refine iteT ⟨_, rfl, 1, rfl, D, _, rfl, SqL.of (s2 _ _ hD), fun D2 hD2 => ⟨D2, _, rfl, s12.trans (same_new hD2), ?_⟩⟩
          rw [upd_same, cut_first]
          rfl
        · rw [show (n == 1) = false from by simpa using h1]
          refine iteF ⟨D, _, rfl, s12, ?_⟩
          rw [if_neg h1]
          exact s2 _ _ hD
      · rintro σ3 H3 ⟨D2, o, rfl, s3, hD2⟩
        have hq2 : (if n = 1 then ps.take 1 else ps).length ≤ 801 := by
          split
          · rw [List.length_take]; omega
          · exact hpl
        generalize hqs : (if n = 1 then ps.take 1 else ps) = qs at hD2 hq2
        have hsp : spotsM n z1.length ps = apartM z1.length qs 0 := by
          unfold spotsM
          rw [hqs]
        rw [hsp] at k2
        refine ⟨_, rfl, _, rfl, n, a, dx, _, .str z1, hn, rfl, s3 _ _ ha, fl_old, _, _, rfl, ⟨by rw [sizeLine_eq]; omega, rfl⟩, D2, z1.length, qs, rfl, hD2, by omega, fun l4 H4 s4 hl4 h4 => ?_⟩
        have s34 := s3.trans s4
        refine ⟨l4, rfl, ⟨_, SqL.of h4⟩, fun D5 hD5 => ?_⟩
        have hal : (apartM z1.length qs 0).length ≤ 801 := Nat.le_trans (apart_le _ _) hq2
        generalize apartM z1.length qs 0 = ss at h4 hal k2
        refine lc_list (K := K) (a := l4) (xs := nats ss) (fun j H' => Same H4 H' ∧ ∃ xs, H' D5 = some (.lst xs) ∧ Rws H' (putV z2 z1.length) xs (ss.take j)) ⟨same_new hD5, [], upd_same, .nil⟩ (fun j H' _ p => SqL.of (p.1 _ _ h4)) (fun j v H' hv p => ?_) (fun H' p => ?_)
        · obtain ⟨p0, hp0, rfl⟩ := nats_at hv
          obtain ⟨sj, xs, hxs, rw5⟩ := p
          have ha5 := sj _ _ (s34 _ _ ha)
          refine ⟨rfl, ?_⟩
          dsimp only [tYes]
          rw [if_pos rfl]
          refine ⟨_, rfl, _, rfl, _, rfl, n, a, dx, _, .str z1, hn, rfl, ha5, fl_old, _, _, rfl, ⟨by rw [sizeLine_eq]; omega, rfl⟩, _, _, rfl, rfl, _, rfl, n, a, dx, _, .str z2, hn, rfl, ha5, fl_new, few_len (Nat.le_of_ble_eq_true rfl), fun t ht => ?_⟩
          have st := same_new (o := .tup [.int (p0 : Nat), .int ((p0 : Int) + (z1.length : Int)), .str z2, .int 0]) ht
          refine ⟨xs, st _ _ hxs, few_lt (by have := paired_len rw5; rw [List.length_take] at this; omega), fun b o h => ?_, xs ++ [.ref t], upd_same, ?_⟩
          · rw [upd_ne (ne_of_none h hD5)]
            exact st _ _ (sj _ _ h)
          · rw [List.take_add_one, hp0]
            have hne : t ≠ D5 := (ne_of_none hxs ht).symm
            have un : ∀ {u : Addr} {ws : List V}, H' u = some (.tup ws) → (upd (upd H' t (.tup [.int (p0 : Nat), .int ((p0 : Int) + (z1.length : Int)), .str z2, .int 0])) D5 (.lst (xs ++ [.ref t]))) u = some (.tup ws) := fun h => by
              rw [upd_ne (fun e => by rw [e, hxs] at h; cases h)]
              exact st _ _ h
            refine paired_app (ths_rows un rw5) (.cons ⟨t, rfl, ?_⟩ .nil)
            rw [upd_ne hne]
            exact upd_same
        · obtain ⟨sj, xs, hxs, rw5⟩ := p
          rw [nats_len, List.take_length] at rw5
          exact k2 D5 xs H' (s34.trans sj) (by
            match q : H D5 with
            | none => rfl
            | some o => exact nomatch (s34 _ _ q).symm.trans hD5) hxs rw5

end
end Vk
set_option Elab.async false
set_option maxRecDepth 100000
set_option linter.all false
set_option maxHeartbeats 4000000
namespace Vk
open PySem PySem.Spec PyProof.Rows L2 LamX NdefX StX
section
variable {P : Program} {w : World} {K : PySem.W.Frag} {mg : Str → Option Value} {base : Heap}
variable {C_Once C_First C_Perhaps C_Every C_AtOnce C_Edit C_Program C_NoPlace C_Overlap C_InvalidText C_InvalidEdit C_TooMany : Addr}
theorem nowhole {a b c d : V} : ¬ (HT.sIx [a, b, c, d].length 0 none = 0 ∧ HT.sIx [a, b, c, d].length [a, b, c, d].length (some 3) = [a, b, c, d].length) := by rintro ⟨_, h⟩; exact absurd (show HT.sIx 4 4 (some 3) = 4 from h) (by decide)
theorem few_lt2 {n : Nat} (h : n ≤ 3000) : n < sizeLine := Nat.lt_of_le_of_lt h (by rw [sizeLine_eq]; decide)
def texs (ss : List Str) : List V := ss.map V.str
def spBehind : Sp := fun vs H Q _ => ∃ x l xs ps, vs = [.str x, .ref l] ∧ H l = some (.lst xs) ∧ RwsA H putA xs ps ∧ x.length ≤ 800 ∧ (∀ p ∈ ps, p.n.length ≤ 100) ∧ ps.length ≤ 801 ∧ ∀ H', Same H H' → Q (.str (foldA x ps 0 "")) H'
abbrev s_text_behind : Stmt := top 38
theorem sc_text_behind : FnScope ["text", "puts", "pieces", "kept", "put", "begin", "end", "new"] ["text", "puts"] (defScope s_text_behind) := ⟨rfl, rfl, rfl, by decide +kernel, rfl, by decide +kernel, by decide +kernel⟩
theorem b_text_behind {f : Addr} {fd : FuncData} (F : Fun K "text_behind" "text_behind" s_text_behind f fd) (T : Txt mg) : FnG P w K mg base CX0 1 f fd ["text", "puts"] spBehind := by
  refine okG0 F sc_text_behind (fun vs H Q E h => ?_) (fun cdv A outer s H vs Q E hg hr h => ?_)
  · obtain ⟨x, l, xs, ps, rfl, _⟩ := h
    rfl
  · have hu := hu_of hr
    have hu64 := hr.units
    obtain ⟨x, l, xs, ps, rfl, hl, rw0, hx, hz, hp, k⟩ := h
    have hxs := paired_len rw0
    refine ⟨_, (pss_cons (ps_set (i := 2) sc_text_behind.nd rfl (Or.inl rfl) (pe_lst pa_nil))
      (pss_cons (ps_set (i := 3) sc_text_behind.nd rfl (Or.inl rfl) pe_int)
      (pss_cons (ps_for PassesOwn.never rfl (pi_list (pv 1)) (pg_name (i := 4) sc_text_behind.nd rfl (Or.inl rfl)) (pss_cons (ps_asg (pe_slice sl_tup (pv 4) po_none (po_some pe_int)) (pg_tup rfl (pgs_cons (pg_name (i := 5) sc_text_behind.nd rfl (Or.inl rfl)) (pgs_cons (pg_name (i := 6) sc_text_behind.nd rfl (Or.inl rfl)) (pgs_cons (pg_name (i := 7) sc_text_behind.nd rfl (Or.inl rfl)) pgs_nil)))))
      (pss_cons (ps_expr (pe_bm PySem.F.plainAttrs_list PySem.F.slot_list_append PySem.F.type_list_append mt_append (pv 2) (pa_cons (pe_slice sl_str (pv 0) (po_some (pv 3)) (po_some (pv 5))) pa_nil)))
      (pss_cons (ps_expr (pe_bm PySem.F.plainAttrs_list PySem.F.slot_list_append PySem.F.type_list_append mt_append (pv 2) (pa_cons (pv 7) pa_nil)))
      (pss_one (ps_set (i := 3) sc_text_behind.nd rfl (Or.inl rfl) (pv 6)))))))
      (pss_cons (ps_expr (pe_bm PySem.F.plainAttrs_list PySem.F.slot_list_append PySem.F.type_list_append mt_append (pv 2) (pa_cons (pe_slice sl_str (pv 0) (po_some (pv 3)) po_none) pa_nil)))
      (pss_one (ps_ret (pe_join pe_str (pv 2)))))))), ?_⟩
    refine ⟨few_len (Nat.zero_le _), fun lo hlo => ?_⟩
    have s0 := same_new (o := .lst []) hlo
    refine ⟨_, rfl, l, rfl, ⟨_, SqL.of (s0 _ _ hl)⟩, ?_⟩
    refine for_list (xs := xs) (fun i σ H2 => ∃ (o4 o5 o6 o7 : Option V) (e : Nat) (got : List Str), σ = [some (.str x), some (.ref l), some (.ref lo), some (.int (e : Nat)), o4, o5, o6, o7] ∧ Same H H2 ∧ H2 lo = some (.lst (texs got)) ∧ got.length = 2 * i ∧ (got.map (·.length)).sum ≤ i * 900 ∧ foldA x (ps.drop i) e (Txt.join "" got) = foldA x ps 0 "") ?_ ?_ ?_ ?_
    · exact ⟨_, _, _, _, 0, [], rfl, s0, upd_same, rfl, Nat.zero_le _, rfl⟩
    · rintro i σ H2 _ ⟨o4, o5, o6, o7, e, got, rfl, s2, _⟩
      exact SqL.of (s2 _ _ hl)
    · rintro i v σ H2 hv ⟨o4, o5, o6, o7, e, got, rfl, s2, hg, gl, gs, ge⟩
      obtain ⟨p, hpp, t, rfl, ht0⟩ := paired_at rw0 hv
      have hz1 := hz p (List.mem_of_getElem? hpp)
      have il : i < xs.length := (List.getElem?_eq_some_iff.mp hv).1
      rw [drop_at hpp, foldA_cons] at ge
      have ht := s2 _ _ ht0
      have xl : x.length ≤ sizeLine := by rw [sizeLine_eq]; omega
      refine ⟨_, rfl, 3, rfl, t, _, rfl, SqT.of ht, nowhole, fun tc htc => ?_⟩
      rw [show cutV (putA p) none (some 3) = [.int (p.b : Nat), .int (p.e : Nat), .str p.n] from rfl]
      have sc := same_new (o := .tup [.int (p.b : Nat), .int (p.e : Nat), .str p.n]) htc
      have hg := sc _ _ hg
      have s2 := s2.trans sc
      refine ⟨tc, _, rfl, SqT.of upd_same, rfl, _, _, rfl, _, _, rfl, _, _, rfl, rfl, ?_⟩
      generalize upd H2 tc (.tup [.int (p.b : Nat), .int (p.e : Nat), .str p.n]) = H2 at hg s2
      refine ⟨_, rfl, .inl ⟨rfl, _, SqL.of hg⟩, _, rfl, _, rfl, _, rfl, _, rfl, _, rfl, x, rfl, xl, lo, _, _, rfl, rfl, hg, few_lt2 (by unfold texs; rw [List.length_map]; omega), ?_⟩
      refine ⟨_, rfl, .inl ⟨rfl, _, SqL.of upd_same⟩, _, rfl, lo, _, _, rfl, rfl, upd_same, few_lt2 (by unfold texs; rw [List.length_append, List.length_map, List.length_singleton]; omega), ?_⟩
      rw [upd_twice3]
      refine ⟨_, rfl, _, _, _, _, p.e, got ++ [cutS x (some (e : Int)) (some (p.b : Int))] ++ [p.n], rfl, fun b o h2 => ?_, ?_, ?_, ?_, ?_⟩
      · rw [upd_ne (ne_of_none h2 hlo)]
        exact s2 _ _ h2
      · rw [upd_same]
        unfold texs
        rw [List.map_append, List.map_append]
        rfl
      · rw [List.length_append, List.length_append, gl]
        simp only [List.length_singleton]
        omega
      · have := cutS_len x (some (e : Int)) (some (p.b : Int))
        simp only [List.map_append, List.map_cons, List.map_nil, List.sum_append, List.sum_cons, List.sum_nil]
        omega
      · rw [join_snoc, join_snoc]
        exact ge
    · rintro σ H2 ⟨o4, o5, o6, o7, e, got, rfl, s2, hg, gl, gs, ge⟩
      rw [List.drop_of_length_le (by omega), foldA_nil] at ge
      have xl : x.length ≤ sizeLine := by rw [sizeLine_eq]; omega
      refine ⟨_, rfl, .inl ⟨rfl, _, SqL.of hg⟩, _, rfl, _, rfl, _, rfl, x, rfl, xl, lo, _, _, rfl, rfl, hg, few_lt2 (by unfold texs; rw [List.length_map]; omega), ?_⟩
      have cl := cutS_len x (some (e : Int)) none
      refine ⟨⟨_, rfl⟩, _, rfl, "", lo, got ++ [cutS x (some (e : Int)) none], rfl, rfl, .inl (SqL.of ?_), ?_, ?_⟩
      · rw [upd_same]
        unfold texs
        rw [List.map_append]
        rfl
      · have e0 : (Str.ofString "").length = 0 := by decide +kernel
        rw [e0]
        simp only [List.map_append, List.map_cons, List.map_nil, List.sum_append, List.sum_cons, List.sum_nil]
        omega
      · rw [join_snoc, ge]
        refine k _ fun b o h2 => ?_
        rw [upd_ne (ne_of_none h2 hlo)]
        exact s2 _ _ h2

/-- an edit at once, with these parts -/
def IsAt (C : Addr) (H : Hp) (a : Addr) (ps : List (Str × Str)) : Prop := ∃ dx q, H a = some (.ins C dx [("_parts", .ref q)]) ∧ PartsOf H q ps
theorem IsAt.keep {C : Addr} {H H1 : Hp} {a : Addr} {ps : List (Str × Str)} (h : IsAt C H a ps) (s : Same H H1) : IsAt C H1 a ps := by
  obtain ⟨dx, q, ha, p⟩ := h
  exact ⟨dx, q, s _ _ ha, p.keep s⟩
theorem fl_parts {q : Addr} : ([("_parts", V.ref q)] : List (Str × V)).lookup ("_parts" : Str) = some (.ref q) := rfl
/-- an edit of any kind -/
inductive EdM
  | one (n : Nat) (z1 z2 : Str)
  | many (ps : List (Str × Str))
def mkR (z1 z2 : Str) (p : Nat) : Rw := ⟨p, 0, z1, z2⟩
def rowsE (x : Str) : EdM → List Rw
  | .one n z1 z2 => (spotsM n z1.length (plc x z1)).map (mkR z1 z2)
  | .many ps => ordM (rowsM x ps 0)
def outE (x : Str) : EdM → Out
  | .one n z1 z2 => if fitsM n (plc x z1).length = true then .txt (foldA x (rowsE x (.one n z1 z2)) 0 "") else .no (plc x z1).length
  | .many ps => outM x ps
def OkE (x : Str) : EdM → Prop
  | .one n z1 z2 => x.length ≤ 800 ∧ z1.length ≤ 100 ∧ z2.length ≤ 100
  | .many ps => OkP ps x
theorem OkE.x8 {x : Str} {e : EdM} (h : OkE x e) : x.length ≤ 800 := by
  cases e with
  | one => exact h.1
  | many => exact OkP.x8 h
theorem rowsE_n {x : Str} {e : EdM} (h : OkE x e) : ∀ r ∈ rowsE x e, r.o.length ≤ 100 ∧ r.n.length ≤ 100 := by
  cases e with
  | one n z1 z2 =>
    intro r hr
    obtain ⟨p, _, rfl⟩ := List.mem_map.mp hr
    exact h.2
  | many ps =>
    intro r hr
    exact ((OkP.olds h) _ (rowsM_mem ((ordM_perm _).mem_iff.mp hr)).2.1).2
theorem rowsE_len {x : Str} {e : EdM} (h : OkE x e) : (rowsE x e).length ≤ 801 := by
  cases e with
  | one n z1 z2 =>
    have hx : x.length ≤ 800 := h.1
    show ((spotsM n z1.length (plc x z1)).map (mkR z1 z2)).length ≤ 801
    rw [List.length_map]
    exact Nat.le_trans spots_le (Nat.le_trans (plc_len x z1) (by omega))
  | many ps =>
    have := OkP.len h
    show (ordM (rowsM x ps 0)).length ≤ 801
    rw [(ordM_perm _).length_eq, rowsM_len]
    omega
theorem outE_yes {x z1 z2 : Str} {n : Nat} (h : fitsM n (plc x z1).length = true) : outE x (.one n z1 z2) = .txt (foldA x (rowsE x (.one n z1 z2)) 0 "") := if_pos h
theorem outE_not {x z1 z2 : Str} {n : Nat} (h : fitsM n (plc x z1).length = false) : outE x (.one n z1 z2) = .no (plc x z1).length := if_neg (by rw [h]; decide)
theorem outE_txt {x y : Str} {e : EdM} (h : outE x e = .txt y) : y = foldA x (rowsE x e) 0 "" := by
  cases e with
  | one n z1 z2 =>
    cases hf : fitsM n (plc x z1).length with
    | false =>
      rw [outE_not hf] at h
      cases h
    | true =>
      rw [outE_yes hf] at h
      exact (Out.txt.inj h).symm
  | many ps =>
    have h2 : outM x ps = .txt y := h
    cases hw : wrongM x ps with
    | some m =>
      rw [outM_no hw] at h2
      cases h2
    | none =>
      cases ho : overl (ordM (rowsM x ps 0)) with
      | true =>
        rw [outM_over hw ho] at h2
        cases h2
      | false =>
        rw [outM_txt hw ho] at h2
        exact (Out.txt.inj h2).symm
def IsEd (Cs : Nat → Addr) (Ca : Addr) (H : Hp) (a : Addr) : EdM → Prop
  | .one n z1 z2 => n < 4 ∧ ∃ dx, H a = some (.ins (Cs n) dx (fl z1 z2))
  | .many ps => IsAt Ca H a ps
theorem IsEd.keep {Cs : Nat → Addr} {Ca : Addr} {H H1 : Hp} {a : Addr} {e : EdM} (h : IsEd Cs Ca H a e) (s : Same H H1) : IsEd Cs Ca H1 a e := by
  cases e with
  | one n z1 z2 =>
    obtain ⟨hn, dx, h⟩ := h
    exact ⟨hn, dx, s _ _ h⟩
  | many ps => exact IsAt.keep h s
theorem rws_put {H : Hp} {z1 z2 : Str} : ∀ {xs : List V} {ps : List Nat}, Rws H (putV z2 z1.length) xs ps → RwsA H putA xs (ps.map (mkR z1 z2))
  | _, _, .nil => .nil
  | _, _, .cons a t => .cons (by
      obtain ⟨u, e, h⟩ := a
      exact ⟨u, e, h⟩) (rws_put t)
def spPutsE (Cs : Nat → Addr) (Ca CN CO : Addr) : Sp := fun vs H Q E => ∃ a e i x, vs = [.ref a, .int (i : Nat), .str x] ∧ IsEd Cs Ca H a e ∧ OkE x e ∧
  (∀ m, outE x e = .no m → ∀ H1 d, Same H H1 → H1 d = none → E (.ref CN) (some d) (upd H1 d (.xd [(("number" : Str), .int (m : Nat)), (("index" : Str), .int (i : Nat))]))) ∧
  (outE x e = .over → ∀ H1 d, Same H H1 → H1 d = none → E (.ref CO) (some d) (upd H1 d (.xd [(("index" : Str), .int (i : Nat))]))) ∧
  (∀ y, outE x e = .txt y → ∀ l xs H', Same H H' → H l = none → H' l = some (.lst xs) → RwsA H' putA xs (rowsE x e) → Q (.ref l) H')
abbrev s_puts_of : Stmt := top 37
theorem sc_puts_of : FnScope ["edit", "index", "text"] ["edit", "index", "text"] (defScope s_puts_of) := ⟨rfl, rfl, rfl, by decide +kernel, rfl, by decide +kernel, by decide +kernel⟩
theorem b_puts_of {f : Addr} {fd : FuncData} (F : Fun K "puts_of" "puts_of" s_puts_of f fd) (T : Txt mg) (c_puts_of_parts : CalG P w K mg base (L2.CX P w) 4 "puts_of_parts" (spPutsP C_NoPlace C_Overlap)) (c_puts_of_one : CalG P w K mg base (L2.CX P w) 3 "puts_of_one" (spPuts (cls4 C_Once C_First C_Perhaps C_Every) C_NoPlace)) (n_AtOnce : mg "AtOnce" = some (.ref C_AtOnce)) (edA : EdF K C_AtOnce) (ed : ∀ n, n < 4 → EdF K (cls4 C_Once C_First C_Perhaps C_Every n)) (kA : PySem.W.kitOne K (.ref C_AtOnce) (.ref C_AtOnce) = some true) (kA4 : ∀ n, n < 4 → PySem.W.kitOne K (.ref (cls4 C_Once C_First C_Perhaps C_Every n)) (.ref C_AtOnce) = some false) (pr_parts : ∀ n, n < 1 → PrI P w K mg base 1 ((fun _ => C_AtOnce) n) "parts" "_parts") : FnG P w K mg base (L2.CX P w) 5 f fd ["edit", "index", "text"] (spPutsE (cls4 C_Once C_First C_Perhaps C_Every) C_AtOnce C_NoPlace C_Overlap) := by
  refine okG F sc_puts_of (fun vs H Q E h => ?_) (fun cdv A outer s H vs Q E hg hr h => ?_)
  · obtain ⟨a, e, i, x, rfl, _⟩ := h
    rfl
  · have hu := hu_of hr
    have hu64 := hr.units
    obtain ⟨a, e, i, x, rfl, ie, ok, k1, k2, k3⟩ := h
    refine ⟨_, (pss_cons (ps_if (pt_val (pe_callB call_isi (by rfl) T.isinstance (by decide +kernel) (pa_cons (pv 0) (pa_cons (pe_glob (v := .ref C_AtOnce) (by rfl) n_AtOnce rfl) pa_nil)))) (pss_one (ps_ret (pe_cG c_puts_of_parts hg hr (by decide) (passes_call (takes_of rfl rfl rfl rfl) (fun _ _ _ _ h => h)) (pa_cons (pe_propN (pv 0) pr_parts hr (by decide)) (pa_cons (pv 1) (pa_cons (pv 2) pa_nil)))))) pss_nil)
      (pss_one (ps_ret (pe_cG c_puts_of_one hg hr (by decide) (passes_call (takes_of rfl rfl rfl rfl) (fun _ _ _ _ h => h)) (pa_cons (pv 0) (pa_cons (pv 1) (pa_cons (pv 2) pa_nil))))))), ?_⟩
    match e, ie, ok, k1, k2, k3 with
    | .one n z1 z2, ⟨hn, dx, ha⟩, ⟨o1, o2, o3⟩, k1, k2, k3 =>
      refine ⟨_, rfl, .ref a, .ref C_AtOnce, _, .ref C_AtOnce, false, rfl, .own _, (ed n hn).ty ha, kA4 n hn, _, rfl, iteF ?_⟩
      refine ⟨_, rfl, _, rfl, _, rfl, n, a, dx, z1, z2, i, x, rfl, hn, ha, o1, o2, fun hf H1 d s hd => ?_, fun hf l xs H' s hl0 hl rw1 => ?_⟩
      · exact k1 _ (outE_not hf) H1 d s hd
      · exact k3 _ (outE_yes hf) l xs H' s hl0 hl (rws_put rw1)
    | .many ps, ⟨dx, q, ha, hp⟩, ok, k1, k2, k3 =>
      refine ⟨_, rfl, .ref a, .ref C_AtOnce, _, .ref C_AtOnce, true, rfl, .own _, edA.ty ha, kA, _, rfl, iteT ?_⟩
      exact ⟨_, rfl, 0, a, dx, _, .ref q, by decide, rfl, ha, fl_parts, _, rfl, _, rfl, q, ps, i, x, rfl, hp, ok, fun m hm => k1 m (outM_no hm), fun hw ho => k2 (outM_over hw ho), fun hw ho => k3 _ (outM_txt hw ho)⟩

def spCE (K : PySem.W.Frag) (CE : Addr) : Sp := fun vs H Q _ => ∃ q xs, vs = [.ref q] ∧ H q = some (.tup xs) ∧ (∀ v ∈ xs, ∃ a C dx fs, v = .ref a ∧ H a = some (.ins C dx fs) ∧ EdF K C ∧ PySem.W.kitOne K (.ref C) (.ref CE) = some true) ∧ xs.length ≤ 4 ∧ ∀ H', Same H H' → Q .non H'
abbrev s_check_edits : Stmt := top 40
theorem sc_check_edits : FnScope ["edits", "index", "edit"] ["edits"] (defScope s_check_edits) := ⟨rfl, rfl, rfl, by decide +kernel, rfl, by decide +kernel, by decide +kernel⟩
theorem b_check_edits {f : Addr} {fd : FuncData} (F : Fun K "check_edits" "check_edits" s_check_edits f fd) (T : Txt mg) (n_Edit : mg "Edit" = some (.ref C_Edit)) (g_MAX_EDITS : ∃ u, mg "MAX_EDITS" = some u ∧ RelV (.int 4) u) : FnG P w K mg base CX0 1 f fd ["edits"] (spCE K C_Edit) := by
  refine okG0 F sc_check_edits (fun vs H Q E h => ?_) (fun cdv A outer s H vs Q E hg hr h => ?_)
  · obtain ⟨q, xs, rfl, _⟩ := h
    rfl
  · have hu := hu_of hr
    have hu64 := hr.units
    obtain ⟨q, xs, rfl, hq, eds, hl, k⟩ := h
    refine ⟨_, (pss_cons (ps_for PassesOwn.never rfl (pi_enumT (by rfl) T.enumerate (pa_cons (pv 0) pa_nil)) (pg_tup rfl (pgs_cons (pg_name (i := 1) sc_check_edits.nd rfl (Or.inl rfl)) (pgs_cons (pg_name (i := 2) sc_check_edits.nd rfl (Or.inl rfl)) pgs_nil))) (pss_one (ps_if (pt_not (pt_val (pe_callB call_isi (by rfl) T.isinstance (by decide +kernel) (pa_cons (pv 2) (pa_cons (pe_glob (v := .ref C_Edit) (by rfl) n_Edit rfl) pa_nil))))) (pss_one ps_never) pss_nil)))
      (pss_one (ps_if (pt_cmpR op_gt (pe_callB call_len (by rfl) T.len (by decide +kernel) (pa_cons (pv 0) pa_nil)) (C8.pe_gc (by rfl) g_MAX_EDITS) (nomark _)) (pss_one ps_never) pss_nil))), ?_⟩
    refine ⟨_, rfl, q, _, rfl, hq, fun i m σ H2 => m + i = xs.length ∧ (∃ a b, σ = [some (.ref q), a, b]) ∧ Same H H2, ⟨xs.length, rfl, ⟨_, _, rfl⟩, Same.rfl⟩, ?_⟩
    rintro i m σ H2 ⟨hm, ⟨a, b, rfl⟩, s2⟩
    by_cases hi : i < xs.length
    · obtain ⟨x, hx⟩ : ∃ x, xs[i]? = some x := ⟨xs[i], List.getElem?_eq_getElem hi⟩
      refine .inr ⟨⟨_, _, s2 _ _ hq, hx⟩, fun σ2 H3 => m - 1 + (i + 1) = xs.length ∧ (∃ a b, σ2 = [some (.ref q), a, b]) ∧ Same H H3, fun σ2 H3 p => ⟨m - 1, by omega, p⟩, ?_⟩
      rintro y H3 ⟨T, y2, xs2, rfl, hT, rfl, hxs, hy⟩
      have e := (s2 _ _ hq).symm.trans hxs
      cases e
      cases hx.symm.trans hy
      have s3 := s2.trans (same_new (o := .tup [.int (i : Nat), x]) hT)
      obtain ⟨c, C, dx, fs, rfl, hc, edC, kE⟩ := eds x (List.mem_of_getElem? hx)
      refine ⟨T, _, rfl, SqT.of upd_same, rfl, ?_⟩
      refine ⟨_, _, rfl, _, _, rfl, rfl, _, rfl, .ref c, .ref C_Edit, _, .ref C_Edit, true, rfl, .own _, edC.ty (s3 _ _ hc), kE, _, rfl, iteF ?_⟩
      exact ⟨by omega, ⟨_, _, rfl⟩, s3⟩
    · have e : i = xs.length := by omega
      refine .inl ⟨⟨_, s2 _ _ hq, e.symm⟩, ?_⟩
      refine ⟨_, rfl, .ref q, xs.length, rfl, .inr ⟨_, SqT.of (s2 _ _ hq), rfl⟩, _, _, rfl, rfl, _, rfl, ?_⟩
      rw [show decide ((xs.length : Int) > 4) = false from decide_eq_false (by omega)]
      exact iteF (k _ s2)

abbrev m_Program : Stmt := mtd (top 42) 0
theorem sc_Program : FnScope ["self", "edits"] ["self", "edits"] (defScope m_Program) := ⟨rfl, rfl, rfl, by decide +kernel, rfl, by decide +kernel, by decide +kernel⟩
def spPrI (K : PySem.W.Frag) (CE C : Addr) : Sp := fun vs H Q E => ∃ a dx q xs, vs = [.ref a, .ref q] ∧ H a = some (.ins C dx []) ∧ H q = some (.tup xs) ∧ (∀ v ∈ xs, ∃ a C dx fs, v = .ref a ∧ H a = some (.ins C dx fs) ∧ EdF K C ∧ PySem.W.kitOne K (.ref C) (.ref CE) = some true) ∧ xs.length ≤ 4 ∧ ∀ H', Same H H' → Q .non (upd H' a (.ins C dx [("_edits", .ref q)]))
abbrev spPr (K : PySem.W.Frag) (CE C : Addr) : Sp := fun vs H Q E => ∃ ws rest, vs = ws ++ rest ∧ ws.length = (["self"] : List Str).length ∧ rest.length ≤ sizeLine ∧ ∀ p, H p = none → spPrI K CE C (ws ++ [.ref p]) (upd H p (.tup rest)) Q E
theorem b_Program {f C : Addr} {fd : FuncData} (F : Fun K "__init__" "Program.__init__" m_Program f fd) (c_check_edits : CalG P w K mg base CX0 1 "check_edits" (spCE K C_Edit)) (cl : Cls K C) (n1 : NoAttr K C "_edits") : FnRG P w K mg base (L2.CX P w) 2 f (spPr K C_Edit C) := by
  refine okStar (ps := ["self"]) (pv := "edits") F sc_Program cxUp (fun kV doc pm an cdv ct us rest hl => ?_) (fun cdv A outer s H vs Q E hg hr h => ?_)
  · exact bind_star1 (B := fun us => bindArgs (PySem.W.fnOf _ _ _ _ _ _ kV doc pm an cdv ct) ⟨us, []⟩) (fun a => rfl) (fun a r rs => rfl) us rest hl
  · obtain ⟨a, dx, q, xs, rfl, ha, hq, eds, hl, k⟩ := h
    refine ⟨_, (pss_cons (ps_expr (pe_cG c_check_edits hg hr (by decide) pass0 (pa_cons (pv 1) pa_nil))) (pss_one (ps_fld (pv 0) (pv 1) rfl))), ?_⟩
    refine ⟨_, rfl, q, xs, rfl, hq, eds, hl, fun H2 s2 => ?_⟩
    exact ⟨_, rfl, _, rfl, a, C, dx, [], rfl, s2 _ _ ha, cl, n1, by decide, k _ s2⟩
theorem born_pr {CE C : Addr} {xs : List V} {H : Hp} {Q : VK} {E : XK} (eds : ∀ v ∈ xs, ∃ a C dx fs, v = .ref a ∧ H a = some (.ins C dx fs) ∧ EdF K C ∧ PySem.W.kitOne K (.ref C) (.ref CE) = some true) (hl : xs.length ≤ 4) (k : ∀ b dx q H', Same H H' → H' b = some (.ins C dx [("_edits", .ref q)]) → H' q = some (.tup xs) → Q (.ref b) H') : Born C (spPr K CE C) xs H Q E := by
  intro a dx ha hdx ne
  have x1 : Same H (upd (upd H dx (.own a)) a (.ins C dx [])) := fun b o h => by
    rw [upd_ne (ne_of_none h ha), upd_ne (ne_of_none h hdx)]
    exact h
  refine ⟨[.ref a], xs, rfl, rfl, few_len (by omega), fun p hp => ?_⟩
  have x2 := x1.trans (same_new (o := .tup xs) hp)
  refine ⟨a, dx, p, xs, rfl, (same_new hp) _ _ upd_same, upd_same, fun v hv => ?_, hl, fun H2 s2 => ⟨rfl, ?_⟩⟩
  · obtain ⟨c, C, d, fs, e, hc, r⟩ := eds v hv
    exact ⟨c, C, d, fs, e, x2 _ _ hc, r⟩
  have nap : p ≠ a := fun z => by
    rw [z, upd_same] at hp
    cases hp
  refine k a dx p _ (fun b o h => ?_) upd_same ?_
  · rw [upd_ne (ne_of_none h ha)]
    exact s2 _ _ (x2 _ _ h)
  · rw [upd_ne nap]
    exact s2 _ _ upd_same
def IsEds (Cs : Nat → Addr) (Ca : Addr) (H : Hp) : List V → List EdM → Prop := Paired fun v e => ∃ a, v = .ref a ∧ IsEd Cs Ca H a e
theorem fl_edits {q : Addr} : ([("_edits", V.ref q)] : List (Str × V)).lookup ("_edits" : Str) = some (.ref q) := rfl
def IsPr (Cs : Nat → Addr) (Ca CP : Addr) (H : Hp) (pr : Addr) (es : List EdM) : Prop := ∃ dx q xs, H pr = some (.ins CP dx [("_edits", .ref q)]) ∧ H q = some (.tup xs) ∧ IsEds Cs Ca H xs es
theorem IsPr.keep {Cs : Nat → Addr} {Ca CP : Addr} {H H1 : Hp} {pr : Addr} {es : List EdM} (p : IsPr Cs Ca CP H pr es) (s : Same H H1) : IsPr Cs Ca CP H1 pr es := by
  obtain ⟨dx, q, xs, h1, h2, h3⟩ := p
  exact ⟨dx, q, xs, s _ _ h1, s _ _ h2, paired_impl (fun v ps ⟨a, e, h⟩ => ⟨a, e, h.keep s⟩) h3⟩
end
end Vk
set_option Elab.async false
set_option maxRecDepth 100000
set_option linter.all false
set_option maxHeartbeats 4000000
namespace Vk
open PySem PySem.Spec PyProof.Rows L2 LamX NdefX StX
section
variable {K : PySem.W.Frag}
/-! what bad says -/
theorem seen_iff {z : Str} : ∀ {olds : List Str}, seen z olds = true ↔ z ∈ olds
  | [] => ⟨(fun h => nomatch (show false = true from h)), fun h => absurd h List.not_mem_nil⟩
  | o :: r => by
    have e : seen z (o :: r) = ((o == z) || seen z r) := rfl
    rw [e, Bool.or_eq_true, beq_iff_eq, seen_iff, List.mem_cons]
    constructor
    · rintro (h | h)
      · exact .inl h.symm
      · exact .inr h
    · rintro (h | h)
      · exact .inl h.symm
      · exact .inr h
theorem bad_none : ∀ {ds : List PyData} {olds : List Str} {i : Nat}, bad olds ds i = none ↔ (∀ d ∈ ds, isP d = true) ∧ (∀ d ∈ ds, oldOf d ∉ olds) ∧ (ds.map oldOf).Nodup
  | [], olds, i => by simp [bad]
  | d :: r, olds, i => by
    unfold bad
    by_cases hP : isP d = true
    · rw [if_pos hP]
      by_cases hS : seen (oldOf d) olds = true
      · rw [if_pos hS]
        refine ⟨(fun h => nomatch h), fun h => ?_⟩
        exact absurd (seen_iff.mp hS) (h.2.1 d List.mem_cons_self)
      · rw [if_neg hS, bad_none]
        have ns : oldOf d ∉ olds := fun h => hS (seen_iff.mpr h)
        constructor
        · rintro ⟨h1, h2, h3⟩
          refine ⟨fun x hx => ?_, fun x hx => ?_, ?_⟩
          · rcases List.mem_cons.mp hx with rfl | hx
            · exact hP
            · exact h1 x hx
          · rcases List.mem_cons.mp hx with rfl | hx
            · exact ns
            · exact fun h => h2 x hx (List.mem_append_left _ h)
          · rw [List.map_cons, List.nodup_cons]
            refine ⟨fun h => ?_, h3⟩
            obtain ⟨x, hx, e⟩ := List.mem_map.mp h
            exact h2 x hx (e ▸ List.mem_append_right _ List.mem_cons_self)
        · rintro ⟨h1, h2, h3⟩
          rw [List.map_cons, List.nodup_cons] at h3
          refine ⟨fun x hx => h1 x (List.mem_cons_of_mem _ hx), fun x hx h => ?_, h3.2⟩
          rcases List.mem_append.mp h with h | h
          · exact h2 x (List.mem_cons_of_mem _ hx) h
          · rw [List.mem_singleton] at h
            exact h3.1 (h ▸ List.mem_map.mpr ⟨x, hx, rfl⟩)
    · rw [if_neg hP]
      exact ⟨(fun h => nomatch h), fun h => absurd (h.1 d List.mem_cons_self) hP⟩
/-- right parts -/
structure Good (ds : List PyData) : Prop where
  none : bad [] ds 0 = none
  len : ds.length ≤ 3
theorem Good.all {ds : List PyData} (g : Good ds) : ∀ d ∈ ds, isP d = true := (bad_none.mp g.none).1
theorem Good.nd {ds : List PyData} (g : Good ds) : (ds.map oldOf).Nodup := (bad_none.mp g.none).2.2
theorem Good.tail {d : PyData} {ds : List PyData} (g : Good (d :: ds)) : Good ds := by
  refine ⟨bad_none.mpr ⟨fun x hx => g.all x (List.mem_cons_of_mem _ hx), fun d hd => List.not_mem_nil, ?_⟩, Nat.le_of_succ_le g.len⟩
  have h := g.nd
  rw [List.map_cons, List.nodup_cons] at h
  exact h.2
/-! == of parts -/
theorem isP_strs {d : PyData} (h : isP d = true) : ∃ z y, d = .tuple [.str z, .str y] ∧ oldOf d = z ∧ isOld (.str z) = true ∧ isNew (.str y) = true := by
  obtain ⟨z, y, rfl, o1, o2, e⟩ := isP_two h
  obtain ⟨y2, rfl⟩ := isNew_str o2
  exact ⟨z, y2, rfl, rfl, o1, o2⟩
theorem dp_parts {H : Hp} : ∀ {xs : List V} {ds : List PyData}, Paired (Th H) xs ds → (∀ d ∈ ds, isP d = true) → DpAll K H xs ds
  | _, _, .nil, _ => .nil
  | x :: xs, d :: ds, .cons a t, h => by
    refine .cons ?_ (dp_parts t fun x hx => h x (List.mem_cons_of_mem _ hx))
    obtain ⟨z, y, rfl, _⟩ := isP_strs (h d List.mem_cons_self)
    cases a with
    | atm a => cases a
    | @tup t xs _ ht pa =>
      cases pa with
      | cons p1 pa =>
        cases pa with
        | cons p2 pa =>
          cases pa
          cases p1
          cases p2
          exact .tup (SqT.of ht) (.cons (.str _) (.cons (.str _) .nil))
theorem shaped_all : ∀ {ds : List PyData}, (∀ d ∈ ds, isP d = true) → (∀ d ∈ ds, El d) → PyData.canLayAll0 ds = true ∧ PyData.depthAll ds ≤ 1
  | [], _, _ => ⟨rfl, by simp [PyData.depthAll]⟩
  | d :: r, h, el => by
    obtain ⟨i1, i2⟩ := shaped_all (fun x hx => h x (List.mem_cons_of_mem _ hx)) fun x hx => el x (List.mem_cons_of_mem _ hx)
    have e := el d List.mem_cons_self
    obtain ⟨z, y, rfl, _⟩ := isP_strs (h d List.mem_cons_self)
    have k1 : PyData.strOk z = true := (e _ rfl (.str z) (by simp)).2
    have k2 : PyData.strOk y = true := (e _ rfl (.str y) (by simp)).2
    refine ⟨?_, ?_⟩
    · show ((PyData.strOk z && (PyData.strOk y && true)) && PyData.canLayAll0 r) = true
      rw [k1, k2, i1]
      rfl
    · show max (PyData.tuple [.str z, .str y]).depth (PyData.depthAll r) ≤ 1
      have : (PyData.tuple [.str z, .str y]).depth = 1 := rfl
      omega
theorem shaped_tup {ds : List PyData} (h : ∀ d ∈ ds, isP d = true) (el : ∀ d ∈ ds, El d) : SeqAt.shaped (.tuple ds) = true := by
  obtain ⟨a, b⟩ := shaped_all h el
  unfold SeqAt.shaped
  rw [Bool.and_eq_true, decide_eq_true_eq]
  refine ⟨a, ?_⟩
  show PyData.depthAll ds + 1 ≤ 64
  omega
theorem at_ok {C Ci Cm : Addr} {xs : List V} {ds : List PyData} {H : Hp} {Q : VK} {E : XK} (g : Good ds) (k : ∀ b dx q H', Same H H' → H' b = some (.ins C dx [("_parts", .ref q)]) → H' q = some (.tup xs) → Q (.ref b) H') : AtOut C Ci Cm xs ds H Q E :=
  ⟨(fun i e => nomatch g.none.symm.trans e), fun e l => absurd g.len (by omega), fun e l => k⟩
end
end Vk
set_option Elab.async false
set_option maxRecDepth 100000
set_option linter.all false
set_option maxHeartbeats 4000000
namespace Vk
open PySem PySem.Spec PyProof.Rows L2 LamX NdefX StX
section
variable {P : Program} {w : World} {K : PySem.W.Frag} {mg : Str → Option Value} {base : Heap}
variable {C_Once C_First C_Perhaps C_Every C_AtOnce C_Edit C_Program C_NoPlace C_Overlap C_InvalidOld C_InvalidNew C_InvalidPart C_TooMany fP fA : Addr}
def partD (p : Str × Str) : PyData := .tuple [.str p.1, .str p.2]
theorem PartsOf.keepT {H H1 : Hp} {q : Addr} {ps : List (Str × Str)} (h : PartsOf H q ps) (k : ∀ (u : Addr) ws, H u = some (.tup ws) → H1 u = some (.tup ws)) : PartsOf H1 q ps := by
  obtain ⟨xs, hq, pr⟩ := h
  exact ⟨xs, k _ _ hq, paired_impl (fun v p ⟨t, e, ht⟩ => ⟨t, e, k _ _ ht⟩) pr⟩
/-- a plain edit -/
def Plain (H : Hp) (v : V) : EdM → Prop
  | .one n z1 z2 => n < 4 ∧ ∃ t t2 t3, v = .ref t ∧ H t = some (.tup [.str (sortAt n), .ref t2]) ∧ H t2 = some (.tup [.ref t3]) ∧ H t3 = some (.tup [.str z1, .str z2])
  | .many ps => ∃ t t2, v = .ref t ∧ H t = some (.tup [.str "together", .ref t2]) ∧ PartsOf H t2 ps
theorem Plain.keep {H H1 : Hp} {v : V} {e : EdM} (p : Plain H v e) (k : ∀ (u : Addr) ws, H u = some (.tup ws) → H1 u = some (.tup ws)) : Plain H1 v e := by
  cases e with
  | one n z1 z2 =>
    obtain ⟨hn, t, t2, t3, rfl, h1, h2, h3⟩ := p
    exact ⟨hn, t, t2, t3, rfl, k _ _ h1, k _ _ h2, k _ _ h3⟩
  | many ps =>
    obtain ⟨t, t2, rfl, h1, h2⟩ := p
    exact ⟨t, t2, rfl, k _ _ h1, h2.keepT k⟩
theorem Plain.same {H H1 : Hp} {v : V} {e : EdM} (p : Plain H v e) (s : Same H H1) : Plain H1 v e := p.keep fun u ws h => s _ _ h
theorem tup_ext {H H1 : Hp} {p c : Addr} {T : Nat} (P : Pen H p c T) (x : Ext p H H1) {u : Addr} {ws : List V} (h : H u = some (.tup ws)) : H1 u = some (.tup ws) := x _ _ h fun z => by
  obtain ⟨t, l, hp⟩ := P.is
  rw [z, hp] at h
  cases h
theorem Plain.ext {H H1 : Hp} {v : V} {e : EdM} {p c : Addr} {T : Nat} (q : Plain H v e) (P : Pen H p c T) (x : Ext p H H1) : Plain H1 v e := q.keep fun u ws h => tup_ext P x h
theorem sort_is : ∀ n, n < 4 → decide (V.str (sortAt n) = V.str "together") = false ∧ decide (V.str (sortAt n) = V.str "once") = (n == 0) ∧ decide (V.str (sortAt n) = V.str "first") = (n == 1) ∧ decide (V.str (sortAt n) = V.str "perhaps") = (n == 2) ∧ decide (V.str (sortAt n) = V.str "every") = (n == 3) := by decide +kernel
def srt5 (n : Nat) : Str := if n < 4 then sortAt n else "together"
theorem srt5_lt {n : Nat} (h : n < 4) : srt5 n = sortAt n := if_pos h
def srtV (ks : List Nat) : List V := ks.map fun n => V.str (srt5 n)
/-- the words of an edit, of some letters -/
def Gw (sg : Str) (wide : Nat) : EdM → Prop
  | .one n z1 z2 => n < 4 ∧ Word sg 1 wide z1 ∧ Word sg 0 wide z2
  | .many ps => (∀ q ∈ ps, Word sg 1 wide q.1 ∧ Word sg 0 wide q.2) ∧ ps.length ≤ 3 ∧ (ps.map (·.1)).Nodup
/-- its kind is among those -/
def Kd (ks : List Nat) : EdM → Prop
  | .one n _ _ => n ∈ ks
  | .many _ => 4 ∈ ks
def spPlain : Sp := fun vs H Q _ => ∃ (p c : Addr) (sg : Str) (wide : Nat) (so : Addr) (ks : List Nat) (T : Nat), vs = [.ref p, .str sg, .int (wide : Nat), .ref so] ∧ Few sg ∧ 1 ≤ wide ∧ wide ≤ 3 ∧ H so = some (.lst (srtV ks)) ∧ (∀ n ∈ ks, n < 5) ∧ ks ≠ [] ∧ ks.length ≤ 10 ∧ Pen H p c T ∧ T + 300 < 1000000000 ∧
  ∀ v e H', Plain H' v e → Gw sg wide e → Kd ks e → Pen H' p c (T + 60) → Ext p H H' → Q v H'
abbrev s_ledit : Stmt := top 51
theorem sc_ledit : FnScope ["_law_pen_here", "_law_signs_here", "_law_wide", "_law_sorts", "_law_sort", "_law_found", "_law_k", "_law_was", "_law_pair"] ["_law_pen_here", "_law_signs_here", "_law_wide", "_law_sorts"] (defScope s_ledit) := ⟨rfl, rfl, rfl, by decide +kernel, rfl, by decide +kernel, by decide +kernel⟩
theorem b_ledit {f : Addr} {fd : FuncData} (F : Fun K "_law_edit" "_law_edit" s_ledit f fd) (T : Txt mg) (c_ldraw : CalG P w K mg base CX0 1 "_law_draw" spDraw) (c_lpick : CalG P w K mg base CX0 2 "_law_pick" (spPick K)) (c_lword : CalG P w K mg base CX0 3 "_law_word" spWord) : FnG P w K mg base CX0 4 f fd ["_law_pen_here", "_law_signs_here", "_law_wide", "_law_sorts"] spPlain := by
  refine okG0 F sc_ledit (fun vs H Q E h => ?_) (fun cdv A outer s H vs Q E hg hr h => ?_)
  · obtain ⟨p, pc, sg, wide, so, ks, T0, rfl, _⟩ := h
    rfl
  · have hu := hu_of hr
    have hu64 := hr.units
    obtain ⟨p, pc, sg, wide, so, ks, T0, rfl, fz, hw1, hw3, hso, hks, hne, hkl, hpen, hT, k⟩ := h
    have hr2 : Room 3 _ := hr
    refine ⟨_, (pss_cons (ps_set (i := 4) sc_ledit.nd rfl (Or.inl rfl) (pe_cG c_lpick hg hr (by decide) pass0 (pa_cons (pv 0) (pa_cons (pv 3) pa_nil))))
      (pss_cons (ps_if (pt_cmpR op_ne (pv 4) pe_str (nomark _)) (pss_one (ps_ret (pe_tup (pa_cons (pv 4) (pa_cons (pe_tup (pa_cons (pe_tup (pa_cons (pe_cG c_lword hg hr (by decide) pass0 (pa_cons (pv 0) (pa_cons (pv 1) (pa_cons pe_int (pa_cons (pv 2) pa_nil))))) (pa_cons (pe_cG c_lword hg hr (by decide) pass0 (pa_cons (pv 0) (pa_cons (pv 1) (pa_cons pe_int (pa_cons (pv 2) pa_nil))))) pa_nil))) pa_nil)) pa_nil))))) pss_nil)
      (pss_cons (ps_set (i := 5) sc_ledit.nd rfl (Or.inl rfl) (pe_lst pa_nil))
      (pss_cons (ps_for PassesOwn.never rfl (pi_range1 rfl T.range (pa_cons (pe_cG c_ldraw hg hr (by decide) pass0 (pa_cons (pv 0) (pa_cons pe_int pa_nil))) pa_nil)) (pg_name (i := 6) sc_ledit.nd rfl (Or.inl rfl)) (pss_cons (ps_set (i := 7) sc_ledit.nd rfl (Or.inl rfl) (pe_cG c_lword hg hr (by decide) pass0 (pa_cons (pv 0) (pa_cons (pv 1) (pa_cons pe_int (pa_cons (pv 2) pa_nil))))))
      (pss_one (ps_if (pt_cmpR op_notIn_seq (pv 7) (pe_lc (own := [("_law_pair", 8)]) (g := gName 8) (tt := tYes) rfl sc_ledit.nd (pi_list (pv 5)) (blkOk_by (own := [("_law_pair", 8)]) (N := ["_law_pen_here", "_law_signs_here", "_law_wide", "_law_sorts", "_law_sort", "_law_found", "_law_k", "_law_was", "_law_pair"]) (sc := defScope s_ledit) (by decide +kernel)) (fun _ _ _ _ _ => (pg_name (i := 8) sc_ledit.nd rfl (Or.inl rfl))) (fun _ _ _ _ _ => pts_nil) (fun _ _ _ _ _ => (pe_ix (ix_seqK (K := K) rfl) (pv 8) pe_int (fun _ _ => rfl)))) (by rfl)) (pss_one (ps_expr (pe_bm PySem.F.plainAttrs_list PySem.F.slot_list_append PySem.F.type_list_append mt_append (pv 5) (pa_cons (pe_tup (pa_cons (pv 7) (pa_cons (pe_cG c_lword hg hr (by decide) pass0 (pa_cons (pv 0) (pa_cons (pv 1) (pa_cons pe_int (pa_cons (pv 2) pa_nil))))) pa_nil))) pa_nil)))) pss_nil))))
      (pss_one (ps_ret (pe_tup (pa_cons (pv 4) (pa_cons (pe_callTy call_tuple_of (by rfl) T.tuple (by decide +kernel) (pa_cons (pv 5) pa_nil)) pa_nil))))))))), ?_⟩
    refine ⟨_, rfl, _, rfl, p, pc, .ref so, _, T0, rfl, .lst (SqL.of hso), (fun z => hne (List.map_eq_nil_iff.mp z)), (by unfold srtV; rw [List.length_map]; omega), hpen, by omega, fun v H1 m1 P1 x1 => ?_⟩
    obtain ⟨n, hn, rfl⟩ := List.mem_map.mp m1
    have n5 := hks n hn
    refine ⟨_, rfl, rfl, _, rfl, ?_⟩
    by_cases n4 : n < 4
    · rw [srt5_lt n4, (sort_is n n4).1]
      refine iteT ?_
      refine ⟨_, rfl, _, rfl, _, rfl, _, rfl, p, pc, sg, 1, wide, T0 + 1, rfl, hw1, by omega, fz.1, Nat.le_trans fz.2.1 (by decide), P1, by omega, fun w1 H2 g1 P2 x2 => ?_⟩
      refine ⟨_, rfl, _, rfl, _, rfl, p, pc, sg, 0, wide, _, rfl, by omega, by omega, fz.1, Nat.le_trans fz.2.1 (by decide), P2, by omega, fun w2 H3 g2 P3 x3 => ?_⟩
      refine ⟨few_len (Nat.le_of_ble_eq_true rfl), fun t3 h3 => ⟨few_len (Nat.le_of_ble_eq_true rfl), fun t2 h2 => ⟨few_len (Nat.le_of_ble_eq_true rfl), fun t h1 => ?_⟩⟩⟩
      have s3 := same_new (o := .tup [.str w1, .str w2]) h3
      have s2 := same_new (o := .tup [.ref t3]) h2
      have s1 := same_new (o := .tup [.str (sortAt n), .ref t2]) h1
      refine k _ (.one n w1 w2) _ ⟨n4, t, t2, t3, rfl, upd_same, s1 _ _ upd_same, s1 _ _ (s2 _ _ upd_same)⟩ ⟨n4, g1, g2⟩ hn ((((P3.stay s3).stay s2).stay s1).mono (by omega)) (((x1.trans x2).trans x3).trans (Ext.same ((s3.trans s2).trans s1)))
    · have e5 : srt5 n = "together" := if_neg n4
      rw [e5]
      refine iteF ?_
      refine ⟨few_len (Nat.zero_le _), fun lo hlo => ?_⟩
      have ap := P1.apart hlo
      have hlo0 := x1.none_of ap.1 hlo
      refine ⟨_, rfl, p, pc, 4, T0 + 1, rfl, by decide, by decide, P1.new hlo, by omega, fun m H2 m0 m4 P2 x2 => ⟨m, rfl, by omega, by omega, ?_⟩⟩
      have hlo2 : H2 lo = some (.lst []) := x2 _ _ upd_same ap.1
      have x12 : Ext p H H2 := x1.trans ((Ext.new hlo).trans x2)
      refine for_range (lo := 0) (n := m.toNat) (fun i σ H' => ∃ o6 o7 o8 got ps, σ = [some (.ref p), some (.str sg), some (.int (wide : Nat)), some (.ref so), some (.str "together"), some (.ref lo), o6, o7, o8] ∧ Pen H' p pc (T0 + 2 + 10 * i) ∧ Ext p H H' ∧ H' lo = some (.lst got) ∧ Paired (fun v (q : Str × Str) => ∃ t, v = V.ref t ∧ H' t = some (.tup [.str q.1, .str q.2])) got ps ∧ (∀ q ∈ ps, Word sg 1 wide q.1 ∧ Word sg 0 wide q.2) ∧ ps.length ≤ i ∧ (ps.map (·.1)).Nodup) ?_ ?_ ?_
      · exact ⟨_, _, _, [], [], rfl, P2, x12, hlo2, .nil, (fun q h => absurd h List.not_mem_nil), Nat.le_refl _, .nil⟩
      · rintro i σ H3 hi ⟨o6, o7, o8, got, ps, rfl, P3, x3, hg, pr, ws, pl, nd⟩
        have im : i < 4 := by omega
        have gl := paired_len pr
        refine ⟨_, rfl, _, rfl, _, rfl, p, pc, sg, 1, wide, _, rfl, hw1, by omega, fz.1, Nat.le_trans fz.2.1 (by decide), P3, by omega, fun w1 H4 g1 P4 x4 => ?_⟩
        have hg4 : H4 lo = some (.lst got) := x4 _ _ hg ap.1
        have pr4 := paired_impl (S := fun v (q : Str × Str) => ∃ t, v = V.ref t ∧ H4 t = some (.tup [.str q.1, .str q.2])) (fun v q ⟨t, e, h⟩ => ⟨t, e, tup_ext P3 x4 h⟩) pr
        refine ⟨_, rfl, _, rfl, lo, rfl, ⟨_, SqL.of hg4⟩, fun D hD => ?_⟩
        refine lc_list (K := K) (a := lo) (xs := got) (fun j H' => Same H4 H' ∧ H' D = some (.lst (((ps.map (·.1)).map V.str).take j))) ⟨same_new hD, upd_same⟩ (fun j H' _ q => SqL.of (q.1 _ _ hg4)) (fun j u H' hu q => ?_) (fun H' q => ?_)
        · obtain ⟨⟨z1, z2⟩, hz, t, rfl, ht⟩ := paired_at pr4 hu
          refine ⟨rfl, ?_⟩
          dsimp only [tYes]
          rw [if_pos rfl]
          refine ⟨_, rfl, .inr (.inl ⟨t, _, _, _, rfl, rfl, SqT.of (q.1 _ _ ht), rfl, _, q.2, few_lt (by rw [List.length_take, List.length_map, List.length_map]; omega), fun b o h => ?_, ?_⟩)⟩
          · rw [upd_ne (ne_of_none h hD)]
            exact q.1 _ _ h
          · rw [upd_same, List.take_add_one, List.getElem?_map, List.getElem?_map, hz]
            rfl
        · obtain ⟨s4, hD4⟩ := q
          rw [List.take_of_length_le (by rw [List.length_map, List.length_map]; omega)] at hD4
          refine ⟨D, _, rfl, .inl (SqL.of hD4), rfl, flat_strs _, _, rfl, ?_⟩
          have P5 := P4.stay s4
          have x5 := (x3.trans x4).trans (Ext.same s4)
          have hg5 := s4 _ _ hg4
          have pr5 := paired_impl (S := fun v (q : Str × Str) => ∃ t, v = V.ref t ∧ H' t = some (.tup [.str q.1, .str q.2])) (fun v q ⟨t, e, h⟩ => ⟨t, e, s4 _ _ h⟩) pr4
          cases hs : seen w1 (ps.map (·.1)) with
          | true =>
            rw [if_pos rfl, show inV (.str w1) ((ps.map (·.1)).map V.str) = true from hs]
            exact iteF ⟨_, _, _, got, ps, rfl, P5.mono (by omega), x5, hg5, pr5, ws, by omega, nd⟩
          | false =>
            rw [if_pos rfl, show inV (.str w1) ((ps.map (·.1)).map V.str) = false from hs]
            refine iteT ⟨_, rfl, .inl ⟨rfl, _, SqL.of hg5⟩, _, rfl, _, rfl, _, rfl, _, rfl, p, pc, sg, 0, wide, _, rfl, by omega, by omega, fz.1, Nat.le_trans fz.2.1 (by decide), P5, by omega, fun w2 H6 g2 P6 x6 => ⟨few_len (Nat.le_of_ble_eq_true rfl), fun t ht => ?_⟩⟩
            have hg6 : H6 lo = some (.lst got) := x6 _ _ hg5 ap.1
            have sn := same_new (o := .tup [.str w1, .str w2]) ht
            have ntl : t ≠ lo := (ne_of_none hg6 ht).symm
            refine ⟨lo, _, _, rfl, rfl, sn _ _ hg6, few_lt (by omega), _, _, _, got ++ [.ref t], ps ++ [(w1, w2)], rfl, ((P6.stay sn).set ap.1 ap.2).mono (by omega), ((x5.trans x6).trans (Ext.same sn)).set hlo0, upd_same, ?_, ?_, by rw [List.length_append]; exact Nat.succ_le_succ pl, ?_⟩
            · have un : ∀ {u : Addr} {ws : List V}, H' u = some (.tup ws) → (upd (upd H6 t (.tup [.str w1, .str w2])) lo (.lst (got ++ [.ref t]))) u = some (.tup ws) := fun h => by
                rw [upd_ne (fun e => by rw [e, hg5] at h; cases h)]
                exact sn _ _ (tup_ext P5 x6 h)
              refine paired_app2 (paired_impl (fun v q ⟨t, e, h⟩ => ⟨t, e, un h⟩) pr5) ⟨t, rfl, ?_⟩
              rw [upd_ne ntl]
              exact upd_same
            · intro q hq
              rcases List.mem_append.mp hq with hq | hq
              · exact ws q hq
              · rw [List.mem_singleton.mp hq]
                exact ⟨g1, g2⟩
            · rw [List.map_append]
              refine List.nodup_append.mpr ⟨nd, List.pairwise_singleton _ _, fun a ha b hb e => ?_⟩
              rw [List.mem_singleton.mp hb] at e
              have := seen_iff.mpr (e ▸ ha)
              rw [hs] at this
              cases this
      · rintro σ H3 ⟨o6, o7, o8, got, ps, rfl, P3, x3, hg, pr, ws, pl, nd⟩
        refine ⟨_, rfl, _, rfl, lo, got, rfl, .inl ⟨SqL.of hg, fun t2 ht2 => ⟨few_len (Nat.le_of_ble_eq_true rfl), fun t ht => ?_⟩⟩⟩
        have s1 := same_new (o := .tup got) ht2
        have s2 := same_new (o := .tup [.str "together", .ref t2]) ht
        refine k _ (.many ps) _ ⟨t, t2, rfl, upd_same, got, s2 _ _ upd_same, paired_impl (fun v q ⟨t, e, h⟩ => ⟨t, e, s2 _ _ (s1 _ _ h)⟩) pr⟩ ⟨ws, by omega, nd⟩ (show 4 ∈ ks from (show n = 4 by omega) ▸ hn) (((P3.stay s1).stay s2).mono (by omega)) (x3.trans (Ext.same (s1.trans s2)))

theorem born_one {C Co Cn : Addr} {z1 z2 : Str} {H : Hp} {Q : VK} {E : XK} (o1 : isOld (.str z1) = true) (o2 : isNew (.str z2) = true) (r1 : Srt (.str z1)) (r2 : Srt (.str z2)) (k : ∀ a dx H', Same H H' → H' a = some (.ins C dx (fl z1 z2)) → Q (.ref a) H') :
    Born C (spEdit C Co Cn) [.str z1, .str z2] H Q E := by
  intro a dx ha hdx ne
  refine ⟨a, dx, _, _, _, _, rfl, upd_same, .atm (.str z1), r1, .atm (.str z2), r2, (fun o => nomatch o1.symm.trans o), (fun _ o => nomatch o2.symm.trans o), fun _ _ => ⟨rfl, k a dx _ (fun b o h => ?_) upd_same⟩⟩
  rw [upd_ne (ne_of_none h ha), upd_ne (ne_of_none h ha), upd_ne (ne_of_none h hdx)]
  exact h

structure WdsP (ps : List (Str × Str)) : Prop where
  ok : ∀ p ∈ ps, isOld (.str p.1) = true ∧ isNew (.str p.2) = true ∧ Srt (.str p.1) ∧ Srt (.str p.2)
  len : ps.length ≤ 3
  nd : (ps.map (·.1)).Nodup
theorem isP_mk {p : Str × Str} (h1 : isOld (.str p.1) = true) (h2 : isNew (.str p.2) = true) : isP (partD p) = true := by
  show (isOld (.str p.1) && isNew (.str p.2)) = true
  rw [h1, h2]
  rfl
theorem WdsP.isP {ps : List (Str × Str)} (w : WdsP ps) : ∀ d ∈ ps.map partD, isP d = true := fun d hd => by
  obtain ⟨p, hp, rfl⟩ := List.mem_map.mp hd
  exact isP_mk (w.ok p hp).1 (w.ok p hp).2.1
theorem WdsP.el {ps : List (Str × Str)} (w : WdsP ps) : ∀ d ∈ ps.map partD, El d := fun d hd => by
  obtain ⟨p, hp, rfl⟩ := List.mem_map.mp hd
  intro l e x hx
  cases e
  simp only [List.mem_cons, List.not_mem_nil, or_false] at hx
  rcases hx with rfl | rfl
  · exact (w.ok p hp).2.2.1
  · exact (w.ok p hp).2.2.2
theorem WdsP.good {ps : List (Str × Str)} (w : WdsP ps) : Good (ps.map partD) := by
  refine ⟨bad_none.mpr ⟨w.isP, fun d hd => List.not_mem_nil, ?_⟩, by rw [List.length_map]; exact w.len⟩
  rw [List.map_map]
  exact w.nd
theorem parts_th {H : Hp} : ∀ {xs : List V} {ps : List (Str × Str)}, Paired (fun v (q : Str × Str) => ∃ t, v = V.ref t ∧ H t = some (.tup [.str q.1, .str q.2])) xs ps → Paired (Th H) xs (ps.map partD)
  | _, _, .nil => .nil
  | _, _, .cons a t => .cons (by
      obtain ⟨t, rfl, ht⟩ := a
      exact .tup ht (.cons (.str _) (.cons (.str _) .nil))) (parts_th t)
theorem parts_back {H H1 : Hp} {q : Addr} {xs : List V} {ps : List (Str × Str)} (pr : Paired (fun v (q : Str × Str) => ∃ t, v = V.ref t ∧ H t = some (.tup [.str q.1, .str q.2])) xs ps) (s : Same H H1) (h : H1 q = some (.tup xs)) : PartsOf H1 q ps := ⟨xs, h, paired_impl (fun v p ⟨t, e, ht⟩ => ⟨t, e, s _ _ ht⟩) pr⟩
/-- words that an edit takes -/
def Wds : EdM → Prop
  | .one _ z1 z2 => isOld (.str z1) = true ∧ isNew (.str z2) = true ∧ Srt (.str z1) ∧ Srt (.str z2)
  | .many ps => WdsP ps
def spMade (Cs : Nat → Addr) (Ca : Addr) : Sp := fun vs H Q _ => ∃ v e, vs = [v] ∧ Plain H v e ∧ Wds e ∧ ∀ a H', Same H H' → IsEd Cs Ca H' a e → Q (.ref a) H'
abbrev s_lmade : Stmt := top 52
theorem sc_lmade : FnScope ["_law_plain", "_law_sort", "_law_duos", "_law_was", "_law_fresh"] ["_law_plain"] (defScope s_lmade) := ⟨rfl, rfl, rfl, by decide +kernel, rfl, by decide +kernel, by decide +kernel⟩
theorem b_lmade {f : Addr} {fd : FuncData} (F : Fun K "_law_made" "_law_made" s_lmade f fd) (T : Txt mg) (mk_Once : MakI P w K mg base (L2.CX P w) 5 "Once" C_Once ["old", "new"] (spEdit C_Once C_InvalidOld C_InvalidNew)) (mk_First : MakI P w K mg base (L2.CX P w) 5 "First" C_First ["old", "new"] (spEdit C_First C_InvalidOld C_InvalidNew)) (mk_Perhaps : MakI P w K mg base (L2.CX P w) 5 "Perhaps" C_Perhaps ["old", "new"] (spEdit C_Perhaps C_InvalidOld C_InvalidNew)) (mk_Every : MakI P w K mg base (L2.CX P w) 5 "Every" C_Every ["old", "new"] (spEdit C_Every C_InvalidOld C_InvalidNew)) (n_AtOnce : mg "AtOnce" = some (.ref C_AtOnce)) (MA : L2.Mk K C_AtOnce fA) (FA : FnRG P w K mg base (L2.CX P w) 6 fA (spAt C_AtOnce C_InvalidPart C_TooMany)) : FnG P w K mg base CX0 8 f fd ["_law_plain"] (spMade (cls4 C_Once C_First C_Perhaps C_Every) C_AtOnce) := by
  refine okG0 F sc_lmade (fun vs H Q E h => ?_) (fun cdv A outer s H vs Q E hg hr h => ?_)
  · obtain ⟨v, e, rfl, _⟩ := h
    rfl
  · have hu := hu_of hr
    have hu64 := hr.units
    obtain ⟨v, e, rfl, pl, wd, k⟩ := h
    refine ⟨_, (pss_cons (ps_asg (pv 0) (pg_tup rfl (pgs_cons (pg_name (i := 1) sc_lmade.nd rfl (Or.inl rfl)) (pgs_cons (pg_name (i := 2) sc_lmade.nd rfl (Or.inl rfl)) pgs_nil))))
      (pss_cons (ps_if (pt_cmpR op_eq (pv 1) pe_str (nomark _)) (pss_cons (ps_if (pt_cmpR op_lt (pe_callB call_len (by rfl) T.len (by decide +kernel) (pa_cons (pv 2) pa_nil)) pe_int (nomark _)) (pss_one (ps_ret (pe_ifExp (pt_cmpR (op_eqD hu64) (pv 2) (pe_tup pa_nil) (nomark _)) (pe_starI0 MA FA hg hr (by decide) n_AtOnce passesF) (pe_starI MA FA hg hr (by decide) n_AtOnce passesF (pa_cons (pe_ix ix_seq (pv 2) pe_int (fun _ _ => rfl)) pa_nil))))) pss_nil)
      (pss_one (ps_ret (pe_ifExp (pt_cmpR op_eq (pe_callB call_len (by rfl) T.len (by decide +kernel) (pa_cons (pv 2) pa_nil)) pe_int (nomark _)) (pe_starI MA FA hg hr (by decide) n_AtOnce passesF (pa_cons (pe_ix ix_seq (pv 2) pe_int (fun _ _ => rfl)) (pa_cons (pe_ix ix_seq (pv 2) pe_int (fun _ _ => rfl)) pa_nil))) (pe_starI MA FA hg hr (by decide) n_AtOnce passesF (pa_cons (pe_ix ix_seq (pv 2) pe_int (fun _ _ => rfl)) (pa_cons (pe_ix ix_seq (pv 2) pe_int (fun _ _ => rfl)) (pa_cons (pe_ix ix_seq (pv 2) pe_int (fun _ _ => rfl)) pa_nil)))))))) pss_nil)
      (pss_cons (ps_asg (pe_ix ix_seq (pv 2) pe_int (fun _ _ => rfl)) (pg_tup rfl (pgs_cons (pg_name (i := 3) sc_lmade.nd rfl (Or.inl rfl)) (pgs_cons (pg_name (i := 4) sc_lmade.nd rfl (Or.inl rfl)) pgs_nil))))
      (pss_cons (ps_if (pt_cmpR op_eq (pv 1) pe_str (nomark _)) (pss_one (ps_ret (pe_ins mk_Once hg hr (by decide) passesF (pa_cons (pv 3) (pa_cons (pv 4) pa_nil))))) pss_nil)
      (pss_cons (ps_if (pt_cmpR op_eq (pv 1) pe_str (nomark _)) (pss_one (ps_ret (pe_ins mk_First hg hr (by decide) passesF (pa_cons (pv 3) (pa_cons (pv 4) pa_nil))))) pss_nil)
      (pss_one (ps_ret (pe_ifExp (pt_cmpR op_eq (pv 1) pe_str (nomark _)) (pe_ins mk_Perhaps hg hr (by decide) passesF (pa_cons (pv 3) (pa_cons (pv 4) pa_nil))) (pe_ins mk_Every hg hr (by decide) passesF (pa_cons (pv 3) (pa_cons (pv 4) pa_nil))))))))))), ?_⟩
    cases e with
    | one n z1 z2 =>
      obtain ⟨hn, t, t2, t3, rfl, h1, h2, h3⟩ := pl
      obtain ⟨q0, q1, q2, q3, q4⟩ := sort_is n hn
      refine ⟨_, rfl, t, _, rfl, SqT.of h1, rfl, _, _, rfl, _, _, rfl, rfl, ?_⟩
      refine ⟨_, rfl, rfl, _, rfl, ?_⟩
      rw [q0]
      refine iteF ?_
      refine ⟨_, rfl, .inr (.inl ⟨t2, _, 0, _, rfl, rfl, SqT.of h2, rfl, t3, _, rfl, SqT.of h3, rfl, _, _, rfl, _, _, rfl, rfl, ?_⟩)⟩
      refine ⟨_, rfl, rfl, _, rfl, ?_⟩
      rw [q1]
      match n, hn with
      | 0, hn => exact iteT ⟨_, rfl, _, rfl, rfl, born_one wd.1 wd.2.1 wd.2.2.1 wd.2.2.2 fun a dx H' s ha => k a H' s ⟨hn, dx, ha⟩⟩
      | 1, hn =>
        refine iteF ⟨_, rfl, rfl, _, rfl, ?_⟩
        rw [q2]
        exact iteT ⟨_, rfl, _, rfl, rfl, born_one wd.1 wd.2.1 wd.2.2.1 wd.2.2.2 fun a dx H' s ha => k a H' s ⟨hn, dx, ha⟩⟩
      | 2, hn =>
        refine iteF ⟨_, rfl, rfl, _, rfl, ?_⟩
        rw [q2]
        refine iteF ⟨_, rfl, rfl, _, rfl, ?_⟩
        rw [q3]
        exact iteT ⟨_, rfl, _, rfl, rfl, born_one wd.1 wd.2.1 wd.2.2.1 wd.2.2.2 fun a dx H' s ha => k a H' s ⟨hn, dx, ha⟩⟩
      | 3, hn =>
        refine iteF ⟨_, rfl, rfl, _, rfl, ?_⟩
        rw [q2]
        refine iteF ⟨_, rfl, rfl, _, rfl, ?_⟩
        rw [q3]
        exact iteF ⟨_, rfl, _, rfl, rfl, born_one wd.1 wd.2.1 wd.2.2.1 wd.2.2.2 fun a dx H' s ha => k a H' s ⟨hn, dx, ha⟩⟩
      | n + 4, hn => exact absurd hn (by omega)
    | many ps =>
      obtain ⟨t, t2, rfl, h1, xs, h2, pr⟩ := pl
      have gl := paired_len pr
      have l3 := wd.len
      refine ⟨_, rfl, t, _, rfl, SqT.of h1, rfl, _, _, rfl, _, _, rfl, rfl, ?_⟩
      refine ⟨_, rfl, rfl, _, rfl, iteT ?_⟩
      refine ⟨_, rfl, .ref t2, xs.length, rfl, .inr ⟨_, SqT.of h2, rfl⟩, _, _, rfl, rfl, _, rfl, ?_⟩
      have born : ∀ {H1 : Hp} {Q' : VK} {E' : XK}, Same H H1 → (∀ a H', Same H1 H' → IsAt C_AtOnce H' a ps → Q' (.ref a) H') → Born C_AtOnce (spAt C_AtOnce C_InvalidPart C_TooMany) xs H1 Q' E' := fun s k2 =>
        born_at (parts_th (paired_impl (fun v p ⟨t, e, ht⟩ => ⟨t, e, s _ _ ht⟩) pr)) wd.el (by rw [List.length_map]; omega) (at_ok wd.good fun b dx q H' s2 hb hq => k2 b H' s2 ⟨dx, q, hb, parts_back pr (s.trans s2) hq⟩)
      match xs, ps, pr, gl with
      | [], [], pr, _ =>
        refine iteT ⟨_, rfl, few_len (Nat.zero_le _), fun q hq => ?_⟩
        have s1 := same_new (o := .tup []) hq
        refine ⟨.tuple [], .tuple [], .tup (SqT.of (s1 _ _ h2)) .nil, .tup (SqT.of upd_same) .nil, by decide +kernel, by decide +kernel, _, rfl, iteT ?_⟩
        exact born s1 fun a H' s2 ha => k a H' (s1.trans s2) ha
      | [u1], [p1], pr, _ =>
        refine iteT ⟨_, rfl, few_len (Nat.zero_le _), fun q hq => ?_⟩
        have s1 := same_new (o := .tup []) hq
        refine ⟨.tuple ([p1].map partD), .tuple [], .tup (SqT.of (s1 _ _ h2)) (dp_parts (parts_th (paired_impl (fun v p ⟨t, e, ht⟩ => ⟨t, e, s1 _ _ ht⟩) pr)) wd.isP), .tup (SqT.of upd_same) .nil, shaped_tup wd.isP wd.el, by decide +kernel, _, rfl, iteF ?_⟩
        exact ⟨_, rfl, .inr (.inl ⟨t2, _, 0, _, rfl, rfl, SqT.of (s1 _ _ h2), rfl, born s1 fun a H' s2 ha => k a H' (s1.trans s2) ha⟩)⟩
      | [u1, u2], [p1, p2], pr, _ =>
        refine iteF ⟨_, rfl, .ref t2, 2, rfl, .inr ⟨_, SqT.of h2, rfl⟩, rfl, _, rfl, iteT ?_⟩
        exact ⟨_, rfl, .inr (.inl ⟨t2, _, 0, _, rfl, rfl, SqT.of h2, rfl, _, rfl, .inr (.inl ⟨t2, _, 1, _, rfl, rfl, SqT.of h2, rfl, born Same.rfl fun a H' s2 ha => k a H' s2 ha⟩)⟩)⟩
      | [u1, u2, u3], [p1, p2, p3], pr, _ =>
        refine iteF ⟨_, rfl, .ref t2, 3, rfl, .inr ⟨_, SqT.of h2, rfl⟩, rfl, _, rfl, iteF ?_⟩
        exact ⟨_, rfl, .inr (.inl ⟨t2, _, 0, _, rfl, rfl, SqT.of h2, rfl, _, rfl, .inr (.inl ⟨t2, _, 1, _, rfl, rfl, SqT.of h2, rfl, _, rfl, .inr (.inl ⟨t2, _, 2, _, rfl, rfl, SqT.of h2, rfl, born Same.rfl fun a H' s2 ha => k a H' s2 ha⟩)⟩)⟩)⟩
      | _ :: _ :: _ :: _ :: _, _, _, g => exact absurd g (by rw [List.length_cons, List.length_cons, List.length_cons, List.length_cons]; omega)

theorem IsEd.keepX {Cs : Nat → Addr} {Ca : Addr} {H H1 : Hp} {a : Addr} {e : EdM} (h : IsEd Cs Ca H a e) (s : ∀ u o, (∀ zs, o ≠ HO.lst zs) → H u = some o → H1 u = some o) : IsEd Cs Ca H1 a e := by
  cases e with
  | one n z1 z2 =>
    obtain ⟨hn, dx, h⟩ := h
    exact ⟨hn, dx, s _ _ (fun _ z => nomatch z) h⟩
  | many ps =>
    obtain ⟨dx, q, ha, xs, hq, pr⟩ := h
    exact ⟨dx, q, s _ _ (fun _ z => nomatch z) ha, xs, s _ _ (fun _ z => nomatch z) hq, paired_impl (fun v p ⟨t, e, ht⟩ => ⟨t, e, s _ _ (fun _ z => nomatch z) ht⟩) pr⟩
theorem IsEd.ins {Cs : Nat → Addr} {Ca CE : Addr} {H : Hp} {a : Addr} {e : EdM} (h : IsEd Cs Ca H a e) (ed : ∀ n, n < 4 → EdF K (Cs n)) (kE : ∀ n, n < 4 → PySem.W.kitOne K (.ref (Cs n)) (.ref CE) = some true) (edA : EdF K Ca) (kEA : PySem.W.kitOne K (.ref Ca) (.ref CE) = some true) : ∃ C dx fs, H a = some (.ins C dx fs) ∧ EdF K C ∧ PySem.W.kitOne K (.ref C) (.ref CE) = some true := by
  cases e with
  | one n z1 z2 =>
    obtain ⟨hn, dx, h⟩ := h
    exact ⟨_, dx, _, h, ed n hn, kE n hn⟩
  | many ps =>
    obtain ⟨dx, q, ha, _⟩ := h
    exact ⟨_, dx, _, ha, edA, kEA⟩
def Plains (H : Hp) : List V → List EdM → Prop := Paired (Plain H)
theorem Plains.same {H H1 : Hp} {xs : List V} {es : List EdM} (p : Plains H xs es) (s : Same H H1) : Plains H1 xs es := paired_impl (fun v e h => h.same s) p
def spProg (Cs : Nat → Addr) (Ca CP : Addr) : Sp := fun vs H Q _ => ∃ l xs es, vs = [.ref l] ∧ H l = some (.lst xs) ∧ Plains H xs es ∧ (∀ e ∈ es, Wds e) ∧ es.length ≤ 4 ∧ ∀ pr H', Same H H' → IsPr Cs Ca CP H' pr es → Q (.ref pr) H'
abbrev s_lprogram : Stmt := top 53
theorem sc_lprogram : FnScope ["_law_plains", "_law_some", "_law_plain"] ["_law_plains"] (defScope s_lprogram) := ⟨rfl, rfl, rfl, by decide +kernel, rfl, by decide +kernel, by decide +kernel⟩
theorem b_lprogram {f : Addr} {fd : FuncData} (F : Fun K "_law_program" "_law_program" s_lprogram f fd) (T : Txt mg) (c_lmade : CalG P w K mg base CX0 8 "_law_made" (spMade (cls4 C_Once C_First C_Perhaps C_Every) C_AtOnce)) (n_Program : mg "Program" = some (.ref C_Program)) (ed : ∀ n, n < 4 → EdF K (cls4 C_Once C_First C_Perhaps C_Every n)) (kE : ∀ n, n < 4 → PySem.W.kitOne K (.ref (cls4 C_Once C_First C_Perhaps C_Every n)) (.ref C_Edit) = some true) (edA : EdF K C_AtOnce) (kEA : PySem.W.kitOne K (.ref C_AtOnce) (.ref C_Edit) = some true) (MP : L2.Mk K C_Program fP) (FP : FnRG P w K mg base (L2.CX P w) 2 fP (spPr K C_Edit C_Program)) : FnG P w K mg base CX0 9 f fd ["_law_plains"] (spProg (cls4 C_Once C_First C_Perhaps C_Every) C_AtOnce C_Program) := by
  refine okG0 F sc_lprogram (fun vs H Q E h => ?_) (fun cdv A outer s H vs Q E hg hr h => ?_)
  · obtain ⟨l, xs, es, rfl, _⟩ := h
    rfl
  · have hu := hu_of hr
    have hu64 := hr.units
    obtain ⟨l, xs, es, rfl, hl, pls, wds, l4, k⟩ := h
    have gl := paired_len pls
    refine ⟨_, (pss_cons (ps_setLc (i := 1) (own := [("_law_plain", 2)]) (g := gName 2) (tt := tYes) rfl sc_lprogram.nd rfl rfl (sw_true rfl rfl rfl (by decide +kernel)) (pi_list (pv 0)) (blkOk_by (own := [("_law_plain", 2)]) (N := ["_law_plains", "_law_some", "_law_plain"]) (sc := defScope s_lprogram) (by decide +kernel)) (fun _ _ _ _ _ => (pg_name (i := 2) sc_lprogram.nd rfl (Or.inl rfl))) (fun _ _ _ _ _ => pts_nil) (fun _ _ _ _ _ => (pe_cG c_lmade hg hr (by decide) pass0 (pa_cons (pv 2) pa_nil))))
      (pss_cons (ps_if (pt_cmpR op_lt (pe_callB call_len (by rfl) T.len (by decide +kernel) (pa_cons (pv 1) pa_nil)) pe_int (nomark _)) (pss_one (ps_ret (pe_ifExp (pt_cmpR (op_eqNil hu64) (pv 1) (pe_lst pa_nil) (nomark _)) (pe_starI0 MP FP hg hr (by decide) n_Program passesF) (pe_starI MP FP hg hr (by decide) n_Program passesF (pa_cons (pe_ix ix_seq (pv 1) pe_int (fun _ _ => rfl)) pa_nil))))) pss_nil)
      (pss_cons (ps_if (pt_cmpR op_eq (pe_callB call_len (by rfl) T.len (by decide +kernel) (pa_cons (pv 1) pa_nil)) pe_int (nomark _)) (pss_one (ps_ret (pe_starI MP FP hg hr (by decide) n_Program passesF (pa_cons (pe_ix ix_seq (pv 1) pe_int (fun _ _ => rfl)) (pa_cons (pe_ix ix_seq (pv 1) pe_int (fun _ _ => rfl)) pa_nil))))) pss_nil)
      (pss_cons (ps_if (pt_cmpR op_eq (pe_callB call_len (by rfl) T.len (by decide +kernel) (pa_cons (pv 1) pa_nil)) pe_int (nomark _)) (pss_one (ps_ret (pe_starI MP FP hg hr (by decide) n_Program passesF (pa_cons (pe_ix ix_seq (pv 1) pe_int (fun _ _ => rfl)) (pa_cons (pe_ix ix_seq (pv 1) pe_int (fun _ _ => rfl)) (pa_cons (pe_ix ix_seq (pv 1) pe_int (fun _ _ => rfl)) pa_nil)))))) pss_nil)
      (pss_one (ps_ret (pe_starI MP FP hg hr (by decide) n_Program passesF (pa_cons (pe_ix ix_seq (pv 1) pe_int (fun _ _ => rfl)) (pa_cons (pe_ix ix_seq (pv 1) pe_int (fun _ _ => rfl)) (pa_cons (pe_ix ix_seq (pv 1) pe_int (fun _ _ => rfl)) (pa_cons (pe_ix ix_seq (pv 1) pe_int (fun _ _ => rfl)) pa_nil))))))))))), ?_⟩
    refine ⟨_, rfl, l, rfl, ⟨_, SqL.of hl⟩, fun D hD => ?_⟩
    refine lc_list (K := K) (a := l) (xs := xs) (fun i H' => Same H H' ∧ ∃ got, H' D = some (.lst got) ∧ IsEds (cls4 C_Once C_First C_Perhaps C_Every) C_AtOnce H' got (es.take i)) ⟨same_new hD, [], upd_same, .nil⟩ (fun i H' _ p => SqL.of (p.1 _ _ hl)) (fun i u H' hu p => ?_) (fun H' p => ?_)
    · obtain ⟨sm, got, hd, ie⟩ := p
      obtain ⟨e, he, pl⟩ := paired_at pls hu
      have rl := paired_len ie
      rw [List.length_take] at rl
      refine ⟨rfl, ?_⟩
      dsimp only [tYes]
      rw [if_pos rfl]
      refine ⟨_, rfl, u, e, rfl, pl.same sm, wds e (List.mem_of_getElem? he), fun a H2 s2 ha => ⟨got, s2 _ _ hd, few_lt (by omega), fun b o h => ?_, got ++ [.ref a], upd_same, ?_⟩⟩
      · rw [upd_ne (ne_of_none h hD)]
        exact s2 _ _ (sm _ _ h)
      · have ne : ∀ u o, (∀ zs, o ≠ HO.lst zs) → H2 u = some o → (upd H2 D (.lst (got ++ [.ref a]))) u = some o := fun u o n h => by
          rw [upd_ne (fun z => by rw [z, s2 _ _ hd] at h; exact n _ (Option.some.inj h).symm)]
          exact h
        rw [List.take_add_one, he]
        exact paired_app2 (paired_impl (fun v e ⟨a, q, h⟩ => ⟨a, q, (h.keep s2).keepX ne⟩) ie) ⟨a, rfl, ha.keepX ne⟩
    · obtain ⟨sm, got, hd, ie⟩ := p
      rw [List.take_of_length_le (by omega)] at ie
      have rl := paired_len ie
      have fin : ∀ H2 : Hp, Same H' H2 → ∀ b dx q H3, Same H2 H3 → H3 b = some (.ins C_Program dx [("_edits", .ref q)]) → H3 q = some (.tup got) → Q (.ref b) H3 := fun H2 s2 b dx q H3 s3 hb hq => k b H3 ((sm.trans s2).trans s3) ⟨dx, q, _, hb, hq, paired_impl (fun v e ⟨a, q, h⟩ => ⟨a, q, h.keep (s2.trans s3)⟩) ie⟩
      have eds : ∀ H2 : Hp, Same H' H2 → ∀ v ∈ got, ∃ a C dx fs, v = V.ref a ∧ H2 a = some (.ins C dx fs) ∧ EdF K C ∧ PySem.W.kitOne K (.ref C) (.ref C_Edit) = some true := fun H2 s2 v hv => by
        obtain ⟨e, _, a, rfl, h⟩ := paired_mem ie hv
        obtain ⟨C, dx, fs, r⟩ := (h.keep s2).ins ed kE edA kEA
        exact ⟨a, C, dx, fs, rfl, r⟩
      refine ⟨_, rfl, .ref D, got.length, rfl, .inl ⟨_, SqL.of hd, rfl⟩, _, _, rfl, rfl, _, rfl, ?_⟩
      have len : ∀ {n : Nat}, got.length = n → LenV K (.ref D) H' n := fun e => .inl ⟨_, SqL.of hd, e.symm⟩
      match got, hd, rl, fin, eds with
      | [], hd, _, fin, eds =>
        refine iteT ⟨_, rfl, few_len (Nat.zero_le _), fun q hq => ⟨D, _, q, rfl, rfl, SqL.of ((same_new hq) _ _ hd), SqL.of upd_same, _, rfl, iteT ?_⟩⟩
        exact born_pr (eds _ (same_new hq)) (Nat.le_of_ble_eq_true rfl) (fin _ (same_new hq))
      | [u1], hd, _, fin, eds =>
        refine iteT ⟨_, rfl, few_len (Nat.zero_le _), fun q hq => ⟨D, _, q, rfl, rfl, SqL.of ((same_new hq) _ _ hd), SqL.of upd_same, _, rfl, iteF ?_⟩⟩
        exact ⟨_, rfl, .inl ⟨D, _, 0, _, rfl, rfl, SqL.of ((same_new (o := .lst []) hq) _ _ hd), rfl, born_pr (eds _ (same_new hq)) (Nat.le_of_ble_eq_true rfl) (fin _ (same_new hq))⟩⟩
      | [u1, u2], hd, _, fin, eds =>
        refine iteF ⟨_, rfl, .ref D, 2, rfl, .inl ⟨_, SqL.of hd, rfl⟩, rfl, _, rfl, iteT ?_⟩
        exact ⟨_, rfl, .inl ⟨D, _, 0, _, rfl, rfl, SqL.of hd, rfl, _, rfl, .inl ⟨D, _, 1, _, rfl, rfl, SqL.of hd, rfl, born_pr (eds _ Same.rfl) (Nat.le_of_ble_eq_true rfl) (fin _ Same.rfl)⟩⟩⟩
      | [u1, u2, u3], hd, _, fin, eds =>
        refine iteF ⟨_, rfl, .ref D, 3, rfl, .inl ⟨_, SqL.of hd, rfl⟩, rfl, _, rfl, iteF ⟨_, rfl, .ref D, 3, rfl, .inl ⟨_, SqL.of hd, rfl⟩, rfl, _, rfl, iteT ?_⟩⟩
        exact ⟨_, rfl, .inl ⟨D, _, 0, _, rfl, rfl, SqL.of hd, rfl, _, rfl, .inl ⟨D, _, 1, _, rfl, rfl, SqL.of hd, rfl, _, rfl, .inl ⟨D, _, 2, _, rfl, rfl, SqL.of hd, rfl, born_pr (eds _ Same.rfl) (Nat.le_of_ble_eq_true rfl) (fin _ Same.rfl)⟩⟩⟩⟩
      | [u1, u2, u3, u4], hd, _, fin, eds =>
        refine iteF ⟨_, rfl, .ref D, 4, rfl, .inl ⟨_, SqL.of hd, rfl⟩, rfl, _, rfl, iteF ⟨_, rfl, .ref D, 4, rfl, .inl ⟨_, SqL.of hd, rfl⟩, rfl, _, rfl, iteF ?_⟩⟩
        exact ⟨_, rfl, .inl ⟨D, _, 0, _, rfl, rfl, SqL.of hd, rfl, _, rfl, .inl ⟨D, _, 1, _, rfl, rfl, SqL.of hd, rfl, _, rfl, .inl ⟨D, _, 2, _, rfl, rfl, SqL.of hd, rfl, _, rfl, .inl ⟨D, _, 3, _, rfl, rfl, SqL.of hd, rfl, born_pr (eds _ Same.rfl) (Nat.le_of_ble_eq_true rfl) (fin _ Same.rfl)⟩⟩⟩⟩⟩
      | _ :: _ :: _ :: _ :: _ :: _, _, g, _, _ => exact absurd g (by simp only [List.length_cons]; omega)

end
end Vk
set_option Elab.async false
set_option maxRecDepth 100000
set_option linter.all false
set_option maxHeartbeats 4000000
namespace Vk
open PySem PySem.Spec PyProof.Rows L2 LamX NdefX StX
/-! ## where letters come from -/
inductive Lb
  | idx (i : Nat)
  | put (e p k : Nat)
def LbR (H : Hp) (v : V) : Lb → Prop
  | .idx i => v = .int (i : Nat)
  | .put e p k => ∃ t, v = .ref t ∧ H t = some (.tup [.int (e : Nat), .int (p : Nat), .int (k : Nat)])
def LbsR (H : Hp) : List V → List Lb → Prop := Paired (LbR H)
theorem LbR.keep {H H1 : Hp} {v : V} {l : Lb} (h : LbR H v l) (s : ∀ u ws, H u = some (.tup ws) → H1 u = some (.tup ws)) : LbR H1 v l := by
  cases l with
  | idx i => exact h
  | put e p k =>
    obtain ⟨t, e, ht⟩ := h
    exact ⟨t, e, s _ _ ht⟩
theorem LbsR.keep {H H1 : Hp} {xs : List V} {L : List Lb} (h : LbsR H xs L) (s : ∀ u ws, H u = some (.tup ws) → H1 u = some (.tup ws)) : LbsR H1 xs L := paired_impl (fun v l q => LbR.keep q s) h
theorem paired_takeN {α β : Type} {R : α → β → Prop} : ∀ (n : Nat) {xs : List α} {ys : List β}, Paired R xs ys → Paired R (xs.take n) (ys.take n)
  | 0, _, _, _ => .nil
  | n + 1, _, _, .nil => .nil
  | n + 1, _, _, .cons a t => .cons a (paired_takeN n t)
/-- rows that stand one behind the other, from k on -/
def Ch (n : Nat) : Nat → List Rw → Prop
  | k, [] => k ≤ n
  | k, r :: L => k ≤ r.b ∧ r.e ≤ n ∧ Ch n r.e L
theorem Ch.le {n : Nat} : ∀ {L : List Rw} {k : Nat}, Ch n k L → k ≤ n
  | [], k, h => h
  | r :: L, k, h => by
    have h1 := h.1
    have h2 := h.2.1
    unfold Rw.e at h2
    omega
theorem cutS_nat {x : Str} {k b : Nat} (h1 : k ≤ b) (h2 : b ≤ x.length) : (cutS x (some (k : Int)) (some (b : Int))).length = b - k := by
  unfold cutS
  rw [HT.sIx_nat, HT.sIx_nat, Nat.min_eq_left (Nat.le_trans h1 h2), Nat.min_eq_left h2]
  show (((x.cps.toList.drop k).take (b - k)).toArray).size = b - k
  have hx : x.cps.toList.length = x.length := Array.length_toList
  simp only [List.size_toArray, List.length_take, List.length_drop, hx]
  omega
theorem cutS_tail {x : Str} {k : Nat} (h : k ≤ x.length) : (cutS x (some (k : Int)) none).length = x.length - k := by
  unfold cutS
  rw [HT.sIx_nat, HT.sIx_none, Nat.min_eq_left h]
  show (((x.cps.toList.drop k).take (x.length - k)).toArray).size = x.length - k
  have hx : x.cps.toList.length = x.length := Array.length_toList
  simp only [List.size_toArray, List.length_take, List.length_drop, hx]
  omega
theorem ch_apart {n len : Nat} {z1 z2 : Str} (hz : z1.length = len) : ∀ {ps : List Nat} {e : Nat}, e ≤ n → (∀ p ∈ ps, p + len ≤ n) → Ch n e ((apartM len ps e).map (mkR z1 z2))
  | [], e, he, _ => he
  | p :: r, e, he, h => by
    rw [apartM_cons]
    have hp := h p List.mem_cons_self
    by_cases c : e ≤ p
    · rw [if_pos c]
      have e1 : (mkR z1 z2 p).e = p + len := by
        show p + z1.length = p + len
        rw [hz]
      refine ⟨c, by rw [e1]; exact hp, ?_⟩
      rw [e1]
      exact ch_apart hz hp fun q hq => h q (List.mem_cons_of_mem _ hq)
    · rw [if_neg c]
      exact ch_apart hz he fun q hq => h q (List.mem_cons_of_mem _ hq)
theorem ch_over {n : Nat} : ∀ {L : List Rw} {k : Nat}, overl L = false → (∀ r ∈ L, r.e ≤ n) → k ≤ n → (∀ r, L.head? = some r → k ≤ r.b) → Ch n k L
  | [], k, _, _, hk, _ => hk
  | [r], k, _, h, hk, h0 => ⟨h0 r rfl, h r List.mem_cons_self, h r List.mem_cons_self⟩
  | a :: c :: t, k, o, h, hk, h0 => by
    rw [overl_cons, Bool.or_eq_false_iff] at o
    refine ⟨h0 a rfl, h a List.mem_cons_self, ch_over o.2 (fun r hr => h r (List.mem_cons_of_mem _ hr)) (h a List.mem_cons_self) fun r hr => ?_⟩
    cases hr
    have := of_decide_eq_false o.1
    omega
theorem ch_rows {x y : Str} {e : EdM} (h : outE x e = .txt y) : Ch x.length 0 (rowsE x e) := by
  cases e with
  | one n z1 z2 =>
    refine ch_apart rfl (Nat.zero_le _) fun p hp => ?_
    have hp2 : p ∈ plc x z1 := by
      split at hp
      · exact List.mem_of_mem_take hp
      · exact hp
    exact plc_len_le hp2
  | many ps =>
    have h2 : outM x ps = .txt y := h
    cases hw : wrongM x ps with
    | some m =>
      rw [outM_no hw] at h2
      cases h2
    | none =>
      cases ho : overl (ordM (rowsM x ps 0)) with
      | true =>
        rw [outM_over hw ho] at h2
        cases h2
      | false =>
        refine ch_over ho (fun r hr => ?_) (Nat.zero_le _) fun r _ => Nat.zero_le _
        exact plc_len_le (row_at hw ((ordM_perm _).mem_iff.mp hr))
/-- what becomes of the labels -/
inductive OutL
  | labs (L : List Lb)
  | no (i m : Nat)
  | over (i : Nat)
def BndA : List EdM → Str → Prop
  | [], _ => True
  | e :: r, x => OkE x e ∧ ∀ y, outE x e = .txt y → BndA r y
end Vk
set_option Elab.async false
set_option maxRecDepth 100000
set_option linter.all false
set_option maxHeartbeats 4000000
namespace Vk
open PySem PySem.Spec PyProof.Rows L2 LamX NdefX StX
section
variable {P : Program} {w : World} {K : PySem.W.Frag} {mg : Str → Option Value} {base : Heap}
variable {C_Once C_First C_Perhaps C_Every C_AtOnce C_Edit C_Program C_NoPlace C_Overlap C_InvalidText : Addr}
/-- what becomes of a text by several edits -/
inductive OutR
  | txt (y : Str)
  | no (i m : Nat)
  | over (i : Nat)
def runA : List EdM → Nat → Str → OutR
  | [], _, x => .txt x
  | e :: r, i, x => match outE x e with
    | .txt y => runA r (i + 1) y
    | .no m => .no i m
    | .over => .over i
theorem runA_cons {e : EdM} {r : List EdM} {i : Nat} {x : Str} : runA (e :: r) i x = (match outE x e with
    | .txt y => runA r (i + 1) y
    | .no m => .no i m
    | .over => .over i) := rfl
theorem runA_txt {e : EdM} {r : List EdM} {i : Nat} {x y : Str} (h : outE x e = .txt y) : runA (e :: r) i x = runA r (i + 1) y := by
  rw [runA_cons, h]
theorem runA_no {e : EdM} {r : List EdM} {i m : Nat} {x : Str} (h : outE x e = .no m) : runA (e :: r) i x = .no i m := by
  rw [runA_cons, h]
theorem runA_over {e : EdM} {r : List EdM} {i : Nat} {x : Str} (h : outE x e = .over) : runA (e :: r) i x = .over i := by
  rw [runA_cons, h]
/-- run's outcomes for a text -/
def RunsT (CN CO : Addr) (es : List EdM) (x : Str) (H : Hp) (Q : VK) (E : XK) : Prop := BndA es x ∧
  (∀ i m, runA es 0 x = .no i m → ∀ H1 d, Same H H1 → H1 d = none → E (.ref CN) (some d) (upd H1 d (.xd [(("number" : Str), .int (m : Nat)), (("index" : Str), .int (i : Nat))]))) ∧
  (∀ i, runA es 0 x = .over i → ∀ H1 d, Same H H1 → H1 d = none → E (.ref CO) (some d) (upd H1 d (.xd [(("index" : Str), .int (i : Nat))]))) ∧ (∀ y, runA es 0 x = .txt y → ∀ H', Same H H' → Q (.str y) H')
def spRun (Cs : Nat → Addr) (Ca CP CN CO CT : Addr) : Sp := fun vs H Q E => ∃ pr es v d, vs = [.ref pr, v] ∧ IsPr Cs Ca CP H pr es ∧ Th H v d ∧ Srt d ∧
  (isT d = false → ∀ H1 dd, Same H H1 → H1 dd = none → E (.ref CT) (some dd) (upd H1 dd (.xd [(("value" : Str), v)]))) ∧ (∀ x, d = .str x → isT d = true → RunsT CN CO es x H Q E)
abbrev m_run : Stmt := mtd (top 42) 7
theorem sc_run : FnScope ["self", "text", "index", "edit"] ["self", "text"] (defScope m_run) := ⟨rfl, rfl, rfl, by decide +kernel, rfl, by decide +kernel, by decide +kernel⟩
theorem b_run {f : Addr} {fd : FuncData} (F : Fun K "run" "Program.run" m_run f fd) (T : Txt mg) (c_is_text : CalG P w K mg base CX0 1 "is_text" (spTest isT)) (c_puts_of : CalG P w K mg base (L2.CX P w) 5 "puts_of" (spPutsE (cls4 C_Once C_First C_Perhaps C_Every) C_AtOnce C_NoPlace C_Overlap)) (c_text_behind : CalG P w K mg base CX0 1 "text_behind" spBehind) (c_InvalidText : ClsI P w K mg base 1 "InvalidText" C_InvalidText ["value"]) (clP : Cls K C_Program) (npE : NoAttr K C_Program "_edits") : FnG P w K mg base (L2.CX P w) 6 f fd ["self", "text"] (spRun (cls4 C_Once C_First C_Perhaps C_Every) C_AtOnce C_Program C_NoPlace C_Overlap C_InvalidText) := by
  refine okG F sc_run (fun vs H Q E h => ?_) (fun cdv A outer s H vs Q E hg hr h => ?_)
  · obtain ⟨pr, es, v, d, rfl, _⟩ := h
    rfl
  · have hu := hu_of hr
    have hu64 := hr.units
    obtain ⟨pr, es, v, d, rfl, ⟨dx, q, xs, hpr, hq, eds⟩, th, r1, kT, kk⟩ := h
    have hlen := paired_len eds
    refine ⟨_, (pss_cons (ps_if (pt_not (pt_val (pe_cG c_is_text hg hr (by decide) pass0 (pa_cons (pv 1) pa_nil)))) (pss_one (ps_raise rfl (takes_of rfl rfl rfl rfl) (pmk_k c_InvalidText hg hr (by decide) pass0 (pa_cons (pv 1) pa_nil)))) pss_nil)
      (pss_cons (ps_for (passes_of rfl) rfl (pi_enumT (by rfl) T.enumerate (pa_cons (pe_fld (pv 0) rfl) pa_nil)) (pg_tup rfl (pgs_cons (pg_name (i := 2) sc_run.nd rfl (Or.inl rfl)) (pgs_cons (pg_name (i := 3) sc_run.nd rfl (Or.inl rfl)) pgs_nil))) (pss_one (ps_set (i := 1) sc_run.nd rfl (Or.inl rfl) (pe_cG c_text_behind hg hr (by decide) pass0 (pa_cons (pv 1) (pa_cons (pe_cG c_puts_of hg hr (by decide) (passes_call (takes_of rfl rfl rfl rfl) (fun _ _ _ _ h => h)) (pa_cons (pv 3) (pa_cons (pv 2) (pa_cons (pv 1) pa_nil)))) pa_nil))))))
      (pss_one (ps_ret (pv 1))))), ?_⟩
    refine ⟨_, rfl, v, d, rfl, th, r1, _, rfl, ?_⟩
    cases hT : isT d with
    | false => exact iteT ⟨_, rfl, rfl, fun dd hd => kT hT H dd Same.rfl hd⟩
    | true =>
    obtain ⟨x, rfl⟩ := isT_str hT
    cases th_str th
    obtain ⟨bnd, k1, k2, k3⟩ := kk x rfl hT
    refine iteF ?_
    refine ⟨_, rfl, pr, C_Program, dx, _, .ref q, rfl, hpr, clP, npE, fl_edits, q, xs, rfl, hq, fun i m σ H2 => m + i = xs.length ∧ ∃ y o3 o4, σ = [some (.ref pr), some (.str y), o3, o4] ∧ Same H H2 ∧ BndA (es.drop i) y ∧ runA es 0 x = runA (es.drop i) i y, ⟨xs.length, rfl, x, _, _, rfl, Same.rfl, bnd, rfl⟩, ?_⟩
    rintro i m σ H2 ⟨hm, y, o3, o4, rfl, s2, bd, er⟩
    by_cases hi : i < xs.length
    · obtain ⟨v, hv⟩ : ∃ v, xs[i]? = some v := ⟨xs[i], List.getElem?_eq_getElem hi⟩
      obtain ⟨e, he, a, rfl, hat⟩ := paired_at eds hv
      rw [drop_at he] at bd er
      obtain ⟨ok, b4⟩ := bd
      refine .inr ⟨⟨_, _, s2 _ _ hq, hv⟩, fun σ2 H3 => m - 1 + (i + 1) = xs.length ∧ ∃ y o3 o4, σ2 = [some (.ref pr), some (.str y), o3, o4] ∧ Same H H3 ∧ BndA (es.drop (i + 1)) y ∧ runA es 0 x = runA (es.drop (i + 1)) (i + 1) y, fun σ2 H3 p => ⟨m - 1, by omega, p⟩, ?_⟩
      rintro w H3 ⟨T, y2, xs2, rfl, hT2, rfl, hxs, hy⟩
      have e9 := (s2 _ _ hq).symm.trans hxs
      cases e9
      cases hv.symm.trans hy
      have s3 := s2.trans (same_new (o := .tup [.int (i : Nat), .ref a]) hT2)
      refine ⟨T, _, rfl, SqT.of upd_same, rfl, ?_⟩
      refine ⟨_, _, rfl, _, _, rfl, rfl, _, rfl, _, rfl, _, rfl, _, rfl, a, e, i, y, rfl, hat.keep s3, ok, fun m hw H4 d s4 hd => ?_, fun hw H4 d s4 hd => ?_, fun z hw l rows H4 s4 hl0 hl hr2 => ?_⟩
      · exact k1 i m (er.trans (runA_no hw)) H4 d (s3.trans s4) hd
      · exact k2 i (er.trans (runA_over hw)) H4 d (s3.trans s4) hd
      · refine ⟨y, l, rows, _, rfl, hl, hr2, ok.x8, fun p hp => (rowsE_n ok p hp).2, rowsE_len ok, fun H5 s5 => ?_⟩
        have ez := outE_txt hw
        subst ez
        exact ⟨by omega, _, _, _, rfl, (s3.trans s4).trans s5, b4 _ hw, er.trans (runA_txt hw)⟩
    · have e : i = xs.length := by omega
      refine .inl ⟨⟨_, s2 _ _ hq, e.symm⟩, ?_⟩
      rw [List.drop_of_length_le (by omega)] at er
      exact ⟨_, rfl, k3 y er _ s2⟩

end
end Vk
set_option Elab.async false
set_option maxRecDepth 100000
set_option linter.all false
set_option maxHeartbeats 4000000
namespace Vk
open PySem PySem.Spec PyProof.Rows L2 LamX NdefX StX
theorem cutS_list {x : Str} {k b : Nat} (h1 : k ≤ b) (h2 : b ≤ x.length) : (cutS x (some (k : Int)) (some (b : Int))).cps.toList = (x.cps.toList.drop k).take (b - k) := by
  unfold cutS
  rw [HT.sIx_nat, HT.sIx_nat, Nat.min_eq_left (Nat.le_trans h1 h2), Nat.min_eq_left h2]
theorem cutS_tail_list {x : Str} {k : Nat} (h : k ≤ x.length) : (cutS x (some (k : Int)) none).cps.toList = x.cps.toList.drop k := by
  unfold cutS
  rw [HT.sIx_nat, HT.sIx_none, Nat.min_eq_left h]
  exact List.take_of_length_le (by rw [List.length_drop]; exact Nat.le_of_eq (congrArg (· - k) Array.length_toList))
def partsE : EdM → List (Str × Str)
  | .one _ z1 z2 => [(z1, z2)]
  | .many ps => ps
end Vk
set_option Elab.async false
set_option maxRecDepth 100000
set_option maxHeartbeats 4000000
set_option linter.all false
namespace Vk
open PySem PySem.Spec PyProof.Rows L2
/-! ## x[::-1], x a text -/
theorem back_idx (n : Nat) : Builtin.Str.strSliceIndices none none (-1) n = (List.range n).reverse := by
  rw [← PySem.W.krv_range, ← PySem.W.krv_sliceRange]
  rfl
/-- read from the end -/
def backS (z : Str) : Str := ⟨z.cps.toList.reverse.toArray⟩
def tRevS (te : TE) : TE := fun σ H Q => te σ H fun x H1 => ∃ z, x = .str z ∧ z.length ≤ sizeLine ∧ Q (.str (backS z)) H1
theorem pe_revS {X : Cx} {e : Expr} {te : TE} {k : Nat} {p1 p2 p3 pos : Pos} (he : PE X e te) : PE X (.Subscript e (.Slice none none (some (.UnaryOp .USub (.Constant (.int 1) k p1) p2)) p3) pos) (tRevS te) := by
  refine ⟨fun pins s σ H Q I h => ?_⟩
  refine Subscript_ (thn (he.run pins s σ H _ I h) fun v s1 ⟨x, H1, I1, r1, q1⟩ => ?_)
  obtain ⟨z, rfl, hz, q⟩ := q1
  obtain ⟨t, rfl⟩ := r1
  have step : PO X (some (.UnaryOp .USub (.Constant (.int 1) k p1) p2)) (tPart (tUn (rU fun i => .int (-i)) (tC (.int 1)))) := po_some (pe_un un_neg pe_int)
  refine wpAny_Slice (thn (po_none.run pins s1 σ H1 (fun o H2 => o = none ∧ H2 = H1) I1 ⟨rfl, rfl⟩) fun vl s2 ⟨l, H2, I2, pl, el, e2⟩ => ?_)
  subst el e2
  refine thn (po_none.run pins s2 σ H2 (fun o H3 => o = none ∧ H3 = H2) I2 ⟨rfl, rfl⟩) fun vu s3 ⟨u, H3, I3, pu, eu, e3⟩ => ?_
  subst eu e3
  refine thn (step.run pins s3 σ H3 (fun o H4 => o = some (-1) ∧ H4 = H3) I3 ⟨1, rfl, -1, rfl, rfl, rfl⟩) fun vs s4 ⟨o, H4, I4, ps, eo, e4⟩ => ?_
  subst eo e4
  have I5 : Inv X pins σ H4 { s4 with heap := s4.heap.push { cls := .type "slice", data := .fields #[vl, vu, vs] } } := I4.kept (t' := s4.toks) fun b ob q => Heap.get?_push_of_some _ q
  obtain ⟨pl1, rfl, el⟩ := IsPart.raw pl
  obtain ⟨pu1, rfl, eu⟩ := IsPart.raw pu
  obtain ⟨ps1, rfl, es⟩ := IsPart.raw ps
  match pl1, pu1, ps1, el, eu, es with
  | none, none, some (m, tm), _, _, es =>
    have em : m = -1 := Option.some.inj es
    subst em
    refine tail_any (ops := [.str z t, .ref s4.heap.objs.size]) (typeIs_str _ _ _) F.slot_str_getitem.lookup ?_ (by with_unfolding_all rfl)
    refine wpAny_getItem_str_slice (l := none) (u := none) (st := some (-1, tm)) ⟨_, Heap.get?_push_size _ rfl, rfl, rfl⟩ rfl ?_
    have e : (⟨((Builtin.Str.strSliceIndices none none (-1) z.length).filterMap (z.cps[·]?)).toArray⟩ : Str) = backS z := by
      rw [back_idx, List.filterMap_reverse]
      unfold backS
      exact congrArg (fun l : List Nat => (⟨l.reverse.toArray⟩ : Str)) (PySem.W.krv_all z.cps)
    show Made.post (Made.str ⟨((Builtin.Str.strSliceIndices none none (-1) z.length).filterMap (z.cps[·]?)).toArray⟩) (EP X pins σ Q) _
    rw [e]
    have hl : (backS z).length ≤ sizeLine := by
      show (z.cps.toList.reverse.toArray).size ≤ sizeLine
      rw [List.size_toArray, List.length_reverse, Array.length_toList]
      exact hz
    exact ⟨hl, .str _, H4, I5.tok _, ⟨_, rfl⟩, q⟩
end Vk
set_option Elab.async false
set_option maxRecDepth 100000
set_option linter.all false
set_option maxHeartbeats 4000000
namespace Vk
open PySem PySem.Spec PyProof.Rows L2 LamX NdefX StX
/-! ## edits in a mirror -/
theorem backS_list (z : Str) : (backS z).cps.toList = z.cps.toList.reverse := by
  unfold backS
  rw [List.toList_toArray]
theorem backS_len (z : Str) : (backS z).length = z.length := by
  show (z.cps.toList.reverse.toArray).size = z.cps.size
  rw [List.size_toArray, List.length_reverse, Array.length_toList]
theorem str_eq {x y : Str} (h : x.cps.toList = y.cps.toList) : x = y := Str.ext' (Array.toList_inj.mp h)
theorem backS_back (z : Str) : backS (backS z) = z := str_eq (by rw [backS_list, backS_list, List.reverse_reverse])
theorem piece_back {X : List Nat} {n i m : Nat} (hn : X.length = n) (h : i + m ≤ n) : (X.reverse.drop (n - (i + m))).take m = ((X.drop i).take m).reverse := by
  apply List.ext_getElem
  · simp only [List.length_take, List.length_drop, List.length_reverse]
    omega
  · intro j h1 h2
    simp only [List.length_take, List.length_drop, List.length_reverse] at h1 h2
    simp only [List.getElem_take, List.getElem_drop, List.getElem_reverse, List.length_take, List.length_drop]
    congr 1
    omega
theorem at_lists {x w : Str} {i : Nat} : atB x w i = true ↔ i + w.length ≤ x.length ∧ (x.cps.toList.drop i).take w.length = w.cps.toList := by
  unfold atB
  rw [StrLaws.subAt_eq, Bool.and_eq_true, decide_eq_true_eq, beq_iff_eq]
theorem at_back {x w : Str} {i : Nat} (h : atB x w i = true) : atB (backS x) (backS w) (x.length - (i + w.length)) = true := by
  obtain ⟨h1, h2⟩ := at_lists.mp h
  have xl : x.cps.toList.length = x.length := Array.length_toList
  refine at_lists.mpr ⟨by rw [backS_len, backS_len]; omega, ?_⟩
  rw [backS_list, backS_list, backS_len, piece_back xl h1, h2]
theorem plc_mem {x w : Str} {i : Nat} : i ∈ plc x w ↔ atB x w i = true := by
  unfold plc
  rw [List.mem_filter, List.mem_range]
  refine ⟨fun h => h.2, fun h => ⟨?_, h⟩⟩
  have := (at_lists.mp h).1
  omega
theorem plc_nodup {x w : Str} : (plc x w).Nodup := List.nodup_range.filter _
theorem plc_back (x w : Str) : (plc (backS x) (backS w)).Perm ((plc x w).map fun i => x.length - (i + w.length)) := by
  refine (List.perm_ext_iff_of_nodup plc_nodup ?_).mpr fun j => ?_
  · refine List.pairwise_map.mpr (List.Pairwise.imp_of_mem (fun {a b} ha hb ne e => ne ?_) plc_nodup)
    have h1 := (at_lists.mp (plc_mem.mp ha)).1
    have h2 := (at_lists.mp (plc_mem.mp hb)).1
    omega
  · rw [List.mem_map]
    constructor
    · intro h
      have a := plc_mem.mp h
      have b := at_back a
      rw [backS_back, backS_back, backS_len, backS_len] at b
      have c := (at_lists.mp a).1
      rw [backS_len, backS_len] at c
      exact ⟨_, plc_mem.mpr b, by omega⟩
    · rintro ⟨i, hi, rfl⟩
      exact plc_mem.mpr (at_back (plc_mem.mp hi))
theorem plc_back_len (x w : Str) : (plc (backS x) (backS w)).length = (plc x w).length := by
  rw [(plc_back x w).length_eq, List.length_map]
theorem plc_back_one {x w : Str} {p : Nat} (h : plc x w = [p]) : plc (backS x) (backS w) = [x.length - (p + w.length)] := by
  have := plc_back x w
  rw [h] at this
  exact List.perm_singleton.mp this
/-- a row in the mirror of a text of n letters -/
def mirR (n : Nat) (r : Rw) : Rw := ⟨n - r.e, r.k, backS r.o, backS r.n⟩
theorem mirR_b {n : Nat} {r : Rw} : (mirR n r).b = n - r.e := rfl
theorem mirR_e {n : Nat} {r : Rw} (h : r.e ≤ n) : (mirR n r).e = n - r.b := by
  unfold mirR Rw.e
  rw [backS_len]
  unfold Rw.e at h
  show n - (r.b + r.o.length) + r.o.length = n - r.b
  omega
/-- letters of a text from k to e with the rows put in -/
def asmR (X : List Nat) : List Rw → Nat → Nat → List Nat
  | [], k, e => (X.drop k).take (e - k)
  | r :: R, k, e => (X.drop k).take (r.b - k) ++ r.n.cps.toList ++ asmR X R r.e e
theorem asmR_snoc {X : List Nat} {r : Rw} : ∀ {R : List Rw} {k e : Nat}, asmR X (R ++ [r]) k e = asmR X R k r.b ++ r.n.cps.toList ++ (X.drop r.e).take (e - r.e)
  | [], k, e => rfl
  | q :: R, k, e => by
    show (X.drop k).take (q.b - k) ++ q.n.cps.toList ++ asmR X (R ++ [r]) q.e e = (X.drop k).take (q.b - k) ++ q.n.cps.toList ++ asmR X R q.e r.b ++ _ ++ _
    rw [asmR_snoc]
    simp only [List.append_assoc]
theorem asmR_back {X : List Nat} {n : Nat} (hn : X.length = n) : ∀ {R : List Rw} {k : Nat}, Ch n k R → asmR X.reverse ((R.map (mirR n)).reverse) 0 (n - k) = (asmR X R k n).reverse
  | [], k, c => by
    have hk : k ≤ n := c
    show (X.reverse.drop 0).take (n - k - 0) = ((X.drop k).take (n - k)).reverse
    have := piece_back (i := k) (m := n - k) hn (by omega)
    rw [show n - (k + (n - k)) = 0 from by omega] at this
    rw [Nat.sub_zero]
    exact this
  | r :: R, k, c => by
    obtain ⟨c1, c2, c3⟩ := c
    have be : r.b ≤ r.e := Nat.le_add_right _ _
    rw [List.map_cons, List.reverse_cons, asmR_snoc, mirR_b, mirR_e c2, asmR_back hn c3]
    show _ = ((X.drop k).take (r.b - k) ++ r.n.cps.toList ++ asmR X R r.e n).reverse
    rw [List.reverse_append, List.reverse_append]
    have p := piece_back (i := k) (m := r.b - k) hn (by omega)
    rw [show n - (k + (r.b - k)) = n - r.b from by omega] at p
    rw [show n - k - (n - r.b) = r.b - k from by omega, p]
    show _ ++ (backS r.n).cps.toList ++ _ = _
    rw [backS_list, List.append_assoc]
theorem fold_asm {x : Str} : ∀ {R : List Rw} {k : Nat} {s : Str}, Ch x.length k R → (foldA x R k s).cps.toList = s.cps.toList ++ asmR x.cps.toList R k x.length
  | [], k, s, c => by
    have hk : k ≤ x.length := c
    have xl : x.cps.toList.length = x.length := Array.length_toList
    rw [foldA_nil, more_list, cutS_tail_list hk]
    show _ = _ ++ (x.cps.toList.drop k).take (x.length - k)
    rw [List.take_of_length_le (by rw [List.length_drop]; omega)]
  | r :: R, k, s, c => by
    obtain ⟨c1, c2, c3⟩ := c
    have be : r.b ≤ r.e := Nat.le_add_right _ _
    rw [foldA_cons, fold_asm c3, more_list, more_list, cutS_list c1 (by omega)]
    show _ = _ ++ ((x.cps.toList.drop k).take (r.b - k) ++ r.n.cps.toList ++ asmR x.cps.toList R r.e x.length)
    simp only [List.append_assoc]
def mirE : EdM → EdM
  | .one n z1 z2 => .one n (backS z1) (backS z2)
  | .many ps => .many (ps.map fun p => (backS p.1, backS p.2))
def Mirr : EdM → Prop
  | .one n _ _ => n = 0 ∨ n = 2
  | .many ps => ∀ p ∈ ps, 1 ≤ p.1.length
theorem mirE_mirE : ∀ e : EdM, mirE (mirE e) = e
  | .one n z1 z2 => by
    show EdM.one n (backS (backS z1)) (backS (backS z2)) = _
    rw [backS_back, backS_back]
  | .many ps => by
    show EdM.many ((ps.map fun p => (backS p.1, backS p.2)).map fun p => (backS p.1, backS p.2)) = _
    rw [List.map_map]
    congr 1
    refine (List.map_congr_left fun p _ => ?_).trans (List.map_id _)
    show (backS (backS p.1), backS (backS p.2)) = p
    rw [backS_back, backS_back]
theorem Mirr.mir {e : EdM} (h : Mirr e) : Mirr (mirE e) := by
  cases e with
  | one n z1 z2 => exact h
  | many ps =>
    intro p hp
    obtain ⟨q, hq, rfl⟩ := List.mem_map.mp hp
    show 1 ≤ (backS q.1).length
    rw [backS_len]
    exact h q hq
/-- the rows of the mirrored edit are those rows in the mirror -/
theorem fold_back {x : Str} {R : List Rw} (c : Ch x.length 0 R) (c2 : Ch x.length 0 ((R.map (mirR x.length)).reverse)) : foldA (backS x) ((R.map (mirR x.length)).reverse) 0 "" = backS (foldA x R 0 "") := by
  have e0 : (Str.ofString "").cps.toList = [] := by decide +kernel
  have xl : x.cps.toList.length = x.length := Array.length_toList
  refine str_eq ?_
  rw [backS_list, fold_asm c, fold_asm (by rw [backS_len]; exact c2), e0, List.nil_append, List.nil_append, backS_list, backS_len]
  have := asmR_back xl c
  rw [Nat.sub_zero] at this
  exact this
/-- rows one behind the other up to h, then more -/
theorem ch_snoc : ∀ {R : List Rw} {n k : Nat} {r : Rw}, Ch n k R → (∀ q ∈ R, q.e ≤ r.b) → k ≤ r.b → r.e ≤ n → Ch n k (R ++ [r])
  | [], n, k, r, c, _, h1, h2 => ⟨h1, h2, h2⟩
  | q :: R, n, k, r, ⟨c1, c2, c3⟩, h, h1, h2 => ⟨c1, c2, ch_snoc c3 (fun s hs => h s (List.mem_cons_of_mem _ hs)) (h q List.mem_cons_self) h2⟩
theorem ch_ge : ∀ {R : List Rw} {n k : Nat}, Ch n k R → ∀ r ∈ R, k ≤ r.b ∧ r.e ≤ n
  | [], _, _, _, r, h => absurd h List.not_mem_nil
  | q :: R, n, k, ⟨c1, c2, c3⟩, r, h => by
    rcases List.mem_cons.mp h with rfl | h
    · exact ⟨c1, c2⟩
    · have := ch_ge c3 r h
      have be : q.b ≤ q.e := Nat.le_add_right _ _
      exact ⟨by omega, this.2⟩
theorem ch_mir {n : Nat} : ∀ {R : List Rw} {k : Nat}, Ch n k R → Ch n 0 ((R.map (mirR n)).reverse)
  | [], _, _ => Nat.zero_le _
  | r :: R, k, ⟨c1, c2, c3⟩ => by
    rw [List.map_cons, List.reverse_cons]
    refine ch_snoc (ch_mir c3) (fun q hq => ?_) (Nat.zero_le _) (by rw [mirR_e c2]; omega)
    obtain ⟨s, hs, rfl⟩ := List.mem_map.mp (List.mem_reverse.mp hq)
    have := ch_ge c3 s hs
    rw [mirR_e this.2, mirR_b]
    omega
theorem rows_back {x : Str} : ∀ {ps : List (Str × Str)} {k : Nat}, (∀ p ∈ ps, (plc x p.1).length = 1) → rowsM (backS x) (ps.map fun p => (backS p.1, backS p.2)) k = (rowsM x ps k).map (mirR x.length)
  | [], k, _ => rfl
  | p :: r, k, h => by
    have hp := one_head (h p List.mem_cons_self)
    rw [List.map_cons, rowsM_cons, rowsM_cons, List.map_cons, rows_back fun q hq => h q (List.mem_cons_of_mem _ hq), plc_back_one hp]
    rfl
theorem wrong_back {x : Str} : ∀ {ps : List (Str × Str)}, wrongM (backS x) (ps.map fun p => (backS p.1, backS p.2)) = wrongM x ps
  | [] => rfl
  | p :: r => by
    rw [List.map_cons, wrongM_cons, wrongM_cons, wrong_back]
    show (if (plc (backS x) (backS p.1)).length = 1 then _ else some (plc (backS x) (backS p.1)).length) = _
    rw [plc_back_len]
theorem far_le : ∀ {R : List Rw}, (R.Pairwise fun a c => a.e ≤ c.b) → overl R = false
  | [], _ => rfl
  | [a], _ => rfl
  | a :: c :: r, h => by
    have h1 := (List.pairwise_cons.mp h).1 c List.mem_cons_self
    rw [overl_cons, decide_eq_false (by omega), Bool.false_or]
    exact far_le (List.pairwise_cons.mp h).2
theorem ch_far : ∀ {R : List Rw} {n k : Nat}, Ch n k R → R.Pairwise fun a c => a.e ≤ c.b
  | [], _, _, _ => .nil
  | q :: R, n, k, ⟨c1, c2, c3⟩ => List.pairwise_cons.mpr ⟨fun r hr => (ch_ge c3 r hr).1, ch_far c3⟩
theorem out_back {x y : Str} {e : EdM} (m : Mirr e) (h : outE x e = .txt y) : outE (backS x) (mirE e) = .txt (backS y) := by
  have cr := ch_rows h
  have ey := outE_txt h
  cases e with
  | one n z1 z2 =>
    have hf : fitsM n (plc x z1).length = true := by
      cases q : fitsM n (plc x z1).length with
      | true => rfl
      | false =>
        rw [outE_not q] at h
        cases h
    have l1 : (plc x z1).length ≤ 1 := by
      rcases (m : n = 0 ∨ n = 2) with rfl | rfl
      · have : decide ((plc x z1).length = 1) = true := hf
        have := of_decide_eq_true this
        omega
      · have : decide ((plc x z1).length < 2) = true := hf
        have := of_decide_eq_true this
        omega
    have hf2 : fitsM n (plc (backS x) (backS z1)).length = true := by rw [plc_back_len]; exact hf
    show outE (backS x) (.one n (backS z1) (backS z2)) = _
    rw [outE_yes hf2]
    have rows : rowsE (backS x) (.one n (backS z1) (backS z2)) = ((rowsE x (.one n z1 z2)).map (mirR x.length)).reverse := by
      have n1 : n ≠ 1 := by
        rcases (m : n = 0 ∨ n = 2) with rfl | rfl <;> decide
      show (spotsM n (backS z1).length (plc (backS x) (backS z1))).map (mkR (backS z1) (backS z2)) = (((spotsM n z1.length (plc x z1)).map (mkR z1 z2)).map (mirR x.length)).reverse
      unfold spotsM
      rw [if_neg n1, if_neg n1, apart_one l1, apart_one (by rw [plc_back_len]; exact l1)]
      match hp : plc x z1, l1 with
      | [], _ =>
        have : plc (backS x) (backS z1) = [] := List.length_eq_zero_iff.mp (by rw [plc_back_len, hp]; rfl)
        rw [this]
        rfl
      | [p], _ =>
        rw [plc_back_one hp]
        rfl
      | _ :: _ :: _, l => exact absurd l (by rw [List.length_cons, List.length_cons]; omega)
    rw [rows, fold_back cr (ch_mir cr), ← ey]
  | many ps =>
    have h2 : outM x ps = .txt y := h
    have hw : wrongM x ps = none := by
      cases q : wrongM x ps with
      | none => rfl
      | some k =>
        rw [outM_no q] at h2
        cases h2
    have ho : overl (ordM (rowsM x ps 0)) = false := by
      cases q : overl (ordM (rowsM x ps 0)) with
      | false => rfl
      | true =>
        rw [outM_over hw q] at h2
        cases h2
    have one := wrong_all hw
    have rb := rows_back (k := 0) one
    have cr2 : Ch x.length 0 (ordM (rowsM x ps 0)) := cr
    have cm := ch_mir cr2
    have o1 : ∀ r ∈ rowsM x ps 0, 1 ≤ r.o.length := fun r hr => (m : ∀ p ∈ ps, 1 ≤ p.1.length) _ (rowsM_mem hr).2.1
    have os : overl (((ordM (rowsM x ps 0)).map (mirR x.length)).reverse) = false := far_le (ch_far cm)
    have os1 : ∀ r ∈ ((ordM (rowsM x ps 0)).map (mirR x.length)).reverse, 1 ≤ r.o.length := fun r hr => by
      obtain ⟨s, hs, rfl⟩ := List.mem_map.mp (List.mem_reverse.mp hr)
      show 1 ≤ (backS s.o).length
      rw [backS_len]
      exact o1 s ((ordM_perm _).mem_iff.mp hs)
    have perm : (((ordM (rowsM x ps 0)).map (mirR x.length)).reverse).Perm (ordM ((rowsM x ps 0).map (mirR x.length))) := (List.reverse_perm _).trans (((ordM_perm _).map _).trans (ordM_perm _).symm)
    have same := strict_uniq perm (overl_strict os1 os) (ordM_le _)
    show outM (backS x) (ps.map fun p => (backS p.1, backS p.2)) = _
    have hw2 : wrongM (backS x) (ps.map fun p => (backS p.1, backS p.2)) = none := wrong_back.trans hw
    rw [outM_txt hw2 (by rw [rb, ← same]; exact os), rb, ← same, fold_back cr2 cm]
    rw [outM_txt hw ho] at h2
    cases h2
    rfl
/-- several edits -/
theorem run_back : ∀ {es : List EdM} {i : Nat} {x y : Str}, (∀ e ∈ es, Mirr e) → runA es i x = .txt y → runA (es.map mirE) i (backS x) = .txt (backS y)
  | [], i, x, y, _, h => by
    cases (show OutR.txt x = .txt y from h)
    rfl
  | e :: r, i, x, y, m, h => by
    cases o : outE x e with
    | txt z =>
      rw [runA_txt o] at h
      rw [List.map_cons, runA_txt (out_back (m e List.mem_cons_self) o)]
      exact run_back (fun e he => m e (List.mem_cons_of_mem _ he)) h
    | no k => rw [runA_no o] at h; cases h
    | over => rw [runA_over o] at h; cases h
theorem run_back_iff {es : List EdM} {i : Nat} {x y : Str} (m : ∀ e ∈ es, Mirr e) : runA es i x = .txt y ↔ runA (es.map mirE) i (backS x) = .txt (backS y) := by
  refine ⟨run_back m, fun h => ?_⟩
  have := run_back (fun e he => by
    obtain ⟨q, hq, rfl⟩ := List.mem_map.mp he
    exact (m q hq).mir) h
  rw [List.map_map, backS_back, backS_back] at this
  have e1 : es.map (mirE ∘ mirE) = es := (List.map_congr_left fun e _ => mirE_mirE e).trans (List.map_id _)
  rw [e1] at this
  exact this
end Vk
set_option Elab.async false
set_option maxRecDepth 100000
set_option maxHeartbeats 4000000
set_option linter.all false
namespace Vk
open PySem PySem.Spec PyProof.Rows L2 StX
section
variable {X : Cx} {CX : CXT} {k j : Nat} {C f : Addr} {sp : Sp} {E : XK} {x m : Str} {p pos apos sp_ : Pos} {o e : Expr} {es : List Expr} {ta te : TE} {t : TA}
/-- C(*e), e a list or a tuple -/
def tStarS (K : PySem.W.Frag) (C : Addr) (sp : Sp) (E : XK) (te : TE) : TE := fun σ H Q => te σ H fun y H1 => ∃ a xs, y = V.ref a ∧ (SqT K H1 a xs ∨ SqL K H1 a xs) ∧ Born C sp xs H1 Q E
theorem pe_starS (M : L2.Mk X.K C f) (F : FnRG X.prog X.w X.K X.mg X.base CX k f sp) (hg : X.A.guards = some []) (hr : Room j X.A) (hk : k + 1 ≤ j) (hm : X.mg x = some (.ref C)) (hx : Passes CX X E) (he : PE X e te) (gl : Gl X x := by rfl) (hdb : (x == ("__debug__" : Str)) = false := by decide)
    (hst : starEach [.Starred e sp_] X.env = [(true, eval e X.env)] := by rfl) : PE X (.Call (.Name x p) [.Starred e sp_] [] pos) (tStarS X.K C sp E te) := by
  refine ⟨fun pins s σ H Q I h => wpAny_Call_Name_kw (ld_glob I gl hm ?_ hdb)⟩
  refine PySem.W.callWith_S (h₀ := X.base) I.ok.mod.kin M.kp (thn (he.run pins s σ H _ I h) fun v s1 hh => ?_) hst
  obtain ⟨y, H1, I1, ry, a, xs, rfl, hxs, q⟩ := hh
  cases (show v = Value.ref a from ry)
  exact star_any I1 hxs fun us s2 I2 rv => ⟨I2.kIn, star_run M F hg (hr.mono hk) hx I2 rv q⟩
/-- a method with a star -/
structure MthR (P : Program) (w : World) (K : PySem.W.Frag) (mg : Str → Option Value) (base : Heap) (CX : CXT) (k : Nat) (C : Addr) (m : Str) (sp : Sp) : Prop where
  ex : ∃ f : Addr, Meth K C m f ∧ FnRG P w K mg base CX k f sp
/-- len(o), o of a class with an own __len__ -/
structure LenI (P : Program) (w : World) (K : PySem.W.Frag) (mg : Str → Option Value) (base : Heap) (k : Nat) (C : Addr) (sp : Sp) : Prop where
  ex : ∃ (f : Addr) (fd : FuncData), PySem.W.findIn K (.ref C) "__len__" = some (some (.ref f)) ∧ PySem.W.isFn K (.ref f) = true ∧ FnOk P w K mg base CX0 k f fd ["self"] sp ∧ Binds K fd ["self"] []
end
end Vk
set_option Elab.async false
set_option maxRecDepth 100000
set_option linter.all false
set_option maxHeartbeats 4000000
namespace Vk
open PySem PySem.Spec PyProof.Rows L2 LamX NdefX StX
section
variable {P : Program} {w : World} {K : PySem.W.Frag} {mg : Str → Option Value} {base : Heap}
variable {C_Once C_First C_Perhaps C_Every C_AtOnce C_Edit C_Program C_NoPlace C_Overlap C_InvalidText : Addr}
def Prts (H : Hp) : List V → List (Str × Str) → Prop := Paired fun v (q : Str × Str) => ∃ t, v = V.ref t ∧ H t = some (.tup [.str q.1, .str q.2])
def spPof (Cs : Nat → Addr) (Ca : Addr) : Sp := fun vs H Q _ => ∃ a e, vs = [.ref a] ∧ IsEd Cs Ca H a e ∧ ∀ t xs H', Same H H' → H' t = some (.tup xs) → Prts H' xs (partsE e) → Q (.ref t) H'
abbrev s_parts_of : Stmt := top 31
theorem sc_parts_of : FnScope ["edit"] ["edit"] (defScope s_parts_of) := ⟨rfl, rfl, rfl, by decide +kernel, rfl, by decide +kernel, by decide +kernel⟩
theorem b_parts_of {f : Addr} {fd : FuncData} (F : Fun K "parts_of" "parts_of" s_parts_of f fd) (T : Txt mg) (n_AtOnce : mg "AtOnce" = some (.ref C_AtOnce)) (edA : EdF K C_AtOnce) (ed : ∀ n, n < 4 → EdF K (cls4 C_Once C_First C_Perhaps C_Every n)) (kA : PySem.W.kitOne K (.ref C_AtOnce) (.ref C_AtOnce) = some true) (kA4 : ∀ n, n < 4 → PySem.W.kitOne K (.ref (cls4 C_Once C_First C_Perhaps C_Every n)) (.ref C_AtOnce) = some false) (pr_parts : ∀ n, n < 1 → PrI P w K mg base 1 ((fun _ => C_AtOnce) n) "parts" "_parts") (h_old : ∀ n, n < 4 → PrI P w K mg base 1 (cls4 C_Once C_First C_Perhaps C_Every n) "old" "_old") (h_new : ∀ n, n < 4 → PrI P w K mg base 1 (cls4 C_Once C_First C_Perhaps C_Every n) "new" "_new") : FnG P w K mg base CX0 3 f fd ["edit"] (spPof (cls4 C_Once C_First C_Perhaps C_Every) C_AtOnce) := by
  refine okG0 F sc_parts_of (fun vs H Q E h => ?_) (fun cdv A outer s H vs Q E hg hr h => ?_)
  · obtain ⟨a, e, rfl, _⟩ := h
    rfl
  · have hu := hu_of hr
    obtain ⟨a, e, rfl, ie, k⟩ := h
    refine ⟨_, (pss_cons (ps_if (pt_val (pe_callB call_isi (by rfl) T.isinstance (by decide +kernel) (pa_cons (pv 0) (pa_cons (pe_glob (v := .ref C_AtOnce) (by rfl) n_AtOnce rfl) pa_nil)))) (pss_one (ps_ret (pe_propN (pv 0) pr_parts hr (by decide)))) pss_nil)
      (pss_one (ps_ret (pe_tup (pa_cons (pe_tup (pa_cons (pe_propN (pv 0) h_old hr (by decide)) (pa_cons (pe_propN (pv 0) h_new hr (by decide)) pa_nil))) pa_nil))))), ?_⟩
    match e, ie, k with
    | .one n z1 z2, ⟨hn, dx, ha⟩, k =>
      refine ⟨_, rfl, .ref a, .ref C_AtOnce, _, .ref C_AtOnce, false, rfl, .own _, (ed n hn).ty ha, kA4 n hn, _, rfl, iteF ?_⟩
      refine ⟨_, rfl, n, a, dx, _, .str z1, hn, rfl, ha, rfl, _, rfl, n, a, dx, _, .str z2, hn, rfl, ha, rfl, few_len (Nat.le_of_ble_eq_true rfl), fun t1 ht1 => ⟨few_len (Nat.le_of_ble_eq_true rfl), fun t2 ht2 => ?_⟩⟩
      have s1 := same_new (o := .tup [.str z1, .str z2]) ht1
      have s2 := same_new (o := .tup [.ref t1]) ht2
      exact k t2 _ _ (s1.trans s2) upd_same (.cons ⟨t1, rfl, s2 _ _ upd_same⟩ .nil)
    | .many ps, ⟨dx, q, ha, xs, hq, pr⟩, k =>
      refine ⟨_, rfl, .ref a, .ref C_AtOnce, _, .ref C_AtOnce, true, rfl, .own _, edA.ty ha, kA, _, rfl, iteT ?_⟩
      exact ⟨_, rfl, 0, a, dx, _, .ref q, by decide, rfl, ha, fl_parts, k q xs _ Same.rfl hq pr⟩
end
end Vk
set_option Elab.async false
set_option maxRecDepth 100000
set_option linter.all false
set_option maxHeartbeats 4000000
namespace Vk
open PySem PySem.Spec PyProof.Rows L2 LamX NdefX StX
section
variable {P : Program} {w : World} {K : PySem.W.Frag} {mg : Str → Option Value} {base : Heap}
variable {C_Once C_First C_Perhaps C_Every C_AtOnce C_Edit C_Program C_NoPlace C_Overlap C_InvalidText C_InvalidOld C_InvalidNew C_InvalidPart C_TooMany C_NoMirror fA : Addr}
theorem isT_back {z : Str} : isT (.str (backS z)) = isT (.str z) := by
  rw [isT_all, isT_all, backS_list, List.all_reverse]
theorem isNew_back {z : Str} (h : isNew (.str z) = true) : isNew (.str (backS z)) = true := by
  have hT : isT (.str z) = true := by
    unfold isNew at h
    rw [Bool.and_eq_true] at h
    exact h.1
  rw [isNew_eq hT] at h
  rw [isNew_eq (isT_back.trans hT), backS_len]
  exact h
theorem isOld_back {z : Str} (h : isOld (.str z) = true) : isOld (.str (backS z)) = true := by
  have hN : isNew (.str z) = true := by
    unfold isOld at h
    rw [Bool.and_eq_true] at h
    exact h.1
  have hT : isT (.str z) = true := by
    unfold isNew at hN
    rw [Bool.and_eq_true] at hN
    exact hN.1
  rw [isOld_eq hT] at h
  rw [isOld_eq (isT_back.trans hT), backS_len]
  exact h
theorem srt_back {z : Str} (h : Srt (.str z)) : Srt (.str (backS z)) := by
  refine ⟨by rw [backS_len]; exact h.1, ?_⟩
  have a := h.2
  have e1 : z.cps.all (· < 0x110000) = true := a
  show (backS z).cps.all (· < 0x110000) = true
  rw [Array.all_eq_true_iff_forall_mem] at e1 ⊢
  intro c hc
  have : c ∈ (backS z).cps.toList := by simpa using hc
  rw [backS_list, List.mem_reverse] at this
  exact e1 c (by simpa using this)
theorem Wds.mir {e : EdM} (h : Wds e) : Wds (mirE e) := by
  cases e with
  | one n z1 z2 => exact ⟨isOld_back h.1, isNew_back h.2.1, srt_back h.2.2.1, srt_back h.2.2.2⟩
  | many ps =>
    refine ⟨fun p hp => ?_, by rw [List.length_map]; exact h.len, ?_⟩
    · obtain ⟨q, hq, rfl⟩ := List.mem_map.mp hp
      obtain ⟨a, b, c, d⟩ := h.ok q hq
      exact ⟨isOld_back a, isNew_back b, srt_back c, srt_back d⟩
    · rw [List.map_map]
      have := h.nd
      have e1 : ps.map ((fun p : Str × Str => p.1) ∘ fun p => (backS p.1, backS p.2)) = (ps.map (·.1)).map backS := by rw [List.map_map]; rfl
      rw [e1]
      exact List.pairwise_map.mpr (this.imp fun ne e => ne (by
        have := congrArg backS e
        rwa [backS_back, backS_back] at this))
/-- whether it has a mirror -/
def noMir : EdM → Bool
  | .one n _ _ => n == 1 || n == 3
  | .many _ => false
def spMir (Cs : Nat → Addr) (Ca CM : Addr) : Sp := fun vs H Q E => ∃ a i e, vs = [.ref a, .int (i : Nat)] ∧ IsEd Cs Ca H a e ∧ Wds e ∧
  (noMir e = true → ∀ H1 d, Same H H1 → H1 d = none → E (.ref CM) (some d) (upd H1 d (.xd [(("index" : Str), .int (i : Nat))]))) ∧ (noMir e = false → ∀ b H', Same H H' → IsEd Cs Ca H' b (mirE e) → Q (.ref b) H')
abbrev s_mirrored_edit : Stmt := top 41
theorem sc_mirrored_edit : FnScope ["edit", "index", "parts", "old", "new"] ["edit", "index"] (defScope s_mirrored_edit) := ⟨rfl, rfl, rfl, by decide +kernel, rfl, by decide +kernel, by decide +kernel⟩
theorem b_mirrored_edit {f : Addr} {fd : FuncData} (F : Fun K "mirrored_edit" "mirrored_edit" s_mirrored_edit f fd) (T : Txt mg) (n_First : mg "First" = some (.ref C_First)) (n_Every : mg "Every" = some (.ref C_Every)) (n_Perhaps : mg "Perhaps" = some (.ref C_Perhaps)) (n_AtOnce : mg "AtOnce" = some (.ref C_AtOnce)) (edA : EdF K C_AtOnce) (ed : ∀ n, n < 4 → EdF K (cls4 C_Once C_First C_Perhaps C_Every n)) (kA : PySem.W.kitOne K (.ref C_AtOnce) (.ref C_AtOnce) = some true) (kA4 : ∀ n, n < 4 → PySem.W.kitOne K (.ref (cls4 C_Once C_First C_Perhaps C_Every n)) (.ref C_AtOnce) = some false) (kFE : ∀ n, n < 4 → PySem.W.kitAny K (.ref (cls4 C_Once C_First C_Perhaps C_Every n)) [.ref C_First, .ref C_Every] = some (n == 1 || n == 3)) (kFEA : PySem.W.kitAny K (.ref C_AtOnce) [.ref C_First, .ref C_Every] = some false)
    (kit : ∀ i j, i < 4 → j < 4 → PySem.W.kitOne K (.ref (cls4 C_Once C_First C_Perhaps C_Every i)) (.ref (cls4 C_Once C_First C_Perhaps C_Every j)) = some (i == j)) (pr_parts : ∀ n, n < 1 → PrI P w K mg base 1 ((fun _ => C_AtOnce) n) "parts" "_parts") (h_old : ∀ n, n < 4 → PrI P w K mg base 1 (cls4 C_Once C_First C_Perhaps C_Every n) "old" "_old") (h_new : ∀ n, n < 4 → PrI P w K mg base 1 (cls4 C_Once C_First C_Perhaps C_Every n) "new" "_new") (c_NoMirror : ClsI P w K mg base 1 "NoMirror" C_NoMirror ["index"])
    (mk_Once : MakI P w K mg base (L2.CX P w) 5 "Once" C_Once ["old", "new"] (spEdit C_Once C_InvalidOld C_InvalidNew)) (mk_Perhaps : MakI P w K mg base (L2.CX P w) 5 "Perhaps" C_Perhaps ["old", "new"] (spEdit C_Perhaps C_InvalidOld C_InvalidNew)) (MA : L2.Mk K C_AtOnce fA) (FA : FnRG P w K mg base (L2.CX P w) 6 fA (spAt C_AtOnce C_InvalidPart C_TooMany)) : FnG P w K mg base (L2.CX P w) 8 f fd ["edit", "index"] (spMir (cls4 C_Once C_First C_Perhaps C_Every) C_AtOnce C_NoMirror) := by
  refine okG F sc_mirrored_edit (fun vs H Q E h => ?_) (fun cdv A outer s H vs Q E hg hr h => ?_)
  · obtain ⟨a, i, e, rfl, _⟩ := h
    rfl
  · have hu := hu_of hr
    have hu64 := hr.units
    obtain ⟨a, i, e, rfl, ie, wd, k1, k2⟩ := h
    refine ⟨_, (pss_cons (ps_if (pt_val (pe_callB call_isiT (by rfl) T.isinstance (by decide +kernel) (pa_cons (pv 0) (pa_cons (pe_tup (pa_cons (pe_glob (v := .ref C_First) (by rfl) n_First rfl) (pa_cons (pe_glob (v := .ref C_Every) (by rfl) n_Every rfl) pa_nil))) pa_nil)))) (pss_one (ps_raise rfl (takes_of rfl rfl rfl rfl) (pmk_k c_NoMirror hg hr (by decide) pass0 (pa_cons (pv 1) pa_nil)))) pss_nil)
      (pss_cons (ps_if (pt_val (pe_callB call_isi (by rfl) T.isinstance (by decide +kernel) (pa_cons (pv 0) (pa_cons (pe_glob (v := .ref C_AtOnce) (by rfl) n_AtOnce rfl) pa_nil)))) (pss_cons (ps_setLc (i := 2) (own := [("old", 3), ("new", 4)]) (g := (gTup K 2 (gCons (gName 3) (gCons (gName 4) gNil)))) (tt := tYes) rfl sc_mirrored_edit.nd rfl rfl (sw_true rfl rfl rfl (by decide +kernel)) (pi_tup (pe_propN (pv 0) pr_parts hr (by decide))) (blkOk_by (own := [("old", 3), ("new", 4)]) (N := ["edit", "index", "parts", "old", "new"]) (sc := defScope s_mirrored_edit) (by decide +kernel)) (fun _ _ _ _ _ => (pg_tupK (K := K) (n := 2) rfl rfl (pgs_cons (pg_name (i := 3) sc_mirrored_edit.nd rfl (Or.inl rfl)) (pgs_cons (pg_name (i := 4) sc_mirrored_edit.nd rfl (Or.inl rfl)) pgs_nil)))) (fun _ _ _ _ _ => pts_nil) (fun _ _ _ _ _ => (pe_tup (pa_cons (pe_revS (pv 3)) (pa_cons (pe_revS (pv 4)) pa_nil))))) (pss_one (ps_ret (pe_starS MA FA hg hr (by decide) n_AtOnce passesF (pv 2))))) pss_nil)
      (pss_cons (ps_if (pt_val (pe_callB call_isi (by rfl) T.isinstance (by decide +kernel) (pa_cons (pv 0) (pa_cons (pe_glob (v := .ref C_Perhaps) (by rfl) n_Perhaps rfl) pa_nil)))) (pss_one (ps_ret (pe_ins mk_Perhaps hg hr (by decide) passesF (pa_cons (pe_revS (pe_propN (pv 0) h_old hr (by decide))) (pa_cons (pe_revS (pe_propN (pv 0) h_new hr (by decide))) pa_nil))))) pss_nil)
      (pss_one (ps_ret (pe_ins mk_Once hg hr (by decide) passesF (pa_cons (pe_revS (pe_propN (pv 0) h_old hr (by decide))) (pa_cons (pe_revS (pe_propN (pv 0) h_new hr (by decide))) pa_nil)))))))), ?_⟩
    refine ⟨_, rfl, few_len (Nat.le_of_ble_eq_true rfl), fun t ht => ?_⟩
    have s1 := same_new (o := .tup [.ref C_First, .ref C_Every]) ht
    have ht1 : (upd H t (.tup [.ref C_First, .ref C_Every])) t = some (.tup [.ref C_First, .ref C_Every]) := upd_same
    generalize upd H t (.tup [.ref C_First, .ref C_Every]) = H1 at s1 ht1 ⊢
    have wm := wd.mir
    match e, ie, wd, wm, k1, k2 with
    | .one n z1 z2, ⟨hn, dx, ha⟩, wd, wm, k1, k2 =>
      have ha1 := s1 _ _ ha
      have ty := (ed n hn).ty ha1
      have lens : z1.length ≤ 1000 ∧ z2.length ≤ 1000 := ⟨wd.2.2.1.1, wd.2.2.2.1⟩
      refine ⟨.ref a, t, _, _, _, _, rfl, ht1, .cons (.own _) (.cons (.own _) .nil), ty, kFE n hn, _, rfl, ?_⟩
      have tail : noMir (.one n z1 z2) = false → (n = 0 ∨ n = 2) := fun q => by
        have q2 : (n == 1 || n == 3) = false := q
        rw [Bool.or_eq_false_iff] at q2
        have a := beq_eq_false_iff_ne.mp q2.1
        have b := beq_eq_false_iff_ne.mp q2.2
        omega
      cases hm : (n == 1 || n == 3) with
      | true => exact iteT ⟨_, rfl, rfl, fun d hd => k1 hm _ d s1 hd⟩
      | false =>
        refine iteF ⟨_, rfl, .ref a, .ref C_AtOnce, _, .ref C_AtOnce, false, rfl, .own _, ty, kA4 n hn, _, rfl, iteF ?_⟩
        rcases tail hm with rfl | rfl
        · refine ⟨_, rfl, .ref a, .ref C_Perhaps, _, .ref C_Perhaps, _, rfl, .own _, ty, kit 0 2 hn (by decide), _, rfl, iteF ?_⟩
          refine ⟨_, rfl, 0, a, dx, _, .str z1, hn, rfl, ha1, rfl, z1, rfl, few_len lens.1, _, rfl, 0, a, dx, _, .str z2, hn, rfl, ha1, rfl, z2, rfl, few_len lens.2, rfl, ?_⟩
          exact born_one (C := C_Once) wm.1 wm.2.1 wm.2.2.1 wm.2.2.2 fun b dy H' s hb => k2 hm b H' (s1.trans s) ⟨hn, dy, hb⟩
        · refine ⟨_, rfl, .ref a, .ref C_Perhaps, _, .ref C_Perhaps, _, rfl, .own _, ty, kit 2 2 hn (by decide), _, rfl, iteT ?_⟩
          refine ⟨_, rfl, 2, a, dx, _, .str z1, hn, rfl, ha1, rfl, z1, rfl, few_len lens.1, _, rfl, 2, a, dx, _, .str z2, hn, rfl, ha1, rfl, z2, rfl, few_len lens.2, rfl, ?_⟩
          exact born_one (C := C_Perhaps) wm.1 wm.2.1 wm.2.2.1 wm.2.2.2 fun b dy H' s hb => k2 hm b H' (s1.trans s) ⟨hn, dy, hb⟩
    | .many ps, ⟨dx, q, ha, xs, hq, pr⟩, wd, wm, k1, k2 =>
      have ha1 := s1 _ _ ha
      have hq1 := s1 _ _ hq
      have pl := paired_len pr
      have l3 := wd.len
      refine ⟨.ref a, t, _, _, _, _, rfl, ht1, .cons (.own _) (.cons (.own _) .nil), edA.ty ha1, kFEA, _, rfl, iteF ?_⟩
      refine ⟨_, rfl, .ref a, .ref C_AtOnce, _, .ref C_AtOnce, true, rfl, .own _, edA.ty ha1, kA, _, rfl, iteT ?_⟩
      refine ⟨_, rfl, 0, a, dx, _, .ref q, by decide, rfl, ha1, fl_parts, q, rfl, ⟨_, SqT.of hq1⟩, fun D hD => ?_⟩
      refine lc_tup (K := K) (a := q) (xs := xs) (fun j H' => Same H1 H' ∧ ∃ ys, H' D = some (.lst ys) ∧ Prts H' ys ((ps.take j).map fun p => (backS p.1, backS p.2))) ⟨same_new hD, [], upd_same, .nil⟩ (fun j H' _ z => SqT.of (z.1 _ _ hq1)) (fun j u H' hu' z => ?_) (fun H' z => ?_)
      · obtain ⟨sm, ys, hy, py⟩ := z
        obtain ⟨p, hp, t3, rfl, ht3⟩ := paired_at pr hu'
        obtain ⟨w1, w2, w3, w4⟩ := wd.ok p (List.mem_of_getElem? hp)
        have yl := paired_len py
        rw [List.length_map, List.length_take] at yl
        refine ⟨t3, _, rfl, SqT.of (sm _ _ (s1 _ _ ht3)), rfl, _, _, rfl, _, _, rfl, rfl, ?_⟩
        refine ⟨rfl, ?_⟩
        dsimp only [tYes]
        rw [if_pos rfl]
        refine ⟨_, rfl, p.1, rfl, few_len w3.1, _, rfl, p.2, rfl, few_len w4.1, few_len (Nat.le_of_ble_eq_true rfl), fun t4 ht4 => ?_⟩
        have s4 := same_new (o := .tup [.str (backS p.1), .str (backS p.2)]) ht4
        have n4 : t4 ≠ D := (ne_of_none hy ht4).symm
        have un : ∀ {u : Addr} {ws : List V}, H' u = some (.tup ws) → (upd (upd H' t4 (.tup [.str (backS p.1), .str (backS p.2)])) D (.lst (ys ++ [.ref t4]))) u = some (.tup ws) := fun h => by
          rw [upd_ne (fun e => by rw [e, hy] at h; cases h)]
          exact s4 _ _ h
        refine ⟨ys, s4 _ _ hy, few_lt (by omega), fun b o h => ?_, ys ++ [.ref t4], upd_same, ?_⟩
        · rw [upd_ne (ne_of_none h hD)]
          exact s4 _ _ (sm _ _ h)
        · have tk : ps.take (j + 1) = ps.take j ++ [p] := by
            rw [List.take_add_one, hp]
            rfl
          rw [tk, List.map_append]
          refine paired_app2 (paired_impl (fun v r ⟨t, e, h⟩ => ⟨t, e, un h⟩) py) ⟨t4, rfl, ?_⟩
          rw [upd_ne n4]
          exact upd_same
      · obtain ⟨sm, ys, hy, py⟩ := z
        rw [List.take_of_length_le (by omega)] at py
        refine ⟨_, rfl, D, ys, rfl, .inr (SqL.of hy), ?_⟩
        exact born_at (parts_th py) wm.el (by rw [List.length_map, List.length_map]; omega) (at_ok wm.good fun b dy r H2 s2 hb hr2 => k2 rfl b H2 ((s1.trans sm).trans s2) ⟨dy, r, hb, parts_back py s2 hr2⟩)
end
end Vk
set_option Elab.async false
set_option maxRecDepth 100000
set_option linter.all false
set_option maxHeartbeats 4000000
namespace Vk
open PySem PySem.Spec PyProof.Rows L2 LamX NdefX StX
section
variable {P : Program} {w : World} {K : PySem.W.Frag} {mg : Str → Option Value} {base : Heap}
variable {C_Once C_First C_Perhaps C_Every C_AtOnce C_Edit C_Program C_NoPlace C_Overlap C_InvalidText C_InvalidOld C_InvalidNew C_InvalidPart C_TooMany C_NoMirror fA fP : Addr}
abbrev m_NoMirror : Stmt := mtd (top 7) 0
theorem sc_NoMirror : FnScope ["self", "index"] ["self", "index"] (defScope m_NoMirror) := ⟨rfl, rfl, rfl, by decide +kernel, rfl, by decide +kernel, by decide +kernel⟩
theorem b_NoMirror {f C : Addr} {fd : FuncData} (F : Fun K "__init__" "NoMirror.__init__" m_NoMirror f fd) (T : OexK K C) (no : ∀ f ∈ (["index"] : List Str), PySem.W.findIn K (.ref C) f = some none) : FnG P w K mg base CX0 1 f fd ["self", "index"] (spIni C ["index"]) := by
  refine okG0 F sc_NoMirror (fun vs H Q E h => ?_) (fun cdv A outer s H vs Q E hg hr h => ?_)
  · obtain ⟨a, ws, rfl, hl, _⟩ := h
    rw [List.length_cons, hl]
    rfl
  · obtain ⟨a, ws, rfl, hl, ha, k0, k⟩ := h
    match ws, hl with
    | [y], _ => exact ⟨_, (pss_one (ps_osk (pv 0) (pv 1))), _, rfl, _, rfl, a, C, rfl, T, no _ (by simp), .inl ⟨ha, fun dx n ne => k (by simp) dx n ne⟩⟩
theorem c_NoMirror {h : Heap} {f C : Addr} {fd : FuncData} {tl : List Value} (KX : K.In h) (G : h.Ns mainGlobals mg) (E : ExcTxt K "NoMirror" "NoMirror.__init__" m_NoMirror C f fd ["index"] tl) : ClsI P w K mg base 1 "NoMirror" C ["index"] :=
  .of1 E KX G (b_NoMirror E.fn E.T E.no) (fun _ _ _ _ _ _ _ _ => rfl) (fun _ _ _ _ _ _ _ _ => rfl)
/-- a comprehension over enumerate(t), t a tuple -/
theorem lc_enumT {a : Addr} {xs : List V} {g : TG} {tt : TT} {te : TE} {vs : List Nat} {σ : L2.St} {H1 : Hp} {D : Addr} {Qd : Hp → Prop} (Pv : Nat → Hp → Prop) (h0 : Pv 0 (upd H1 D (.lst []))) (hl : ∀ i H, Pv i H → H a = some (.tup xs))
    (hs : ∀ i x T H, xs[i]? = some x → Pv i H → H T = none → g (.ref T) (wipe σ vs) (upd H T (.tup [.int (i : Nat), x])) fun σ2 H2 => wipe σ2 vs = wipe σ vs ∧ tt σ2 H2 fun c H3 =>
      if c = true then te σ2 H3 fun z H4 => ∃ acc, H4 D = some (.lst acc) ∧ acc.length < sizeLine ∧ Pv (i + 1) (upd H4 D (.lst (acc ++ [z]))) else Pv (i + 1) H3) (hd : ∀ H, Pv xs.length H → Qd H) :
    ∃ W : Nat → Nat → Hp → Prop, (∃ m, W 0 m (upd H1 D (.lst []))) ∧ ∀ i m H, W i m H →
      ((Itet a).stop i H ∧ Qd H) ∨ ((Itet a).go i H ∧ ∃ Nx : Hp → Prop, (∀ H', Nx H' → ∃ m', m' < m ∧ W (i + 1) m' H') ∧ ∀ x H', (Itet a).yld i H x H' → g x (wipe σ vs) H' fun σ2 H2 => wipe σ2 vs = wipe σ vs ∧ tt σ2 H2 fun c H3 =>
        if c = true then te σ2 H3 fun z H4 => ∃ acc, H4 D = some (.lst acc) ∧ acc.length < sizeLine ∧ Nx (upd H4 D (.lst (acc ++ [z]))) else Nx H3) := by
  refine ⟨fun i m H => m = xs.length - i ∧ i ≤ xs.length ∧ Pv i H, ⟨xs.length, rfl, Nat.zero_le _, h0⟩, ?_⟩
  rintro i m H ⟨rfl, hi, p⟩
  have qx := hl i H p
  by_cases lt : i < xs.length
  · have fx : xs[i]? = some xs[i] := List.getElem?_eq_getElem lt
    refine .inr ⟨⟨xs, _, qx, fx⟩, Pv (i + 1), fun H2 p2 => ⟨xs.length - (i + 1), by omega, rfl, lt, p2⟩, fun v H2 w => ?_⟩
    obtain ⟨T, x2, xs2, rfl, hT, rfl, hxs, f1⟩ := w
    cases qx.symm.trans hxs
    exact hs i x2 T H f1 p hT
  · have e : i = xs.length := by omega
    subst e
    exact .inl ⟨⟨xs, qx, rfl⟩, hd H p⟩
end
end Vk
set_option Elab.async false
set_option maxRecDepth 100000
set_option maxHeartbeats 4000000
set_option linter.all false
namespace Vk
open PySem PySem.Spec PyProof.Rows L2
/-! ## a comprehension whose element raises -/
section
variable {X : Cx} {W : WX} {E : XK} {pins pb : List (Addr × Obj)} {σ σb : L2.St} {H3 Hb : Hp} {s3 sb s' : Shared} {scope : Scope} {ce : Env} {fp : List Addr} {u : Value}
theorem frames_of {h : Heap} {B B2 : Heap} (k : ∀ b, B.get? b = none → B2.get? b = none) : ∀ {l : List Env}, h.FunFrames B l → h.FunFrames B2 l
  | [], _ => trivial
  | _ :: _, ⟨hk, ⟨L, o, hf, hb, ho, hd⟩, hr⟩ => ⟨hk, ⟨L, o, hf, k L hb, ho, hd⟩, frames_of k hr⟩
/-- out of a call in a block: noted, the block's names let go, then in the def's air -/
theorem blk_flies (tk : Takes X W) (hs : X.stack = X.env :: X.outer) (hf : X.env.frame = some X.env.locals) (hcf : ce.frame = X.env.frame) (cL : ce.locals = s3.heap.objs.size)
    (I3 : Inv X pins σ H3 s3) (f3 : ∀ b ∈ fp, FpOk X pins H3 b) (Ib : Inv (X.blk s3 H3 scope ce fp) pb σb Hb sb) (hW : ∀ cls d H', E cls d H' → W cls d σ H')
    (c : CX X.prog X.w X.stack Hb sb E u s') : notedBy (model X.prog X.w) X.A ce (CompFails (model X.prog X.w) X.A X.xe ce) u s' := by
  obtain ⟨a, B, H', cls, d, rfl, fl, hok, ub, na, os, ag, hE⟩ := c
  have hfr : X.A.frames = some (X.env :: X.outer) := by rw [I3.ok.frames, hs]
  have hC0 : Hb ce.locals = none := Ib.free
  obtain ⟨m, hns, _⟩ := Ib.loc
  have hns : sb.heap.Ns ce.locals m := hns
  have nC : H' ce.locals = none := by
    obtain ⟨o, _, _, ho, _⟩ := hns
    exact ub.free _ _ ho hC0
  have cf : FpOk X pins H' ce.locals := I3.fpOk (by rw [cL]; exact Nat.le_refl _) nC
  have cst : ce.locals ∉ frs X.stack := fun hm => by
    rcases List.mem_cons.mp (I3.stkSub _ hm) with z | z
    · exact cf.2.1 z
    · exact cf.2.2.1 z
  have bC : B.get? ce.locals = sb.heap.get? ce.locals := by
    obtain ⟨o, _, _, ho, _⟩ := hns
    rw [ho]
    exact ub.keep _ _ ho hC0 cst
  show wpAny _ X.A (noteFrame (.ref a) ce) _ _ s'
  rw [noteFrame_env _ hcf]
  rw [hs] at fl
  refine HandSPX.looks_onZ Zc.steady hfr hf fl fun h1 hh up1 => ?_
  obtain ⟨st1, na1, ff1, tr1⟩ := hh
  have hn1 : h1.Ns ce.locals m := by
    obtain ⟨o, es, ep, ho, r⟩ := hns
    exact ⟨o, es, ep, st1 _ _ (bC.trans ho), r⟩
  refine ⟨m, hn1, fun h2 m2 hn2 sb2 => ?_⟩
  -- the grounds
  obtain ⟨G1, g1, g2⟩ := restrict h1 fun b => (B.get? b).isSome || decide (b ∈ frs X.stack)
  obtain ⟨G2, k1, k2⟩ := restrict h2 fun b => (B.get? b).isSome || decide (b ∈ frs X.stack)
  obtain ⟨B2, b1, b2⟩ := restrict h2 fun b => (B.get? b).isSome
  have none2 : ∀ b, B.get? b = none → B2.get? b = none := fun b e => b2 b (by rw [e]; rfl)
  have gB : ∀ b o, B.get? b = some o → G1.get? b = some o := fun b o e => by
    rw [g1 b (by simp [e])]
    exact st1 b o e
  have gF : ∀ b, b ∈ frs X.stack → G1.get? b = h1.get? b := fun b hb => g1 b (by simp [hb])
  -- the def's state, the block's names as they stood
  have I1 : Inv X pins σ H' { s3 with heap := G1, gens := s'.gens, drawn := s'.drawn, toks := s'.toks } := by
    have ib := Ib.base
    have frE : ∀ b, b ∈ frs X.stack → b ∉ fp := fun b hb hm => by
      rcases List.mem_cons.mp (I3.stkSub _ hb) with z | z
      · exact (f3 b hm).2.1 z
      · exact (f3 b hm).2.2.1 z
    refine I3.call (ch := fp) ⟨fun b o e n hb hx => gB b o (ub.keep b o (ib.keep b o e n hb hx) (ib.free b o e n hx) hb), fun b o e n hb hx => ?_, fun b o e n hx => ?_, fun b o e hx => ?_, fun b xs e => ub.tups b xs (ib.tups b xs e), fun b o us e => ub.frzs b o us (ib.frzs b o us e), fun b ps e => ?_⟩ (hok.kept gB) ag (fun b hb => ⟨(f3 b hb).2.2.2.1, (f3 b hb).2.1, (f3 b hb).2.2.2.2.1, (f3 b hb).2.2.2.2.2⟩)
    · obtain ⟨sl, q⟩ := ib.slot b o e n hb hx
      obtain ⟨sl2, q2⟩ := ub.slot b _ q hb
      obtain ⟨_, o₀, e₀, hnf⟩ := I3.stack.mem hb
      rw [e] at e₀
      cases e₀
      obtain ⟨sl3, q3⟩ := up1 b _ q2 hnf
      exact ⟨sl3, by rw [gF b hb]; exact q3⟩
    · rcases Classical.em (∃ ob, sb.heap.get? b = some ob) with ⟨ob, q⟩ | q
      · exact ub.free b ob q (ib.free b o e n hx)
      · obtain ⟨o', q'⟩ := ib.there b o e hx
        exact absurd ⟨o', q'⟩ q
    · obtain ⟨o', q⟩ := ib.there b o e hx
      by_cases hb : b ∈ frs X.stack
      · obtain ⟨sl, q2⟩ := ub.slot b o' q hb
        obtain ⟨_, o₀, e₀, hnf⟩ := I3.stack.mem hb
        rw [e] at e₀
        cases e₀
        obtain ⟨slx, qx⟩ := ib.slot b o e (I3.stkFree b hb) hb hx
        rw [q] at qx
        cases qx
        obtain ⟨sl3, q3⟩ := up1 b _ q2 hnf
        exact ⟨_, by rw [gF b hb]; exact q3⟩
      · obtain ⟨o2, q2⟩ := ub.there b o' q hb
        exact ⟨o2, gB b o2 q2⟩
    · obtain ⟨more, q⟩ := ib.tbls b ps e
      obtain ⟨more2, q2⟩ := ub.tbls b _ q
      exact ⟨more ++ more2, by rw [q2, Array.append_assoc]⟩
  have I2 : Inv X pins σ H' { s3 with heap := G2, gens := s'.gens, drawn := s'.drawn, toks := s'.toks } := by
    refine I1.turned (t' := s'.toks) (it := ce.locals) (fun b o hb e => ?_) nC cf.2.1 cf.2.2.2.1 cf.2.2.2.2.1 cf.2.2.2.2.2
    cases q : ((B.get? b).isSome || decide (b ∈ frs X.stack)) with
    | false =>
      have e : G1.get? b = some o := e
      rw [g2 b q] at e
      cases e
    | true =>
      have e : G1.get? b = some o := e
      rw [g1 b q] at e
      rw [k1 b q, sb2.2 b hb]
      exact e
  -- the air
  have h2e : ∀ {b o}, h1.get? b = some o → b ≠ ce.locals → h2.get? b = some o := fun e n => (sb2.2 _ n).trans e
  have hd2 : HandSPX.HeldZ B2 (X.env :: X.outer) a (Zc cls d) X.env.locals h2 := by
    refine ⟨fun b o e => ?_, none2 a na1, frames_of none2 (Heap.FunFrames.sameBut sb2 hn2 ff1), ?_⟩
    · cases q : (B.get? b).isSome with
      | false => rw [b2 b q] at e; cases e
      | true => rw [b1 b q] at e; exact e
    · obtain ⟨oe, vs, T, oT, ts, he, hz, hd, h1', hnT, hTe, hT, hdT, h3⟩ := tr1
      obtain ⟨oC, es, ep, hoC, hdC, _⟩ := hn1
      have aC : a ≠ ce.locals := fun z => by
        rw [z, hoC] at he
        cases he
        rw [hdC] at hd
        cases hd
      have tC : T ≠ ce.locals := fun z => by
        rw [z, hoC] at hT
        cases hT
        rw [hdC] at hdT
        cases hdT
      exact ⟨oe, vs, T, oT, ts, h2e he aC, hz, hd, h1', none2 T hnT, hTe, h2e hT tC, hdT, h3⟩
  unfold PySem.passOn
  have tr2 := hd2.2.2.2
  obtain ⟨oe, vs, T, oT, ts, he, hz, hd, h1', _⟩ := tr2
  refine wpAny_bind (wpAny_field he hd h1' ?_)
  rw [if_neg (show ¬ ((Value.ref T == Value.none) = true) from by simp)]
  rw [hcf, hf]
  refine wpAny_bind (HandSPX.setFlight_onZ hd2 fun h3 hd3 up3 => ?_)
  refine wpAny_throw (tk _ _ ⟨a, B2, _, pins, σ, H', cls, d, rfl, I2, fun b o e hb => ?_, fun b o e hnf => ?_, .inr (.inr (by rw [hs]; exact hd3)), na, ?_, ag, hW _ _ _ hE⟩)
  · have e : G2.get? b = some o := e
    cases q : (B.get? b).isSome with
    | false =>
      rw [k2 b (by rw [q]; simpa using hb)] at e
      cases e
    | true =>
      rw [k1 b (by rw [q]; rfl)] at e
      rw [b1 b q]
      exact e
  · have e : G2.get? b = some o := e
    cases q : ((B.get? b).isSome || decide (b ∈ frs X.stack)) with
    | false => rw [k2 b q] at e; cases e
    | true => rw [k1 b q] at e; exact up3 b o e hnf
  · exact os.trans Ib.os
/-- the block of a list comprehension whose element may let E out -/
theorem lc_coreX {pos pos' : Pos} {elt tg iter : Expr} {ifs : List Expr} {own : List (Str × Nat)} {wi : TI} {g : TG} {tt : TT} {te : TE} {use : Option (Value → Sem Unit)} {Q : VK} {H : Hp} {s : Shared} {Qf : Value → Shared → Prop}
    (tk : Takes X W) (hst : X.stack = X.env :: X.outer) (hf : X.env.frame = some X.env.locals) (hW : ∀ cls d σ H', E cls d H' → W cls d σ H')
    (hc : X.calm = true) (hN : X.N.Nodup) (I : Inv X pins σ H s) (hi : PI X tg iter wi) (ok : BlkOk X.N X.env.scope scope own)
    (hg : ∀ (s : Shared) (H : Hp) (C : Addr) (cl : List (Str × Addr)) (fp : List Addr), PG (X.blk s H scope (compEnvC scope cl C X.env) fp) tg g) (ht : ∀ (s : Shared) (H : Hp) (C : Addr) (cl : List (Str × Addr)) (fp : List Addr), PTs (X.blk s H scope (compEnvC scope cl C X.env) fp) ifs tt)
    (he : ∀ (s : Shared) (H : Hp) (C : Addr) (cl : List (Str × Addr)) (fp : List Addr) (pn : List (Addr × Obj)) (xe : Value → Shared → Prop), Passes (L2.CX X.prog X.w) ((X.blk s H scope (compEnvC scope cl C X.env) fp).tr pn xe) E → PE ((X.blk s H scope (compEnvC scope cl C X.env) fp).tr pn xe) elt te)
    (hs : ∀ x, foldedSetIterable iter X.env x = pure x) (h : tLc wi g tt te (own.map (·.2)) σ H Q)
    (hR : ∀ D (cenv : Env) s' m H', Inv X pins σ H' s' → Q (.ref D) H' → s'.heap.Ns cenv.locals m → FpOk X pins H' cenv.locals → compEnds (model X.prog X.w) X.A X.xe use Qf (.ref D) cenv (.ok .next) s') :
    wpAny (model X.prog X.w) X.A (comprehension (.ListComp elt [⟨tg, iter, ifs, 0⟩] scope pos) scope X.env pos' (newList []) false (eval iter X.env) use) Qf X.xe s := by
  have hfree : ∀ y ∈ scope.names, y.2 = .free → ∃ c, X.env.cells.lookup y.1 = some c := fun y hy e => by
    rcases ok.free y hy e with k | k
    · exact I.ok.has _ (.inl k)
    · exact I.ok.has _ (.inr k)
  refine comprehension_at (use := use) rfl hs (closure_ok hfree) ok.kind (fun y hy e => by rw [ok.uniq y hy, e])
    (thn (hi.run pins s σ H _ I h) fun xv s1 hx => thn hx fun itv s2 h2 => ?_)
  obtain ⟨it, fp, tn, J, H2, rfl, I2, T, st2, f2, q⟩ := h2
  refine wpAny_newObj_type (newEnv_comp ?_) (by show 0 ≤ sizeLine; decide)
  generalize hD : s2.heap.objs.size = D
  obtain ⟨Wd, ⟨m0, w0⟩, turn⟩ := q D (I2.hok.fresh (Nat.le_of_eq hD))
  generalize hs3 : ({ s2 with heap := s2.heap.push { cls := .type "list", data := .seq ([] : List Value).toArray } } : Shared) = s3
  have I3 : Inv X pins σ (upd H2 D (.lst [])) s3 := by
    rw [← hs3]
    refine I2.laid (t' := s2.toks) (fun b o e => Heap.get?_push_of_some _ e) (Nat.le_of_eq hD) ⟨Nat.zero_le _, [], 0, .nil, ?_⟩
    rw [← hD]
    exact Heap.get?_push_size _ rfl
  have h3 : s3.heap = s2.heap.push { cls := .type "list", data := .seq ([] : List Value).toArray } := by rw [← hs3]
  have sz : ∀ b ∈ fp, b < s2.heap.objs.size := fun b hb => let ⟨_, e, _⟩ := T.obj _ _ st2 b hb; Heap.lt_size e
  have f3 : ∀ b ∈ fp, FpOk X pins (upd H2 D (.lst [])) b ∧ b < s3.heap.objs.size := fun b hb =>
    ⟨⟨(upd_ne (by rw [← hD]; exact Nat.ne_of_lt (sz b hb))).trans (f2 b hb).1, (f2 b hb).2⟩, by rw [h3, Heap.size_push]; exact Nat.lt_succ_of_lt (sz b hb)⟩
  have st3 : tn 0 s3.heap := T.keep _ _ _ st2 fun b _ o e => by rw [h3]; exact Heap.get?_push_of_some _ e
  have I4 := block_start I3 ok hN f3
  generalize hH3 : upd H2 D (.lst []) = H3 at I3 I4 w0 f3
  generalize hcl : cellsFrom (s3.heap.objs.size + 1) scope.names (cloFrom X.env.cells scope.names []) = cl at I4
  have pg := hg s3 H3 s3.heap.objs.size cl fp
  have pt := ht s3 H3 s3.heap.objs.size cl fp
  have pe := he s3 H3 s3.heap.objs.size cl fp
  show codeAny _ _ (.compStart (.ListComp elt [⟨tg, iter, ifs, 0⟩] scope pos) 0 (.ref it) (.ref D) (compEnvC scope cl s3.heap.objs.size X.env)) (compEnds (model X.prog X.w) X.A X.xe use Qf (.ref D) (compEnvC scope cl s3.heap.objs.size X.env)) { s3 with heap := pushCells (s3.heap.push { cls := .type "dict", data := .dict #[] }) scope.names }
  have cF : (compEnvC scope cl s3.heap.objs.size X.env).frame = X.env.frame := rfl
  have cL : (compEnvC scope cl s3.heap.objs.size X.env).locals = s3.heap.objs.size := rfl
  generalize compEnvC scope cl s3.heap.objs.size X.env = ce at I4 pg pt pe cF cL ⊢
  generalize hs4 : ({ s3 with heap := pushCells (s3.heap.push { cls := .type "dict", data := .dict #[] }) scope.names } : Shared) = s4 at I4 ⊢
  have st4 : tn 0 s4.heap := T.keep _ _ _ st3 fun b _ o e => by rw [← hs4]; exact pushCells_keeps _ _ _ _ (Heap.get?_push_of_some _ e)
  have nfp : ∀ b ∈ fp, H3 b = none := fun b hb => (f3 b hb).1.1
  have stat : ∀ {σ' : L2.St} {H' : Hp} {s' : Shared}, Inv (X.blk s3 H3 scope ce fp) [] σ' H' s' → (∀ b ∈ fp, H' b = none) → ∀ b ∈ fp, FpOk (X.blk s3 H3 scope ce fp) [] H' b := fun {σ' H' s'} I' hn b hb =>
    ⟨hn b hb, (I'.ok.exf b hb).1, I'.ok.exfs b hb, .inl hb, fun x c e => (I'.ok.exf b hb).2 x c e, fun p hp => absurd (show p ∈ ([] : List (Addr × Obj)) ++ [] from hp) (by simp)⟩
  -- what an exception owes
  generalize hxe : (notedBy (model X.prog X.w) X.A ce fun e s' => compEnds (model X.prog X.w) X.A X.xe use Qf (.ref D) ce (.error e) s') = xe
  have pass : ∀ pn, Passes (L2.CX X.prog X.w) ((X.blk s3 H3 scope ce fp).tr pn xe) E := fun pn pb σb Hb sb u s' Ib c => by
    show xe u s'
    rw [← hxe]
    have J : Inv (X.blk s3 H3 scope ce fp) [] σb Hb sb := ⟨Ib.ok.ofTry, Ib.os, Ib.bare, Ib.base, Ib.loc, Ib.cell, Ib.free, Ib.freeC, fun p hp => absurd (show p ∈ ([] : List (Addr × Obj)) ++ [] from hp) (by simp), Ib.hok, Ib.len⟩
    have z := blk_flies (E := E) tk hst hf cF cL I3 (fun b hb => (f3 b hb).1) J (fun cls d H' h => hW cls d σ H' h) c
    cases use <;> exact z
  have loop : codeAny (model X.prog X.w) X.A (.compLoop (.ListComp elt [⟨tg, iter, ifs, 0⟩] scope pos) 0 (.ref it) (.ref D) ce) (compEnds (model X.prog X.w) X.A X.xe use Qf (.ref D) ce) s4 := by
    refine compLoop_any (fun n s' => ∃ i H', Inv (X.blk s3 H3 scope ce fp) [] (wipe σ (own.map (·.2))) H' s' ∧ tn i s'.heap ∧ (∀ b ∈ fp, H' b = none) ∧ Wd i n H') ?_ m0 ⟨0, H3, I4, st4, nfp, w0⟩
    rintro n s5 ⟨i, H5, I5, st5, n5, w5⟩
    rcases turn i n H5 w5 with ⟨stop, qq⟩ | ⟨go, Nx, hNx, step⟩
    · refine thnF (T.done (X.blk s3 H3 scope ce fp) rfl rfl rfl hc i [] s5 _ H5 (fun _ _ => False) I5 (stat I5 n5) st5 stop) fun r s6 ⟨hr, I6⟩ => ?_
      subst hr
      have I7 : Inv X pins σ H5 s6 := I3.call' (ch := fp) I6.os I6.base I6.hok I6.bare fun b hb => ⟨(f3 b hb).1.2.2.2.1, (f3 b hb).1.2.1, (f3 b hb).1.2.2.2.2.1, (f3 b hb).1.2.2.2.2.2⟩
      have nC : H5 ce.locals = none := I6.free
      obtain ⟨m, hn, _⟩ := I6.loc
      exact hR D ce s6 m H5 I7 qq hn (I3.fpOk (by rw [cL]; exact Nat.le_refl _) nC)
    · refine thnF (T.item (X.blk s3 H3 scope ce fp) rfl rfl rfl hc i [] s5 _ H5 (fun _ _ => False) I5 (stat I5 n5) st5 go) fun r s6 ⟨u, hr, h6⟩ => ?_
      subst hr
      refine thnF h6 fun _ s7 ⟨x, H7, I7, r7, y7, st7, n7⟩ => ?_
      have I7' := I7.pinned (stat I7 n7) (T.obj _ _ st7)
      refine thnF (pg.run _ s7 _ H7 x u _ I7' r7 (step x H7 y7)) fun _ s8 ⟨σ8, H8, I8, hw8, q8⟩ => ?_
      refine thnF (pt.run _ s8 σ8 H8 _ I8 q8) fun b s9 ⟨H9, I9, q9⟩ => ?_
      have fin : ∀ {s' : Shared} {H' : Hp}, Inv (X.blk s3 H3 scope ce fp) ([] ++ pinsAt fp s7.heap) σ8 H' s' → Nx H' → ∃ m, m < n ∧ ∃ i H', Inv (X.blk s3 H3 scope ce fp) [] (wipe σ (own.map (·.2))) H' s' ∧ tn i s'.heap ∧ (∀ b ∈ fp, H' b = none) ∧ Wd i m H' := fun {s' H'} I' nx => by
        obtain ⟨m', hm, w'⟩ := hNx H' nx
        have pin' : ∀ b ∈ fp, ∀ o, s7.heap.get? b = some o → s'.heap.get? b = some o ∧ H' b = none := fun b hb o e =>
          let z := I'.pin (b, o) (List.mem_append_right _ (List.mem_append_right _ (mem_pinsAt hb e)))
          ⟨z.1, z.2.1⟩
        refine ⟨m', hm, i + 1, H', (I'.unpinned (pins := [])).weak (by rw [← hw8, wipe_length]) (fun j v e => ?_), T.keep _ _ _ st7 fun b hb o e => (pin' b hb o e).1, fun b hb => ?_, w'⟩
        · rw [← hw8] at e
          exact (wipe_some e).1
        · obtain ⟨o, e, _⟩ := T.obj _ _ st7 b hb
          exact (pin' b hb o e).2
      cases b with
      | false =>
        simp only [Bool.false_eq_true, if_false] at q9 ⊢
        exact fin I9 q9
      | true =>
        simp only [if_true] at q9 ⊢
        rw [hxe]
        refine thn ((pe _ xe (pass _)).run _ s9 σ8 H9 _ (I9.toTry xe) q9) fun z s10 ⟨yv, H10, I10, r10, acc, hD10, hz10, nx⟩ => ?_
        exact app_ok (X := X.blk s3 H3 scope ce fp) (I10.ofTry I9.ok) hD10 hz10 r10 fun s11 I11 => fin I11 nx
  exact codeAny_compStart_list loop (T.self X.A 0 _ _ _ st4 loop)
/-- name = [..] on one line, the element may let E out -/
theorem ps_setLcX {i : Nat} {y : Str} {py : Pos} {elt tg iter : Expr} {ifs : List Expr} {own : List (Str × Nat)} {pos spos : Pos} {wi : TI} {g : TG} {tt : TT} {te : TE}
    (tk : Takes X W) (hst : X.stack = X.env :: X.outer) (hf : X.env.frame = some X.env.locals) (hW : ∀ cls d σ H', E cls d H' → W cls d σ H')
    (hc : X.calm = true) (hN : X.N.Nodup) (hy : X.N[i]? = some y) (hyl : X.env.scope.names.lookup y = some .local)
    (hsw : swapsWith (.ListComp elt [⟨tg, iter, ifs, 0⟩] scope pos) (some (.Name y py)) spos.line X.env = pure true) (hi : PI X tg iter wi) (ok : BlkOk X.N X.env.scope scope own)
    (hg : ∀ (s : Shared) (H : Hp) (C : Addr) (cl : List (Str × Addr)) (fp : List Addr), PG (X.blk s H scope (compEnvC scope cl C X.env) fp) tg g) (ht : ∀ (s : Shared) (H : Hp) (C : Addr) (cl : List (Str × Addr)) (fp : List Addr), PTs (X.blk s H scope (compEnvC scope cl C X.env) fp) ifs tt)
    (he : ∀ (s : Shared) (H : Hp) (C : Addr) (cl : List (Str × Addr)) (fp : List Addr) (pn : List (Addr × Obj)) (xe : Value → Shared → Prop), Passes (L2.CX X.prog X.w) ((X.blk s H scope (compEnvC scope cl C X.env) fp).tr pn xe) E → PE ((X.blk s H scope (compEnvC scope cl C X.env) fp).tr pn xe) elt te)
    (hs : ∀ x, foldedSetIterable iter X.env x = pure x := by intro _; rfl) :
    PS X (.Assign [.Name y py] (.ListComp elt [⟨tg, iter, ifs, 0⟩] scope pos) spos) (tAsg (tLc wi g tt te (own.map (·.2))) (gName i)) := by
  refine ⟨fun pins s σ H D I h => ?_⟩
  rw [exec_Assign_Name_used _ _ _ _ hsw]
  refine wpAny_bind (wpAny_standAt (wpAny_bind ?_))
  show wpAny _ X.A (do let _ ← comprehension (.ListComp elt [⟨tg, iter, ifs, 0⟩] scope pos) scope X.env (firstIterPos [⟨tg, iter, ifs, 0⟩] pos) (newList []) false (eval iter X.env) (some (assign (.Name y py) X.env))) _ _ s
  have h : tLc wi g tt te (own.map (·.2)) σ H (fun x H1 => gName i x σ H1 D.nx) := h
  refine wpAny_bind (thn (lc_coreX (Qf := fun _ s' => SP X pins D .next s') tk hst hf hW hc hN I hi ok hg ht he hs h fun L cenv s' m H' I' q hn f => ?_) fun _ s' hq => wpAny_pure (wpAny_pure hq))
  show wpAny _ _ (assign (.Name y py) X.env (.ref L)) _ _ _
  refine wpAny_assign_Name (store_ok2 (v := V.ref L) I' hN hy (.inl hyl) rfl (fun s2 I2 ⟨a, sb, ha⟩ => ?_) (.inr hyl))
  obtain ⟨f0, f1, f2, f3, f4, f5⟩ := f
  have haC : cenv.locals ≠ a := by
    rcases ha with z | z
    · rw [z]; exact f1
    · exact fun e => f4 y a z e.symm
  exact ⟨m, hn.sameBut sb haC, fun h3 sb3 => ⟨_, H', I2.turned (t' := s2.toks) (fun b o hb e => (sb3.2 b hb).trans e) f0 f1 f3 f4 f5, q⟩⟩
end
end Vk
set_option Elab.async false
set_option maxRecDepth 100000
set_option linter.all false
set_option maxHeartbeats 4000000
namespace Vk
open PySem PySem.Spec PyProof.Rows L2 LamX NdefX StX
section
variable {P : Program} {w : World} {K : PySem.W.Frag} {mg : Str → Option Value} {base : Heap}
variable {C_Once C_First C_Perhaps C_Every C_AtOnce C_Edit C_Program C_NoPlace C_Overlap C_InvalidText C_InvalidOld C_InvalidNew C_InvalidPart C_TooMany C_NoMirror fA fP : Addr}
/-- mirrored: the first edit that has no mirror is told, or the program in the mirror is there -/
def spMirP (Cs : Nat → Addr) (Ca CP CM : Addr) : Sp := fun vs H Q E => ∃ pr es, vs = [.ref pr] ∧ IsPr Cs Ca CP H pr es ∧ (∀ e ∈ es, Wds e) ∧ es.length ≤ 4 ∧
  (∀ j e, es[j]? = some e → noMir e = true → (∀ e ∈ es.take j, noMir e = false) → ∀ H1 d, Same H H1 → H1 d = none → E (.ref CM) (some d) (upd H1 d (.xd [(("index" : Str), .int (j : Nat))]))) ∧
  ((∀ e ∈ es, noMir e = false) → ∀ b H', Same H H' → IsPr Cs Ca CP H' b (es.map mirE) → Q (.ref b) H')
abbrev m_mirrored : Stmt := mtd (top 42) 10
theorem sc_mirrored : FnScope ["self", "edits", "index", "edit"] ["self"] (defScope m_mirrored) := ⟨rfl, rfl, rfl, by decide +kernel, rfl, by decide +kernel, by decide +kernel⟩
theorem b_mirrored {f : Addr} {fd : FuncData} (F : Fun K "mirrored" "Program.mirrored" m_mirrored f fd) (T : Txt mg) (c_mirrored_edit : CalG P w K mg base (L2.CX P w) 8 "mirrored_edit" (spMir (cls4 C_Once C_First C_Perhaps C_Every) C_AtOnce C_NoMirror)) (n_Program : mg "Program" = some (.ref C_Program)) (clP : Cls K C_Program) (npE : NoAttr K C_Program "_edits") (ed : ∀ n, n < 4 → EdF K (cls4 C_Once C_First C_Perhaps C_Every n)) (kE : ∀ n, n < 4 → PySem.W.kitOne K (.ref (cls4 C_Once C_First C_Perhaps C_Every n)) (.ref C_Edit) = some true) (edA : EdF K C_AtOnce) (kEA : PySem.W.kitOne K (.ref C_AtOnce) (.ref C_Edit) = some true) (MP : L2.Mk K C_Program fP) (FP : FnRG P w K mg base (L2.CX P w) 2 fP (spPr K C_Edit C_Program)) : FnG P w K mg base (L2.CX P w) 9 f fd ["self"] (spMirP (cls4 C_Once C_First C_Perhaps C_Every) C_AtOnce C_Program C_NoMirror) := by
  refine okG F sc_mirrored (fun vs H Q E h => ?_) (fun cdv A outer s H vs Q E hg hr h => ?_)
  · obtain ⟨pr, es, rfl, _⟩ := h
    rfl
  · have hu := hu_of hr
    obtain ⟨pr, es, rfl, ⟨dx, q, xs, hpr, hq, eds⟩, wd, l4, k1, k⟩ := h
    have gl := paired_len eds
    refine ⟨_, (pss_cons (ps_setLcX (E := E) (i := 1) (own := [("index", 2), ("edit", 3)]) (g := (gTup K 2 (gCons (gName 2) (gCons (gName 3) gNil)))) (tt := tYes) (takes_of rfl rfl rfl rfl) rfl rfl (fun _ _ _ _ h => h) rfl sc_mirrored.nd rfl rfl (sw_true rfl rfl rfl (by decide +kernel)) (pi_enumT (by rfl) T.enumerate (pa_cons (pe_fld (pv 0) rfl) pa_nil)) (blkOk_by (own := [("index", 2), ("edit", 3)]) (N := ["self", "edits", "index", "edit"]) (sc := defScope m_mirrored) (by decide +kernel)) (fun _ _ _ _ _ => (pg_tupK (K := K) (n := 2) rfl rfl (pgs_cons (pg_name (i := 2) sc_mirrored.nd rfl (Or.inl rfl)) (pgs_cons (pg_name (i := 3) sc_mirrored.nd rfl (Or.inl rfl)) pgs_nil)))) (fun _ _ _ _ _ => pts_nil) (fun _ _ _ _ _ _ _ hx => (pe_cG c_mirrored_edit hg hr (by decide) hx (pa_cons (pv 3) (pa_cons (pv 2) pa_nil)))))
      (pss_one (ps_ret (pe_starS MP FP hg hr (by decide) n_Program passesF (pv 1))))), ?_⟩
    refine ⟨_, rfl, pr, C_Program, dx, _, .ref q, rfl, hpr, clP, npE, fl_edits, q, xs, rfl, hq, fun D hD => ?_⟩
    refine lc_enumT (a := q) (xs := xs) (fun j H' => Same H H' ∧ ∃ got, H' D = some (.lst got) ∧ IsEds (cls4 C_Once C_First C_Perhaps C_Every) C_AtOnce H' got ((es.take j).map mirE) ∧ ∀ e ∈ es.take j, noMir e = false) ⟨same_new hD, [], upd_same, .nil, fun e h => nomatch h⟩ (fun j H' p => p.1 _ _ hq) (fun j u t H' hu p ht => ?_) (fun H' p => ?_)
    · obtain ⟨sm, got, hy, py, nm⟩ := p
      obtain ⟨e, he, a, rfl, hat⟩ := paired_at eds hu
      have yl := paired_len py
      rw [List.length_map, List.length_take] at yl
      have st := same_new (o := .tup [.int (j : Nat), .ref a]) ht
      have mem := List.mem_of_getElem? he
      refine ⟨t, _, rfl, SqT.of upd_same, rfl, _, _, rfl, _, _, rfl, rfl, ?_⟩
      refine ⟨rfl, ?_⟩
      dsimp only [tYes]
      rw [if_pos rfl]
      refine ⟨_, rfl, _, rfl, a, j, e, rfl, hat.keep (sm.trans st), wd e mem, fun hm H1 d s1 hd => k1 j e he hm nm H1 d ((sm.trans st).trans s1) hd, fun hm b H2 s2 ib => ?_⟩
      have s3 := st.trans s2
      refine ⟨got, s3 _ _ hy, few_lt (by omega), ⟨fun b o h => ?_, got ++ [.ref b], upd_same, ?_, ?_⟩⟩
      · rw [upd_ne (ne_of_none h hD)]
        exact s3 _ _ (sm _ _ h)
      · have ne : ∀ u o, (∀ zs, o ≠ HO.lst zs) → H2 u = some o → (upd H2 D (.lst (got ++ [.ref b]))) u = some o := fun u o n h => by
          rw [upd_ne (fun z => by rw [z, s3 _ _ hy] at h; exact n _ (Option.some.inj h).symm)]
          exact h
        rw [List.take_add_one, he]
        rw [show (es.take j ++ (some e).toList).map mirE = (es.take j).map mirE ++ [mirE e] from by rw [List.map_append]; rfl]
        exact paired_app2 (paired_impl (fun v e ⟨a, q, h⟩ => ⟨a, q, (h.keep s3).keepX ne⟩) py) ⟨b, rfl, ib.keepX ne⟩
      · intro e2 h2
        rw [List.take_add_one, he] at h2
        rcases List.mem_append.mp h2 with h2 | h2
        · exact nm e2 h2
        · cases List.mem_singleton.mp h2
          exact hm
    · obtain ⟨sm, got, hd, ie, nm⟩ := p
      rw [List.take_of_length_le (by omega)] at ie nm
      have rl := paired_len ie
      rw [List.length_map] at rl
      refine ⟨_, rfl, D, got, rfl, .inr (SqL.of hd), ?_⟩
      exact born_pr (fun v hv => by
        obtain ⟨e, _, a, rfl, h⟩ := paired_mem ie hv
        obtain ⟨C, dx, fs, r⟩ := h.ins ed kE edA kEA
        exact ⟨a, C, dx, fs, rfl, r⟩) (by omega) fun b dx q H3 s3 hb hq3 => k nm b H3 (sm.trans s3) ⟨dx, q, _, hb, hq3, paired_impl (fun v e ⟨a, q, h⟩ => ⟨a, q, h.keep s3⟩) ie⟩
end
end Vk
set_option Elab.async false
set_option maxRecDepth 100000
set_option linter.all false
set_option maxHeartbeats 4000000
namespace Vk
open PySem PySem.Spec PyProof.Rows L2 LamX NdefX StX
section
variable {P : Program} {w : World} {K : PySem.W.Frag} {mg : Str → Option Value} {base : Heap}
variable {C_Once C_First C_Perhaps C_Every C_AtOnce C_Edit C_Program : Addr}
theorem pi_tupK {X : Cx} {K : PySem.W.Frag} {tg l : Expr} {tl : TE} (hl : PE X l tl) (hK : X.K = K := by rfl) : PI X tg l (iTup K tl) := by
  subst hK
  exact pi_tup hl
def oldsE (es : List EdM) : List V := (es.flatMap partsE).map fun q => V.str q.1
theorem oldsE_snoc {es : List EdM} {e : EdM} : oldsE (es ++ [e]) = oldsE es ++ (partsE e).map fun q => V.str q.1 := by
  unfold oldsE
  rw [List.flatMap_append, List.map_append]
  simp
theorem partsE_len {e : EdM} (h : Wds e) : (partsE e).length ≤ 3 := by
  cases e with
  | one n z1 z2 => exact Nat.le_of_ble_eq_true rfl
  | many ps => exact h.len
theorem oldsE_len {es : List EdM} (h : ∀ e ∈ es, Wds e) : (oldsE es).length ≤ 3 * es.length := by
  induction es with
  | nil => exact Nat.le_refl _
  | cons e r ih =>
    have a := partsE_len (h e List.mem_cons_self)
    have b := ih fun e he => h e (List.mem_cons_of_mem _ he)
    unfold oldsE at b ⊢
    simp only [List.flatMap_cons, List.map_append, List.length_append, List.length_map, List.length_cons] at b ⊢
    omega
def spOlds (Cs : Nat → Addr) (Ca CP : Addr) : Sp := fun vs H Q _ => ∃ pr es, vs = [.ref pr] ∧ IsPr Cs Ca CP H pr es ∧ (∀ e ∈ es, Wds e) ∧ es.length ≤ 4 ∧ ∀ l H', Same H H' → H' l = some (.tup (oldsE es)) → Q (.ref l) H'
abbrev m_olds : Stmt := mtd (top 42) 2
theorem sc_olds : FnScope ["self", "edit", "old", "_"] ["self"] (defScope m_olds) := ⟨rfl, rfl, rfl, by decide +kernel, rfl, by decide +kernel, by decide +kernel⟩
theorem b_olds {f : Addr} {fd : FuncData} (F : Fun K "olds" "Program.olds" m_olds f fd) (T : Txt mg) (c_parts_of : CalG P w K mg base CX0 3 "parts_of" (spPof (cls4 C_Once C_First C_Perhaps C_Every) C_AtOnce)) (clP : Cls K C_Program) (npE : NoAttr K C_Program "_edits") : FnG P w K mg base CX0 4 f fd ["self"] (spOlds (cls4 C_Once C_First C_Perhaps C_Every) C_AtOnce C_Program) := by
  refine okG0 F sc_olds (fun vs H Q E h => ?_) (fun cdv A outer s H vs Q E hg hr h => ?_)
  · obtain ⟨pr, es, rfl, _⟩ := h
    rfl
  · have hu := hu_of hr
    obtain ⟨pr, es, rfl, ⟨dx, q, xs, hpr, hq, eds⟩, wd, l4, k⟩ := h
    have gl := paired_len eds
    refine ⟨_, pss_one (ps_ret (pe_callTy call_tuple_of (by rfl) T.tuple (by decide +kernel) (pa_cons (pe_lc2 (own := [("edit", 1), ("old", 2), ("_", 3)]) (vs1 := [2, 3]) (g := gName 1) (tt := tYes) (g1 := (gTup K 2 (gCons (gName 2) (gCons (gName 3) gNil)))) (tt1 := tYes) rfl sc_olds.nd (pi_tup (pe_fld (pv 0) rfl)) (blkOk_by (own := [("edit", 1), ("old", 2), ("_", 3)]) (N := ["self", "edit", "old", "_"]) (sc := defScope m_olds) (by decide +kernel)) (by decide) (fun _ _ _ _ _ => pg_name (i := 1) sc_olds.nd rfl (Or.inl rfl)) (fun _ _ _ _ _ => pts_nil) (fun _ _ _ _ _ => pi_tupK (K := K) (pe_cG c_parts_of hg hr (by decide) pass0 (pa_cons (pv 1) pa_nil))) (fun _ _ _ _ _ => (pg_tupK (K := K) (n := 2) rfl rfl (pgs_cons (pg_name (i := 2) sc_olds.nd rfl (Or.inl rfl)) (pgs_cons (pg_name (i := 3) sc_olds.nd rfl (Or.inl rfl)) pgs_nil)))) (fun _ _ _ _ _ => pts_nil) (fun _ _ _ _ _ => pv 2)) pa_nil))), ?_⟩
    refine ⟨_, rfl, pr, C_Program, dx, _, .ref q, rfl, hpr, clP, npE, fl_edits, q, rfl, ⟨_, SqT.of hq⟩, fun D hD => ?_⟩
    refine ⟨fun i m H' => m = xs.length - i ∧ i ≤ xs.length ∧ Same H H' ∧ H' D = some (.lst (oldsE (es.take i))), ⟨xs.length, rfl, Nat.zero_le _, same_new hD, upd_same⟩, ?_⟩
    rintro i m H1 ⟨rfl, hi, s1, d1⟩
    have q1 := s1 _ _ hq
    by_cases lt : i < xs.length
    · obtain ⟨x, hx⟩ : ∃ x, xs[i]? = some x := ⟨xs[i], List.getElem?_eq_getElem lt⟩
      obtain ⟨e, he, a, rfl, hat⟩ := paired_at eds hx
      have wde := wd e (List.mem_of_getElem? he)
      have tl : (oldsE (es.take i)).length ≤ 12 := by
        have := oldsE_len (es := es.take i) fun e h => wd e (List.mem_of_mem_take h)
        rw [List.length_take] at this
        omega
      refine .inr ⟨⟨xs, _, SqT.of q1, hx⟩, fun H' => Same H H' ∧ H' D = some (.lst (oldsE (es.take (i + 1)))), fun H' p => ⟨_, by omega, rfl, lt, p.1, p.2⟩, fun v H2 y => ?_⟩
      obtain ⟨rfl, y2⟩ := y
      cases (y2 xs (SqT.of q1)).symm.trans hx
      refine ⟨rfl, ?_⟩
      dsimp only [tYes]
      rw [if_pos rfl]
      refine ⟨_, rfl, a, e, rfl, hat.keep s1, fun t ws H3 s3 ht pr3 => ?_⟩
      have pl := paired_len pr3
      have p3 := partsE_len wde
      refine ⟨t, rfl, ⟨_, SqT.of ht⟩, ?_⟩
      refine ⟨fun j m H' => m = ws.length - j ∧ j ≤ ws.length ∧ Same H H' ∧ H' t = some (.tup ws) ∧ Prts H' ws (partsE e) ∧ H' D = some (.lst (oldsE (es.take i) ++ ((partsE e).take j).map fun q => V.str q.1)), ⟨ws.length, rfl, Nat.zero_le _, s1.trans s3, ht, pr3, by rw [s3 _ _ d1]; simp⟩, ?_⟩
      rintro j m H4 ⟨rfl, hj, s4, ht4, pr4, d4⟩
      by_cases lj : j < ws.length
      · obtain ⟨z, hz⟩ : ∃ z, ws[j]? = some z := ⟨ws[j], List.getElem?_eq_getElem lj⟩
        obtain ⟨p, hp, t5, rfl, ht5⟩ := paired_at pr4 hz
        refine .inr ⟨⟨ws, _, SqT.of ht4, hz⟩, fun H' => Same H H' ∧ H' t = some (.tup ws) ∧ Prts H' ws (partsE e) ∧ H' D = some (.lst (oldsE (es.take i) ++ ((partsE e).take (j + 1)).map fun q => V.str q.1)), fun H' p => ⟨_, by omega, rfl, lj, p.1, p.2.1, p.2.2.1, p.2.2.2⟩, fun v H5 y => ?_⟩
        obtain ⟨rfl, y2⟩ := y
        cases (y2 ws (SqT.of ht4)).symm.trans hz
        refine ⟨t5, _, rfl, SqT.of ht5, rfl, _, _, rfl, _, _, rfl, rfl, ?_⟩
        refine ⟨rfl, ?_⟩
        dsimp only [tYes]
        rw [if_pos rfl]
        have un : ∀ {u : Addr} {zs : List V} {ys : List V}, H5 u = some (.tup zs) → (upd H5 D (.lst ys)) u = some (.tup zs) := fun h => by
          rw [upd_ne (fun e => by rw [e, d4] at h; cases h)]
          exact h
        refine ⟨_, rfl, _, d4, few_lt (by rw [List.length_append, List.length_map, List.length_take]; omega), fun b o h => ?_, un ht4, paired_impl (fun v r ⟨t, e, h⟩ => ⟨t, e, un h⟩) pr4, ?_⟩
        · rw [upd_ne (ne_of_none h hD)]
          exact s4 _ _ h
        · rw [upd_same, List.take_add_one, hp]
          simp
      · have e9 : j = ws.length := by omega
        refine .inl ⟨⟨ws, SqT.of ht4, by omega⟩, s4, ?_⟩
        rw [d4, show (partsE e).take j = partsE e from List.take_of_length_le (by omega), List.take_add_one, he]
        exact congrArg (fun x => some (HO.lst x)) oldsE_snoc.symm
    · have e9 : i = xs.length := by omega
      refine .inl ⟨⟨xs, SqT.of q1, by omega⟩, ?_⟩
      rw [List.take_of_length_le (by omega)] at d1
      exact ⟨_, _, rfl, .inl ⟨SqL.of d1, fun l hl => k l _ (s1.trans (same_new hl)) upd_same⟩⟩
end
end Vk
set_option Elab.async false
set_option maxRecDepth 100000
set_option linter.all false
set_option maxHeartbeats 4000000
namespace Vk
open PySem PySem.Spec PyProof.Rows L2 LamX NdefX StX
section
variable {P : Program} {w : World} {K : PySem.W.Frag} {mg : Str → Option Value} {base : Heap}
variable {C_Once C_First C_Perhaps C_Every C_AtOnce C_Edit C_Program C_NoPlace C_Overlap C_InvalidText C_NoMirror : Addr}
def forB : Stmt → List Stmt
  | .For _ _ b _ _ => b
  | _ => []
def ifT : Stmt → Expr
  | .If c _ _ _ => c
  | _ => .Constant .none 0 ⟨0, 0, 0, 0⟩
def cmpL : Expr → Expr
  | .Compare l _ _ _ => l
  | e => e
def arg0 : Expr → Expr
  | .Call _ (e :: _) _ _ => e
  | e => e
def lamPs : Expr → Arguments
  | .Lambda p _ _ _ => p
  | _ => defArgs (top 0)
def lamB : Expr → Expr
  | .Lambda _ b _ _ => b
  | e => e
def lamSc : Expr → Scope
  | .Lambda _ _ s _ => s
  | _ => defScope (top 0)
def lam (e : Expr) (q : Str) (cl : List (Str × Addr)) (c : Addr) : LF := ⟨q, lamPs e, lamB e, lamSc e, cl, c⟩
abbrev nopS : Stmt := .Pass ⟨0, 0, 0, 0⟩
def Etold (CN CO : Addr) (Q : VK) : XK := fun cls d H => (cls = .ref CN ∧ ∃ dd, ∃ i m : Nat, d = some dd ∧ H dd = some (.xd [(("number" : Str), .int m), (("index" : Str), .int i)]) ∧ ∀ t, H t = none → Q (.ref t) (upd H t (.tup [.str "no", .int i, .int m]))) ∨
  (cls = .ref CO ∧ ∃ dd, ∃ i : Nat, d = some dd ∧ H dd = some (.xd [(("index" : Str), .int i)]) ∧ ∀ t, H t = none → Q (.ref t) (upd H t (.tup [.str "over", .int i])))
def spTold (P : Program) (w : World) (K : PySem.W.Frag) (mg : Str → Option Value) (base : Heap) (CN CO : Addr) : Heap → Sp := fun h vs H Q _ => ∃ f F fr ws spl, vs = [.ref f] ∧ LamK P w K mg base 7 F fr spl ∧ H f = some (LamO f F) ∧ H F.c = some (CodeO F.c F.qual) ∧ CellsAt F.cl fr ws h H ∧ spl ws H Q (Etold CN CO Q)
abbrev s_ltold : Stmt := top 55
theorem sc_ltold : FnScope ["_law_call", "e"] ["_law_call"] (defScope s_ltold) := ⟨rfl, rfl, rfl, by decide +kernel, rfl, by decide +kernel, by decide +kernel⟩
theorem b_ltold {f CN CO : Addr} {fd : FuncData} (F : Fun K "_law_told" "_law_told" s_ltold f fd) (T : Txt mg) (c_NoPlace : ClsI P w K mg base 1 "NoPlace" CN ["index", "number"]) (c_Overlap : ClsI P w K mg base 1 "Overlap" CO ["index"]) (oo : PySem.W.exmOne K (.ref CN) (.ref CN) = some true) (o1 : PySem.W.exmOne K (.ref CO) (.ref CN) = some false) (o2 : PySem.W.exmOne K (.ref CO) (.ref CO) = some true) :
    FnH P w K mg base CX0 8 f fd ["_law_call"] (spTold P w K mg base CN CO) := by
  refine okH F sc_ltold (fun h0 vs H Q E h => ?_) (fun cdv A outer s H vs Q E hg hr h => ?_)
  · obtain ⟨f1, F1, fr, ws, spl, rfl, _⟩ := h
    rfl
  · have hu := hu_of hr
    obtain ⟨f1, F1, fr, ws, spl, rfl, L, hf1, hc1, C1, k⟩ := h
    refine ⟨_, PSs.nox (pss_one (ps_try_each (W0 := fun _ _ _ _ => False) (tb := tTryLam f1 F1 ws spl 2) rfl rfl sc_ltold.nd takes0 (fun W pn xe tk _ => pss_tryLam tk C1 rfl L hg hr (by decide) rfl rfl (Or.inl rfl))
      (.named (c := .ref CN) (i := 1) rfl rfl ⟨by rfl, by decide, .inl c_NoPlace.hm⟩ (fun a oe cls d pn hz hf => pss_one (ps_ret (pe_tup (pa_cons pe_str (pa_cons (pe_xf c_NoPlace.T.xf (c_NoPlace.no _ (by simp)) hz hf (pv 1)) (pa_cons (pe_xf c_NoPlace.T.xf (c_NoPlace.no _ (by simp)) hz hf (pv 1)) pa_nil))))))
        (.named (c := .ref CO) (i := 1) rfl rfl ⟨by rfl, by decide, .inl c_Overlap.hm⟩ (fun a oe cls d pn hz hf => pss_one (ps_ret (pe_tup (pa_cons pe_str (pa_cons (pe_xf c_Overlap.T.xf (c_Overlap.no _ (by simp)) hz hf (pv 1)) pa_nil))))) .nil)))), ?_⟩
    refine ⟨Etold CN CO Q, fun cls d σ2 H2 le hE => ?_, rfl, hf1, hc1, k⟩
    have s1 : ∀ a : Addr, (σ2.set 1 (some (V.ref a)))[1]? = some (some (V.ref a)) := fun a => by rw [List.getElem?_set_self (by omega)]
    rcases hE with ⟨rfl, dd, i, m, rfl, hd, q⟩ | ⟨rfl, dd, i, rfl, hd, q⟩
    · refine ⟨true, oo, fun _ a na => ?_, fun z => nomatch z⟩
      exact ⟨.ref a, s1 a, rfl, rfl, dd, _, _, rfl, hd, rfl, .ref a, s1 a, rfl, rfl, dd, _, _, rfl, hd, rfl, few_len (Nat.le_of_ble_eq_true rfl), fun t ht => q t ht⟩
    · refine ⟨false, o1, (fun z => nomatch z), fun _ => ⟨true, o2, fun _ a na => ?_, fun z => nomatch z⟩⟩
      exact ⟨.ref a, s1 a, rfl, rfl, dd, _, _, rfl, hd, rfl, few_len (Nat.le_of_ble_eq_true rfl), fun t ht => q t ht⟩
/-- try: x() of a lambda that x holds -/
def tTryLamE (f : Addr) (F : LF) (ws : List (Option V)) (sp : SpL) (n : Nat) : WX → TS := fun W D σ H => ∃ E : XK, (∀ cls d (σ' : L2.St) H', σ'.length = n → E cls d H' → W cls d σ' H') ∧ σ[0]? = some (some (.ref f)) ∧ H f = some (LamO f F) ∧ H F.c = some (CodeO F.c F.qual) ∧ sp ws H (fun _ H1 => D.nx σ H1) E
theorem pss_tryLamE {X : Cx} {W : WX} {pn : List (Addr × Obj)} {xe : Value → Shared → Prop} {f : Addr} {F : LF} {fr : List Str} {ws : List (Option V)} {sp : SpL} {j k n : Nat} {x : Str} {p1 p2 p3 : Pos} (tk : Takes (X.tr pn xe) W) (C : CellsAt F.cl fr ws X.s_0.heap X.H_0) (hx0 : X.ex = [])
    (L : LamK X.prog X.w X.K X.mg X.base k F fr sp) (hg : X.A.guards = some []) (hr : Room j X.A) (hk : k ≤ j) (hl : X.N.length = n) (hN : X.N[0]? = some x) (hv : Vis X.env.scope x) (hd : (x == ("__debug__" : Str)) = false := by decide) (hcd : (x == ("__classdict__" : Str)) = false := by decide)
    (hs : swapsWith (.Call (.Name x p1) [] [] p2) none p3.line (X.tr pn xe).env = pure false := by rfl) :
    PSs (X.tr pn xe) [.Expr (.Call (.Name x p1) [] [] p2) p3] (tTryLamE f F ws sp n W) := by
  refine ⟨fun pins s σ H D I h => ?_⟩
  obtain ⟨E, hW, h1, h2, h3, h4⟩ := h
  exact (pss_one (ps_expr (hs := hs) (pe_lamact (X := X.tr pn xe) (f0 := f) C hx0 L hg hr hk (passes_len tk fun cls d σ' H' le => hW cls d σ' H' (le.trans hl)) hN hv hd hcd))).run pins s σ H D I ⟨h1, h2, h3, h4⟩
def Emir (CM : Addr) (Q : VK) : XK := fun cls dd H => cls = .ref CM ∧ ∃ d0, ∃ i : Nat, dd = some d0 ∧ H d0 = some (.xd [(("index" : Str), .int i)]) ∧ Q (.int i) H
def spRefM (P : Program) (w : World) (K : PySem.W.Frag) (mg : Str → Option Value) (base : Heap) (CM : Addr) : Heap → Sp := fun h vs H Q _ => ∃ f F fr ws spl, vs = [.ref f] ∧ LamK P w K mg base 10 F fr spl ∧ H f = some (LamO f F) ∧ H F.c = some (CodeO F.c F.qual) ∧ CellsAt F.cl fr ws h H ∧ spl ws H (fun _ H1 => Q .non H1) (Emir CM Q)
abbrev s_lrefused : Stmt := top 56
theorem sc_lrefused : FnScope ["_law_call", "e"] ["_law_call"] (defScope s_lrefused) := ⟨rfl, rfl, rfl, by decide +kernel, rfl, by decide +kernel, by decide +kernel⟩
theorem b_lrefused {f CM : Addr} {fd : FuncData} (F : Fun K "_law_refused" "_law_refused" s_lrefused f fd) (T : Txt mg) (mV : mg "ValueError" = none) (c_NoMirror : ClsI P w K mg base 1 "NoMirror" CM ["index"]) (oo : PySem.W.exmOne K (.ref CM) (.ref CM) = some true) (vo : PySem.W.kitOne K (.ref CM) (.type "ValueError") = some true) :
    FnH P w K mg base CX0 11 f fd ["_law_call"] (spRefM P w K mg base CM) := by
  refine okH F sc_lrefused (fun h0 vs H Q E h => ?_) (fun cdv A outer s H vs Q E hg hr h => ?_)
  · obtain ⟨f1, F1, fr, ws, spl, rfl, _⟩ := h
    rfl
  · have hu := hu_of hr
    obtain ⟨f1, F1, fr, ws, spl, rfl, L, hf1, hc1, C1, k⟩ := h
    refine ⟨_, PSs.nox (pss_cons (ps_try_each (W0 := fun _ _ _ _ => False) (tb := tTryLamE f1 F1 ws spl 2) rfl rfl sc_lrefused.nd takes0 (fun W pn xe tk _ => pss_tryLamE tk C1 rfl L hg hr (by decide) rfl rfl (Or.inl rfl))
      (.named (c := .ref CM) (i := 1) rfl rfl ⟨by rfl, by decide, .inl c_NoMirror.hm⟩ (fun a oe cls d pn hz hf => pss_one (ps_ret (pe_ifExp (pt_val (pe_callB (call_isEd c_NoMirror.T hz hf) (by rfl) T.isinstance (by decide +kernel) (pa_cons (pv 1) (pa_cons (pe_bltn (v := .ty "ValueError") (by rfl) mV rfl rfl) pa_nil)))) (pe_xf c_NoMirror.T.xf (c_NoMirror.no _ (by simp)) hz hf (pv 1)) pe_str))) .nil)) (pss_one (ps_ret pe_non))), ?_⟩
    refine ⟨Emir CM Q, fun cls d σ2 H2 le hE => ?_, rfl, hf1, hc1, k⟩
    have s1 : ∀ a : Addr, (σ2.set 1 (some (V.ref a)))[1]? = some (some (V.ref a)) := fun a => by rw [List.getElem?_set_self (by omega)]
    obtain ⟨rfl, dd, i, rfl, hd, q⟩ := hE
    refine ⟨true, oo, fun _ a na => ?_, fun z => nomatch z⟩
    refine ⟨.ref a, s1 a, .ty "ValueError", .type "ValueError", true, dd, _, rfl, rfl, rfl, hd, (fun u r => r), vo, _, rfl, ?_⟩
    exact iteT ⟨.ref a, s1 a, rfl, rfl, dd, _, _, rfl, hd, rfl, q⟩
end
end Vk
set_option Elab.async false
set_option maxRecDepth 100000
set_option maxHeartbeats 4000000
set_option linter.all false
namespace Vk
open PySem PySem.Spec PyProof.Rows L2
/-! ## for i, c in enumerate(x), x a text -/
/-! ## loops over these -/
end Vk
set_option Elab.async false
set_option maxRecDepth 100000
set_option linter.all false
namespace Vk
open PySem PySem.Spec PyProof.Rows L2
/-- the letters of a text, one by one -/
def onesL (x : Str) : List Str := x.cps.toList.map fun c => (⟨#[c]⟩ : Str)
theorem onesL_len (x : Str) : (onesL x).length = x.length := by
  unfold onesL
  rw [List.length_map]
  exact Array.length_toList
theorem signs_are : ∀ (cs : List Nat) (vs : List Value), vs.length = cs.length → (∀ (i : Nat) (v : Value), vs[i]? = some v → ∃ c u, cs[i]? = some c ∧ v = Value.str ⟨#[c]⟩ u) → StrsAre vs (cs.map fun c => (⟨#[c]⟩ : Str))
  | [], [], _, _ => .nil
  | c :: cs, v :: vs, hl, h => by
    obtain ⟨c', u, e, ev⟩ := h 0 v rfl
    cases e
    subst ev
    exact .cons _ u (signs_are cs vs (Nat.succ.inj hl) fun i v' e => h (i + 1) v' e)
theorem signs_str {x : Str} {acc : Array Value} (h : ItemsOf (SignAt x) acc x.cps.size) : StrsAre acc.toList (onesL x) := by
  refine signs_are _ _ ?_ fun i v e => ?_
  · rw [Array.length_toList, Array.length_toList]
    exact h.1
  · obtain ⟨c, u, ec, ev⟩ := h.2 i v (by rw [← Array.getElem?_toList]; exact e)
    exact ⟨c, u, by rw [Array.getElem?_toList]; exact ec, ev⟩
section
variable {X : Cx}
/-- sorted(x), x a text -/
def rSortStr : List V → Hp → VK → Prop := fun vs H Q => ∃ x : Str, vs = [V.str x] ∧ x.length ≤ sizeLine ∧ ∀ (ys : List Str) p, ys.Perm (onesL x) → sortedS ys = true → H p = none → Q (.ref p) (upd H p (.lst (ys.map V.str)))
theorem cr_sortStr (hc : X.calm = true) : CallR X (.builtin "sorted") rSortStr := by
  intro pins s σ H vs us Q I r h
  obtain ⟨x, rfl, hx, q⟩ := h
  obtain ⟨u, rfl, rx⟩ := vals1 r
  obtain ⟨t, rfl⟩ := rx
  refine Calls.call_function_entry kind_sorted plain_sorted entry_sorted (args_sorted1 _) ?_
  unfold Builtin.«sorted»
  refine wpAny_bind (m := checkCount "sorted" 1 1 _) (wpAny_pure ?_)
  refine wpAny_bind (wpAny_collect_str (A := X.A.in1) (I.ok.hd hc) x t (fun s1 acc k1 g1 d1 o1 hi => ?_) (hn := hx))
  have hS := signs_str hi
  have hvl : acc.toList.length = x.cps.size := by rw [Array.length_toList]; exact hi.1
  refine wpAny_bind (wpAny_newList ?_ (by rw [hvl]; exact hx))
  have hoL : (s1.heap.push (seqObj "list" acc.toList.toArray 0)).get? s1.heap.objs.size = some (seqObj "list" acc.toList.toArray 0) := Heap.get?_push_size _ rfl
  refine wpAny_bind (wpAny_holding (wpAny_call_entry slot_list_sort ⟨_, hoL, rfl⟩ entry_list_sort (list_sort_treeKAny strKind_oneLt hoL hS.keysOf (fun v₁ v₂ rest e => keyKind_strs (by rw [← e]; exact hS)) (by rw [hvl]; exact hx) fun st' hp hs => ⟨_, rfl, ?_⟩) (args_list_sort _)))
  obtain ⟨ss', a1, a2, a3⟩ := sorted_out_str hS hp hs
  obtain ⟨c, hc2⟩ := sortedHeap_at (vs := acc.toList) (out := (arrOf st').map (·.2)) hoL
  have hp1 : s.heap.get? s1.heap.objs.size = none := by
    cases q : s.heap.get? s1.heap.objs.size with
    | none => rfl
    | some o => exact absurd (Heap.lt_size (k1 _ _ q)) (Nat.lt_irrefl _)
  have hp2 : H s1.heap.objs.size = none := (I.hok.kept k1).fresh (Nat.le_refl _)
  have kz : ∀ b u, s.heap.get? b = some u → (sortedHeap (s1.heap.push (seqObj "list" acc.toList.toArray 0)) s1.heap.objs.size acc.toList ((arrOf st').map (·.2))).get? b = some u := fun b u e => by
    have q := k1 b u e
    have hlt := Heap.lt_size q
    rw [sortedHeap_old (Nat.ne_of_lt hlt) (by rw [size_push']; exact Nat.lt_succ_of_lt hlt)]
    exact Heap.get?_push_of_some _ q
  have hlen : (ss'.map V.str).length ≤ sizeLine := by rw [List.length_map, a2.length_eq, onesL_len]; exact hx
  have J := Inv.laidN (a := s1.heap.objs.size) (o := .lst (ss'.map V.str)) (t' := s1.toks) I kz hp1 hp2 ⟨hlen, ((arrOf st').map (·.2)).toList, c, vals_of_strs a1, hc2⟩
  have e : ∀ h' : Heap, ({ s1 with heap := h' } : Shared) = { s with heap := h', toks := s1.toks } := fun h' => by
    cases s1
    cases s
    cases g1
    cases d1
    cases o1
    rfl
  refine wpAny_pure ⟨_, rfl, ?_⟩
  rw [show ({ heap := sortedHeap (s1.heap.push (seqObj "list" acc.toList.toArray 0)) s1.heap.objs.size acc.toList ((arrOf st').map (·.2)), gens := s1.gens, drawn := s1.drawn, toks := s1.toks, os := s1.os } : Shared) = _ from e _]
  exact ⟨.ref _, _, J, rfl, q ss' _ a2 a3 hp2⟩
end
end Vk
set_option Elab.async false
set_option maxRecDepth 100000
set_option linter.all false
set_option maxHeartbeats 4000000
namespace Vk
open PySem PySem.Spec PyProof.Rows L2 LamX NdefX StX
section
variable {P : Program} {w : World} {K : PySem.W.Frag} {mg : Str → Option Value} {base : Heap}
variable {C_Once C_First C_Perhaps C_Every C_AtOnce C_Edit C_Program C_NoPlace C_Overlap C_InvalidText : Addr}
theorem app_ltr (x y : Str) : (x ++ y).cps.toList = x.cps.toList ++ y.cps.toList := by
  show (x.cps ++ y.cps).toList = _
  exact Array.toList_append
theorem none_up {H H1 : Hp} {a : Addr} (s : Same H H1) (h : H1 a = none) : H a = none := by
  cases q : H a with
  | none => rfl
  | some o =>
    have := s _ _ q
    rw [h] at this
    cases this
theorem upd_out {H H1 : Hp} {l : Addr} {o : HO} (hl : H l = none) (s : Same H H1) : Same H (upd H1 l o) := fun b o2 h => by
  rw [upd_ne (ne_of_none h hl)]
  exact s _ _ h
/-- all texts of some letters -/
def spTexts : Sp := fun vs H Q _ => ∃ z : Str, vs = [.str z, .int (5 : Nat)] ∧ z.length ≤ 2 ∧
  ∀ l (fs : List Str) H', Same H H' → H l = none → H' l = some (.lst (fs.map V.str)) → (∀ x ∈ fs, Word z 0 5 x) → fs.length ≤ 64 → Q (.ref l) H'
theorem word_one {z : Str} {x : Str} {i : Nat} {y : Str} (h : Word z 0 i x) (hy : y ∈ onesL z) : Word z 0 (i + 1) (x ++ y) := by
  obtain ⟨c, hc, rfl⟩ := List.mem_map.mp hy
  refine ⟨Nat.zero_le _, ?_, fun d hd => ?_⟩
  · show (x ++ (⟨#[c]⟩ : Str)).cps.toList.length ≤ _
    rw [app_ltr, List.length_append]
    exact Nat.add_le_add h.2.1 (Nat.le_refl 1)
  · rw [app_ltr] at hd
    rcases List.mem_append.mp hd with hd | hd
    · exact h.2.2 d hd
    · rw [List.mem_singleton.mp (show d ∈ [c] from hd)]
      exact hc
abbrev s_ltexts : Stmt := top 54
theorem sc_ltexts : FnScope ["_law_signs_here", "_law_most_letters", "_law_found", "_law_tip", "_law_k", "_law_longer", "_law_text_here", "_law_sign"] ["_law_signs_here", "_law_most_letters"] (defScope s_ltexts) := ⟨rfl, rfl, rfl, by decide +kernel, rfl, by decide +kernel, by decide +kernel⟩
theorem b_ltexts {f : Addr} {fd : FuncData} (F : Fun K "_law_texts" "_law_texts" s_ltexts f fd) (T : Txt mg) (mSorted : mg "sorted" = none) : FnG P w K mg base CX0 1 f fd ["_law_signs_here", "_law_most_letters"] spTexts := by
  refine okG0 F sc_ltexts (fun vs H Q E h => ?_) (fun cdv A outer s H vs Q E hg hr h => ?_)
  · obtain ⟨z, rfl, _⟩ := h
    rfl
  · have hu := hu_of hr
    have hu64 := hr.units
    obtain ⟨z, rfl, k⟩ := h
    refine ⟨_, (pss_cons (ps_par (i := 2) (j := 3) (by rfl) sc_ltexts.nd rfl rfl (by decide) rfl rfl (pa_cons (pe_lst (pa_cons pe_str pa_nil)) (pa_cons (pe_lst (pa_cons pe_str pa_nil)) pa_nil)) (by rfl))
      (pss_cons (ps_for PassesOwn.never rfl (pi_range1 rfl T.range (pa_cons (pv 1) pa_nil)) (pg_name (i := 4) sc_ltexts.nd rfl (Or.inl rfl)) (pss_cons (ps_set (i := 5) sc_ltexts.nd rfl (Or.inl rfl) (pe_lst pa_nil))
      (pss_cons (ps_for PassesOwn.never rfl (pi_list (pv 3)) (pg_name (i := 6) sc_ltexts.nd rfl (Or.inr rfl)) (pss_one (ps_expr (pe_bm PySem.F.plainAttrs_list PySem.F.slot_list_extend PySem.F.type_list_extend mt_extend (pv 5) (pa_cons (pe_lc (own := [("_law_sign", 7)]) (g := gName 7) (tt := tYes) rfl sc_ltexts.nd (pi_list (pe_callB (cr_sortStr rfl) (by rfl) mSorted (by decide +kernel) (pa_cons (pv 0) pa_nil))) (blkOk_by (own := [("_law_sign", 7)]) (N := ["_law_signs_here", "_law_most_letters", "_law_found", "_law_tip", "_law_k", "_law_longer", "_law_text_here", "_law_sign"]) (sc := defScope s_ltexts) (by decide +kernel)) (fun _ _ _ _ _ => (pg_name (i := 7) sc_ltexts.nd rfl (Or.inl rfl))) (fun _ _ _ _ _ => pts_nil) (fun _ _ _ _ _ => (pe_op op_add_str (pv 6) (pv 7)))) pa_nil)))))
      (pss_one (ps_par (i := 2) (j := 3) (by rfl) sc_ltexts.nd rfl rfl (by decide) rfl rfl (pa_cons (pe_op op_cat (pv 2) (pv 5)) (pa_cons (pv 5) pa_nil)) (by rfl))))))
      (pss_one (ps_ret (pv 2))))), ?_⟩
    obtain ⟨hz, k⟩ := k
    have sz : ∀ n : Nat, n ≤ 1000 → n ≤ sizeLine := fun n h => Nat.le_trans h (by decide)
    refine ⟨sz 1 (by decide), fun l1 hl1 => ⟨sz 1 (by decide), fun l2 hl2 => ?_⟩⟩
    have s1 := same_new (o := .lst [.str ""]) hl1
    have s2 := s1.trans (same_new (o := .lst [.str ""]) hl2)
    have n12 : l1 ≠ l2 := ne_of_none upd_same hl2
    have hl2H := none_up s1 hl2
    refine ⟨_, _, rfl, _, rfl, _, rfl, by decide, by decide, ?_⟩
    refine for_range (lo := 0) (n := ((5 : Nat) : Int).toNat) (fun i σ H2 => ∃ (f t : Addr) (fs ts : List Str) (o4 o5 o6 : Option V), σ = [some (.str z), some (.int (5 : Nat)), some (.ref f), some (.ref t), o4, o5, o6, none] ∧ Same H H2 ∧ H f = none ∧ H t = none ∧ H2 f = some (.lst (fs.map V.str)) ∧ H2 t = some (.lst (ts.map V.str)) ∧ (∀ x ∈ fs, Word z 0 5 x) ∧ (∀ x ∈ ts, Word z 0 i x) ∧ ts.length ≤ 2 ^ i ∧ fs.length + 1 ≤ 2 ^ (i + 1)) ?_ ?_ ?_
    · have w0 : ∀ n, ∀ x ∈ ([""] : List Str), Word z 0 n x := fun n x hx => by
        rw [List.mem_singleton.mp hx]
        exact ⟨Nat.zero_le _, Nat.zero_le _, fun c hc => nomatch hc⟩
      exact ⟨l1, l2, [""], [""], none, none, none, rfl, s2, hl1, hl2H, (upd_ne n12).trans upd_same, upd_same, w0 5, w0 0, by decide, by decide⟩
    · rintro i σ H2 hi ⟨f, t, fs, ts, o4, o5, o6, rfl, s2, nf, nt, hf, ht, wf, wt, lt, lf⟩
      have hi : i < 5 := hi
      have p5 : 2 ^ i ≤ 2 ^ 4 := Nat.pow_le_pow_right (by decide) (by omega)
      rw [Nat.pow_succ] at lf
      refine ⟨by show 0 ≤ sizeLine; decide, fun lo hlo => ?_⟩
      have so := same_new (o := .lst []) hlo
      have hloH := none_up s2 hlo
      refine ⟨_, rfl, t, rfl, ⟨_, SqL.of (so _ _ ht)⟩, ?_⟩
      refine for_list (xs := ts.map V.str) (fun j σ H3 => ∃ (o6 : Option V) (gs : List Str), σ = [some (.str z), some (.int (5 : Nat)), some (.ref f), some (.ref t), some (.int ((0 : Int) + (i : Nat))), some (.ref lo), o6, none] ∧ Same H2 H3 ∧ H3 lo = some (.lst (gs.map V.str)) ∧ (∀ x ∈ gs, Word z 0 (i + 1) x) ∧ gs.length ≤ 2 * j) ?_ ?_ ?_ ?_
      · exact ⟨_, [], rfl, so, upd_same, fun x hx => absurd hx List.not_mem_nil, Nat.le_refl _⟩
      · rintro j σ H3 _ ⟨o6, gs, rfl, s3, _⟩
        exact SqL.of (s3 _ _ ht)
      · rintro j v σ H3 hv ⟨o6, gs, rfl, s3, hg, wg, lg⟩
        have hj := (List.getElem?_eq_some_iff.mp hv).1
        rw [List.length_map] at hj
        obtain ⟨x, hx, rfl⟩ := List.mem_map.mp (List.mem_of_getElem? hv)
        have wx := wt x hx
        have x5 : x.length ≤ 5 := Nat.le_trans wx.2.1 (by omega)
        refine ⟨_, rfl, .inl ⟨rfl, _, SqL.of hg⟩, ?_⟩
        refine ⟨_, rfl, z, rfl, sz _ (by omega), fun ys p hp sr hpn => ?_⟩
        have sp := same_new (o := .lst (ys.map V.str)) hpn
        have ly : ys.length ≤ 2 := by
          rw [hp.length_eq, onesL_len]
          exact hz
        refine ⟨p, rfl, ⟨_, SqL.of upd_same⟩, fun D hD => ?_⟩
        have sD := same_new (o := .lst []) hD
        refine lc_list (K := K) (a := p) (xs := ys.map V.str) (fun n H' => Same (upd H3 p (.lst (ys.map V.str))) H' ∧ H' D = some (.lst (((ys.take n).map fun y => x ++ y).map V.str))) ?_ ?_ ?_ ?_
        · exact ⟨sD, upd_same⟩
        · rintro n H' _ ⟨sm, _⟩
          exact SqL.of (sm _ _ upd_same)
        · rintro n v H' hv2 ⟨sm, hD2⟩
          obtain ⟨y, hy, rfl⟩ := List.mem_map.mp (List.mem_of_getElem? hv2)
          obtain ⟨hn, ey⟩ := List.getElem?_eq_some_iff.mp hv2
          rw [List.length_map] at hn
          rw [List.getElem_map] at ey
          have ey : ys[n] = y := V.str.inj ey
          have ly1 : y.length = 1 := by
            obtain ⟨c, _, rfl⟩ := List.mem_map.mp (hp.mem_iff.mp hy)
            rfl
          refine ⟨rfl, _, rfl, _, rfl, _, _, rfl, rfl, sz _ (by omega), _, hD2, few_len (by rw [List.length_map, List.length_map, List.length_take]; omega), ?_, ?_⟩
          · exact upd_out hD sm
          · rw [upd_same, List.take_add_one, List.getElem?_eq_getElem hn, ey]
            simp
        · rintro H' ⟨sm, hD2⟩
          rw [List.take_of_length_le (by rw [List.length_map]; exact Nat.le_refl _)] at hD2
          have sall := (s3.trans sp).trans sm
          have lys : (ys.map fun y => x ++ y).length ≤ 2 := by rw [List.length_map]; exact ly
          have hjt : ts.length ≤ 16 := Nat.le_trans lt p5
          have hlo2 : (upd H3 p (.lst (ys.map V.str))) lo = some (.lst (gs.map V.str)) := sp _ _ hg
          refine ⟨lo, D, _, _, rfl, rfl, sm _ _ hlo2, hD2, sz _ (by rw [List.length_map, List.length_map, List.length_map] at *; omega), ?_⟩
          refine ⟨_, gs ++ ys.map (fun y => x ++ y), rfl, upd_out hlo sall, by rw [upd_same, List.map_append], fun g hg => ?_, by rw [List.length_append]; omega⟩
          rcases List.mem_append.mp hg with hg | hg
          · exact wg g hg
          · obtain ⟨y, hy, rfl⟩ := List.mem_map.mp hg
            exact word_one wx (hp.mem_iff.mp hy)
      · rintro σ H3 ⟨o6, gs, rfl, s3, hg, wg, lg⟩
        rw [List.length_map] at lg
        have lt16 : ts.length ≤ 16 := Nat.le_trans lt p5
        refine ⟨_, rfl, _, rfl, f, lo, _, _, rfl, rfl, s3 _ _ hf, hg, sz _ (by rw [List.length_map, List.length_map]; omega), fun n hn => ?_⟩
        have sn := same_new (o := .lst (fs.map V.str ++ gs.map V.str)) hn
        have s2n := s2.trans s3
        refine ⟨_, rfl, _, _, rfl, n, lo, fs ++ gs, gs, _, _, _, rfl, s2n.trans sn, none_up s2n hn, hloH, by rw [upd_same, List.map_append], sn _ _ hg, fun g hg => ?_, wg, by rw [Nat.pow_succ]; omega, by rw [List.length_append, Nat.pow_succ, Nat.pow_succ]; omega⟩
        rcases List.mem_append.mp hg with hg | hg
        · exact wf g hg
        · have h := wg g hg
          exact ⟨h.1, Nat.le_trans h.2.1 (by omega), h.2.2⟩
    · rintro σ H2 ⟨f, t, fs, ts, o4, o5, o6, rfl, s2, nf, nt, hf, ht, wf, wt, lt, lf⟩
      exact ⟨_, rfl, k f fs H2 s2 nf hf wf (by have : (2 : Nat) ^ (((5 : Nat) : Int).toNat + 1) = 64 := by decide
                                               omega)⟩
end
end Vk
set_option Elab.async false
set_option maxRecDepth 100000
set_option maxHeartbeats 4000000
set_option linter.all false
namespace Vk
open PySem PySem.Spec PyProof.Rows L2
/-! ## != of a list and the empty list -/
def rNeNil (K : PySem.W.Frag) : R2 := fun x y H Q => ∃ a xs b, x = .ref a ∧ y = .ref b ∧ SqL K H a xs ∧ SqL K H b [] ∧ Q (.bl (!decide (xs.length = 0))) H
theorem op_neNil {X : Cx} (hu : X.A.units + 64 < cLine) : OpR X (compareOp .NotEq) (rNeNil X.K) := by
  intro pins s σ H x y v u Q I rx ry h
  obtain ⟨a, xs, b, rfl, rfl, ha, hb, q⟩ := h
  cases (show v = Value.ref a from rx)
  cases (show u = Value.ref b from ry)
  obtain ⟨us, r1, p1, _⟩ := I.list ha
  obtain ⟨ws, r2, p2, _⟩ := I.list hb
  cases r2
  cases xs with
  | nil =>
    cases r1
    exact (SeqAt.RcNeAt.lists (e := fun _ => true) p1.isList p2.isList rfl (by omega) (fun j h1 h2 => absurd h1 (by simp))) _ _ _ _ ⟨.bl false, H, I, rfl, q⟩
  | cons y ys =>
    cases r1 with
    | cons r rs => exact (SeqAt.RcNeAt.lists_lengths p1.isList p2.isList (by simp) (by omega)) _ _ _ _ ⟨.bl true, H, I, rfl, q⟩
end Vk
set_option Elab.async false
set_option maxRecDepth 100000
set_option linter.all false
set_option maxHeartbeats 4000000
namespace Vk
open PySem PySem.Spec PyProof.Rows L2 LamX NdefX StX
section
variable {P : Program} {w : World} {K : PySem.W.Frag} {mg : Str → Option Value} {base : Heap}
/-- shuffled: the same in some order, in a new list -/
def spShuf : Sp := fun vs H Q _ => ∃ (p c l : Addr) (xs : List V) (T : Nat), vs = [.ref p, .ref l] ∧ H l = some (.lst xs) ∧ xs.length ≤ 1000 ∧ Pen H p c T ∧ T + xs.length < 1000000000 ∧
  ∀ n ys H', List.Perm ys xs → H n = none → H' n = some (.lst ys) → Pen H' p c (T + xs.length) → Ext p H H' → Q (.ref n) H'
theorem seq_at {m : Int} {n : Nat} (h0 : 0 ≤ m) (h1 : m < n) : seqIndex? m n = some m.toNat := by
  unfold seqIndex?
  simp only [ge_iff_le]
  split <;> first | rfl | omega | (split <;> first | rfl | omega) | (simp; omega)
theorem perm_erase : ∀ {xs : List V} {k : Nat} (h : k < xs.length), List.Perm (xs[k] :: xs.eraseIdx k) xs
  | _ :: _, 0, _ => List.Perm.refl _
  | y :: ys, k + 1, h => (List.Perm.swap y _ _).trans (List.Perm.cons y (perm_erase (xs := ys) (k := k) (Nat.lt_of_succ_lt_succ h)))
abbrev s_lshuffled : Stmt := top 47
theorem sc_lshuffled : FnScope ["_law_pen_here", "_law_items", "_law_left", "_law_found"] ["_law_pen_here", "_law_items"] (defScope s_lshuffled) := ⟨rfl, rfl, rfl, by decide +kernel, rfl, by decide +kernel, by decide +kernel⟩
theorem b_lshuffled {f : Addr} {fd : FuncData} (F : Fun K "_law_shuffled" "_law_shuffled" s_lshuffled f fd) (T : Txt mg) (c_ldraw : CalG P w K mg base CX0 1 "_law_draw" spDraw) : FnG P w K mg base CX0 2 f fd ["_law_pen_here", "_law_items"] spShuf := by
  refine okG0 F sc_lshuffled (fun vs H Q E h => ?_) (fun cdv A outer s H vs Q E hg hr h => ?_)
  · obtain ⟨p, c, l, xs, T, rfl, _⟩ := h
    rfl
  · have hu := hu_of hr
    have hu64 := hr.units
    obtain ⟨p, pc, l, xs, T0, rfl, hl, hx, hpen, hT, k⟩ := h
    refine ⟨_, (pss_cons (ps_par (i := 2) (j := 3) (by rfl) sc_lshuffled.nd rfl rfl (by decide) rfl rfl (pa_cons (pe_callTy call_list_of (by rfl) T.list (by decide +kernel) (pa_cons (pv 1) pa_nil)) (pa_cons (pe_lst pa_nil) pa_nil)) (by rfl))
      (pss_cons (ps_while PassesOwn.never (pt_cmpR (op_neNil hu64) (pv 2) (pe_lst pa_nil) (nomark _)) (pss_one (ps_expr (pe_bm PySem.F.plainAttrs_list PySem.F.slot_list_append PySem.F.type_list_append mt_append (pv 3) (pa_cons (pe_bm PySem.F.plainAttrs_list PySem.F.slot_list_pop PySem.F.type_list_pop mt_popAt (pv 2) (pa_cons (pe_cG c_ldraw hg hr (by decide) pass0 (pa_cons (pv 0) (pa_cons (pe_callB call_len (by rfl) T.len (by decide +kernel) (pa_cons (pv 2) pa_nil)) pa_nil))) pa_nil)) pa_nil)))))
      (pss_one (ps_ret (pv 3))))), ?_⟩
    refine ⟨_, rfl, l, xs, rfl, .inl (SqL.of hl), fun l1 hl1 => ⟨few_len (Nat.zero_le _), fun l2 hl2 => ?_⟩⟩
    have s1 := same_new (o := .lst xs) hl1
    have s2 := s1.trans (same_new (o := .lst []) hl2)
    have n12 : l1 ≠ l2 := ne_of_none upd_same hl2
    have hl2H := none_up s1 hl2
    have a1 := hpen.apart hl1
    have a2 := hpen.apart hl2H
    refine ⟨_, _, rfl, ?_⟩
    refine ⟨fun m σ H' => ∃ ls fs, σ = [some (.ref p), some (.ref l), some (.ref l1), some (.ref l2)] ∧ H' l1 = some (.lst ls) ∧ H' l2 = some (.lst fs) ∧ List.Perm (fs ++ ls) xs ∧ Pen H' p pc (T0 + fs.length) ∧ Ext p H H' ∧ m = ls.length, ⟨_, xs, [], rfl, (upd_ne n12).trans upd_same, upd_same, List.Perm.refl _, hpen.stay s2, .same s2, rfl⟩, ?_⟩
    rintro m σ H1 ⟨ls, fs, rfl, h1, h2, pm, P1, x1, rfl⟩
    have len : fs.length + ls.length = xs.length := by rw [← List.length_append]; exact pm.length_eq
    refine ⟨_, rfl, few_len (Nat.zero_le _), fun q hq => ⟨l1, ls, q, rfl, rfl, SqL.of ((same_new hq) _ _ h1), SqL.of upd_same, _, rfl, ?_⟩⟩
    have sq := same_new (o := .lst []) hq
    have P2 := P1.stay sq
    have x2 := x1.trans (.same sq)
    have h1' := sq _ _ h1
    have h2' := sq _ _ h2
    generalize upd H1 q (.lst []) = H2 at P2 x2 h1' h2' ⊢
    match ls, h1', pm, len with
    | [], h1', pm, len =>
      refine iteF ⟨_, rfl, k l2 fs H2 (by rw [List.append_nil] at pm; exact pm) hl2H h2' ?_ x2⟩
      rw [List.length_nil] at len
      rw [← len]
      exact P2
    | y :: ys, h1', pm, len =>
      rw [List.length_cons] at len
      refine iteT ⟨fun σ' H' => ∃ ls fs, σ' = [some (.ref p), some (.ref l), some (.ref l1), some (.ref l2)] ∧ H' l1 = some (.lst ls) ∧ H' l2 = some (.lst fs) ∧ List.Perm (fs ++ ls) xs ∧ Pen H' p pc (T0 + fs.length) ∧ Ext p H H' ∧ ls.length = ys.length, ?_, ?_⟩
      · rintro σ' H' ⟨ls, fs, e, q1, q2, q3, q4, q5, q6⟩
        exact ⟨_, by rw [List.length_cons, q6]; exact Nat.lt_succ_self _, ls, fs, e, q1, q2, q3, q4, q5, rfl⟩
      · refine ⟨_, rfl, .inl ⟨rfl, _, SqL.of h2'⟩, ?_⟩
        refine ⟨_, rfl, .inl ⟨rfl, _, SqL.of h1'⟩, ?_⟩
        refine ⟨_, rfl, _, rfl, .ref l1, _, rfl, .inl ⟨_, SqL.of h1', rfl⟩, p, pc, _, _, rfl, by rw [List.length_cons]; omega, by rw [List.length_cons]; omega, P2, by omega, fun d H3 d0 d1 P3 x3 => ?_⟩
        have g1 := P2.keepI x3 h1'
        have g2 := P2.keepI x3 h2'
        have dl : d.toNat < (y :: ys).length := by omega
        refine ⟨l1, _, d, d.toNat, (y :: ys)[d.toNat], rfl, rfl, g1, by omega, by rw [List.length_cons] at d1; omega, seq_at d0 d1, List.getElem?_eq_getElem dl, ?_⟩
        have g2' : (upd H3 l1 (.lst ((y :: ys).eraseIdx d.toNat))) l2 = some (.lst fs) := (upd_ne n12.symm).trans g2
        refine ⟨l2, fs, _, rfl, rfl, g2', few_lt (by omega), ?_⟩
        refine ⟨_, _, rfl, (upd_ne n12).trans upd_same, upd_same, ?_, ?_, ?_, ?_⟩
        · refine List.Perm.trans ?_ pm
          rw [List.append_assoc]
          exact List.Perm.append_left _ (perm_erase dl)
        · rw [List.length_append, List.length_singleton, ← Nat.add_assoc]
          exact (P3.set a1.1 a1.2).set a2.1 a2.2
        · exact ((x2.trans x3).set hl1).set hl2H
        · rw [List.length_eraseIdx_of_lt dl, List.length_cons]
          rfl
end
end Vk
set_option Elab.async false
set_option maxRecDepth 100000
set_option linter.all false
set_option maxHeartbeats 4000000
namespace Vk
open PySem PySem.Spec PyProof.Rows L2 LamX NdefX StX
section
variable {P : Program} {w : World} {K : PySem.W.Frag} {mg : Str → Option Value} {base : Heap}
def Ltr (x : Str) : Prop := ∀ c ∈ x.cps.toList, c ∈ letS.cps.toList
theorem Ltr.more {x y : Str} (h1 : Ltr x) (h2 : Ltr y) : Ltr (x ++ y) := fun c hc => by
  rw [app_ltr] at hc
  rcases List.mem_append.mp hc with h | h
  · exact h1 c h
  · exact h2 c h
theorem Ltr.mul {x : Str} {n : Int} (h1 : Ltr x) (h : 0 ≤ n) : Ltr (Txt.mul x n) := fun c hc => by
  rw [mul_list x n h] at hc
  obtain ⟨l, hl, hc⟩ := List.mem_flatten.mp hc
  rw [List.eq_of_mem_replicate hl] at hc
  exact h1 c hc
theorem plain_parts {H : Hp} {v : V} {e : EdM} (h : Plain H v e) : ∃ t t2 s ws, v = .ref t ∧ H t = some (.tup [.str s, .ref t2]) ∧ H t2 = some (.tup ws) ∧ Prts H ws (partsE e) := by
  cases e with
  | one n z1 z2 =>
    obtain ⟨_, t, t2, t3, rfl, h1, h2, h3⟩ := h
    exact ⟨t, t2, _, _, rfl, h1, h2, .cons ⟨t3, rfl, h3⟩ .nil⟩
  | many ps =>
    obtain ⟨t, t2, rfl, h1, ws, h2, pr⟩ := h
    exact ⟨t, t2, _, ws, rfl, h1, h2, pr⟩
def spSeed9 : Sp := fun vs H Q _ => ∃ (p c l : Addr) (sg : Str) (xs : List V) (es : List EdM) (T : Nat), vs = [.ref p, .str sg, .ref l] ∧ Few sg ∧ H l = some (.lst xs) ∧ Plains H xs es ∧ es.length ≤ 4 ∧ (∀ e ∈ es, (partsE e).length ≤ 3 ∧ ∀ q ∈ partsE e, Word sg 0 3 q.1) ∧ Pen H p c T ∧ T + 300 < 1000000000 ∧
  ∀ x H', x.length ≤ 3 + 24 * es.length → Ltr x → Pen H' p c (T + 60) → Ext p H H' → Q (.str x) H'
abbrev s_lseeded : Stmt := top 57
theorem sc_lseeded : FnScope ["_law_pen_here", "_law_signs_here", "_law_plains", "_law_found", "_law_plain", "_law_pair"] ["_law_pen_here", "_law_signs_here", "_law_plains"] (defScope s_lseeded) := ⟨rfl, rfl, rfl, by decide +kernel, rfl, by decide +kernel, by decide +kernel⟩
theorem b_lseeded {f : Addr} {fd : FuncData} (F : Fun K "_law_seeded" "_law_seeded" s_lseeded f fd) (T : Txt mg) (c_lpick : CalG P w K mg base CX0 2 "_law_pick" (spPick K)) (c_lword : CalG P w K mg base CX0 3 "_law_word" spWord) : FnG P w K mg base CX0 4 f fd ["_law_pen_here", "_law_signs_here", "_law_plains"] spSeed9 := by
  refine okG0 F sc_lseeded (fun vs H Q E h => ?_) (fun cdv A outer s H vs Q E hg hr h => ?_)
  · obtain ⟨p, c, l, sg, xs, es, T, rfl, _⟩ := h
    rfl
  · have hu := hu_of hr
    have hu64 := hr.units
    obtain ⟨p, pc, l, sg, xs, es, T0, rfl, fz, hl, pls, e4, ew, hpen, hT, k⟩ := h
    have fl1 : ∀ {a b : Nat} {x : Str}, Word sg a b x → Ltr x := fun g c hc => fz.2.2 c (g.2.2 c hc)
    have gl := paired_len pls
    refine ⟨_, (pss_cons (ps_set (i := 3) sc_lseeded.nd rfl (Or.inl rfl) (pe_cG c_lword hg hr (by decide) pass0 (pa_cons (pv 0) (pa_cons (pv 1) (pa_cons pe_int (pa_cons pe_int pa_nil))))))
      (pss_cons (ps_for PassesOwn.never rfl (pi_list (pv 2)) (pg_name (i := 4) sc_lseeded.nd rfl (Or.inl rfl)) (pss_one (ps_for PassesOwn.never rfl (pi_tup (pe_ix ix_seq (pv 4) pe_int (fun _ _ => rfl))) (pg_name (i := 5) sc_lseeded.nd rfl (Or.inl rfl)) (pss_one (ps_set (i := 3) sc_lseeded.nd rfl (Or.inl rfl) (pe_op op_add_str (pe_op op_add_str (pv 3) (pe_op op_mulS (pe_ix ix_seq (pv 5) pe_int (fun _ _ => rfl)) (pe_cG c_lpick hg hr (by decide) pass0 (pa_cons (pv 0) (pa_cons (pe_lst (pa_cons pe_int (pa_cons pe_int (pa_cons pe_int (pa_cons pe_int (pa_cons pe_int pa_nil)))))) pa_nil))))) (pe_cG c_lword hg hr (by decide) pass0 (pa_cons (pv 0) (pa_cons (pv 1) (pa_cons pe_int (pa_cons pe_int pa_nil)))))))))))
      (pss_one (ps_ret (pv 3))))), ?_⟩
    refine ⟨_, rfl, _, rfl, p, pc, sg, 0, 3, T0, rfl, by decide, by decide, fz.1, Nat.le_trans fz.2.1 (by decide), hpen, by omega, fun w0 H1 g0 P1 x1 => ?_⟩
    have l0 : w0.length ≤ 3 := g0.2.1
    have hl1 := hpen.keepI x1 hl
    refine ⟨_, rfl, l, rfl, ⟨_, SqL.of hl1⟩, ?_⟩
    refine for_list (xs := xs) (fun i σ H' => ∃ y o4 o5, σ = [some (.ref p), some (.str sg), some (.ref l), some (.str y), o4, o5] ∧ Pen H' p pc (T0 + 4 + 12 * i) ∧ Ext p H H' ∧ y.length ≤ 3 + 24 * i ∧ Ltr y) ?_ ?_ ?_ ?_
    · exact ⟨w0, _, _, rfl, P1.mono (by omega), x1, by omega, fl1 g0⟩
    · rintro i σ H' _ ⟨y, o4, o5, rfl, P2, x2, _⟩
      exact SqL.of (hpen.keepI x2 hl)
    · rintro i v σ H2 hv ⟨y, o4, o5, rfl, P2, x2, yl, yt⟩
      obtain ⟨e, he, pe⟩ := paired_at pls hv
      have hi : i < 4 := by
        have := (List.getElem?_eq_some_iff.mp he).1
        omega
      obtain ⟨p3, wd⟩ := ew e (List.mem_of_getElem? he)
      obtain ⟨t, t2, sz, ws, rfl, h1, h2, pr⟩ := plain_parts pe
      have wl := paired_len pr
      have h1' := tup_ext hpen x2 h1
      have h2' := tup_ext hpen x2 h2
      refine ⟨_, rfl, .inr (.inl ⟨t, _, _, _, rfl, rfl, SqT.of h1', rfl, t2, rfl, ⟨_, SqT.of h2'⟩, ?_⟩)⟩
      refine for_tup (xs := ws) (fun j σ H' => ∃ y o5, σ = [some (.ref p), some (.str sg), some (.ref l), some (.str y), some (.ref t), o5] ∧ Pen H' p pc (T0 + 4 + 12 * i + 4 * j) ∧ Ext p H H' ∧ y.length ≤ 3 + 24 * i + 8 * j ∧ Ltr y) ?_ ?_ ?_ ?_
      · exact ⟨y, _, rfl, P2, x2, yl, yt⟩
      · rintro j σ H' _ ⟨y, o5, rfl, _, x3, _⟩
        exact SqT.of (tup_ext hpen x3 h2)
      · rintro j v σ H3 hv3 ⟨y, o5, rfl, P3, x3, yl, yt⟩
        obtain ⟨q, hq, t3, rfl, h3⟩ := paired_at pr hv3
        have hj : j < 3 := by
          have := (List.getElem?_eq_some_iff.mp hq).1
          omega
        have wq := wd q (List.mem_of_getElem? hq)
        have q3 : q.1.length ≤ 3 := wq.2.1
        have h3' := tup_ext hpen x3 h3
        refine ⟨_, rfl, _, rfl, .inr (.inl ⟨t3, _, _, _, rfl, rfl, SqT.of h3', rfl, ?_⟩)⟩
        refine ⟨_, rfl, few_len (Nat.le_of_ble_eq_true rfl), fun D hD => ?_⟩
        have P4 := P3.new (o := .lst [.int 1, .int 1, .int 1, .int 0, .int 2]) hD
        refine ⟨p, pc, .ref D, _, _, rfl, .lst (SqL.of upd_same), by simp, by simp, P4, by omega, fun v H4 mv P5 x5 => ?_⟩
        have x4 : Ext p H H4 := (x3.trans (Ext.new hD)).trans x5
        obtain ⟨n, rfl, n0, n2⟩ : ∃ n : Int, v = .int n ∧ 0 ≤ n ∧ n ≤ 2 := by
          simp only [List.mem_cons, List.not_mem_nil, or_false] at mv
          rcases mv with rfl | rfl | rfl | rfl | rfl
          · exact ⟨1, rfl, by decide, by decide⟩
          · exact ⟨1, rfl, by decide, by decide⟩
          · exact ⟨1, rfl, by decide, by decide⟩
          · exact ⟨0, rfl, by decide, by decide⟩
          · exact ⟨2, rfl, by decide, by decide⟩
        have ml : (Txt.mul q.1 n).length ≤ 6 := by
          rw [mul_len _ _ n0]
          have : n.toNat ≤ 2 := by omega
          exact Nat.le_trans (Nat.mul_le_mul this q3) (by decide)
        have cm : CMulS q.1 n := ⟨n0, by omega, by
          have : n.toNat ≤ 2 := by omega
          exact Nat.le_trans (Nat.mul_le_mul q3 this) (by decide), by omega⟩
        refine ⟨_, _, rfl, rfl, cm, ?_⟩
        refine ⟨_, _, rfl, rfl, by rw [sizeLine_eq]; omega, ?_⟩
        refine ⟨_, rfl, _, rfl, p, pc, sg, 0, 2, _, rfl, by decide, by decide, fz.1, Nat.le_trans fz.2.1 (by decide), P5, by omega, fun w2 H6 g2 P6 x6 => ?_⟩
        have wl2 : w2.length ≤ 2 := g2.2.1
        refine ⟨_, _, rfl, rfl, by rw [strLen_append, sizeLine_eq]; omega, ?_⟩
        exact ⟨_, _, rfl, P6.mono (by omega), x4.trans x6, by rw [strLen_append, strLen_append]; omega, (yt.more (Ltr.mul (fl1 wq) n0)).more (fl1 g2)⟩
      · rintro σ H' ⟨y, o5, rfl, P3, x3, yl, yt⟩
        exact ⟨y, _, _, rfl, P3.mono (by omega), x3, by omega, yt⟩
    · rintro σ H' ⟨y, o4, o5, rfl, P2, x2, yl, yt⟩
      exact ⟨_, rfl, k y H' (by omega) yt (P2.mono (by omega)) x2⟩
end
end Vk
set_option Elab.async false
set_option maxRecDepth 100000
set_option linter.all false
set_option maxHeartbeats 4000000
namespace Vk
open PySem PySem.Spec PyProof.Rows L2 LamX NdefX StX
section
variable {P : Program} {w : World} {K : PySem.W.Frag} {mg : Str → Option Value} {base : Heap}
variable {C_Once C_First C_Perhaps C_Every C_AtOnce C_Edit C_Program C_NoPlace C_Overlap C_InvalidText C_NoMirror : Addr}
def asgV : Stmt → Expr
  | .Assign _ v _ => v
  | _ => .Constant .none 0 ⟨0, 0, 0, 0⟩
abbrev s_law : Stmt := top 58
abbrev outF : List Stmt := forB ((defBody s_law).getD 1 nopS)
abbrev inF : List Stmt := forB (outF.getD 5 nopS)
abbrev e_l0 : Expr := arg0 (asgV (inF.getD 0 nopS))
abbrev e_l1 : Expr := arg0 (asgV (inF.getD 1 nopS))
abbrev e_l2 : Expr := arg0 (cmpL (ifT (outF.getD 10 nopS)))
/-- what the two running lambdas do (g: what becomes of the text first) -/
def spL (Cs : Nat → Addr) (Ca C CN CO CT : Addr) : SpL := fun ws H Q E => ∃ v1 v2, ws = [some v1, some v2] ∧ (∃ pr dx fs, v2 = .ref pr ∧ H pr = some (.ins C dx fs) ∧ fs.lookup ("run" : Str) = none) ∧ spRun Cs Ca C CN CO CT [v2, v1] H Q E
def spLb (Cs : Nat → Addr) (Ca C CN CO CT : Addr) : SpL := fun ws H Q E => ∃ z v2, ws = [some (.str z), some v2] ∧ z.length ≤ 1000 ∧ (∃ pr dx fs, v2 = .ref pr ∧ H pr = some (.ins C dx fs) ∧ fs.lookup ("run" : Str) = none) ∧ spRun Cs Ca C CN CO CT [v2, .str (backS z)] H Q E
theorem lk0 (c_run : MthG P w K mg base (L2.CX P w) 6 C_Program "run" (spRun (cls4 C_Once C_First C_Perhaps C_Every) C_AtOnce C_Program C_NoPlace C_Overlap C_InvalidText)) (clP : Cls K C_Program) (q : Str) (cl : List (Str × Addr)) (c : Addr) : LamK P w K mg base 7 (lam e_l0 q cl c) ["_law_body", "_law_program_here"] (spL (cls4 C_Once C_First C_Perhaps C_Every) C_AtOnce C_Program C_NoPlace C_Overlap C_InvalidText) := by
  refine lamk_of (N := ["_law_body", "_law_program_here"]) (nscope_by (show nscB _ _ _ (lamSc e_l0) = true by decide +kernel)) (fun _ _ => rfl) (fun A outer s H f ws Q E hg hr hl h => ?_)
  obtain ⟨v1, v2, rfl, ⟨pr, dx, fs, rfl, hp, hf⟩, k⟩ := h
  exact ⟨_, pe_methG (pv 1) clP c_run hg hr (by decide) (passes_call (takes_of rfl rfl rfl rfl) (fun _ _ _ _ h => h)) (pa_cons (pv 0) pa_nil), _, rfl, pr, dx, fs, rfl, hp, hf, _, rfl, k⟩
theorem lk1 (c_run : MthG P w K mg base (L2.CX P w) 6 C_Program "run" (spRun (cls4 C_Once C_First C_Perhaps C_Every) C_AtOnce C_Program C_NoPlace C_Overlap C_InvalidText)) (clP : Cls K C_Program) (q : Str) (cl : List (Str × Addr)) (c : Addr) : LamK P w K mg base 7 (lam e_l1 q cl c) ["_law_body", "_law_other"] (spLb (cls4 C_Once C_First C_Perhaps C_Every) C_AtOnce C_Program C_NoPlace C_Overlap C_InvalidText) := by
  refine lamk_of (N := ["_law_body", "_law_other"]) (nscope_by (show nscB _ _ _ (lamSc e_l1) = true by decide +kernel)) (fun _ _ => rfl) (fun A outer s H f ws Q E hg hr hl h => ?_)
  obtain ⟨z, v2, rfl, zl, ⟨pr, dx, fs, rfl, hp, hf⟩, k⟩ := h
  exact ⟨_, pe_methG (pv 1) clP c_run hg hr (by decide) (passes_call (takes_of rfl rfl rfl rfl) (fun _ _ _ _ h => h)) (pa_cons (pe_revS (pv 0)) pa_nil), _, rfl, pr, dx, fs, rfl, hp, hf, _, rfl, z, rfl, few_len zl, k⟩
end
section
variable {X : Cx} {CX : CXT} {k j : Nat} {C : Addr} {m : Str} {sp : Sp} {E : XK} {o : Expr} {ta : TE} {apos pos : Pos}
/-- o.m(), where the guards are known -/
theorem pe_methG0 {pl : Sem Bool} (he : PE X o ta) (c : Cls X.K C) (M : MthG X.prog X.w X.K X.mg X.base CX k C m sp) (hg : X.A.guards = some []) (hr : Room j X.A) (hk : k ≤ j) (hx : Passes CX X E)
    (ht : eval (.Call (.Attribute o m apos) [] [] pos) X.env = (do
      let ov ← eval o X.env
      standAt apos.atName
      let (f, first) ← holding [ov] (getMethod ov m pl)
      callWith pos f first (backTo pos (starEach [] X.env)) (backToKw pos (keywordEach [] X.env))) := by rfl) :
    PE X (.Call (.Attribute o m apos) [] [] pos) (tMeth C m sp [] E ta tNil) := by
  obtain ⟨f, fd, ps, hm, F, hb⟩ := M.ex
  refine ⟨fun pins s σ H Q I h => PySem.W.methodCall_KW (pl := pl) (thn (he.run pins s σ H _ I h) fun u s1 hh => ?_) ht⟩
  obtain ⟨x, H1, I1, rx, a, dx, fs, rfl, ea, l, q⟩ := hh
  cases (show u = Value.ref a from rx)
  refine getmeth_ok I1 ea c hm l ?_
  exact PySem.W.callWith_K0 (first := [.ref a]) I1.kIn hm.kp (run_fnG (us := [.ref a]) (vs := [.ref a]) F hg (hr.mono hk) hb hx I1 (.cons rfl .nil) q)
end
section
variable {P : Program} {w : World} {K : PySem.W.Frag} {mg : Str → Option Value} {base : Heap}
variable {C_Once C_First C_Perhaps C_Every C_AtOnce C_Edit C_Program C_NoPlace C_Overlap C_InvalidText C_NoMirror : Addr}
/-- what the third lambda does -/
def spLm (Cs : Nat → Addr) (Ca C CM : Addr) : SpL := fun ws H Q E => ∃ v1, ws = [some v1] ∧ (∃ pr dx fs, v1 = .ref pr ∧ H pr = some (.ins C dx fs) ∧ fs.lookup ("mirrored" : Str) = none) ∧ spMirP Cs Ca C CM [v1] H Q E
theorem lk2 (c_mirrored : MthG P w K mg base (L2.CX P w) 9 C_Program "mirrored" (spMirP (cls4 C_Once C_First C_Perhaps C_Every) C_AtOnce C_Program C_NoMirror)) (clP : Cls K C_Program) (q : Str) (cl : List (Str × Addr)) (c : Addr) : LamK P w K mg base 10 (lam e_l2 q cl c) ["_law_whole"] (spLm (cls4 C_Once C_First C_Perhaps C_Every) C_AtOnce C_Program C_NoMirror) := by
  refine lamk_of (N := ["_law_whole"]) (nscope_by (show nscB _ _ _ (lamSc e_l2) = true by decide +kernel)) (fun _ _ => rfl) (fun A outer s H f ws Q E hg hr hl h => ?_)
  obtain ⟨v1, rfl, ⟨pr, dx, fs, rfl, hp, hf⟩, k⟩ := h
  exact ⟨_, pe_methG0 (pv 0) clP c_mirrored hg hr (by decide) (passes_call (takes_of rfl rfl rfl rfl) (fun _ _ _ _ h => h)), _, rfl, pr, dx, fs, rfl, hp, hf, k⟩
end
end Vk
set_option Elab.async false
set_option maxRecDepth 100000
set_option linter.all false
set_option maxHeartbeats 4000000
namespace Vk
open PySem PySem.Spec PyProof.Rows L2 LamX NdefX StX
section
variable {P : Program} {w : World} {K : PySem.W.Frag} {mg : Str → Option Value} {base : Heap}
def spEqE (K : PySem.W.Frag) (C : Addr) : Sp := fun vs H Q _ => ∃ a dx z1 z2 y, vs = [.ref a, y] ∧ H a = some (.ins C dx (fl z1 z2)) ∧ ((∃ t, TyX K H y t ∧ PySem.W.kitOne K t (.ref C) = some false ∧ Q (.bl false) H) ∨
  (∃ b dy y1 y2, y = .ref b ∧ H b = some (.ins C dy (fl y1 y2)) ∧ PySem.W.kitOne K (.ref C) (.ref C) = some true ∧ Q (.bl (decide (V.str z1 = V.str y1) && decide (V.str z2 = V.str y2))) H))
abbrev m_eqOnce : Stmt := mtd (top 25) 3
theorem sc_eqOnce : FnScope ["self", "other"] ["self", "other"] (defScope m_eqOnce) := ⟨rfl, rfl, rfl, by decide +kernel, rfl, by decide +kernel, by decide +kernel⟩
theorem b_eqOnce {f C : Addr} {fd : FuncData} (F : Fun K "__eq__" "Once.__eq__" m_eqOnce f fd) (T : Txt mg) (hm : mg "Once" = some (.ref C)) (e : EdF K C) : FnOk P w K mg base CX0 1 f fd ["self", "other"] (spEqE K C) := by
  refine F.ok sc_eqOnce (fun vs H Q E h => ?_) (fun cdv A outer s H vs Q E hr h => ?_)
  · obtain ⟨a, dx, z1, z2, y, rfl, _⟩ := h
    rfl
  · obtain ⟨a, dx, z1, z2, y, rfl, ha, h⟩ := h
    refine ⟨_, (pss_one (ps_ret (pe_and (pe_callB call_isi (by rfl) T.isinstance (by decide +kernel) (pa_cons (pv 1) (pa_cons (pe_glob (v := .ref C) (by rfl) hm rfl) pa_nil))) (pe_and (pe_cmpR op_eq (pe_fld (pv 0) rfl) (pe_fld (pv 1) rfl) (nomark _)) (pe_one (pe_cmpR op_eq (pe_fld (pv 0) rfl) (pe_fld (pv 1) rfl) (nomark _))))))), ?_⟩
    rcases h with ⟨t, ty, kt, k⟩ | ⟨b, dy, y1, y2, rfl, hb, kt, k⟩
    · exact ⟨_, rfl, y, .ref C, t, .ref C, false, rfl, .own C, ty, kt, _, rfl, iteF k⟩
    · refine ⟨_, rfl, .ref b, .ref C, .ref C, .ref C, true, rfl, .own C, e.ty hb, kt, _, rfl, iteT ?_⟩
      refine ⟨_, rfl, a, C, dx, _, _, rfl, ha, e.cl, e.n1, fl_old, _, rfl, b, C, dy, _, _, rfl, hb, e.cl, e.n1, fl_old, rfl, _, rfl, ?_⟩
      cases h1 : decide (V.str z1 = V.str y1) with
      | false =>
        rw [h1] at k
        exact iteF k
      | true =>
        rw [h1] at k
        exact iteT ⟨_, rfl, a, C, dx, _, _, rfl, ha, e.cl, e.n2, fl_new, _, rfl, b, C, dy, _, _, rfl, hb, e.cl, e.n2, fl_new, rfl, k⟩
abbrev m_eqFirst : Stmt := mtd (top 26) 3
theorem sc_eqFirst : FnScope ["self", "other"] ["self", "other"] (defScope m_eqFirst) := ⟨rfl, rfl, rfl, by decide +kernel, rfl, by decide +kernel, by decide +kernel⟩
theorem b_eqFirst {f C : Addr} {fd : FuncData} (F : Fun K "__eq__" "First.__eq__" m_eqFirst f fd) (T : Txt mg) (hm : mg "First" = some (.ref C)) (e : EdF K C) : FnOk P w K mg base CX0 1 f fd ["self", "other"] (spEqE K C) := by
  refine F.ok sc_eqFirst (fun vs H Q E h => ?_) (fun cdv A outer s H vs Q E hr h => ?_)
  · obtain ⟨a, dx, z1, z2, y, rfl, _⟩ := h
    rfl
  · obtain ⟨a, dx, z1, z2, y, rfl, ha, h⟩ := h
    refine ⟨_, (pss_one (ps_ret (pe_and (pe_callB call_isi (by rfl) T.isinstance (by decide +kernel) (pa_cons (pv 1) (pa_cons (pe_glob (v := .ref C) (by rfl) hm rfl) pa_nil))) (pe_and (pe_cmpR op_eq (pe_fld (pv 0) rfl) (pe_fld (pv 1) rfl) (nomark _)) (pe_one (pe_cmpR op_eq (pe_fld (pv 0) rfl) (pe_fld (pv 1) rfl) (nomark _))))))), ?_⟩
    rcases h with ⟨t, ty, kt, k⟩ | ⟨b, dy, y1, y2, rfl, hb, kt, k⟩
    · exact ⟨_, rfl, y, .ref C, t, .ref C, false, rfl, .own C, ty, kt, _, rfl, iteF k⟩
    · refine ⟨_, rfl, .ref b, .ref C, .ref C, .ref C, true, rfl, .own C, e.ty hb, kt, _, rfl, iteT ?_⟩
      refine ⟨_, rfl, a, C, dx, _, _, rfl, ha, e.cl, e.n1, fl_old, _, rfl, b, C, dy, _, _, rfl, hb, e.cl, e.n1, fl_old, rfl, _, rfl, ?_⟩
      cases h1 : decide (V.str z1 = V.str y1) with
      | false =>
        rw [h1] at k
        exact iteF k
      | true =>
        rw [h1] at k
        exact iteT ⟨_, rfl, a, C, dx, _, _, rfl, ha, e.cl, e.n2, fl_new, _, rfl, b, C, dy, _, _, rfl, hb, e.cl, e.n2, fl_new, rfl, k⟩
abbrev m_eqPerhaps : Stmt := mtd (top 27) 3
theorem sc_eqPerhaps : FnScope ["self", "other"] ["self", "other"] (defScope m_eqPerhaps) := ⟨rfl, rfl, rfl, by decide +kernel, rfl, by decide +kernel, by decide +kernel⟩
theorem b_eqPerhaps {f C : Addr} {fd : FuncData} (F : Fun K "__eq__" "Perhaps.__eq__" m_eqPerhaps f fd) (T : Txt mg) (hm : mg "Perhaps" = some (.ref C)) (e : EdF K C) : FnOk P w K mg base CX0 1 f fd ["self", "other"] (spEqE K C) := by
  refine F.ok sc_eqPerhaps (fun vs H Q E h => ?_) (fun cdv A outer s H vs Q E hr h => ?_)
  · obtain ⟨a, dx, z1, z2, y, rfl, _⟩ := h
    rfl
  · obtain ⟨a, dx, z1, z2, y, rfl, ha, h⟩ := h
    refine ⟨_, (pss_one (ps_ret (pe_and (pe_callB call_isi (by rfl) T.isinstance (by decide +kernel) (pa_cons (pv 1) (pa_cons (pe_glob (v := .ref C) (by rfl) hm rfl) pa_nil))) (pe_and (pe_cmpR op_eq (pe_fld (pv 0) rfl) (pe_fld (pv 1) rfl) (nomark _)) (pe_one (pe_cmpR op_eq (pe_fld (pv 0) rfl) (pe_fld (pv 1) rfl) (nomark _))))))), ?_⟩
    rcases h with ⟨t, ty, kt, k⟩ | ⟨b, dy, y1, y2, rfl, hb, kt, k⟩
    · exact ⟨_, rfl, y, .ref C, t, .ref C, false, rfl, .own C, ty, kt, _, rfl, iteF k⟩
    · refine ⟨_, rfl, .ref b, .ref C, .ref C, .ref C, true, rfl, .own C, e.ty hb, kt, _, rfl, iteT ?_⟩
      refine ⟨_, rfl, a, C, dx, _, _, rfl, ha, e.cl, e.n1, fl_old, _, rfl, b, C, dy, _, _, rfl, hb, e.cl, e.n1, fl_old, rfl, _, rfl, ?_⟩
      cases h1 : decide (V.str z1 = V.str y1) with
      | false =>
        rw [h1] at k
        exact iteF k
      | true =>
        rw [h1] at k
        exact iteT ⟨_, rfl, a, C, dx, _, _, rfl, ha, e.cl, e.n2, fl_new, _, rfl, b, C, dy, _, _, rfl, hb, e.cl, e.n2, fl_new, rfl, k⟩
abbrev m_eqEvery : Stmt := mtd (top 28) 3
theorem sc_eqEvery : FnScope ["self", "other"] ["self", "other"] (defScope m_eqEvery) := ⟨rfl, rfl, rfl, by decide +kernel, rfl, by decide +kernel, by decide +kernel⟩
theorem b_eqEvery {f C : Addr} {fd : FuncData} (F : Fun K "__eq__" "Every.__eq__" m_eqEvery f fd) (T : Txt mg) (hm : mg "Every" = some (.ref C)) (e : EdF K C) : FnOk P w K mg base CX0 1 f fd ["self", "other"] (spEqE K C) := by
  refine F.ok sc_eqEvery (fun vs H Q E h => ?_) (fun cdv A outer s H vs Q E hr h => ?_)
  · obtain ⟨a, dx, z1, z2, y, rfl, _⟩ := h
    rfl
  · obtain ⟨a, dx, z1, z2, y, rfl, ha, h⟩ := h
    refine ⟨_, (pss_one (ps_ret (pe_and (pe_callB call_isi (by rfl) T.isinstance (by decide +kernel) (pa_cons (pv 1) (pa_cons (pe_glob (v := .ref C) (by rfl) hm rfl) pa_nil))) (pe_and (pe_cmpR op_eq (pe_fld (pv 0) rfl) (pe_fld (pv 1) rfl) (nomark _)) (pe_one (pe_cmpR op_eq (pe_fld (pv 0) rfl) (pe_fld (pv 1) rfl) (nomark _))))))), ?_⟩
    rcases h with ⟨t, ty, kt, k⟩ | ⟨b, dy, y1, y2, rfl, hb, kt, k⟩
    · exact ⟨_, rfl, y, .ref C, t, .ref C, false, rfl, .own C, ty, kt, _, rfl, iteF k⟩
    · refine ⟨_, rfl, .ref b, .ref C, .ref C, .ref C, true, rfl, .own C, e.ty hb, kt, _, rfl, iteT ?_⟩
      refine ⟨_, rfl, a, C, dx, _, _, rfl, ha, e.cl, e.n1, fl_old, _, rfl, b, C, dy, _, _, rfl, hb, e.cl, e.n1, fl_old, rfl, _, rfl, ?_⟩
      cases h1 : decide (V.str z1 = V.str y1) with
      | false =>
        rw [h1] at k
        exact iteF k
      | true =>
        rw [h1] at k
        exact iteT ⟨_, rfl, a, C, dx, _, _, rfl, ha, e.cl, e.n2, fl_new, _, rfl, b, C, dy, _, _, rfl, hb, e.cl, e.n2, fl_new, rfl, k⟩
abbrev m_eqAt : Stmt := mtd (top 29) 2
theorem sc_eqAt : FnScope ["self", "other"] ["self", "other"] (defScope m_eqAt) := ⟨rfl, rfl, rfl, by decide +kernel, rfl, by decide +kernel, by decide +kernel⟩
def spEqA (K : PySem.W.Frag) (C : Addr) : Sp := fun vs H Q _ => ∃ a dx q y, vs = [.ref a, y] ∧ H a = some (.ins C dx [("_parts", .ref q)]) ∧ ((∃ t, TyX K H y t ∧ PySem.W.kitOne K t (.ref C) = some false ∧ Q (.bl false) H) ∨
  (∃ b dy r d1 d2, y = .ref b ∧ H b = some (.ins C dy [("_parts", .ref r)]) ∧ PySem.W.kitOne K (.ref C) (.ref C) = some true ∧ Dp K H (.ref q) d1 ∧ Dp K H (.ref r) d2 ∧ SeqAt.shaped d1 = true ∧ SeqAt.shaped d2 = true ∧ Q (.bl (PyData.eqv d1 d2)) H))
theorem b_eqAt {f C : Addr} {fd : FuncData} (F : Fun K "__eq__" "AtOnce.__eq__" m_eqAt f fd) (T : Txt mg) (hm : mg "AtOnce" = some (.ref C)) (e : EdF K C) (np : NoAttr K C "_parts") : FnOk P w K mg base CX0 1 f fd ["self", "other"] (spEqA K C) := by
  refine F.ok sc_eqAt (fun vs H Q E h => ?_) (fun cdv A outer s H vs Q E hr h => ?_)
  · obtain ⟨a, dx, q, y, rfl, _⟩ := h
    rfl
  · have hu64 := hr.units
    obtain ⟨a, dx, q, y, rfl, ha, h⟩ := h
    refine ⟨_, (pss_one (ps_ret (pe_and (pe_callB call_isi (by rfl) T.isinstance (by decide +kernel) (pa_cons (pv 1) (pa_cons (pe_glob (v := .ref C) (by rfl) hm rfl) pa_nil))) (pe_one (pe_cmpR (op_eqD hu64) (pe_fld (pv 0) rfl) (pe_fld (pv 1) rfl) (nomark _)))))), ?_⟩
    rcases h with ⟨t, ty, kt, k⟩ | ⟨b, dy, r, d1, d2, rfl, hb, kt, p1, p2, s1, s2, k⟩
    · exact ⟨_, rfl, y, .ref C, t, .ref C, false, rfl, .own C, ty, kt, _, rfl, iteF k⟩
    · refine ⟨_, rfl, .ref b, .ref C, .ref C, .ref C, true, rfl, .own C, e.ty hb, kt, _, rfl, iteT ?_⟩
      exact ⟨_, rfl, a, C, dx, _, _, rfl, ha, e.cl, np, fl_parts, _, rfl, b, C, dy, _, _, rfl, hb, e.cl, np, fl_parts, d1, d2, p1, p2, s1, s2, k⟩
end
end Vk
set_option Elab.async false
set_option maxRecDepth 100000
set_option linter.all false
set_option maxHeartbeats 4000000
namespace Vk
open PySem PySem.Spec PyProof.Rows L2 LamX NdefX StX
section
variable {X : Cx}
theorem rcI {k : Nat} {C : Addr} {sp : Sp} {R : Addr → Addr → Hp → Prop} (e : EqI X.prog X.w X.K X.mg X.base k C sp) (h : ∀ vs H Q E, spEq R vs H Q E → sp vs H Q E) : EqG X k (DIns C R) := by
  obtain ⟨f, fd, hs, hf, F, hb⟩ := e.ex
  exact eqG_ins (E := E0) (F.imp h) hs hf hb pass0
theorem eqG_some {n N : Nat} {D : Nat → Eqv} (h : ∀ i, i < N → EqG X n (D i)) : EqG X n (fun x y H => ∃ i, i < N ∧ D i x y H) := fun A pins s σ H x y u v sb I rx ry d => by
  obtain ⟨i, hi, d⟩ := d
  exact h i hi A pins s σ H x y u v sb I rx ry d
theorem mon_some {N : Nat} {D : Nat → Eqv} (h : ∀ i, Mon (D i)) : Mon (fun x y H => ∃ i, i < N ∧ D i x y H) := fun x y H H' e d => by
  obtain ⟨i, hi, d⟩ := d
  exact ⟨i, hi, h i x y H H' e d⟩
end
/-- two edits of one word that say the same -/
def ROne (C : Addr) : Addr → Addr → Hp → Prop := fun a b H => ∃ dx dy z1 z2, H a = some (.ins C dx (fl z1 z2)) ∧ H b = some (.ins C dy (fl z1 z2))
/-- .. of several words -/
def RMany (C : Addr) : Addr → Addr → Hp → Prop := fun a b H => ∃ dx dy q r ps, H a = some (.ins C dx [("_parts", .ref q)]) ∧ H b = some (.ins C dy [("_parts", .ref r)]) ∧ WdsP ps ∧ PartsOf H q ps ∧ PartsOf H r ps
abbrev DE (Cs : Nat → Addr) (Ca : Addr) : Eqv := fun x y H => (∃ n, n < 4 ∧ DIns (Cs n) (ROne (Cs n)) x y H) ∨ DIns Ca (RMany Ca) x y H
theorem mon_DE {Cs : Nat → Addr} {Ca : Addr} : Mon (DE Cs Ca) := by
  refine Mon.or (mon_some fun n => mon_ins fun a b H H' e r => ?_) (mon_ins fun a b H H' e r => ?_)
  · obtain ⟨dx, dy, z1, z2, ha, hb⟩ := r
    exact ⟨dx, dy, z1, z2, e _ _ ha, e _ _ hb⟩
  · obtain ⟨dx, dy, q, r, ps, ha, hb, wd, p1, p2⟩ := r
    exact ⟨dx, dy, q, r, ps, e _ _ ha, e _ _ hb, wd, p1.keepT fun u ws h => e _ _ h, p2.keepT fun u ws h => e _ _ h⟩
theorem eds_prs {Cs : Nat → Addr} {Ca : Addr} {H : Hp} : ∀ {xs ys : List V} {es : List EdM}, (∀ e ∈ es, Wds e) → IsEds Cs Ca H xs es → IsEds Cs Ca H ys es → Prs (DE Cs Ca) xs ys H
  | _, _, _, _, .nil, .nil => Prs.nil
  | _, _, e :: es, wd, .cons a t, .cons b u => Prs.cons (by
      obtain ⟨a, rfl, ia⟩ := a
      obtain ⟨b, rfl, ib⟩ := b
      cases e with
      | one n z1 z2 =>
        obtain ⟨hn, dx, ha⟩ := ia
        obtain ⟨_, dy, hb⟩ := ib
        exact .inl ⟨n, hn, a, b, dx, dy, _, _, rfl, rfl, ha, hb, dx, dy, z1, z2, ha, hb⟩
      | many ps =>
        obtain ⟨dx, q, ha, p1⟩ := ia
        obtain ⟨dy, r, hb, p2⟩ := ib
        exact .inr ⟨a, b, dx, dy, _, _, rfl, rfl, ha, hb, dx, dy, q, r, ps, ha, hb, wd _ List.mem_cons_self, p1, p2⟩) (eds_prs (fun e he => wd e (List.mem_cons_of_mem _ he)) t u)
section
variable {P : Program} {w : World} {K : PySem.W.Frag} {mg : Str → Option Value} {base : Heap}
variable {C_Once C_First C_Perhaps C_Every C_AtOnce C_Edit C_Program : Addr}
theorem parts_dp {H : Hp} {q : Addr} {ps : List (Str × Str)} (wd : WdsP ps) (h : PartsOf H q ps) : Dp K H (.ref q) (.tuple (ps.map partD)) := by
  obtain ⟨xs, hq, pr⟩ := h
  exact .tup (SqT.of hq) (dp_parts (parts_th pr) wd.isP)
def spEqP (Cs : Nat → Addr) (Ca CP : Addr) : Sp := fun vs H Q _ => ∃ a b es, vs = [.ref a, .ref b] ∧ IsPr Cs Ca CP H a es ∧ IsPr Cs Ca CP H b es ∧ (∀ e ∈ es, Wds e) ∧ ∀ H', Same H H' → Q (.bl true) H'
abbrev m_eqProgram : Stmt := mtd (top 42) 5
theorem sc_eqProgram : FnScope ["self", "other"] ["self", "other"] (defScope m_eqProgram) := ⟨rfl, rfl, rfl, by decide +kernel, rfl, by decide +kernel, by decide +kernel⟩
theorem b_eqProgram {f : Addr} {fd : FuncData} (F : Fun K "__eq__" "Program.__eq__" m_eqProgram f fd) (T : Txt mg) (n_Program : mg "Program" = some (.ref C_Program)) (tyP : ∀ {H : Hp} {a dx : Addr} {fs : List (Str × V)}, H a = some (.ins C_Program dx fs) → TyX K H (.ref a) (.ref C_Program)) (kP : PySem.W.kitOne K (.ref C_Program) (.ref C_Program) = some true) (clP : Cls K C_Program) (npE : NoAttr K C_Program "_edits")
    (eqs : ∀ n, n < 4 → EqI P w K mg base 1 (cls4 C_Once C_First C_Perhaps C_Every n) (spEqE K (cls4 C_Once C_First C_Perhaps C_Every n))) (eqA : EqI P w K mg base 1 C_AtOnce (spEqA K C_AtOnce)) (kit : ∀ i j, i < 4 → j < 4 → PySem.W.kitOne K (.ref (cls4 C_Once C_First C_Perhaps C_Every i)) (.ref (cls4 C_Once C_First C_Perhaps C_Every j)) = some (i == j)) (kA : PySem.W.kitOne K (.ref C_AtOnce) (.ref C_AtOnce) = some true) : FnOk P w K mg base CX0 3 f fd ["self", "other"] (spEqP (cls4 C_Once C_First C_Perhaps C_Every) C_AtOnce C_Program) := by
  refine F.ok sc_eqProgram (fun vs H Q E h => ?_) (fun cdv A outer s H vs Q E hr h => ?_)
  · obtain ⟨a, b, es, rfl, _⟩ := h
    rfl
  · obtain ⟨a, b, es, rfl, ⟨dx, q, xs, ha, hq, eds⟩, ⟨dy, r, ys, hb, hr2, eds2⟩, wd, k⟩ := h
    have rc : RcG (cxOf CX0 P w K mg base ["self", "other"] "Program.__eq__" (defScope m_eqProgram) f cdv A outer s H E).nox 2 (DTup K (DE (cls4 C_Once C_First C_Perhaps C_Every) C_AtOnce)) := by
      refine rcG_tup (X := (cxOf CX0 P w K mg base ["self", "other"] "Program.__eq__" (defScope m_eqProgram) f cdv A outer s H E).nox) mon_DE (EqG.or (eqG_some fun n hn => rcI (eqs n hn) fun vs H Q E h => ?_) (rcI eqA fun vs H Q E h => ?_))
      · obtain ⟨a, b, rfl, ⟨dx, dy, z1, z2, ha, hb⟩, k⟩ := h
        refine ⟨a, dx, z1, z2, .ref b, rfl, ha, .inr ⟨b, dy, z1, z2, rfl, hb, (kit n n hn hn).trans (by rw [beq_self_eq_true]), ?_⟩⟩
        rw [decide_eq_true rfl, decide_eq_true rfl]
        exact k H L2.Ext.rfl'
      · obtain ⟨a, b, rfl, ⟨dx, dy, q, r, ps, ha, hb, wd, p1, p2⟩, k⟩ := h
        refine ⟨a, dx, q, .ref b, rfl, ha, .inr ⟨b, dy, r, _, _, rfl, hb, kA, parts_dp wd p1, parts_dp wd p2, shaped_tup wd.isP wd.el, shaped_tup wd.isP wd.el, ?_⟩⟩
        rw [SeqAt.eqv_refl _ (SeqAt.canLay_of_shaped (shaped_tup wd.isP wd.el))]
        exact k H L2.Ext.rfl'
    refine ⟨_, (pss_one (ps_ret (pe_and (pe_callB call_isi (by rfl) T.isinstance (by decide +kernel) (pa_cons (pv 1) (pa_cons (pe_glob (v := .ref C_Program) (by rfl) n_Program rfl) pa_nil))) (pe_one (pe_cmpR (op_eqG rc hr) (pe_fld (pv 0) rfl) (pe_fld (pv 1) rfl) (nomark _)))))), ?_⟩
    refine ⟨_, rfl, .ref b, .ref C_Program, .ref C_Program, .ref C_Program, true, rfl, .own C_Program, tyP hb, kP, _, rfl, iteT ?_⟩
    exact ⟨_, rfl, a, C_Program, dx, _, _, rfl, ha, clP, npE, fl_edits, _, rfl, b, C_Program, dy, _, _, rfl, hb, clP, npE, fl_edits, ⟨q, r, xs, ys, rfl, rfl, SqT.of hq, SqT.of hr2, eds_prs wd eds eds2⟩, fun H' e => k H' e⟩
end
/-! ## a property, where the guards are known -/
structure PrG (P : Program) (w : World) (K : PySem.W.Frag) (mg : Str → Option Value) (base : Heap) (k : Nat) (C : Addr) (f : Str) (sp : Sp) : Prop where
  ex : ∃ (p g : Addr) (fd : FuncData), Cls K C ∧ PropOf K C f p g ∧ FnG P w K mg base CX0 k g fd ["self"] sp ∧ Binds K fd ["self"] []
section
variable {X : Cx} {k j : Nat} {C : Addr} {f : Str} {sp : Sp} {e : Expr} {pos : Pos} {ta : TE}
theorem pe_propG (he : PE X e ta) (M : PrG X.prog X.w X.K X.mg X.base k C f sp) (hg : X.A.guards = some []) (hr : Room j X.A) (hk : k + 1 ≤ j) (hab : attributeBase e f X.env (eval e X.env) = eval e X.env := by rfl) : PE X (.Attribute e f pos) (tProp C sp [] E0 ta) := by
  obtain ⟨pa, ga, fda, cC, hP, FF, hB⟩ := M.ex
  refine ⟨fun pins s0 σ H0 Q I0 hh => attr_of hab (thn (he.run pins s0 σ H0 _ I0 hh) fun u1 s1 q1 => ?_)⟩
  obtain ⟨x1, H1, J1, rx, a1, dx1, fs1, rfl, ea1, h1⟩ := q1
  cases (show u1 = Value.ref a1 from rx)
  obtain ⟨m1, O1, _⟩ := ins_get J1.hok ea1
  obtain ⟨od1, OL, _⟩ := O1.look
  obtain ⟨restG, hGet⟩ := hP.rec_
  have J2 := J1.tok (s1.toks + 1)
  have room1 := (hr.mono hk).in1
  have isCls : (PySem.W.clsIn X.K C).isSome = true := by
    obtain ⟨cdC, hC, _⟩ := PySem.W.any_some cC.hd
    exact hC ▸ rfl
  have bound1 := hB { s1 with toks := s1.toks + 1 } [.ref a1] J1.kIn rfl
  have plain1 := PySem.W.plainGet_of (cC.get f)
  refine PySem.W.get_bind J1.kIn OL plain1.1 (PySem.W.findObj_data isCls hP.at_ hP.get hP.tak) plain1.2 (wpAny_call (PySem.W.prop_get (s := { s1 with toks := s1.toks + 1 }) J1.kIn hGet (codeAny_mono (FF.run X.A.in1 X.stack _ H1 ⟨[.ref a1], []⟩ [.ref a1] [.ref a1] Q E0 hg room1 J2.env0.in1 bound1 (.cons rfl .nil) h1) fun res s2 hq => ?_)))
  match res, hq with
  | .error er, hq => exact hq.elim
  | .ok (.ret u2), hq =>
    obtain ⟨v2, H2, J3, rv, q3⟩ := J2.after hq
    show wpAny _ _ (handedOut u2) _ _ _
    rw [PySem.W.handedOut_of (handed_of rv)]
    exact wpAny_pure ⟨v2, H2, J3, rv, q3⟩
  | .ok .next, hq => exact hq.elim
  | .ok .brk, hq => exact hq.elim
  | .ok .cont, hq => exact hq.elim
end
end Vk
set_option Elab.async false
set_option maxRecDepth 100000
set_option linter.all false
set_option maxHeartbeats 4000000
namespace Vk
open PySem PySem.Spec PyProof.Rows L2 LamX NdefX StX
theorem fold_times {x : Str} {m : Nat} (hm : 1 ≤ m) : ∀ {R : List Rw} {k : Nat} {s : Str}, Ch x.length k R → (∀ r ∈ R, 1 ≤ r.o.length ∧ r.n.length ≤ m) → (foldA x R k s).length ≤ s.length + m * (x.length - k)
  | [], k, s, c, _ => by
    rw [foldA_nil, strLen_append, cutS_tail c]
    have : 1 * (x.length - k) ≤ m * (x.length - k) := Nat.mul_le_mul_right _ hm
    omega
  | r :: R, k, s, c, h => by
    rw [foldA_cons]
    have h1 := c.1
    have h2 := c.2.1
    have ih := fold_times hm (s := s ++ cutS x (some (k : Int)) (some (r.b : Int)) ++ r.n) c.2.2 fun q hq => h q (List.mem_cons_of_mem _ hq)
    obtain ⟨a, b⟩ := h r List.mem_cons_self
    unfold Rw.e at *
    rw [strLen_append, strLen_append, cutS_nat h1 (by omega)] at ih
    have d : x.length - k = (r.b - k) + (r.o.length + (x.length - (r.b + r.o.length))) := by omega
    have m1 : 1 * (r.b - k) ≤ m * (r.b - k) := Nat.mul_le_mul_right _ hm
    have m2 : m * 1 ≤ m * r.o.length := Nat.mul_le_mul_left _ a
    rw [d, Nat.mul_add, Nat.mul_add]
    omega
/-- short words -/
def Sml : EdM → Prop
  | .one _ z1 z2 => 1 ≤ z1.length ∧ z1.length ≤ 3 ∧ z2.length ≤ 3
  | .many ps => (∀ p ∈ ps, 1 ≤ p.1.length ∧ p.1.length ≤ 3 ∧ p.2.length ≤ 3) ∧ ps.length ≤ 3 ∧ (ps.map (·.1)).Nodup
theorem rows_lt {x : Str} : ∀ {ps : List (Str × Str)} {k : Nat} {r : Rw}, r ∈ rowsM x ps k → r.k < k + ps.length
  | p :: t, k, r, h => by
    rw [rowsM_cons] at h
    rw [List.length_cons]
    rcases List.mem_cons.mp h with rfl | h
    · show k < k + (t.length + 1)
      omega
    · have := rows_lt h
      omega
theorem rows_k {x : Str} {ps : List (Str × Str)} {r : Rw} (h : r ∈ rowsM x ps 0) (hl : ps.length ≤ 3) : r.k ≤ 3 := by
  have := rows_lt h
  omega
theorem Sml.rows {x : Str} {e : EdM} (h : Sml e) : ∀ r ∈ rowsE x e, 1 ≤ r.o.length ∧ r.n.length ≤ 3 ∧ r.k ≤ 3 := by
  cases e with
  | one n z1 z2 =>
    intro r hr
    obtain ⟨p, _, rfl⟩ := List.mem_map.mp hr
    exact ⟨h.1, h.2.2, Nat.zero_le _⟩
  | many ps =>
    intro r hr
    have hr2 := (ordM_perm _).mem_iff.mp hr
    obtain ⟨a, b, c⟩ := h.1 _ (rowsM_mem hr2).2.1
    exact ⟨a, c, rows_k hr2 h.2.1⟩
theorem Sml.ok {x : Str} {e : EdM} (h : Sml e) (hx : x.length ≤ 800) : OkE x e := by
  cases e with
  | one n z1 z2 => exact ⟨hx, Nat.le_trans h.2.1 (by decide), Nat.le_trans h.2.2 (by decide)⟩
  | many ps => exact ⟨hx, h.2.1, fun p hp => ⟨(h.1 p hp).1, Nat.le_trans (h.1 p hp).2.1 (by decide), Nat.le_trans (h.1 p hp).2.2 (by decide)⟩, h.2.2⟩
theorem Sml.thrice {x y : Str} {e : EdM} (h : Sml e) (o : outE x e = .txt y) : y.length ≤ 3 * x.length := by
  rw [outE_txt o]
  have e0 : (Str.ofString "").length = 0 := by decide +kernel
  have := fold_times (m := 3) (by decide) (s := "") (ch_rows o) fun r hr => ⟨(h.rows r hr).1, (h.rows r hr).2.1⟩
  omega
theorem bnd_small : ∀ {es : List EdM} {x : Str}, (∀ e ∈ es, Sml e) → x.length * 3 ^ es.length ≤ 2400 → BndA es x
  | [], _, _, _ => trivial
  | e :: r, x, h, hx => by
    have he := h e List.mem_cons_self
    rw [List.length_cons, Nat.pow_succ] at hx
    have p1 : 1 ≤ 3 ^ r.length := Nat.pow_pos (by decide)
    have x8 : x.length ≤ 800 := by
      have : x.length * (1 * 3) ≤ x.length * (3 ^ r.length * 3) := Nat.mul_le_mul_left _ (Nat.mul_le_mul_right _ p1)
      omega
    refine ⟨he.ok x8, fun y hy => bnd_small (fun e he => h e (List.mem_cons_of_mem _ he)) ?_⟩
    have h2 := he.thrice hy
    have : y.length * 3 ^ r.length ≤ 3 * x.length * 3 ^ r.length := Nat.mul_le_mul_right _ h2
    have e1 : 3 * x.length * 3 ^ r.length = x.length * (3 ^ r.length * 3) := by
      rw [Nat.mul_comm 3 x.length, Nat.mul_assoc, Nat.mul_comm 3]
    omega
theorem isT_of {z : Str} (h : ∀ c ∈ z.cps.toList, c ∈ letS.cps.toList) : isT (.str z) = true := by
  rw [isT_all, List.all_eq_true]
  intro c hc
  simpa using h c hc
theorem isOld_of {z : Str} (h : isT (.str z) = true) (h1 : z.length ≤ 40) (h2 : 1 ≤ z.length) : isOld (.str z) = true := by
  rw [isOld_eq h, Bool.and_eq_true, decide_eq_true_eq, decide_eq_true_eq]
  omega
theorem isNew_of {z : Str} (h : isT (.str z) = true) (h1 : z.length ≤ 40) : isNew (.str z) = true := by
  rw [isNew_eq h, decide_eq_true_eq]
  omega
theorem gw_wds {sg : Str} {e : EdM} (fz : Few sg) (g : Gw sg 3 e) : Wds e ∧ Sml e := by
  have l1 : ∀ {a b : Nat} {x : Str}, Word sg a b x → Ltr x := fun g c hc => fz.2.2 c (g.2.2 c hc)
  have one : ∀ {z1 z2 : Str}, Word sg 1 3 z1 → Word sg 0 3 z2 → isOld (.str z1) = true ∧ isNew (.str z2) = true ∧ Srt (.str z1) ∧ Srt (.str z2) := fun {z1 z2} g1 g2 => by
    have m1 := g1.2.1
    have m2 := g2.2.1
    exact ⟨isOld_of (isT_of (l1 g1)) (by omega) g1.1, isNew_of (isT_of (l1 g2)) (by omega), ⟨by omega, ok_letters (l1 g1)⟩, ⟨by omega, ok_letters (l1 g2)⟩⟩
  cases e with
  | one n z1 z2 => exact ⟨one g.2.1 g.2.2, g.2.1.1, g.2.1.2.1, g.2.2.2.1⟩
  | many ps => exact ⟨⟨fun p hp => one (g.1 p hp).1 (g.1 p hp).2, g.2.1, g.2.2⟩, fun p hp => ⟨(g.1 p hp).1.1, (g.1 p hp).1.2.1, (g.1 p hp).2.2.1⟩, g.2⟩
theorem Sml.mir {e : EdM} (h : Sml e) : Sml (mirE e) := by
  cases e with
  | one n z1 z2 =>
    obtain ⟨a, b, c⟩ := h
    exact ⟨by rw [backS_len]; exact a, by rw [backS_len]; exact b, by rw [backS_len]; exact c⟩
  | many ps =>
    obtain ⟨a, b, c⟩ := h
    refine ⟨fun p hp => ?_, by rw [List.length_map]; exact b, ?_⟩
    · obtain ⟨q, hq, rfl⟩ := List.mem_map.mp hp
      obtain ⟨a1, a2, a3⟩ := a q hq
      exact ⟨by rw [backS_len]; exact a1, by rw [backS_len]; exact a2, by rw [backS_len]; exact a3⟩
    · rw [List.map_map]
      have e1 : ps.map ((fun p : Str × Str => p.1) ∘ fun p => (backS p.1, backS p.2)) = (ps.map (·.1)).map backS := by rw [List.map_map]; rfl
      rw [e1]
      exact List.pairwise_map.mpr (c.imp fun ne e => ne (by
        have := congrArg backS e
        rwa [backS_back, backS_back] at this))
theorem mirr_of {sg : Str} {wd : Nat} {e : EdM} (g : Gw sg wd e) (k : Kd [0, 2, 4] e) : Mirr e ∧ noMir e = false := by
  cases e with
  | one n z1 z2 =>
    have n4 : n < 4 := g.1
    have k2 : n ∈ [0, 2, 4] := k
    have h4 : n = 0 ∨ n = 2 := by
      simp only [List.mem_cons, List.not_mem_nil, or_false] at k2
      omega
    rcases h4 with rfl | rfl
    · exact ⟨.inl rfl, rfl⟩
    · exact ⟨.inr rfl, rfl⟩
  | many ps => exact ⟨fun p hp => (g.1 p hp).1.1, rfl⟩
end Vk
set_option Elab.async false
set_option maxRecDepth 100000
set_option linter.all false
set_option maxHeartbeats 4000000
namespace Vk
open PySem PySem.Spec PyProof.Rows L2 LamX NdefX StX
theorem tabs_pen {T : List (Addr × Str)} {H H' : Hp} {p c : Addr} {U : Nat} (t : Tabs T H) (q : Pen H p c U) (x : Ext p H H') : Tabs T H' := fun r hr => by
  obtain ⟨tn, l, hp⟩ := q.is
  have nl : ∀ g u, H g = some u → (∀ k, u ≠ .dK k) → H' g = some u := fun g u e n => x _ _ e (fun z => by
    rw [z, hp] at e
    exact n _ (Option.some.inj e).symm)
  obtain ⟨ps, h1, h2, h3⟩ := t r hr
  refine ⟨ps, nl _ _ h1 (fun _ z => nomatch z), h2, fun pos cv e => ?_⟩
  obtain ⟨c, e1, e2⟩ := h3 pos cv e
  exact ⟨c, e1, nl _ _ e2 (fun xs z => by unfold CodeO at z; cases z)⟩
theorem pen_extN {H H' : Hp} {p c : Addr} {U : Nat} (q : Pen H p c U) (x : ExtN H H') : Pen H' p c U := by
  obtain ⟨ns, t, l, h1, h2, r⟩ := q.ex
  exact ⟨ns, t, l, x _ _ h1 (fun _ z => nomatch z), x _ _ h2 (fun _ z => nomatch z), r⟩
theorem tabs_at {T : List (Addr × Str)} {H : Hp} {l : Addr} {xs : List V} {o : HO} (t : Tabs T H) (h : H l = some (.lst xs)) : Tabs T (upd H l o) := fun p hp => by
  have nl : ∀ g u, H g = some u → (∀ xs, u ≠ .lst xs) → upd H l o g = some u := fun g u e n => by
    rw [upd_ne (fun z => n _ (Option.some.inj ((e.symm.trans (z ▸ h)))))]
    exact e
  obtain ⟨ps, h1, h2, h3⟩ := t p hp
  refine ⟨ps, nl _ _ h1 (fun _ z => nomatch z), h2, fun pos cv e => ?_⟩
  obtain ⟨c, e1, e2⟩ := h3 pos cv e
  exact ⟨c, e1, nl _ _ e2 (fun xs z => by unfold CodeO at z; cases z)⟩
theorem tups_pen {H H' : Hp} {p c : Addr} {T : Nat} (P : Pen H p c T) (x : Ext p H H') : ∀ u ws, H u = some (.tup ws) → H' u = some (.tup ws) := fun u ws h => tup_ext P x h
theorem Plains.map {H H1 : Hp} {xs : List V} {es : List EdM} (p : Plains H xs es) (s : ∀ u ws, H u = some (.tup ws) → H1 u = some (.tup ws)) : Plains H1 xs es := paired_impl (fun v e h => Plain.keep h s) p
theorem IsPr.map {Cs : Nat → Addr} {Ca CP : Addr} {H H1 : Hp} {pr : Addr} {es : List EdM} (p : IsPr Cs Ca CP H pr es) (s : ∀ u o, (∀ zs, o ≠ HO.lst zs) → (∀ zs, o ≠ HO.dK zs) → (∀ zs, o ≠ HO.tbl zs) → H u = some o → H1 u = some o) : IsPr Cs Ca CP H1 pr es := by
  obtain ⟨dx, q, xs, h1, h2, h3⟩ := p
  refine ⟨dx, q, xs, s _ _ (fun _ z => nomatch z) (fun _ z => nomatch z) (fun _ z => nomatch z) h1, s _ _ (fun _ z => nomatch z) (fun _ z => nomatch z) (fun _ z => nomatch z) h2, paired_impl (fun v e ⟨a, q, h⟩ => ⟨a, q, ?_⟩) h3⟩
  cases e with
  | one n z1 z2 =>
    obtain ⟨hn, dx, h⟩ := h
    exact ⟨hn, dx, s _ _ (fun _ z => nomatch z) (fun _ z => nomatch z) (fun _ z => nomatch z) h⟩
  | many ps =>
    obtain ⟨dx, q, ha, xs, hq, pr⟩ := h
    exact ⟨dx, q, s _ _ (fun _ z => nomatch z) (fun _ z => nomatch z) (fun _ z => nomatch z) ha, xs, s _ _ (fun _ z => nomatch z) (fun _ z => nomatch z) (fun _ z => nomatch z) hq, paired_impl (fun v p ⟨t, e, ht⟩ => ⟨t, e, s _ _ (fun _ z => nomatch z) (fun _ z => nomatch z) (fun _ z => nomatch z) ht⟩) pr⟩
theorem IsPr.ext {Cs : Nat → Addr} {Ca CP : Addr} {H H1 : Hp} {pr p c : Addr} {T : Nat} {es : List EdM} (q : IsPr Cs Ca CP H pr es) (P : Pen H p c T) (x : Ext p H H1) : IsPr Cs Ca CP H1 pr es := q.map fun u o _ n2 _ h => x _ _ h fun z => by
  obtain ⟨t, l, hp⟩ := P.is
  rw [z, hp] at h
  exact n2 _ (Option.some.inj h).symm
theorem IsPr.keepN {Cs : Nat → Addr} {Ca CP : Addr} {H H1 : Hp} {pr : Addr} {es : List EdM} (p : IsPr Cs Ca CP H pr es) (k : ExtN H H1) : IsPr Cs Ca CP H1 pr es := p.map fun u o _ _ n3 h => k _ _ h n3
theorem seq_mid {A B : TS} {D : Ends} {σ : L2.St} {H : Hp} (Mid : L2.St → Hp → Prop) (h1 : ∀ D', (∀ σ H, Mid σ H → D'.nx σ H) → A D' σ H) (h2 : ∀ σ H, Mid σ H → B D σ H) : tSeq A B D σ H := h1 _ h2
theorem name_go {i : Nat} {v : V} {σ : L2.St} {H : Hp} {Q : L2.St → Hp → Prop} (h : Q (σ.set i (some v)) H) : gName i v σ H Q := h
theorem Plains.ext {H H1 : Hp} {xs : List V} {es : List EdM} {p c : Addr} {T : Nat} (q : Plains H xs es) (P : Pen H p c T) (x : Ext p H H1) : Plains H1 xs es := paired_impl (fun v e h => h.ext P x) q
theorem cut2_len {x : Str} : (cutS x none (some 2)).length ≤ 2 := by
  show (List.toArray ((x.cps.toList.drop (HT.sIx x.length 0 none)).take (HT.sIx x.length x.length (some ((2 : Nat) : Int)) - HT.sIx x.length 0 none))).size ≤ 2
  rw [List.size_toArray, List.length_take, HT.sIx_nat, HT.sIx_none]
  omega
theorem cut_mem {x : Str} {a b : Option Int} {c : Nat} (hc : c ∈ (cutS x a b).cps.toList) : c ∈ x.cps.toList := by
  have hc2 : c ∈ (List.toArray ((x.cps.toList.drop (HT.sIx x.length 0 a)).take (HT.sIx x.length x.length b - HT.sIx x.length 0 a))).toList := hc
  rw [List.toList_toArray] at hc2
  exact List.mem_of_mem_drop (List.mem_of_mem_take hc2)
theorem run_len : ∀ {es : List EdM} {i : Nat} {x y : Str}, (∀ e ∈ es, Sml e) → runA es i x = .txt y → y.length ≤ x.length * 3 ^ es.length
  | [], i, x, y, _, h => by
    cases (show OutR.txt x = .txt y from h)
    rw [List.length_nil]
    omega
  | e :: r, i, x, y, h, hy => by
    cases o : outE x e with
    | txt z =>
      rw [runA_txt o] at hy
      have a := run_len (fun e he => h e (List.mem_cons_of_mem _ he)) hy
      have b := (h e List.mem_cons_self).thrice o
      have c : z.length * 3 ^ r.length ≤ 3 * x.length * 3 ^ r.length := Nat.mul_le_mul_right _ b
      have e1 : 3 * x.length * 3 ^ r.length = x.length * (3 ^ r.length * 3) := by
        rw [Nat.mul_comm 3 x.length, Nat.mul_assoc, Nat.mul_comm 3]
      rw [List.length_cons, Nat.pow_succ]
      omega
    | no k => rw [runA_no o] at hy; cases hy
    | over => rw [runA_over o] at hy; cases hy
theorem Gw.wide {sg : Str} {a b : Nat} {e : EdM} (h : a ≤ b) (g : Gw sg a e) : Gw sg b e := by
  have l1 : ∀ {c : Nat} {x : Str}, Word sg c a x → Word sg c b x := fun g => ⟨g.1, Nat.le_trans g.2.1 h, g.2.2⟩
  cases e with
  | one n z1 z2 => exact ⟨g.1, l1 g.2.1, l1 g.2.2⟩
  | many ps => exact ⟨fun q hq => ⟨l1 (g.1 q hq).1, l1 (g.1 q hq).2⟩, g.2⟩
theorem partsE_mir (e : EdM) : partsE (mirE e) = (partsE e).map fun p => (backS p.1, backS p.2) := by
  cases e with
  | one n z1 z2 => rfl
  | many ps => rfl
def oldS (es : List EdM) : List Str := (es.flatMap partsE).map (·.1)
theorem oldsE_is (es : List EdM) : oldsE es = (oldS es).map V.str := by
  unfold oldsE oldS
  rw [List.map_map]
  rfl
theorem oldS_mir (es : List EdM) : oldS (es.map mirE) = (oldS es).map backS := by
  unfold oldS
  induction es with
  | nil => rfl
  | cons e r ih =>
    simp only [List.map_cons, List.flatMap_cons, List.map_append, partsE_mir] at ih ⊢
    rw [ih]
    congr 1
    rw [List.map_map, List.map_map]
    rfl
theorem strs_shaped {zs : List Str} (h : ∀ z ∈ zs, PyData.strOk z = true) : SeqAt.shaped (.tuple (zs.map PyData.str)) = true := by
  have k : ∀ {zs : List Str}, (∀ z ∈ zs, PyData.strOk z = true) → PyData.canLayAll0 (zs.map PyData.str) = true ∧ PyData.depthAll (zs.map PyData.str) = 0 := by
    intro zs
    induction zs with
    | nil => exact fun _ => ⟨rfl, rfl⟩
    | cons z r ih =>
      intro h
      obtain ⟨a, b⟩ := ih fun x hx => h x (List.mem_cons_of_mem _ hx)
      refine ⟨?_, ?_⟩
      · show (PyData.strOk z && PyData.canLayAll0 (r.map PyData.str)) = true
        rw [h z List.mem_cons_self, a]
        rfl
      · show max (PyData.str z).depth (PyData.depthAll (r.map PyData.str)) = 0
        rw [b]
        rfl
  obtain ⟨a, b⟩ := k h
  unfold SeqAt.shaped
  rw [Bool.and_eq_true, decide_eq_true_eq]
  refine ⟨a, ?_⟩
  show PyData.depthAll (zs.map PyData.str) + 1 ≤ 64
  omega
def srtS : EdM → Str
  | .one n _ _ => sortAt n
  | .many _ => "together"
theorem srt_in : ∀ n, n < 4 → inV (.str (sortAt n)) [.str "first", .str "every"] = (n == 1 || n == 3) := by decide +kernel
theorem plain_sort {H : Hp} {v : V} {e : EdM} (h : Plain H v e) : ∃ t t2, v = .ref t ∧ H t = some (.tup [.str (srtS e), .ref t2]) ∧ inV (.str (srtS e)) [.str "first", .str "every"] = noMir e := by
  cases e with
  | one n z1 z2 =>
    obtain ⟨hn, t, t2, t3, rfl, h1, h2, h3⟩ := h
    exact ⟨t, t2, rfl, h1, srt_in n hn⟩
  | many ps =>
    obtain ⟨t, t2, rfl, h1, _⟩ := h
    exact ⟨t, t2, rfl, h1, (by decide +kernel : inV (.str "together") [.str "first", .str "every"] = false)⟩
def isWr (es : List EdM) (j : Nat) : Bool := match es[j]? with
  | some e => noMir e
  | none => false
/-- the places of edits without a mirror -/
def wrongL (es : List EdM) (n : Nat) : List V := ((List.range n).filter (isWr es)).map fun j => V.int (j : Nat)
theorem wrongL_one {es : List EdM} {j : Nat} {e : EdM} (he : es[j]? = some e) (h : noMir e = true) (b : ∀ e ∈ es.take j, noMir e = false) : ∃ r, wrongL es es.length = .int (j : Nat) :: r := by
  have hj := (List.getElem?_eq_some_iff.mp he).1
  have f : (List.range es.length).find? (isWr es) = some j := by
    rw [List.find?_range_eq_some]
    refine ⟨by unfold isWr; rw [he]; exact h, List.mem_range.mpr hj, fun i hi => ?_⟩
    obtain ⟨e2, he2⟩ : ∃ e2, es[i]? = some e2 := ⟨es[i]'(by omega), List.getElem?_eq_getElem (by omega)⟩
    have := b e2 (List.mem_of_getElem? (i := i) (by rw [List.getElem?_take_of_lt hi]; exact he2))
    unfold isWr
    rw [he2]
    show (!noMir e2) = true
    rw [this]
    rfl
  rw [← List.head?_filter] at f
  unfold wrongL
  match q : (List.range es.length).filter (isWr es), f with
  | a :: r, f =>
    cases f
    exact ⟨_, rfl⟩
theorem wrongL_none {es : List EdM} (h : ∀ e ∈ es, noMir e = false) : wrongL es es.length = [] := by
  unfold wrongL
  rw [List.filter_eq_nil_iff.mpr, List.map_nil]
  intro j _
  unfold isWr
  split
  · rename_i e he
    rw [h e (List.mem_of_getElem? he)]
    decide
  · decide
section
variable {P : Program} {w : World} {K : PySem.W.Frag} {mg : Str → Option Value} {base : Heap}
theorem strs_dp {H : Hp} (zs : List Str) : DpAll K H (zs.map V.str) (zs.map PyData.str) := by
  induction zs with
  | nil => exact .nil
  | cons z r ih => exact .cons (.str z) ih
/-- what _law_told tells of a run -/
def TR (es : List EdM) (x : Str) (v : V) (H : Hp) : Prop := (∃ y, runA es 0 x = .txt y ∧ v = .str y) ∨ ((∀ y, runA es 0 x ≠ .txt y) ∧ ∃ t ws, v = .ref t ∧ H t = some (.tup ws))
theorem at_run {Cs : Nat → Addr} {Ca C CN CO CT pr : Addr} {es : List EdM} {x : Str} {H : Hp} {Q : VK} (ip : IsPr Cs Ca C H pr es) (hT : isT (.str x) = true) (r1 : Srt (.str x)) (b : BndA es x) (k : ∀ v H', Same H H' → TR es x v H' → Q v H') : spRun Cs Ca C CN CO CT [.ref pr, .str x] H Q (Etold CN CO Q) := by
  refine ⟨pr, es, .str x, .str x, rfl, ip, .atm (.str x), r1, (fun z => nomatch hT.symm.trans z), fun x2 e _ => ?_⟩
  cases e
  refine ⟨b, fun i m h H1 d s1 hd => ?_, fun i h H1 d s1 hd => ?_, fun y h H1 s1 => k _ _ s1 (.inl ⟨y, h, rfl⟩)⟩
  · refine .inl ⟨rfl, d, i, m, rfl, upd_same, fun t ht => k _ _ ((s1.trans (same_new hd)).trans (same_new ht)) (.inr ⟨fun y e => (nomatch h.symm.trans e), t, _, rfl, upd_same⟩)⟩
  · refine .inr ⟨rfl, d, i, rfl, upd_same, fun t ht => k _ _ ((s1.trans (same_new hd)).trans (same_new ht)) (.inr ⟨fun y e => (nomatch h.symm.trans e), t, _, rfl, upd_same⟩)⟩
theorem TR.map {es : List EdM} {x : Str} {v : V} {H H' : Hp} (h : TR es x v H) (k : ∀ u ws, H u = some (.tup ws) → H' u = some (.tup ws)) : TR es x v H' :=
  h.elim .inl fun ⟨n, t, ws, e, h⟩ => .inr ⟨n, t, ws, e, k _ _ h⟩
theorem IsPr.ins {Cs : Nat → Addr} {Ca C : Addr} {H : Hp} {pr : Addr} {es : List EdM} (ip : IsPr Cs Ca C H pr es) : ∃ dx q, H pr = some (.ins C dx [("_edits", .ref q)]) := by
  obtain ⟨dx, q, xs, h, _⟩ := ip
  exact ⟨dx, q, h⟩
theorem tr_isi {es : List EdM} {x : Str} {v : V} {H : Hp} (h : TR es x v H) : ∃ t b, TyX K H v t ∧ PySem.W.kitOne K t (.type "str") = some b ∧ (b = true ↔ ∃ y, runA es 0 x = .txt y) := by
  rcases h with ⟨y, h, rfl⟩ | ⟨n, t, ws, rfl, e⟩
  · exact ⟨.type "str", true, .base (.str y), kit_ty (by decide +kernel), ⟨fun _ => ⟨y, h⟩, fun _ => rfl⟩⟩
  · exact ⟨.type "tuple", false, .base (.tup e), kit_ty (by decide +kernel), ⟨fun z => (nomatch z), fun ⟨y, z⟩ => absurd z (n y)⟩⟩
theorem Ltr.back {x : Str} (h : Ltr x) : Ltr (backS x) := fun c hc => by
  rw [backS_list] at hc
  exact h c (List.mem_reverse.mp hc)
end
end Vk
set_option Elab.async false
set_option maxRecDepth 100000
set_option linter.all false
set_option maxHeartbeats 4000000
namespace Vk
open PySem PySem.Spec PyProof.Rows L2 LamX NdefX StX
section
variable {P : Program} {w : World} {K : PySem.W.Frag} {mg : Str → Option Value} {base : Heap}
variable {C_Once C_First C_Perhaps C_Every C_AtOnce C_Edit C_Program C_NoPlace C_Overlap C_InvalidText C_NoMirror P0 c : Addr}
abbrev qLaw : Str := (envOfC "law" (defScope s_law) 0 0 .none).qual ++ "<lambda>"
theorem free_l0 : ndefB (defScope s_law) (lamSc e_l0) ["_law_body", "_law_program_here"] = true := by decide +kernel
theorem free_l1 : ndefB (defScope s_law) (lamSc e_l1) ["_law_body", "_law_other"] = true := by decide +kernel
theorem free_l2 : ndefB (defScope s_law) (lamSc e_l2) ["_law_whole"] = true := by decide +kernel
def spLaw (P0 : Addr) (K : PySem.W.Frag) : Sp := fun vs H Q _ => ∃ (a : Addr) (ns : List Int), vs = [.ref a] ∧ SqL K H a (ns.map V.int) ∧ ns.length ≤ 63 ∧ H P0 = some (.tbl #[]) ∧ ∀ H', Q (.bl true) H'
theorem sc_law : FnScope ["_law_script", "_law_pen_here", "_law_turn", "_law_signs_here", "_law_plains", "_law_k", "_law_program_here", "_law_other", "_law_one", "_law_body", "_law_told_here", "_law_back_here", "_law_more", "_law_wrong", "_law_whole"] ["_law_script"] (defScope s_law) := ⟨rfl, rfl, rfl, by decide +kernel, rfl, by decide +kernel, by decide +kernel⟩
theorem b_law {f : Addr} {fd : FuncData} (F : FunC K "law" "law" s_law f fd c) (T : Txt mg) (c_lpen : CalG P w K mg base CX0 1 "_law_pen" (spPen K)) (c_lfew : CalG P w K mg base CX0 3 "_law_few" spFew) (c_ldraw : CalG P w K mg base CX0 1 "_law_draw" spDraw) (c_ledit : CalG P w K mg base CX0 4 "_law_edit" spPlain) (c_lprogram : CalG P w K mg base CX0 9 "_law_program" (spProg (cls4 C_Once C_First C_Perhaps C_Every) C_AtOnce C_Program)) (c_ltexts : CalG P w K mg base CX0 1 "_law_texts" spTexts) (c_lshuffled : CalG P w K mg base CX0 2 "_law_shuffled" spShuf) (c_lseeded : CalG P w K mg base CX0 4 "_law_seeded" spSeed9) (tb : TabB base mg c P0) (c_ltold : CalH P w K mg base CX0 8 "_law_told" (spTold P w K mg base C_NoPlace C_Overlap)) (c_lrefused : CalH P w K mg base CX0 11 "_law_refused" (spRefM P w K mg base C_NoMirror)) (clP : Cls K C_Program) (c_run : MthG P w K mg base (L2.CX P w) 6 C_Program "run" (spRun (cls4 C_Once C_First C_Perhaps C_Every) C_AtOnce C_Program C_NoPlace C_Overlap C_InvalidText)) (c_mirrored : MthG P w K mg base (L2.CX P w) 9 C_Program "mirrored" (spMirP (cls4 C_Once C_First C_Perhaps C_Every) C_AtOnce C_Program C_NoMirror)) (pr_olds : PrG P w K mg base 4 C_Program "olds" (spOlds (cls4 C_Once C_First C_Perhaps C_Every) C_AtOnce C_Program)) (eqP : EqI P w K mg base 3 C_Program (spEqP (cls4 C_Once C_First C_Perhaps C_Every) C_AtOnce C_Program)) : FnG P w K mg base CX0 12 f fd ["_law_script"] (spLaw P0 K) := by
  refine okC0 F sc_law (fun vs H Q E h => ?_) (fun A outer s H vs Q E hg hr h => ?_)
  · obtain ⟨a, ns, rfl, _⟩ := h
    rfl
  · have hu := hu_of hr
    have hu64 := hr.units
    obtain ⟨a, ns, rfl, hS, hlen, hP0, k⟩ := h
    let cells := (envOfC "law" (defScope s_law) s.heap.objs.size f (.ref c)).cells
    let rd0 : L2.St → List V → Hp → VK → Prop := fun σ vs H Q => ∃ f2 c2, vs = [.ref f2] ∧ H f2 = some (LamO f2 (lam e_l0 qLaw (cloFrom cells (lamSc e_l0).names []) c2)) ∧ H c2 = some (CodeO c2 qLaw) ∧ spL (cls4 C_Once C_First C_Perhaps C_Every) C_AtOnce C_Program C_NoPlace C_Overlap C_InvalidText ([9, 6].map (slotAt σ)) H Q (Etold C_NoPlace C_Overlap Q)
    let rd1 : L2.St → List V → Hp → VK → Prop := fun σ vs H Q => ∃ f2 c2, vs = [.ref f2] ∧ H f2 = some (LamO f2 (lam e_l1 qLaw (cloFrom cells (lamSc e_l1).names []) c2)) ∧ H c2 = some (CodeO c2 qLaw) ∧ spLb (cls4 C_Once C_First C_Perhaps C_Every) C_AtOnce C_Program C_NoPlace C_Overlap C_InvalidText ([9, 7].map (slotAt σ)) H Q (Etold C_NoPlace C_Overlap Q)
    let rd2 : L2.St → List V → Hp → VK → Prop := fun σ vs H Q => ∃ f2 c2, vs = [.ref f2] ∧ H f2 = some (LamO f2 (lam e_l2 qLaw (cloFrom cells (lamSc e_l2).names []) c2)) ∧ H c2 = some (CodeO c2 qLaw) ∧ spLm (cls4 C_Once C_First C_Perhaps C_Every) C_AtOnce C_Program C_NoMirror ([14].map (slotAt σ)) H (fun _ H1 => Q .non H1) (Emir C_NoMirror Q)
    have asks0 : ∀ (pins : List (Addr × Obj)) (s2 : Shared) (σ : L2.St) (H2 : Hp) (vs : List V) (Q : VK), Inv (cxOf CX0 P w K mg base ["_law_script", "_law_pen_here", "_law_turn", "_law_signs_here", "_law_plains", "_law_k", "_law_program_here", "_law_other", "_law_one", "_law_body", "_law_told_here", "_law_back_here", "_law_more", "_law_wrong", "_law_whole"] "law" (defScope s_law) f (.ref c) A outer s H E).nox pins σ H2 s2 → rd0 σ vs H2 Q → spTold P w K mg base C_NoPlace C_Overlap s2.heap vs H2 Q E0 := by
      intro pins s2 σ H2 vs Q I h
      obtain ⟨f2, c2, rfl, hf, hc, q⟩ := h
      exact ⟨f2, _, _, _, _, rfl, lk0 c_run clP qLaw _ c2, hf, hc, cells_of I (Caps.made I.ok (ndef_free free_l0) (ndef_fr free_l0) rfl), q⟩
    have asks1 : ∀ (pins : List (Addr × Obj)) (s2 : Shared) (σ : L2.St) (H2 : Hp) (vs : List V) (Q : VK), Inv (cxOf CX0 P w K mg base ["_law_script", "_law_pen_here", "_law_turn", "_law_signs_here", "_law_plains", "_law_k", "_law_program_here", "_law_other", "_law_one", "_law_body", "_law_told_here", "_law_back_here", "_law_more", "_law_wrong", "_law_whole"] "law" (defScope s_law) f (.ref c) A outer s H E).nox pins σ H2 s2 → rd1 σ vs H2 Q → spTold P w K mg base C_NoPlace C_Overlap s2.heap vs H2 Q E0 := by
      intro pins s2 σ H2 vs Q I h
      obtain ⟨f2, c2, rfl, hf, hc, q⟩ := h
      exact ⟨f2, _, _, _, _, rfl, lk1 c_run clP qLaw _ c2, hf, hc, cells_of I (Caps.made I.ok (ndef_free free_l1) (ndef_fr free_l1) rfl), q⟩
    have asks2 : ∀ (pins : List (Addr × Obj)) (s2 : Shared) (σ : L2.St) (H2 : Hp) (vs : List V) (Q : VK), Inv (cxOf CX0 P w K mg base ["_law_script", "_law_pen_here", "_law_turn", "_law_signs_here", "_law_plains", "_law_k", "_law_program_here", "_law_other", "_law_one", "_law_body", "_law_told_here", "_law_back_here", "_law_more", "_law_wrong", "_law_whole"] "law" (defScope s_law) f (.ref c) A outer s H E).nox pins σ H2 s2 → rd2 σ vs H2 Q → spRefM P w K mg base C_NoMirror s2.heap vs H2 Q E0 := by
      intro pins s2 σ H2 vs Q I h
      obtain ⟨f2, c2, rfl, hf, hc, q⟩ := h
      exact ⟨f2, _, _, _, _, rfl, lk2 c_mirrored clP qLaw _ c2, hf, hc, cells_of I (Caps.made I.ok (ndef_free free_l2) (ndef_fr free_l2) rfl), q⟩
    refine ⟨_, (pss_cons (ps_set (i := 1) sc_law.nd rfl (Or.inr rfl) (pe_cG c_lpen hg hr (by decide) pass0 (pa_cons (pv 0) pa_nil)))
      (pss_cons (ps_for PassesOwn.never rfl (pi_range1 rfl T.range (pa_cons (pe_op op_add pe_int (pe_callB (call_min2 rfl) (by rfl) T.min (by decide +kernel) (pa_cons pe_int (pa_cons (pe_callB call_len (by rfl) T.len (by decide +kernel) (pa_cons (pv 0) pa_nil)) pa_nil)))) pa_nil)) (pg_name (i := 2) sc_law.nd rfl (Or.inl rfl)) (pss_cons (ps_set (i := 3) sc_law.nd rfl (Or.inr rfl) (pe_cG c_lfew hg hr (by decide) pass0 (pa_cons (pv 1) pa_nil)))
      (pss_cons (ps_set (i := 4) sc_law.nd rfl (Or.inr rfl) (pe_lc (own := [("_law_k", 5)]) (g := gName 5) (tt := tYes) rfl sc_law.nd (pi_range1 rfl T.range (pa_cons (pe_cG c_ldraw hg hr (by decide) pass0 (pa_cons (pv 1) (pa_cons pe_int pa_nil))) pa_nil)) (blkOk_by (own := [("_law_k", 5)]) (N := ["_law_script", "_law_pen_here", "_law_turn", "_law_signs_here", "_law_plains", "_law_k", "_law_program_here", "_law_other", "_law_one", "_law_body", "_law_told_here", "_law_back_here", "_law_more", "_law_wrong", "_law_whole"]) (sc := defScope s_law) (by decide +kernel)) (fun _ _ _ _ _ => (pg_name (i := 5) sc_law.nd rfl (Or.inl rfl))) (fun _ _ _ _ _ => pts_nil) (fun _ _ _ _ _ => (pe_cG c_ledit hg hr (by decide) pass0 (pa_cons (pv 1) (pa_cons (pv 3) (pa_cons pe_int (pa_cons (pe_lst (pa_cons pe_str (pa_cons pe_str (pa_cons pe_str pa_nil)))) pa_nil))))))))
      (pss_cons (ps_set (i := 6) sc_law.nd rfl (Or.inr rfl) (pe_cG c_lprogram hg hr (by decide) pass0 (pa_cons (pv 4) pa_nil)))
      (pss_cons (ps_set (i := 7) sc_law.nd rfl (Or.inr rfl) (pe_methG0 (pv 6) clP c_mirrored hg hr (by decide) passesF))
      (pss_cons (ps_if (PW.pt (pw_or (pt_cmpR (op_neI eqP hr (by decide)) (pe_methG0 (pv 7) clP c_mirrored hg hr (by decide) passesF) (pv 6) (nomark _)) (pw_or1 (pt_cmpR (op_neD hu64) (pe_propG (pv 7) pr_olds hg hr (by decide)) (pe_callTy call_tuple_of (by rfl) T.tuple (by decide +kernel) (pa_cons (pe_lc (own := [("_law_one", 8)]) (g := gName 8) (tt := tYes) rfl sc_law.nd (pi_tup (pe_propG (pv 6) pr_olds hg hr (by decide))) (blkOk_by (own := [("_law_one", 8)]) (N := ["_law_script", "_law_pen_here", "_law_turn", "_law_signs_here", "_law_plains", "_law_k", "_law_program_here", "_law_other", "_law_one", "_law_body", "_law_told_here", "_law_back_here", "_law_more", "_law_wrong", "_law_whole"]) (sc := defScope s_law) (by decide +kernel)) (fun _ _ _ _ _ => (pg_name (i := 8) sc_law.nd rfl (Or.inl rfl))) (fun _ _ _ _ _ => pts_nil) (fun _ _ _ _ _ => (pe_revS (pv 8)))) pa_nil)) (nomark _))))) (pss_one (ps_ret pe_bl)) pss_nil)
      (pss_cons (ps_for PassesOwn.never rfl (pi_list (pe_op op_cat (pe_cG c_ltexts hg hr (by decide) pass0 (pa_cons (pe_slice sl_str (pv 3) po_none (po_some pe_int)) (pa_cons pe_int pa_nil))) (pe_lc (own := [("_law_k", 5)]) (g := gName 5) (tt := tYes) rfl sc_law.nd (pi_range1 rfl T.range (pa_cons pe_int pa_nil)) (blkOk_by (own := [("_law_k", 5)]) (N := ["_law_script", "_law_pen_here", "_law_turn", "_law_signs_here", "_law_plains", "_law_k", "_law_program_here", "_law_other", "_law_one", "_law_body", "_law_told_here", "_law_back_here", "_law_more", "_law_wrong", "_law_whole"]) (sc := defScope s_law) (by decide +kernel)) (fun _ _ _ _ _ => (pg_name (i := 5) sc_law.nd rfl (Or.inl rfl))) (fun _ _ _ _ _ => pts_nil) (fun _ _ _ _ _ => (pe_cG c_lseeded hg hr (by decide) pass0 (pa_cons (pv 1) (pa_cons (pv 3) (pa_cons (pv 4) pa_nil)))))))) (pg_name (i := 9) sc_law.nd rfl (Or.inr rfl)) (pss_cons (ps_set (i := 10) sc_law.nd rfl (Or.inl rfl) (pe_cH (rd := rd0) c_ltold hg hr (by decide) pass0 (pa_cons (pe_lamv (T := [(P0, qLaw)]) tb rfl List.mem_cons_self (fun p hp _ => by rw [List.mem_singleton.mp hp]; rfl) rfl (ndef_free free_l0)) pa_nil) asks0))
      (pss_cons (ps_set (i := 11) sc_law.nd rfl (Or.inl rfl) (pe_cH (rd := rd1) c_ltold hg hr (by decide) pass0 (pa_cons (pe_lamv (T := [(P0, qLaw)]) tb rfl List.mem_cons_self (fun p hp _ => by rw [List.mem_singleton.mp hp]; rfl) rfl (ndef_free free_l1)) pa_nil) asks1))
      (pss_cons (ps_if (pt_cmpR op_ne (pe_callB call_isi (by rfl) T.isinstance (by decide +kernel) (pa_cons (pv 10) (pa_cons (pe_bltn (v := .ty "str") (by rfl) T.str rfl rfl) pa_nil))) (pe_callB call_isi (by rfl) T.isinstance (by decide +kernel) (pa_cons (pv 11) (pa_cons (pe_bltn (v := .ty "str") (by rfl) T.str rfl rfl) pa_nil))) (nomark _)) (pss_one (ps_ret pe_bl)) pss_nil)
      (pss_one (ps_if (PW.pt (pw_and (pt_val (pe_callB call_isi (by rfl) T.isinstance (by decide +kernel) (pa_cons (pv 10) (pa_cons (pe_bltn (v := .ty "str") (by rfl) T.str rfl rfl) pa_nil)))) (pw_and1 (pt_cmpR op_ne (pe_revS (pv 10)) (pv 11) (nomark _))))) (pss_one (ps_ret pe_bl)) pss_nil))))))
      (pss_cons (ps_set (i := 12) sc_law.nd rfl (Or.inr rfl) (pe_op op_cat (pv 4) (pe_lc (own := [("_law_k", 5)]) (g := gName 5) (tt := tYes) rfl sc_law.nd (pi_range1 rfl T.range (pa_cons (pe_op op_add pe_int (pe_cG c_ldraw hg hr (by decide) pass0 (pa_cons (pv 1) (pa_cons pe_int pa_nil)))) pa_nil)) (blkOk_by (own := [("_law_k", 5)]) (N := ["_law_script", "_law_pen_here", "_law_turn", "_law_signs_here", "_law_plains", "_law_k", "_law_program_here", "_law_other", "_law_one", "_law_body", "_law_told_here", "_law_back_here", "_law_more", "_law_wrong", "_law_whole"]) (sc := defScope s_law) (by decide +kernel)) (fun _ _ _ _ _ => (pg_name (i := 5) sc_law.nd rfl (Or.inl rfl))) (fun _ _ _ _ _ => pts_nil) (fun _ _ _ _ _ => (pe_cG c_ledit hg hr (by decide) pass0 (pa_cons (pv 1) (pa_cons (pv 3) (pa_cons pe_int (pa_cons (pe_lst (pa_cons pe_str (pa_cons pe_str pa_nil))) pa_nil)))))))))
      (pss_cons (ps_set (i := 12) sc_law.nd rfl (Or.inr rfl) (pe_slice sl_list (pe_cG c_lshuffled hg hr (by decide) pass0 (pa_cons (pv 1) (pa_cons (pv 12) pa_nil))) po_none (po_some pe_int)))
      (pss_cons (ps_setLc (i := 13) (own := [("_law_k", 5)]) (g := gName 5) rfl sc_law.nd rfl rfl (sw_true rfl rfl rfl (by decide +kernel)) (pi_range1 rfl T.range (pa_cons (pe_callB call_len (by rfl) T.len (by decide +kernel) (pa_cons (pv 12) pa_nil)) pa_nil)) (blkOk_by (own := [("_law_k", 5)]) (N := ["_law_script", "_law_pen_here", "_law_turn", "_law_signs_here", "_law_plains", "_law_k", "_law_program_here", "_law_other", "_law_one", "_law_body", "_law_told_here", "_law_back_here", "_law_more", "_law_wrong", "_law_whole"]) (sc := defScope s_law) (by decide +kernel)) (fun _ _ _ _ _ => (pg_name (i := 5) sc_law.nd rfl (Or.inl rfl))) (fun _ _ _ _ _ => (pts_one (pt_cmpR (op_in_seqK (K := K) rfl) (pe_ix (ix_seqK (K := K) rfl) (pe_ix (ix_seqK (K := K) rfl) (pv 12) (pv 5) (fun _ _ => rfl)) pe_int (fun _ _ => rfl)) (pe_tup (pa_cons pe_str (pa_cons pe_str pa_nil))) (by rfl)))) (fun _ _ _ _ _ => (pv 5)))
      (pss_cons (ps_set (i := 14) sc_law.nd rfl (Or.inr rfl) (pe_cG c_lprogram hg hr (by decide) pass0 (pa_cons (pv 12) pa_nil)))
      (pss_one (ps_if (pt_cmpR op_ne (pe_cH (rd := rd2) c_lrefused hg hr (by decide) pass0 (pa_cons (pe_lamv (T := [(P0, qLaw)]) tb rfl List.mem_cons_self (fun p hp _ => by rw [List.mem_singleton.mp hp]; rfl) rfl (ndef_free free_l2)) pa_nil) asks2) (pe_ix ix_seq (pe_op op_cat (pv 13) (pe_lst (pa_cons pe_non pa_nil))) pe_int (fun _ _ => rfl)) (nomark _)) (pss_one (ps_ret pe_bl)) pss_nil)))))))))))))
      (pss_one (ps_ret pe_bl)))), ?_⟩
    refine ⟨_, rfl, a, ns, rfl, hS, fun p pc H1 hp0 Pn0 s1 => ?_⟩
    have T1 : Tabs [(P0, qLaw)] H1 := fun r hr => by
      rw [List.mem_singleton.mp hr]
      exact TabS.nil (s1 _ _ hP0)
    refine ⟨_, rfl, _, _, rfl, .inl ⟨_, s1.seq hS, rfl⟩, _, _, rfl, _, _, rfl, rfl, _, rfl, ?_, ?_, ?_⟩
    · split <;> omega
    · split <;> omega
    refine for_range (lo := 0) (fun i σ H' => ∃ o2 o3 o4 o5 o6 o7 o8 o9 o10 o11 o12 o13 o14 : Option V, σ = [some (.ref a), some (.ref p), o2, o3, o4, o5, o6, o7, o8, o9, o10, o11, o12, o13, o14] ∧ Pen H' p pc (3000 * i) ∧ Tabs [(P0, qLaw)] H') ?_ ?_ ?_
    · exact ⟨_, _, _, _, _, _, _, _, _, _, _, _, _, rfl, Pn0, T1⟩
    · rintro i σ H2 hi ⟨o2, o3, o4, o5, o6, o7, o8, o9, o10, o11, o12, o13, o14, rfl, P2, T2⟩
      have hi8 : i ≤ 6 := by
        have : i < 7 := by
          revert hi
          split <;> omega
        omega
      refine ⟨_, rfl, p, pc, 3000 * i, rfl, P2, by omega, fun sg H3 fz P3 x3 => ?_⟩
      have T3 := tabs_pen T2 P2 x3
      refine ⟨_, rfl, p, pc, 4, _, rfl, by decide, by decide, P3, by omega, fun m1 H5 m10 m13 P5 x5 => ⟨m1, rfl, by omega, by omega, fun D hD => ?_⟩⟩
      have T5 := tabs_pen T3 P3 x5
      have ap := P5.apart hD
      refine lc_range (lo := 0) (n := m1.toNat) (fun q H' => ∃ got es, H' D = some (.lst got) ∧ Plains H' got es ∧ (∀ e ∈ es, Gw sg 3 e ∧ Kd [0, 2, 4] e) ∧ es.length = q ∧ Pen H' p pc (3000 * i + 5 + 61 * q) ∧ Tabs [(P0, qLaw)] H') ⟨[], [], upd_same, .nil, (fun e he => absurd he List.not_mem_nil), rfl, (P5.new hD).mono (by omega), T5.ext (same_new hD)⟩ (fun q H7 hq w => ?_) (fun H6 w => ?_)
      · obtain ⟨got, es, hg7, pls, gw, el2, P7, T7⟩ := w
        have gl := paired_len pls
        have q3 : q < 3 := by omega
        refine ⟨rfl, ?_⟩
        dsimp only [tYes]
        rw [if_pos rfl]
        refine ⟨_, rfl, _, rfl, few_len (Nat.le_of_ble_eq_true rfl), fun so hso => ?_⟩
        have P8 := P7.new (o := .lst (srtV [0, 2, 4])) hso
        have T8 := T7.ext (same_new (o := .lst (srtV [0, 2, 4])) hso)
        have sg8 := same_new (o := .lst (srtV [0, 2, 4])) hso
        have hs8 : (upd H7 so (.lst (srtV [0, 2, 4]))) so = some (.lst (srtV [0, 2, 4])) := upd_same
        refine ⟨p, pc, sg, 3, so, [0, 2, 4], _, rfl, fz, by decide, by decide, hs8, by decide, by decide, by decide, P8, by omega, fun v e H9 pl gwe kd P9 x9 => ?_⟩
        have hg9 : H9 D = some (.lst got) := x9 _ _ (sg8 _ _ hg7) ap.1
        have ne : ∀ u ws, H9 u = some (.tup ws) → (upd H9 D (.lst (got ++ [v]))) u = some (.tup ws) := fun u ws h => by
          rw [upd_ne (fun z => by rw [z, hg9] at h; cases h)]
          exact h
        refine ⟨got, hg9, few_lt (by omega), got ++ [v], es ++ [e], upd_same, ?_, fun e9 he => ?_, by rw [List.length_append, List.length_singleton, el2], (P9.set ap.1 ap.2).mono (by omega), tabs_at (tabs_pen T8 P8 x9) hg9⟩
        · exact paired_app2 (Plains.map (Plains.map (Plains.map pls fun u ws h => sg8 _ _ h) (tups_pen P8 x9)) ne) (pl.keep ne)
        · rcases List.mem_append.mp he with he | he
          · exact gw e9 he
          · rw [List.mem_singleton.mp he]
            exact ⟨gwe, kd⟩
      obtain ⟨got, es, hd, pls, gw, le, P6, T6⟩ := w
      replace le : es.length ≤ 3 := by omega
      replace P6 := P6.mono (show 3000 * i + 5 + 61 * m1.toNat ≤ 3000 * i + 200 by omega)
      clear P5 x5 T5 P3 x3 T3 P2 T2 hD
      have gl := paired_len pls
      have wds : ∀ e ∈ es, Wds e := fun e he => (gw_wds fz (gw e he).1).1
      have sml : ∀ e ∈ es, Sml e := fun e he => (gw_wds fz (gw e he).1).2
      have mir : ∀ e ∈ es, Mirr e ∧ noMir e = false := fun e he => mirr_of (gw e he).1 (gw e he).2
      have wdsM : ∀ e ∈ es.map mirE, Wds e := fun e he => by
        obtain ⟨q, hq, rfl⟩ := List.mem_map.mp he
        exact (wds q hq).mir
      have smlM : ∀ e ∈ es.map mirE, Sml e := fun e he => by
        obtain ⟨q, hq, rfl⟩ := List.mem_map.mp he
        exact (sml q hq).mir
      have noM : ∀ e ∈ es.map mirE, noMir e = false := fun e he => by
        obtain ⟨q, hq, rfl⟩ := List.mem_map.mp he
        have := (mir q hq).2
        cases q <;> exact this
      have backE : (es.map mirE).map mirE = es := by
        rw [List.map_map]
        exact (List.map_congr_left fun e _ => mirE_mirE e).trans (List.map_id _)
      have leM : (es.map mirE).length ≤ 4 := by rw [List.length_map]; omega
      refine ⟨_, rfl, D, got, es, rfl, hd, pls, wds, by omega, fun pr H7 s7 ip => ?_⟩
      obtain ⟨dx, q, hpr⟩ := ip.ins
      refine ⟨_, rfl, pr, dx, _, rfl, hpr, rfl, pr, es, rfl, ip, wds, by omega, (fun j e he h => nomatch h.symm.trans (mir e (List.mem_of_getElem? he)).2), fun _ mo H8 s8 im => ?_⟩
      have ip8 := ip.keep s8
      have hd8 := s8 _ _ (s7 _ _ hd)
      have pls8 := (pls.same s7).same s8
      have P8 := (P6.stay s7).stay s8
      have T8 := (T6.ext s7).ext s8
      clear P6 T6 pls hd s7 s8 ip hpr
      obtain ⟨dx, q, hpr⟩ := im.ins
      refine name_go ?_
      dsimp only
      refine seq_mid (fun σ H' => σ = [some (.ref a), some (.ref p), some (.int (0 + (i : Int))), some (.str sg), some (.ref D), o5, some (.ref pr), some (.ref mo), o8, o9, o10, o11, o12, o13, o14] ∧ Same H8 H') (fun D' hD' => ?_) (fun σ H9 hm => ?_)
      · refine ⟨_, rfl, mo, dx, _, rfl, hpr, rfl, mo, es.map mirE, rfl, im, wdsM, leM, (fun j e he h => nomatch h.symm.trans (noM e (List.mem_of_getElem? he))), fun _ b2 H9 s9 ib => ?_⟩
        rw [backE] at ib
        obtain ⟨dx2, q2, hb2⟩ := ib.ins
        obtain ⟨dx3, q3, hpr3⟩ := ip8.ins
        refine ⟨_, rfl, b2, dx2, _, .ref C_Program, rfl, hb2, .ins (s9 _ _ hpr3), by unfold PySem.W.notFirst; simp, b2, pr, es, rfl, ib, ip8.keep s9, wds, fun H10 s10 => ?_⟩
        refine ⟨true, rfl, _, rfl, iteF ?_⟩
        have sm10 := s9.trans s10
        have zl : (oldS es).length ≤ 12 := by
          have := oldsE_len wds
          rw [oldsE_is, List.length_map] at this
          omega
        have zok : ∀ z ∈ oldS es, Srt (.str z) := fun z hz => by
          unfold oldS at hz
          obtain ⟨⟨z1, z2⟩, hp, rfl⟩ := List.mem_map.mp hz
          obtain ⟨e, he, hp⟩ := List.mem_flatMap.mp hp
          have w1 := wds e he
          cases e with
          | one n y1 y2 =>
            cases List.mem_singleton.mp hp
            exact w1.2.2.1
          | many ps => exact (w1.ok _ hp).2.2.1
        have zokB : ∀ z ∈ (oldS es).map backS, PyData.strOk z = true := fun z hz => by
          obtain ⟨y, hy, rfl⟩ := List.mem_map.mp hz
          exact (srt_back (zok y hy)).2
        obtain ⟨dx4, q4, hm4⟩ := (im.keep sm10).ins
        refine ⟨_, rfl, mo, dx4, _, rfl, hm4, mo, es.map mirE, rfl, im.keep sm10, wdsM, leM, fun l1 H11 s11 hl1 => ?_⟩
        have sm11 := sm10.trans s11
        obtain ⟨dx5, q5, hm5⟩ := (ip8.keep sm11).ins
        refine ⟨_, rfl, pr, dx5, _, rfl, hm5, pr, es, rfl, ip8.keep sm11, wds, by omega, fun l2 H12 s12 hl2 => ?_⟩
        have sm12 := sm11.trans s12
        rw [oldsE_is] at hl1 hl2
        rw [oldS_mir] at hl1
        refine ⟨l2, rfl, ⟨_, SqT.of hl2⟩, fun D2 hD2 => ?_⟩
        refine lc_tup (K := K) (a := l2) (xs := (oldS es).map V.str) (fun i H' => Same H12 H' ∧ H' D2 = some (.lst ((((oldS es).take i).map backS).map V.str))) ⟨same_new hD2, upd_same⟩ (fun i H' _ q => SqT.of (q.1 _ _ hl2)) (fun i v H' hv q => ?_) (fun H' q => ?_)
        · obtain ⟨sm, hd⟩ := q
          rw [List.getElem?_map] at hv
          obtain ⟨z, hz, rfl⟩ := Option.map_eq_some_iff.mp hv
          refine ⟨rfl, ?_⟩
          dsimp only [tYes]
          rw [if_pos rfl]
          have zm := zok z (List.mem_of_getElem? hz)
          refine ⟨_, rfl, z, rfl, few_len (Nat.le_trans zm.1 (by decide)), _, hd, few_lt (by rw [List.length_map, List.length_map, List.length_take]; omega), upd_out hD2 sm, ?_⟩
          rw [upd_same, List.take_add_one, hz]
          simp
        · obtain ⟨sm, hd⟩ := q
          rw [List.take_of_length_le (by rw [List.length_map]; exact Nat.le_refl _)] at hd
          refine ⟨_, _, rfl, .inl ⟨SqL.of hd, fun l3 hl3 => ?_⟩⟩
          have s13 := same_new (o := .tup (((oldS es).map backS).map V.str)) hl3
          have sh := strs_shaped zokB
          refine ⟨.tuple (((oldS es).map backS).map PyData.str), .tuple (((oldS es).map backS).map PyData.str), .tup (SqT.of (s13 _ _ (sm _ _ (s12 _ _ hl1)))) (strs_dp _), .tup (SqT.of upd_same) (strs_dp _), sh, sh, _, rfl, ?_⟩
          rw [SeqAt.eqv_refl _ (SeqAt.canLay_of_shaped sh)]
          exact iteF (hD' _ _ ⟨rfl, (sm12.trans sm).trans s13⟩)
      obtain ⟨rfl, s9⟩ := hm
      replace ip8 := ip8.keep s9
      replace im := im.keep s9
      replace hd8 := s9 _ _ hd8
      replace pls8 := pls8.same s9
      replace P8 := P8.stay s9
      replace T8 := T8.ext s9
      clear hpr s9
      have cl : ∀ {a b : Nat} {x : Str}, Word (cutS sg none (some 2)) a b x → Ltr x := fun g c hc => fz.2.2 c (cut_mem (g.2.2 c hc))
      refine seq_mid (fun σ H' => ∃ o9 o10 o11, σ = [some (.ref a), some (.ref p), some (.int (0 + (i : Int))), some (.str sg), some (.ref D), o5, some (.ref pr), some (.ref mo), o8, o9, o10, o11, o12, o13, o14] ∧ Pen H' p pc (3000 * i + 800) ∧ Tabs [(P0, qLaw)] H' ∧ Plains H' got es ∧ H' D = some (.lst got)) (fun D' hD' => ?_) (fun σ H10 hm => ?_)
      · refine ⟨_, rfl, 2, rfl, sg, rfl, Nat.le_trans fz.2.1 (by decide), ?_⟩
        refine ⟨cutS sg none (some 2), rfl, cut2_len, fun lb bs H11 s11 hlb0 hlb wbs lbs => ?_⟩
        have wbs : ∀ x ∈ bs, x.length ≤ 75 ∧ Ltr x := fun x hx => ⟨Nat.le_trans (wbs x hx).2.1 (by decide), cl (wbs x hx)⟩
        replace ip8 := ip8.keep s11
        replace im := im.keep s11
        have hd11 := s11 _ _ hd8
        have pls11 := pls8.same s11
        have P11 := P8.stay s11
        have T11 := T8.ext s11
        refine ⟨8, rfl, by decide, by decide, fun D3 hD3 => ?_⟩
        have ap3 := P11.apart hD3
        refine lc_range (lo := 0) (n := (8 : Int).toNat) (fun q H' => ∃ cs : List Str, H' D3 = some (.lst (cs.map V.str)) ∧ (∀ x ∈ cs, x.length ≤ 75 ∧ Ltr x) ∧ cs.length = q ∧ Pen H' p pc (3000 * i + 200 + 61 * q) ∧ Tabs [(P0, qLaw)] H' ∧ Ext p H11 H') ⟨[], upd_same, (fun e he => absurd he List.not_mem_nil), rfl, (P11.new hD3).mono (by omega), T11.ext (same_new hD3), Ext.new hD3⟩ (fun q H7 hq w => ?_) (fun H12 w => ?_)
        · obtain ⟨cs, hg7, wcs, lcs, P7, T7, x7⟩ := w
          have q8 : q < 8 := hq
          refine ⟨rfl, ?_⟩
          dsimp only [tYes]
          rw [if_pos rfl]
          refine ⟨_, rfl, _, rfl, _, rfl, p, pc, D, sg, got, es, _, rfl, fz, x7 _ _ hd11 (P11.ne hd11), pls11.ext P11 x7, by omega, fun e he => ?_, P7, by omega, fun y H9 yl yt P9 x9 => ?_⟩
          · have g := (gw e he).1
            cases e with
            | one n z1 z2 =>
              refine ⟨Nat.le_of_ble_eq_true rfl, fun q hq => ?_⟩
              cases List.mem_singleton.mp hq
              exact ⟨Nat.zero_le _, g.2.1.2⟩
            | many ps => exact ⟨g.2.1, fun q hq => ⟨Nat.zero_le _, (g.1 q hq).1.2⟩⟩
          · have hg9 := x9 _ _ hg7 ap3.1
            refine ⟨_, hg9, few_lt (by rw [List.length_map]; omega), cs ++ [y], by rw [upd_same, List.map_append]; rfl, fun z hz => ?_, by rw [List.length_append, List.length_singleton, lcs], (P9.set ap3.1 ap3.2).mono (by omega), tabs_at (tabs_pen T7 P7 x9) hg9, (x7.trans x9).set hD3⟩
            rcases List.mem_append.mp hz with hz | hz
            · exact wcs z hz
            · rw [List.mem_singleton.mp hz]
              exact ⟨by omega, yt⟩
        obtain ⟨cs, hd3, wcs, lcs, P12, T12, x12⟩ := w
        replace lcs : cs.length = 8 := lcs
        replace P12 : Pen H12 p pc (3000 * i + 700) := P12.mono (by show 3000 * i + 200 + 61 * 8 ≤ _; omega)
        refine ⟨lb, D3, _, _, rfl, rfl, x12 _ _ hlb (P11.ne hlb), hd3, few_len (by rw [List.length_map, List.length_map]; omega), fun lz hlz => ?_⟩
        rw [← List.map_append]
        have sz := same_new (o := .lst ((bs ++ cs).map V.str)) hlz
        have hz0 : (upd H12 lz (.lst ((bs ++ cs).map V.str))) lz = some (.lst ((bs ++ cs).map V.str)) := upd_same
        have hdz := sz _ _ (x12 _ _ hd11 (P11.ne hd11))
        have plsz := (pls11.ext P11 x12).same sz
        replace ip8 := (ip8.ext P11 x12).keep sz
        replace im := (im.ext P11 x12).keep sz
        replace P12 := P12.stay sz
        replace T12 := T12.ext sz
        have wall : ∀ x ∈ bs ++ cs, x.length ≤ 75 ∧ Ltr x := fun x hx => (List.mem_append.mp hx).elim (wbs x) (wcs x)
        clear P8 T8 hd8 pls8 hd3 hlb x12 T11 P11 hd11 pls11 hlb0 s11 hD3 ap3
        refine ⟨lz, rfl, ⟨_, SqL.of hz0⟩, ?_⟩
        refine for_list (xs := (bs ++ cs).map V.str) (fun q σ H' => ∃ o9 o10 o11, σ = [some (.ref a), some (.ref p), some (.int (0 + (i : Int))), some (.str sg), some (.ref D), o5, some (.ref pr), some (.ref mo), o8, o9, o10, o11, o12, o13, o14] ∧ Pen H' p pc (3000 * i + 700) ∧ Tabs [(P0, qLaw)] H' ∧ Plains H' got es ∧ H' D = some (.lst got) ∧ IsPr (cls4 C_Once C_First C_Perhaps C_Every) C_AtOnce C_Program H' pr es ∧ IsPr (cls4 C_Once C_First C_Perhaps C_Every) C_AtOnce C_Program H' mo (es.map mirE) ∧ H' lz = some (.lst ((bs ++ cs).map V.str))) ?_ ?_ ?_ ?_
        · exact ⟨_, _, _, rfl, P12, T12, plsz, hdz, ip8, im, hz0⟩
        · rintro q σ H7 _ ⟨o9, o10, o11, rfl, _, _, _, _, _, _, h⟩
          exact SqL.of h
        · clear P12 T12 plsz hdz ip8 im hz0
          rintro q v σ H7 hv ⟨o9, o10, o11, rfl, P7, T7, pls7, hd7, ip7, im7, hz7⟩
          obtain ⟨x, hx, rfl⟩ := List.mem_map.mp (List.mem_of_getElem? hv)
          obtain ⟨xl, xt⟩ := wall x hx
          have hT : isT (.str x) = true := isT_of xt
          have r1 : Srt (.str x) := ⟨by omega, ok_letters xt⟩
          have hTb : isT (.str (backS x)) = true := isT_of xt.back
          have r1b : Srt (.str (backS x)) := srt_back r1
          have p3 : 3 ^ es.length ≤ 3 ^ 3 := Nat.pow_le_pow_right (by decide) le
          have bd : BndA es x := bnd_small sml (Nat.le_trans (Nat.mul_le_mul xl p3) (by decide))
          have bdM : BndA (es.map mirE) (backS x) := bnd_small smlM (by rw [backS_len, List.length_map]; exact Nat.le_trans (Nat.mul_le_mul xl p3) (by decide))
          refine name_go ?_
          obtain ⟨dx1, q1, hp7⟩ := ip7.ins
          refine ⟨T7, fun f0 c0 He xe be tbe n0 l0 o0 => ⟨f0, c0, rfl, l0, o0, .str x, .ref pr, rfl, ⟨pr, dx1, _, rfl, xe _ _ hp7 (fun _ z => nomatch z), rfl⟩, at_run (ip7.keepN xe) hT r1 bd fun tv Hf sf rt => ?_⟩⟩
          have nl : ∀ (u : Addr) (o : HO), (∀ k, o ≠ .tbl k) → H7 u = some o → Hf u = some o := fun u o n h => sf _ _ (xe _ _ h n)
          have hd8 := nl _ (.lst _) (fun _ z => nomatch z) hd7
          have hz8 := nl _ (.lst _) (fun _ z => nomatch z) hz7
          have pls8 := pls7.map fun u ws h => nl _ (.tup _) (fun _ z => nomatch z) h
          have ip8 := (ip7.keepN xe).keep sf
          have im8 := (im7.keepN xe).keep sf
          have P8 := (pen_extN P7 xe).stay sf
          have T8 := tbe.ext sf
          clear P7 T7 pls7 hd7 ip7 im7 hz7 nl xe be tbe n0 l0 o0 sf hp7
          refine name_go ?_
          obtain ⟨dx2, q2, hp8⟩ := im8.ins
          refine ⟨T8, fun f0 c0 He xe be tbe n0 l0 o0 => ⟨f0, c0, rfl, l0, o0, x, .ref mo, rfl, by omega, ⟨mo, dx2, _, rfl, xe _ _ hp8 (fun _ z => nomatch z), rfl⟩, at_run (im8.keepN xe) hTb r1b bdM fun tw Hg sf rw2 => ?_⟩⟩
          have nl : ∀ (u : Addr) (o : HO), (∀ k, o ≠ .tbl k) → Hf u = some o → Hg u = some o := fun u o n h => sf _ _ (xe _ _ h n)
          have hd9 := nl _ (.lst _) (fun _ z => nomatch z) hd8
          have hz9 := nl _ (.lst _) (fun _ z => nomatch z) hz8
          have pls9 := pls8.map fun u ws h => nl _ (.tup _) (fun _ z => nomatch z) h
          have rt9 := rt.map fun u ws h => nl _ (.tup _) (fun _ z => nomatch z) h
          have ip9 := (ip8.keepN xe).keep sf
          have im9 := (im8.keepN xe).keep sf
          have P9 := (pen_extN P8 xe).stay sf
          have T9 := tbe.ext sf
          clear P8 T8 pls8 hd8 ip8 im8 hz8 nl xe be tbe n0 l0 o0 sf hp8 rt
          have iff := fun y => run_back_iff (i := 0) (x := x) (y := y) fun e he => (mir e he).1
          obtain ⟨t1, b1, ty1, k1, e1⟩ := tr_isi (K := K) rt9
          obtain ⟨t2, b2, ty2, k2, e2⟩ := tr_isi (K := K) rw2
          have eb : b1 = b2 := by
            rw [Bool.eq_iff_iff, e1, e2]
            constructor
            · rintro ⟨y, h⟩
              exact ⟨_, (iff y).mp h⟩
            · rintro ⟨y, h⟩
              exact ⟨backS y, (iff _).mpr (by rw [backS_back]; exact h)⟩
          refine ⟨_, rfl, tv, .ty "str", t1, .type "str", b1, rfl, .ty "str", ty1, k1, _, rfl, tw, .ty "str", t2, .type "str", b2, rfl, .ty "str", ty2, k2, rfl, _, rfl, ?_⟩
          subst eb
          rw [decide_eq_true rfl]
          refine iteF ?_
          refine ⟨_, rfl, tv, .ty "str", t1, .type "str", b1, rfl, .ty "str", ty1, k1, _, rfl, ?_⟩
          cases b1 with
          | false => exact iteF (iteF ⟨_, _, _, rfl, P9, T9, pls9, hd9, ip9, im9, hz9⟩)
          | true =>
            obtain ⟨y, ey⟩ := e1.mp rfl
            have ew := (iff y).mp ey
            obtain rfl : tv = .str y := by
              rcases rt9 with ⟨y2, e, rfl⟩ | ⟨n, _⟩
              · rw [ey] at e
                cases e
                rfl
              · exact absurd ey (n y)
            obtain rfl : tw = .str (backS y) := by
              rcases rw2 with ⟨y2, e, rfl⟩ | ⟨n, _⟩
              · rw [ew] at e
                cases e
                rfl
              · exact absurd ew (n _)
            have yl : y.length ≤ 75 * 3 ^ 3 := Nat.le_trans (run_len sml ey) (Nat.mul_le_mul xl p3)
            refine iteT ⟨_, rfl, y, rfl, by rw [sizeLine_eq]; omega, _, rfl, rfl, _, rfl, ?_⟩
            rw [show (!decide (V.str (backS y) = V.str (backS y))) = false by rw [decide_eq_true rfl]; rfl]
            exact iteF ⟨_, _, _, rfl, P9, T9, pls9, hd9, ip9, im9, hz9⟩
        · rintro σ H7 ⟨o9, o10, o11, rfl, P7, T7, pls7, hd7, ip7, im7, hz7⟩
          exact hD' _ _ ⟨_, _, _, rfl, P7.mono (by omega), T7, pls7, hd7⟩
      clear P8 T8 pls8 hd8 ip8 im cl
      obtain ⟨o9, o10, o11, rfl, P8, T8, pls8, hd8⟩ := hm
      refine ⟨_, rfl, _, rfl, p, pc, 2, _, rfl, by decide, by decide, P8, by omega, fun m2 H5 m20 m22 P5 x5 => ⟨_, _, rfl, rfl, 1 + m2, rfl, by omega, by omega, fun D4 hD4 => ?_⟩⟩
      have T5 := tabs_pen T8 P8 x5
      have hd5 := x5 _ _ hd8 (P8.ne hd8)
      have pls5 := pls8.ext P8 x5
      have ap4 := P5.apart hD4
      refine lc_range (lo := 0) (n := (1 + m2).toNat) (fun q H' => ∃ got2 es2, H' D4 = some (.lst got2) ∧ Plains H' got2 es2 ∧ (∀ e ∈ es2, Gw sg 2 e ∧ Kd [1, 3] e) ∧ es2.length = q ∧ Pen H' p pc (3000 * i + 801 + 61 * q) ∧ Tabs [(P0, qLaw)] H' ∧ Ext p H5 H') ⟨[], [], upd_same, .nil, (fun e he => absurd he List.not_mem_nil), rfl, (P5.new hD4).mono (by omega), T5.ext (same_new hD4), Ext.new hD4⟩ (fun q H7 hq w => ?_) (fun H6 w => ?_)
      · obtain ⟨got2, es2, hg7, pls, gw2, el2, P7, T7, x7⟩ := w
        have gl2 := paired_len pls
        have q2 : q < 2 := by omega
        refine ⟨rfl, ?_⟩
        dsimp only [tYes]
        rw [if_pos rfl]
        refine ⟨_, rfl, _, rfl, few_len (Nat.le_of_ble_eq_true rfl), fun so hso => ?_⟩
        have P8 := P7.new (o := .lst (srtV [1, 3])) hso
        have T8 := T7.ext (same_new (o := .lst (srtV [1, 3])) hso)
        have sg8 := same_new (o := .lst (srtV [1, 3])) hso
        have hs8 : (upd H7 so (.lst (srtV [1, 3]))) so = some (.lst (srtV [1, 3])) := upd_same
        refine ⟨p, pc, sg, 2, so, [1, 3], _, rfl, fz, by decide, by decide, hs8, by decide, by decide, by decide, P8, by omega, fun v e H9 pl gwe kd P9 x9 => ?_⟩
        have hg9 : H9 D4 = some (.lst got2) := x9 _ _ (sg8 _ _ hg7) ap4.1
        have ne : ∀ u ws, H9 u = some (.tup ws) → (upd H9 D4 (.lst (got2 ++ [v]))) u = some (.tup ws) := fun u ws h => by
          rw [upd_ne (fun z => by rw [z, hg9] at h; cases h)]
          exact h
        refine ⟨got2, hg9, few_lt (by omega), got2 ++ [v], es2 ++ [e], upd_same, ?_, fun e9 he => ?_, by rw [List.length_append, List.length_singleton, el2], (P9.set ap4.1 ap4.2).mono (by omega), tabs_at (tabs_pen T8 P8 x9) hg9, ((x7.trans (.same sg8)).trans x9).set hD4⟩
        · exact paired_app2 (Plains.map (Plains.map (Plains.map pls fun u ws h => sg8 _ _ h) (tups_pen P8 x9)) ne) (pl.keep ne)
        · rcases List.mem_append.mp he with he | he
          · exact gw2 e9 he
          · rw [List.mem_singleton.mp he]
            exact ⟨gwe, kd⟩
      obtain ⟨got2, es2, hd4, pls4, gw2, le2, P6, T6, x6⟩ := w
      replace le2 : es2.length ≤ 2 := by omega
      have gl2 := paired_len pls4
      replace P6 := P6.mono (show 3000 * i + 801 + 61 * (1 + m2).toNat ≤ 3000 * i + 1000 by omega)
      refine ⟨D, D4, _, _, rfl, rfl, x6 _ _ hd5 (P5.ne hd5), hd4, few_len (by omega), fun lm hlm => ?_⟩
      have sm := same_new (o := .lst (got ++ got2)) hlm
      have plsm : Plains (upd H6 lm (.lst (got ++ got2))) (got ++ got2) (es ++ es2) := paired_app ((pls5.ext P5 x6).same sm) (pls4.same sm)
      have hm0 : (upd H6 lm (.lst (got ++ got2))) lm = some (.lst (got ++ got2)) := upd_same
      replace P6 := P6.stay sm
      replace T6 := T6.ext sm
      clear P8 T8 pls8 hd8 T5 hd5 pls5 ap4 P5 x5 x6 hd4 pls4 hD4
      generalize upd H6 lm (.lst (got ++ got2)) = H7 at sm plsm hm0 P6 T6 ⊢
      have all5 : ∀ e ∈ es ++ es2, Gw sg 3 e := fun e he => (List.mem_append.mp he).elim (fun h => (gw e h).1) fun h => (gw2 e h).1.wide (by decide)
      have gla := paired_len plsm
      have l5 : (es ++ es2).length ≤ 5 := by rw [List.length_append]; omega
      refine name_go ?_
      dsimp only
      refine ⟨_, rfl, _, rfl, p, pc, lm, _, _, rfl, hm0, by omega, P6, by omega, fun n ys H8 pm hn hy P8 x8 => ?_⟩
      obtain ⟨fs, pf, plf⟩ := paired_perm pm (plsm.ext P6 x8)
      have T8 := tabs_pen T6 P6 x8
      replace P8 := P8.mono (show 3000 * i + 1000 + (got ++ got2).length ≤ 3000 * i + 1100 by omega)
      clear plsm hm0 P6 T6 sm x8
      refine ⟨4, rfl, n, ys, rfl, SqL.of hy, fun lq hlq => ?_⟩
      have sq := same_new (o := .lst (cutV ys none (some 4))) hlq
      have cut4 : cutV ys none (some 4) = ys.take 4 := by
        unfold cutV
        show (ys.drop (HT.sIx ys.length 0 none)).take (HT.sIx ys.length ys.length (some ((4 : Nat) : Int)) - HT.sIx ys.length 0 none) = _
        rw [HT.sIx_nat, HT.sIx_none, List.drop_zero, Nat.sub_zero, Nat.min_def]
        split
        · rfl
        · rw [List.take_of_length_le (Nat.le_refl _), List.take_of_length_le (by omega)]
      have pl4 : Plains (upd H8 lq (.lst (cutV ys none (some 4)))) (ys.take 4) (fs.take 4) := Plains.same (paired_takeN 4 plf) sq
      have hq8 : (upd H8 lq (.lst (cutV ys none (some 4)))) lq = some (.lst (ys.take 4)) := by rw [upd_same, cut4]
      replace P8 := P8.stay sq
      replace T8 := T8.ext sq
      have wd4 : ∀ e ∈ fs.take 4, Wds e := fun e he => (gw_wds fz (all5 e (pf.mem_iff.mp (List.mem_of_mem_take he)))).1
      generalize upd H8 lq (.lst (cutV ys none (some 4))) = H9 at sq pl4 hq8 P8 T8 ⊢
      clear sq plf pf hn hy pm
      generalize hY : ys.take 4 = Y at pl4 hq8
      generalize hE : fs.take 4 = es4 at pl4 wd4
      have l4 : es4.length ≤ 4 := by rw [← hE, List.length_take]; omega
      have gl4 := paired_len pl4
      refine name_go ?_
      dsimp only
      refine ⟨_, rfl, _, _, rfl, .inl ⟨_, SqL.of hq8, rfl⟩, _, rfl, by omega, by omega, fun D5 hD5 => ?_⟩
      refine lc_range (lo := 0) (n := Y.length) (fun q H' => Same H9 H' ∧ H' D5 = some (.lst (wrongL es4 q))) ⟨same_new hD5, upd_same⟩ (fun q H' hq w => ?_) (fun H10 w => ?_)
      · obtain ⟨sm, hd⟩ := w
        obtain ⟨v, hv⟩ : ∃ v, Y[q]? = some v := ⟨Y[q], List.getElem?_eq_getElem hq⟩
        obtain ⟨e, he, ple⟩ := paired_at pl4 hv
        obtain ⟨t, t2, rfl, ht, hin⟩ := plain_sort ple
        have wl : (wrongL es4 q).length ≤ q := by
          unfold wrongL
          rw [List.length_map]
          exact Nat.le_trans (List.length_filter_le _ _) (by rw [List.length_range]; exact Nat.le_refl _)
        refine ⟨rfl, ?_⟩
        refine ⟨_, rfl, _, rfl, .inl ⟨lq, Y, _, _, rfl, rfl, SqL.of (sm _ _ hq8), (by rw [Int.zero_add]; exact atI_nat hv), .inr (.inl ⟨t, _, 0, _, rfl, rfl, SqT.of (sm _ _ ht), rfl, few_len (Nat.le_of_ble_eq_true rfl), fun tt htt => ?_⟩)⟩⟩
        have st := same_new (o := .tup [.str "first", .str "every"]) htt
        refine ⟨tt, [.str "first", .str "every"], rfl, .inr (SqT.of upd_same), rfl, rfl, _, rfl, ?_⟩
        have iw : isWr es4 q = noMir e := by
          unfold isWr
          rw [he]
        have nx : wrongL es4 (q + 1) = wrongL es4 q ++ (if isWr es4 q then [.int (q : Nat)] else []) := by
          unfold wrongL
          rw [List.range_succ, List.filter_append, List.map_append]
          congr 1
          cases h : isWr es4 q with
          | true => rw [List.filter_cons_of_pos h]; rfl
          | false => rw [List.filter_cons_of_neg (by rw [h]; decide)]; rfl
        rw [show (if false = true then !inV (.str (srtS e)) [.str "first", .str "every"] else inV (.str (srtS e)) [.str "first", .str "every"]) = isWr es4 q by rw [iw, ← hin]; rfl]
        cases h : isWr es4 q with
        | false =>
          refine iteF ⟨sm.trans st, ?_⟩
          rw [nx, h]
          exact (st _ _ hd).trans (congrArg (fun z => some (HO.lst z)) (List.append_nil _).symm)
        | true =>
          refine iteT ⟨_, rfl, _, st _ _ hd, few_lt (by omega), upd_out hD5 (sm.trans st), ?_⟩
          rw [nx, h, upd_same, Int.zero_add]
          rfl
      obtain ⟨s10, hd10⟩ := w
      rw [gl4] at hd10
      have hq10 := s10 _ _ hq8
      have pl10 := pl4.same s10
      replace P8 := P8.stay s10
      replace T8 := T8.ext s10
      clear hq8 pl4 s10 hD5
      refine name_go ?_
      dsimp only
      refine ⟨_, rfl, lq, Y, es4, rfl, hq10, pl10, wd4, l4, fun pr2 H11 s11 ip11 => ?_⟩
      have hd11 := s11 _ _ hd10
      replace P8 := P8.stay s11
      replace T8 := T8.ext s11
      clear hd10 hq10 pl10 s11
      refine name_go ?_
      obtain ⟨dx1, q1, hp11⟩ := ip11.ins
      have wl4 : (wrongL es4 es4.length).length ≤ 4 := by
        unfold wrongL
        rw [List.length_map]
        exact Nat.le_trans (List.length_filter_le _ _) (by rw [List.length_range]; exact l4)
      refine ⟨T8, fun f0 c0 He xe be tbe n0 l0 o0 => ⟨f0, c0, rfl, l0, o0, .ref pr2, rfl, ⟨pr2, dx1, _, rfl, xe _ _ hp11 (fun _ z => nomatch z), rfl⟩, pr2, es4, rfl, ip11.keepN xe, wd4, l4, fun j e he hm hb H12 d s12 hd => ?_, fun hn b H12 s12 ib => ?_⟩⟩
      · have hde := s12 _ _ (xe _ (.lst _) hd11 (fun _ z => nomatch z))
        have sd := same_new (o := .xd [(("index" : Str), .int (j : Nat))]) hd
        have Pe := ((pen_extN P8 xe).stay s12).stay sd
        have Te := (tbe.ext s12).ext sd
        obtain ⟨r, er⟩ := wrongL_one he hm hb
        refine ⟨rfl, d, j, rfl, upd_same, _, rfl, few_len (Nat.le_of_ble_eq_true rfl), fun ln hln => ?_⟩
        have sn := same_new (o := .lst [.non]) hln
        refine ⟨D5, ln, _, _, rfl, rfl, sn _ _ (sd _ _ hde), upd_same, few_len (by rw [List.length_singleton]; omega), fun lc hlc => ?_⟩
        have sc := same_new (o := .lst (wrongL es4 es4.length ++ [.non])) hlc
        refine .inl ⟨lc, _, 0, .int (j : Nat), rfl, rfl, SqL.of upd_same, ?_, ?_⟩
        · rw [er]
          exact atI_nat (j := 0) rfl
        · refine ⟨rfl, _, rfl, iteNS rfl ⟨_, _, _, _, _, _, _, _, _, _, _, _, _, rfl, ((Pe.stay sn).stay sc).mono (by omega), (Te.ext sn).ext sc⟩⟩
      · have hde := s12 _ _ (xe _ (.lst _) hd11 (fun _ z => nomatch z))
        have Pe := (pen_extN P8 xe).stay s12
        have Te := tbe.ext s12
        have er := wrongL_none hn
        refine ⟨_, rfl, few_len (Nat.le_of_ble_eq_true rfl), fun ln hln => ?_⟩
        have sn := same_new (o := .lst [.non]) hln
        refine ⟨D5, ln, _, _, rfl, rfl, sn _ _ hde, upd_same, few_len (by rw [List.length_singleton]; omega), fun lc hlc => ?_⟩
        have sc := same_new (o := .lst (wrongL es4 es4.length ++ [.non])) hlc
        refine .inl ⟨lc, _, 0, .non, rfl, rfl, SqL.of upd_same, ?_, ?_⟩
        · rw [er]
          rfl
        · refine ⟨rfl, _, rfl, iteNS rfl ⟨_, _, _, _, _, _, _, _, _, _, _, _, _, rfl, ((Pe.stay sn).stay sc).mono (by omega), (Te.ext sn).ext sc⟩⟩
    · rintro σ H2 ⟨o2, o3, o4, o5, o6, o7, o8, o9, o10, o11, o12, o13, o14, rfl, P2, T2⟩
      exact k _
end
end Vk
set_option Elab.async false
set_option maxRecDepth 100000
set_option linter.all false
set_option maxHeartbeats 4000000
namespace Vk
open PySem PySem.Spec PyProof.Rows L2 LamX NdefX StX PySem.VkX
section
variable {P : Program} {w : World} {K : PySem.W.Frag} {mg : Str → Option Value} {base : Heap}
abbrev m_oldOnce : Stmt := mtd (top 25) 1
theorem b_oldOnce {f C : Addr} {fd : FuncData} (F : Fun K "old" "Once.old" m_oldOnce f fd) (e : EdF K C) : FnOk P w K mg base CX0 1 f fd ["self"] (getSp C "_old") := by
  obtain ⟨oc, od, kV, doc, pm, an, cdv, ct, osl, rfl, lk, hcd⟩ := F.ex
  exact fn_getter (N := ["self"]) lk hcd ⟨rfl, rfl, rfl, by decide +kernel, rfl, by decide +kernel, by decide +kernel⟩ rfl rfl e.cl e.n1
abbrev m_newOnce : Stmt := mtd (top 25) 2
theorem b_newOnce {f C : Addr} {fd : FuncData} (F : Fun K "new" "Once.new" m_newOnce f fd) (e : EdF K C) : FnOk P w K mg base CX0 1 f fd ["self"] (getSp C "_new") := by
  obtain ⟨oc, od, kV, doc, pm, an, cdv, ct, osl, rfl, lk, hcd⟩ := F.ex
  exact fn_getter (N := ["self"]) lk hcd ⟨rfl, rfl, rfl, by decide +kernel, rfl, by decide +kernel, by decide +kernel⟩ rfl rfl e.cl e.n2
abbrev m_oldFirst : Stmt := mtd (top 26) 1
theorem b_oldFirst {f C : Addr} {fd : FuncData} (F : Fun K "old" "First.old" m_oldFirst f fd) (e : EdF K C) : FnOk P w K mg base CX0 1 f fd ["self"] (getSp C "_old") := by
  obtain ⟨oc, od, kV, doc, pm, an, cdv, ct, osl, rfl, lk, hcd⟩ := F.ex
  exact fn_getter (N := ["self"]) lk hcd ⟨rfl, rfl, rfl, by decide +kernel, rfl, by decide +kernel, by decide +kernel⟩ rfl rfl e.cl e.n1
abbrev m_newFirst : Stmt := mtd (top 26) 2
theorem b_newFirst {f C : Addr} {fd : FuncData} (F : Fun K "new" "First.new" m_newFirst f fd) (e : EdF K C) : FnOk P w K mg base CX0 1 f fd ["self"] (getSp C "_new") := by
  obtain ⟨oc, od, kV, doc, pm, an, cdv, ct, osl, rfl, lk, hcd⟩ := F.ex
  exact fn_getter (N := ["self"]) lk hcd ⟨rfl, rfl, rfl, by decide +kernel, rfl, by decide +kernel, by decide +kernel⟩ rfl rfl e.cl e.n2
abbrev m_oldPerhaps : Stmt := mtd (top 27) 1
theorem b_oldPerhaps {f C : Addr} {fd : FuncData} (F : Fun K "old" "Perhaps.old" m_oldPerhaps f fd) (e : EdF K C) : FnOk P w K mg base CX0 1 f fd ["self"] (getSp C "_old") := by
  obtain ⟨oc, od, kV, doc, pm, an, cdv, ct, osl, rfl, lk, hcd⟩ := F.ex
  exact fn_getter (N := ["self"]) lk hcd ⟨rfl, rfl, rfl, by decide +kernel, rfl, by decide +kernel, by decide +kernel⟩ rfl rfl e.cl e.n1
abbrev m_newPerhaps : Stmt := mtd (top 27) 2
theorem b_newPerhaps {f C : Addr} {fd : FuncData} (F : Fun K "new" "Perhaps.new" m_newPerhaps f fd) (e : EdF K C) : FnOk P w K mg base CX0 1 f fd ["self"] (getSp C "_new") := by
  obtain ⟨oc, od, kV, doc, pm, an, cdv, ct, osl, rfl, lk, hcd⟩ := F.ex
  exact fn_getter (N := ["self"]) lk hcd ⟨rfl, rfl, rfl, by decide +kernel, rfl, by decide +kernel, by decide +kernel⟩ rfl rfl e.cl e.n2
abbrev m_oldEvery : Stmt := mtd (top 28) 1
theorem b_oldEvery {f C : Addr} {fd : FuncData} (F : Fun K "old" "Every.old" m_oldEvery f fd) (e : EdF K C) : FnOk P w K mg base CX0 1 f fd ["self"] (getSp C "_old") := by
  obtain ⟨oc, od, kV, doc, pm, an, cdv, ct, osl, rfl, lk, hcd⟩ := F.ex
  exact fn_getter (N := ["self"]) lk hcd ⟨rfl, rfl, rfl, by decide +kernel, rfl, by decide +kernel, by decide +kernel⟩ rfl rfl e.cl e.n1
abbrev m_newEvery : Stmt := mtd (top 28) 2
theorem b_newEvery {f C : Addr} {fd : FuncData} (F : Fun K "new" "Every.new" m_newEvery f fd) (e : EdF K C) : FnOk P w K mg base CX0 1 f fd ["self"] (getSp C "_new") := by
  obtain ⟨oc, od, kV, doc, pm, an, cdv, ct, osl, rfl, lk, hcd⟩ := F.ex
  exact fn_getter (N := ["self"]) lk hcd ⟨rfl, rfl, rfl, by decide +kernel, rfl, by decide +kernel, by decide +kernel⟩ rfl rfl e.cl e.n2
end
/-- what of the text a class of edits must have -/
structure ClsT (K : PySem.W.Frag) (x : Str) (C fI : Addr) : Prop where
  ns : PySem.W.nsIn K mainGlobals x = some (some (.ref C))
  mks : PySem.W.makesIn K C = true
  it : PySem.W.findIn K (.ref C) "__init__" = some (some (.ref fI))
  fn : PySem.W.isFn K (.ref fI) = true
  kp : PySem.W.keepIn K (.ref C) = true
  pg : PySem.W.plainGet K C Str.empty = true
  hd : PySem.W.hasDictIn K C = true
  po : PySem.W.plainOver K C = true
  sa : PySem.W.findIn K (.ref C) "__setattr__" = some (some (.builtin "object.__setattr__"))
  n1 : PySem.W.findIn K (.ref C) "_old" = some none
  n2 : PySem.W.findIn K (.ref C) "_new" = some none
  ca : PySem.W.findIn K (.ref C) "__class__" = some (some (.builtin "object.__class__"))
  cn : PySem.W.specialIn K (.builtin "object.__class__") "__get__" = some (some (.builtin "getset_descriptor.__get__"))
  ct : PySem.W.takesIn K (.builtin "object.__class__") = some true
  cm : PySem.W.mroIn K C (.type "object") = some true
theorem ClsT.cl {K : PySem.W.Frag} {x : Str} {C fI : Addr} (t : ClsT K x C fI) : Cls K C := ⟨t.pg, t.hd, t.po, t.sa⟩
theorem ClsT.ed {K : PySem.W.Frag} {x : Str} {C fI : Addr} (t : ClsT K x C fI) : EdF K C := ⟨t.cl, t.n1, t.n2, t.ca, t.cn, t.ct, t.cm⟩
theorem ClsT.M {K : PySem.W.Frag} {x : Str} {C fI : Addr} (t : ClsT K x C fI) : L2.Mk K C fI := ⟨t.mks, t.it, t.fn, t.kp⟩
theorem kit_of {K : PySem.W.Frag} {C D : Addr} {b : Bool} (ic : PySem.W.isClsIn K D = true) (ty : PySem.W.typeIn K (.ref D) = some (.type "type")) (d : PySem.W.subIn K (.ref D) (.ref D) = some true) (s : PySem.W.subIn K (.ref C) (.ref D) = some b) : PySem.W.kitOne K (.ref C) (.ref D) = some b := by
  unfold PySem.W.kitOne
  by_cases e : C = D
  · subst e
    rw [if_pos (by simp)]
    exact d.symm.trans s
  · rw [if_neg (by simpa using e)]
    show (if ((PySem.W.clsIn K D).isSome && PySem.W.typeIn K (.ref D) == some (.type "type")) = true then PySem.W.subIn K (.ref C) (.ref D) else none) = some b
    rw [if_pos (by rw [show (PySem.W.clsIn K D).isSome = true from ic, ty]; simp)]
    exact s
theorem sub_one {K : PySem.W.Frag} {C D : Addr} {x y : Str} {tl tl2 : List Value} (c : One K C x tl) (d : One K D y tl2) : PySem.W.subIn K (.ref C) (.ref D) = some (x == y) := by
  obtain ⟨cd, h1, h2, h3, h4⟩ := c.cn.cls
  show PySem.W.mroIn K C (.ref D) = some (x == y)
  unfold PySem.W.mroIn
  rw [h1, Option.bind_some, h3, if_neg (by simp), List.contains_cons, notIn_types c.rf, Bool.or_false]
  by_cases e : C = D
  · subst e
    have exy : x = y := c.cn.inj d.cn (by simp)
    rw [exy]
    simp
  · have nxy : (x == y) = false := by
      rw [beq_eq_false_iff_ne]
      rintro rfl
      have z := c.ns.symm.trans d.ns
      cases z
      exact e rfl
    rw [nxy]
    exact congrArg some (beq_eq_false_iff_ne.mpr fun z => e (Value.ref.inj z).symm)
theorem four {p : Nat → Prop} (a : p 0) (b : p 1) (c : p 2) (d : p 3) : ∀ n, n < 4 → p n
  | 0, _ => a
  | 1, _ => b
  | 2, _ => c
  | 3, _ => d
  | n + 4, h => absurd h (by omega)
theorem four2 {p : Nat → Nat → Prop} (h : ∀ i, i < 4 → p i 0 ∧ p i 1 ∧ p i 2 ∧ p i 3) : ∀ i j, i < 4 → j < 4 → p i j := fun i j hi hj => four (p := p i) (h i hi).1 (h i hi).2.1 (h i hi).2.2.1 (h i hi).2.2.2 j hj
theorem makC_mk {K : PySem.W.Frag} {x qual : Str} {st : Stmt} {f c : Addr} {oc : Value} {od an : Option Addr} {sl : Array (Option Value)} {kV doc pm ct : Value}
    (l : K.lookup f = some ⟨oc, od, .func (PySem.W.fnOf x qual (defArgs st) (defBody st) (defScope st) .none kV doc pm an (.ref c) ct), sl⟩) (h : PySem.W.codeIn K (.ref c) qual = true) (k : PySem.W.keepIn K (.ref f) = true) :
    FunC K x qual st f (PySem.W.fnOf x qual (defArgs st) (defBody st) (defScope st) .none kV doc pm an (.ref c) ct) c := ⟨⟨oc, od, kV, doc, pm, an, ct, sl, rfl, l, h⟩, k⟩
theorem prop_mk {K : PySem.W.Frag} {C p g : Addr} {f : Str} {rest : List Value} (a : PySem.W.findIn K (.ref C) f = some (some (.ref p))) (b : PySem.W.specialIn K (.ref p) "__get__" = some (some (.builtin "property.__get__"))) (c : PySem.W.takesIn K (.ref p) = some true) (d : PySem.W.recIn K p "property" = some (.ref g :: rest)) : L2.PropOf K C f p g := ⟨a, b, c, ⟨rest, d⟩⟩
structure MostT (K : PySem.W.Frag) (x : Str) (C : Addr) (t : Tok) : Prop where
  ns : PySem.W.nsIn K mainGlobals x = some (some (.ref C))
  rd : PySem.W.readsIn K C (.type "type") = true
  sp : PySem.W.specialIn K (.ref C) "__getattribute__" = some (some (.builtin "type.__getattribute__"))
  fc : PySem.W.findCls K (.ref C) (.type "type") "MOST" = some (.val (.int 40 t))
theorem tab_mk {K : PySem.W.Frag} {x : Str} {f c P : Addr} {oc o2 v0 v1 v2 v3 v4 v5 v6 v7 v8 v9 v10 : Value} {od d2 : Option Addr} {fd : FuncData} {sl s2 : Array (Option Value)} {rest : List Value} (a : PySem.W.nsIn K mainGlobals x = some (some (.ref f))) (l : K.lookup f = some ⟨oc, od, .func fd, sl⟩) (hc : fd.code = .ref c)
    (l2 : K.lookup c = some ⟨o2, d2, .fields (List.toArray (v0 :: v1 :: v2 :: v3 :: v4 :: v5 :: v6 :: v7 :: v8 :: v9 :: v10 :: .ref P :: rest)), s2⟩) : PySem.W.tabIn K x = some (c, P) := by
  unfold PySem.W.tabIn
  rw [a]
  dsimp only
  rw [l]
  dsimp only
  rw [hc]
  dsimp only
  rw [l2]
  rfl
structure EdC (K : PySem.W.Frag) (x : Str) (q0 q1 q2 q3 : Str) (st : Stmt) (C fI fE p1 g1 p2 g2 : Addr) (dI dE d1 d2 : FuncData) : Prop where
  T : ClsT K x C fI
  eq : PySem.W.findIn K (.ref C) "__eq__" = some (some (.ref fE))
  eqf : PySem.W.isFn K (.ref fE) = true
  ne : PySem.W.findIn K (.ref C) "__ne__" = some (some (.builtin "object.__ne__"))
  no1 : PySem.W.mroIn K C (.type "tuple") = some false
  no2 : PySem.W.mroIn K C (.type "list") = some false
  no3 : PySem.W.mroIn K C (.type "str") = some false
  no4 : PySem.W.mroIn K C (.type "NoneType") = some false
  P1 : L2.PropOf K C "old" p1 g1
  P2 : L2.PropOf K C "new" p2 g2
  FI : Fun K "__init__" q0 (mtd st 0) fI dI
  F1 : Fun K "old" q1 (mtd st 1) g1 d1
  F2 : Fun K "new" q2 (mtd st 2) g2 d2
  FE : Fun K "__eq__" q3 (mtd st 3) fE dE
theorem kit_two {K : PySem.W.Frag} {t c1 c2 : Value} {b1 b2 : Bool} (h1 : PySem.W.kitOne K t c1 = some b1) (h2 : PySem.W.kitOne K t c2 = some b2) : PySem.W.kitAny K t [c1, c2] = some (b1 || b2) := by
  cases b1 with
  | true => exact kitAny_cons h1 (fun z => nomatch z) (fun _ => rfl)
  | false =>
    refine kitAny_cons h1 (fun _ => ?_) (fun z => nomatch z)
    cases b2 with
    | true => exact kitAny_cons h2 (fun z => nomatch z) (fun _ => rfl)
    | false => exact kitAny_cons h2 (fun _ => rfl) (fun z => nomatch z)
structure AtC (K : PySem.W.Frag) (C fI fE p g : Addr) (dI dE dp : FuncData) : Prop where
  T : ClsT K "AtOnce" C fI
  np : PySem.W.findIn K (.ref C) "_parts" = some none
  eq : PySem.W.findIn K (.ref C) "__eq__" = some (some (.ref fE))
  eqf : PySem.W.isFn K (.ref fE) = true
  ne : PySem.W.findIn K (.ref C) "__ne__" = some (some (.builtin "object.__ne__"))
  no1 : PySem.W.mroIn K C (.type "tuple") = some false
  no2 : PySem.W.mroIn K C (.type "list") = some false
  no3 : PySem.W.mroIn K C (.type "str") = some false
  no4 : PySem.W.mroIn K C (.type "NoneType") = some false
  P : L2.PropOf K C "parts" p g
  FI : Fun K "__init__" "AtOnce.__init__" m_AtOnce fI dI
  FE : Fun K "__eq__" "AtOnce.__eq__" m_eqAt fE dE
  FP : Fun K "parts" "AtOnce.parts" m_parts g dp
structure PrC (K : PySem.W.Frag) (C fI f_run f_mirrored fE p_olds g_olds : Addr) (dI d_run d_mirrored dE e_olds : FuncData) : Prop where
  ns : PySem.W.nsIn K mainGlobals "Program" = some (some (.ref C))
  mks : PySem.W.makesIn K C = true
  it : PySem.W.findIn K (.ref C) "__init__" = some (some (.ref fI))
  fn : PySem.W.isFn K (.ref fI) = true
  kp : PySem.W.keepIn K (.ref C) = true
  pg : PySem.W.plainGet K C Str.empty = true
  hd : PySem.W.hasDictIn K C = true
  po : PySem.W.plainOver K C = true
  sa : PySem.W.findIn K (.ref C) "__setattr__" = some (some (.builtin "object.__setattr__"))
  n1 : PySem.W.findIn K (.ref C) "_edits" = some none
  ca : PySem.W.findIn K (.ref C) "__class__" = some (some (.builtin "object.__class__"))
  cn : PySem.W.specialIn K (.builtin "object.__class__") "__get__" = some (some (.builtin "getset_descriptor.__get__"))
  ct : PySem.W.takesIn K (.builtin "object.__class__") = some true
  cm : PySem.W.mroIn K C (.type "object") = some true
  eq : PySem.W.findIn K (.ref C) "__eq__" = some (some (.ref fE))
  eqf : PySem.W.isFn K (.ref fE) = true
  ne : PySem.W.findIn K (.ref C) "__ne__" = some (some (.builtin "object.__ne__"))
  no1 : PySem.W.mroIn K C (.type "tuple") = some false
  no2 : PySem.W.mroIn K C (.type "list") = some false
  no3 : PySem.W.mroIn K C (.type "str") = some false
  no4 : PySem.W.mroIn K C (.type "NoneType") = some false
  r1_run : PySem.W.findIn K (.ref C) "run" = some (some (.ref f_run))
  r2_run : PySem.W.isFn K (.ref f_run) = true
  r3_run : PySem.W.keepIn K (.ref f_run) = true
  r1_mirrored : PySem.W.findIn K (.ref C) "mirrored" = some (some (.ref f_mirrored))
  r2_mirrored : PySem.W.isFn K (.ref f_mirrored) = true
  r3_mirrored : PySem.W.keepIn K (.ref f_mirrored) = true
  P_olds : L2.PropOf K C "olds" p_olds g_olds
  FI : Fun K "__init__" "Program.__init__" m_Program fI dI
  F_run : Fun K "run" "Program.run" m_run f_run d_run
  F_mirrored : Fun K "mirrored" "Program.mirrored" m_mirrored f_mirrored d_mirrored
  FE : Fun K "__eq__" "Program.__eq__" m_eqProgram fE dE
  F_olds : Fun K "olds" "Program.olds" m_olds g_olds e_olds
theorem PrC.cl {K : PySem.W.Frag} {C fI f_run f_mirrored fE p_olds g_olds : Addr} {dI d_run d_mirrored dE e_olds : FuncData} (t : PrC K C fI f_run f_mirrored fE p_olds g_olds dI d_run d_mirrored dE e_olds) : Cls K C := ⟨t.pg, t.hd, t.po, t.sa⟩
theorem PrC.M {K : PySem.W.Frag} {C fI f_run f_mirrored fE p_olds g_olds : Addr} {dI d_run d_mirrored dE e_olds : FuncData} (t : PrC K C fI f_run f_mirrored fE p_olds g_olds dI d_run d_mirrored dE e_olds) : L2.Mk K C fI := ⟨t.mks, t.it, t.fn, t.kp⟩
theorem PrC.ty {K : PySem.W.Frag} {C fI f_run f_mirrored fE p_olds g_olds : Addr} {dI d_run d_mirrored dE e_olds : FuncData} (t : PrC K C fI f_run f_mirrored fE p_olds g_olds dI d_run d_mirrored dE e_olds) {H : Hp} {a dx : Addr} {fs : List (Str × V)} (h : H a = some (.ins C dx fs)) : TyX K H (.ref a) (.ref C) := .base (.ins h t.cl t.ca t.cn t.ct t.cm)
structure Mat (K : PySem.W.Frag) (C0 C1 C2 C3 CE CA CP : Addr) : Prop where
  ns_Once : PySem.W.nsIn K mainGlobals "Once" = some (some (.ref C0))
  ic_Once : PySem.W.isClsIn K C0 = true
  ty_Once : PySem.W.typeIn K (.ref C0) = some (.type "type")
  ns_First : PySem.W.nsIn K mainGlobals "First" = some (some (.ref C1))
  ic_First : PySem.W.isClsIn K C1 = true
  ty_First : PySem.W.typeIn K (.ref C1) = some (.type "type")
  ns_Perhaps : PySem.W.nsIn K mainGlobals "Perhaps" = some (some (.ref C2))
  ic_Perhaps : PySem.W.isClsIn K C2 = true
  ty_Perhaps : PySem.W.typeIn K (.ref C2) = some (.type "type")
  ns_Every : PySem.W.nsIn K mainGlobals "Every" = some (some (.ref C3))
  ic_Every : PySem.W.isClsIn K C3 = true
  ty_Every : PySem.W.typeIn K (.ref C3) = some (.type "type")
  ns_Edit : PySem.W.nsIn K mainGlobals "Edit" = some (some (.ref CE))
  ic_Edit : PySem.W.isClsIn K CE = true
  ty_Edit : PySem.W.typeIn K (.ref CE) = some (.type "type")
  ns_AtOnce : PySem.W.nsIn K mainGlobals "AtOnce" = some (some (.ref CA))
  ic_AtOnce : PySem.W.isClsIn K CA = true
  ty_AtOnce : PySem.W.typeIn K (.ref CA) = some (.type "type")
  ns_Program : PySem.W.nsIn K mainGlobals "Program" = some (some (.ref CP))
  ic_Program : PySem.W.isClsIn K CP = true
  ty_Program : PySem.W.typeIn K (.ref CP) = some (.type "type")
  s_Once_Once : PySem.W.subIn K (.ref C0) (.ref C0) = some true
  s_Once_First : PySem.W.subIn K (.ref C0) (.ref C1) = some false
  s_Once_Perhaps : PySem.W.subIn K (.ref C0) (.ref C2) = some false
  s_Once_Every : PySem.W.subIn K (.ref C0) (.ref C3) = some false
  s_Once_AtOnce : PySem.W.subIn K (.ref C0) (.ref CA) = some false
  s_First_Once : PySem.W.subIn K (.ref C1) (.ref C0) = some false
  s_First_First : PySem.W.subIn K (.ref C1) (.ref C1) = some true
  s_First_Perhaps : PySem.W.subIn K (.ref C1) (.ref C2) = some false
  s_First_Every : PySem.W.subIn K (.ref C1) (.ref C3) = some false
  s_First_AtOnce : PySem.W.subIn K (.ref C1) (.ref CA) = some false
  s_Perhaps_Once : PySem.W.subIn K (.ref C2) (.ref C0) = some false
  s_Perhaps_First : PySem.W.subIn K (.ref C2) (.ref C1) = some false
  s_Perhaps_Perhaps : PySem.W.subIn K (.ref C2) (.ref C2) = some true
  s_Perhaps_Every : PySem.W.subIn K (.ref C2) (.ref C3) = some false
  s_Perhaps_AtOnce : PySem.W.subIn K (.ref C2) (.ref CA) = some false
  s_Every_Once : PySem.W.subIn K (.ref C3) (.ref C0) = some false
  s_Every_First : PySem.W.subIn K (.ref C3) (.ref C1) = some false
  s_Every_Perhaps : PySem.W.subIn K (.ref C3) (.ref C2) = some false
  s_Every_Every : PySem.W.subIn K (.ref C3) (.ref C3) = some true
  s_Every_AtOnce : PySem.W.subIn K (.ref C3) (.ref CA) = some false
  s_Once_Edit : PySem.W.subIn K (.ref C0) (.ref CE) = some true
  s_First_Edit : PySem.W.subIn K (.ref C1) (.ref CE) = some true
  s_Perhaps_Edit : PySem.W.subIn K (.ref C2) (.ref CE) = some true
  s_Every_Edit : PySem.W.subIn K (.ref C3) (.ref CE) = some true
  s_Edit_Edit : PySem.W.subIn K (.ref CE) (.ref CE) = some true
  s_AtOnce_AtOnce : PySem.W.subIn K (.ref CA) (.ref CA) = some true
  s_AtOnce_Edit : PySem.W.subIn K (.ref CA) (.ref CE) = some true
  s_AtOnce_First : PySem.W.subIn K (.ref CA) (.ref C1) = some false
  s_AtOnce_Every : PySem.W.subIn K (.ref CA) (.ref C3) = some false
  s_Program_Program : PySem.W.subIn K (.ref CP) (.ref CP) = some true
theorem all {l : PySem.W.OpenLaw} {w : World} {K : PySem.W.Frag} {h : Heap} {mg : Str → Option Value} {fa : Addr} (X : K.In h) (G : h.Ns mainGlobals mg) (hfa : mg "law" = some (.ref fa))
    (e_InvalidOld : ∃ (C f : Addr) (fd : FuncData), ExcTxt K "InvalidOld" "InvalidOld.__init__" m_InvalidOld C f fd ["value"] tlV)
    (e_InvalidNew : ∃ (C f : Addr) (fd : FuncData), ExcTxt K "InvalidNew" "InvalidNew.__init__" m_InvalidNew C f fd ["value"] tlV)
    (e_InvalidText : ∃ (C f : Addr) (fd : FuncData), ExcTxt K "InvalidText" "InvalidText.__init__" m_InvalidText C f fd ["value"] tlV)
    (e_InvalidPart : ∃ (C f : Addr) (fd : FuncData), ExcTxt K "InvalidPart" "InvalidPart.__init__" m_InvalidPart C f fd ["index"] tlV)
    (e_NoMirror : ∃ (C f : Addr) (fd : FuncData), ExcTxt K "NoMirror" "NoMirror.__init__" m_NoMirror C f fd ["index"] tlV)
    (e_NoPlace : ∃ (C f : Addr) (fd : FuncData), ExcTxt K "NoPlace" "NoPlace.__init__" m_NoPlace C f fd ["index", "number"] tlL)
    (e_Overlap : ∃ (C f : Addr) (fd : FuncData), ExcTxt K "Overlap" "Overlap.__init__" m_Overlap C f fd ["index"] tlL)
    (e_TooMany : ∃ (C f : Addr) (fd : FuncData), ExcTxt K "TooMany" "TooMany.__init__" m_TooMany C f fd ["limit"] tlO)
    (e_Once : ∃ (C fI fE p1 g1 p2 g2 : Addr) (dI dE d1 d2 : FuncData), EdC K "Once" "Once.__init__" "Once.old" "Once.new" "Once.__eq__" (top 25) C fI fE p1 g1 p2 g2 dI dE d1 d2)
    (e_First : ∃ (C fI fE p1 g1 p2 g2 : Addr) (dI dE d1 d2 : FuncData), EdC K "First" "First.__init__" "First.old" "First.new" "First.__eq__" (top 26) C fI fE p1 g1 p2 g2 dI dE d1 d2)
    (e_Perhaps : ∃ (C fI fE p1 g1 p2 g2 : Addr) (dI dE d1 d2 : FuncData), EdC K "Perhaps" "Perhaps.__init__" "Perhaps.old" "Perhaps.new" "Perhaps.__eq__" (top 27) C fI fE p1 g1 p2 g2 dI dE d1 d2)
    (e_Every : ∃ (C fI fE p1 g1 p2 g2 : Addr) (dI dE d1 d2 : FuncData), EdC K "Every" "Every.__init__" "Every.old" "Every.new" "Every.__eq__" (top 28) C fI fE p1 g1 p2 g2 dI dE d1 d2)
    (e_AtOnce : ∃ (C fI fE p g : Addr) (dI dE dp : FuncData), AtC K C fI fE p g dI dE dp)
    (e_Program : ∃ (C fI f_run f_mirrored fE p_olds g_olds : Addr) (dI d_run d_mirrored dE e_olds : FuncData), PrC K C fI f_run f_mirrored fE p_olds g_olds dI d_run d_mirrored dE e_olds)
    (e_M : ∃ C0 C1 C2 C3 CE CA CP : Addr, Mat K C0 C1 C2 C3 CE CA CP)
    (d_lsigns : ∃ (f : Addr) (fd : FuncData), At K "_law_signs" s_lsigns f fd)
    (d_ldraw : ∃ (f : Addr) (fd : FuncData), At K "_law_draw" s_ldraw f fd)
    (d_lpen : ∃ (f : Addr) (fd : FuncData), At K "_law_pen" s_lpen f fd)
    (d_lpick : ∃ (f : Addr) (fd : FuncData), At K "_law_pick" s_lpick f fd)
    (d_lfew : ∃ (f : Addr) (fd : FuncData), At K "_law_few" s_lfew f fd)
    (d_lword : ∃ (f : Addr) (fd : FuncData), At K "_law_word" s_lword f fd)
    (d_ledit : ∃ (f : Addr) (fd : FuncData), At K "_law_edit" s_ledit f fd)
    (d_lmade : ∃ (f : Addr) (fd : FuncData), At K "_law_made" s_lmade f fd)
    (d_lprogram : ∃ (f : Addr) (fd : FuncData), At K "_law_program" s_lprogram f fd)
    (d_lshuffled : ∃ (f : Addr) (fd : FuncData), At K "_law_shuffled" s_lshuffled f fd)
    (d_ltexts : ∃ (f : Addr) (fd : FuncData), At K "_law_texts" s_ltexts f fd)
    (d_ltold : ∃ (f : Addr) (fd : FuncData), At K "_law_told" s_ltold f fd)
    (d_lrefused : ∃ (f : Addr) (fd : FuncData), At K "_law_refused" s_lrefused f fd)
    (d_lseeded : ∃ (f : Addr) (fd : FuncData), At K "_law_seeded" s_lseeded f fd)
    (d_is_text : ∃ (f : Addr) (fd : FuncData), At K "is_text" s_is_text f fd)
    (d_is_new : ∃ (f : Addr) (fd : FuncData), At K "is_new" s_is_new f fd)
    (d_is_old : ∃ (f : Addr) (fd : FuncData), At K "is_old" s_is_old f fd)
    (d_is_part : ∃ (f : Addr) (fd : FuncData), At K "is_part" s_is_part f fd)
    (d_check_words : ∃ (f : Addr) (fd : FuncData), At K "check_words" s_check_words f fd)
    (d_check_parts : ∃ (f : Addr) (fd : FuncData), At K "check_parts" s_check_parts f fd)
    (d_places : ∃ (f : Addr) (fd : FuncData), At K "places" s_places f fd)
    (d_fits : ∃ (f : Addr) (fd : FuncData), At K "fits" s_fits f fd)
    (d_apart : ∃ (f : Addr) (fd : FuncData), At K "apart" s_apart f fd)
    (d_puts_of_one : ∃ (f : Addr) (fd : FuncData), At K "puts_of_one" s_puts_of_one f fd)
    (d_checked_puts : ∃ (f : Addr) (fd : FuncData), At K "checked_puts" s_checked_puts f fd)
    (d_puts_of_parts : ∃ (f : Addr) (fd : FuncData), At K "puts_of_parts" s_puts_of_parts f fd)
    (d_puts_of : ∃ (f : Addr) (fd : FuncData), At K "puts_of" s_puts_of f fd)
    (d_text_behind : ∃ (f : Addr) (fd : FuncData), At K "text_behind" s_text_behind f fd)
    (d_check_edits : ∃ (f : Addr) (fd : FuncData), At K "check_edits" s_check_edits f fd)
    (d_parts_of : ∃ (f : Addr) (fd : FuncData), At K "parts_of" s_parts_of f fd)
    (d_mirrored_edit : ∃ (f : Addr) (fd : FuncData), At K "mirrored_edit" s_mirrored_edit f fd)
    (d_law : ∃ (f c tP : Addr) (fd : FuncData), PySem.W.nsIn K mainGlobals "law" = some (some (.ref f)) ∧ FunC K "law" "law" s_law f fd c ∧ PySem.W.tabIn K "law" = some (c, tP))
    (z_str : PySem.W.nsIn K mainGlobals "str" = some none)
    (z_tuple : PySem.W.nsIn K mainGlobals "tuple" = some none)
    (z_enumerate : PySem.W.nsIn K mainGlobals "enumerate" = some none)
    (z_len : PySem.W.nsIn K mainGlobals "len" = some none)
    (z_list : PySem.W.nsIn K mainGlobals "list" = some none)
    (z_int : PySem.W.nsIn K mainGlobals "int" = some none)
    (z_abs : PySem.W.nsIn K mainGlobals "abs" = some none)
    (z_range : PySem.W.nsIn K mainGlobals "range" = some none)
    (z_min : PySem.W.nsIn K mainGlobals "min" = some none)
    (z_repr : PySem.W.nsIn K mainGlobals "repr" = some none)
    (z_isinstance : PySem.W.nsIn K mainGlobals "isinstance" = some none)
    (z_sorted : PySem.W.nsIn K mainGlobals "sorted" = some none)
    (z_zip : PySem.W.nsIn K mainGlobals "zip" = some none)
    (z_ValueError : PySem.W.nsIn K mainGlobals "ValueError" = some none)
    (g_LETTERS : ∃ u, mg "LETTERS" = some u ∧ RelV (.str letS) u)
    (g_MAX_WORD : ∃ u, mg "MAX_WORD" = some u ∧ RelV (.int 40) u)
    (g_MAX_PARTS : ∃ u, mg "MAX_PARTS" = some u ∧ RelV (.int 3) u)
    (g_MAX_EDITS : ∃ u, mg "MAX_EDITS" = some u ∧ RelV (.int 4) u)
    (tb : ∀ c tP : Addr, PySem.W.tabIn K "law" = some (c, tP) → h.get? tP = some { cls := .none, data := .fields #[] } ∧ K.lookup tP = none ∧ PySem.W.CodeHd h c tP)
    : ∃ (fd : FuncData) (c tP : Addr), h.get? tP = some { cls := .none, data := .fields #[] } ∧ K.lookup tP = none ∧ PySem.W.CodeHd h c tP ∧ (∀ (s : Shared) (v : Value), BindsTo s fd ⟨[v], []⟩ [("_law_script", v)]) ∧ ∀ base : Heap, K.In base → base.Ns mainGlobals mg → TabB base mg c tP → FnG l.prog w K mg base CX0 12 fa fd ["_law_script"] (spLaw tP K) := by
  obtain ⟨C_InvalidOld, i_InvalidOld, fd_InvalidOld, E_InvalidOld⟩ := e_InvalidOld
  have o_InvalidOld : One K C_InvalidOld "InvalidOld" tlV := ⟨E_InvalidOld.cn, E_InvalidOld.ns, rfl⟩
  obtain ⟨C_InvalidNew, i_InvalidNew, fd_InvalidNew, E_InvalidNew⟩ := e_InvalidNew
  have o_InvalidNew : One K C_InvalidNew "InvalidNew" tlV := ⟨E_InvalidNew.cn, E_InvalidNew.ns, rfl⟩
  obtain ⟨C_InvalidText, i_InvalidText, fd_InvalidText, E_InvalidText⟩ := e_InvalidText
  have o_InvalidText : One K C_InvalidText "InvalidText" tlV := ⟨E_InvalidText.cn, E_InvalidText.ns, rfl⟩
  obtain ⟨C_InvalidPart, i_InvalidPart, fd_InvalidPart, E_InvalidPart⟩ := e_InvalidPart
  have o_InvalidPart : One K C_InvalidPart "InvalidPart" tlV := ⟨E_InvalidPart.cn, E_InvalidPart.ns, rfl⟩
  obtain ⟨C_NoMirror, i_NoMirror, fd_NoMirror, E_NoMirror⟩ := e_NoMirror
  have o_NoMirror : One K C_NoMirror "NoMirror" tlV := ⟨E_NoMirror.cn, E_NoMirror.ns, rfl⟩
  obtain ⟨C_NoPlace, i_NoPlace, fd_NoPlace, E_NoPlace⟩ := e_NoPlace
  have o_NoPlace : One K C_NoPlace "NoPlace" tlL := ⟨E_NoPlace.cn, E_NoPlace.ns, rfl⟩
  obtain ⟨C_Overlap, i_Overlap, fd_Overlap, E_Overlap⟩ := e_Overlap
  have o_Overlap : One K C_Overlap "Overlap" tlL := ⟨E_Overlap.cn, E_Overlap.ns, rfl⟩
  obtain ⟨C_TooMany, i_TooMany, fd_TooMany, E_TooMany⟩ := e_TooMany
  have o_TooMany : One K C_TooMany "TooMany" tlO := ⟨E_TooMany.cn, E_TooMany.ns, rfl⟩
  obtain ⟨C0, C1, C2, C3, CE, CA, CP, M⟩ := e_M
  obtain ⟨C_Once, fI_Once, fE_Once, p1_Once, g1_Once, p2_Once, g2_Once, dI_Once, dE_Once, d1_Once, d2_Once, E_Once⟩ := e_Once
  cases E_Once.T.ns.symm.trans M.ns_Once
  obtain ⟨C_First, fI_First, fE_First, p1_First, g1_First, p2_First, g2_First, dI_First, dE_First, d1_First, d2_First, E_First⟩ := e_First
  cases E_First.T.ns.symm.trans M.ns_First
  obtain ⟨C_Perhaps, fI_Perhaps, fE_Perhaps, p1_Perhaps, g1_Perhaps, p2_Perhaps, g2_Perhaps, dI_Perhaps, dE_Perhaps, d1_Perhaps, d2_Perhaps, E_Perhaps⟩ := e_Perhaps
  cases E_Perhaps.T.ns.symm.trans M.ns_Perhaps
  obtain ⟨C_Every, fI_Every, fE_Every, p1_Every, g1_Every, p2_Every, g2_Every, dI_Every, dE_Every, d1_Every, d2_Every, E_Every⟩ := e_Every
  cases E_Every.T.ns.symm.trans M.ns_Every
  obtain ⟨C_At, fI_At, fE_At, p_At, g_At, dI_At, dE_At, dp_At, T_AtOnce⟩ := e_AtOnce
  cases T_AtOnce.T.ns.symm.trans M.ns_AtOnce
  obtain ⟨C_Pr, fI_Pr, f_run_Pr, f_mirrored_Pr, fE_Pr, p_olds_Pr, g_olds_Pr, dI_Pr, d_run_Pr, d_mirrored_Pr, dE_Pr, e_olds_Pr, T_Program⟩ := e_Program
  cases T_Program.ns.symm.trans M.ns_Program
  have n_Once := PySem.W.mg_of X G M.ns_Once
  have n_First := PySem.W.mg_of X G M.ns_First
  have n_Perhaps := PySem.W.mg_of X G M.ns_Perhaps
  have n_Every := PySem.W.mg_of X G M.ns_Every
  have n_Edit := PySem.W.mg_of X G M.ns_Edit
  have n_AtOnce := PySem.W.mg_of X G M.ns_AtOnce
  have n_Program := PySem.W.mg_of X G M.ns_Program
  obtain ⟨f_lsigns, fd_lsigns, A_lsigns⟩ := d_lsigns
  have m_lsigns := PySem.W.mg_of X G A_lsigns.ns
  obtain ⟨f_ldraw, fd_ldraw, A_ldraw⟩ := d_ldraw
  have m_ldraw := PySem.W.mg_of X G A_ldraw.ns
  obtain ⟨f_lpen, fd_lpen, A_lpen⟩ := d_lpen
  have m_lpen := PySem.W.mg_of X G A_lpen.ns
  obtain ⟨f_lpick, fd_lpick, A_lpick⟩ := d_lpick
  have m_lpick := PySem.W.mg_of X G A_lpick.ns
  obtain ⟨f_lfew, fd_lfew, A_lfew⟩ := d_lfew
  have m_lfew := PySem.W.mg_of X G A_lfew.ns
  obtain ⟨f_lword, fd_lword, A_lword⟩ := d_lword
  have m_lword := PySem.W.mg_of X G A_lword.ns
  obtain ⟨f_ledit, fd_ledit, A_ledit⟩ := d_ledit
  have m_ledit := PySem.W.mg_of X G A_ledit.ns
  obtain ⟨f_lmade, fd_lmade, A_lmade⟩ := d_lmade
  have m_lmade := PySem.W.mg_of X G A_lmade.ns
  obtain ⟨f_lprogram, fd_lprogram, A_lprogram⟩ := d_lprogram
  have m_lprogram := PySem.W.mg_of X G A_lprogram.ns
  obtain ⟨f_lshuffled, fd_lshuffled, A_lshuffled⟩ := d_lshuffled
  have m_lshuffled := PySem.W.mg_of X G A_lshuffled.ns
  obtain ⟨f_ltexts, fd_ltexts, A_ltexts⟩ := d_ltexts
  have m_ltexts := PySem.W.mg_of X G A_ltexts.ns
  obtain ⟨f_ltold, fd_ltold, A_ltold⟩ := d_ltold
  have m_ltold := PySem.W.mg_of X G A_ltold.ns
  obtain ⟨f_lrefused, fd_lrefused, A_lrefused⟩ := d_lrefused
  have m_lrefused := PySem.W.mg_of X G A_lrefused.ns
  obtain ⟨f_lseeded, fd_lseeded, A_lseeded⟩ := d_lseeded
  have m_lseeded := PySem.W.mg_of X G A_lseeded.ns
  obtain ⟨f_is_text, fd_is_text, A_is_text⟩ := d_is_text
  have m_is_text := PySem.W.mg_of X G A_is_text.ns
  obtain ⟨f_is_new, fd_is_new, A_is_new⟩ := d_is_new
  have m_is_new := PySem.W.mg_of X G A_is_new.ns
  obtain ⟨f_is_old, fd_is_old, A_is_old⟩ := d_is_old
  have m_is_old := PySem.W.mg_of X G A_is_old.ns
  obtain ⟨f_is_part, fd_is_part, A_is_part⟩ := d_is_part
  have m_is_part := PySem.W.mg_of X G A_is_part.ns
  obtain ⟨f_check_words, fd_check_words, A_check_words⟩ := d_check_words
  have m_check_words := PySem.W.mg_of X G A_check_words.ns
  obtain ⟨f_check_parts, fd_check_parts, A_check_parts⟩ := d_check_parts
  have m_check_parts := PySem.W.mg_of X G A_check_parts.ns
  obtain ⟨f_places, fd_places, A_places⟩ := d_places
  have m_places := PySem.W.mg_of X G A_places.ns
  obtain ⟨f_fits, fd_fits, A_fits⟩ := d_fits
  have m_fits := PySem.W.mg_of X G A_fits.ns
  obtain ⟨f_apart, fd_apart, A_apart⟩ := d_apart
  have m_apart := PySem.W.mg_of X G A_apart.ns
  obtain ⟨f_puts_of_one, fd_puts_of_one, A_puts_of_one⟩ := d_puts_of_one
  have m_puts_of_one := PySem.W.mg_of X G A_puts_of_one.ns
  obtain ⟨f_checked_puts, fd_checked_puts, A_checked_puts⟩ := d_checked_puts
  have m_checked_puts := PySem.W.mg_of X G A_checked_puts.ns
  obtain ⟨f_puts_of_parts, fd_puts_of_parts, A_puts_of_parts⟩ := d_puts_of_parts
  have m_puts_of_parts := PySem.W.mg_of X G A_puts_of_parts.ns
  obtain ⟨f_puts_of, fd_puts_of, A_puts_of⟩ := d_puts_of
  have m_puts_of := PySem.W.mg_of X G A_puts_of.ns
  obtain ⟨f_text_behind, fd_text_behind, A_text_behind⟩ := d_text_behind
  have m_text_behind := PySem.W.mg_of X G A_text_behind.ns
  obtain ⟨f_check_edits, fd_check_edits, A_check_edits⟩ := d_check_edits
  have m_check_edits := PySem.W.mg_of X G A_check_edits.ns
  obtain ⟨f_parts_of, fd_parts_of, A_parts_of⟩ := d_parts_of
  have m_parts_of := PySem.W.mg_of X G A_parts_of.ns
  obtain ⟨f_mirrored_edit, fd_mirrored_edit, A_mirrored_edit⟩ := d_mirrored_edit
  have m_mirrored_edit := PySem.W.mg_of X G A_mirrored_edit.ns
  obtain ⟨f_law, c_law, tP, fd_law, q_law, F_law, w_law⟩ := d_law
  have m_law := PySem.W.mg_of X G q_law
  have e := hfa.symm.trans m_law
  cases e
  have T : Txt mg := ⟨PySem.W.mg_none_of X G z_str, PySem.W.mg_none_of X G z_tuple, PySem.W.mg_none_of X G z_enumerate, PySem.W.mg_none_of X G z_len, PySem.W.mg_none_of X G z_list, PySem.W.mg_none_of X G z_int, PySem.W.mg_none_of X G z_abs, PySem.W.mg_none_of X G z_range, PySem.W.mg_none_of X G z_min, PySem.W.mg_none_of X G z_repr, PySem.W.mg_none_of X G z_isinstance⟩
  have z0_sorted := PySem.W.mg_none_of X G z_sorted
  have z0_zip := PySem.W.mg_none_of X G z_zip
  have z0_ValueError := PySem.W.mg_none_of X G z_ValueError
  have bd_lsigns : Binds K fd_lsigns [] [] := A_lsigns.fn.binds (ps := []) fun _ _ _ _ _ _ us hl => match us, hl with | [], _ => rfl
  have bd_ldraw : Binds K fd_ldraw ["_law_pen_here", "_law_many"] [] := A_ldraw.fn.binds (ps := ["_law_pen_here", "_law_many"]) fun _ _ _ _ _ _ us hl => match us, hl with | [_, _], _ => rfl
  have bd_lpen : Binds K fd_lpen ["_law_script"] [] := A_lpen.fn.binds (ps := ["_law_script"]) fun _ _ _ _ _ _ us hl => match us, hl with | [_], _ => rfl
  have bd_lpick : Binds K fd_lpick ["_law_pen_here", "_law_options"] [] := A_lpick.fn.binds (ps := ["_law_pen_here", "_law_options"]) fun _ _ _ _ _ _ us hl => match us, hl with | [_, _], _ => rfl
  have bd_lfew : Binds K fd_lfew ["_law_pen_here"] [] := A_lfew.fn.binds (ps := ["_law_pen_here"]) fun _ _ _ _ _ _ us hl => match us, hl with | [_], _ => rfl
  have bd_lword : Binds K fd_lword ["_law_pen_here", "_law_signs_here", "_law_least", "_law_most_letters"] [] := A_lword.fn.binds (ps := ["_law_pen_here", "_law_signs_here", "_law_least", "_law_most_letters"]) fun _ _ _ _ _ _ us hl => match us, hl with | [_, _, _, _], _ => rfl
  have bd_ledit : Binds K fd_ledit ["_law_pen_here", "_law_signs_here", "_law_wide", "_law_sorts"] [] := A_ledit.fn.binds (ps := ["_law_pen_here", "_law_signs_here", "_law_wide", "_law_sorts"]) fun _ _ _ _ _ _ us hl => match us, hl with | [_, _, _, _], _ => rfl
  have bd_lmade : Binds K fd_lmade ["_law_plain"] [] := A_lmade.fn.binds (ps := ["_law_plain"]) fun _ _ _ _ _ _ us hl => match us, hl with | [_], _ => rfl
  have bd_lprogram : Binds K fd_lprogram ["_law_plains"] [] := A_lprogram.fn.binds (ps := ["_law_plains"]) fun _ _ _ _ _ _ us hl => match us, hl with | [_], _ => rfl
  have bd_lshuffled : Binds K fd_lshuffled ["_law_pen_here", "_law_items"] [] := A_lshuffled.fn.binds (ps := ["_law_pen_here", "_law_items"]) fun _ _ _ _ _ _ us hl => match us, hl with | [_, _], _ => rfl
  have bd_ltexts : Binds K fd_ltexts ["_law_signs_here", "_law_most_letters"] [] := A_ltexts.fn.binds (ps := ["_law_signs_here", "_law_most_letters"]) fun _ _ _ _ _ _ us hl => match us, hl with | [_, _], _ => rfl
  have bd_ltold : Binds K fd_ltold ["_law_call"] [] := A_ltold.fn.binds (ps := ["_law_call"]) fun _ _ _ _ _ _ us hl => match us, hl with | [_], _ => rfl
  have bd_lrefused : Binds K fd_lrefused ["_law_call"] [] := A_lrefused.fn.binds (ps := ["_law_call"]) fun _ _ _ _ _ _ us hl => match us, hl with | [_], _ => rfl
  have bd_lseeded : Binds K fd_lseeded ["_law_pen_here", "_law_signs_here", "_law_plains"] [] := A_lseeded.fn.binds (ps := ["_law_pen_here", "_law_signs_here", "_law_plains"]) fun _ _ _ _ _ _ us hl => match us, hl with | [_, _, _], _ => rfl
  have bd_is_text : Binds K fd_is_text ["value"] [] := A_is_text.fn.binds (ps := ["value"]) fun _ _ _ _ _ _ us hl => match us, hl with | [_], _ => rfl
  have bd_is_new : Binds K fd_is_new ["value"] [] := A_is_new.fn.binds (ps := ["value"]) fun _ _ _ _ _ _ us hl => match us, hl with | [_], _ => rfl
  have bd_is_old : Binds K fd_is_old ["value"] [] := A_is_old.fn.binds (ps := ["value"]) fun _ _ _ _ _ _ us hl => match us, hl with | [_], _ => rfl
  have bd_is_part : Binds K fd_is_part ["value"] [] := A_is_part.fn.binds (ps := ["value"]) fun _ _ _ _ _ _ us hl => match us, hl with | [_], _ => rfl
  have bd_check_words : Binds K fd_check_words ["old", "new"] [] := A_check_words.fn.binds (ps := ["old", "new"]) fun _ _ _ _ _ _ us hl => match us, hl with | [_, _], _ => rfl
  have bd_check_parts : Binds K fd_check_parts ["parts"] [] := A_check_parts.fn.binds (ps := ["parts"]) fun _ _ _ _ _ _ us hl => match us, hl with | [_], _ => rfl
  have bd_places : Binds K fd_places ["text", "word"] [] := A_places.fn.binds (ps := ["text", "word"]) fun _ _ _ _ _ _ us hl => match us, hl with | [_, _], _ => rfl
  have bd_fits : Binds K fd_fits ["edit", "number"] [] := A_fits.fn.binds (ps := ["edit", "number"]) fun _ _ _ _ _ _ us hl => match us, hl with | [_, _], _ => rfl
  have bd_apart : Binds K fd_apart ["found", "length"] [] := A_apart.fn.binds (ps := ["found", "length"]) fun _ _ _ _ _ _ us hl => match us, hl with | [_, _], _ => rfl
  have bd_puts_of_one : Binds K fd_puts_of_one ["edit", "index", "text"] [] := A_puts_of_one.fn.binds (ps := ["edit", "index", "text"]) fun _ _ _ _ _ _ us hl => match us, hl with | [_, _, _], _ => rfl
  have bd_checked_puts : Binds K fd_checked_puts ["puts", "index"] [] := A_checked_puts.fn.binds (ps := ["puts", "index"]) fun _ _ _ _ _ _ us hl => match us, hl with | [_, _], _ => rfl
  have bd_puts_of_parts : Binds K fd_puts_of_parts ["parts", "index", "text"] [] := A_puts_of_parts.fn.binds (ps := ["parts", "index", "text"]) fun _ _ _ _ _ _ us hl => match us, hl with | [_, _, _], _ => rfl
  have bd_puts_of : Binds K fd_puts_of ["edit", "index", "text"] [] := A_puts_of.fn.binds (ps := ["edit", "index", "text"]) fun _ _ _ _ _ _ us hl => match us, hl with | [_, _, _], _ => rfl
  have bd_text_behind : Binds K fd_text_behind ["text", "puts"] [] := A_text_behind.fn.binds (ps := ["text", "puts"]) fun _ _ _ _ _ _ us hl => match us, hl with | [_, _], _ => rfl
  have bd_check_edits : Binds K fd_check_edits ["edits"] [] := A_check_edits.fn.binds (ps := ["edits"]) fun _ _ _ _ _ _ us hl => match us, hl with | [_], _ => rfl
  have bd_parts_of : Binds K fd_parts_of ["edit"] [] := A_parts_of.fn.binds (ps := ["edit"]) fun _ _ _ _ _ _ us hl => match us, hl with | [_], _ => rfl
  have bd_mirrored_edit : Binds K fd_mirrored_edit ["edit", "index"] [] := A_mirrored_edit.fn.binds (ps := ["edit", "index"]) fun _ _ _ _ _ _ us hl => match us, hl with | [_, _], _ => rfl
  obtain ⟨tb1, tb2, tb3⟩ := tb _ _ w_law
  have h_ed : ∀ n, n < 4 → EdF K (cls4 C0 C1 C2 C3 n) := four (E_Once.T.ed) (E_First.T.ed) (E_Perhaps.T.ed) (E_Every.T.ed)
  have h_kit : ∀ i j, i < 4 → j < 4 → PySem.W.kitOne K (.ref (cls4 C0 C1 C2 C3 i)) (.ref (cls4 C0 C1 C2 C3 j)) = some (i == j) := four2 (four ⟨kit_of M.ic_Once M.ty_Once M.s_Once_Once M.s_Once_Once, kit_of M.ic_First M.ty_First M.s_First_First M.s_Once_First, kit_of M.ic_Perhaps M.ty_Perhaps M.s_Perhaps_Perhaps M.s_Once_Perhaps, kit_of M.ic_Every M.ty_Every M.s_Every_Every M.s_Once_Every⟩ ⟨kit_of M.ic_Once M.ty_Once M.s_Once_Once M.s_First_Once, kit_of M.ic_First M.ty_First M.s_First_First M.s_First_First, kit_of M.ic_Perhaps M.ty_Perhaps M.s_Perhaps_Perhaps M.s_First_Perhaps, kit_of M.ic_Every M.ty_Every M.s_Every_Every M.s_First_Every⟩ ⟨kit_of M.ic_Once M.ty_Once M.s_Once_Once M.s_Perhaps_Once, kit_of M.ic_First M.ty_First M.s_First_First M.s_Perhaps_First, kit_of M.ic_Perhaps M.ty_Perhaps M.s_Perhaps_Perhaps M.s_Perhaps_Perhaps, kit_of M.ic_Every M.ty_Every M.s_Every_Every M.s_Perhaps_Every⟩ ⟨kit_of M.ic_Once M.ty_Once M.s_Once_Once M.s_Every_Once, kit_of M.ic_First M.ty_First M.s_First_First M.s_Every_First, kit_of M.ic_Perhaps M.ty_Perhaps M.s_Perhaps_Perhaps M.s_Every_Perhaps, kit_of M.ic_Every M.ty_Every M.s_Every_Every M.s_Every_Every⟩)
  have h_kE : ∀ i, i < 4 → PySem.W.kitOne K (.ref (cls4 C0 C1 C2 C3 i)) (.ref CE) = some true := four (kit_of M.ic_Edit M.ty_Edit M.s_Edit_Edit M.s_Once_Edit) (kit_of M.ic_Edit M.ty_Edit M.s_Edit_Edit M.s_First_Edit) (kit_of M.ic_Edit M.ty_Edit M.s_Edit_Edit M.s_Perhaps_Edit) (kit_of M.ic_Edit M.ty_Edit M.s_Edit_Edit M.s_Every_Edit)
  have h_kA : ∀ i, i < 4 → PySem.W.kitOne K (.ref (cls4 C0 C1 C2 C3 i)) (.ref CA) = some false := four (kit_of M.ic_AtOnce M.ty_AtOnce M.s_AtOnce_AtOnce M.s_Once_AtOnce) (kit_of M.ic_AtOnce M.ty_AtOnce M.s_AtOnce_AtOnce M.s_First_AtOnce) (kit_of M.ic_AtOnce M.ty_AtOnce M.s_AtOnce_AtOnce M.s_Perhaps_AtOnce) (kit_of M.ic_AtOnce M.ty_AtOnce M.s_AtOnce_AtOnce M.s_Every_AtOnce)
  have h_kFE : ∀ n, n < 4 → PySem.W.kitAny K (.ref (cls4 C0 C1 C2 C3 n)) [.ref C1, .ref C3] = some (n == 1 || n == 3) := four (kit_two (h_kit 0 1 (by decide) (by decide)) (h_kit 0 3 (by decide) (by decide))) (kit_two (h_kit 1 1 (by decide) (by decide)) (h_kit 1 3 (by decide) (by decide))) (kit_two (h_kit 2 1 (by decide) (by decide)) (h_kit 2 3 (by decide) (by decide))) (kit_two (h_kit 3 1 (by decide) (by decide)) (h_kit 3 3 (by decide) (by decide)))
  have edA := T_AtOnce.T.ed
  have h_kAA := kit_of M.ic_AtOnce M.ty_AtOnce M.s_AtOnce_AtOnce M.s_AtOnce_AtOnce
  have h_kEA := kit_of M.ic_Edit M.ty_Edit M.s_Edit_Edit M.s_AtOnce_Edit
  have h_kFEA : PySem.W.kitAny K (.ref CA) [.ref C1, .ref C3] = some false := kit_two (kit_of M.ic_First M.ty_First M.s_First_First M.s_AtOnce_First) (kit_of M.ic_Every M.ty_Every M.s_Every_Every M.s_AtOnce_Every)
  have h_kP := kit_of M.ic_Program M.ty_Program M.s_Program_Program M.s_Program_Program
  refine ⟨fd_law, c_law, tP, tb1, tb2, tb3, fun s v => F_law.fn.binds1 rfl s v, fun base _ _ tab => ?_⟩
  have k_InvalidOld : ClsI l.prog w K mg base 1 "InvalidOld" C_InvalidOld ["value"] := c_InvalidOld X G E_InvalidOld
  have k_InvalidNew : ClsI l.prog w K mg base 1 "InvalidNew" C_InvalidNew ["value"] := c_InvalidNew X G E_InvalidNew
  have k_InvalidText : ClsI l.prog w K mg base 1 "InvalidText" C_InvalidText ["value"] := c_InvalidText X G E_InvalidText
  have k_InvalidPart : ClsI l.prog w K mg base 1 "InvalidPart" C_InvalidPart ["index"] := c_InvalidPart X G E_InvalidPart
  have k_NoMirror : ClsI l.prog w K mg base 1 "NoMirror" C_NoMirror ["index"] := c_NoMirror X G E_NoMirror
  have k_NoPlace : ClsI l.prog w K mg base 1 "NoPlace" C_NoPlace ["index", "number"] := c_NoPlace X G E_NoPlace
  have k_Overlap : ClsI l.prog w K mg base 1 "Overlap" C_Overlap ["index"] := c_Overlap X G E_Overlap
  have k_TooMany : ClsI l.prog w K mg base 1 "TooMany" C_TooMany ["limit"] := c_TooMany X G E_TooMany
  have h_old : ∀ n, n < 4 → PrI l.prog w K mg base 1 (cls4 C0 C1 C2 C3 n) "old" "_old" := four ⟨p1_Once, g1_Once, d1_Once, E_Once.T.cl, E_Once.P1, b_oldOnce E_Once.F1 E_Once.T.ed, E_Once.F1.binds (ps := ["self"]) fun _ _ _ _ _ _ us hl => match us, hl with | [_], _ => rfl⟩ ⟨p1_First, g1_First, d1_First, E_First.T.cl, E_First.P1, b_oldFirst E_First.F1 E_First.T.ed, E_First.F1.binds (ps := ["self"]) fun _ _ _ _ _ _ us hl => match us, hl with | [_], _ => rfl⟩ ⟨p1_Perhaps, g1_Perhaps, d1_Perhaps, E_Perhaps.T.cl, E_Perhaps.P1, b_oldPerhaps E_Perhaps.F1 E_Perhaps.T.ed, E_Perhaps.F1.binds (ps := ["self"]) fun _ _ _ _ _ _ us hl => match us, hl with | [_], _ => rfl⟩ ⟨p1_Every, g1_Every, d1_Every, E_Every.T.cl, E_Every.P1, b_oldEvery E_Every.F1 E_Every.T.ed, E_Every.F1.binds (ps := ["self"]) fun _ _ _ _ _ _ us hl => match us, hl with | [_], _ => rfl⟩
  have h_new : ∀ n, n < 4 → PrI l.prog w K mg base 1 (cls4 C0 C1 C2 C3 n) "new" "_new" := four ⟨p2_Once, g2_Once, d2_Once, E_Once.T.cl, E_Once.P2, b_newOnce E_Once.F2 E_Once.T.ed, E_Once.F2.binds (ps := ["self"]) fun _ _ _ _ _ _ us hl => match us, hl with | [_], _ => rfl⟩ ⟨p2_First, g2_First, d2_First, E_First.T.cl, E_First.P2, b_newFirst E_First.F2 E_First.T.ed, E_First.F2.binds (ps := ["self"]) fun _ _ _ _ _ _ us hl => match us, hl with | [_], _ => rfl⟩ ⟨p2_Perhaps, g2_Perhaps, d2_Perhaps, E_Perhaps.T.cl, E_Perhaps.P2, b_newPerhaps E_Perhaps.F2 E_Perhaps.T.ed, E_Perhaps.F2.binds (ps := ["self"]) fun _ _ _ _ _ _ us hl => match us, hl with | [_], _ => rfl⟩ ⟨p2_Every, g2_Every, d2_Every, E_Every.T.cl, E_Every.P2, b_newEvery E_Every.F2 E_Every.T.ed, E_Every.F2.binds (ps := ["self"]) fun _ _ _ _ _ _ us hl => match us, hl with | [_], _ => rfl⟩
  have pr_parts : ∀ n, n < 1 → PrI l.prog w K mg base 1 ((fun _ => CA) n) "parts" "_parts" := fun n hn => ⟨p_At, g_At, dp_At, T_AtOnce.T.cl, T_AtOnce.P, b_parts T_AtOnce.FP edA T_AtOnce.np, T_AtOnce.FP.binds (ps := ["self"]) fun _ _ _ _ _ _ us hl => match us, hl with | [_], _ => rfl⟩
  have h_eq : ∀ n, n < 4 → EqI l.prog w K mg base 1 (cls4 C0 C1 C2 C3 n) (spEqE K (cls4 C0 C1 C2 C3 n)) := four ⟨⟨fE_Once, dE_Once, E_Once.eq, E_Once.eqf, b_eqOnce E_Once.FE T n_Once E_Once.T.ed, E_Once.FE.binds (ps := ["self", "other"]) fun _ _ _ _ _ _ us hl => match us, hl with | [_, _], _ => rfl⟩, E_Once.ne, E_Once.T.cm, E_Once.no1, E_Once.no2, E_Once.no3, E_Once.no4⟩ ⟨⟨fE_First, dE_First, E_First.eq, E_First.eqf, b_eqFirst E_First.FE T n_First E_First.T.ed, E_First.FE.binds (ps := ["self", "other"]) fun _ _ _ _ _ _ us hl => match us, hl with | [_, _], _ => rfl⟩, E_First.ne, E_First.T.cm, E_First.no1, E_First.no2, E_First.no3, E_First.no4⟩ ⟨⟨fE_Perhaps, dE_Perhaps, E_Perhaps.eq, E_Perhaps.eqf, b_eqPerhaps E_Perhaps.FE T n_Perhaps E_Perhaps.T.ed, E_Perhaps.FE.binds (ps := ["self", "other"]) fun _ _ _ _ _ _ us hl => match us, hl with | [_, _], _ => rfl⟩, E_Perhaps.ne, E_Perhaps.T.cm, E_Perhaps.no1, E_Perhaps.no2, E_Perhaps.no3, E_Perhaps.no4⟩ ⟨⟨fE_Every, dE_Every, E_Every.eq, E_Every.eqf, b_eqEvery E_Every.FE T n_Every E_Every.T.ed, E_Every.FE.binds (ps := ["self", "other"]) fun _ _ _ _ _ _ us hl => match us, hl with | [_, _], _ => rfl⟩, E_Every.ne, E_Every.T.cm, E_Every.no1, E_Every.no2, E_Every.no3, E_Every.no4⟩
  have h_eqA : EqI l.prog w K mg base 1 CA (spEqA K CA) := ⟨⟨fE_At, dE_At, T_AtOnce.eq, T_AtOnce.eqf, b_eqAt T_AtOnce.FE T n_AtOnce edA T_AtOnce.np, T_AtOnce.FE.binds (ps := ["self", "other"]) fun _ _ _ _ _ _ us hl => match us, hl with | [_, _], _ => rfl⟩, T_AtOnce.ne, T_AtOnce.T.cm, T_AtOnce.no1, T_AtOnce.no2, T_AtOnce.no3, T_AtOnce.no4⟩
  have t_signs : FnT l.prog w K mg base 1 "_law_signs" letS := okT A_lsigns.fn sc_lsigns m_lsigns bd_lsigns rfl
  have c_is_text : CalG l.prog w K mg base CX0 1 "is_text" (spTest isT) := ⟨f_is_text, fd_is_text, _, b_is_text A_is_text.fn T g_LETTERS, m_is_text, A_is_text.fn.kp, bd_is_text⟩
  have c_is_new : CalG l.prog w K mg base CX0 2 "is_new" (spTest isNew) := ⟨f_is_new, fd_is_new, _, b_is_new A_is_new.fn T c_is_text g_MAX_WORD, m_is_new, A_is_new.fn.kp, bd_is_new⟩
  have c_is_old : CalG l.prog w K mg base CX0 3 "is_old" (spTest isOld) := ⟨f_is_old, fd_is_old, _, b_is_old A_is_old.fn T c_is_new, m_is_old, A_is_old.fn.kp, bd_is_old⟩
  have c_is_part : CalG l.prog w K mg base CX0 4 "is_part" spPart := ⟨f_is_part, fd_is_part, _, b_is_part A_is_part.fn T c_is_old c_is_new, m_is_part, A_is_part.fn.kp, bd_is_part⟩
  have c_check_words : CalG l.prog w K mg base (L2.CX l.prog w) 4 "check_words" (spCheck C_InvalidOld C_InvalidNew) := ⟨f_check_words, fd_check_words, _, b_check_words A_check_words.fn T c_is_old c_is_new k_InvalidOld k_InvalidNew, m_check_words, A_check_words.fn.kp, bd_check_words⟩
  have c_check_parts : CalG l.prog w K mg base (L2.CX l.prog w) 5 "check_parts" (spChk C_InvalidPart C_TooMany) := ⟨f_check_parts, fd_check_parts, _, b_check_parts A_check_parts.fn T c_is_part k_InvalidPart k_TooMany g_MAX_PARTS, m_check_parts, A_check_parts.fn.kp, bd_check_parts⟩
  have c_places : CalG l.prog w K mg base CX0 1 "places" (spPlaces K) := ⟨f_places, fd_places, _, b_places A_places.fn T, m_places, A_places.fn.kp, bd_places⟩
  have c_fits : CalG l.prog w K mg base CX0 1 "fits" (spFits C0 C1 C2 C3) := ⟨f_fits, fd_fits, _, b_fits A_fits.fn T n_First n_Every n_Perhaps h_ed h_kit h_kFE, m_fits, A_fits.fn.kp, bd_fits⟩
  have c_apart : CalG l.prog w K mg base CX0 1 "apart" (spApart K) := ⟨f_apart, fd_apart, _, b_apart A_apart.fn T, m_apart, A_apart.fn.kp, bd_apart⟩
  have c_puts_of_one : CalG l.prog w K mg base (L2.CX l.prog w) 3 "puts_of_one" (spPuts (cls4 C0 C1 C2 C3) C_NoPlace) := ⟨f_puts_of_one, fd_puts_of_one, _, b_puts_of_one A_puts_of_one.fn T c_places c_fits c_apart k_NoPlace n_First h_ed h_kit h_old h_new, m_puts_of_one, A_puts_of_one.fn.kp, bd_puts_of_one⟩
  have c_checked_puts : CalG l.prog w K mg base (L2.CX l.prog w) 3 "checked_puts" (spCkP C_Overlap) := ⟨f_checked_puts, fd_checked_puts, _, b_checked_puts A_checked_puts.fn T k_Overlap z0_sorted z0_zip, m_checked_puts, A_checked_puts.fn.kp, bd_checked_puts⟩
  have c_puts_of_parts : CalG l.prog w K mg base (L2.CX l.prog w) 4 "puts_of_parts" (spPutsP C_NoPlace C_Overlap) := ⟨f_puts_of_parts, fd_puts_of_parts, _, b_puts_of_parts A_puts_of_parts.fn T c_places k_NoPlace c_checked_puts, m_puts_of_parts, A_puts_of_parts.fn.kp, bd_puts_of_parts⟩
  have c_puts_of : CalG l.prog w K mg base (L2.CX l.prog w) 5 "puts_of" (spPutsE (cls4 C0 C1 C2 C3) CA C_NoPlace C_Overlap) := ⟨f_puts_of, fd_puts_of, _, b_puts_of A_puts_of.fn T c_puts_of_parts c_puts_of_one n_AtOnce edA h_ed h_kAA h_kA pr_parts, m_puts_of, A_puts_of.fn.kp, bd_puts_of⟩
  have c_text_behind : CalG l.prog w K mg base CX0 1 "text_behind" spBehind := ⟨f_text_behind, fd_text_behind, _, b_text_behind A_text_behind.fn T, m_text_behind, A_text_behind.fn.kp, bd_text_behind⟩
  have c_check_edits : CalG l.prog w K mg base CX0 1 "check_edits" (spCE K CE) := ⟨f_check_edits, fd_check_edits, _, b_check_edits A_check_edits.fn T n_Edit g_MAX_EDITS, m_check_edits, A_check_edits.fn.kp, bd_check_edits⟩
  have c_lsigns : CalG l.prog w K mg base CX0 1 "_law_signs" spSigns := ⟨f_lsigns, fd_lsigns, _, b_lsigns A_lsigns.fn T, m_lsigns, A_lsigns.fn.kp, bd_lsigns⟩
  have c_ldraw : CalG l.prog w K mg base CX0 1 "_law_draw" spDraw := ⟨f_ldraw, fd_ldraw, _, b_ldraw A_ldraw.fn T, m_ldraw, A_ldraw.fn.kp, bd_ldraw⟩
  have c_lpen : CalG l.prog w K mg base CX0 1 "_law_pen" (spPen K) := ⟨f_lpen, fd_lpen, _, b_lpen A_lpen.fn T, m_lpen, A_lpen.fn.kp, bd_lpen⟩
  have c_lpick : CalG l.prog w K mg base CX0 2 "_law_pick" (spPick K) := ⟨f_lpick, fd_lpick, _, b_lpick A_lpick.fn T c_ldraw, m_lpick, A_lpick.fn.kp, bd_lpick⟩
  have c_lfew : CalG l.prog w K mg base CX0 3 "_law_few" spFew := ⟨f_lfew, fd_lfew, _, b_lfew A_lfew.fn T c_lpick t_signs, m_lfew, A_lfew.fn.kp, bd_lfew⟩
  have c_lword : CalG l.prog w K mg base CX0 3 "_law_word" spWord := ⟨f_lword, fd_lword, _, b_lword A_lword.fn T c_ldraw c_lpick, m_lword, A_lword.fn.kp, bd_lword⟩
  have c_ledit : CalG l.prog w K mg base CX0 4 "_law_edit" spPlain := ⟨f_ledit, fd_ledit, _, b_ledit A_ledit.fn T c_ldraw c_lpick c_lword, m_ledit, A_ledit.fn.kp, bd_ledit⟩
  have mk_Once : MakI l.prog w K mg base (L2.CX l.prog w) 5 "Once" C0 ["old", "new"] (spEdit C0 C_InvalidOld C_InvalidNew) := ⟨n_Once, fI_Once, dI_Once, E_Once.T.M, b_Once E_Once.FI c_check_words E_Once.T.cl E_Once.T.n1 E_Once.T.n2, E_Once.FI.binds (ps := ["self", "old", "new"]) fun _ _ _ _ _ _ us hl => match us, hl with | [_, _, _], _ => rfl, fun s v ws KI hl => by
    match ws, hl with
    | [y, z], _ =>
      obtain ⟨oc, od, kV, doc, pm, an, cdv, ct, osl, rfl, lk, hcd⟩ := E_Once.FI.ex
      exact .of_eq rfl⟩
  have mk_First : MakI l.prog w K mg base (L2.CX l.prog w) 5 "First" C1 ["old", "new"] (spEdit C1 C_InvalidOld C_InvalidNew) := ⟨n_First, fI_First, dI_First, E_First.T.M, b_First E_First.FI c_check_words E_First.T.cl E_First.T.n1 E_First.T.n2, E_First.FI.binds (ps := ["self", "old", "new"]) fun _ _ _ _ _ _ us hl => match us, hl with | [_, _, _], _ => rfl, fun s v ws KI hl => by
    match ws, hl with
    | [y, z], _ =>
      obtain ⟨oc, od, kV, doc, pm, an, cdv, ct, osl, rfl, lk, hcd⟩ := E_First.FI.ex
      exact .of_eq rfl⟩
  have mk_Perhaps : MakI l.prog w K mg base (L2.CX l.prog w) 5 "Perhaps" C2 ["old", "new"] (spEdit C2 C_InvalidOld C_InvalidNew) := ⟨n_Perhaps, fI_Perhaps, dI_Perhaps, E_Perhaps.T.M, b_Perhaps E_Perhaps.FI c_check_words E_Perhaps.T.cl E_Perhaps.T.n1 E_Perhaps.T.n2, E_Perhaps.FI.binds (ps := ["self", "old", "new"]) fun _ _ _ _ _ _ us hl => match us, hl with | [_, _, _], _ => rfl, fun s v ws KI hl => by
    match ws, hl with
    | [y, z], _ =>
      obtain ⟨oc, od, kV, doc, pm, an, cdv, ct, osl, rfl, lk, hcd⟩ := E_Perhaps.FI.ex
      exact .of_eq rfl⟩
  have mk_Every : MakI l.prog w K mg base (L2.CX l.prog w) 5 "Every" C3 ["old", "new"] (spEdit C3 C_InvalidOld C_InvalidNew) := ⟨n_Every, fI_Every, dI_Every, E_Every.T.M, b_Every E_Every.FI c_check_words E_Every.T.cl E_Every.T.n1 E_Every.T.n2, E_Every.FI.binds (ps := ["self", "old", "new"]) fun _ _ _ _ _ _ us hl => match us, hl with | [_, _, _], _ => rfl, fun s v ws KI hl => by
    match ws, hl with
    | [y, z], _ =>
      obtain ⟨oc, od, kV, doc, pm, an, cdv, ct, osl, rfl, lk, hcd⟩ := E_Every.FI.ex
      exact .of_eq rfl⟩
  have h_FA : FnRG l.prog w K mg base (L2.CX l.prog w) 6 fI_At (spAt CA C_InvalidPart C_TooMany) := b_AtOnce T_AtOnce.FI c_check_parts T_AtOnce.T.cl T_AtOnce.np
  have h_FP : FnRG l.prog w K mg base (L2.CX l.prog w) 2 fI_Pr (spPr K CE CP) := b_Program T_Program.FI c_check_edits T_Program.cl T_Program.n1
  have c_lmade : CalG l.prog w K mg base CX0 8 "_law_made" (spMade (cls4 C0 C1 C2 C3) CA) := ⟨f_lmade, fd_lmade, _, b_lmade A_lmade.fn T mk_Once mk_First mk_Perhaps mk_Every n_AtOnce T_AtOnce.T.M h_FA, m_lmade, A_lmade.fn.kp, bd_lmade⟩
  have c_lprogram : CalG l.prog w K mg base CX0 9 "_law_program" (spProg (cls4 C0 C1 C2 C3) CA CP) := ⟨f_lprogram, fd_lprogram, _, b_lprogram A_lprogram.fn T c_lmade n_Program h_ed h_kE edA h_kEA T_Program.M h_FP, m_lprogram, A_lprogram.fn.kp, bd_lprogram⟩
  have c_parts_of : CalG l.prog w K mg base CX0 3 "parts_of" (spPof (cls4 C0 C1 C2 C3) CA) := ⟨f_parts_of, fd_parts_of, _, b_parts_of A_parts_of.fn T n_AtOnce edA h_ed h_kAA h_kA pr_parts h_old h_new, m_parts_of, A_parts_of.fn.kp, bd_parts_of⟩
  have c_mirrored_edit : CalG l.prog w K mg base (L2.CX l.prog w) 8 "mirrored_edit" (spMir (cls4 C0 C1 C2 C3) CA C_NoMirror) := ⟨f_mirrored_edit, fd_mirrored_edit, _, b_mirrored_edit A_mirrored_edit.fn T n_First n_Every n_Perhaps n_AtOnce edA h_ed h_kAA h_kA h_kFE h_kFEA h_kit pr_parts h_old h_new k_NoMirror mk_Once mk_Perhaps T_AtOnce.T.M h_FA, m_mirrored_edit, A_mirrored_edit.fn.kp, bd_mirrored_edit⟩
  have x_NN := exm_own E_NoPlace.T (sub_one o_NoPlace o_NoPlace)
  have x_ON := exm_own E_NoPlace.T (sub_one o_Overlap o_NoPlace)
  have x_OO := exm_own E_Overlap.T (sub_one o_Overlap o_Overlap)
  have x_MM := exm_own E_NoMirror.T (sub_one o_NoMirror o_NoMirror)
  have m_runP : MthG l.prog w K mg base (L2.CX l.prog w) 6 CP "run" (spRun (cls4 C0 C1 C2 C3) CA CP C_NoPlace C_Overlap C_InvalidText) := ⟨f_run_Pr, d_run_Pr, _, ⟨T_Program.r1_run, T_Program.r2_run, T_Program.r3_run⟩, b_run T_Program.F_run T c_is_text c_puts_of c_text_behind k_InvalidText T_Program.cl T_Program.n1, T_Program.F_run.binds (ps := ["self", "text"]) fun _ _ _ _ _ _ us hl => match us, hl with | [_, _], _ => rfl⟩
  have m_mirroredP : MthG l.prog w K mg base (L2.CX l.prog w) 9 CP "mirrored" (spMirP (cls4 C0 C1 C2 C3) CA CP C_NoMirror) := ⟨f_mirrored_Pr, d_mirrored_Pr, _, ⟨T_Program.r1_mirrored, T_Program.r2_mirrored, T_Program.r3_mirrored⟩, b_mirrored T_Program.F_mirrored T c_mirrored_edit n_Program T_Program.cl T_Program.n1 h_ed h_kE edA h_kEA T_Program.M h_FP, T_Program.F_mirrored.binds (ps := ["self"]) fun _ _ _ _ _ _ us hl => match us, hl with | [_], _ => rfl⟩
  have pr_olds : PrG l.prog w K mg base 4 CP "olds" (spOlds (cls4 C0 C1 C2 C3) CA CP) := ⟨p_olds_Pr, g_olds_Pr, e_olds_Pr, T_Program.cl, T_Program.P_olds, b_olds T_Program.F_olds T c_parts_of T_Program.cl T_Program.n1, T_Program.F_olds.binds (ps := ["self"]) fun _ _ _ _ _ _ us hl => match us, hl with | [_], _ => rfl⟩
  have eqP : EqI l.prog w K mg base 3 CP (spEqP (cls4 C0 C1 C2 C3) CA CP) := ⟨⟨fE_Pr, dE_Pr, T_Program.eq, T_Program.eqf, b_eqProgram T_Program.FE T n_Program (fun h => T_Program.ty h) h_kP T_Program.cl T_Program.n1 h_eq h_eqA h_kit h_kAA, T_Program.FE.binds (ps := ["self", "other"]) fun _ _ _ _ _ _ us hl => match us, hl with | [_, _], _ => rfl⟩, T_Program.ne, T_Program.cm, T_Program.no1, T_Program.no2, T_Program.no3, T_Program.no4⟩
  have c_lshuffled : CalG l.prog w K mg base CX0 2 "_law_shuffled" spShuf := ⟨f_lshuffled, fd_lshuffled, _, b_lshuffled A_lshuffled.fn T c_ldraw, m_lshuffled, A_lshuffled.fn.kp, bd_lshuffled⟩
  have c_ltexts : CalG l.prog w K mg base CX0 1 "_law_texts" spTexts := ⟨f_ltexts, fd_ltexts, _, b_ltexts A_ltexts.fn T z0_sorted, m_ltexts, A_ltexts.fn.kp, bd_ltexts⟩
  have c_lseeded : CalG l.prog w K mg base CX0 4 "_law_seeded" spSeed9 := ⟨f_lseeded, fd_lseeded, _, b_lseeded A_lseeded.fn T c_lpick c_lword, m_lseeded, A_lseeded.fn.kp, bd_lseeded⟩
  have c_ltold : CalH l.prog w K mg base CX0 8 "_law_told" (spTold l.prog w K mg base C_NoPlace C_Overlap) := ⟨f_ltold, fd_ltold, _, b_ltold A_ltold.fn T k_NoPlace k_Overlap x_NN x_ON x_OO, m_ltold, A_ltold.fn.kp, bd_ltold⟩
  have c_lrefused : CalH l.prog w K mg base CX0 11 "_law_refused" (spRefM l.prog w K mg base C_NoMirror) := ⟨f_lrefused, fd_lrefused, _, b_lrefused A_lrefused.fn T z0_ValueError k_NoMirror x_MM (kit_type o_NoMirror (by decide +kernel)), m_lrefused, A_lrefused.fn.kp, bd_lrefused⟩
  exact b_law F_law T c_lpen c_lfew c_ldraw c_ledit c_lprogram c_ltexts c_lshuffled c_lseeded tab c_ltold c_lrefused T_Program.cl m_runP m_mirroredP pr_olds eqP
end Vk
set_option Elab.async false
set_option maxRecDepth 100000
set_option linter.all false
open PySem PySem.W PyProof.Rows
set_option maxRecDepth 100000 in
set_option maxHeartbeats 0 in
theorem PySem.Challenge.cw_anchoredits_k09_whole_mirrored_programs_holds : PySem.Challenge.rw_anchoredits_k09_whole_mirrored_programs.Holds := by
  w_on; o_law
  refine holds_open (q := Vk.hd.view_39) (loose := Vk.hdLo) (Xt := Vk.hdXt) (XP := XL Vk.hd.view_39 []) (Yf := Hook.obs (kHook Vk.hd.heap_39 Vk.hdAs Vk.hdEk)) (Ya := Hook.val (kHook Vk.hd.heap_39 Vk.hdAs Vk.hdEk)) (YP := Hook.says (kHook Vk.hd.heap_39 Vk.hdAs Vk.hdEk)) (N := 13202) Vk.hdLeft (Hook.of (kHook Vk.hd.heap_39 Vk.hdAs Vk.hdEk)) (Hook.keeps (kHook Vk.hd.heap_39 Vk.hdAs Vk.hdEk)) (fun s e => xl_of s (Bool.and_eq_true_iff.mp e).1) XL.keeps (by rfl) (by rfl) (by rfl) (fun s e => recFacts_of (Bool.and_eq_true_iff.mp e).2) (by rfl) (by first | assumption | decide +kernel) (by decide +kernel) ⟨rfl, rfl, rfl, rfl, rfl, by decide +kernel⟩ ?hw ?hc
  case hw => w_witness2
  case hc =>
  k_fill
  refine Vk.walkXT (l := PySem.Challenge.rw_anchoredits_k09_whole_mirrored_programs) (n := 63) (k := 12) (x := "_law_script") (CX := L2.CX0) (sp := Vk.spLaw) rfl (by decide) rfl ⟨rfl, by decide, by decide⟩ (fun w h Y => PySem.W.kIn_of Y) ?F (fun P0 K H a ns hl hP hS => ⟨a, ns, rfl, hS, hl, hP, fun _ => rfl⟩) (fun _ _ _ _ z => z)
  case F =>
    intro w mg fa h KX Gr hmg
    obtain ⟨s0, mb, Gr⟩ := Gr
    refine' Vk.all KX Gr.T.g hmg ?e_InvalidOld ?e_InvalidNew ?e_InvalidText ?e_InvalidPart ?e_NoMirror ?e_NoPlace ?e_Overlap ?e_TooMany ?e_Once ?e_First ?e_Perhaps ?e_Every ?e_AtOnce ?e_Program ?e_M ?d_lsigns ?d_ldraw ?d_lpen ?d_lpick ?d_lfew ?d_lword ?d_ledit ?d_lmade ?d_lprogram ?d_lshuffled ?d_ltexts ?d_ltold ?d_lrefused ?d_lseeded ?d_is_text ?d_is_new ?d_is_old ?d_is_part ?d_check_words ?d_check_parts ?d_places ?d_fits ?d_apart ?d_puts_of_one ?d_checked_puts ?d_puts_of_parts ?d_puts_of ?d_text_behind ?d_check_edits ?d_parts_of ?d_mirrored_edit ?d_law ?z_str ?z_tuple ?z_enumerate ?z_len ?z_list ?z_int ?z_abs ?z_range ?z_min ?z_repr ?z_isinstance ?z_sorted ?z_zip ?z_ValueError ?g_LETTERS ?g_MAX_WORD ?g_MAX_PARTS ?g_MAX_EDITS ?tb
    (case e_InvalidOld => as_aux_lemma => (refine' ⟨_, _, _, Vk.exc_mk PySem.VkX.exB_value ?ns ?iC ?cls ?sa ?kC ?ga ?gg ?ex ?hd ?ha ?hn ?ht ?hm ?tI ?kI (Vk.no1 ?n1) ?l ?c⟩; (case ns => k_is); (case iC => k_is); (case cls => k_is); (case sa => k_is); (case kC => k_is); (case ga => k_is); (case gg => k_is); (case ex => k_is); (case hd => k_is); (case ha => k_is); (case hn => k_is); (case ht => k_is); (case hm => k_is); (case tI => k_is); (case kI => k_is); (case n1 => k_is); (case l => k_is); (case c => k_is)))
    (case e_InvalidNew => as_aux_lemma => (refine' ⟨_, _, _, Vk.exc_mk PySem.VkX.exB_value ?ns ?iC ?cls ?sa ?kC ?ga ?gg ?ex ?hd ?ha ?hn ?ht ?hm ?tI ?kI (Vk.no1 ?n1) ?l ?c⟩; (case ns => k_is); (case iC => k_is); (case cls => k_is); (case sa => k_is); (case kC => k_is); (case ga => k_is); (case gg => k_is); (case ex => k_is); (case hd => k_is); (case ha => k_is); (case hn => k_is); (case ht => k_is); (case hm => k_is); (case tI => k_is); (case kI => k_is); (case n1 => k_is); (case l => k_is); (case c => k_is)))
    (case e_InvalidText => as_aux_lemma => (refine' ⟨_, _, _, Vk.exc_mk PySem.VkX.exB_value ?ns ?iC ?cls ?sa ?kC ?ga ?gg ?ex ?hd ?ha ?hn ?ht ?hm ?tI ?kI (Vk.no1 ?n1) ?l ?c⟩; (case ns => k_is); (case iC => k_is); (case cls => k_is); (case sa => k_is); (case kC => k_is); (case ga => k_is); (case gg => k_is); (case ex => k_is); (case hd => k_is); (case ha => k_is); (case hn => k_is); (case ht => k_is); (case hm => k_is); (case tI => k_is); (case kI => k_is); (case n1 => k_is); (case l => k_is); (case c => k_is)))
    (case e_InvalidPart => as_aux_lemma => (refine' ⟨_, _, _, Vk.exc_mk PySem.VkX.exB_value ?ns ?iC ?cls ?sa ?kC ?ga ?gg ?ex ?hd ?ha ?hn ?ht ?hm ?tI ?kI (Vk.no1 ?n1) ?l ?c⟩; (case ns => k_is); (case iC => k_is); (case cls => k_is); (case sa => k_is); (case kC => k_is); (case ga => k_is); (case gg => k_is); (case ex => k_is); (case hd => k_is); (case ha => k_is); (case hn => k_is); (case ht => k_is); (case hm => k_is); (case tI => k_is); (case kI => k_is); (case n1 => k_is); (case l => k_is); (case c => k_is)))
    (case e_NoMirror => as_aux_lemma => (refine' ⟨_, _, _, Vk.exc_mk PySem.VkX.exB_value ?ns ?iC ?cls ?sa ?kC ?ga ?gg ?ex ?hd ?ha ?hn ?ht ?hm ?tI ?kI (Vk.no1 ?n1) ?l ?c⟩; (case ns => k_is); (case iC => k_is); (case cls => k_is); (case sa => k_is); (case kC => k_is); (case ga => k_is); (case gg => k_is); (case ex => k_is); (case hd => k_is); (case ha => k_is); (case hn => k_is); (case ht => k_is); (case hm => k_is); (case tI => k_is); (case kI => k_is); (case n1 => k_is); (case l => k_is); (case c => k_is)))
    (case e_NoPlace => as_aux_lemma => (refine' ⟨_, _, _, Vk.exc_mk PySem.VkX.exB_lookup ?ns ?iC ?cls ?sa ?kC ?ga ?gg ?ex ?hd ?ha ?hn ?ht ?hm ?tI ?kI (Vk.no2 ?n1 ?n2) ?l ?c⟩; (case ns => k_is); (case iC => k_is); (case cls => k_is); (case sa => k_is); (case kC => k_is); (case ga => k_is); (case gg => k_is); (case ex => k_is); (case hd => k_is); (case ha => k_is); (case hn => k_is); (case ht => k_is); (case hm => k_is); (case tI => k_is); (case kI => k_is); (case n1 => k_is); (case n2 => k_is); (case l => k_is); (case c => k_is)))
    (case e_Overlap => as_aux_lemma => (refine' ⟨_, _, _, Vk.exc_mk PySem.VkX.exB_lookup ?ns ?iC ?cls ?sa ?kC ?ga ?gg ?ex ?hd ?ha ?hn ?ht ?hm ?tI ?kI (Vk.no1 ?n1) ?l ?c⟩; (case ns => k_is); (case iC => k_is); (case cls => k_is); (case sa => k_is); (case kC => k_is); (case ga => k_is); (case gg => k_is); (case ex => k_is); (case hd => k_is); (case ha => k_is); (case hn => k_is); (case ht => k_is); (case hm => k_is); (case tI => k_is); (case kI => k_is); (case n1 => k_is); (case l => k_is); (case c => k_is)))
    (case e_TooMany => as_aux_lemma => (refine' ⟨_, _, _, Vk.exc_mk PySem.VkX.exB_overflow ?ns ?iC ?cls ?sa ?kC ?ga ?gg ?ex ?hd ?ha ?hn ?ht ?hm ?tI ?kI (Vk.no1 ?n1) ?l ?c⟩; (case ns => k_is); (case iC => k_is); (case cls => k_is); (case sa => k_is); (case kC => k_is); (case ga => k_is); (case gg => k_is); (case ex => k_is); (case hd => k_is); (case ha => k_is); (case hn => k_is); (case ht => k_is); (case hm => k_is); (case tI => k_is); (case kI => k_is); (case n1 => k_is); (case l => k_is); (case c => k_is)))
    (case e_Once => as_aux_lemma => (refine' ⟨_, _, _, _, _, _, _, _, _, _, _, ⟨⟨?ns, ?mks, ?it, ?fn, ?kp, ?pg, ?hd, ?po, ?sa, ?n1, ?n2, ?ca, ?cn, ?ct, ?cm⟩, ?eq, ?eqf, ?ne, ?no1, ?no2, ?no3, ?no4, Vk.prop_mk ?pa1 ?pg1 ?pt1 ?pr1, Vk.prop_mk ?pa2 ?pg2 ?pt2 ?pr2, L2.fun_mk ?lI ?cI ?kI, L2.fun_mk ?l1 ?c1 ?k1, L2.fun_mk ?l2 ?c2 ?k2, L2.fun_mk ?lE ?cE ?kE⟩⟩; (case ns => k_is); (case mks => k_is); (case it => k_is); (case fn => k_is); (case kp => k_is); (case pg => k_is); (case hd => k_is); (case po => k_is); (case sa => k_is); (case n1 => k_is); (case n2 => k_is); (case ca => k_is); (case cn => k_is); (case ct => k_is); (case cm => k_is); (case eq => k_is); (case eqf => k_is); (case ne => k_is); (case no1 => k_is); (case no2 => k_is); (case no3 => k_is); (case no4 => k_is); (case pa1 => k_is); (case pg1 => k_is); (case pt1 => k_is); (case pr1 => k_is); (case pa2 => k_is); (case pg2 => k_is); (case pt2 => k_is); (case pr2 => k_is); (case lI => k_is); (case cI => k_is); (case kI => k_is); (case l1 => k_is); (case c1 => k_is); (case k1 => k_is); (case l2 => k_is); (case c2 => k_is); (case k2 => k_is); (case lE => k_is); (case cE => k_is); (case kE => k_is)))
    (case e_First => as_aux_lemma => (refine' ⟨_, _, _, _, _, _, _, _, _, _, _, ⟨⟨?ns, ?mks, ?it, ?fn, ?kp, ?pg, ?hd, ?po, ?sa, ?n1, ?n2, ?ca, ?cn, ?ct, ?cm⟩, ?eq, ?eqf, ?ne, ?no1, ?no2, ?no3, ?no4, Vk.prop_mk ?pa1 ?pg1 ?pt1 ?pr1, Vk.prop_mk ?pa2 ?pg2 ?pt2 ?pr2, L2.fun_mk ?lI ?cI ?kI, L2.fun_mk ?l1 ?c1 ?k1, L2.fun_mk ?l2 ?c2 ?k2, L2.fun_mk ?lE ?cE ?kE⟩⟩; (case ns => k_is); (case mks => k_is); (case it => k_is); (case fn => k_is); (case kp => k_is); (case pg => k_is); (case hd => k_is); (case po => k_is); (case sa => k_is); (case n1 => k_is); (case n2 => k_is); (case ca => k_is); (case cn => k_is); (case ct => k_is); (case cm => k_is); (case eq => k_is); (case eqf => k_is); (case ne => k_is); (case no1 => k_is); (case no2 => k_is); (case no3 => k_is); (case no4 => k_is); (case pa1 => k_is); (case pg1 => k_is); (case pt1 => k_is); (case pr1 => k_is); (case pa2 => k_is); (case pg2 => k_is); (case pt2 => k_is); (case pr2 => k_is); (case lI => k_is); (case cI => k_is); (case kI => k_is); (case l1 => k_is); (case c1 => k_is); (case k1 => k_is); (case l2 => k_is); (case c2 => k_is); (case k2 => k_is); (case lE => k_is); (case cE => k_is); (case kE => k_is)))
    (case e_Perhaps => as_aux_lemma => (refine' ⟨_, _, _, _, _, _, _, _, _, _, _, ⟨⟨?ns, ?mks, ?it, ?fn, ?kp, ?pg, ?hd, ?po, ?sa, ?n1, ?n2, ?ca, ?cn, ?ct, ?cm⟩, ?eq, ?eqf, ?ne, ?no1, ?no2, ?no3, ?no4, Vk.prop_mk ?pa1 ?pg1 ?pt1 ?pr1, Vk.prop_mk ?pa2 ?pg2 ?pt2 ?pr2, L2.fun_mk ?lI ?cI ?kI, L2.fun_mk ?l1 ?c1 ?k1, L2.fun_mk ?l2 ?c2 ?k2, L2.fun_mk ?lE ?cE ?kE⟩⟩; (case ns => k_is); (case mks => k_is); (case it => k_is); (case fn => k_is); (case kp => k_is); (case pg => k_is); (case hd => k_is); (case po => k_is); (case sa => k_is); (case n1 => k_is); (case n2 => k_is); (case ca => k_is); (case cn => k_is); (case ct => k_is); (case cm => k_is); (case eq => k_is); (case eqf => k_is); (case ne => k_is); (case no1 => k_is); (case no2 => k_is); (case no3 => k_is); (case no4 => k_is); (case pa1 => k_is); (case pg1 => k_is); (case pt1 => k_is); (case pr1 => k_is); (case pa2 => k_is); (case pg2 => k_is); (case pt2 => k_is); (case pr2 => k_is); (case lI => k_is); (case cI => k_is); (case kI => k_is); (case l1 => k_is); (case c1 => k_is); (case k1 => k_is); (case l2 => k_is); (case c2 => k_is); (case k2 => k_is); (case lE => k_is); (case cE => k_is); (case kE => k_is)))
    (case e_Every => as_aux_lemma => (refine' ⟨_, _, _, _, _, _, _, _, _, _, _, ⟨⟨?ns, ?mks, ?it, ?fn, ?kp, ?pg, ?hd, ?po, ?sa, ?n1, ?n2, ?ca, ?cn, ?ct, ?cm⟩, ?eq, ?eqf, ?ne, ?no1, ?no2, ?no3, ?no4, Vk.prop_mk ?pa1 ?pg1 ?pt1 ?pr1, Vk.prop_mk ?pa2 ?pg2 ?pt2 ?pr2, L2.fun_mk ?lI ?cI ?kI, L2.fun_mk ?l1 ?c1 ?k1, L2.fun_mk ?l2 ?c2 ?k2, L2.fun_mk ?lE ?cE ?kE⟩⟩; (case ns => k_is); (case mks => k_is); (case it => k_is); (case fn => k_is); (case kp => k_is); (case pg => k_is); (case hd => k_is); (case po => k_is); (case sa => k_is); (case n1 => k_is); (case n2 => k_is); (case ca => k_is); (case cn => k_is); (case ct => k_is); (case cm => k_is); (case eq => k_is); (case eqf => k_is); (case ne => k_is); (case no1 => k_is); (case no2 => k_is); (case no3 => k_is); (case no4 => k_is); (case pa1 => k_is); (case pg1 => k_is); (case pt1 => k_is); (case pr1 => k_is); (case pa2 => k_is); (case pg2 => k_is); (case pt2 => k_is); (case pr2 => k_is); (case lI => k_is); (case cI => k_is); (case kI => k_is); (case l1 => k_is); (case c1 => k_is); (case k1 => k_is); (case l2 => k_is); (case c2 => k_is); (case k2 => k_is); (case lE => k_is); (case cE => k_is); (case kE => k_is)))
    (case e_AtOnce => as_aux_lemma => (refine' ⟨_, _, _, _, _, _, _, _, ⟨⟨?ns, ?mks, ?it, ?fn, ?kp, ?pg, ?hd, ?po, ?sa, ?n1, ?n2, ?ca, ?cn, ?ct, ?cm⟩, ?np, ?eq, ?eqf, ?ne, ?no1, ?no2, ?no3, ?no4, Vk.prop_mk ?pa ?pg1 ?pt ?pr, L2.fun_mk ?lI ?cI ?kI, L2.fun_mk ?lE ?cE ?kE, L2.fun_mk ?l1 ?c1 ?k1⟩⟩; (case ns => k_is); (case mks => k_is); (case it => k_is); (case fn => k_is); (case kp => k_is); (case pg => k_is); (case hd => k_is); (case po => k_is); (case sa => k_is); (case n1 => k_is); (case n2 => k_is); (case ca => k_is); (case cn => k_is); (case ct => k_is); (case cm => k_is); (case np => k_is); (case eq => k_is); (case eqf => k_is); (case ne => k_is); (case no1 => k_is); (case no2 => k_is); (case no3 => k_is); (case no4 => k_is); (case pa => k_is); (case pg1 => k_is); (case pt => k_is); (case pr => k_is); (case lI => k_is); (case cI => k_is); (case kI => k_is); (case lE => k_is); (case cE => k_is); (case kE => k_is); (case l1 => k_is); (case c1 => k_is); (case k1 => k_is)))
    (case e_Program => as_aux_lemma => (refine' ⟨_, _, _, _, _, _, _, _, _, _, _, _, ⟨?ns, ?mks, ?it, ?fn, ?kp, ?pg, ?hd, ?po, ?sa, ?n1, ?ca, ?cn, ?ct, ?cm, ?eq, ?eqf, ?ne, ?no1, ?no2, ?no3, ?no4, ?r1_run, ?r2_run, ?r3_run, ?r1_mirrored, ?r2_mirrored, ?r3_mirrored, Vk.prop_mk ?pa0 ?pg0 ?pt0 ?pr0, L2.fun_mk ?lI ?cI ?kI, L2.fun_mk ?lm0 ?cm0 ?km0, L2.fun_mk ?lm1 ?cm1 ?km1, L2.fun_mk ?lE ?cE ?kE, L2.fun_mk ?lq0 ?cq0 ?kq0⟩⟩; (case ns => k_is); (case mks => k_is); (case it => k_is); (case fn => k_is); (case kp => k_is); (case pg => k_is); (case hd => k_is); (case po => k_is); (case sa => k_is); (case n1 => k_is); (case ca => k_is); (case cn => k_is); (case ct => k_is); (case cm => k_is); (case eq => k_is); (case eqf => k_is); (case ne => k_is); (case no1 => k_is); (case no2 => k_is); (case no3 => k_is); (case no4 => k_is); (case r1_run => k_is); (case r2_run => k_is); (case r3_run => k_is); (case r1_mirrored => k_is); (case r2_mirrored => k_is); (case r3_mirrored => k_is); (case pa0 => k_is); (case pg0 => k_is); (case pt0 => k_is); (case pr0 => k_is); (case lI => k_is); (case cI => k_is); (case kI => k_is); (case lm0 => k_is); (case cm0 => k_is); (case km0 => k_is); (case lm1 => k_is); (case cm1 => k_is); (case km1 => k_is); (case lE => k_is); (case cE => k_is); (case kE => k_is); (case lq0 => k_is); (case cq0 => k_is); (case kq0 => k_is)))
    (case e_M => as_aux_lemma => (refine' ⟨_, _, _, _, _, _, _, ⟨?ns_Once, ?ic_Once, ?ty_Once, ?ns_First, ?ic_First, ?ty_First, ?ns_Perhaps, ?ic_Perhaps, ?ty_Perhaps, ?ns_Every, ?ic_Every, ?ty_Every, ?ns_Edit, ?ic_Edit, ?ty_Edit, ?ns_AtOnce, ?ic_AtOnce, ?ty_AtOnce, ?ns_Program, ?ic_Program, ?ty_Program, ?s_Once_Once, ?s_Once_First, ?s_Once_Perhaps, ?s_Once_Every, ?s_Once_AtOnce, ?s_First_Once, ?s_First_First, ?s_First_Perhaps, ?s_First_Every, ?s_First_AtOnce, ?s_Perhaps_Once, ?s_Perhaps_First, ?s_Perhaps_Perhaps, ?s_Perhaps_Every, ?s_Perhaps_AtOnce, ?s_Every_Once, ?s_Every_First, ?s_Every_Perhaps, ?s_Every_Every, ?s_Every_AtOnce, ?s_Once_Edit, ?s_First_Edit, ?s_Perhaps_Edit, ?s_Every_Edit, ?s_Edit_Edit, ?s_AtOnce_AtOnce, ?s_AtOnce_Edit, ?s_AtOnce_First, ?s_AtOnce_Every, ?s_Program_Program⟩⟩; (case ns_Once => k_is); (case ns_First => k_is); (case ns_Perhaps => k_is); (case ns_Every => k_is); (case ns_Edit => k_is); (case ns_AtOnce => k_is); (case ns_Program => k_is); (case ic_Once => k_is); (case ty_Once => k_is); (case ic_First => k_is); (case ty_First => k_is); (case ic_Perhaps => k_is); (case ty_Perhaps => k_is); (case ic_Every => k_is); (case ty_Every => k_is); (case ic_Edit => k_is); (case ty_Edit => k_is); (case ic_AtOnce => k_is); (case ty_AtOnce => k_is); (case ic_Program => k_is); (case ty_Program => k_is); (case s_Once_Once => k_is); (case s_Once_First => k_is); (case s_Once_Perhaps => k_is); (case s_Once_Every => k_is); (case s_Once_AtOnce => k_is); (case s_First_Once => k_is); (case s_First_First => k_is); (case s_First_Perhaps => k_is); (case s_First_Every => k_is); (case s_First_AtOnce => k_is); (case s_Perhaps_Once => k_is); (case s_Perhaps_First => k_is); (case s_Perhaps_Perhaps => k_is); (case s_Perhaps_Every => k_is); (case s_Perhaps_AtOnce => k_is); (case s_Every_Once => k_is); (case s_Every_First => k_is); (case s_Every_Perhaps => k_is); (case s_Every_Every => k_is); (case s_Every_AtOnce => k_is); (case s_Once_Edit => k_is); (case s_First_Edit => k_is); (case s_Perhaps_Edit => k_is); (case s_Every_Edit => k_is); (case s_Edit_Edit => k_is); (case s_AtOnce_AtOnce => k_is); (case s_AtOnce_Edit => k_is); (case s_AtOnce_First => k_is); (case s_AtOnce_Every => k_is); (case s_Program_Program => k_is)))
    (case d_lsigns => as_aux_lemma => (refine' ⟨_, _, Vk.at_mk ?a ?l ?c ?k⟩; (case a => k_is); (case l => k_is); (case c => k_is); (case k => k_is)))
    (case d_ldraw => as_aux_lemma => (refine' ⟨_, _, Vk.at_mk ?a ?l ?c ?k⟩; (case a => k_is); (case l => k_is); (case c => k_is); (case k => k_is)))
    (case d_lpen => as_aux_lemma => (refine' ⟨_, _, Vk.at_mk ?a ?l ?c ?k⟩; (case a => k_is); (case l => k_is); (case c => k_is); (case k => k_is)))
    (case d_lpick => as_aux_lemma => (refine' ⟨_, _, Vk.at_mk ?a ?l ?c ?k⟩; (case a => k_is); (case l => k_is); (case c => k_is); (case k => k_is)))
    (case d_lfew => as_aux_lemma => (refine' ⟨_, _, Vk.at_mk ?a ?l ?c ?k⟩; (case a => k_is); (case l => k_is); (case c => k_is); (case k => k_is)))
    (case d_lword => as_aux_lemma => (refine' ⟨_, _, Vk.at_mk ?a ?l ?c ?k⟩; (case a => k_is); (case l => k_is); (case c => k_is); (case k => k_is)))
    (case d_ledit => as_aux_lemma => (refine' ⟨_, _, Vk.at_mk ?a ?l ?c ?k⟩; (case a => k_is); (case l => k_is); (case c => k_is); (case k => k_is)))
    (case d_lmade => as_aux_lemma => (refine' ⟨_, _, Vk.at_mk ?a ?l ?c ?k⟩; (case a => k_is); (case l => k_is); (case c => k_is); (case k => k_is)))
    (case d_lprogram => as_aux_lemma => (refine' ⟨_, _, Vk.at_mk ?a ?l ?c ?k⟩; (case a => k_is); (case l => k_is); (case c => k_is); (case k => k_is)))
    (case d_lshuffled => as_aux_lemma => (refine' ⟨_, _, Vk.at_mk ?a ?l ?c ?k⟩; (case a => k_is); (case l => k_is); (case c => k_is); (case k => k_is)))
    (case d_ltexts => as_aux_lemma => (refine' ⟨_, _, Vk.at_mk ?a ?l ?c ?k⟩; (case a => k_is); (case l => k_is); (case c => k_is); (case k => k_is)))
    (case d_ltold => as_aux_lemma => (refine' ⟨_, _, Vk.at_mk ?a ?l ?c ?k⟩; (case a => k_is); (case l => k_is); (case c => k_is); (case k => k_is)))
    (case d_lrefused => as_aux_lemma => (refine' ⟨_, _, Vk.at_mk ?a ?l ?c ?k⟩; (case a => k_is); (case l => k_is); (case c => k_is); (case k => k_is)))
    (case d_lseeded => as_aux_lemma => (refine' ⟨_, _, Vk.at_mk ?a ?l ?c ?k⟩; (case a => k_is); (case l => k_is); (case c => k_is); (case k => k_is)))
    (case d_is_text => as_aux_lemma => (refine' ⟨_, _, Vk.at_mk ?a ?l ?c ?k⟩; (case a => k_is); (case l => k_is); (case c => k_is); (case k => k_is)))
    (case d_is_new => as_aux_lemma => (refine' ⟨_, _, Vk.at_mk ?a ?l ?c ?k⟩; (case a => k_is); (case l => k_is); (case c => k_is); (case k => k_is)))
    (case d_is_old => as_aux_lemma => (refine' ⟨_, _, Vk.at_mk ?a ?l ?c ?k⟩; (case a => k_is); (case l => k_is); (case c => k_is); (case k => k_is)))
    (case d_is_part => as_aux_lemma => (refine' ⟨_, _, Vk.at_mk ?a ?l ?c ?k⟩; (case a => k_is); (case l => k_is); (case c => k_is); (case k => k_is)))
    (case d_check_words => as_aux_lemma => (refine' ⟨_, _, Vk.at_mk ?a ?l ?c ?k⟩; (case a => k_is); (case l => k_is); (case c => k_is); (case k => k_is)))
    (case d_check_parts => as_aux_lemma => (refine' ⟨_, _, Vk.at_mk ?a ?l ?c ?k⟩; (case a => k_is); (case l => k_is); (case c => k_is); (case k => k_is)))
    (case d_places => as_aux_lemma => (refine' ⟨_, _, Vk.at_mk ?a ?l ?c ?k⟩; (case a => k_is); (case l => k_is); (case c => k_is); (case k => k_is)))
    (case d_fits => as_aux_lemma => (refine' ⟨_, _, Vk.at_mk ?a ?l ?c ?k⟩; (case a => k_is); (case l => k_is); (case c => k_is); (case k => k_is)))
    (case d_apart => as_aux_lemma => (refine' ⟨_, _, Vk.at_mk ?a ?l ?c ?k⟩; (case a => k_is); (case l => k_is); (case c => k_is); (case k => k_is)))
    (case d_puts_of_one => as_aux_lemma => (refine' ⟨_, _, Vk.at_mk ?a ?l ?c ?k⟩; (case a => k_is); (case l => k_is); (case c => k_is); (case k => k_is)))
    (case d_checked_puts => as_aux_lemma => (refine' ⟨_, _, Vk.at_mk ?a ?l ?c ?k⟩; (case a => k_is); (case l => k_is); (case c => k_is); (case k => k_is)))
    (case d_puts_of_parts => as_aux_lemma => (refine' ⟨_, _, Vk.at_mk ?a ?l ?c ?k⟩; (case a => k_is); (case l => k_is); (case c => k_is); (case k => k_is)))
    (case d_puts_of => as_aux_lemma => (refine' ⟨_, _, Vk.at_mk ?a ?l ?c ?k⟩; (case a => k_is); (case l => k_is); (case c => k_is); (case k => k_is)))
    (case d_text_behind => as_aux_lemma => (refine' ⟨_, _, Vk.at_mk ?a ?l ?c ?k⟩; (case a => k_is); (case l => k_is); (case c => k_is); (case k => k_is)))
    (case d_check_edits => as_aux_lemma => (refine' ⟨_, _, Vk.at_mk ?a ?l ?c ?k⟩; (case a => k_is); (case l => k_is); (case c => k_is); (case k => k_is)))
    (case d_parts_of => as_aux_lemma => (refine' ⟨_, _, Vk.at_mk ?a ?l ?c ?k⟩; (case a => k_is); (case l => k_is); (case c => k_is); (case k => k_is)))
    (case d_mirrored_edit => as_aux_lemma => (refine' ⟨_, _, Vk.at_mk ?a ?l ?c ?k⟩; (case a => k_is); (case l => k_is); (case c => k_is); (case k => k_is)))
    (case d_law => as_aux_lemma => (refine' ⟨_, _, _, _, ?a, Vk.makC_mk ?l ?c ?k, Vk.tab_mk ?a2 ?l2 ?zq ?t⟩; (case a => k_is); (case l => k_is); (case c => k_is); (case k => k_is); (case a2 => k_is); (case l2 => k_is); (case zq => exact rfl); (case t => k_is)))
    (case z_str => as_aux_lemma => k_is)
    (case z_tuple => as_aux_lemma => k_is)
    (case z_enumerate => as_aux_lemma => k_is)
    (case z_len => as_aux_lemma => k_is)
    (case z_list => as_aux_lemma => k_is)
    (case z_int => as_aux_lemma => k_is)
    (case z_abs => as_aux_lemma => k_is)
    (case z_range => as_aux_lemma => k_is)
    (case z_min => as_aux_lemma => k_is)
    (case z_repr => as_aux_lemma => k_is)
    (case z_isinstance => as_aux_lemma => k_is)
    (case z_sorted => as_aux_lemma => k_is)
    (case z_zip => as_aux_lemma => k_is)
    (case z_ValueError => as_aux_lemma => k_is)
    (case g_LETTERS => as_aux_lemma => exact Vk.const_s Gr.T (by first | kernel_rfl | decide +kernel))
    (case g_MAX_WORD => as_aux_lemma => exact Vk.const_i Gr.T (by first | kernel_rfl | decide +kernel))
    (case g_MAX_PARTS => as_aux_lemma => exact Vk.const_i Gr.T (by first | kernel_rfl | decide +kernel))
    (case g_MAX_EDITS => as_aux_lemma => exact Vk.const_i Gr.T (by first | kernel_rfl | decide +kernel))
    (case tb => as_aux_lemma => (intro c tP ht; refine' Vk.tab_at Gr.T KX ?i ht ?n; (case i => first | kernel_rfl | decide +kernel); (case n => first | kernel_rfl | k_is)))
#print axioms PySem.Challenge.cw_anchoredits_k09_whole_mirrored_programs_holds
