import PyProof.Rows.All
import Wide.All
import OpenK.AllK
import Wide.FinOn
import Lean
import PyProof.EqAt
import PyProof.EqKinds
import PyProof.TupleCall
import PyProof.Rows.SetFrom
import PyProof.Rows.SortWalkRead
import PyProof.Rows.EqDataRows
import PyProof.CompFree
import PyProof.ZipIter
import PyProof.Rows.ZipGen
import PyProof.GenCompD
import PyProof.CodeObjX
import KE.KNest
import PyProof.DictWalks
import PyProof.AutoListH
import PyProof.WalksMore
import PyProof.Draws
import PyProof.EnumFor
import PyProof.EnumMake
import PyProof.EnumStmt
import PyProof.Rows.EnumRows
import KE.KSuper
import PyProof.WalkInts
import KE.KTryMore
import PyProof.ExcClass2
import PyProof.ExcInit
import PyProof.InstStore
import PyProof.ExcBaseAll.ValueError
import PyProof.InstStoreFacts
import KE.KSortTup
import PyProof.Rows.SortShellK
import PyProof.DictCompW
import KE.KRevSl
import PySem.Challenge.RW_slimbody_k31_whole_up_goes_with_borders
set_option Elab.async false
set_option linter.all false
set_option tactic.hygienic false
set_option compiler.extract_closed false
set_option hygiene false
set_option genSizeOf false
set_option genInjectivity false
set_option maxRecDepth 100000
local macro_rules|`(#[$a,*])=>`(⟨$a,*⟩)
local macro_rules|`(#v[$a,*])=>`(List.toArray [$a,*])
local macro_rules|`(↑$a)=>`(some $a)
local macro_rules|`(⇑$a)=>`(($a).heap.objs.size)
set_option maxHeartbeats 4000000
noncomputable section
local macro_rules | `(tactic| walk_at "sc") => `(tactic| exact #[rfl, rfl, rfl, by decide +kernel, rfl, by decide +kernel, by decide +kernel])
local macro_rules | `(tactic| walk_at "ss") => `(tactic| exact #[rfl, rfl, rfl, by decide +kernel, rfl, by decide +kernel, by decide +kernel, by decide +kernel, rfl, rfl])
local macro_rules | `(tactic| walk_at "wl") => `(tactic| dsimp only [At.get, At.hole, Pt.put, Ent.ent, Pj.pj, Fg.fg, Sel.sel, Sel.rest, Sel.mrg, Pre.pre, Pre.suf, at0, atS, pt0, ptS, ent0, entS, entC, pjNil, pjUn, pjCons, fgId, fgUn, fgCons, selNil, selCons, pre0, preS, stepC, id, ID.get, ID.set, wSq])
def e0a2 {p0:Prop}{p1:Prop}{G:Prop}(h:p0/\p1)(k:p0->p1->G):G:=by obtain ⟨h0,h1⟩:=h;exact k h0 h1
def e0a3 {p0:Prop}{p1:Prop}{p2:Prop}{G:Prop}(h:p0/\p1/\p2)(k:p0->p1->p2->G):G:=by obtain ⟨h0,h1,h2⟩:=h;exact k h0 h1 h2
def e0a4 {p0:Prop}{p1:Prop}{p2:Prop}{p3:Prop}{G:Prop}(h:p0/\p1/\p2/\p3)(k:p0->p1->p2->p3->G):G:=by obtain ⟨h0,h1,h2,h3⟩:=h;exact k h0 h1 h2 h3
def e0a6 {p0:Prop}{p1:Prop}{p2:Prop}{p3:Prop}{p4:Prop}{p5:Prop}{G:Prop}(h:p0/\p1/\p2/\p3/\p4/\p5)(k:p0->p1->p2->p3->p4->p5->G):G:=by obtain ⟨h0,h1,h2,h3,h4,h5⟩:=h;exact k h0 h1 h2 h3 h4 h5
def e1a1 {uU:Sort _}{p0:uU->Prop}{G:Prop}(h:∃ x0:uU,p0 x0)(k:∀ x0:uU,p0 x0->G):G:=by obtain ⟨x0,h0⟩:=h;exact k x0 h0
def e1a2 {uU:Sort _}{p0:uU->Prop}{p1:uU->Prop}{G:Prop}(h:∃ x0:uU,p0 x0/\p1 x0)(k:∀ x0:uU,p0 x0->p1 x0->G):G:=by obtain ⟨x0,h0,h1⟩:=h;exact k x0 h0 h1
def e1a3 {uU:Sort _}{p0:uU->Prop}{p1:uU->Prop}{p2:uU->Prop}{G:Prop}(h:∃ x0:uU,p0 x0/\p1 x0/\p2 x0)(k:∀ x0:uU,p0 x0->p1 x0->p2 x0->G):G:=by obtain ⟨x0,h0,h1,h2⟩:=h;exact k x0 h0 h1 h2
def e1a4 {uU:Sort _}{p0:uU->Prop}{p1:uU->Prop}{p2:uU->Prop}{p3:uU->Prop}{G:Prop}(h:∃ x0:uU,p0 x0/\p1 x0/\p2 x0/\p3 x0)(k:∀ x0:uU,p0 x0->p1 x0->p2 x0->p3 x0->G):G:=by obtain ⟨x0,h0,h1,h2,h3⟩:=h;exact k x0 h0 h1 h2 h3
def e2a2 {uU:Sort _}{vv:Sort _}{p0:uU->vv->Prop}{p1:uU->vv->Prop}{G:Prop}(h:∃ x0:uU,∃ x1:vv,p0 x0 x1/\p1 x0 x1)(k:∀ x0:uU,∀ x1:vv,p0 x0 x1->p1 x0 x1->G):G:=by obtain ⟨x0,x1,h0,h1⟩:=h;exact k x0 x1 h0 h1
def e2a3 {uU:Sort _}{vv:Sort _}{p0:uU->vv->Prop}{p1:uU->vv->Prop}{p2:uU->vv->Prop}{G:Prop}(h:∃ x0:uU,∃ x1:vv,p0 x0 x1/\p1 x0 x1/\p2 x0 x1)(k:∀ x0:uU,∀ x1:vv,p0 x0 x1->p1 x0 x1->p2 x0 x1->G):G:=by obtain ⟨x0,x1,h0,h1,h2⟩:=h;exact k x0 x1 h0 h1 h2
def e2a4 {uU:Sort _}{vv:Sort _}{p0:uU->vv->Prop}{p1:uU->vv->Prop}{p2:uU->vv->Prop}{p3:uU->vv->Prop}{G:Prop}(h:∃ x0:uU,∃ x1:vv,p0 x0 x1/\p1 x0 x1/\p2 x0 x1/\p3 x0 x1)(k:∀ x0:uU,∀ x1:vv,p0 x0 x1->p1 x0 x1->p2 x0 x1->p3 x0 x1->G):G:=by obtain ⟨x0,x1,h0,h1,h2,h3⟩:=h;exact k x0 x1 h0 h1 h2 h3
def e2a5 {uU:Sort _}{vv:Sort _}{p0:uU->vv->Prop}{p1:uU->vv->Prop}{p2:uU->vv->Prop}{p3:uU->vv->Prop}{p4:uU->vv->Prop}{G:Prop}(h:∃ x0:uU,∃ x1:vv,p0 x0 x1/\p1 x0 x1/\p2 x0 x1/\p3 x0 x1/\p4 x0 x1)(k:∀ x0:uU,∀ x1:vv,p0 x0 x1->p1 x0 x1->p2 x0 x1->p3 x0 x1->p4 x0 x1->G):G:=by obtain ⟨x0,x1,h0,h1,h2,h3,h4⟩:=h;exact k x0 x1 h0 h1 h2 h3 h4
def e3a2 {uU:Sort _}{vv:Sort _}{wd:Sort _}{p0:uU->vv->wd->Prop}{p1:uU->vv->wd->Prop}{G:Prop}(h:∃ x0:uU,∃ x1:vv,∃ x2:wd,p0 x0 x1 x2/\p1 x0 x1 x2)(k:∀ x0:uU,∀ x1:vv,∀ x2:wd,p0 x0 x1 x2->p1 x0 x1 x2->G):G:=by obtain ⟨x0,x1,x2,h0,h1⟩:=h;exact k x0 x1 x2 h0 h1
def e3a3 {uU:Sort _}{vv:Sort _}{wd:Sort _}{p0:uU->vv->wd->Prop}{p1:uU->vv->wd->Prop}{p2:uU->vv->wd->Prop}{G:Prop}(h:∃ x0:uU,∃ x1:vv,∃ x2:wd,p0 x0 x1 x2/\p1 x0 x1 x2/\p2 x0 x1 x2)(k:∀ x0:uU,∀ x1:vv,∀ x2:wd,p0 x0 x1 x2->p1 x0 x1 x2->p2 x0 x1 x2->G):G:=by obtain ⟨x0,x1,x2,h0,h1,h2⟩:=h;exact k x0 x1 x2 h0 h1 h2
def e3a4 {uU:Sort _}{vv:Sort _}{wd:Sort _}{p0:uU->vv->wd->Prop}{p1:uU->vv->wd->Prop}{p2:uU->vv->wd->Prop}{p3:uU->vv->wd->Prop}{G:Prop}(h:∃ x0:uU,∃ x1:vv,∃ x2:wd,p0 x0 x1 x2/\p1 x0 x1 x2/\p2 x0 x1 x2/\p3 x0 x1 x2)(k:∀ x0:uU,∀ x1:vv,∀ x2:wd,p0 x0 x1 x2->p1 x0 x1 x2->p2 x0 x1 x2->p3 x0 x1 x2->G):G:=by obtain ⟨x0,x1,x2,h0,h1,h2,h3⟩:=h;exact k x0 x1 x2 h0 h1 h2 h3
def e3a5 {uU:Sort _}{vv:Sort _}{wd:Sort _}{p0:uU->vv->wd->Prop}{p1:uU->vv->wd->Prop}{p2:uU->vv->wd->Prop}{p3:uU->vv->wd->Prop}{p4:uU->vv->wd->Prop}{G:Prop}(h:∃ x0:uU,∃ x1:vv,∃ x2:wd,p0 x0 x1 x2/\p1 x0 x1 x2/\p2 x0 x1 x2/\p3 x0 x1 x2/\p4 x0 x1 x2)(k:∀ x0:uU,∀ x1:vv,∀ x2:wd,p0 x0 x1 x2->p1 x0 x1 x2->p2 x0 x1 x2->p3 x0 x1 x2->p4 x0 x1 x2->G):G:=by obtain ⟨x0,x1,x2,h0,h1,h2,h3,h4⟩:=h;exact k x0 x1 x2 h0 h1 h2 h3 h4
def e4a4 {uU:Sort _}{vv:Sort _}{wd:Sort _}{xH:Sort _}{p0:uU->vv->wd->xH->Prop}{p1:uU->vv->wd->xH->Prop}{p2:uU->vv->wd->xH->Prop}{p3:uU->vv->wd->xH->Prop}{G:Prop}(h:∃ x0:uU,∃ x1:vv,∃ x2:wd,∃ x3:xH,p0 x0 x1 x2 x3/\p1 x0 x1 x2 x3/\p2 x0 x1 x2 x3/\p3 x0 x1 x2 x3)(k:∀ x0:uU,∀ x1:vv,∀ x2:wd,∀ x3:xH,p0 x0 x1 x2 x3->p1 x0 x1 x2 x3->p2 x0 x1 x2 x3->p3 x0 x1 x2 x3->G):G:=by obtain ⟨x0,x1,x2,x3,h0,h1,h2,h3⟩:=h;exact k x0 x1 x2 x3 h0 h1 h2 h3
def e4a6 {uU:Sort _}{vv:Sort _}{wd:Sort _}{xH:Sort _}{p0:uU->vv->wd->xH->Prop}{p1:uU->vv->wd->xH->Prop}{p2:uU->vv->wd->xH->Prop}{p3:uU->vv->wd->xH->Prop}{p4:uU->vv->wd->xH->Prop}{p5:uU->vv->wd->xH->Prop}{G:Prop}(h:∃ x0:uU,∃ x1:vv,∃ x2:wd,∃ x3:xH,p0 x0 x1 x2 x3/\p1 x0 x1 x2 x3/\p2 x0 x1 x2 x3/\p3 x0 x1 x2 x3/\p4 x0 x1 x2 x3/\p5 x0 x1 x2 x3)(k:∀ x0:uU,∀ x1:vv,∀ x2:wd,∀ x3:xH,p0 x0 x1 x2 x3->p1 x0 x1 x2 x3->p2 x0 x1 x2 x3->p3 x0 x1 x2 x3->p4 x0 x1 x2 x3->p5 x0 x1 x2 x3->G):G:=by obtain ⟨x0,x1,x2,x3,h0,h1,h2,h3,h4,h5⟩:=h;exact k x0 x1 x2 x3 h0 h1 h2 h3 h4 h5
def e5a3 {uU:Sort _}{vv:Sort _}{wd:Sort _}{xH:Sort _}{Aq:Sort _}{p0:uU->vv->wd->xH->Aq->Prop}{p1:uU->vv->wd->xH->Aq->Prop}{p2:uU->vv->wd->xH->Aq->Prop}{G:Prop}(h:∃ x0:uU,∃ x1:vv,∃ x2:wd,∃ x3:xH,∃ x4:Aq,p0 x0 x1 x2 x3 x4/\p1 x0 x1 x2 x3 x4/\p2 x0 x1 x2 x3 x4)(k:∀ x0:uU,∀ x1:vv,∀ x2:wd,∀ x3:xH,∀ x4:Aq,p0 x0 x1 x2 x3 x4->p1 x0 x1 x2 x3 x4->p2 x0 x1 x2 x3 x4->G):G:=by obtain ⟨x0,x1,x2,x3,x4,h0,h1,h2⟩:=h;exact k x0 x1 x2 x3 x4 h0 h1 h2
def e5a4 {uU:Sort _}{vv:Sort _}{wd:Sort _}{xH:Sort _}{Aq:Sort _}{p0:uU->vv->wd->xH->Aq->Prop}{p1:uU->vv->wd->xH->Aq->Prop}{p2:uU->vv->wd->xH->Aq->Prop}{p3:uU->vv->wd->xH->Aq->Prop}{G:Prop}(h:∃ x0:uU,∃ x1:vv,∃ x2:wd,∃ x3:xH,∃ x4:Aq,p0 x0 x1 x2 x3 x4/\p1 x0 x1 x2 x3 x4/\p2 x0 x1 x2 x3 x4/\p3 x0 x1 x2 x3 x4)(k:∀ x0:uU,∀ x1:vv,∀ x2:wd,∀ x3:xH,∀ x4:Aq,p0 x0 x1 x2 x3 x4->p1 x0 x1 x2 x3 x4->p2 x0 x1 x2 x3 x4->p3 x0 x1 x2 x3 x4->G):G:=by obtain ⟨x0,x1,x2,x3,x4,h0,h1,h2,h3⟩:=h;exact k x0 x1 x2 x3 x4 h0 h1 h2 h3
def e5a6 {uU:Sort _}{vv:Sort _}{wd:Sort _}{xH:Sort _}{Aq:Sort _}{p0:uU->vv->wd->xH->Aq->Prop}{p1:uU->vv->wd->xH->Aq->Prop}{p2:uU->vv->wd->xH->Aq->Prop}{p3:uU->vv->wd->xH->Aq->Prop}{p4:uU->vv->wd->xH->Aq->Prop}{p5:uU->vv->wd->xH->Aq->Prop}{G:Prop}(h:∃ x0:uU,∃ x1:vv,∃ x2:wd,∃ x3:xH,∃ x4:Aq,p0 x0 x1 x2 x3 x4/\p1 x0 x1 x2 x3 x4/\p2 x0 x1 x2 x3 x4/\p3 x0 x1 x2 x3 x4/\p4 x0 x1 x2 x3 x4/\p5 x0 x1 x2 x3 x4)(k:∀ x0:uU,∀ x1:vv,∀ x2:wd,∀ x3:xH,∀ x4:Aq,p0 x0 x1 x2 x3 x4->p1 x0 x1 x2 x3 x4->p2 x0 x1 x2 x3 x4->p3 x0 x1 x2 x3 x4->p4 x0 x1 x2 x3 x4->p5 x0 x1 x2 x3 x4->G):G:=by obtain ⟨x0,x1,x2,x3,x4,h0,h1,h2,h3,h4,h5⟩:=h;exact k x0 x1 x2 x3 x4 h0 h1 h2 h3 h4 h5
def e6a2 {uU:Sort _}{vv:Sort _}{wd:Sort _}{xH:Sort _}{Aq:Sort _}{RL:Sort _}{p0:uU->vv->wd->xH->Aq->RL->Prop}{p1:uU->vv->wd->xH->Aq->RL->Prop}{G:Prop}(h:∃ x0:uU,∃ x1:vv,∃ x2:wd,∃ x3:xH,∃ x4:Aq,∃ x5:RL,p0 x0 x1 x2 x3 x4 x5/\p1 x0 x1 x2 x3 x4 x5)(k:∀ x0:uU,∀ x1:vv,∀ x2:wd,∀ x3:xH,∀ x4:Aq,∀ x5:RL,p0 x0 x1 x2 x3 x4 x5->p1 x0 x1 x2 x3 x4 x5->G):G:=by obtain ⟨x0,x1,x2,x3,x4,x5,h0,h1⟩:=h;exact k x0 x1 x2 x3 x4 x5 h0 h1
def e7a2 {uU:Sort _}{vv:Sort _}{wd:Sort _}{xH:Sort _}{Aq:Sort _}{RL:Sort _}{ZH:Sort _}{p0:uU->vv->wd->xH->Aq->RL->ZH->Prop}{p1:uU->vv->wd->xH->Aq->RL->ZH->Prop}{G:Prop}(h:∃ x0:uU,∃ x1:vv,∃ x2:wd,∃ x3:xH,∃ x4:Aq,∃ x5:RL,∃ x6:ZH,p0 x0 x1 x2 x3 x4 x5 x6/\p1 x0 x1 x2 x3 x4 x5 x6)(k:∀ x0:uU,∀ x1:vv,∀ x2:wd,∀ x3:xH,∀ x4:Aq,∀ x5:RL,∀ x6:ZH,p0 x0 x1 x2 x3 x4 x5 x6->p1 x0 x1 x2 x3 x4 x5 x6->G):G:=by obtain ⟨x0,x1,x2,x3,x4,x5,x6,h0,h1⟩:=h;exact k x0 x1 x2 x3 x4 x5 x6 h0 h1
def us0 {α:Type}{P:List α->Prop}(h:P [])(us:List α)(e:us.length=0):P us:=by
 cases us with
 |nil=>exact h
 |cons=>cases e
def us1 {α:Type}{P:List α->Prop}(h:∀ a,P [a])(us:List α)(e:us.length=1):P us:=by
 cases us with
 |nil=>cases e
 |cons a t=>exact us0 (P:=fun t=>P (a :: t)) (h a) t (Nat.succ.inj e)
def us2 {α:Type}{P:List α->Prop}(h:∀ a b,P [a,b])(us:List α)(e:us.length=2):P us:=by
 cases us with
 |nil=>cases e
 |cons a t=>exact us1 (P:=fun t=>P (a :: t)) (h a) t (Nat.succ.inj e)
def us3 {α:Type}{P:List α->Prop}(h:∀ a b c,P [a,b,c])(us:List α)(e:us.length=3):P us:=by
 cases us with
 |nil=>cases e
 |cons a t=>exact us2 (P:=fun t=>P (a :: t)) (h a) t (Nat.succ.inj e)
def us4 {α:Type}{P:List α->Prop}(h:∀ a b c d,P [a,b,c,d])(us:List α)(e:us.length=4):P us:=by
 cases us with
 |nil=>cases e
 |cons a t=>exact us3 (P:=fun t=>P (a :: t)) (h a) t (Nat.succ.inj e)
def cutG {α:Sort _}{G:α->Prop}{P:Prop}(k:(∀ a,G a)->P)(h:∀ a,G a):P:=k h
def cutP {G P:Prop}(k:G->P)(h:G):P:=k h
def lx0 {α:Type}(us:List α)(e:us.length=0):us=[]:=us0 (P:=fun us=>us=[]) rfl us e
def lx1 {α:Type}(us:List α)(e:us.length=1):∃ a,us=[a]:=us1 (P:=fun us=>∃ a,us=[a]) (fun a=>#[a,rfl]) us e
def lx2 {α:Type}(us:List α)(e:us.length=2):∃ a b,us=[a,b]:=us2 (P:=fun us=>∃ a b,us=[a,b]) (fun a b=>#[a,b,rfl]) us e
open PySem renaming wpAny_bind->am,wpAny_pure->ap,Value->ci,Addr->cr,starEach->gf,sizeLine->gk,Shared->gn,wpAny->gu,model->gv,mainGlobals->gC,Stmt->gR,Program->gV,wpAny_holding->gY,attributeBase->g9,FuncData->hO,wpAny_newObj_type->hR,Expr->hW,Heap->hX,World->ii,wpAny_call_entry->ij,wpAny_mono->iw,behindInMarks->iA,sizeLine_eq->iB,wpAny_field->iC,wpAny_setState_of->iE,backTo->iN,Around->iW,compareOp->iX,excClassObj->i9,wpAny_askSetting->jb,SetTable->jd,wpAny_loadPart_at->jf,codeAny_builtin->ji,wpAny_setField_rec->jl,codeAny_mono->jp,swapsWith->js,mem_of_lookup->jz,wpAny_truthy_bool->jC,foldedSetIterable->jD,intKind->jI,ExcBaseFacts->jK,wpAny_Call_Name_kw->jQ,cLine->jS,wpAny_loadName_local->jX,holding->jY,keywordEach->jZ,wpAny_typeOf->j0,sysModules->j7,plainId_quiet->j9,wpAny_seqItems->ki,unsupported->kA,tupleKind_room_in1->kC,wpAny_passesOwn->kJ,rawInt->kO,builtinLookup_eq_fast->kQ,Scope->k9,wpAny_rule->lh,wpAny_isInstance->lv,binaryOp->lH,codeAny->lM,codeAny_of_tree->lO,wpAny_call->lS,getMethod->lV,wpAny_of_eq->lW,bootBuiltins->l9,standAt->md,backToKw->mf,wpAny_setField->mj,typeLookup->mB,hashInt->mD,wpAny_standAt->mG,callWith->mH,sliceBounds->mI,codeAny_call_builtin->mM,boot_len->mO,wpAny_execs_nil->mX,typeLookup_type->mZ,getItem->nc,call_meetsIn->nj,builtinsNs->nE,closureFor->nK,relabel->oa,wpAny_attempt->oq,wpAny_comprehension_free->ot,wpAny_onRaise->ou,tupleKind->oz,GenState->oB,wpAny_Name->oT,assignEach->oU,Keyword->oW,intKind_is->oZ,sub_set_self->o4,wpAny_specialOf->o6,wpAny_updateSeq->o9,IsPart->pC,firstArgMember->pF,IsPair->pI,wpAny_updateSeq_pair->pJ,valueAt->pM,wpAny_loadName_free->pQ,wpAny_setEntries_of->pV,Obj->pX,wpAny_isSubtype_exc->pZ,isTrue->qc,wpAny_load->qd,wpAny_pyIter_tuple->qe,CmpOp->qx,wpAny_Call_method->qy,callerA->qz,cStatics->qD,ks_wpAt_mono->qE,plainObj_wpAny_Assign_Attribute->qI,wpAny_eqBool_int->qN,PassesOwn->qO,argsOk->qQ,subscripted->qY,IsZip->rj,wpAny_letGo->rn,Within->ro,wpAny_AugAssign_SubscriptAny->rs,letOwnedTupleGo->rA,wpAny_tests_nil->rD,setItem->rH,BindsTo->rK,OwnTail->rP,wpAny_Compare1->rR,assign->rS,recursionLimit->rV,bindArgs->rW,atKey->r8,relayAll->se,storeSet->sf,entryFor->sg,entryFor_alias->sh,wpAny_runValue->si,isSubtype_type->sj,compEnvC->sr,refuseLoop->sw,evalPart_none->sL,wpAny_getItem_list_slice->sM,call->sN,wpAny_newList->sP,wpAt->sR,table->sY,pickOrder->sZ,TriplesOk->tm,noteFrame->tq,field->ts,spliced->tH,truthy->tJ,leaving->tK,seqIndex_neg->tM,wpAny_Call_method_late->tO,wpAny_isTrue_Compare1->tW,weight_type_call_type->t6
open PySem.Heap renaming get?_push_of_some->ce,lt_size->gp,get?_push_size->gx,get?_update_other->gZ,get?_update_self->ie,SameBut->im,size_push->i4,FlyingW->kS,get?_none_of_le->mn,get?_push_at->nw,size_update->nO,get?_update_ne->pc,IsTuple->pO,MadeExcOf->qM
open PySem.W renaming Frag->f9,nsIn->gE,findIn->gQ,mg_of->ic,envX->ik,keepIn->iI,excIn->iL,codeIn->iR,fnOf->i7,kia_one->jc,Looks->jj,emptyDict->jk,ks_superIn->jq,instObj->jM,fnX->jO,mroIn->kf,exmAny->kF,hideAll->kY,methodObj->lA,fnIn->lG,plainGet->lR,clsIn->lX,kas_rev_size->ml,of_hideAll->mz,hasDictIn->mQ,tabIn->m4,isFn->nI,methodCall_KW->nS,lookIn->oh,typeIn->oi,looks_findIn->oj,hideAll_get->oA,plainGet_of->oC,looks_clsIn->oE,callWith_of->oM,looks_mroIn->oN,ks_superObj->oO,callWith_K->oV,isNs_of_in->o5,plainOver->ph,takerIn->pR,makesIn->pS,OpenLaw->pW,kitOne->qf,CodeHd->qj,tabObj->qk,ks_loadName_global->qm,MethP->qF,kas_rev->qG,cellsFrom_some->qP,funFrames_hide->qR,hideAll_none->rq,looks_opaque->rG,callWith_K0->rL,codeRec_of->rY,tail_of_in->su,mg_none_of->sv,kitx_list->sC,kitx_dict->sD,handedIn->sK,kat_cons->sS,keeps_M->tz,alongIn->tD,kas_place->tF,kat_yes->tG,kat_go->tT,kat_no->tU,nsOkIn->tV,WalkO->t7
open Nat renaming le_refl->gg,ne_of_lt->gB,lt_of_lt_of_le->gG,le_trans->gW,zero_le->iu,ne_of_gt->iK,lt_succ_self->iV,lt_of_le_of_lt->i8,lt_irrefl->jm,le_of_lt_succ->jx,le_succ->kP,le_of_lt->kT,lt_trans->mJ,succ_pos->mK,mod_lt->mY,lt_succ_of_lt->nA,le_add_right->nV,le_of_eq->pT,sub_self->pY,le_of_not_lt->qg,zero_add->sd,div_lt_of_lt_mul->sO,lt_trichotomy->tY
open List renaming mem_cons_self->gh,mem_cons_of_mem->gl,length_map->gm,size_toArray->gy,length_append->gz,mem_append_right->gI,length_singleton->gJ,length_cons->gK,range->gL,map_cons->gN,mem_cons->gO,length_filter_le->gS,lookup_cons->g8,find?_cons->ig,mem_append_left->iq,not_mem_nil->iv,mem_filter->iz,getD_eq_getElem?_getD->iO,take_of_length_le->iQ,filter_cons->iT,getElem?_eq_getElem->iU,getElem?_map->ja,mem_of_getElem?->jg,pairwise_singleton->jh,getElem?_append_right->jo,map_append->jy,lookup->jF,getElem?_eq_none->jL,append_nil->jP,map_map->jR,filterMap_cons->jW,replicate->j4,mem_append->ko,length_range->kD,append_assoc->kE,getElem?_of_mem->kK,length_take->kR,getElem?_append_left->kU,length_set->lq,foldl_cons->lu,mem_singleton->lx,nodup_nil->lN,filter_congr->lP,perm_append_comm->lY,length_drop->l6,getElem?_set_ne->mo,take_append_of_le_length->mq,length_nil->mu,nil_append->mw,map_congr_left->mC,drop_eq_getElem_cons->m7,length->ng,reverse_cons->ni,any_cons->ny,eraseIdx_cons_succ->nL,all_eq_true->nP,getElem?_set_self->n8,map_nil->n9,filterMap_eq_map'->og,of_mem_zip->ol,all_cons->pq,ext_getElem?->pN,eraseIdxIfInBounds_toArray->pU,filter_map->qu,getElem?_take_of_lt->qX,findIdx?->rc,getElem?_replicate->rB,getElem?_cons_succ->rF,pairwise_lt_range->rO,length_replicate->rX,take_append_drop->r9,eq_nil_or_concat->sx,concat_eq_append->sy,getElem?_range->sQ,filterMap_map->sU,getElem?_take->sV,getElem?_drop->sW,map_filterMap->sX,contains_cons->tE,take_sublist->tL,getElem_mem->tZ,any_eq_true->t9,drop_length->uc,zipIdx_cons->ud,take_length->ue,getElem_map->uf
open Array renaming length_toList->gr,getElem?_toList->hI,getElem?_eq_getElem->iP,getD_eq_getD_getElem?->ku,size_map->lJ,toList_extract->mi,toList_append->oX,append_assoc->pf,toList_push->pE,toList->rr,getElem?_eq_none->rE,find?_toList->sJ
open Bool renaming false_ne_true->gw,and_eq_true->hJ,false_eq_true->kh,eq_iff_iff->lp,xor_assoc->lQ,xor_false->mW,false_xor->oS,and_self->pw,or_false->rf,not_eq_true'->tS
open PySem.SetTable renaming below->gD,sizeAbove->h8,eraseAt->io,runEnd->iG,insertAt->iH,bits->iJ,leap->jA,fresh->jE,has->jN,turns->jT,fill->kd,Probe->ky,advance->kH,grown->lw,laid->mS,freeSlot->o7,layClean->o8,probe->qa,slot->qr,roomFor->sG,fits->tQ,road->tR
open PySem.Value renaming ref->gF,type->jw,int->kN,isInt->l8,bool->qv,float->rQ
open PySem.F renaming excBase_ValueError->gM,slot_dict_get->jG,slot_tuple_iterator_next->kX,plainAttrs_list->lm,entry_dict_get->lE,plainAttrs_dict->nq,plain_list_iadd->nN,slot_list_pop->nZ,type_list_pop->n6,plain_set_new->oQ,slot_zip_next->oR,plain_extend_loop->pG,slot_dict_delitem->qq,args_dict_get_2->qJ,args_dict_get_3->qK,args_tuple_iterator_next_1->qS,slot_dict_pop->qZ,type_dict_get->q7,entry_tuple_iterator_next->rh,entry_proto_collect->td,plain_proto_collect->tj
open Sum renaming inl->gP,inr->pP
open List.Pairwise renaming nil->gU,filter->iF,imp->om
open False renaming elim->gX
open Option renaming isSome_map->hZ,getD_none->pL,map->sE
open Option.some renaming inj->il
open PySem.SetTable.layClean renaming free->iD
open PySem.Builtin.SmallTypes renaming nextOf->iM,ownedTupleIsFree->ju,ownedTupleHandOut->mV
open PySem.Around renaming under_plainId->iY,under->qW,frames_deeper->rM,under_plain->sI
open PySem.Calls renaming evalArgs_plain->iZ,spliced_cons->jt,callWith_builtin->jB,spliced_nil->kq,loadGlobal_builtin->m9,Name_function_global->qw,call_function_entry->qL
open PySem.SetTable.probe renaming go->je
open PyProof.Rows renaming callWith_type1->jv,boot_sorted->jH,slot_tuple_getitem->jJ,boot_list->jU,IntsAre->kg,seqObj->lF,AllBare->mE,boot_set->m8,envOfC->nQ,callWith_builtin1->oP,Subscript_->rZ,size_push'->sk,listUpdate_at->sT,subscriptTail_builtinR->tN
open PySem.Spec renaming sameAll->jV,same->j5
open PySem.Builtin.Slice renaming slicePlaces->kj,sliceAdjust->pA
open PySem.Builtin.Tuple renaming tupleExact->kB,tupleItemsOf->pi
open Int renaming toNat_natCast->kG,le_refl->nC,emod_lt_of_pos->pK,emod_nonneg->qH
open PySem.Builtin.List renaming listSameRef->kI,listExtendWith->pr
open PySem.W.KasT renaming kasWp->kM,kasWp_bind->my
open PySem.Str renaming ofString->kW
open PySem.Heap.SameBut renaming refl->kZ,update->nM
open PySem.Shared renaming TypeIs->k8
open PySem.SeqAt renaming noMixAll->lK,noMix->oH,shaped->rC
open Or renaming inl->lU,inr->tX
open ForInStep renaming yield->lZ
open PySem.SetTable.below renaming go->mh
open Nat.succ renaming inj->mr
open Sum.inl renaming inj->mP
open PySem.Code renaming quiet_builtin->mU,isFrame->rJ
open PySem.PyData renaming canLayAll0->m6,depthAll->nX,canLay0->oy,depth->rg
open List.Perm renaming append_left->nJ,cons->nW,refl->nY,of_eq->sF
open PyProof.Rows.F renaming plain_set_update_loop->oo,entry_set_update_loop->sH
open PySem.Builtin.Frozenset renaming newClass->oG,oneOther->oJ
open String renaming splitOnAux->pB,splitOn->qt
open PySem.Heap.UpToSlots renaming of_keeps->pH
open Classical renaming byContradiction->qb
open PyProof.Rows.IntsAre renaming int_at->qh,length->qi
open PySem.Heap.IsSliceOf renaming new->qp
open PySem.pickOrder renaming go->qA
open PySem.W.Looks renaming ld->qT
open PySem.SeqAt.EqAt renaming int_str->qU,str_int->qV
open PySem.Heap.DictOf renaming new->rN
open PySem.Heap.Ns1 renaming of_empty->rT
open PySem.Data renaming fields->sA
open Function renaming comp->tP
abbrev ga:=@if_pos
abbrev gc:=@if_neg
abbrev gA:=@absurd
abbrev gH:=@decide_eq_false
abbrev hV:=@decide_eq_true_eq
abbrev jr:=@of_decide_eq_true
abbrev lj:=@or_false
abbrev oF:=@if_false
abbrev oK:=@beq_self_eq_true
abbrev oY:=@not_or
abbrev qo:=@of_decide_eq_false
abbrev qC:=@bne_self_eq_false
def q0q{p:Prop}(h:p:=by decide):p:=h
def q0d{p:Prop}(h:p:=by omega):p:=h
def q0o{p:Prop}(h:p:=by simp):p:=h
def q0s{p:Prop}(h:p:=by decide +kernel):p:=h
def q0a{p:Prop}(h:p:=by lia):p:=h
namespace L2
open PySem PySem.Spec PyProof.Rows
abbrev Key:=Sum Int Str
noncomputable def zb:Key->ci->Bool
 | .inl k,v=>l8 k v
 | .inr x,v=>Value.isStrOf x v
noncomputable def a0a(w:ii):Key->Int
 | .inl k=>mD k
 | .inr x=>hashStr w x
def vy:∀{k:Key} {v:ci},zb k v=true->(∃i t,k=gP i/\v=kN i t)\/(∃x t,k=pP x/\v=Value.str x t)
 | .inl i,v,h=>by
  obtain⟨t,e⟩:=Value.isInt_shape (k:=i) (v:=v) h;exact .inl #[i,t,rfl,e]
 | .inr x,v,h=>by obtain⟨t,e⟩:=Value.isStrOf_shape (x:=x) (v:=v) h;exact .inr #[x,t,rfl,e]
def Mo(i:Int)(t:Tok):zb (.inl i) (.int i t)=true:=by simp[zb,l8]
def Mp(x:Str)(t:Tok):zb (.inr x) (.str x t)=true:=by simp[zb,Value.isStrOf]
def Vv(a b:Int):decide ((gP a:Key)=gP b)=(a==b):=by
 by_cases e:a=b
 ·subst e;simp
 ·have h:¬(gP a:Key)=gP b:=λq=>e<|mP q;rw[gH h];exact(beq_eq_false_iff_ne.mpr e).symm
def Vw(a b:Str):decide ((pP a:Key)=pP b)=decide (a=b):=by
 by_cases e:a=b
 ·subst e;simp
 ·have h:¬(pP a:Key)=pP b:=λq=>e<|Sum.inr.inj q;rw[gH h,gH e]
def Vx(a:Int)(b:Str):decide ((gP a:Key)=pP b)=false:=gH<|λq=>nomatch q
def Vy(a:Str)(b:Int):decide ((pP a:Key)=gP b)=false:=gH<|λq=>nomatch q
noncomputable def uL(prog:gV)(w:ii):PySem.KeyKind prog w Key where
 is:=zb
 hash:=a0a w
 inj:=λv a b ha hb=>by
  rcases vy ha with⟨i,t,rfl,rfl⟩|⟨x,t,rfl,rfl⟩
  ·rcases vy hb with⟨j,u,rfl,e⟩|⟨y,u,rfl,e⟩
   ·injection e with e1 _;rw[e1]
   ·exact nomatch e
  ·rcases vy hb with⟨j,u,rfl,e⟩|⟨y,u,rfl,e⟩
   ·exact nomatch e
   ·injection e with e1 _;rw[e1]
 byValue:=λk v h=>by rcases vy h with⟨i,t,rfl,rfl⟩|⟨x,t,rfl,rfl⟩<;>rfl
 pyHash:=λhv h=>by
  rcases vy hv with⟨i,t,rfl,rfl⟩|⟨x,t,rfl,rfl⟩
  ·exact wpAny_pyHash_int h
  ·exact wpAny_pyHash_str h
 eqBool:=λhu hv h=>by
  rcases vy hu with⟨i,t,rfl,rfl⟩|⟨x,t,rfl,rfl⟩
  ·rcases vy hv with⟨j,u,rfl,rfl⟩|⟨y,u,rfl,rfl⟩
   ·rw[Vv]at h;exact qN h
   ·rw[Vx]at h;exact qU i t y u _ _ _ _ h
  ·rcases vy hv with⟨j,u,rfl,rfl⟩|⟨y,u,rfl,rfl⟩
   ·rw[Vy]at h;exact qV x t j u _ _ _ _ h
   ·rw[Vw]at h;exact wpAny_eqBool_str h
 «strs»:=λk x t v h=>by
  rcases vy h with⟨i,u,rfl,e⟩|⟨y,u,rfl,e⟩
  ·exact nomatch e
  ·injection e with e1 _;subst e1;cases v<;>rfl
def Hn(a:gV)(w:ii)(i:Int)(t:Tok):(uL a w).is (.inl i) (.int i t)=true:=Mo i t
def Ho(a:gV)(w:ii)(x:Str)(t:Tok):(uL a w).is (.inr x) (.str x t)=true:=Mp x t
set_option genInjectivity true in
inductive V where
 | vT|bl (b:Bool)|int (i:Int)|str (x:Str)|K6 (b:Array UInt8)|Vz (b:UInt64)|ref (a:cr)|ty (n:String)
 deriving DecidableEq
def RelV:V->ci->Prop
 | .vT,u=>u=Value.none
 | .bl b,u=>u=qv b
 | .int i,u=>∃t,u=kN i t
 | .str x,u=>∃t,u=Value.str x t
 | .K6 b,u=>∃t,u=Value.bytes b t
 | .Vz b,u=>∃t,u=rQ b t
 | .ref a,u=>u=gF a
 | .ty n,u=>u=jw n
abbrev Vals:List V->List ci->Prop:=Paired RelV
def Vals.length{xs:List V}{us:List ci}(r:Vals xs us):xs.length=us.length:=Paired.length r
def Vals.get:∀{a:List V} {b:List ci} {i:Nat} {x:V},Vals a b->a[i]?=↑x->∃u,b[i]?=↑u/\RelV x u:=by
 intro _ _ i x z
 induction z generalizing i with
 |nil=>intro e;simp at e
 |cons r t c =>
  intro e
  cases i with
  |zero=>simp at e;subst e;exact#[_,rfl,r]
  |succ i=>exact e1a2 (c<|by simpa using e) λu d f=>#[u,by simpa using d,f]
def Vals.set(r:RelV x u):∀{a:List V} {b:List ci} (i:Nat),Vals a b->Vals (a.set i x) (b.set i u)
 |_,_,_,.nil=>.nil
 |_,_,0,.cons _ t=>.cons r t
 |_,_,i+1,.cons q t=>.cons q<|Vals.set r i t
def Vals.append:∀{a b:List V} {c d:List ci},Vals a c->Vals b d->Vals (a++b) (c++d):=by
 intro _ _ _ _ z s
 induction z with
 |nil=>exact s
 |cons h t e=>exact .cons h e
def Vals.take:∀{a:List V} {b:List ci} (n:Nat),Vals a b->Vals (a.take n) (b.take n)
 |_,_,0,_=>.nil
 |_,_,_+1,.nil=>.nil
 |_,_,n+1,.cons r t=>.cons r<|Vals.take n t
def Vals.drop:∀{a:List V} {b:List ci} (n:Nat),Vals a b->Vals (a.drop n) (b.drop n)
 |_,_,0,r=>r
 |_,_,_+1,.nil=>.nil
 |_,_,n+1,.cons _ t=>Vals.drop n t
def yC:Option V->Option ci->Prop
 |some v,some u=>RelV v u
 |none,none=>True
 |_,_=>False
def KV{a:Type}:List (a×V)->List (a×ci)->Prop:=Paired λ(p:a×V)(q:a×ci)=>p.1=q.1/\RelV p.2 q.2
noncomputable def kV:Key->V
 | .inl i=>.int i
 | .inr x=>.str x
inductive HO where
 | lst (xs:List V)
 | tup (xs:List V)
 | dK (wA:List (Key×V))|dT (wA:List (List Key×V))
 | set (S:Int->Bool) (n:Nat)
 | ins (C dx:cr) (fs:List (Str×V))
 | own (x:cr)
 | xd (fs:List (Str×V))
 | met (f x:cr)
 | xS (lo hi:Int)
 | IQ (o:Obj) (u:HO)
 | Ej (ps:Array ci)
 | ext (φ:hX->Prop)
abbrev Hp:=cr->Option HO
noncomputable def upd(H:Hp)(a:cr)(o:HO):Hp:=λb=>if b=a then some o else H b
def uk:upd H a o a=↑o:=by unfold upd;rw[ga rfl]
def uh(h:b≠a):upd H a o b=H b:=by unfold upd;rw[gc h]
def RM:upd (upd H a o) a u=upd H a u:=by funext b;unfold upd;split<;>rfl
def XX{H:Hp}{a b:cr}{o u:HO}(h:H a=↑o)(c:H b=↑u)(d:o≠u):a≠b:=by intro e;subst e;rw[h]at c;exact d<|il c
def uu{H:Hp}{a b:cr}{o:HO}(h:H a=↑o)(c:H b=none):a≠b:=by intro e;subst e;rw[h]at c;cases c
section
variable(P:gV)(w:ii)
def vq(H:Hp)(h:hX)(a:cr):HO->Prop
 | .lst xs=>xs.length<=gk/\∃(za:List ci)(n:Nat),Vals xs za/\h.get? a=some { cls:=.type "list",data:=.seq za.toArray n}
 | .tup xs=>xs.length<=gk/\∃za:List ci,Vals xs za/\IsTup h a za.toArray
 | .dK wA=>wA.length<=gk/\(a==j7)=false/\∃vs,KV wA vs/\h.DictOf (uL P w) a vs
 | .dT wA=>wA.length<=gk/\(a==j7)=false/\∃xs:List (List Key×cr×ci),
   Paired (λ(p:List Key×V)(q:List Key×cr×ci)=>p.1=q.1/\H q.2.1=↑(.tup<|p.1.map kV)/\RelV p.2 q.2.2) wA xs /\
   ∃o es ep,h.get? a=↑o/\o.ExactDict/\o.data=.dict es ep/\es.toList=xs.map (entryOfKey<|oz<|uL P w)/\(xs.map (·.1)).Nodup
 | .set S n=>h.SetOf (jI P w) a S n
 | .ins C dx fs=>H dx=↑(.own a)/\fs.length<=1000/\dx≠a/\h.get? a=↑(jM C dx) /\
   ∃mA,h.Ns1 dx mA/\(∀f,yC (fs.lookup f)<|mA f)/\ro mA (fs.map (·.1))
 | .own _=>∃o,h.get? a=↑o
 | .xd fs=>∃mA,h.Ns1 a mA/\∀f,yC (fs.lookup f)<|mA f
 | .xS lo hi=>∃t u v,h.get? a=some { cls:=.type "range",data:=.fields #v[.int lo t,.int hi u,.int 1 v]}
 | .IQ o u=>h.get? a=↑o/\vq H h a u
 | .Ej ps=>h.get? a=some { cls:=.none,data:=.fields ps}
 | .met f x=>h.get? a=↑(lA (.ref f)<|.ref x)
 | .ext φ=>φ h/\(∃o,h.get? a=↑o)/\∀h1 h2:hX,φ h1->(∀o,h1.get? a=↑o->h2.get? a=↑o)->φ h2
def w4(H:Hp)(h:hX):Prop:=∀a o,H a=↑o->vq P w H h a o
end
def vq.lt(x:vq P w H h a o):a<h.objs.size:=by
 cases o with
 |lst c=>obtain⟨_,_,_,_,e⟩:=x;exact gp e
 |tup c=>obtain⟨_,_,_,p⟩:=x;exact p.lt
 |dK b=>obtain⟨_,_,_,_,o,_,_,e,_⟩:=x;exact gp e
 |dT b=>obtain⟨_,_,_,_,o,_,_,e,_⟩:=x;exact gp e
 |set S n=>obtain⟨o,_,_,_,e,_⟩:=x;exact gp e
 |ins C d fs=>obtain⟨_,_,_,e,_⟩:=x;exact gp e
 |own y=>obtain⟨_,e⟩:=x;exact gp e
 |xd fs=>obtain⟨_,⟨_,_,_,e,_⟩,_⟩:=x;exact gp e
 |xS lo g=>obtain⟨_,_,_,e⟩:=x;exact gp e
 |IQ i u=>obtain⟨e,_⟩:=x;exact gp e
 |Ej j=>exact gp<|show h.get? a=some _ from x
 |met f y=>exact gp<|show h.get? a=some _ from x
 |ext k=>obtain⟨_,⟨_,e⟩,_⟩:=x;exact gp e
def Paired.VA:∀{c:List g} {d:List i},Paired F c d->(∀a b,F a b->G a b)->Paired G c d:=by
 intro _ _ z f
 induction z with
 |nil=>exact .nil
 |cons h t e=>exact .cons (f _ _ h) e
def vq.Co(x:vq P w H h a o)(k:∀b u,(b=a\/H b=↑(.own a))->h.get? b=↑u->F.get? b=↑u)
 (G:∀b,H b=↑(.own a)->D b=↑(.own a))(I:∀b m,H b=↑(.tup m)->D b=↑(.tup m)):vq P w D F a o:=by
  induction o with
  |lst m=>obtain⟨z,l,n,r,e⟩:=x;exact#[z,l,n,r,k _ _ (.inl rfl) e]
  |tup m=>obtain⟨z,l,r,g,e,c⟩:=x;exact#[z,l,r,g,k _ _ (.inl rfl) e,c]
  |dK s=>obtain⟨z,y,J,r,g,i,j,e,c⟩:=x;exact#[z,y,J,r,g,i,j,k _ _ (.inl rfl) e,c]
  |dT s =>
    obtain⟨z,y,m,r,g,i,j,e,c⟩:=x
    exact#[z,y,m,Paired.VA r λp q z=>#[z.1,I _ _ z.2.1,z.2.2],g,i,j,k _ _ (.inl rfl) e,c]
  |set S n=>obtain⟨g,i,j,t,e,c⟩:=x;exact#[g,i,j,t,k _ _ (.inl rfl) e,c]
  |ins C Q fs =>
    obtain⟨d,z,L,e,A,⟨B,i,j,M,c⟩,r⟩:=x
    exact#[G _ d,z,L,k _ _ (.inl rfl) e,A,#[B,i,j,k _ _ (.inr d) M,c],r]
  |own y=>obtain⟨g,e⟩:=x;exact#[g,k _ _ (.inl rfl) e]
  |xd fs=>obtain⟨A,⟨B,i,j,e,c⟩,r⟩:=x;exact#[A,#[B,i,j,k _ _ (.inl rfl) e,c],r]
  |xS lo R=>obtain⟨t,u,v,e⟩:=x;exact#[t,u,v,k _ _ (.inl rfl) e]
  |IQ g u N=>obtain⟨e,q⟩:=x;exact#[k _ _ (.inl rfl) e,N q]
  |Ej O =>
    have e:h.get? a=some { cls:=.none,data:=.fields O}:=x
    exact k a _ (.inl rfl) e
  |met f y =>
    have e:h.get? a=↑(lA (.ref f)<|.ref y):=x
    exact k a _ (.inl rfl) e
  |ext T=>obtain⟨p,⟨o,e⟩,E⟩:=x;exact#[E _ _ p λo q=>k _ _ (.inl rfl) q,#[o,k _ _ (.inl rfl) e],E]
def w4.lt(x:w4 P w H h)(e:H a=↑o):a<h.objs.size:=(x a o e).lt
def w4.fresh(x:w4 P w H h)(e:h.objs.size<=a):H a=none:=by
 cases q:H a with
 |none=>rfl
 |some u=>exact gA (gG (x.lt q) e)<|jm _
def w4.kept(x:w4 P w H h)(k:∀b u,h.get? b=↑u->c.get? b=↑u):w4 P w H c:=λa o e =>
 (x a o e).Co (λb u _ q=>k b u q) (λ_ q=>q) λ_ _ q=>q
def w4.laid(x:w4 P w H h)(k:∀b u,h.get? b=↑u->h'.get? b=↑u)(i:h.objs.size<=a)(d:vq P w (upd H a o) h' a o):w4 P w (upd H a o) h':=λb u e=>by
 have f:=x.fresh i;by_cases g:b=a
 ·subst g;rw[uk]at e;cases e;exact d
 ·rw[uh g]at e;exact(x b u e).Co (λc v _ q=>k c v q) (λc q=>by rw[uh<|uu q f];exact q) λc j q=>by rw[uh<|uu q f];exact q
def Rd(H:Hp)(a:cr)(u:HO):Prop:=H a=↑u\/∃o,H a=↑(.IQ o u)
def Rd.of(h:H a=↑u):Rd H a u:=.inl h
def Rd.ok(r:Rd H a u)(x:w4 P w H h):vq P w H h a u:=by
 rcases r with r|⟨o,r⟩
 ·exact x a u r
 ·obtain⟨_,q⟩:=x a _ r;exact q
def XY:Option HO->Prop
 |some (.lst _)=>True
 |some (.dK _)=>True
 |some (.dT _)=>True
 |some (.set _ _)=>True
 |some (.ins _ _ _)=>True
 |some (.ext _)=>True
 |_=>False
def w4.write(t:w4 P w H h)(g:XY (H x))(o:e=x\/H e=↑(.own x))(k:∀b u,b≠e->h.get? b=↑u->h'.get? b=↑u)(m:∃u,h'.get? e=↑u)
 (n:vq P w (upd H x p) h' x p):w4 P w (upd H x p) h':=λb u q=>by
  have d:∀c y,H c=↑(.own y)->c≠x:=λc y r z=>by subst z;rw[r]at g;exact g
  have f:∀c i,H c=↑(.tup i)->c≠x:=λc i r z=>by subst z;rw[r]at g;exact g
  by_cases j:b=x
  · subst j; rw[uk]at q; cases q; exact n
  · rw[uh j]at q
    by_cases a:b=e
    · have s : H b = some (.own x) := by
        rcases o with z|z
        · exact gA (a.trans z) j
        · rw[a]; exact z
      rw[q]at s;cases s
      obtain⟨v,A⟩:=m
      exact#[v,by rw[a];exact A]
    · refine(t b u q).Co (λc v l r => k c v ?_ r) (λc r => by rw[uh<|d c b r]; exact r) λc i r => by rw[uh<|f c i r]; exact r
      rcases l with rfl|l
      · exact a
      · rintro rfl
        rcases o with z|z
        · exact d c b l z
        · rw[l]at z; cases z; exact j rfl
structure Un(fs ex:List cr)(H H':Hp)(h h':hX):Prop where
 keep:∀b o,h.get? b=↑o->H b=none->b∉fs->b∉ex->h'.get? b=↑o
 slot:∀b o,h.get? b=↑o->H b=none->b∈fs->b∉ex->∃sl,h'.get? b=some { o with slots:=sl}
 free:∀b o,h.get? b=↑o->H b=none->b∉ex->H' b=none
 there:∀b o,h.get? b=↑o->b∉ex->∃o',h'.get? b=↑o'
 AI:∀b xs,H b=↑(.tup xs)->H' b=↑(.tup xs)
 As:∀b o u,H b=↑(.IQ o u)->H' b=↑(.IQ o u)
 Au:∀b ps,H b=↑(.Ej ps)->∃more,H' b=↑(.Ej<|ps++more)
def Un.any(u:Un fs e H H1 h f)(q:h.get? b=↑a)(n:H b=none)(c:b∉e):∃g,f.get? b=some { a with slots:=g}:=by
 by_cases d:b∈fs
 ·exact u.slot b a q n d c
 ·exact#[a.slots,u.keep b a q n d c]
def Un.trans(a:Un fs ex H H1 h h1)(b:Un fs ex H1 H2 h1 h2):Un fs ex H H2 h h2 where
 keep:=λc ob q n hc hx=>b.keep c ob (a.keep c ob q n hc hx) (a.free c ob q n hx) hc hx
 slot:=λc ob q n hc hx=>by obtain⟨sl,e1⟩:=a.slot c ob q n hc hx;obtain⟨sl',e2⟩:=b.slot c _ e1 (a.free c ob q n hx) hc hx;exact#[sl',e2]
 free:=λc ob q n hx=>by obtain⟨o',e1⟩:=a.there c ob q hx;exact b.free c o' e1 (a.free c ob q n hx) hx
 there:=λc ob q hx=>by obtain⟨o',e1⟩:=a.there c ob q hx;exact b.there c o' e1 hx
 AI:=λc xs q=>b.AI c xs<|a.AI c xs q
 As:=λc ob xs q=>b.As c ob xs<|a.As c ob xs q
 Au:=λc ps q=>by obtain⟨m1,e1⟩:=a.Au c ps q;obtain⟨m2,e2⟩:=b.Au c _ e1;exact#[m1++m2,by rw[e2,pf]]
def Un.kept(k:∀b u,h.get? b=↑u->c.get? b=↑u):Un fs d H H h c :=
 #[λb a q _ _ _=>k b a q,λb a q _ _ _=>#[a.slots,k b a q],λ_ _ _ n _=>n,λb a q _=>#[a,k b a q],λ_ _ q=>q,λ_ _ _ q=>q,λ_ e q=>#[#v[],by rw[q];simp]]
def Un.refl:Un fs a H H h h:=Un.kept λ_ _ q=>q
def Un.laid(k:∀b u,h.get? b=↑u->h'.get? b=↑u)(hp:h.objs.size<=a)(hn:H a=none):Un fs ex H (upd H a o) h h' where
 keep:=λb u q _ _ _=>k b u q
 slot:=λb u q _ _ _=>#[u.slots,k b u q]
 free:=λb u q n _=>by rw[uh<|gB<|gG (gp q) hp];exact n
 there:=λb u q _=>#[u,k b u q]
 AI:=λb xs q=>by rw[uh<|uu q hn];exact q
 As:=λb u xs q=>by rw[uh<|uu q hn];exact q
 Au:=λb ps q=>#[#v[],by rw[uh<|uu q hn,q];simp]
def Un.write(c:XY (H x))(j:e=x\/H e=↑(.own x))(k:∀b u,b≠e->h.get? b=↑u->h'.get? b=↑u)(d:∃u,h'.get? e=↑u):Un fs p H (upd H x o) h h':=by
 have g:∀b,H b=none->b≠x:=λb n z=>by subst z;rw[n]at c;exact c
 have i:∀b,H b=none->b≠e:=λb n z=>by
  subst z;rcases j with r|r
  ·exact g b n r
  ·rw[n]at r;cases r
 have f:∀b u,H b=↑u->¬XY ↑u->b≠x:=λb u q l z=>by subst z;rw[q]at c;exact l c
 refine#[λb u q n _ _=>k b u (i b n) q,λb u q n _ _=>#[u.slots,k b u (i b n) q],λb u q n _=>by rw[uh (g b n)];exact n,λb u q _=>?_,
  λb m q=>by rw[uh (f b _ q λz=>z)];exact q,λb u m q=>by rw[uh (f b _ q λz=>z)];exact q,λb s q=>#[#v[],by rw[uh (f b _ q λz=>z),q];simp]]
 by_cases a:b=e
 ·subst a;exact d
 ·exact#[u,k b u a q]
noncomputable def ZI(h:hX)(H:Hp):List cr:=(gL h.objs.size).filter λa=>(H a).isSome
noncomputable def Hq(h:hX)(H:Hp):hX:=kY h<|ZI h H
def Mr(h:hX)(H:Hp):(Hq h H).objs.size=h.objs.size:=PySem.W.hideAll_size _ _
def CV{h:hX}(e:h.get? b=↑o)(n:H b=none):(Hq h H).get? b=↑o :=
 oA _ e λa=>by have q:(H b).isSome=true:=(List.mem_filter.mp a).2;rw[n]at q;simp at q
def RN(e:(Hq h H).get? b=↑o):h.get? b=↑o/\H b=none:=by
 have a:h.get? b=↑o:=mz (ZI h H) e;refine#[a,?_]
 cases q:H b with
 |none=>rfl
 |some x =>
  have c:b∈ZI h H:=List.mem_filter.mpr #[List.mem_range.mpr<|gp a,by simp[q]];have z:(Hq h H).get? b=none:=rq (ZI h H) c;rw[z]at e;cases e
noncomputable def RO(g h:hX)(L:cr):List (cr×Obj):=(gL h.objs.size).filterMap λa=>if a=L\/(g.get? a).isSome=true then none else (h.get? a).map λo=>(a,o)
noncomputable def rest(g h:hX)(L d:cr):List (cr×Obj):=(RO g h L).filter λp=>decide<|p.1≠d
structure Mod(K:f9)(mg:Str->Option ci)(base:hX):Prop where
 AH:K.In base
 glob:base.Ns gC mg
 blt:∃mb,base.Ns nE mb/\∀x:Str,x≠"__name__"->mb x=l9 x
 nolimit:base.NoLimit
structure Cx where
 prog:gV
 w:ii
 K:f9
 mg:Str->Option ci
 base:hX
 A:iW
 N:List Str
 s₀:gn
 H₀:Hp
 env:Env
 outer:List Env
 stack:List Env
 ex:List cr
 fn:Str->Bool
 calm:Bool
 pn:List (cr×Obj)
 xe:ci->gn->Prop
noncomputable def yz(l:List Env):List cr:=l.filterMap (·.frame)
noncomputable abbrev Cx.fs(X:Cx):List cr:=yz X.outer
def Vis(a:k9)(x:Str):Prop:=a.names.lookup x=some .local\/a.names.lookup x=some .cell\/a.names.lookup x=some .free
def Loc(a:k9)(x:Str):Prop:=a.names.lookup x=some .local\/a.names.lookup x=some .cell
def Look(a:Env)(h:hX)(m:Str->Option ci)(x:Str)(u:ci):Prop :=
 (a.kindOf x=some .local/\m x=↑u)\/((a.kindOf x=some .cell\/a.kindOf x=some .free)/\∃c,a.cells.lookup x=↑c/\h.IsCell c ↑u)
structure Cx.Ok(X:Cx):Prop where
 mod:Mod X.K X.mg X.base
 kind:X.env.scope.kind=.function
 glob:X.env.globals=gC
 blt:X.env.builtins=nE
 above:X.s₀.heap.objs.size<=X.env.locals
 inj:∀x y c,X.env.cells.lookup x=↑c->X.env.cells.lookup y=↑c->x=y
 has:∀x,(X.env.kindOf x=some .cell\/X.env.kindOf x=some .free)->∃c,X.env.cells.lookup x=↑c
 NM:∀x c,X.fn x=true->X.env.cells.lookup x=↑c->X.s₀.heap.objs.size<=c
 hd:X.calm=true->X.A.handled=none
 frames:X.A.frames=↑X.stack
 Br:X.stack=X.outer\/(X.stack=X.env::X.outer/\X.env.frame=↑X.env.locals)
 RP:∀b∈X.ex,b≠X.env.locals/\∀x c,X.env.cells.lookup x=↑c->c≠b
 bs:∀b o,X.base.get? b=↑o->X.s₀.heap.get? b=↑o/\X.H₀ b=none
 Hr:X.base.objs.size<=X.s₀.heap.objs.size
 Cp:∀b o,X.base.get? b=↑o->b∉X.ex
 CW:∀b∈X.ex,b∉X.fs
 xI:X.s₀.heap.FunFrames X.base X.outer
 IL:∀b∈X.fs,X.H₀ b=none
structure Inv(X:Cx)(pins:List (cr×Obj))(σ:List (Option V))(H:Hp)(s:gn):Prop where
 ok:X.Ok
 os:s.os=X.s₀.os
 bare:mE s.gens
 base:Un X.fs X.ex X.H₀ H X.s₀.heap s.heap
 loc:∃m,s.heap.Ns X.env.locals m/\∀(i:Nat)(x:Str)(v:V),X.N[i]?=↑x->σ[i]?=↑(some v)->Vis X.env.scope x->∃u,RelV v u/\Look X.env s.heap m x u
 cell:∀x c,X.env.cells.lookup x=↑c->∃v,s.heap.IsCell c v
 free:H X.env.locals=none
 xo:∀x c,X.env.cells.lookup x=↑c->H c=none
 pin:∀p∈X.pn++pins,s.heap.get? p.1=↑p.2/\H p.1=none/\p.1≠X.env.locals/\p.1∉X.fs/\∀v,p.2.data≠.cell v
 uV:w4 X.prog X.w H s.heap
 len:σ.length=X.N.length
section
variable{X:Cx}{pins:List (cr×Obj)}{σ:List (Option V)}{H H':Hp}{s:gn}
def Cx.Ok.a0d(a:X.Ok)(e:X.base.get? b=↑o):b∉X.fs:=λc=>by have:=(a.xI.mem c).1;rw[e]at this;cases this
def Inv.bs(I:Inv X pins σ H s):∀b o,X.base.get? b=↑o->s.heap.get? b=↑o/\H b=none:=λb o e =>
 #[I.base.keep b o (I.ok.bs b o e).1 (I.ok.bs b o e).2 (I.ok.a0d e)<|I.ok.Cp b o e,I.base.free b o (I.ok.bs b o e).1 (I.ok.bs b o e).2<|I.ok.Cp b o e]
def Inv.bk(I:Inv X pins σ H s):∀b o,X.base.get? b=↑o->s.heap.get? b=↑o:=λb o e=>(I.bs b o e).1
def Inv.mod(I:Inv X pins σ H s):Mod X.K X.mg X.base:=I.ok.mod
def Inv.xT(I:Inv X pins σ H s):X.K.In s.heap:=I.ok.mod.AH.keeps I.bk
def Inv.nolimit(I:Inv X pins σ H s):s.heap.NoLimit:=I.ok.mod.nolimit.keeps I.bk
def Inv.lt(I:Inv X pins σ H s):X.env.locals<⇑s:=e1a2 I.loc λ_ a _=> a.lt
def Inv.sz(I:Inv X pins σ H s):X.s₀.heap.objs.size<=⇑s:=gW I.ok.above<|kT I.lt
def Inv.a0e(I:Inv X pins σ H s)(h:⇑s<=a):a∉X.fs:=λb=>by obtain⟨_,o,c,_⟩:=I.ok.xI.mem b;exact gA (gG (gp c)<|gW I.sz h)<|jm _
def Inv.cne(I:Inv X pins σ H s):∀x c,X.env.cells.lookup x=↑c->c≠X.env.locals:=λx c e z=>by refine e2a2 (I.cell x c e) λv o d f=>?_;obtain⟨m,⟨g,h,i,a,b,_⟩,_⟩:=I.loc;rw[z,a]at d;cases d;rw[b]at f;cases f
def Inv.xI(I:Inv X pins σ H s):s.heap.FunFrames X.base X.outer:=by
 have a:∀(l:List Env),(∀b∈yz l,b∈X.fs)->X.s₀.heap.FunFrames X.base l->s.heap.FunFrames X.base l:=by
  intro l
  induction l with
  |nil=>intro _ _;trivial
  |cons h r i =>
   intro g j;obtain⟨k,⟨L,o,c,m,n,p⟩,q⟩:=j;have d:L∈X.fs:=g L (by unfold yz;rw[jW,c];exact gh);obtain⟨t,e⟩:=I.base.slot L o n (I.ok.IL L d) d λz=>I.ok.CW L z d;exact#[k,#[L,_,c,m,e,p],i (λb f=>g b<|by unfold yz;rw[jW,c];exact gl _ f) q]
 exact a X.outer (λ_ f=>f) I.ok.xI
def Inv.stack(I:Inv X pins σ H s):s.heap.FunFrames X.base X.stack:=by
 rcases I.ok.Br with e|⟨e,a⟩
 ·rw[e];exact I.xI
 ·rw[e];refine e1a2 I.loc λm b _=>?_;refine .cons (by rw[I.ok.kind];decide) a b ?_ I.xI;exact mn<|gW I.ok.Hr I.ok.above
def Inv.CY(I:Inv X pins σ H s):∀b∈yz X.stack,b∈X.env.locals::X.fs:=λb a=>by
 rcases I.ok.Br with e|⟨e,c⟩
 ·rw[e]at a;exact gl _ a
 ·rw[e]at a;unfold yz at a;rw[jW,c]at a;exact a
def Inv.K8(I:Inv X pins σ H s):∀b∈yz X.stack,H b=none:=λb a=>by
 rcases List.mem_cons.mp (I.CY b a) with e|a
 ·rw[e];exact I.free
 ·obtain⟨_,o,c,_⟩:=I.ok.xI.mem a;exact I.base.free b o c (I.ok.IL b a) λz=>I.ok.CW b z a
def Inv.step{g':Array oB}{t':Nat}{ch:List cr}(I:Inv X pins σ H s)
 (g:∀b∈ch,(b∈X.ex\/X.s₀.heap.objs.size<=b)/\b≠X.env.locals/\(∀x c,X.env.cells.lookup x=↑c->c≠b)/\∀p∈X.pn++pins,p.1≠b)
 (h:∀b o,b≠X.env.locals->b∉X.fs->b∉ch->s.heap.get? b=↑o->H b=none->h'.get? b=↑o)
 (B:∀b o,b≠X.env.locals->b∈X.fs->b∉ch->s.heap.get? b=↑o->H b=none->∃R,h'.get? b=some { o with slots:=R}) (f:∀b o,b∉ch->s.heap.get? b=↑o->H b=none->H' b=none)
 (D:∀b o,b∉ch->s.heap.get? b=↑o->∃G,h'.get? b=↑G)
 (J:∀b C,H b=↑(.tup C)->H' b=↑(.tup C)) (L:∀b o u,H b=↑(.IQ o u)->H' b=↑(.IQ o u)) (M:∀b Q,H b=↑(.Ej Q)->∃N,H' b=↑(.Ej<|Q++N))
 (ns:∀m,s.heap.Ns X.env.locals m->h'.Ns X.env.locals m) (S:w4 X.prog X.w H' h') (hg:mE g') :
    Inv X pins σ H' { s with heap:=h',gens:=g',drawn:=d',toks:=t'}:=by
  have O:∀b o,X.s₀.heap.get? b=↑o->b≠X.env.locals:=λb o e=>gB<|gG (gp e) I.ok.above
  have y:∀b o,X.s₀.heap.get? b=↑o->b∉X.ex->b∉ch:=λb o e a E=>by
    rcases(g b E).1 with z|z
    · exact a z
    · exact gA (gG (gp e) z)<|jm _
  have j:∀x c,X.env.cells.lookup x=↑c->∀v,s.heap.IsCell c v->h'.IsCell c v:=λx c e v z9=>e1a2 z9 λo F T=>by
    have t:c∉ch:=λz=>(g c z).2.2.1 x c e rfl
    by_cases W:c∈X.fs
    · obtain⟨R, q⟩ := B c o (I.cne x c e) W t F (I.xo x c e)
      exact#[_,q,T]
    · exact#[o, h c o (I.cne x c e) W t F<|I.xo x c e, T]
  refine#[I.ok,I.os,hg,#[λb o e n E a=>?_,λb o e n E a=>?_,λb o e n a=>?_,λb o e a=>?_,λb C e=>J b C<|I.base.AI b C e,λb o C e=>L b o C<|I.base.As b o C e,λb Q e=>?_],?_,λx c e=>?_,?_,λx c e=>?_,λp Y=>?_,S,I.len]
  · exact h b o (O b o e) E (y b o e a) (I.base.keep b o e n E a)<|I.base.free b o e n a
  · obtain⟨R, A⟩ := I.base.slot b o e n E a
    obtain⟨U,P⟩:=B b _ (O b o e) E (y b o e a) A<|I.base.free b o e n a
    exact#[U,P]
  · obtain⟨G, A⟩ := I.base.there b o e a
    exact f b G (y b o e a) A<|I.base.free b o e n a
  · obtain⟨G, A⟩ := I.base.there b o e a
    exact D b G (y b o e a) A
  · obtain⟨m1, A⟩ := I.base.Au b Q e
    obtain⟨m2,P⟩:=M b _ A
    exact#[m1++m2,by rw[P,pf]]
  · refine e1a2 I.loc λm hn hl => ?_
    refine#[m,ns m hn,λi x v A P e3=>?_]
    refine e1a2 (hl i x v A P e3) λu r l=>?_
    refine#[u,r,?_]
    rcases l with l|⟨k,c,e,z⟩
    · exact .inl l
    · exact .inr #[k, c, e, j x c e _ z]
  · obtain⟨v, z⟩ := I.cell x c e
    exact#[v,j x c e v z]
  · obtain⟨m, ⟨o, _, _, F, _⟩, _⟩ := I.loc
    exact f _ o (λz=>(g _ z).2.1 rfl) F I.free
  · refine e2a2 (I.cell x c e) λv o F T => ?_
    exact f c o (λz=>(g c z).2.2.1 x c e rfl) F<|I.xo x c e
  · obtain⟨e, n, Z, nf, d⟩ := I.pin p Y
    have t:p.1∉ch:=λz=>(g p.1 z).2.2.2 p Y rfl
    exact#[h p.1 p.2 Z nf t e n,f p.1 p.2 t e n,Z,nf,d]
def Inv.un{t':Nat}(I:Inv X pins σ H s)(u:Un X.fs [] H H' s.heap h')(c:w4 X.prog X.w H' h'):Inv X pins σ H' { s with heap:=h',toks:=t'}:=by
 obtain⟨m,⟨o,l,p,h,r⟩,_⟩:=id I.loc;obtain⟨q,i⟩:=u.any h I.free q0o
 exact I.step (g':=s.gens) (d':=s.drawn) (ch:=[]) (λ_ z=>nomatch z) (λb o _ d _ e n=>u.keep b o e n d q0o) (λb o _ d _ e n=>u.slot b o e n d q0o) (λb o _ e n=>u.free b o e n q0o) (λb o _ e=>u.there b o e q0o) u.AI u.As u.Au (λt j=>by
  refine e3a2 j λv f g a k=>?_;rw[h]at a;cases a
  exact#[_,f,g,i,k]) c I.bare
def Inv.call{g':Array oB}{t':Nat}{ch:List cr}(I:Inv X pins σ H s)(u:Un (yz X.stack) ch H H' s.heap h')(g:w4 X.prog X.w H' h')(l:mE g')
 (d:∀b∈ch,(b∈X.ex\/X.s₀.heap.objs.size<=b)/\b≠X.env.locals/\(∀x c,X.env.cells.lookup x=↑c->c≠b)/\∀p∈X.pn++pins,p.1≠b) :
    Inv X pins σ H' { s with heap:=h',gens:=g',drawn:=d',toks:=t'}:=by
  obtain⟨m,⟨o,y,A,k,r⟩,_⟩:=id I.loc
  obtain⟨B,h⟩:=u.any k I.free λz=>(d _ z).2.1 rfl
  exact I.step (ch:=ch) d (λb o h q a e n=>u.keep b o e n (λz=>(List.mem_cons.mp (I.CY b z)).elim h q) a) (λb o _ _ a e n=>u.any e n a) (λb o a e n=>u.free b o e n a) (λb o a e=>u.there b o e a) u.AI u.As u.Au (λC t=>by
    refine e3a2 t λD i j f v=>?_
    rw[k]at f;cases f
    exact#[_,i,j,h,v]) g l
def Inv.turned{t':Nat}(I:Inv X pins σ H s)(k:∀b o,b≠a->s.heap.get? b=↑o->h.get? b=↑o)(i:H a=none)(g:a≠X.env.locals)
 (j:a∈X.ex\/X.s₀.heap.objs.size<=a)(l:∀x c,X.env.cells.lookup x=↑c->c≠a)(t:∀p∈X.pn++pins,p.1≠a):Inv X pins σ H { s with heap:=h,toks:=t'}:=by
  have f:∀b u,H b=↑u->b≠a:=λb u e z=>by rw[z,i]at e;cases e
  refine I.step (g':=s.gens) (d':=s.drawn) (ch:=[a]) (λb w=>?_) (λb o _ _ d e _=>k b o (λz=>d<|by simp[z]) e) (λb o _ _ d e _=>#[o.slots,k b o (λz=>d<|by simp[z]) e]) (λ_ _ _ _ n=>n)
    (λb o d e=>#[o,k b o (λz=>d<|by simp[z]) e]) (λ_ _ e=>e) (λ_ _ _ e=>e) (λb D e=>#[#v[],by rw[e];simp]) (λm y=>?_) (λb u e=>?_) I.bare
  · have e : b = a := by simpa using w
    subst e
    exact#[j,g,l,t]
  · refine e3a2 y λo A B C r => ?_
    exact#[o,A,B,k _ o (Ne.symm g) C,r]
  · refine(I.uV b u e).Co (λc v d q => k c v ?_ q) (λ_ q => q) λ_ _ q => q
    rcases d with z|z
    · rw[z]; exact f b u e
    · exact f c _ z
def Inv.tok(I:Inv X pins σ H s)(t:Nat):Inv X pins σ H { s with toks:=t}:=I.un (h':=s.heap) (t':=t) Un.refl I.uV
def Inv.kept{t':Nat}(I:Inv X pins σ H s)(k:∀b u,s.heap.get? b=↑u->a.get? b=↑u):Inv X pins σ H { s with heap:=a,toks:=t'}:=I.un (Un.kept k)<|I.uV.kept k
def Inv.laid{t':Nat}(I:Inv X pins σ H s)(k:∀b u,s.heap.get? b=↑u->h'.get? b=↑u)(c:⇑s<=a)(d:vq X.prog X.w (upd H a o) h' a o) :
  Inv X pins σ (upd H a o) { s with heap:=h',toks:=t'}:=I.un (Un.laid k c<|I.uV.fresh c)<|I.uV.laid k c d
def Inv.write{t':Nat}(I:Inv X pins σ H s)(d:XY (H x))(f:e=x\/H e=↑(.own x))(k:∀b u,b≠e->s.heap.get? b=↑u->h'.get? b=↑u)(a:∃u,h'.get? e=↑u)
 (c:vq X.prog X.w (upd H x o) h' x o):Inv X pins σ (upd H x o) { s with heap:=h',toks:=t'}:=I.un (Un.write d f k a)<|I.uV.write d f k a c
def Inv.yD(I:Inv X pins σ H s)(h:∀p∈pins',s.heap.get? p.1=↑p.2/\H p.1=none/\p.1≠X.env.locals/\p.1∉X.fs/\∀v,p.2.data≠.cell v):Inv X pins' σ H s :=
 #[I.ok,I.os,I.bare,I.base,I.loc,I.cell,I.free,I.xo,λp a=>(List.mem_append.mp a).elim (λz=>I.pin p<|iq _ z)<|h p,I.uV,I.len]
def Ht{N:List Str}(c:N.Nodup){i j:Nat}(a:N[i]?=↑x)(b:N[j]?=↑x):i=j:=by obtain⟨f,d⟩:=List.getElem?_eq_some_iff.mp a;obtain⟨g,e⟩:=List.getElem?_eq_some_iff.mp b;exact(List.getElem_inj c).mp<|d.trans e.symm
def EI{E:ci->gn->Prop}{i:Nat}{Q:Unit->gn->Prop}(I:Inv X pins σ H s)(hN:X.N.Nodup)(S:X.N[i]?=↑x)(B:Loc X.env.scope x)(r:RelV v u)
 (h:∀s',Inv X pins (σ.set i<|↑v) H s'->(∃a,im a s.heap s'.heap/\(a=X.env.locals\/X.env.cells.lookup x=↑a))->Q () s')(hf:X.fn x=true\/X.env.scope.names.lookup x=some .local:=by first|exact .inl rfl|exact .inr rfl|assumption):gu M A (storeName X.env x u) Q E s:=by
  refine e1a2 (id I.loc) λm hn hl=>?_
  have T:(X.env.scope.kind==.class||(X.env.scope.kind==.module&&X.env.locals != X.env.globals))=false:=by rw[I.ok.kind];rfl
  have F:i<σ.length:=by rw[I.len];exact(List.getElem?_eq_some_iff.mp S).1
  have J:=I.cne
  have g:∀{a:cr} {R:hX},(∃o,s.heap.get? a=↑o/\H a=none)->im a s.heap R->w4 X.prog X.w H R:=λ{a R} ha f b ob e=>by
    refine e1a2 ha λ_ _ C=>?_
    refine(I.uV b ob e).Co (λc w' t q=>(f.2 c ?_).trans q) (λ_ q=>q) λ_ _ q=>q
    rintro rfl
    rcases t with rfl|t
    · rw[C]at e; cases e
    · rw[C]at t; cases t
  rcases B with G|G
  · refine wpAny_storeName_local G hn (λR aa f => ?_) T
    refine e3a2 (id hn) λoL _ _ ab _=>?_
    refine h _ #[I.ok,I.os,I.bare,#[λb o e n L B=>?_,λb o e n L B=>?_,I.base.free,λb o e B=>?_,I.base.AI,I.base.As,I.base.Au],#[_,aa,λj y v' l D e3=>?_],λy c e=>?_,I.free,I.xo,λp hp=>?_,g #[oL,ab,I.free] f,by simpa using I.len] #[_,f,.inl rfl]
    · exact(f.2 b<|gB<|gG (gp e) I.ok.above).trans<|I.base.keep b o e n L B
    · obtain⟨sl, l⟩ := I.base.slot b o e n L B
      exact#[sl,(f.2 b<|gB<|gG (gp e) I.ok.above).trans l]
    · obtain⟨o', l⟩ := I.base.there b o e B
      exact#[o',(f.2 b<|gB<|gG (gp e) I.ok.above).trans l]
    · by_cases O : j = i
      · subst O
        rw[S]at l;cases l
        rw[n8 F]at D
        cases D
        exact#[u,r,.inl #[G,q0o]]
      · rw[mo<|Ne.symm O]at D
        refine e1a2 (hl j y v' l D e3) λu' r' q=>?_
        refine#[u',r',?_]
        rcases q with⟨k,e⟩|⟨k,c,e,z⟩
        · refine .inl #[k, ?_]
          have:y≠x:=λe=>O<|Ht hN l<|e▸S
          simp[this,e]
        · exact .inr #[k, c, e, z.sameBut f<|J y c e]
    · obtain⟨w', z⟩ := I.cell y c e
      exact#[w',z.sameBut f<|J y c e]
    · obtain⟨e, n, ne, nf, d⟩ := I.pin p hp
      exact#[(f.2 p.1 ne).trans e,n,ne,nf,d]
  · have P : X.fn x = true := by
      rcases hf with z|z
      · exact z
      · rw[z]at G; cases G
    obtain⟨c,t⟩:=I.ok.has x<|.inl G
    obtain⟨w',z⟩:=I.cell x c t
    refine wpAny_storeName_cell I.ok.kind G t z<|λR U f=>?_
    refine e1a2 (id z) λoc W Y=>?_
    refine h { s with heap:=R} #[I.ok,I.os,I.bare,#[λb o e n L B=>?_,λb o e n L B=>?_,I.base.free,λb o e B=>?_,I.base.AI,I.base.As,I.base.Au],#[m,hn.sameBut f<|Ne.symm<|J x c t,λj y v' l D e3=>?_],λy c' e=>?_,I.free,I.xo,λp hp=>?_,g #[oc,W,I.xo x c t] f,by simpa using I.len] #[c,f,.inr t]
    · exact(f.2 b<|gB<|gG (gp e)<|I.ok.NM x c P t).trans<|I.base.keep b o e n L B
    · obtain⟨sl, l⟩ := I.base.slot b o e n L B
      exact#[sl,(f.2 b<|gB<|gG (gp e)<|I.ok.NM x c P t).trans l]
    · obtain⟨o', l⟩ := I.base.there b o e B
      exact#[o',(f.2 b<|gB<|gG (gp e)<|I.ok.NM x c P t).trans l]
    · by_cases O : j = i
      · subst O
        rw[S]at l;cases l
        rw[n8 F]at D
        cases D
        exact#[u,r,.inr #[.inl G,c,t,U]]
      · rw[mo<|Ne.symm O]at D
        refine e1a2 (hl j y v' l D e3) λu' r' q=>?_
        refine#[u',r',?_]
        rcases q with q|⟨k,c',e,z'⟩
        · exact .inl q
        · refine .inr #[k, c', e, z'.sameBut f ?_]
          rintro rfl
          exact O<|Ht hN l<|I.ok.inj _ _ _ e t▸S
    · by_cases Z : c' = c
      · subst Z; exact#[_, U]
      · obtain⟨w2, z2⟩ := I.cell y c' e
        exact#[w2,z2.sameBut f Z]
    · obtain⟨e, n, ne, nf, d⟩ := I.pin p hp
      refine#[(f.2 p.1 ?_).trans e,n,ne,nf,d]
      intro q
      rw[q,W]at e
      have q':oc=p.2:=il e
      exact d w' (by rw[<- q'];exact Y)
def Hu{i:Nat}(I:Inv X pins σ H s)(b:X.N.Nodup)(c:X.N[i]?=↑x)(d:Loc X.env.scope x)(r:RelV v u)
 (h:∀a,Inv X pins (σ.set i<|↑v) H a->Q () a)(e:X.fn x=true\/X.env.scope.names.lookup x=some .local:=by first|exact .inl rfl|exact .inr rfl|assumption):gu M A (storeName X.env x u) Q E s :=
  EI I b c d r (λa f _=>h a f) e
def Inv.US{a:gn}(I:Inv X pins σ H s)(g:a.os=s.os)(u:Un (yz X.stack) ch H H' s.heap a.heap)(d:w4 X.prog X.w H' a.heap)(h:mE a.gens)
 (f:∀b∈ch,(b∈X.ex\/X.s₀.heap.objs.size<=b)/\b≠X.env.locals/\(∀x c,X.env.cells.lookup x=↑c->c≠b)/\∀p∈X.pn++pins,p.1≠b):Inv X pins σ H' a:=by
  obtain⟨m,i,j,k,l⟩:=a
  have e:l=s.os:=g
  subst e
  exact I.call (g':=i) (t':=k) (d':=j) u d h f
end
abbrev XK:=ci->Option cr->Hp->Prop
abbrev St:=List<|Option V
abbrev VK:=V->Hp->Prop
abbrev TE:=St->Hp->VK->Prop
abbrev TT:=St->Hp->(Bool->Hp->Prop)->Prop
abbrev TA:=St->Hp->(List V->Hp->Prop)->Prop
structure Ends where
 nx:St->Hp->Prop
 rt:VK
 bk:St->Hp->Prop:=λ_ _=>False
 ct:St->Hp->Prop:=λ_ _=>False
abbrev TS:=Ends->St->Hp->Prop
def EP(X:Cx)(a:List (cr×Obj))(c:St)(Q:VK)(u:ci)(d:gn):Prop:=∃v b,Inv X a c b d/\RelV v u/\Q v b
def TP(X:Cx)(a:List (cr×Obj))(d:St)(Q:Bool->Hp->Prop)(b:Bool)(e:gn):Prop:=∃c,Inv X a d c e/\Q b c
def AP(X:Cx)(a:List (cr×Obj))(d:St)(Q:List V->Hp->Prop)(e:List ci)(f:gn):Prop:=∃b c,Inv X a d c f/\Vals b e/\Q b c
def SP(X:Cx)(b:List (cr×Obj))(D:Ends)(f:Flow)(d:gn):Prop :=
 match f with
 | .next=>∃a c,Inv X b a c d/\D.nx a c
 | .brk=>∃a c,Inv X b a c d/\D.bk a c
 | .cont=>∃a c,Inv X b a c d/\D.ct a c
 | .ret u=>∃v a c,Inv X b a c d/\RelV v u/\D.rt v c
def PE(X:Cx)(e:hW)(t:TE):Prop :=
 ∀(a:List (cr×Obj)) (s:gn) (b:St) (H:Hp) (Q:VK),Inv X a b H s->t b H Q->gu (gv X.prog X.w) X.A (eval e X.env) (EP X a b Q) X.xe s
def PT(X:Cx)(e:hW)(t:TT):Prop :=
 ∀(a:List (cr×Obj)) (s:gn) (b:St) (H:Hp) (Q:Bool->Hp->Prop),Inv X a b H s->t b H Q->gu (gv X.prog X.w) X.A (qc e X.env<|eval e X.env) (TP X a b Q) X.xe s
def PW(X:Cx)(e:hW)(t:TT):Prop :=
 ∀(b:Sem ci) (a:List (cr×Obj)) (s:gn) (c:St) (H:Hp) (Q:Bool->Hp->Prop),Inv X a c H s->t c H Q->gu (gv X.prog X.w) X.A (qc e X.env b) (TP X a c Q) X.xe s
def PW.pt(h:PW X e t):PT X e t:=h _
def PA(X:Cx)(d:List hW)(t:TA):Prop :=
 ∀(b:Pos) (a:List (cr×Obj)) (s:gn) (c:St) (H:Hp) (Q:List V->Hp->Prop),Inv X a c H s->t c H Q->gu (gv X.prog X.w) X.A (tH<|iN b<|gf d X.env) (AP X a c Q) X.xe s
def PS(X:Cx)(c:gR)(t:TS):Prop :=
 ∀(a:List (cr×Obj)) (s:gn) (b:St) (H:Hp) (D:Ends),Inv X a b H s->t D b H->gu (gv X.prog X.w) X.A (exec c X.env) (SP X a D) X.xe s
def Em(X:Cx)(c:List gR)(t:TS):Prop :=
 ∀(a:List (cr×Obj)) (s:gn) (b:St) (H:Hp) (D:Ends),Inv X a b H s->t D b H->gu (gv X.prog X.w) X.A (execs c X.env) (SP X a D) X.xe s
def uT{b:Type}{t:Sem b}{Q c:b->gn->Prop}{M:Model}{A:iW}{E:ci->gn->Prop}{s:gn}(h:gu M A t Q E s)(d:∀a s,Q a s->c a s):gu M A t c E s:=iw h d λ_ _ x=>x
section
variable{X:Cx}
def uR(i:Nat):TE:=λa H Q=>∃v,a[i]?=↑(some v)/\Q v H
def tC(v:V):TE:=λ_ H Q=>Q v H
def IR{i:Nat}(n:X.N[i]?=↑x)(o:Vis X.env.scope x)(g:(x==("__debug__":Str))=false:=by decide)(j:(x==("__classdict__":Str))=false:=by decide):PE X (.Name x pos) (uR i):=by
 intro f s p H Q I h;refine e1a2 h λv e h=>?_;refine e1a2 I.loc λm q t=>?_;refine e1a2 (t i x v n e o) λu r l=>?_;have b:EP X f p Q u s:=#[v,H,I,r,h];rcases l with⟨d,w⟩|⟨d,c,k,a⟩
 ·exact oT (jX I.ok.kind d q w b) g
 ·rcases d with d|d
  ·exact oT (wpAny_loadName_cell I.ok.kind d k a b) g
  ·exact oT (pQ I.ok.kind d k a b j) g
def uH{i j pos}:PE X (.Constant (.int i) j pos) (tC<|.int i):=λ_ _ _ H _ I h=>wpAny_Constant_int #[.int i,H,I.tok _,#[_,rfl],h]
def XZ{b j pos}:PE X (.Constant (.bool b) j pos) (tC<|.bl b):=λ_ _ _ H _ I h=>Constant_bool #[.bl b,H,I,rfl,h]
def IS{j pos}:PE X (.Constant .none j pos) (tC .vT):=λ_ _ _ H _ I h=>Constant_none #[.vT,H,I,rfl,h]
def Fx{x j pos}:PE X (.Constant (.str x) j pos) (tC<|.str x):=λ_ _ _ H _ I h=>Calls.Constant_str #[.str x,H,I.tok _,#[_,rfl],h]
def Gl(X:Cx)(x:Str):Prop:=X.env.kindOf x=some .globalImplicit
def yE(I:Inv X a e H s)(b:Gl X x)(c:X.mg x=↑u)(h:Q u s)
 (d:(x==("__debug__":Str))=false:=by decide):gu (gv X.prog X.w) X.A (eval (.Name x pos) X.env) Q E s :=
  qw I.ok.kind b (Calls.loadGlobal_global (by rw[I.ok.glob];exact I.mod.glob.keeps I.bk) c h) d
def yF(I:Inv X a j H s)(b:Gl X x)(c:X.mg x=none)(d:l9 x=↑u)(h:Q u s)
 (e:x≠"__name__":=by decide)(f:(x==("__debug__":Str))=false:=by decide):gu (gv X.prog X.w) X.A (eval (.Name x pos) X.env) Q E s:=by
  refine e1a2 I.mod.blt λk g i=>?_
  exact qw I.ok.kind b (m9 (by rw[I.ok.glob];exact I.mod.glob.keeps I.bk) c (by rw[I.ok.blt];exact g.keeps I.bk) ((i x e).trans d) h) f
def RQ(a:Gl X x)(b:X.mg x=↑u)(r:RelV v u)(c:(x==("__debug__":Str))=false:=by decide):PE X (.Name x pos) (tC v) :=
 λ_ _ _ H _ I h=>yE I a b #[v,H,I,r,h] c
def Fy(a:Gl X x)(b:X.mg x=none)(c:l9 x=↑u)(r:RelV v u)(d:x≠"__name__":=by decide)(e:(x==("__debug__":Str))=false:=by decide):PE X (.Name x pos) (tC v) :=
 λ_ _ _ H _ I h=>yF I a b c #[v,H,I,r,h] d e
variable{a b:hW}{ta tb:TE}{pos:Pos}
def PC(X:Cx)(g:qx)(a b:hW)(t:TE):Prop :=
 ∀(c:List (cr×Obj)) (s:gn) (f:St) (H:Hp) (Q:VK),Inv X c f H s->t f H Q ->
  gu (gv X.prog X.w) X.A (eval a X.env) (λv d=>gu (gv X.prog X.w) X.A (eval b X.env) (λu e=>gu (gv X.prog X.w) X.A (iX g v u) (EP X c f Q) X.xe e) X.xe d) X.xe s
def Hv(b:hW)(h:op≠.In)(c:op≠.NotIn):iA op b=false:=by
 have d:(op==CmpOp.In)=false:=by cases op<;>first|rfl|exact gA rfl h
 have e:(op==CmpOp.NotIn)=false:=by cases op<;>first|rfl|exact gA rfl c
 cases b<;>simp[iA,d,e]
def tB(t:TE):TT:=λd H Q=>t d H λx e=>∃c,x=.bl c/\Q c e
def NS(h:PC X op a b t)(d:iA op b=false:=by first|exact Hv _ q0q q0q|rfl):PE X (.Compare a [op] [b] pos) t:=λc s e H Q I f=>rR (h c s e H Q I f) d
def IT{f:qx}{t:TE}(h:PC X f a b t)(g:iA f b=false:=by first|exact Hv _ q0q q0q|rfl):PT X (.Compare a [f] [b] pos) (tB t):=by intro e s i H Q I j;refine tW (uT (h e s i H _ I j) λv r g=>uT g λu w k=>uT k λc y l=>e2a3 l λx m n o p=>?_) g;obtain⟨d,rfl,q⟩:=p;cases o;exact jC #[m,n,q]
def VB{e:hW}{t:TE}(h:PE X e t)(g:∀c,qc e X.env c=(do let v <- c;md e.pos;jY [v] (tJ v)):=by intro _;rfl):PT X e (tB t):=by intro f s i H Q I j;refine isTrue_plain (uT (h f s i H _ I j) λv p k=>e2a3 k λx l m n o=>?_)<|g _;obtain⟨d,rfl,q⟩:=o;cases n;exact jC #[l,m,q]
variable{tA ZJ:TT}{rest:List hW}
def a0g(t u:TT):TT:=λd H Q=>t d H λc e=>if c=true then u d e Q else Q false e
def tOr(t u:TT):TT:=λd H Q=>t d H λc e=>if c=true then Q true e else u d e Q
def a0h(t:TT):TT:=λd H Q=>t d H λc e=>Q (!c) e
def RS(f:PT X a tA):PW X (.BoolOp .And [a] pos) tA:=by
 intro i d s g H Q I h;refine isTrue_and<|uT (f d s g H Q I h) λc j e=>?_
 cases c with
 |true=>exact isTrue_and_nil e
 |false=>exact e
def NT(f:PT X a tA):PW X (.BoolOp .Or [a] pos) tA:=by
 intro i d s g H Q I h;refine isTrue_or<|uT (f d s g H Q I h) λc j e=>?_
 cases c with
 |false=>exact isTrue_or_nil e
 |true=>exact e
def VC(j:PT X a tA)(k:PW X (.BoolOp .And (b::rest) pos) ZJ):PW X (.BoolOp .And (a::b::rest) pos) (a0g tA ZJ):=by
 intro l d s e H Q I h;refine isTrue_and<|uT (j d s e H _ I h) λc m n=>e1a2 n λf g i=>?_
 cases c with
 |true=>exact k l d m e f Q g i
 |false=>exact#[f,g,i]
def UT(j:PT X a tA)(k:PW X (.BoolOp .Or (b::rest) pos) ZJ):PW X (.BoolOp .Or (a::b::rest) pos) (tOr tA ZJ):=by
 intro l d s e H Q I h;refine isTrue_or<|uT (j d s e H _ I h) λc m n=>e1a2 n λf g i=>?_
 cases c with
 |true=>exact#[f,g,i]
 |false=>exact k l d m e f Q g i
def VD(e:PT X a tA):PT X (.UnaryOp .Not a pos) (a0h tA):=by intro d s f H Q I h;exact isTrue_not<|e d s f H (λc g=>Q (!c) g) I h
def X0(ta tb:TE):TE:=λd H Q=>ta d H λx e=>∃c,x=.bl c/\if c=true then tb d e Q else Q (.bl false) e
def a0i(ta tb:TE):TE:=λd H Q=>ta d H λx e=>∃c,x=.bl c/\if c=true then Q (.bl true) e else tb d e Q
def X1(ta:TE):TE:=λd H Q=>ta d H λx e=>∃c,x=.bl c/\Q (.bl<|!c) e
def VE{op}(h:PE X a t):PE X (.BoolOp op [a] pos) t:=λc s d H Q I e=>BoolOp_one<|h c s d H Q I e
def VF(j:PE X a ta)(k:PE X (.BoolOp .And (b::rest) pos) tb):PE X (.BoolOp .And (a::b::rest) pos) (X0 ta tb):=by
 intro d s f H Q I h;refine BoolOp_and<|uT (j d s f H _ I h) λv l m=>e2a3 m λx g i n e=>?_;obtain⟨c,rfl,e⟩:=e;cases n;refine jC ?_
 cases c with
 |true=>exact k d l f g Q i e
 |false=>exact#[.bl false,g,i,rfl,e]
def X2(j:PE X a ta)(k:PE X (.BoolOp .Or (b::rest) pos) tb):PE X (.BoolOp .Or (a::b::rest) pos) (a0i ta tb):=by
 intro d s f H Q I h;refine BoolOp_or<|uT (j d s f H _ I h) λv l m=>e2a3 m λx g i n e=>?_;obtain⟨c,rfl,e⟩:=e;cases n;refine jC ?_
 cases c with
 |false=>exact k d l f g Q i e
 |true=>exact#[.bl true,g,i,rfl,e]
def VG(f:PE X a ta):PE X (.UnaryOp .Not a pos) (X1 ta):=by intro d s g H Q I h;refine UnaryOp_<|uT (f d s g H _ I h) λv m i=>e2a3 i λx j k l e=>?_;obtain⟨c,rfl,e⟩:=e;cases l;exact not_of<|jC #[.bl<|!c,j,k,rfl,e]
end
def vF(K:f9)(H:Hp)(a:cr)(c:List V):Prop :=
 Rd H a (.lst c) \/
  ∃(o:Obj)(b:Array ci)(n:Nat),K.lookup a=↑o/\o.cls=.type "list"/\o.dict=none/\o.data=.seq b n/\b.size<=gk/\Vals c b.toList
def yA(K:f9)(H:Hp)(a:cr)(c:List V):Prop :=
 Rd H a (.tup c) \/
  ∃(o:Obj)(b:Array ci)(n:Nat),K.lookup a=↑o/\o.cls=.type "tuple"/\o.data=.seq b n/\b.size<=gk/\Vals c b.toList
noncomputable def a0j:ci->Option V
 | .none=>some .vT
 | .bool b=>some<|.bl b
 | .int i _=>some<|.int i
 | .str x _=>some<|.str x
 | .bytes b _=>some<|.K6 b
 | .float b _=>some<|.Vz b
 | .ref a=>some<|.ref a
 | .type n=>some<|.ty n
 |_=>none
def RelV.abs(r:RelV x u):a0j u=↑x:=by
 cases x with
 |vT=>cases r;rfl
 |bl _=>cases r;rfl
 |int _=>obtain⟨t,rfl⟩:=r;rfl
 |str _=>obtain⟨t,rfl⟩:=r;rfl
 |K6 _=>obtain⟨t,rfl⟩:=r;rfl
 |Vz _=>obtain⟨t,rfl⟩:=r;rfl
 |ref _=>cases r;rfl
 |ty _=>cases r;rfl
def RelV.inj(r:RelV x u)(q:RelV y u):x=y:=il<|r.abs.symm.trans q.abs
def Vals.inj:∀{d c:List V} {e:List ci},Vals d e->Vals c e->d=c:=by
 intro _ c _ z
 induction z generalizing c with
 |nil=>intro q;cases q;rfl
 |cons h t f=>intro q;cases q with|cons a b=>rw[h.inj a,f b]
def vF.of{K:f9}(h:H a=↑(.lst b)):vF K H a b:=.inl<|.inl h
def yA.of{K:f9}(h:H a=↑(.tup b)):yA K H a b:=.inl<|.inl h
def Inv.list(I:Inv X c j H s)(h:vF X.K H a d):∃b:List ci,Vals d b/\PlainL s.heap a b.toArray/\d.length<=gk:=by
 rcases h with h|⟨o,b,n,f,g,hd,i,k,r⟩
 ·obtain⟨z,b,n,r,e⟩:=h.ok I.uV;exact#[b,r,#[_,n,e,rfl,rfl,rfl],z]
 ·refine#[b.toList,r,#[o,n,I.xT a o f,g,hd,by simpa using i],?_];have e:=r.length;simp only[gr]at e
  lia
def Inv.tuple(I:Inv X c j H s)(h:yA X.K H a d):∃b:List ci,Vals d b/\IsTup s.heap a b.toArray/\d.length<=gk:=by
 rcases h with h|⟨o,b,n,f,g,i,k,r⟩
 ·obtain⟨z,b,r,p⟩:=h.ok I.uV;exact#[b,r,p,z]
 ·refine#[b.toList,r,#[o,I.xT a o f,g,n,by simpa using i],?_];have e:=r.length;simp only[gr]at e
  lia
def Inv.Hw(I:Inv X f q H s)(h:vF X.K H a j)(k:vF X.K H a l):j=l:=by
 obtain⟨c,r,⟨o,n,e,_,_,d⟩,_⟩:=I.list h;obtain⟨b,m,⟨t,u,g,_,_,i⟩,_⟩:=I.list k;rw[e]at g;cases g;rw[d]at i;injection i with p _;have:c=b:=by simpa using congrArg rr p
 subst this;exact r.inj m
def Inv.Ms(I:Inv X f q H s)(h:yA X.K H a j)(k:yA X.K H a l):j=l:=by
 obtain⟨c,r,⟨o,e,_,n,d⟩,_⟩:=I.tuple h;obtain⟨b,m,⟨t,g,_,u,i⟩,_⟩:=I.tuple k;rw[e]at g;cases g;rw[d]at i;injection i with p _;have:c=b:=by simpa using congrArg rr p
 subst this;exact r.inj m
noncomputable abbrev Cx.Eo(X:Cx)(E:ci->gn->Prop):Cx:={ X with xe:=E}
noncomputable abbrev Cx.ZK(X:Cx):Cx:=X.Eo λ_ _=>False
def Cx.Ok.Eo{X:Cx}(a:X.Ok)(E:ci->gn->Prop):(X.Eo E).Ok :=
 #[a.mod,a.kind,a.glob,a.blt,a.above,a.inj,a.has,a.NM,a.hd,a.frames,a.Br,a.RP,a.bs,a.Hr,a.Cp,a.CW,a.xI,a.IL]
def Cx.Ok.zc{X:Cx}{E:ci->gn->Prop}(a:(X.Eo E).Ok):X.Ok :=
 #[a.mod,a.kind,a.glob,a.blt,a.above,a.inj,a.has,a.NM,a.hd,a.frames,a.Br,a.RP,a.bs,a.Hr,a.Cp,a.CW,a.xI,a.IL]
def Inv.Eo(I:Inv X a b H s)(E:ci->gn->Prop):Inv (X.Eo E) a b H s:=#[I.ok.Eo E,I.os,I.bare,I.base,I.loc,I.cell,I.free,I.xo,I.pin,I.uV,I.len]
def Inv.zc(I:Inv (X.Eo E) a b H s):Inv X a b H s:=#[I.ok.zc,I.os,I.bare,I.base,I.loc,I.cell,I.free,I.xo,I.pin,I.uV,I.len]
def SP.zc(h:SP (X.Eo E) c D f d):SP X c D f d:=by
 cases f with
 |next=>obtain⟨a,b,I,q⟩:=h;exact#[a,b,I.zc,q]
 |brk=>obtain⟨a,b,I,q⟩:=h;exact#[a,b,I.zc,q]
 |cont=>obtain⟨a,b,I,q⟩:=h;exact#[a,b,I.zc,q]
 |ret u=>obtain⟨v,a,b,I,r,q⟩:=h;exact#[v,a,b,I.zc,r,q]
def Em.ZK{b:List gR}(h:Em X.ZK b t):Em X b t:=λa s c H D I d =>
 iw (h a s c H D (I.Eo _) d) (λ_ _ q=>q.zc) λ_ _ z=>gX z
section
variable{X:Cx}{st:gR}{rest:List gR}{t u:TS}
def UU:TS:=λD a H=>D.nx a H
def IU(t u:TS):TS:=λD a H=>t { D with nx:=u D} a H
def yG:Em X [] UU:=λ_ _ a H _ I h=>mX #[a,H,I,h]
def vB(c:PS X st t)(d:Em X rest u):Em X (st::rest) (IU t u):=by
 intro a s e H D I h;refine wpAny_execs_cons<|uT (c a s e H { D with nx:=u D} I h) λf g q=>?_
 cases f with
 |next =>
  refine e2a2 q λb i j q=>?_;exact d a g b i D j q
 |ret v=>exact q
 |brk=>exact q
 |cont=>exact q
def wV(b:PS X st t):Em X [st] t:=by
 intro a s c H D I h;refine wpAny_execs_cons<|uT (b a s c H D I h) λf d q=>?_
 cases f with
 |next=>exact mX q
 |ret v=>exact q
 |brk=>exact q
 |cont=>exact q
def Inv.quiet(I:Inv X a b H s):interactive X.env=false:=by simp[interactive,I.ok.kind]
def Hx(b:TE):TS:=λD a H=>b a H λ_ c=>D.nx a c
def AJ(c:PE X e d)(f:js e none pos.line X.env=pure false:=by rfl):PS X (.Expr e pos) (Hx d):=by intro a s b H D I h;exact wpAny_Expr_any (uT (c a s b H _ I h) λv l g=>e2a3 g λx i j m k=>#[b,i,j,k]) I.quiet f
def VH(a:TE):TS:=λD b H=>a b H D.rt
def Bv(c:PE X e d):PS X (.Return ↑e pos) (VH d):=by intro a s b H D I h;exact wpAny_Return_some<|uT (c a s b H _ I h) λv l f=>e2a3 f λx g i j k=>#[x,b,g,i,j,k]
def a0k(c:TT)(t u:TS):TS:=λD a H=>c a H λb d=>if b=true then t D a d else u D a d
def K9{c:hW}{a b:List gR}{g:TT}(m:PT X c g)(n:Em X a t)(o:Em X b u):PS X (.If c a b pos) (a0k g t u):=by
 intro e s f H D I h;refine wpAny_If<|uT (m e s f H _ I h) λd i p=>e1a2 p λj k l=>?_
 cases d with
 |true=>exact n e i f j D k l
 |false=>exact o e i f j D k l
def VI:TS:=λ_ _ _=>False
def Mt:Em X a VI:=λ_ _ _ _ _ _ h=>h.elim
end
abbrev TG:=V->St->Hp->(St->Hp->Prop)->Prop
abbrev Xy:=List V->St->Hp->(St->Hp->Prop)->Prop
def PG(X:Cx)(a:hW)(t:TG):Prop :=
 ∀(b:List (cr×Obj)) (s:gn) (d:St) (H:Hp) (v:V) (u:ci) (Q:St->Hp->Prop),Inv X b d H s->RelV v u->t v d H Q ->
  gu (gv X.prog X.w) X.A (rS a X.env u) (λ_ f=>∃c e,Inv X b c e f/\Q c e) X.xe s
def ZL(X:Cx)(g:List hW)(t:Xy):Prop :=
 ∀(a:List (cr×Obj)) (s:gn) (c:St) (H:Hp) (d:List V) (e:List ci) (Q:St->Hp->Prop),Inv X a c H s->Vals d e->t d c H Q ->
  gu (gv X.prog X.w) X.A (assignInOrder ((oU g X.env).map (·.2)) e) (λ_ h=>∃b f,Inv X a b f h/\Q b f) X.xe s
abbrev NU:=V->V->V->Hp->(Hp->Prop)->Prop
def VJ(X:Cx)(t:NU):Prop :=
 ∀(a:List (cr×Obj)) (s:gn) (b:St) (H:Hp) (o i v:V) (c d u:ci) (Q:Hp->Prop),Inv X a b H s->RelV o c->RelV i d->RelV v u->t o i v H Q ->
  gu (gv X.prog X.w) X.A (rH c d u) (λ_ f=>∃e,Inv X a b e f/\Q e) X.xe s
abbrev ZM:=V->V->Hp->VK->Prop
def PIp(X:Cx)(c:Operator)(t:ZM):Prop :=
 ∀(a:List (cr×Obj)) (s:gn) (b:St) (H:Hp) (x y:V) (v u:ci) (Q:VK),Inv X a b H s->RelV x v->RelV y u->t x y H Q ->
  gu (gv X.prog X.w) X.A (inplaceOp c v u) (EP X a b Q) X.xe s
def B5(i:Nat):TG:=λv a H Q=>Q (a.set i<|↑v) H
def uw{i:Nat}(b:X.N.Nodup)(c:X.N[i]?=↑x:=by rfl)(d:Loc X.env.scope x:=by exact lU rfl)(e:X.fn x=true\/X.env.scope.names.lookup x=some .local:=by first|exact .inl rfl|exact .inr rfl|assumption):PG X (.Name x pos) (B5 i):=by intro a s g H v u Q I r h;exact wpAny_assign_Name<|Hu I b c d r (λj f=>#[_,H,f,h]) e
def VL:Xy:=λa b H Q=>a=[]/\Q b H
def EJ(t:TG)(u:Xy):Xy:=λb c H Q=>∃v r,b=v::r/\t v c H λa d=>u r a d Q
def zO:ZL X [] VL:=by intro a s b H c d Q I r h;obtain⟨e,h⟩:=h;subst e;cases r;exact assignInOrder_nil #[b,H,I,h]
def vN{e:hW}{b:List hW}{t:TG}{u:Xy}(d:PG X e t)(f:ZL X b u)
  (g:(oU (e::b) X.env).map (·.2)=rS e X.env::(oU b X.env).map (·.2):=by rfl):ZL X (e::b) (EJ t u):=by
 intro a s i H q w Q I r h;obtain⟨v,x,j,h⟩:=h;subst j
 cases r with
 |cons r k =>
  rw[g];refine assignInOrder_cons<|uT (d a s i H _ _ _ I r h) λ_ l m=>e2a2 m λc n o p=>?_;exact f a l c n _ _ Q o k p
def VM(K:f9)(n:Nat)(t:Xy):TG:=λv c H Q=>∃a b,v=.ref a/\yA K H a b/\b.length=n/\t b c H Q
def Bw{k:Nat}{n:Nat}(l:X.calm=true)(h:ZL X d t)
 (m:(oU d X.env).length=n:=by rfl)(f:(oU d X.env).findIdx? (·.1)=none:=by rfl):PG X (.Tuple d k pos) (VM X.K n t):=by
  intro c s i H v u Q I r g
  obtain⟨a,p,q,w,x,g⟩:=g
  subst q
  cases r
  obtain⟨y,j,z,D⟩:=I.tuple w
  refine assign_Tuple_tuple (I.ok.hd l) z (by simp[m,<- x,j.length]) f λA B=>?_
  have C:Inv X c i H { s with heap:=A}:=I.kept (t':=s.toks) λb o e=>B b o (gB<|gp e) e
  exact h c _ i H p _ Q C (by simpa using j) g
def a0m(b c:TE)(t:NU):TG:=λv a H Q=>b a H λo d=>c a d λi e=>t o i v e λf=>Q a f
def NW{o i:hW}{f g:TE}{t:NU}(j:PE X o f)(k:PE X i g)(l:VJ X t)
  (m:∀v,rS (.Subscript o i pos) X.env v=(do
   let b <- jY [v] (eval o X.env)
   let c <- jY [v,b] (eval i X.env)
   md pos
   jY [v,b,c] (rH b c v)
   release [v,b,c] []):=by intro _;rfl):PG X (.Subscript o i pos) (a0m f g t):=by
 intro a s e H v u Q I r h;rw[m];refine am<|gY<|uT (j a s e H _ I h) λb n d=>e2a3 d λx p q w z=>?_;refine am<|gY<|uT (k a n e p _ q z) λc A d=>e2a3 d λy B C D E=>?_;refine am<|mG<|am<|gY<|uT (l a A e B x y v b c u _ C w D r E) λ_ L d=>e1a2 d λF G J=>?_;exact wpAny_release #[e,F,G,J]
def VN(b:TE)(g:TG):TS:=λD a H=>b a H λx c=>g x a c D.nx
def IV{b e:hW}{c:TE}{g:TG}(f:PE X e c)(i:PG X b g)(j:swapsWithSole [b] e pos.line X.env=pure false:=by rfl)(hw:swappedStores [b] e X.env=pure none:=by rfl)
  (k:(oU [b] X.env).map (·.2)=[rS b X.env]:=by rfl):PS X (.Assign [b] e pos) (VN c g):=by
 intro a s d H D I h;refine wpAny_Assign_stores (uT (f a s d H _ I h) λv l m=>e2a3 m λx n o p r=>?_) j hw;rw[k];exact uT (i a l d n x v _ o p r) λ_ t q=>q
def zd{i:Nat}{x:Str}{e:hW}{c:TE}{a:Pos}(d:X.N.Nodup)(f:X.N[i]?=↑x)(g:Loc X.env.scope x)(j:PE X e c)(k:js e (some<|.Name x a) pos.line X.env=pure false:=by rfl)(l:X.fn x=true\/X.env.scope.names.lookup x=some .local:=by first|exact .inl rfl|exact .inr rfl|assumption) :
  PS X (.Assign [.Name x a] e pos) (VN c<|B5 i):=by
 intro b s m H D I h;refine wpAny_Assign_Name (uT (j b s m H _ I h) λv u n=>e2a3 n λy o p q r=>?_) k;exact Hu p d f g q (λw t=>#[_,o,t,r]) l
def X3(e f g:TE)(a:V->V->Hp->VK->Prop)(d:ZM)(b:NU):TS:=λD c H=>e c H λo h=>f c h λi j=>a o i j λx k=>g c k λy l=>d x y l λz m=>b o i z m λn=>D.nx c n
def X4(X:Cx)(t:V->V->Hp->VK->Prop):Prop :=
 ∀(a:List (cr×Obj)) (s:gn) (b:St) (H:Hp) (o i:V) (c d:ci) (Q:VK),Inv X a b H s->RelV o c->RelV i d->t o i H Q ->
  gu (gv X.prog X.w) X.A (nc c d) (EP X a b Q) X.xe s
def RT{o i e:hW}{p q r:TE}{d:V->V->Hp->VK->Prop}{l:ZM}{f:NU}{t:Operator}{m:Pos}(z:PE X o p)(A:PE X i q)(B:X4 X d)(C:PE X e r)(E:PIp X t l)(F:VJ X f)
  (G:∀g j b,augStore i g j b=(do jY [b,g,j] (rH g j b);release [b,g,j] [];pure .next):=by intros;rfl):PS X (.AugAssign (.Subscript o i m) t e pos) (X3 p q r d l f):=by
 intro a s k H D I h;refine rs (uT (z a s k H _ I h) λg J c=>e2a3 c λu L M w N=>?_) G;refine uT (A a J k L _ M N) λj O c=>e2a3 c λx P Q y R=>?_;refine uT (B a O k P u x g j _ Q w y R) λn S c=>e2a3 c λT U W Y Z=>?_;refine uT (C a S k U _ W Z) λv s4 c=>e2a3 c λx4 H4 I4 r4 q4=>?_;refine uT (E a s4 k H4 T x4 n v _ I4 Y r4 q4) λb s5 c=>e2a3 c λx5 H5 I5 r5 q5=>?_;exact uT (F a s5 k H5 u x x5 g j b _ I5 w y r5 q5) λ_ s6 c=>e1a2 c λH6 I6 q6=>#[k,H6,I6,q6]
def ipI(f:Int->Int->Int):ZM:=λx y H Q=>∃i j,x=.int i/\y=.int j/\Q (.int<|f i j) H
def NX:PIp X .Add (ipI λi j=>i+j):=by intro a s f H x y v u Q I b c h;obtain⟨i,j,d,e,q⟩:=h;subst d;subst e;obtain⟨t,rfl⟩:=b;obtain⟨g,rfl⟩:=c;exact iadd_int #[.int _,H,I.tok _,#[_,rfl],q]
def VO:PIp X .Sub (ipI λi j=>i-j):=by intro a s f H x y v u Q I b c h;obtain⟨i,j,d,e,q⟩:=h;subst d;subst e;obtain⟨t,rfl⟩:=b;obtain⟨g,rfl⟩:=c;exact isub_int #[.int _,H,I.tok _,#[_,rfl],q]
def VP(c:TT)(h:TS):TS:=λD a H=>∃W:Nat->St->Hp->Prop,(∃m,W m a H)/\∀m a H,W m a H ->
 c a H λb e=>if b=true then ∃N:St->Hp->Prop,(∀d f,N d f->∃g,g<m/\W g d f)/\h { D with nx:=N,ct:=N,bk:=D.nx} a e else D.nx a e
def NY{c:hW}{g:List gR}{u:TT}{x:TS}(y:qO (gv X.prog X.w) X.A X.env X.xe)(F:PT X c u)(G:Em X g x):PS X (.While c g [] pos) (VP u x):=by
 intro a s J H D I h;obtain⟨W,⟨L,M⟩,i⟩:=h;refine wpAny_While<|codeAny_whileLoop (λn O=>∃j z,Inv X a j z O/\W n j z) ?_ L #[J,H,I,M];rintro n P ⟨e,H1,Q,R⟩;refine kJ y<|uT (F a P e H1 _ Q<|i n e H1 R) λb S T=>e1a2 T λB C l=>?_
 cases b with
 |true =>
  refine e1a2 l λN E l=>?_;rw[ga rfl];refine kJ y<|uT (G a S e B _ C l) λf U m=>?_
  cases f with
  |next =>
   refine e2a2 m λd k o p=>?_;refine e1a2 (E d k p) λq r t=>?_;exact#[q,r,d,k,o,t]
  |cont =>
   refine e2a2 m λd k o p=>?_;refine e1a2 (E d k p) λq r t=>?_;exact#[q,r,d,k,o,t]
  |brk=>exact m
  |ret v=>exact m
 |false =>
  rw[gc gw];exact mX #[e,B,C,l]
structure It where
 go:Nat->Hp->Prop
 Hk:Nat->Hp->V->Hp->Prop
 stop:Nat->Hp->Prop
def Av(X:Cx)(a:List (cr×Obj))(H:Hp)(b:cr):Prop :=
 H b=none/\b≠X.env.locals/\b∉X.fs/\(b∈X.ex\/X.s₀.heap.objs.size<=b)/\(∀x c,X.env.cells.lookup x=↑c->c≠b)/\∀p∈X.pn++a,p.1≠b
def Inv.Fz(I:Inv X a i H s)(d:⇑s<=b)(f:g b=none):Av X a g b:=by
 refine#[f,iK<|gG I.lt d,I.a0e d,.inr<|gW I.sz d,λx c e z=>?_,λp h z=>?_]
 ·obtain⟨v,q⟩:=I.cell x c e;exact gA (gG q.lt<|by rw[z];exact d)<|jm _
 ·exact gA (gG (gp (I.pin p h).1)<|by rw[z];exact d)<|jm _
structure Turn(P:gV)(w:ii)(K:f9)(tg:hW)(J:It)(fp:List cr)(it:cr)(tn:Nat->hX->Prop):Prop where
 mem:it∈fp
 obj:∀i h,tn i h->∀b∈fp,∃o,h.get? b=↑o/\∀v,o.data≠.cell v
 keep:∀i h h',tn i h->(∀b∈fp,∀o,h.get? b=↑o->h'.get? b=↑o)->tn i h'
 item:∀(X:Cx),X.prog=P->X.w=w->X.K=K->X.calm=true->∀(i:Nat) (pins:List (cr×Obj)) (s:gn) (σ:St) (H:Hp) (E:ci->gn->Prop),Inv X pins σ H s->(∀b∈fp,Av X pins H b)->tn i s.heap->J.go i H ->
  gu (gv P w) X.A (pyNext (.ref it)) (λr s1=>∃u,r=↑u /\
   gu (gv P w) X.A (rA tg (.ref it) u) (λ_ s2=>∃x H',Inv X pins σ H' s2/\RelV x u/\J.Hk i H x H'/\tn (i+1) s2.heap/\∀b∈fp,H' b=none) E s1) E s
 done:∀(X:Cx),X.prog=P->X.w=w->X.K=K->X.calm=true->∀(i:Nat) (pins:List (cr×Obj)) (s:gn) (σ:St) (H:Hp) (E:ci->gn->Prop),Inv X pins σ H s->(∀b∈fp,Av X pins H b)->tn i s.heap->J.stop i H ->
  gu (gv P w) X.A (pyNext<|.ref it) (λr s1=>r=none/\Inv X pins σ H s1) E s
 self:∀(A:iW)(i:Nat)(s:gn)(Q:ci->gn->Prop)(E:ci->gn->Prop),tn i s.heap->Q (.ref it) s->gu (gv P w) A (pyIter<|.ref it) Q E s
abbrev TI:=St->Hp->(It->Hp->Prop)->Prop
def PIE(X:Cx)(a:List (cr×Obj))(i:St)(j:hW)(R:It->Hp->Prop)(c:ci)(e:gn):Prop :=
 ∃(f:cr)(g:List cr)(h:Nat->hX->Prop)(J:It)(d:Hp),c=.ref f/\Inv X a i d e/\Turn X.prog X.w X.K j J g f h/\h 0 e.heap/\(∀b∈g,Av X a d b)/\R J d
def PI(X:Cx)(d b:hW)(e:TI):Prop :=
 ∀(a:List (cr×Obj)) (s:gn) (c:St) (H:Hp) (R:It->Hp->Prop),Inv X a c H s->e c H R ->
  gu (gv X.prog X.w) X.A (eval b X.env) (λv f=>gu (gv X.prog X.w) X.A (pyIter v) (PIE X a c d R) X.xe f) X.xe s
def NZ{s:gn}(b:s.heap.get? c=↑o)(d:o.cls=.type n)(e:o.data=.fields f)
 (g:["enumerate","zip","dict_itemiterator","dict_reverseitemiterator","odict_iterator","itertools.zip_longest","itertools.pairwise"].contains n=false)(a:Q () s):gu M A (rA i (.ref c) u) Q E s:=by
  cases i<;>first
    | exact ap a
    | (cases u<;>first
        | exact ap a
        | (refine am (qd b ?_)
           rw[d,e]
           show gu M A (if (["enumerate","zip","dict_itemiterator","dict_reverseitemiterator","odict_iterator","itertools.zip_longest","itertools.pairwise"].contains n&&f[0]?==↑(kO _))=true then _ else _) Q E s
           rw[gc<|by intro h;rw[g,Bool.false_and]at h;cases h]
           exact ap a))
noncomputable def Xz(K:f9)(a:cr):It :=
 #[λi H=>∃b x,vF K H a b/\b[i]?=↑x,λi H x c=>c=H/\∀b,vF K H a b->b[i]?=↑x,λi H=>∃b,vF K H a b/\b.length<=i]
noncomputable def Itt(K:f9)(a:cr):It :=
 #[λi H=>∃b x,yA K H a b/\b[i]?=↑x,λi H x c=>c=H/\∀b,yA K H a b->b[i]?=↑x,λi H=>∃b,yA K H a b/\b.length<=i]
noncomputable def VQ(a:Int)(n:Nat):It:=#[λi _=>i<n,λi H x b=>b=H/\x=.int (a+i),λi _=>n<=i]
def Mu{P:gV}{w:ii}{K:f9}{tg:hW}(a it:cr):Turn P w K tg (Xz K a) [it] it (λi h=>h.IsListIter it a i) where
 mem:=by simp
 obj:=λi h st b hb=>by
  have e:b=it:=by simpa using hb
  subst e;refine e1a3 st λo e c d=>?_;exact#[o,e,λv z=>by rw[d]at z;cases z]
 keep:=λi h h' st k=>st.at λo e=>k it q0o o e
 item:=by intro X hP hw hK hc i pins s σ H E I hf st hg;subst hP hw hK;refine e2a2 hg λxs x hq hx=>?_;refine e1a3 (I.list hq) λza rv p hz=>?_;refine e1a2 (rv.get hx) λu hu ru=>?_;refine e0a6 (hf it q0o) λf0 f1 f2 f3 f4 f5=>?_;refine wpAny_pyNext_list_item st p.isList (x:=u) (by simpa using hu) λh' UV sb=>?_;have I1:Inv X pins σ H { s with heap:=h'}:=I.turned (t':=s.toks) (λb o hb e=>(sb.2 b hb).trans e) f0 f1 f3 f4 f5;refine e1a3 (id UV) λo e c d=>?_;exact#[u,rfl,NZ (s:={ s with heap:=h'}) e c d q0q #[x,H,I1,ru,#[rfl,λys hy=>by rw[I.Hw hy hq];exact hx],UV,λb hb=>(hf b hb).1]]
 done:=by intro X hP hw hK hc i pins s σ H E I hf st hg;subst hP hw hK;refine e1a2 hg λxs hq hx=>?_;refine e1a3 (I.list hq) λza rv p hz=>?_;refine e0a6 (hf it q0o) λf0 f1 f2 f3 f4 f5=>?_;have hl:=rv.length;exact wpAny_pyNext_list_end (I.ok.hd hc) st p.isList (by simp;lia) λh' eb=>#[rfl,I.turned (t':=s.toks) (λb o hb e=>eb b o hb e) f0 f1 f3 f4 f5]
 self:=λ_ _ _ _ _ st h=>wpAny_pyIter_listiter st h
def IY{P:gV}{w:ii}{K:f9}{tg:hW}(a it:cr):Turn P w K tg (Itt K a) [it] it (λi h=>h.IsTupleIter it a i) where
 mem:=by simp
 obj:=λi h st b hb=>by
  have e:b=it:=by simpa using hb
  subst e;refine e1a3 st λo e c d=>?_;exact#[o,e,λv z=>by rw[d]at z;cases z]
 keep:=λi h h' st k=>st.at λo e=>k it q0o o e
 item:=by intro X hP hw hK hc i pins s σ H E I hf st hg;subst hP hw hK;refine e2a2 hg λxs x hq hx=>?_;refine e1a3 (I.tuple hq) λza rv p hz=>?_;refine e1a2 (rv.get hx) λu hu ru=>?_;refine e0a6 (hf it q0o) λf0 f1 f2 f3 f4 f5=>?_;refine wpAny_pyNext_tuple_item st (show s.heap.IsTuple a za.toArray from p) (x:=u) (by simpa using hu) λh' UV sb=>?_;have I1:Inv X pins σ H { s with heap:=h'}:=I.turned (t':=s.toks) (λb o hb e=>(sb.2 b hb).trans e) f0 f1 f3 f4 f5;refine e1a3 (id UV) λo e c d=>?_;exact#[u,rfl,NZ (s:={ s with heap:=h'}) e c d q0q #[x,H,I1,ru,#[rfl,λys hy=>by rw[I.Ms hy hq];exact hx],UV,λb hb=>(hf b hb).1]]
 done:=by intro X hP hw hK hc i pins s σ H E I hf st hg;subst hP hw hK;refine e1a2 hg λxs hq hx=>?_;refine e1a3 (I.tuple hq) λza rv p hz=>?_;refine e0a6 (hf it q0o) λf0 f1 f2 f3 f4 f5=>?_;have hl:=rv.length;exact wpAny_pyNext_tuple_end (I.ok.hd hc) st (show s.heap.IsTuple a za.toArray from p) (by simp;lia) λh' eb=>#[rfl,I.turned (t':=s.toks) (λb o hb e=>eb b o hb e) f0 f1 f3 f4 f5]
 self:=λ_ _ _ _ _ st h=>wpAny_pyIter_tupleiter st h
def IZ{P:gV}{w:ii}{K:f9}{tg:hW}(it:cr)(lo:Int)(n:Nat):Turn P w K tg (VQ lo n) [it] it (λi h=>IsRangeIter h it (lo+(i:Nat)*1) ((n:Int)-(i:Nat)) 1) where
 mem:=by simp
 obj:=λi h st b hb=>by
  have e:b=it:=by simpa using hb
  subst e
  exact#[_,st,λv z=>by
   have z':sA _=Data.cell v:=z
   cases z']
 keep:=λi h h' st k=>k it q0o _ st
 item:=by intro X hP hw hK hc i pins s σ H E I hf st hg;subst hP hw hK;refine e0a6 (hf it q0o) λf0 f1 f2 f3 f4 f5=>?_;have W:=Walks.range (prog:=X.prog) (w:=X.w) (I.ok.hd hc) it lo 1 n;refine W.item i s _ _ hg st λv h' tk hv UV kk=>?_;obtain⟨t,rfl⟩:=hv;have I1:Inv X pins σ H { s with heap:=h',toks:=tk}:=I.turned (λb o hb e=>kk b o (by simpa using hb) e) f0 f1 f3 f4 f5;refine#[_,rfl,NZ (s:={ s with heap:=h',toks:=tk}) (n:="range_iterator") UV rfl rfl q0q #[.int<|lo+i,H,I1,⟨t,?_⟩,⟨rfl,rfl⟩,UV,λb hb=>(hf b hb).1]];rw[Int.mul_one]
 done:=by intro X hP hw hK hc i pins s σ H E I hf st hg;refine e0a6 (hf it q0o) λf0 f1 f2 f3 f4 f5=>?_;exact wpAny_pyNext_range_end (I.ok.hd hc) st (by have:n<=i:=hg;lia) λh' eb=>#[rfl,I.turned (t':=s.toks) (λb o hb e=>eb b o hb e) f0 f1 f3 f4 f5]
 self:=λ_ _ _ _ _ st h=>wpAny_pyIter_rangeiter st h
def X5(K:f9)(c:TE):TI:=λd H R=>c d H λx b=>∃a,x=.ref a/\(∃e,vF K b a e)/\R (Xz K a) b
def a0p(K:f9)(c:TE):TI:=λd H R=>c d H λx b=>∃a,x=.ref a/\(∃e,yA K b a e)/\R (Itt K a) b
def FA{l:hW}{g:TE}(i:PE X l g):PI X y l (X5 X.K g):=by
 intro c s j H R I h;refine uT (i c s j H _ I h) λv d k=>e2a3 k λx m f n r=>?_;obtain⟨a,e,⟨z,t⟩,q⟩:=r;subst e;cases n;refine e1a3 (f.list t) λu A p B=>?_;refine wpAny_pyIter_list p.isList ?_;refine#[⇑d,[⇑d],_,_,m,rfl,f.kept (t':=d.toks) λb o e=>ce _ e,Mu a _,#[_,gx _ rfl,rfl,rfl],λb w=>?_,q];have e:b=⇑d:=by simpa using w
 subst e;exact f.Fz (gg _)<|f.uV.fresh<|gg _
def VR{l:hW}{i:TE}(j:PE X l i):PI X y l (a0p X.K i):=by
 intro c s k H R I h;refine uT (j c s k H _ I h) λv d m=>e2a3 m λx n f r t=>?_;obtain⟨a,e,⟨z,u⟩,q⟩:=t;subst e;cases r;refine e1a3 (f.tuple u) λg A p B=>?_;refine qe (show d.heap.IsTuple a g.toArray from p) ?_;refine#[⇑d,[⇑d],_,_,n,rfl,f.kept (t':=d.toks) λb o e=>ce _ e,IY a _,#[_,gx _ rfl,rfl,rfl],λb w=>?_,q];have e:b=⇑d:=by simpa using w
 subst e;exact f.Fz (gg _)<|f.uV.fresh<|gg _
def Hy{a c:Int}{f:Nat}(I:Inv X d h H s)(i:-(2 ^ 62)<=a)(j:a<2 ^ 62)(k:-(2 ^ 62)<=c)(l:c<2 ^ 62)
 (q:R (VQ a (c-a).toNat) H):gu (gv X.prog X.w) X.A (pyIter<|.ref ⇑s) (PIE X d h r R) E { s with heap:=s.heap.push { cls:=.type "range",data:=.fields #v[.int a t,.int c u,.int 1 v]},toks:=f}:=by
  refine wpAny_pyIter_range (IsRange.new ..) (small_one i j k l) ?_
  have g:Inv X d h H { s with heap:=s.heap.push { cls:=.type "range",data:=.fields #v[.int a t,.int c u,.int 1 v]},toks:=f}:=I.kept λb o e=>ce _ e
  refine#[(s.heap.push { cls:=.type "range",data:=.fields #v[.int a t,.int c u,.int 1 v]}).objs.size,[(s.heap.push { cls:=.type "range",data:=.fields #v[.int a t,.int c u,.int 1 v]}).objs.size],_,_,H,rfl,
    g.kept (t':=f) λb o e=>ce _ e,IZ _ a (c-a).toNat,?_,λb m=>?_,q]
  · have n : a+((0 : Nat) : Int)*1 = a := by simp
    have p:(((c-a).toNat:Nat):Int)-((0:Nat):Int)=Builtin.Range.rangeSize a c 1:=by rw[rangeSize_one];split<;>lia
    rw[n,p]
    exact gx _ rfl
  · have e : b = (s.heap.push { cls := .type "range", data := .fields #v[.int a t, .int c u, .int 1 v] }).objs.size := by simpa using m
    subst e
    exact g.Fz (gg _)<|g.uV.fresh<|gg _
def X6(a:TA):TI:=λb H R=>a b H λc d=>∃j:Int,c=[.int j]/\-(2 ^ 62)<=j/\j<2 ^ 62/\R (VQ 0 j.toNat) d
def UW(a:TA):TI:=λb H R=>a b H λc d=>∃i j:Int,c=[.int i,.int j]/\(-(2 ^ 62)<=i/\i<2 ^ 62/\-(2 ^ 62)<=j/\j<2 ^ 62)/\R (VQ i (j-i).toNat) d
def Mv{a:hW}{f:TA}{p b:Pos}(g:Gl X "range")(i:X.mg "range"=none)(k:PA X [a] f)(l:gf [a] X.env=[(false,eval a X.env)]:=by rfl):PI X x (.Call (.Name "range" p) [a] [] b) (X6 f):=by
 intro c s m H R I h;refine Call_<|yF I g i boot_range<|jv (uT (k b c s m H _ I h) λy z n=>e2a3 n λA B o u d=>?_) l rfl;obtain⟨j,e,d,v,q⟩:=d;subst e
 cases u with
 |cons r w =>
  cases w;obtain⟨t,rfl⟩:=r;exact call_range_1<|Hy o q0a q0a d v (by simpa using q)
def Mw{a b:hW}{l:TA}{p c:Pos}(m:Gl X "range")(n:X.mg "range"=none)(o:PA X [a,b] l)(u:gf [a,b] X.env=[(false,eval a X.env),(false,eval b X.env)]:=by rfl)(d:gf [b] X.env=[(false,eval b X.env)]:=by rfl) :
  PI X C (.Call (.Name "range" p) [a,b] [] c) (UW l):=by
 intro f s v H R I h;refine Call_<|yF I m n boot_range<|jv (uT (o c f s v H _ I h) λD E ⟨F,H1,w,x,g⟩=>?_) (by rw[u,d]) (by rw[d];rfl);obtain⟨i,j,e,⟨g,y,z,A⟩,q⟩:=g;subst e
 cases x with
 |cons r k =>
  cases k with
  |cons B k =>
   cases k;obtain⟨t,rfl⟩:=r;obtain⟨G,rfl⟩:=B;exact call_range_2<|Hy w g y z A q
def a0q(f:TI)(g:TG)(h:TS):TS:=λD a H=>f a H λJ j=>∃W:Nat->Nat->St->Hp->Prop,(∃m,W 0 m a j)/\∀i m a H,W i m a H ->
 (J.stop i H/\D.nx a H)\/(J.go i H/\∃N:St->Hp->Prop,(∀b c,N b c->∃e,e<m/\W (i+1) e b c)/\∀x c,J.Hk i H x c->g x a c λd k=>h { D with nx:=N,ct:=N,bk:=D.nx} d k)
noncomputable def CZ(a:List cr)(h:hX):List (cr×Obj):=a.filterMap λb=>(h.get? b).map λo=>(b,o)
def wJ{h:hX}(a:b∈c)(e:h.get? b=↑o):(b,o)∈CZ c h:=List.mem_filterMap.mpr #[b,a,by rw[e];rfl]
def My(a:p∈CZ c h):p.1∈c/\h.get? p.1=↑p.2:=by
 refine e1a2 (List.mem_filterMap.mp a) λb d e=>?_
 cases q:h.get? b with
 |none=>rw[q]at e;cases e
 |some o =>
  rw[q]at e;have f:(b,o)=p:=il e;subst f;exact#[d,q]
def Inv.pinned(I:Inv X a g H s)(h:∀b∈fp,Av X a H b)(i:∀b∈fp,∃o,s.heap.get? b=↑o/\∀v,o.data≠.cell v):Inv X (a++CZ fp s.heap) g H s :=
 I.yD λp j=>(List.mem_append.mp j).elim (λz=>I.pin p<|gI _ z) λz=>by obtain⟨c,e⟩:=My z;obtain⟨k,l,m,_⟩:=h p.1 c;refine e1a2 (i p.1 c) λo f d=>?_;rw[e]at f;cases f;exact#[e,k,l,m,d]
def Inv.ze(I:Inv X (a++d) b H s):Inv X a b H s:=I.yD λp c=>I.pin p<|gI _<|iq _ c
def N0{j:hW}{C:List gR}{wi:TI}{g:TG}{tb:TS}{Y:Pos}(M:qO (gv X.prog X.w) X.A X.env X.xe)(hc:X.calm=true)(hi:PI X tg j wi)(hg:PG X tg g)(k:Em X C tb)
  (hs:∀x,jD j X.env x=pure x:=by intro _;rfl):PS X (.For tg j C [] Y) (a0q wi g tb):=by
 intro a s σ H D I h;refine wpAny_For (uT (hi a s σ H _ I h) λv s1 h1=>uT h1 λai s2 h2=>?_) hs;obtain⟨it,O,tn,J,H2,e,I2,T,Z,f2,W,⟨m0,w0⟩,P⟩:=h2;subst e
 -- ag aa true of the E Q through the ah
 have l:∀{B:Hp},(∀b∈O,B b=none)->∀b∈O,Av X a B b:=λhn b k=>#[hn b k,(f2 b k).2];refine codeAny_forLoop_any (λn s'=>∃i p B,Inv X a p B s'/\tn i s'.heap/\(∀b∈O,B b=none)/\W i n p B) ?_ m0 #[0,σ,H2,I2,Z,λb k=>(f2 b k).1,w0];rintro n s3 ⟨i,q,H3,I3,R,S,w3⟩;rcases P i n q H3 w3 with⟨stop,qn⟩|⟨go,N,hN,step⟩
 ·refine kJ M<|uT (T.done X rfl rfl rfl hc i a s3 q H3 X.xe I3 (l S) R stop) λr s4 G=>e0a2 G λhr I4=>?_;subst hr;exact mX #[q,H3,I4,qn]
 ·refine kJ M<|uT (T.item X rfl rfl rfl hc i a s3 q H3 X.xe I3 (l S) R go) λr s4 G=>e1a2 G λu hr h4=>?_;subst hr;refine kJ M<|uT h4 λ_ s5 G=>e2a5 G λx H5 I5 r5 y5 L ab=>?_;have ae:=I5.pinned (l ab)<|T.obj _ _ L;refine kJ M<|uT (hg _ s5 q H5 x u _ ae r5<|step x H5 y5) λ_ s6 G=>e2a2 G λaf H6 I6 q6=>?_;refine kJ M (uT (k _ s6 af H6 _ I6 q6) λf s7 F=>?_)
  have t:∀{c:St} {y:Hp},Inv X (a++CZ O s5.heap) c y s7->N c y->∃m,m<n/\∃i p B,Inv X a p B s7/\tn i s7.heap/\(∀b∈O,B b=none)/\W i m p B:=λ{c y} z U=>by refine e1a2 (hN c y U) λm' hm w7=>?_;refine#[m',hm,i+1,c,y,z.ze,T.keep _ _ _ L λb k o e=>(z.pin (b,o)<|gI _<|gI _<|wJ k e).1,λb k=>?_,w7];refine e1a2 (T.obj _ _ L b k) λo e d=>?_;exact(z.pin (b,o)<|gI _<|gI _<|wJ k e).2.1
  cases f with
  |next=>obtain⟨c,y,z,U⟩:=F;exact t z U
  |cont=>obtain⟨c,y,z,U⟩:=F;exact t z U
  |brk=>obtain⟨c,y,z,F⟩:=F;exact#[c,y,z.ze,F]
  |ret v=>obtain⟨x7,c,y,z,r7,F⟩:=F;exact#[x7,c,y,z.ze,r7,F]
def N3{K:f9}{a:cr}{xs:List V}{g:TG}{l:TS}{D:Ends}{b:St}{H:Hp}(c:Nat->St->Hp->Prop)(o:c 0 b H)(r:∀i b H,i<=xs.length->c i b H->vF K H a xs)
  (s:∀i x b H,xs[i]?=↑x->c i b H->g x b H λd k=>l { D with nx:=c<|i+1,ct:=c<|i+1,bk:=D.nx} d k) (t:∀b H,c xs.length b H->D.nx b H) :
  ∃W:Nat->Nat->St->Hp->Prop,(∃m,W 0 m b H)/\∀i m b H,W i m b H ->
   ((Xz K a).stop i H/\D.nx b H)\/((Xz K a).go i H/\∃N:St->Hp->Prop,(∀f h,N f h->∃n,n<m/\W (i+1) n f h)/\∀x h,(Xz K a).Hk i H x h->g x b h λd k=>l { D with nx:=N,ct:=N,bk:=D.nx} d k):=by
 refine#[λi m b H=>m=xs.length-i/\i<=xs.length/\c i b H,#[xs.length,q0o,iu _,o],?_];rintro i m b H ⟨rfl,u,p⟩;have q:=r i b H u p;by_cases j:i<xs.length
 ·refine .inr #[#[xs,xs[i],q,by simp[j]],c<|i+1,λf h v=>#[xs.length-(i+1),q0d,rfl,j,v],λx h y=>?_];obtain⟨e,y⟩:=y;subst e;exact s i x b _ (y xs q) p
 ·have e:i=xs.length:=by omega
  subst e;exact .inl #[#[xs,q,gg _],t b H p]
abbrev R2:=V->V->Hp->VK->Prop
def Ad(X:Cx)(f:ci->ci->Sem ci)(r:R2):Prop :=
 ∀(a:List (cr×Obj)) (s:gn) (b:St) (H:Hp) (x y:V) (v u:ci) (Q:VK),Inv X a b H s->RelV x v->RelV y u->r x y H Q ->
  gu (gv X.prog X.w) X.A (f v u) (EP X a b Q) X.xe s
def UnR(X:Cx)(f:ci->Sem ci)(r:V->Hp->VK->Prop):Prop :=
 ∀(a:List (cr×Obj)) (s:gn) (b:St) (H:Hp) (x:V) (v:ci) (Q:VK),Inv X a b H s->RelV x v->r x H Q ->
  gu (gv X.prog X.w) X.A (f v) (EP X a b Q) X.xe s
def xU(X:Cx)(f:ci)(r:List V->Hp->VK->Prop):Prop :=
 ∀(a:List (cr×Obj)) (s:gn) (b:St) (H:Hp) (c:List V) (d:List ci) (Q:VK),Inv X a b H s->Vals c d->r c H Q ->
  gu (gv X.prog X.w) X.A (call f d) (EP X a b Q) X.xe s
def a0s(X:Cx)(r:V->Hp->(Bool->Hp->Prop)->Prop):Prop :=
 ∀(a:List (cr×Obj)) (s:gn) (b:St) (H:Hp) (x:V) (v:ci) (Q:Bool->Hp->Prop),Inv X a b H s->RelV x v->r x H Q ->
  gu (gv X.prog X.w) X.A (tJ v) (TP X a b Q) X.xe s
def XA(r:R2)(b c:TE):TE:=λa H Q=>b a H λx d=>c a d λy e=>r x y e Q
def tUn(r:V->Hp->VK->Prop)(a:TE):TE:=λb H Q=>a b H λx c=>r x c Q
def rI(C:Int->Int->Prop)(g:Int->Int->V):R2:=λx y H Q=>∃i j,x=.int i/\y=.int j/\C i j/\Q (g i j) H
def RH(g:Int->Int->V):R2:=λx y H Q=>∃i j,x=.int i/\y=.int j/\Q (g i j) H
def rU(g:Int->V):V->Hp->VK->Prop:=λx H Q=>∃i,x=.int i/\Q (g i) H
def VS(m:PE X a n)(o:PE X b p){c:List (cr×Obj)}{s:gn}{d:St}{H:Hp}{R:V->V->Hp->Prop}(I:Inv X c d H s)
  (h:n d H λx k=>p d k λy e=>R x y e) {Q:ci->gn->Prop} {f:ci->ci->Sem ci}
  (q:∀v u j x y e,Inv X c d e j->RelV x v->RelV y u->R x y e->gu (gv X.prog X.w) X.A (f v u) Q X.xe j) :
  gu (gv X.prog X.w) X.A (eval a X.env) (λv g=>gu (gv X.prog X.w) X.A (eval b X.env) (λu i=>gu (gv X.prog X.w) X.A (f v u) Q X.xe i) X.xe g) X.xe s:=by
 refine uT (m c s d H _ I h) λv r l=>e2a3 l λx k t z B=>?_;refine uT (o c r d k _ t B) λu j l=>e2a3 l λy e C D E=>?_;exact q v u j x y e C z D E
def wg(d:Ad X (lH op) r)(e:PE X a f)(g:PE X b i):PE X (.BinOp a op b pos) (XA r f i):=by intro c s j H Q I h;exact wpAny_BinOp<|VS e g I h λv u k x y l m n o q=>d c k j l x y v u Q m n o q
def UX{c:UnaryOp}{r:V->Hp->VK->Prop}(e:UnR X (unaryOp c) r)(f:PE X a g):PE X (.UnaryOp c a pos) (tUn r g):=by intro b s d H Q I h;exact UnaryOp_<|uT (f b s d H _ I h) λv i j=>e2a3 j λx k l m n=>e b i d k x v Q l m n
def ZN{f:ci->ci->Sem ci}{C:Int->Int->Prop}{g:Int->Int->Int}
 (a:∀(i j:Int)(t u:Tok)(s:gn)(Q:ci->gn->Prop)(E:ci->gn->Prop),C i j->Q (.int (g i j) s.toks) { s with toks:=s.toks+1}->gu (gv X.prog X.w) X.A (f (.int i t)<|.int j u) Q E s) :
    Ad X f (rI C λi j=>.int<|g i j):=by
  intro b s l H x y v u Q I c d h
  obtain⟨i,j,rfl,rfl,e,q⟩:=h
  obtain⟨t,rfl⟩:=c
  obtain⟨k,rfl⟩:=d
  exact a i j t k s _ _ e #[.int<|g i j,H,I.tok _,#[_,rfl],q]
def X7{f:ci->ci->Sem ci}{g:Int->Int->Int}
 (a:∀(i j:Int)(t u:Tok)(s:gn)(Q:ci->gn->Prop)(E:ci->gn->Prop),Q (.int (g i j) s.toks) { s with toks:=s.toks+1}->gu (gv X.prog X.w) X.A (f (.int i t)<|.int j u) Q E s) :
    Ad X f (RH λi j=>.int<|g i j):=by
  intro b s k H x y v u Q I c d h
  obtain⟨i,j,rfl,rfl,q⟩:=h
  obtain⟨t,rfl⟩:=c
  obtain⟨e,rfl⟩:=d
  exact a i j t e s _ _ #[.int<|g i j,H,I.tok _,#[_,rfl],q]
def RU{f:ci->ci->Sem ci}{g:Int->Int->Bool}
 (a:∀(i j:Int)(t u:Tok)(s:gn)(Q:ci->gn->Prop)(E:ci->gn->Prop),Q (.bool<|g i j) s->gu (gv X.prog X.w) X.A (f (.int i t)<|.int j u) Q E s) :
    Ad X f (RH λi j=>.bl<|g i j):=by
  intro b s k H x y v u Q I c d h
  obtain⟨i,j,rfl,rfl,q⟩:=h
  obtain⟨t,rfl⟩:=c
  obtain⟨e,rfl⟩:=d
  exact a i j t e s _ _ #[.bl<|g i j,H,I,rfl,q]
def a0t(i j:Int):Prop:=0<j/\j<1073741824
def a0u(i j:Int):Prop:=0<=j/\j<=1000000/\i.natAbs<2 ^ 64
def VT(i j:Int):Prop:=(-(2 ^ 64)<i/\i<2 ^ 64)\/(-(2 ^ 64)<j/\j<2 ^ 64)
def VT.ok{i j:Int}(h:VT i j):IntMulOk i j:=by
 rcases h with⟨a,b⟩|⟨a,b⟩
 ·exact .of_left<|intBits_le_64 a b
 ·exact .of_right<|intBits_le_64 a b
def Aw:Ad X (lH .Add) (RH λi j=>.int<|i+j):=X7 λ_ _ _ _ _ _ _ q=>add_int q
def FC:Ad X (lH .Sub) (RH λi j=>.int<|i-j):=X7 λ_ _ _ _ _ _ _ q=>sub_int q
def Ax:Ad X (lH .Mult) (rI VT λi j=>.int<|i*j):=ZN λ_ _ _ _ _ _ _ a q=>mul_int q a.ok
def La:Ad X (lH .FloorDiv) (rI a0t λi j=>.int<|i / j):=ZN λi j _ _ _ _ _ a q=>by have b:(0:Int)<j:=a.1;have c:j<1073741824:=a.2;exact floordiv_int q0d (by rw[Int.fdiv_eq_ediv_of_nonneg i q0d];exact q)<|.inl<|PyProof.noPylong_small q0d
def Bx:Ad X (lH .Mod) (rI (λ_ j=>0<j) λi j=>.int<|i%j):=ZN λi j _ _ _ _ _ a q=>by exact mod_int' q0a (by rw[Int.fmod_eq_emod_of_nonneg i q0a];exact q)
def VU:Ad X (lH .Pow) (rI a0u λi j=>.int<|i ^ j.toNat):=ZN λ_ _ _ _ _ _ _ a q=>pow_int_small a.1 a.2.1 a.2.2 q
def unI{f:ci->Sem ci}{g:Int->Int}
 (a:∀(i:Int)(t:Tok)(s:gn)(Q:ci->gn->Prop)(E:ci->gn->Prop),Q (.int (g i) s.toks) { s with toks:=s.toks+1}->gu (gv X.prog X.w) X.A (f<|.int i t) Q E s) :
    UnR X f (rU λi=>.int<|g i):=by
  intro b s d H x v Q I c h
  obtain⟨i,rfl,q⟩:=h
  obtain⟨t,rfl⟩:=c
  exact a i t s _ _ #[.int<|g i,H,I.tok _,#[_,rfl],q]
def N4:UnR X (unaryOp .USub) (rU λi=>.int (-i)):=unI λ_ _ _ _ _ q=>neg_int q
noncomputable def VW:V->V->Bool
 | .vT,.vT=>true|.vT,.int _=>true|.int _,.vT=>true|.vT,.bl _=>true|.bl _,.vT=>true|.vT,.str _=>true|.str _,.vT=>true
 | .int _,.int _=>true|.bl _,.bl _=>true|.str _,.str _=>true|.K6 _,.K6 _=>true
 | .int _,.str _=>true|.str _,.int _=>true|.bl _,.str _=>true|.str _,.bl _=>true
 |_,_=>false
def rEq:R2:=λx y H Q=>VW x y=true/\Q (.bl<|decide<|x=y) H
def rNe:R2:=λx y H Q=>VW x y=true/\Q (.bl<|!decide (x=y)) H
def Ld{i j:Int}:decide (V.int i=V.int j)=(i==j):=by rw[lp];simp
def N5{i j:Bool}:decide (V.bl i=V.bl j)=(i==j):=by rw[lp];simp
def Le:decide (V.str i=V.str j)=(i==j):=by rw[lp];simp
def Lf:decide (V.K6 i=V.K6 j)=(i.toList==j.toList):=by rw[lp];cases i;cases j;simp
def uS{k b:Bool}(I:Inv X a c H s)(q:Q (.bl k) H)(e:k=b):EP X a c Q (.bool b) s:=by subst e;exact#[.bl k,H,I,rfl,q]
def X8:Ad X (iX .Eq) rEq:=by
 intro e s f H x y v u Q I d a h;obtain⟨c,q⟩:=h
 cases x with
 |vT =>
  cases d
  cases y with
  |vT=>cases a;exact PySem.EqNone.eq_none_none<|uS I q q0o
  |bl j=>cases a;exact PySem.EqNone.eq_none_bool<|uS I q q0o
  |int j=>obtain⟨b,rfl⟩:=a;exact PySem.EqNone.eq_none_int<|uS I q q0o
  |str j=>obtain⟨b,rfl⟩:=a;exact PySem.EqNone.eq_none_str<|uS I q q0o
  |_=>exact gA (show false=true from c) gw
 |bl i =>
  cases d
  cases y with
  |vT=>cases a;exact PySem.EqNone.eq_bool_none<|uS I q q0o
  |bl j=>cases a;exact eq_bool<|uS I q N5
  |str j=>obtain⟨b,rfl⟩:=a;exact PySem.EqMixed.eq_bool_str<|uS I q q0o
  |_=>exact gA (show false=true from c) gw
 |int i =>
  obtain⟨t,rfl⟩:=d
  cases y with
  |vT=>cases a;exact PySem.EqNone.eq_int_none<|uS I q q0o
  |int j=>obtain⟨b,rfl⟩:=a;exact eq_int<|uS I q Ld
  |str j=>obtain⟨b,rfl⟩:=a;exact PySem.EqMixed.eq_int_str<|uS I q q0o
  |_=>exact gA (show false=true from c) gw
 |str i =>
  obtain⟨t,rfl⟩:=d
  cases y with
  |vT=>cases a;exact PySem.EqNone.eq_str_none<|uS I q q0o
  |bl j=>cases a;exact PySem.EqMixed.eq_str_bool<|uS I q q0o
  |int j=>obtain⟨b,rfl⟩:=a;exact PySem.EqMixed.eq_str_int<|uS I q q0o
  |str j=>obtain⟨b,rfl⟩:=a;exact eq_str<|uS I q Le
  |_=>exact gA (show false=true from c) gw
 |K6 i =>
  obtain⟨t,rfl⟩:=d
  cases y with
  |K6 j=>obtain⟨b,rfl⟩:=a;exact PySem.W.eq_bytes<|uS I q Lf
  |_=>exact gA (show false=true from c) gw
 |_=>cases y<;>exact gA (show false=true from c) gw
def X9:Ad X (iX .NotEq) rNe:=by
 intro e s f H x y v u Q I d a h;obtain⟨c,q⟩:=h
 cases x with
 |vT =>
  cases d
  cases y with
  |vT=>cases a;exact PySem.EqNone.ne_none_none<|uS I q q0o
  |bl j=>cases a;exact PySem.EqNone.ne_none_bool<|uS I q q0o
  |int j=>obtain⟨b,rfl⟩:=a;exact PySem.EqNone.ne_none_int<|uS I q q0o
  |str j=>obtain⟨b,rfl⟩:=a;exact PySem.EqNone.ne_none_str<|uS I q q0o
  |_=>exact gA (show false=true from c) gw
 |bl i =>
  cases d
  cases y with
  |vT=>cases a;exact PySem.EqNone.ne_bool_none<|uS I q q0o
  |bl j=>cases a;exact ne_bool<|uS I q<|congrArg not N5
  |str j=>obtain⟨b,rfl⟩:=a;exact PySem.EqMixed.ne_bool_str<|uS I q q0o
  |_=>exact gA (show false=true from c) gw
 |int i =>
  obtain⟨t,rfl⟩:=d
  cases y with
  |vT=>cases a;exact PySem.EqNone.ne_int_none<|uS I q q0o
  |int j=>obtain⟨b,rfl⟩:=a;exact ne_int<|uS I q<|congrArg not Ld
  |str j=>obtain⟨b,rfl⟩:=a;exact PySem.EqMixed.ne_int_str<|uS I q q0o
  |_=>exact gA (show false=true from c) gw
 |str i =>
  obtain⟨t,rfl⟩:=d
  cases y with
  |vT=>cases a;exact PySem.EqNone.ne_str_none<|uS I q q0o
  |bl j=>cases a;exact PySem.EqMixed.ne_str_bool<|uS I q q0o
  |int j=>obtain⟨b,rfl⟩:=a;exact PySem.EqMixed.ne_str_int<|uS I q q0o
  |str j=>obtain⟨b,rfl⟩:=a;exact ne_str<|uS I q<|congrArg not Le
  |_=>exact gA (show false=true from c) gw
 |K6 i =>
  obtain⟨t,rfl⟩:=d
  cases y with
  |K6 j=>obtain⟨b,rfl⟩:=a;exact PySem.W.ne_bytes<|uS I q<|congrArg not Lf
  |_=>exact gA (show false=true from c) gw
 |_=>cases y<;>exact gA (show false=true from c) gw
def UY:Ad X (iX .Lt) (RH λi j=>.bl<|decide<|i<j):=RU λ_ _ _ _ _ _ _ q=>lt_int q
def UZ:Ad X (iX .LtE) (RH λi j=>.bl<|decide<|i<=j):=RU λ_ _ _ _ _ _ _ q=>le_int q
def U0:Ad X (iX .Gt) (RH λi j=>.bl<|decide<|j<i):=RU λ_ _ _ _ _ _ _ q=>gt_int q
def Ya:Ad X (iX .GtE) (RH λi j=>.bl<|decide<|j<=i):=RU λ_ _ _ _ _ _ _ q=>ge_int q
def VX:Ad X (iX .Is) (λx y H Q=>y=.vT/\Q (.bl<|decide<|x=.vT) H):=by
 intro a s d H x y v u Q I b c h;obtain⟨rfl,q⟩:=h;cases c;refine is_none_gen<|uS I q ?_
 cases x<;>first
  | (cases b;rfl)
  | (obtain⟨t,rfl⟩:=b;rfl)
def RV:Ad X (iX .IsNot) (λx y H Q=>y=.vT/\Q (.bl<|!decide (x=.vT)) H):=by
 intro a s d H x y v u Q I b c h;obtain⟨rfl,q⟩:=h;cases c;refine isnot_none_gen<|uS I q ?_
 cases x<;>first
  | (cases b;rfl)
  | (obtain⟨t,rfl⟩:=b;rfl)
def xk(b:hW)(h:op≠.In:=by decide)(a:op≠.NotIn:=by decide):iA op b=false:=by
 have c:(op==CmpOp.In)=false:=by cases op<;>first|rfl|exact gA rfl h
 have d:(op==CmpOp.NotIn)=false:=by cases op<;>first|rfl|exact gA rfl a
 cases b<;>simp[iA,c,d]
def Lg(d:Ad X (iX op) r)(e:PE X a f)(g:PE X b i)(j:iA op b=false):PE X (.Compare a [op] [b] pos) (XA r f i):=by intro c s k H Q I h;exact rR (VS e g I h λv u l x y m n o p q=>d c l k m x y v u Q n o p q) j
def Yb(t:TE):TT:=λa H Q=>t a H λx b=>∃k,x=.bl k/\Q k b
def wW{g:qx}{r:R2}(l:Ad X (iX g) r)(m:PE X a n)(o:PE X b p)(q:iA g b=false):PT X (.Compare a [g] [b] pos) (Yb<|XA r n p):=by
 intro d s i H Q I h
 refine tW (uT (m d s i H _ I h) λv t f=>e2a3 f λx w A B C=>uT (o d t i w _ A C) λu D f=>e2a3 f λy E F G J =>
  uT (l d D i E x y v u _ F B G J) λc P f=>e2a3 f λz L M N j=>e1a2 j λk e O=>?_) q
 subst e;cases N;exact jC #[L,M,O]
def Yc(K:f9)(x:V)(H:Hp)(k:Bool):Prop :=
 match x with
 | .vT=>k=false
 | .bl b=>k=b
 | .int i=>k=(i != 0)
 | .str y=>y.length<=gk/\k=((y.length:Int) != 0)
 | .K6 y=>y.size<=gk/\k=((y.size:Int) != 0)
 | .ref p=>(∃a,vF K H p a/\k=!a.isEmpty)\/(∃a,yA K H p a/\k=!a.isEmpty)\/∃c,H p=↑(.dK c)/\k=!c.isEmpty
 |_=>False
def I0(r:KV a b):(!b.isEmpty)=!a.isEmpty:=by
 cases r<;>rfl
def C0(r:Vals b a):(!a.toArray.isEmpty)=!b.isEmpty:=by
 cases r<;>simp
def C3:(gk:Nat)<2 ^ 63:=by rw[iB];decide
def VY:a0s X (λx H Q=>∃k,Yc X.K x H k/\Q k H):=by
 intro u s C H x v Q I g h;refine e1a2 h λk e q=>?_;have D:gk=16777216:=iB
 cases x with
 |vT =>
  cases g;have a:k=false:=e;subst a;exact truthy_none #[H,I,q]
 |bl b =>
  cases g;have a:k=b:=e;subst a;exact jC #[H,I,q]
 |int i =>
  obtain⟨t,rfl⟩:=g;have a:k=(i != 0):=e;subst a;exact PySem.P.truthy_int #[H,I,q]
 |str y =>
  obtain⟨t,rfl⟩:=g;obtain⟨A,a⟩:y.length<=gk/\k=((y.length:Int) != 0):=e;subst a;exact PySem.P.truthy_str q0a #[H,I.tok _,q]
 |K6 y =>
  obtain⟨t,rfl⟩:=g;obtain⟨A,a⟩:y.size<=gk/\k=((y.size:Int) != 0):=e;subst a;exact PySem.W.truthy_bytes q0a #[H,I.tok _,q]
 |ref p =>
  cases g;have a:(∃f,vF X.K H p f/\k=!f.isEmpty)\/(∃f,yA X.K H p f/\k=!f.isEmpty)\/∃c,H p=↑(.dK c)/\k=!c.isEmpty:=e;rcases a with⟨f,j,a⟩|⟨f,j,a⟩|⟨c,j,a⟩
  ·subst a;refine e1a3 (I.list j) λn r o z=>?_;have d:=r.length;exact wpAny_truthy_list o.isList (by simp only[gy];lia) #[H,I.tok _,by rw[C0 r];exact q]
  ·subst a;refine e1a3 (I.tuple j) λn r o z=>?_;have d:=r.length;exact truthy_tuple o (by simp only[gy];lia) #[H,I.tok _,by rw[C0 r];exact q]
  ·subst a;obtain⟨z,B,l,r,m⟩:c.length<=gk/\(p==j7)=false/\∃l,KV c l/\s.heap.DictOf (uL X.prog X.w) p l:=I.uV p _ j;have d:c.length=l.length:=Paired.length r;exact wpAny_truthy_dict B m q0a #[H,I.tok _,by rw[I0 r];exact q]
 |_=>exact(show False from e).elim
def Hz(f:PE X a g)(i:∀b,qc a X.env b=(do let v <- b;md a.pos;jY [v] (tJ v))) :
  PT X a (λd H Q=>g d H λx e=>∃k,Yc X.K x e k/\Q k e):=by
 intro c s d H Q I h;exact isTrue_plain (uT (f c s d H _ I h) λv j l=>e2a3 l λx m n o p=>VY c j d m x v Q n o p)<|i _
def vals1(r:Vals [x] a):∃u,a=[u]/\RelV x u:=by
 cases r with
 |cons b c=>cases c;exact#[_,rfl,b]
def vals2(r:Vals [x,y] b):∃u a,b=[u,a]/\RelV x u/\RelV y a:=by
 cases r with
 |cons c d =>
  cases d with
  |cons e f=>cases f;exact#[_,_,rfl,c,e]
structure Ja(h:hX)(x dx C:cr)(mA:Str->Option ci):Prop where
 obj:h.get? x=↑(jM C dx)
 ns:h.Ns1 dx mA
 ne:dx≠x
set_option tactic.hygienic true in
def Mz{h:hX}{c:cr}{d:Str->Option ci}(n:h.Ns1 c d):∃f,h.get? c=↑f/\∀name,oh name f=↑(d name):=by
 obtain⟨o,g,r,i,j,k,_,l⟩:=n;refine#[o,i,λname=>?_];have e:=l name;unfold nsFind findBy at e;rw[<- sJ]at e;unfold oh;rw[j];dsimp only;split
 ·rename_i y q
  rw[q]at e;exact congrArg some e
 ·rename_i q
  rw[q]at e
  have a:g.toList.any (·.refKey)=false:=by rw[List.any_eq_false];intro y m;obtain⟨z,t,b⟩:=k y<|Array.mem_toList_iff.mp m;simp[DictEntry.refKey,b]
  have p:¬g.toList.any (·.refKey)=true:=by rw[a];exact gw
  rw[gc p];exact congrArg some e
def Ja.look(I:Ja h x b C c):∃a,PySem.W.InstAt h x (jM C b) C ↑a/\∀name,oh name a=↑(c name) :=
 e1a2 (Mz I.ns) λa d e =>
 #[a,#[I.obj,rfl,rfl,d],e]
section
variable{prog:gV}{w:ii}{A:iW}{E:ci->gn->Prop}{s:gn}{K:f9}{x dx C f:cr}{mA:Str->Option ci}{name:Str}{v:ci}
def get_map{a:Bool}(X:K.In s.heap)(I:Ja s.heap x dx C mA)(c:lR K C name=true)(d:mQ K C=true)
 (e:gQ K (.ref C) name=↑none) (g:mA name=↑v) (b:sK v=true) (h:Q v { s with toks:=s.toks+1}) :
    gu (gv prog w) A (getAttr (.ref x) name a) Q E s:=by
  refine e1a2 I.look λj J i=>?_
  exact PySem.W.get_value X J (oC c).1 (PySem.W.findObj_own d e rfl<|by rw[i,g]) b h
def N6(X:K.In s.heap)(I:Ja s.heap x dx C mA)(a:lR K C name=true)
 (b:gQ K (.ref C) name=↑(some<|.ref f)) (c:nI K (.ref f)=true) (d:mA name=none) (h:Q (.ref f,[.ref x]) s) :
    gu (gv prog w) A (lV (.ref x) name i) Q E s:=by
  refine e1a2 I.look λe J g=>?_
  exact PySem.W.method_fn X J (oC a).1 (oC a).2 b (beq_iff_eq.mp c) (by show (oh name e).map (·.isSome)=↑false;rw[g,d];rfl) h
def RX(X:K.In s.heap)(I:Ja s.heap x dx C mA)
 (l:gQ K (.ref C) "__setattr__"=↑(some<|.builtin "object.__setattr__")) (m:ph K C=true) (n:pR K C name=↑none) (o:mQ K C=true)
 (hw:ro mA p) (q:p.length<=gk)
 (h:∀e,Ja e x dx C (λy=>if y=name then some v else mA y)->im dx s.heap e->Q () { s with heap:=e,toks:=s.toks+2}) :
    gu (gv prog w) A (setAttr (.ref x) name v) Q E s:=by
  refine e1a2 I.look λD J F=>?_
  refine PySem.W.set_plain X J l<|PySem.W.osa_open (s:={ s with toks:=s.toks+1}) (r:=none) X J m n λb=>?_
  refine e1a2 (PySem.W.any_some o) λG t g=>?_
  have u:s.heap.get? x=some #[.ref C,↑dx,.plain,#v[]]:=I.obj
  refine am<|ap<|am<|am<|wpAny_loadPart u<|am<|PySem.W.Looks.here (s:={ s with toks:=s.toks+1}) (oE X t) ?_
  rw[g]
  refine ap (a:=↑dx)<|am<|ap<|am ?_
  refine wpAny_nsSet1 (s:={ s with toks:=s.toks+1}) I.ns λe c d=>?_
  obtain⟨H,z,B,i,j,k⟩:=c.count<|PySem.Within.cons name v hw
  refine am<|wpAny_lookBehind i (by rw[j];exact pastItsLine_dict<|gW k<|by rw[gK];lia) ?_
  exact ap<|h _ #[(d.2 _<|Ne.symm I.ne).trans I.obj,c,I.ne] d
def N7(X:K.In s.heap)(c:pS K C=true)
 (e:gQ K (.ref C) "__init__"=↑(some<|.ref f)) (i:oi K (.ref f)=↑(.type "function"))
 (h:lM (gv prog w) (A.under (.builtin "type.__call__" #[.ref C::a,b])) (.call (.ref f) #[.ref (⇑s+1)::a,b]) (PySem.W.InitBack (⇑s+1) R)
 { s with heap:=(s.heap.push jk).push (jM C ⇑s)}) :
    lM (gv prog w) A (.call (.ref C) #[a,b]) R s:=by
  obtain⟨j,g,d,t,k⟩:=s
  exact PySem.W.make_core (PySem.W.makes_of X c) (oj X e) (λself=>PySem.W.bind_fn X self i) (.inl rfl) h
end
noncomputable def zf(f:Str)(v:V):List (Str×V)->List (Str×V)
 | []=>[(f,v)]
 | (g,x)::r=>if g=f then (g,v)::r else (g,x)::zf f v r
def HA(f g:Str)(v:V):∀d:List (Str×V),(zf f v d).lookup g=if g=f then some v else d.lookup g:=by
 intro i
 induction i with
 |nil =>
  show jF g [(f,v)]=_;by_cases h:g=f
  ·have a:(g==f)=true:=beq_iff_eq.mpr h;simp only[jF,a,ga h]
  ·have a:(g==f)=false:=beq_eq_false_iff_ne.mpr h;simp only[jF,a,gc h]
 |cons j r c =>
  obtain⟨k,x⟩:=j;have l:=c;rw[show zf f v ((k,x)::r)=(if k=f then (k,v)::r else (k,x)::zf f v r) from rfl];by_cases b:k=f
  ·rw[ga b];by_cases h:g=k
   ·have a:(g==k)=true:=beq_iff_eq.mpr h;simp only[jF,a,ga<|h.trans b]
   ·have a:(g==k)=false:=beq_eq_false_iff_ne.mpr h;simp only[jF,a,gc (λe:g=f=>h<|e.trans b.symm)]
  ·rw[gc b];by_cases h:g=k
   ·have a:(g==k)=true:=beq_iff_eq.mpr h;simp only[jF,a,gc (λe:g=f=>b<|h.symm.trans e)]
   ·have a:(g==k)=false:=beq_eq_false_iff_ne.mpr h;simp only[jF,a];exact l
def EK(f:Str)(v:V):∀a:List (Str×V),f∈(zf f v a).map (·.1)/\∀g,g∈a.map (·.1)->g∈(zf f v a).map (·.1):=by
 intro d
 induction d with
 |nil=>exact#[by simp[zf],λg h=>by simp at h]
 |cons i r b =>
  obtain⟨k,x⟩:=i;obtain⟨j,l⟩:=b;rw[show zf f v ((k,x)::r)=(if k=f then (k,v)::r else (k,x)::zf f v r) from rfl];by_cases c:k=f
  ·rw[ga c];subst c;exact#[q0o,λg h=>by simpa using h]
  ·rw[gc c];refine#[?_,λg h=>?_]
   ·rw[gN];exact gl _ j
   ·rw[gN]at h ⊢;rcases List.mem_cons.mp h with e|e
    ·exact List.mem_cons.mpr<|.inl e
    ·exact gl _<|l g e
def B6(f:Str)(v:V):∀a:List (Str×V),(zf f v a).length<=a.length+1
 | []=>by simp[zf]
 | (k,x)::r=>by
  have c:=B6 f v r;rw[show zf f v ((k,x)::r)=(if k=f then (k,v)::r else (k,x)::zf f v r) from rfl];by_cases b:k=f
  ·rw[ga b,gK,gK];lia
  ·rw[gc b,gK,gK];lia
def yC.some_of(r:yC ↑v o):∃u,o=↑u/\RelV v u:=by
 cases o with
 |none=>exact(show False from r).elim
 |some u=>exact#[u,rfl,r]
def yC.none_of(r:yC none o):o=none:=by
 cases o with
 |none=>rfl
 |some u=>exact(show False from r).elim
def MA(r:RelV v u):sK u=true:=by
 cases v with
 |vT=>cases (show u=Value.none from r);rfl
 |bl b=>cases (show u=qv b from r);rfl
 |int i=>obtain⟨t,e⟩:=(show ∃t,u=kN i t from r);cases e;rfl
 |str x=>obtain⟨t,e⟩:=(show ∃t,u=Value.str x t from r);cases e;rfl
 |K6 b=>obtain⟨t,e⟩:=(show ∃t,u=Value.bytes b t from r);cases e;rfl
 |Vz b=>obtain⟨t,e⟩:=(show ∃t,u=rQ b t from r);cases e;rfl
 |ref a=>cases (show u=gF a from r);rfl
 |ty n=>cases (show u=jw n from r);rfl
def AK(c:w4 P w H h)(e:H a=↑(.ins C g fs)):∃b,Ja h a g C b/\(∀f,yC (fs.lookup f)<|b f)/\ro b (fs.map (·.1))/\fs.length<=1000/\H g=↑(.own a):=by obtain⟨d,z,i,j,b,n,r,q⟩:=(show vq P w H h a (.ins C g fs) from c a _ e);exact#[b,#[j,n,i],r,q,z,d]
structure Ae(K:f9)(C:cr):Prop where
 pg:lR K C Str.empty=true
 hd:mQ K C=true
 po:ph K C=true
 sa:gQ K (.ref C) "__setattr__"=↑(some<|.builtin "object.__setattr__")
def Ae.get{K:f9}{C:cr}(c:Ae K C)(f:Str):lR K C f=true:=c.pg
def vg(K:f9)(C:cr)(f:Str):Prop:=gQ K (.ref C) f=↑none
def vg.Yd{K:f9}{C:cr}{f:Str}(n:vg K C f):pR K C f=↑none:=by unfold pR;rw[show gQ K (.ref C) f=some none from n];rfl
structure Meth(K:f9)(C:cr)(m:Str)(f:cr):Prop where
 at_:gQ K (.ref C) m=↑(some<|.ref f)
 fn:nI K (.ref f)=true
 kp:iI K (.ref f)=true
def Jb{b:Bool}(I:Inv X d j H s)(e:H a=↑(.ins C p fs))(c:Ae X.K C)(n:vg X.K C f)(l:fs.lookup f=↑v)
 (h:∀u g,Inv X d j H g->RelV v u->Q u g):gu (gv X.prog X.w) A (getAttr (.ref a) f b) Q E s:=by
  obtain⟨k,O,r,_,_,_⟩:=AK I.uV e
  obtain⟨u,m,i⟩:=yC.some_of (v:=v) (o:=k f) (by rw[<- l];exact r f)
  exact get_map I.xT O (c.get f) c.hd n m (MA i)<|h u _ (I.tok _) i
def Ay(I:Inv X b i H s)(e:H a=↑(.ins C j fs))(c:Ae X.K C)(k:Meth X.K C m g)(l:fs.lookup m=none)
 (h:Q (.ref g,[.ref a]) s):gu (gv X.prog X.w) A (lV (.ref a) m n) Q E s:=by
  obtain⟨d,O,r,_,_,_⟩:=AK I.uV e
  have f:d m=none:=yC.none_of (by rw[<- l];exact r m)
  exact N6 I.xT O (c.get m) k.at_ k.fn f h
def Jc(I:Inv X d t H s)(e:H a=↑(.ins C i fs))(c:Ae X.K C)(n:vg X.K C f)(N:fs.length<1000)(v:RelV y u)
 (h:∀k,Inv X d t (upd H a<|.ins C i<|zf f y fs) k->Q () k):gu (gv X.prog X.w) A (setAttr (.ref a) f u) Q E s:=by
  obtain⟨l,O,r,m,_,p⟩:=AK I.uV e
  have B:(fs.map (·.1)).length<=gk:=by rw[gm,iB];lia
  refine RX I.xT O c.sa c.po n.Yd c.hd m B λD j F=>h _ ?_
  have G:∃o,D.get? i=↑o:=e3a2 j.ns λo _ _ J _=> #[o,J]
  refine I.write (x:=a) (e:=i) (by rw[e];exact True.intro) (.inr p) (λb q L z=>(F.2 b L).trans z) G ?_
  refine#[by rw[uh O.ne];exact p,?_,O.ne,j.obj,_,j.ns,λg=>?_,λg M=>?_]
  · have := B6 f y fs; lia
  · show yC ((zf f y fs).lookup g) (if g = f then some u else l g)
    rw[HA]
    by_cases q:g=f
    · rw[ga q, ga q]; exact v
    · rw[gc q, gc q]; exact r g
  · by_cases q : g = f
    · rw[q]; exact(EK f y fs).1
    · refine(EK f y fs).2 g (m g λz => M ?_)
      show (if g=f then some u else l g)=none
      rw[gc q];exact z
def Inv.made(I:Inv X c g H s):Inv X c g (upd (upd H ⇑s<|.own<|⇑s+1) (⇑s+1)<|.ins C ⇑s [])
  { s with heap:=(s.heap.push jk).push (jM C ⇑s)}:=by
 have d:(s.heap.push jk).get? ⇑s=↑jk:=gx s.heap rfl
 have h:((s.heap.push jk).push<|jM C ⇑s).get? (⇑s+1)=↑(jM C ⇑s):=by
  have:=gx (s.heap.push jk) (o:=jM C ⇑s) rfl
  rwa [i4]at this
 have i:(s.heap.push jk).Ns ⇑s (λ_=>none):=#[jk,#v[],_,d,rfl,(λe j=>gA j q0o),λ_=>rfl];have k:=I.laid (a:=⇑s) (o:=.own<|⇑s+1) (h':=s.heap.push jk) (t':=s.toks) (λb u q=>ce _ q) (gg _) #[_,d];refine k.laid (a:=⇑s+1) (o:=.ins C ⇑s []) (t':=s.toks) (λb u q=>ce _ q) (pT<|i4 _ _) ?_;have f:⇑s≠⇑s+1:=gB<|iV _;refine⟨by rw[uh f,uk],iu _,f,h,λ_=>none,(rT i).at λo q=>ce _ q,λ_=>True.intro,λy l=>gA rfl l⟩
def RY(d:g9 e f a (eval e a)=eval e a)
 (h:gu (gv b w) A (eval e a) (λo c=>gu (gv b w) A (getAttr o f true) Q E c) E s):gu (gv b w) A (eval (.Attribute e f pos) a) Q E s :=
  Attribute_any_ h (by rw[arm_eval_Attribute,d])
def VZ(K:f9)(d:TE)(f:Str):TE:=λe H Q=>d e H λx b=>∃a C g c v,x=.ref a/\b a=↑(.ins C g c)/\Ae K C/\vg K C f/\c.lookup f=↑v/\Q v b
def MB(K:f9)(g h:TE)(f:Str):TS:=λD b H=>h b H λy i=>g b i λx d=>∃a C e c,x=.ref a/\d a=↑(.ins C e c)/\Ae K C/\vg K C f/\c.length<1000 /\
 D.nx b (upd d a<|.ins C e<|zf f y c)
def Ye(X:Cx)(c:Operator)(d:V->V->Hp->VK->Prop):Prop :=
 ∀(a:List (cr×Obj)) (s:gn) (b:St) (H:Hp) (x y:V) (u v:ci) (Q:VK),Inv X a b H s->RelV x u->RelV y v->d x y H Q->gu (gv X.prog X.w) X.A (inplaceOp c u v) (EP X a b Q) X.xe s
def wh(g:PE X e i)(j:g9 e f X.env (eval e X.env)=eval e X.env):PE X (.Attribute e f pos) (VZ X.K i f):=by intro b s k H Q I h;refine RY j<|uT (g b s k H _ I h) λu z m=>e2a3 m λx H1 o p d=>e5a6 d λa C A fs v r t c n l q=>?_;subst r;obtain rfl:u=gF a:=p;exact Jb o t c n l λB D w y=>#[v,H1,w,y,q]
def By(j:PE X o k)(m:PE X value p)(r:js value (some<|.Attribute o f d) pos.line X.env=pure false):PS X (.Assign [.Attribute o f d] value pos) (MB X.K k p f):=by intro b s g H D I h;refine qI (uT (m b s g H _ I h) λu t i=>e2a3 i λy H1 v w q=>uT (j b t g H1 _ v q) λz L i=>e2a3 i λx H2 A B e=>e4a6 e λa C M fs E F c n l G=>?_) r;subst E;obtain rfl:z=gF a:=B;exact Jc A F c n l w λN J=>#[g,_,J,G]
inductive zg(K:f9)(H:Hp):V->ci->Prop where
 | vT:zg K H .vT (.type "NoneType")
 | bl (x:Bool):zg K H (.bl x) (.type "bool")
 | int (i:Int):zg K H (.int i) (.type "int")
 | str (x:Str):zg K H (.str x) (.type "str")
 | Vz (x:UInt64):zg K H (.Vz x) (.type "float")
 | lst {a:cr} {xs:List V} (e:H a=↑(.lst xs)):zg K H (.ref a) (.type "list")
 | IQ {a:cr} {o:Obj} {xs:List V} (e:H a=↑(.IQ o<|.lst xs)):zg K H (.ref a) (.type "list")
 | tup {a:cr} {xs:List V} (e:H a=↑(.tup xs)):zg K H (.ref a) (.type "tuple")
 | dK {a:cr} {wA:List (Key×V)} (e:H a=↑(.dK wA)):zg K H (.ref a) (.type "dict")
 | dT {a:cr} {wA:List (List Key×V)} (e:H a=↑(.dT wA)):zg K H (.ref a) (.type "dict")
 | ins {a C dx:cr} {fs:List (Str×V)} (e:H a=↑(.ins C dx fs)) (cl:Ae K C) (ha:gQ K (.ref C) "__class__"=↑(some<|.builtin "object.__class__"))
   (hn:PySem.W.specialIn K (.builtin "object.__class__") "__get__"=↑(some<|.builtin "getset_descriptor.__get__")) (htk:PySem.W.takesIn K (.builtin "object.__class__")=↑true)
   (hm:kf K C (.type "object")=↑true):zg K H (.ref a) (.ref C)
def MC(I:Inv X r R H s)(d:RelV x u)(B:zg X.K H x t)(e:qf X.K t c=↑b)(h:∀D,Q (.bool b) { s with toks:=D}) :
  gu (gv X.prog X.w) A (call (.builtin "isinstance") [u,c]) Q E s:=by
 cases B with
 |vT=>cases (show u=Value.none from d);exact jc PySem.W.kitx_none I.xT True.intro e (λz=>nomatch z) h
 |bl y=>cases (show u=qv y from d);exact jc PySem.W.kitx_bool I.xT True.intro e (λz=>nomatch z) h
 |int i=>obtain⟨t,q⟩:=(show ∃t,u=kN i t from d);cases q;exact jc PySem.W.kitx_int I.xT True.intro e (λz=>nomatch z) h
 |str y=>obtain⟨t,q⟩:=(show ∃t,u=Value.str y t from d);cases q;exact jc PySem.W.kitx_str I.xT True.intro e (λz=>nomatch z) h
 |Vz y=>obtain⟨t,q⟩:=(show ∃t,u=rQ y t from d);cases q;exact jc PySem.W.kitx_float I.xT True.intro e (λz=>nomatch z) h
 | @lst a k f =>
  cases (show u=gF a from d);obtain⟨_,_,n,_,g⟩:=(show vq X.prog X.w H s.heap a (.lst k) from I.uV a _ f);exact jc sC I.xT #[_,g,rfl] e (λz=>nomatch z) h
 | @IQ a F k f =>
  cases (show u=gF a from d);obtain⟨_,_,_,n,_,g⟩:=(show vq X.prog X.w H s.heap a (.IQ F<|.lst k) from I.uV a _ f);exact jc sC I.xT ⟨_,g,rfl⟩ e (λz=>nomatch z) h
 | @tup a k f =>
  cases (show u=gF a from d);obtain⟨_,_,_,p⟩:=(show vq X.prog X.w H s.heap a (.tup k) from I.uV a _ f);refine e1a3 p λo g l _=>?_;exact jc PySem.W.kitx_tuple I.xT #[o,g,l] e (λz=>nomatch z) h
 | @dK a j f =>
  cases (show u=gF a from d);obtain⟨_,_,S,_,p⟩:=(show vq X.prog X.w H s.heap a (.dK j) from I.uV a _ f);obtain⟨o,G,L,g,l,_⟩:=p;exact jc sD I.xT #[o,g,l.1] e (λz=>nomatch z) h
 | @dT a j f =>
  cases (show u=gF a from d);obtain⟨_,_,k,_,o,G,L,g,l,_⟩:=(show vq X.prog X.w H s.heap a (.dT j) from I.uV a _ f);exact jc sD I.xT #[o,g,l.1] e (λz=>nomatch z) h
 | @ins a C T fs f v M N m P =>
  cases (show u=gF a from d);refine e1a2 (AK I.uV f) λU O _=>?_;refine e1a2 O.look λY J _=>?_;exact jc (PySem.W.kitx_own (v.get _) v.hd M N m P) I.xT J e (λz=>nomatch z) h
structure vI(k:Nat)(A:iW):Prop where
 hd:A.handled=none
 dp:A.depth+3*k+5<rV
 un:A.units+16*k+200<jS
def vI.mono{j k:Nat}(r:vI k A)(h:j<=k):vI j A:=#[r.hd,by have:=r.dp;lia,by have:=r.un;lia]
def vI.deeper{k:Nat}(r:vI (k+1) A)(a:Env):vI k (A.deeper a) :=
 #[r.hd,by have:=r.dp;show A.depth+1+3*k+5<_;lia,by have:=r.un;show A.units+3+16*k+200<_;lia]
def Jd{A:iW}{C:cr}{a:List ci}{b:List (Str×ci)}:(A.under<|.builtin "type.__call__" #[.ref C::a,b]).depth=A.depth+1:=by
 first|rfl|simp[qW,Code.weight,Code.isCreation,Code.isGuard,Code.isCaller,Code.frames,rJ,guardIds]
def Je{A:iW}{C:cr}{a:List ci}{b:List (Str×ci)}:(A.under<|.builtin "type.__call__" #[.ref C::a,b]).units=A.units+1:=by
 first|rfl|simp[qW,Code.cUnits,Code.frames,rJ]
def vI.make{k:Nat}(r:vI (k+1) A)(C:cr)(a:List ci)(b:List (Str×ci)):vI k (A.under<|.builtin "type.__call__" #[.ref C::a,b]) :=
 #[r.hd,by have:=r.dp;rw[Jd];lia,by have:=r.un;rw[Je];lia]
def vI.depth{k:Nat}(r:vI k A):A.depth<rV:=by have:=r.dp;lia
def vI.units{k:Nat}(r:vI k A):A.units+64<jS:=by have:=r.un;lia
def Cr:TA:=λ_ H Q=>Q [] H
def B7(b:TE)(c:TA):TA:=λa H Q=>b a H λx d=>c a d λe f=>Q (x::e) f
def uA:PA X [] Cr:=λ_ _ _ _ H Q I h=>kq #[[],H,I,.nil,h]
def ur(g:PE X e i)(j:PA X b t)(k:gf (e::b) X.env=(false,eval e X.env)::gf b X.env:=by rfl):PA X (e::b) (B7 i t):=by intro c a s f H Q I h;rw[k];refine jt<|uT (g a s f H _ I h) λu l d=>e2a3 d λx m n o p=>?_;exact uT (j c a l f m _ n p) λz A d=>e2a3 d λq r v w y=>#[x::q,r,v,.cons o w,y]
def a0v(t:TA):TE:=λc H Q=>t c H λa b=>a.length<=gk/\∀p,b p=none->Q (.ref p) (upd b p<|.tup a)
def a0w(t:TA):TE:=λc H Q=>t c H λa b=>a.length<=gk/\∀p,b p=none->Q (.ref p) (upd b p<|.lst a)
def N8{g}(h:PA X i t):PE X (.Tuple i g pos) (a0v t):=by intro a s j H Q I k;refine wpAny_Tuple_spliced<|uT (h pos a s j H _ I k) λl c m=>e2a4 m λn d f r z q=>#[by rw[<- r.length];exact z,?_];have o:d ⇑c=none:=f.uV.fresh<|gg _;refine⟨.ref ⇑c,upd d ⇑c<|.tup n,f.laid (t':=c.toks) (λb u e=>ce _ e) (gg _) ?_,rfl,q _ o⟩;exact#[z,l,r,#[_,gx _ rfl,rfl,_,rfl]]
def N9(h:PA X g t):PE X (.List g pos) (a0w t):=by intro a s i H Q I j;refine wpAny_List_spliced<|uT (h pos a s i H _ I j) λk c l=>e2a4 l λm d f r z q=>#[by rw[<- r.length];exact z,?_];have n:d ⇑c=none:=f.uV.fresh<|gg _;refine⟨.ref ⇑c,upd d ⇑c<|.lst m,f.laid (t':=c.toks) (λb u e=>ce _ e) (gg _) ?_,rfl,q _ n⟩;exact#[z,k,0,r,gx _ rfl]
abbrev Sp:=List V->Hp->VK->XK->Prop
abbrev Oa:=List Env->Hp->gn->XK->ci->gn->Prop
structure HB(P:gV)(w:ii)(K:f9)(mg:Str->Option ci)(base:hX)(A:iW)(outer:List Env)(s:gn)(H:Hp):Prop where
 frames:A.frames=↑outer
 mod:Mod K mg base
 bs:∀b o,base.get? b=↑o->s.heap.get? b=↑o/\H b=none
 Hr:base.objs.size<=⇑s
 xI:s.heap.FunFrames base outer
 IL:∀b∈yz outer,H b=none
 uV:w4 P w H s.heap
 bare:mE s.gens
def CE(a:List Env)(P:gV)(w:ii)(H:Hp)(s:gn)(Q:VK)(u:ci)(b:gn):Prop :=
 ∃v c,b.os=s.os/\mE b.gens/\Un (yz a) [] H c s.heap b.heap/\w4 P w c b.heap/\RelV v u/\Q v c
def CR(c:Oa)(a:List Env)(P:gV)(w:ii)(H:Hp)(s:gn)(Q:VK)(E:XK)(r:Result)(b:gn):Prop :=
 match r with
 | .ok (.ret u)=>CE a P w H s Q u b
 | .ok _=>False
 | .error e=>c a H s E e b
structure uO(P:gV)(w:ii)(K:f9)(mg:Str->Option ci)(base:hX)(CX:Oa)(k:Nat)(f:cr)(fd:hO)(ps:List Str)(sp:Sp):Prop where
 len:∀vs H Q E,sp vs H Q E->vs.length=ps.length
 run:∀(A:iW)(outer:List Env)(s:gn)(H:Hp)(args:Args)(us:List ci)(vs:List V)(Q:VK)(E:XK),vI k A->HB P w K mg base A outer s H->rK s fd args (ps.zip us)->Vals vs us->sp vs H Q E ->
  lM (gv P w) A (.call (.ref f) args) (CR CX outer P w H s Q E) s
def uO.mono{P:gV}{w:ii}{K:f9}{c:Str->Option ci}{a:hX}{d:Oa}{j k:Nat}{f:cr}{e:hO}{g:List Str}{i:Sp}(F:uO P w K c a d j f e g i)(h:j<=k) :
  uO P w K c a d k f e g i:=#[F.len,λA b s H args l m Q E n=>F.run A b s H args l m Q E<|n.mono h]
def uO.imp{P:gV}{w:ii}{K:f9}{e:Str->Option ci}{a:hX}{g:Oa}{k:Nat}{f:cr}{i:hO}{j:List Str}{l d:Sp}(F:uO P w K e a g k f i j l)
  (h:∀c H Q E,d c H Q E->l c H Q E):uO P w K e a g k f i j d :=
 #[λc H Q E q=>F.len c H Q E<|h _ _ _ _ q,λA b s H args m c Q E n o p r t=>F.run A b s H args m c Q E n o p r<|h _ _ _ _ t]
def HB.make{P:gV}{w:ii}{K:f9}{c:Str->Option ci}{b:hX}{A:iW}{a:List Env}{s:gn}{H:Hp}(e:HB P w K c b A a s H)(C:cr)(d:List ci)(f:List (Str×ci)) :
  HB P w K c b (A.under<|.builtin "type.__call__" #[.ref C::d,f]) a s H:=#[by first|exact e.frames|(simpa[qW,Code.envs,rJ,pushEnvs] using e.frames),e.mod,e.bs,e.Hr,e.xI,e.IL,e.uV,e.bare]
def Inv.HC(I:Inv X a b H s):HB X.prog X.w X.K X.mg X.base X.A X.stack s H :=
 #[I.ok.frames,I.ok.mod,I.bs,gW I.ok.Hr I.sz,I.stack,I.K8,I.uV,I.bare]
def Inv.after(I:Inv X a j H s)(h:CE X.stack X.prog X.w H s Q u i):EP X a j Q u i:=by obtain⟨v,k,l,c,m,e,r,q⟩:=h;obtain⟨n,g,d,t,f⟩:=i;obtain rfl:f=s.os:=l;exact#[v,k,I.call (h':=n) (g':=g) (d':=d) (t':=t) (ch:=[]) m e c<|λb z=>gA z q0o,r,q]
def Yf(b:Sp)(a:List V)(E:XK)(t:TA):TE:=λc H Q=>t c H λd e=>b (d++a) e Q E
def EL(C:cr)(m:Str)(f:Sp)(b:List V)(E:XK)(g:TE)(t:TA):TE:=λc H Q=>g c H λx d=>∃a h e,x=.ref a/\d a=↑(.ins C h e)/\e.lookup m=none /\
 t c d λi j=>f (x::(i++b)) j Q E
def Yg(C:cr)(d:Sp)(b:List V)(E:XK)(t:TA):TE:=λe H Q=>t e H λf c=>∀x a,c x=none->c a=none->a≠x ->
 d (.ref x::(f++b)) (upd (upd c a<|.own x) x<|.ins C a []) (λv g=>v=.vT/\Q (.ref x) g) E
def Binds(K:f9)(d:hO)(b:List Str)(c:List ci):Prop :=
 ∀(s:gn)(a:List ci),K.In s.heap->(a++c).length=b.length->rK s d #[a,[]] (b.zip<|a++c)
def Binds.all{K:f9}{b:List Str}(h:∀a:List ci,a.length=b.length->rW d #[a,[]]=pure (b.zip a)):Binds K d b []:=λs a _ c=>by rw[jP]at c ⊢;exact .of_eq<|h a c
def Passes(c:Oa)(X:Cx)(E:XK):Prop:=∀(a:List (cr×Obj)) (d:St) (H:Hp) (s:gn) (e:ci) (b:gn),Inv X a d H s->c X.stack H s E e b->X.xe e b
def Jf(F:uO X.prog X.w X.K X.mg X.base l k f m g n)(o:vI k X.A)(p:Binds X.K m g d)(q:Vals b d)(t:Passes l X E)
 (I:Inv X a i H s)(r:Vals vs us)(h:n (vs++b) H Q E):gu (gv X.prog X.w) X.A (call (.ref f) us) (EP X a i Q) X.xe s:=by
  have j:Vals (vs++b) (us++d):=r.append q
  have v:(us++d).length=g.length:=by rw[<- j.length];exact F.len _ _ _ _ h
  refine lS<|jp (F.run X.A X.stack s H ⟨us,[]⟩ (us++d) (vs++b) Q E o I.HC (p s us I.xT v) j h) λr x c=>?_
  cases r with
  |error e=>exact t a i H s e x I c
  |ok y =>
    cases y with
    |ret u=>exact I.after c
    |next=>exact gX c
    |brk=>exact gX c
    |cont=>exact gX c
def RZ(F:uO X.prog X.w X.K X.mg X.base j k f l m n)(o:vI k X.A)(u:Gl X x)(v:X.mg x=↑(.ref f))(y:iI X.K (.ref f)=true)(z:Binds X.K l m B)(C:Vals c B)(D:Passes j X E)
 (G:PA X (e::b) t) (d:(x==("__debug__":Str))=false:=by decide) (J:gf (e::b) X.env=(false,eval e X.env)::gf b X.env:=by rfl) (g:(iN pos<|gf b X.env).any (·.1)=false:=by rfl) :
    PE X (.Call (.Name x p) (e::b) [] pos) (Yf n c E t):=by
  intro a s L H Q I h
  refine jQ<|yE I u v ?_ d
  refine oV (h₀:=X.base) I.ok.mod.AH y (uT (G pos a s L H _ I h) λN O M=>e2a3 M λP R i r q=>#[i.xT,?_]) J g
  exact Jf F o z C D i r q
def R6{v:Sem Bool}(J:PE X o L)(c:Ae X.K C)(y:Meth X.K C m f)(F:uO X.prog X.w X.K X.mg X.base M k f N O P)(R:vI k X.A)(S:Binds X.K N O T)(hd:Vals i T)(U:Passes M X E)(Y:PA X (e::d) t)
  (j:gf (e::d) X.env=(false,eval e X.env)::gf d X.env:=by rfl) (n:(iN pos<|gf d X.env).any (·.1)=false:=by rfl)
  (ht:eval (.Call (.Attribute o m apos) (e::d) [] pos) X.env=(do
   let z <- eval o X.env
   md apos.atName
   let (f,first) <- jY [z] (lV z m v)
   mH pos f first (iN pos (gf (e::d) X.env)) (mf pos (jZ [] X.env))):=by rfl) :
  PE X (.Call (.Attribute o m apos) (e::d) [] pos) (EL C m P i E L t):=by
 intro b s B H Q I h;refine nS (pl:=v) (uT (J b s B H _ I h) λu Z p=>e2a3 p λx H1 D rx g=>e3a4 g λa dx fs ex ea l q=>?_) ht;subst ex;obtain rfl:u=gF a:=rx;refine Ay D ea c y l ?_;refine oV (first:=[.ref a]) (h₀:=X.base) I.ok.mod.AH y.kp (uT (Y pos b Z B H1 _ D q) λus s2 p=>e2a3 p λvs H2 G r q2=>#[G.xT,?_]) j n
 exact Jf (us:=.ref a::us) (vs:=.ref a::vs) F R S hd U G (.cons rfl r) q2
def Ob(n:PE X o p)(c:Ae X.K C)(i:Meth X.K C m f)(F:uO X.prog X.w X.K X.mg X.base r k f t v y)(z:vI k X.A)(B:Binds X.K t v D)(hd:Vals e D)(G:Passes r X E)
 (ht:eval (.Call (.Attribute o m apos) [] [] pos) X.env=(do
 let j <- eval o X.env
 md apos.atName
 let (f,first) <- jY [j] (lV j m J)
 mH pos f first (iN pos (gf [] X.env)) (mf pos (jZ [] X.env))):=by rfl) :
    PE X (.Call (.Attribute o m apos) [] [] pos) (EL C m y e E p Cr):=by
  intro b s L H Q I h
  refine nS (pl:=J) (uT (n b s L H _ I h) λu R M=>e2a3 M λx H1 g N d=>e3a4 d λa S fs O P l q=>?_) ht
  subst O
  obtain rfl:u=gF a:=N
  refine Ay g P c i l ?_
  exact rL (first:=[.ref a]) g.xT i.kp<|Jf (us:=[.ref a]) (vs:=[.ref a]) F z B hd G g (.cons rfl .nil) q
structure Mk(K:f9)(C f:cr):Prop where
 makes:pS K C=true
 init:gQ K (.ref C) "__init__"=↑(some<|.ref f)
 fn:nI K (.ref f)=true
 kp:iI K (.ref C)=true
def Oc(M:Mk X.K C f)(F:uO X.prog X.w X.K X.mg X.base p k f q j t)(y:vI (k+1) X.A)(z:Binds X.K q j d)(B:Vals c d)
 (D:Passes p X E) (I:Inv X b l H s) (r:Vals m us)
 (h:∀x g,H x=none->H g=none->g≠x->t (.ref x::(m++c)) (upd (upd H g<|.own x) x<|.ins C g []) (λv G=>v=.vT/\Q (.ref x) G) E) :
    gu (gv X.prog X.w) X.A (call (.ref C) us) (EP X b l Q) X.xe s:=by
  have n:=h (⇑s+1) ⇑s (I.uV.fresh<|kP _) (I.uV.fresh<|gg _)<|gB<|iV _
  have i:=Inv.made (C:=C) I
  have o:Vals (V.ref (⇑s+1)::(m++c)) (gF (⇑s+1)::(us++d)):=.cons rfl<|r.append B
  have J:(gF (⇑s+1)::us++d).length=j.length:=by
    have e:=o.length
    rw[F.len _ _ _ _ n]at e
    exact e.symm
  refine lS (N7 (f:=f) I.xT M.makes M.init (beq_iff_eq.mp M.fn) (jp (F.run _ X.stack _ _ #[gF (⇑s+1)::us,[]] (gF (⇑s+1)::(us++d)) _ _ E (y.make C us [])
    (i.HC.make C us []) (z _ (gF (⇑s+1)::us) i.xT J) o n) λr L a=>?_))
  cases r with
  |error e=>exact D b l _ _ e L i a
  |ok N =>
    cases N with
    |ret u =>
      refine e2a4 (i.after a) λv O P R S T=>?_
      subst S
      exact#[R,#[V.ref<|⇑s+1,O,P,rfl,T]]
    |next=>exact gX a
    |brk=>exact gX a
    |cont=>exact gX a
def Od(M:Mk X.K C f)(F:uO X.prog X.w X.K X.mg X.base d k f e g i)(j:vI (k+1) X.A)(l:Gl X x)(m:X.mg x=↑(.ref C))(n:Binds X.K e g o)(q:Vals a o)(r:Passes d X E)
 (b:(x==("__debug__":Str))=false:=by decide):PE X (.Call (.Name x p) [] [] pos) (Yg C i a E Cr):=by
  intro c s t H Q I h
  refine jQ<|yE I l m ?_ b
  exact rL I.xT M.kp<|Oc (us:=[]) M F j n q r I .nil h
def PK(X:Cx)(b:List oW)(t:TA):Prop :=
 ∀(c:Pos) (a:List (cr×Obj)) (s:gn) (d:St) (H:Hp) (Q:List V->Hp->Prop),Inv X a d H s->t d H Q->gu (gv X.prog X.w) X.A (evalAll ((mf c<|jZ b X.env).map (·.2))) (AP X a d Q) X.xe s
structure uq(N P:List Str)(sc:k9):Prop where
 kind:sc.kind=.function
 co:sc.isCoroutine=false
 gen:sc.isGenerator=false
 nd:N.Nodup
 pre:N.take P.length=P
 par:∀x∈P,sc.names.lookup x=some .local\/sc.names.lookup x=some .cell
 V0:∀y∈sc.names,y.2≠.free
def EM{b:Str->Option NameKind}:∀{a:List (Str×ci)} {m:Str->Option ci},(∀v,(x,v)∉a)->bindL b a m x=m x
 | [],_,_=>rfl
 | (n,v)::r,m,h=>by
  unfold bindL;rw[EM λw c=>h w<|gl _ c];split
  ·have:x≠n:=by rintro rfl;exact h v gh
   simp[this]
  ·rfl
def EN{b:Str->Option NameKind}:∀{a:List (Str×ci)} {m:Str->Option ci},(∀v,(x,v)∉a)->bindC b a m x=m x
 | [],_,_=>rfl
 | (n,v)::r,m,h=>by
  unfold bindC;rw[EN λw c=>h w<|gl _ c];split
  ·rfl
  ·have:x≠n:=by rintro rfl;exact h v gh
   simp[this]
def MD{a:Str->Option NameKind}:∀{P:List Str} {b:List ci} {i:Nat} {m:Str->Option ci},P.Nodup->P[i]?=↑x->b[i]?=↑v->a x=some .local ->
  bindL a (P.zip b) m x=↑v:=by
 intro P
 induction P with
 |nil=>intro _ _ _ _ h;simp at h
 |cons p P g =>
  intro b i m e d c f
  cases b with
  |nil=>simp at c
  |cons w b =>
  cases i with
  |zero =>
   simp at d c;subst d;subst c;show bindL a ((p,w)::P.zip b) m p=_;unfold bindL;rw[EM λv j=>(List.nodup_cons.mp e).1 (ol j).1,ga f];simp
  |succ i =>
   exact g (i:=i) (List.nodup_cons.mp e).2 (by simpa using d) (by simpa using c) f
def ME{a:Str->Option NameKind}:∀{P:List Str} {b:List ci} {i:Nat} {m:Str->Option ci},P.Nodup->P[i]?=↑x->b[i]?=↑v->a x≠some .local ->
  bindC a (P.zip b) m x=↑v:=by
 intro P
 induction P with
 |nil=>intro _ _ _ _ h;simp at h
 |cons p P g =>
  intro b i m e d c f
  cases b with
  |nil=>simp at c
  |cons w b =>
  cases i with
  |zero =>
   simp at d c;subst d;subst c;show bindC a ((p,w)::P.zip b) m p=_;unfold bindC;rw[EN λv j=>(List.nodup_cons.mp e).1 (ol j).1,gc f];simp
  |succ i =>
   exact g (i:=i) (List.nodup_cons.mp e).2 (by simpa using d) (by simpa using c) f
noncomputable def start(N:List Str)(a:List V):St:=a.map some++j4 (N.length-a.length) none
noncomputable def ve(CX:Oa)(P:gV)(w:ii)(K:f9)(mg:Str->Option ci)(base:hX)(N:List Str)(qual:Str)(scope:k9)(f:cr)(cd:ci)(A:iW)(outer:List Env)(s:gn)(H:Hp)(E:XK):Cx where
 prog:=P
 w:=w
 K:=K
 mg:=mg
 base:=base
 A:=A.deeper<|nQ qual scope ⇑s f cd
 N:=N
 s₀:=s
 H₀:=H
 env:=nQ qual scope ⇑s f cd
 outer:=outer
 stack:=nQ qual scope ⇑s f cd::outer
 ex:=[]
 calm:=true
 fn:=λ_=>true
 pn:=[]
 xe:=λe s'=>gu (gv P w) (A.deeper<|nQ qual scope ⇑s f cd) (tK (nQ qual scope ⇑s f cd) e) (λ_ R7=>CX outer H s E e R7) (λe' R7=>CX outer H s E e' R7) s'
def HD{a:k9}{n:Nat}(h:a.names.lookup x=some .cell):∃c,(cellsFrom n a.names []).lookup x=↑c:=by have q:=qP a.names n []<|.inl h;exact Option.isSome_iff_exists.mp q
def MF{K:f9}{A:iW}{o:List V}
 (S:uq N C d) (R:A.handled=none) (m:HB P w K L base A j s H) (hl:o.length=C.length) (r:Vals o M)
 (x:InCallC s ⇑s (bindL (nQ l d ⇑s f J).kindOf (C.zip M) λ_=>none) (cellsFrom (⇑s+1) d.names []) (bindC (nQ l d ⇑s f J).kindOf (C.zip M) λ_=>none) T) :
    Inv (ve U P w K L base N l d f J A j s H E) [] (start N o) H T:=by
  have X:C.length<=N.length:=by have:=congrArg ng S.pre;rw[kR]at this;lia
  obtain⟨G,tk,rfl,O⟩:=x.done
  have t:∀b:cr,b∉(ve U P w K L base N l d f J A j s H E).ex:=λb z=>gA (show b∈([]:List cr) from z) q0o
  refine#[#[m.mod,S.kind,rfl,rfl,gg _,λy z c G g=>?_,λy B=>?_,λy c _ h=>?_,λ_=>R,rM m.frames,.inr #[rfl,rfl],λb z=>gA z (t b),m.bs,m.Hr,λb _ _=>t b,λb z=>gA z (t b),m.xI,m.IL],
    rfl,m.bare,Un.kept O,#[_,x.toInCall.ns,λi y v G g h3=>?_],λy c h=>#[_,x.cell y c h],m.uV.fresh (gg _),λy c h=>?_,λp D=>gA (show p∈([]:List (cr×Obj)) from D) q0o,m.uV.kept O,?_]
  · exact name_of_addr x.apart (jz G)<|jz g
  · have B : d.names.lookup y = some .cell \/ d.names.lookup y = some .free := B
    rcases B with B|B
    · exact HD B
    · exact gA rfl<|S.V0 _<|jz B
  · exact kT<|x.above y c<|jz h
  · have I : i<o.length := by
      unfold start at g
      by_cases I:i<o.length
      · exact I
      · rw[jo<|by simpa using I]at g
        rw[rB]at g
        split at g<;>cases g
    have Y:o[i]?=↑v:=by
      unfold start at g
      rw[kU (by simpa using I),ja]at g
      cases e:o[i]? with
      |none=>rw[e]at g;cases g
      |some a=>rw[e]at g;cases g;rfl
    refine e1a2 (r.get Y) λu Q Z=>?_
    have D:C[i]?=↑y:=by
      rw[<- S.pre,qX q0a];exact G
    have F:C.Nodup:=by rw[<- S.pre];exact S.nd.sublist<|tL _ _
    refine#[u,Z,?_]
    rcases S.par y (jg D) with k|k
    · exact .inl #[k, MD F D Q k]
    · obtain⟨c, e⟩ := HD (n := ⇑s+1) k
      refine .inr #[.inl k,c,e,?_]
      have q:=x.cell y c e
      rw[ME F D Q<|by show d.names.lookup y≠_;rw[k];decide]at q
      exact q
  · exact m.uV.fresh<|kT<|x.above y c<|jz h
  · unfold start
    show _=N.length
    rw[gz,gm,rX]
    lia
def HE{K:f9}{k:Nat}{Z:ci} 
 (lk:K.lookup f=some #[oc,od,.func<|i7 name d h body a dV Z G pm an g ct,aa]) (L:iR K g d=true) (S:uq N M a)
 (B:∀i H Q E,sp i H Q E->i.length=M.length)
 (m:∀(A:iW)(c:List Env)(s:gn)(H:Hp)(i:List V)(Q:VK)(E:XK),vI k (A.deeper (nQ d a ⇑s f g))->sp i H Q E ->
 ∃t,Em (ve O P w K R base N d a f g A c s H E) body t/\t { nx:=λ_ l=>Q .vT l,rt:=Q} (start N i) H) :
    uO P w K R base O (k+1) f (i7 name d h body a dV Z G pm an g ct) M sp:=by
  refine#[B,λA c s H args us i Q E T C hb r D=>?_]
  have hl:=B _ _ _ _ D
  have KX:K.In s.heap:=C.mod.AH.keeps λb o e=>(C.bs b o e).1
  have U:s.heap.NoLimit:=C.mod.nolimit.keeps λb o e=>(C.bs b o e).1
  have p:∀y∈M.zip us,a.names.lookup y.1=some .local\/(a.names.lookup y.1=some .cell/\((cellsFrom (⇑s+1) a.names []).lookup y.1).isSome=true):=λ⟨n,v⟩ hy=>by
    rcases S.par n (ol hy).1 with q|q
    · exact .inl q
    · exact .inr #[q, qP _ _ _<|.inl q]
  refine codeAny_call_function T.depth (KX _ _ lk) rfl S.co S.gen rfl (rY KX L)<|hb _ _ _ _ ?_
  refine wpAny_newFunctionEnv_cells S.kind p λab he s1 x=>?_
  subst he
  refine#[U.keeps x.toInCall.keep,codeAny_func ?_]
  refine e1a2 (m A c s H i Q E (T.deeper _) D) λt ht hq=>?_
  have I:Inv (ve O P w K R base N d a f g A c s H E) [] (start N i) H s1:=MF S T.hd C hl r x
  refine iw (ht [] s1 (start N i) H _ I hq) (λfl X z=>?_) λe X z=>z
  have F:∀{j:St} {l:Hp} {v:V} {u:ci},Inv (ve O P w K R base N d a f g A c s H E) [] j l X->RelV v u->Q v l->CE c P w H s Q u X :=
    λ{j l v u} J Y q=>#[v,l,J.os,J.bare,J.base,J.uV,Y,q]
  cases fl with
  |ret u =>
    obtain⟨v,j,l,J,Y,q⟩:=z
    exact F J Y q
  |next =>
    refine e2a2 z λj l J q=>?_
    exact F (v:=V.vT) (u:=Value.none) J rfl q
  |brk =>
    refine e2a2 z λ_ _ _ q=>?_
    exact gX q
  |cont =>
    refine e2a2 z λ_ _ _ q=>?_
    exact gX q
section
variable{X:Cx}{x:Str}{p pos:Pos}{e:hW}{es:List hW}{t:TA}{id T:String}{r:List V->Hp->VK->Prop}
def tCB(r:List V->Hp->VK->Prop)(t:TA):TE:=λa H Q=>t a H λb c=>r b c Q
def wj(d:xU X (.builtin id) r)(f:Gl X x)(g:X.mg x=none)(i:l9 x=↑(.builtin id))(j:PA X (e::es) t)(k:x≠"__name__":=by decide)(b:(x==("__debug__":Str))=false:=by decide)
 (he:gf (e::es) X.env=(false,eval e X.env)::gf es X.env:=by rfl) (hpl:(iN pos<|gf es X.env).any (·.1)=false:=by rfl):PE X (.Call (.Name x p) (e::es) [] pos) (tCB r t):=by
  intro a s c H Q I h
  refine jQ<|yF I f g i ?_ k b
  exact oP (uT (j pos a s c H _ I h) λl m n=>e2a3 n λo q u v w=>d a m c q o l Q u v w) he hpl
def wK(f:xU X (.type T) r)(g:Gl X x)(i:X.mg x=none)(j:l9 x=↑(.type T))(k:PA X (e::es) t)(l:x≠"__name__":=by decide)(b:(x==("__debug__":Str))=false:=by decide)
 (he:gf (e::es) X.env=(false,eval e X.env)::gf es X.env:=by rfl) (c:(iN pos<|gf es X.env).any (·.1)=false:=by rfl):PE X (.Call (.Name x p) (e::es) [] pos) (tCB r t):=by
  intro a s d H Q I h
  refine jQ<|yF I g i j ?_ l b
  exact jv (uT (k pos a s d H _ I h) λm n o=>e2a3 o λq u v w y=>f a n d u q m Q v w y) he c
def Jg(c:xU X (.type T) r)(d:Gl X x)(f:X.mg x=none)(g:l9 x=↑(.type T))(i:x≠"__name__":=by decide)(b:(x==("__debug__":Str))=false:=by decide) :
  PE X (.Call (.Name x p) [] [] pos) (tCB r Cr):=by
 intro a s j H Q I h;refine jQ<|yF I d f g ?_ i b;exact PyProof.Rows.callWith_type0<|c a s j H [] [] Q I .nil h
end
end L2
namespace HT
open PySem PyProof.Rows
noncomputable def wp(n d:Nat):Option Int->Nat
 |none=>d
 |some v=>if v<0 then (v+(n:Int)).toNat else min v.toNat n
def HF(n d:Nat):wp n d none=d:=rfl
def Lh(n d k:Nat):wp n d ↑(k:Int)=min k n:=by show (if (k:Int)<0 then ((k:Int)+(n:Int)).toNat else min (k:Int).toNat n)=min k n;rw[gc q0a,kG]
def a0y(n d:Nat)(b:d<=n)(o:Option Int):wp n d o<=n:=by
 cases o with
 |none=>exact b
 |some v =>
  show (if v<0 then (v+(n:Int)).toNat else min v.toNat n)<=n;by_cases a:v<0
  ·rw[ga a];lia
  ·rw[gc a];exact Nat.min_le_right _ _
def Li(v:Int)(n d:Nat):(if v<0 then max (v+(n:Int)) 0 else min v (n:Int))=((wp n d ↑v:Nat):Int):=by
 show (if v<0 then max (v+(n:Int)) 0 else min v (n:Int))=(((if v<0 then (v+(n:Int)).toNat else min v.toNat n):Nat):Int);by_cases a:v<0
 ·simp only[ga a];lia
 ·simp only[gc a];lia
def Jh(lo a:Option Int)(n:Nat):pA lo a 1 (n:Int)=(((wp n 0 lo:Nat):Int),((wp n n a:Nat):Int)):=by
 refine Prod.ext ?_ ?_
 ·cases lo with
  |none=>rfl
  |some v=>exact Li v n 0
 ·cases a with
  |none=>rfl
  |some v=>exact Li v n n
def Ji(i j:Nat):kj (i:Int) (j:Int) 1=j-i:=by unfold kj;split<;>lia
def C4(p:pC v o)(h:Q o s):gu (gv a w) A (Builtin.Slice.slicePartIndex v) Q E s:=by
 cases p with
 |none=>exact slicePart_none h
 |int i t=>exact slicePart_int h
def ym{lo:Option Int}{n:Nat}(g:s.heap.IsSliceOf i d e .none)(j:pC d lo)(k:pC e c)
 (h:Q (((wp n 0 lo:Nat):Int),1,wp n n c-wp n 0 lo) s):gu (gv f w) A (Builtin.Slice.sliceApplied (.ref i)<|pure (n:Int)) Q E s:=by
  refine e1a3 (id g) λos a l b=>?_
  refine am<|am<|iC a b (x:=d) rfl<|am<|iC a b (x:=e) rfl<|am<|iC a b (x:=.none) rfl<|ap ?_
  refine am<|slicePart_none ?_
  rw[gc q0q]
  refine am<|C4 j<|am<|C4 k<|am<|ap ?_
  show gu _ _ (match pA lo c 1 (n:Int) with|(lo,c)=>pure (lo,(1:Int),kj lo c 1)) _ _ s
  rw[Jh lo c n]
  show gu _ _ (pure (((wp n 0 lo:Nat):Int),(1:Int),kj ((wp n 0 lo:Nat):Int) ((wp n n c:Nat):Int) 1)) _ _ s
  rw[Ji]
  exact ap h
def Oe(a:Array ci)(i k:Nat):((gL k).filterMap λ(m:Nat)=>a[((i:Int)+(m:Int)*1).toNat]?).toArray=((a.toList.drop i).take k).toArray:=by
 have e:(λ(m:Nat)=>a[((i:Int)+(m:Int)*1).toNat]?)=λm=>a[i+m]?:=by
  funext m
  have:((i:Int)+(m:Int)*1).toNat=i+m:=by lia
  rw[this]
 rw[e];have:=pick_run a i k;rw[sU]at this;have b:((λx=>a[x]?)∘λx=>i+x)=λm=>a[i+m]?:=rfl;rw[b]at this;rw[this]
def AM{t sl:cr}{items:Array ci}{vl vu:ci}{lo hi:Option Int}{Q:ci->gn->Prop}(ht:IsTup s.heap t items)(hs:s.heap.IsSliceOf sl vl vu .none)(pl:pC vl lo)(pu:pC vu hi)
  (hw:¬(wp items.size 0 lo=0/\wp items.size items.size hi=items.size))
  (h:Q (.ref ⇑s) { s with heap:=s.heap.push { cls:=.type "tuple",data:=.seq ((items.toList.drop<|wp items.size 0 lo).take<|wp items.size items.size hi-wp items.size 0 lo).toArray}})
  (hsz:items.size<=gk):gu (gv prog w) A (nc (.ref t)<|.ref sl) Q E s:=by
 have Lj:sizeOk (.seq ((items.toList.drop<|wp items.size 0 lo).take<|wp items.size items.size hi-wp items.size 0 lo).toArray):=by show ((items.toList.drop<|wp items.size 0 lo).take<|wp items.size items.size hi-wp items.size 0 lo).toArray.size<=gk;rw[gy,kR,l6,gr];omega
 refine e1a3 (id hs) λos hos hcs hds=>?_;have hTs:s.TypeIs (.ref sl) "slice":=#[os,hos,hcs];unfold nc
 try with_reducible refine gY ?_
 first|refine am (ap ?_)|skip
 refine am<|wpAny_sequenceKey ht.typeIs q0q ?_
 refine am (wpAny_callSpecial?_slot (name:=kW "__getitem__") ht.typeIs jJ
  (ij jJ ht.typeIs entry_tuple_getitem ?_ (args_tuple_getitem _ _)))
 show gu _ _ (pi (.ref t) >>= _) _ _ s;refine am<|tupleItemsOf_ ht ?_;refine am<|j0 hTs ?_;rw[ga q0q];refine am<|ym hs pl pu ?_
 have hno:¬((((wp items.size 0 lo:Nat):Int)==0&&(1:Int)==1&&(wp items.size items.size hi-wp items.size 0 lo)==items.size)=true):=by intro q;rw[hJ,hJ]at q;have q1:((wp items.size 0 lo:Nat):Int)=0:=eq_of_beq q.1.1;have q2:wp items.size items.size hi-wp items.size 0 lo=items.size:=eq_of_beq q.2;exact hw #[q0d,q0d]
 show gu _ _ (if (((wp items.size 0 lo:Nat):Int)==0&&(1:Int)==1&&(wp items.size items.size hi-wp items.size 0 lo)==items.size)=true then _ else _) _ _ s;rw[gc hno,Oe]
 first
  | exact am (m:=kB _)<|hR (ap #[_,rfl,ap h]) Lj
  | exact am (m:=kB _)<|hR (am<|ap<|ap #[_,rfl,ap h]) Lj
  | exact am<|am (m:=kB _)<|hR (ap<|ap #[_,rfl,ap h]) Lj
  | exact am<|am (m:=kB _)<|hR (ap #[_,rfl,ap h]) Lj
end HT
namespace L2
open PySem PySem.Spec PyProof.Rows
abbrev TO:=St->Hp->(Option Int->Hp->Prop)->Prop
def PO(X:Cx)(e:Option hW)(t:TO):Prop :=
 ∀(a:List (cr×Obj)) (s:gn) (b:St) (H:Hp) (Q:Option Int->Hp->Prop),Inv X a b H s->t b H Q ->
  gu (gv X.prog X.w) X.A (evalPart e X.env) (λu d=>∃o c,Inv X a b c d/\pC u o/\Q o c) X.xe s
def R8:TO:=λ_ H Q=>Q none H
def Yh(t:TE):TO:=λa H Q=>t a H λx b=>∃i,x=.int i/\Q ↑i b
def intsAre_of{a:List Int}:∀{b:List ci},Vals (a.map V.int) b->kg b a:=by
 induction a with
 |nil=>intro b r;rw[n9]at r;cases r;exact .nil
 |cons n a c =>
  intro b r;rw[gN]at r
  cases r with
  |cons d f =>
   obtain⟨t,e⟩:=d;subst e;exact .cons n t<|c f
section
variable{X:Cx}{e:hW}{te:TE}{lo hi:Option hW}{tl th:TO}{pos p2:Pos}
def Cz:PO X none R8:=by intro a s b H Q I h;rw[sL];exact ap #[none,H,I,.none,h]
def CA(h:PE X e te):PO X ↑e (Yh te):=by intro a s b H Q I c;rw[evalPart_some];refine uT (h a s b H _ I c) λu l d=>e2a3 d λx f g j k=>?_;obtain⟨i,rfl,q⟩:=k;obtain⟨t,rfl⟩:=j;exact#[↑i,f,g,.int i t,q]
def U1(X:Cx)(r:V->Option Int->Option Int->Hp->VK->Prop):Prop :=
 ∀(a:List (cr×Obj)) (s:gn) (b:St) (H:Hp) (x:V) (v c d:ci) (lo hi:Option Int) (f:cr) (Q:VK),Inv X a b H s->RelV x v->s.heap.IsSliceOf f c d .none->pC c lo->pC d hi->r x lo hi H Q ->
  ∃T g,mB (.type T) "__getitem__"=pure (some<|.builtin g)/\s.TypeIs v T/\gu (gv X.prog X.w) X.A (nc v<|.ref f) (EP X a b Q) X.xe s
def U1.or(h:U1 X r)(l:U1 X m):U1 X (λx lo hi H Q=>r x lo hi H Q\/m x lo hi H Q):=by
 intro a s b H x v c d lo hi f Q I g i j k q;rcases q with q|q
 ·exact h a s b H x v c d lo hi f Q I g i j k q
 ·exact l a s b H x v c d lo hi f Q I g i j k q
def tSl(r:V->Option Int->Option Int->Hp->VK->Prop)(te:TE)(tl th:TO):TE:=λa H Q=>te a H λx b=>tl a b λl c=>th a c λu d=>r x l u d Q
def zh(k:U1 X r)(m:PE X e te)(n:PO X lo tl)(o:PO X hi th):PE X (.Subscript e (.Slice lo hi none p2) pos) (tSl r te tl th):=by intro a s d H Q I h;refine rZ<|uT (m a s d H _ I h) λv p f=>e2a3 f λx t w y z=>?_;refine wpAny_Slice<|uT (n a p d t _ w z) λg A f=>e2a3 f λl B C D E=>uT (o a A d B _ C E) λi c f=>e2a3 f λu j F G J=>?_;rw[sL];refine ap ?_;have L:Inv X a d j { c with heap:=c.heap.push { cls:=.type "slice",data:=.fields #v[g,i,.none]}}:=F.kept (t':=c.toks) λb P q=>ce _ q;obtain⟨T,R,M,N,O⟩:=k a { c with heap:=c.heap.push { cls:=.type "slice",data:=.fields #v[g,i,.none]}} d j x v g i l u ⇑c Q L y (qp ..) D G J;exact tail_any (ops:=[.ref ⇑c,v]) N M O (by with_unfolding_all rfl)
noncomputable def C6(a:List V)(lo hi:Option Int):List V:=(a.drop<|HT.wp a.length 0 lo).take<|HT.wp a.length a.length hi-HT.wp a.length 0 lo
def B8(a:List V)(lo hi:Option Int):(C6 a lo hi).length<=a.length:=by unfold C6;rw[kR,l6];omega
def a0z(K:f9):V->Option Int->Option Int->Hp->VK->Prop:=λx lo hi H Q=>∃a b,x=.ref a/\yA K H a b /\
 ¬(HT.wp b.length 0 lo=0/\HT.wp b.length b.length hi=b.length)/\∀p,H p=none->Q (.ref p) (upd H p<|.tup<|C6 b lo hi)
def V1:U1 X (a0z X.K):=by
 intro g s u H x v w y lo hi z Q I k l m n h;obtain⟨a,d,rfl,p,t,q⟩:=h;cases k;refine e1a3 (I.tuple p) λf r i j=>?_;have c:f.toArray.size=d.length:=by rw[gy];exact r.length.symm
 refine#["tuple",_,PyProof.Rows.slot_tuple_getitem.lookup,i.typeIs,?_];refine HT.AM i l m n (by rw[c];exact t) ?_ (by rw[c];exact j);rw[c];refine#[.ref ⇑s,_,I.laid (t':=s.toks) (o:=.tup<|C6 d lo hi) (λb A q=>ce _ q) (gg _) ?_,rfl,q _<|I.uV.fresh<|gg _];exact#[gW (B8 d lo hi) j,_,(r.drop<|HT.wp d.length 0 lo).take<|HT.wp d.length d.length hi-HT.wp d.length 0 lo,IsTup.new _ _]
end
noncomputable def U4(n:Nat)(i:Int):Option Nat:=if 0<=i then (if i<n then some i.toNat else none) else if -(n:Int)<=i then some (i+n).toNat else none
noncomputable def Ep{a:Type}(b:List a)(i:Int):Option a:=(U4 b.length i).bind λj=>b[j]?
def Lk{n:Nat}{i:Int}{j:Nat}(h:U4 n i=↑j):seqIndex? i n=↑j/\j<n/\-(n:Int)<=i/\i<n:=by
 unfold U4 at h;by_cases b:0<=i
 ·rw[ga b]at h;by_cases a:i<n
  ·rw[ga a]at h;have e:i.toNat=j:=il h;exact#[by rw[seqIndex_of b a,e],q0a,q0a,a]
  ·rw[gc a]at h;cases h
 ·rw[gc b]at h;by_cases a:-(n:Int)<=i
  ·rw[ga a]at h;have e:(i+n).toNat=j:=il h;exact#[by rw[tM q0a a,e],q0a,a,q0a]
  ·rw[gc a]at h;cases h
def Ll{α:Type}{xs:List α}{i:Int}{v:α}(h:Ep xs i=↑v):∃j,seqIndex? i xs.length=↑j/\xs[j]?=↑v/\j<xs.length/\-(xs.length:Int)<=i/\i<xs.length:=by
 unfold Ep at h
 cases e:U4 xs.length i with
 |none=>rw[e]at h;cases h
 |some j =>
  rw[e]at h;obtain⟨h1,h2,h3,h4⟩:=Lk e;exact#[j,h1,h,h2,h3,h4]
def Lm{α:Type}{xs:List α}{j:Nat}{v:α}(h:xs[j]?=↑v):Ep xs (j:Int)=↑v:=by
 have hj:j<xs.length:=(List.getElem?_eq_some_iff.mp h).1
 have e:U4 xs.length (j:Int)=↑j:=by unfold U4;rw[ga q0a,ga q0a];simp
 unfold Ep;rw[e];exact h
def Lo(b:hW):Prop:=∀o i,qY b false o i=operate [o,i] (nc o i)
def IxR(X:Cx)(r:R2):Prop :=
 ∀(c a:hW) (b:List (cr×Obj)) (s:gn) (d:St) (H:Hp) (x y:V) (v u:ci) (Q:VK),Inv X b d H s->RelV x v->RelV y u->r x y H Q ->
  qY a false v u=operate [v,u] (nc v u)->gu (gv X.prog X.w) X.A (subscriptTail c a v u) (EP X b d Q) X.xe s
def MtR(X:Cx)(e:String)(r:V->List V->Hp->VK->Prop):Prop :=
 ∀(a:List (cr×Obj)) (s:gn) (b:St) (H:Hp) (x:V) (c:List V) (v:ci) (d:List ci) (Q:VK),Inv X a b H s->RelV x v->Vals c d->r x c H Q ->
  gu (gv X.prog X.w) X.A (call (.builtin e) (v::d)) (EP X a b Q) X.xe s
section
variable{X:Cx}
def xq(d:IxR X r)(e:PE X a f)(g:PE X b i)(j:Lo b):PE X (.Subscript a b pos) (XA r f i):=by intro c s k H Q I h;exact rZ<|VS e g I h λv u l x y m n o p q=>d a b c l k m x y v u Q n o p q<|j _ _
def a0B(K:f9):R2:=λx y H Q=>∃p a i v,x=.ref p/\y=.int i/\vF K H p a/\Ep a i=↑v/\Q v H
def a0C(K:f9):R2:=λx y H Q=>∃p a i v,x=.ref p/\y=.int i/\yA K H p a/\Ep a i=↑v/\Q v H
def v0:IxR X (a0B X.K):=by
 intro value slice a s g H x y v u Q I n o h k;obtain⟨p,J,i,z,rfl,rfl,A,B,q⟩:=h;cases n;obtain⟨t,rfl⟩:=o;refine e1a3 (I.list A) λc r d L=>?_;obtain⟨j,b,C,M,D,E⟩:=Ll B;refine e1a2 (r.get C) λw l e=>?_;have F:=r.length;have N:=C3;have fin:EP X a g Q w s:=#[z,H,I,e,q];by_cases m:0<=i
 ·have f:i.toNat=j:=by rw[seqIndex_of m E]at b;exact il b
  exact item_listR d.isList m q0a (by rw[f];simpa using l) fin k
 ·have f:(i+(c.toArray.size:Int)).toNat=j:=by rw[tM q0a D]at b;rw[gy,<- F];exact il b
  exact tN (x:=w) d.isList.typeIs slot_list_getitem.lookup
   (wpAny_getItem_list_neg (Q:=λr G=>r=w/\EP X a g Q r G) d.isList q0a (by rw[gy]<;>lia) q0a (by rw[f];simpa using l) #[rfl,fin]) k
def Of:IxR X (a0C X.K):=by
 intro value slice a s c H x y v u Q I e f h g;obtain⟨p,D,i,z,rfl,rfl,k,l,q⟩:=h;cases e;obtain⟨t,rfl⟩:=f;refine e1a3 (I.tuple k) λm r d E=>?_;obtain⟨j,n,o,F,G,J⟩:=Ll l;refine e1a2 (r.get o) λw A b=>?_;have B:=r.length;have L:=C3;have fin:EP X a c Q w s:=#[z,H,I,b,q]
 exact tN (x:=w) d.typeIs slot_tuple_getitem.lookup
  (getItem_tuple (j:=j) (Q:=λr C=>r=w/\EP X a c Q r C) d q0a q0a (by rw[gy,<- B];exact n) (by simpa using A) #[rfl,fin]) g
def Jj(a:List ci)(n j:Nat)(u:ci):Obj.mapSeq (·.setIfInBounds j u) { cls:=.type "list",data:=.seq a.toArray n}={ cls:=.type "list",data:=.seq (a.set j u).toArray n}:=by simp[Obj.mapSeq]
def Inv.lst(I:Inv X b d H s)(h:H p=↑(.lst c)) :
  ∃(a:List ci)(n:Nat),Vals c a/\s.heap.get? p=some { cls:=.type "list",data:=.seq a.toArray n}/\c.length<=gk:=by
 obtain⟨z,a,n,r,e⟩:=I.uV p _ h;exact#[a,n,r,e,z]
def Inv.V2{c a:List ci}{n g:Nat}(I:Inv X d k H s)(h:H p=↑(.lst v))
 (l:s.heap.get? p=some { cls:=.type "list",data:=.seq c.toArray n}) (i:f { cls:=.type "list",data:=.seq c.toArray n}={ cls:=.type "list",data:=.seq a.toArray g}) (r:Vals j a) (m:j.length<=gk) (t:Nat) :
    Inv X d k (upd H p<|.lst j) { s with heap:=s.heap.update p f,toks:=t}:=by
  have e:(s.heap.update p f).get? p=some { cls:=.type "list",data:=.seq a.toArray g}:=by
    rw[ie f l (by rw[i]<;>rfl),i]
  refine I.write (x:=p) (e:=p) (by rw[h];trivial) (.inl rfl) (λb u o q=>(gZ _ _<|Ne.symm o).trans q) #[_,e] ?_
  exact#[m,a,g,r,e]
def Yi:V->V->V->Hp->(Hp->Prop)->Prop:=λo i v H Q=>∃p a k j,o=.ref p/\i=.int k/\H p=↑(.lst a)/\U4 a.length k=↑j/\Q (upd H p<|.lst<|a.set j v)
def set_list:VJ X Yi:=by
 intro a s y H o i v F G u Q I z A B h;obtain⟨p,C,k,j,rfl,rfl,g,D,q⟩:=h;cases z;obtain⟨t,rfl⟩:=A;obtain⟨b,n,r,d,E⟩:=I.lst g;obtain⟨c,J,l,m⟩:=Lk D;have e:=r.length;have L:=C3
 have w:Inv X a y (upd H p<|.lst<|C.set j v) { s with heap:=s.heap.update p (Obj.mapSeq (·.setIfInBounds j u))} :=
  I.V2 g d (Jj b n j u) (r.set B j) (by rw[lq];exact E) s.toks
 by_cases x:0<=k
 ·have f:k.toNat=j:=by rw[seqIndex_of x m]at c;exact il c
  exact PySem.W.ki_setAt d x q0a (by rw[gy,<- e];exact m) (by rw[f];exact#[_,w,q])
 ·have f:(k+(b.toArray.size:Int)).toNat=j:=by rw[tM q0a l]at c;rw[gy,<- e];exact il c
  exact PySem.W.ki_setBack d q0a (by rw[gy,<- e];exact l) q0a (by rw[f];exact#[_,w,q])
def FD(a b:Option Int)(n:Nat):(mI a b none n).1=((HT.wp n 0 a:Nat):Int)/\(mI a b none n).2.1=((HT.wp n n b:Nat):Int)/\(mI a b none n).2.2=1:=by
 refine#[?_,?_,rfl]
 ·cases a with
  |none=>simp[mI,HT.wp]
  |some i =>
   simp only[mI,HT.wp,pL,show (1:Int)>0 by decide,if_true];by_cases h:i<0
   ·simp only[h,if_true]<;>lia
   ·simp only[h,oF]<;>lia
 ·cases b with
  |none=>simp[mI,HT.wp]
  |some i =>
   simp only[mI,HT.wp,pL,show (1:Int)>0 by decide,if_true];by_cases h:i<0
   ·simp only[h,if_true]<;>lia
   ·simp only[h,oF]<;>lia
def Er(a:List ci)(b c:Option Int):slicePick a.toArray b c none=((a.drop<|HT.wp a.length 0 b).take<|HT.wp a.length a.length c-HT.wp a.length 0 b).toArray:=by refine e0a3 (FD b c a.toArray.size) λd e f=>?_;unfold slicePick;rw[d,e,f];simp only[sliceRange_one,pick_run,gy]<;>rfl
def a0D(K:f9):V->Option Int->Option Int->Hp->VK->Prop:=λx c d H Q=>∃a b,x=.ref a/\vF K H a b/\∀p,H p=none->Q (.ref p) (upd H p<|.lst<|C6 b c d)
def CB:U1 X (a0D X.K):=by intro g s u H x v w y e f z Q I j k l m h;obtain⟨a,c,rfl,n,q⟩:=h;cases j;refine e1a3 (I.list n) λp r i t=>?_;have d:=r.length;refine#["list",_,slot_list_getitem.lookup,i.isList.typeIs,?_];refine sM i.isList k l m .none q0o ?_ (by rw[gy]<;>lia);rw[Er,<- d];refine#[.ref ⇑s,_,I.laid (t':=s.toks) (o:=.lst<|C6 c e f) (λb A q=>ce _ q) (gg _) ?_,rfl,q _<|I.uV.fresh<|gg _];exact#[gW (B8 c e f) t,_,0,(r.drop<|HT.wp c.length 0 e).take<|HT.wp c.length c.length f-HT.wp c.length 0 e,gx _ rfl]
noncomputable def AN:V->Bool
 | .vT=>true
 | .bl _=>true
 | .int _=>true
 | .str _=>true
 |_=>false
noncomputable def RI:V->V->Bool
 | .vT,.vT=>true
 | .bl a,.bl b=>a==b
 | .bl a,.int b=>(if a then 1 else 0)==b
 | .int a,.bl b=>a==(if b then 1 else 0)
 | .int a,.int b=>a==b
 | .str a,.str b=>a==b
 |_,_=>false
def V3(e:RelV y u)(c:RelV x v)(g:AN y=true)(f:AN x=true):SeqAt.EqAt A s u v (RI y x):=by
 cases y with
 |vT =>
  cases e
  cases x with
  |vT=>cases c;exact SeqAt.EqAt.same _
  |bl b=>cases c;exact SeqAt.EqAt.none_bool b
  |int b=>obtain⟨t,rfl⟩:=c;exact SeqAt.EqAt.none_int b t
  |str b=>obtain⟨t,rfl⟩:=c;exact SeqAt.EqAt.none_str b t
  |_=>exact gA (show false=true from f) gw
 |bl a =>
  cases e
  cases x with
  |vT=>cases c;exact SeqAt.EqAt.bool_none a
  |bl b=>cases c;exact SeqAt.EqAt.bool_bool a b
  |int b=>obtain⟨t,rfl⟩:=c;exact SeqAt.EqAt.bool_int a b t
  |str b=>obtain⟨t,rfl⟩:=c;exact SeqAt.EqAt.bool_str a b t
  |_=>exact gA (show false=true from f) gw
 |int a =>
  obtain⟨d,rfl⟩:=e
  cases x with
  |vT=>cases c;exact SeqAt.EqAt.int_none a d
  |bl b=>cases c;exact SeqAt.EqAt.int_bool a d b
  |int b=>obtain⟨t,rfl⟩:=c;exact SeqAt.EqAt.int_int a d b t
  |str b=>obtain⟨t,rfl⟩:=c;exact qU a d b t
  |_=>exact gA (show false=true from f) gw
 |str a =>
  obtain⟨d,rfl⟩:=e
  cases x with
  |vT=>cases c;exact SeqAt.EqAt.str_none a d
  |bl b=>cases c;exact SeqAt.EqAt.str_bool a d b
  |int b=>obtain⟨t,rfl⟩:=c;exact qV a d b t
  |str b=>obtain⟨t,rfl⟩:=c;exact SeqAt.EqAt.str_str a d b t
  |_=>exact gA (show false=true from f) gw
 |_=>exact gA (show false=true from g) gw
noncomputable def Jk(x:V)(u:ci):Bool:=match u with
 | .none=>RI .vT x
 | .bool b=>RI (.bl b) x
 | .int i _=>RI (.int i) x
 | .str z _=>RI (.str z) x
 |_=>false
def Og(r:RelV y u)(f:AN y=true):Jk x u=RI y x:=by
 cases y with
 |vT=>cases r;rfl
 |bl b=>cases r;rfl
 |int i=>obtain⟨t,rfl⟩:=r;rfl
 |str z=>obtain⟨t,rfl⟩:=r;rfl
 |_=>exact gA (show false=true from f) gw
def CC:∀{a:List V} {b:List ci},Vals a b->a.all AN=true->b.any (Jk x)=a.any λy=>RI y x:=by
 intro _ _ z f
 induction z with
 |nil=>rfl
 |cons h t c =>
  rw[pq,hJ]at f;rw[ny,ny,Og h f.1,c f.2]
def zi(d:RelV x v)(e:AN x=true):∀{b:List V} {c:List ci},Vals b c->b.all AN=true->∀u∈c,SeqAt.EqAt A s u v (Jk x u)
 |_,_,.nil,_=>λu a=>by cases a
 |y::b,u::c,.cons r t,f=>λg a=>by
  rw[pq,hJ]at f;rcases List.mem_cons.mp a with rfl|a
  ·rw[Og r f.1];exact V3 r d f.1 e
  ·exact zi d e t f.2 g a
noncomputable def ZO(x:V)(a:List V):Bool:=a.any λy=>RI y x
def rIn(K:f9)(b:Bool):R2:=λx y H Q=>∃p a,y=.ref p/\(vF K H p a\/yA K H p a)/\AN x=true/\a.all AN=true/\Q (.bl<|if b then !ZO x a else ZO x a) H
def EQ:Ad X (iX .In) (rIn X.K false):=by
 intro f s l H x y v u Q I g j h;obtain⟨p,m,rfl,b,i,c,q⟩:=h;cases j;rcases b with b|b
 ·refine e1a3 (I.list b) λa r d k=>?_;refine SeqAt.in_listAt (Jk x) d.isList (λw e=>zi g i r c w<|by simpa using e) #[.bl _,H,I,rfl,?_];rw[show a.toArray.any (Jk x)=a.any (Jk x) by simp,CC r c];exact q
 ·refine e1a3 (I.tuple b) λa r d k=>?_;refine SeqAt.in_tupleAt (Jk x) d (λw e=>zi g i r c w<|by simpa using e) #[.bl _,H,I,rfl,?_];rw[show a.toArray.any (Jk x)=a.any (Jk x) by simp,CC r c];exact q
def AO:Ad X (iX .NotIn) (rIn X.K true):=by
 intro f s l H x y v u Q I g j h;obtain⟨p,m,rfl,b,i,c,q⟩:=h;cases j;rcases b with b|b
 ·refine e1a3 (I.list b) λa r d k=>?_;refine SeqAt.notIn_listAt (Jk x) d.isList (λw e=>zi g i r c w<|by simpa using e) #[.bl _,H,I,rfl,?_];rw[show a.toArray.any (Jk x)=a.any (Jk x) by simp,CC r c];exact q
 ·refine e1a3 (I.tuple b) λa r d k=>?_;refine SeqAt.notIn_tupleAt (Jk x) d (λw e=>zi g i r c w<|by simpa using e) #[.bl _,H,I,rfl,?_];rw[show a.toArray.any (Jk x)=a.any (Jk x) by simp,CC r c];exact q
def xv:xU X (.builtin "len") (λg H Q=>∃p b,g=[.ref p]/\(vF X.K H p b\/yA X.K H p b)/\Q (.int b.length) H):=by
 intro i s l H g m Q I r h;obtain⟨p,b,rfl,c,q⟩:=h;obtain⟨u,rfl,j⟩:=vals1 r;cases j;have n:=C3;rcases c with c|c
 ·refine e1a3 (I.list c) λd e f k=>?_;have a:=e.length;exact Calls.call_len_list f.isList (by simp only[gy]<;>lia) #[.int b.length,H,I.tok _,#[s.toks+1,by rw[gy,a]],q]
 ·refine e1a3 (I.tuple c) λd e f k=>?_;have a:=e.length;exact len_tuple f (by simp only[gy]<;>lia) #[.int b.length,H,I.tok _,#[s.toks+1,by rw[gy,a]],q]
def xy:xU X (.type "list") (λB H Q=>∃p d,B=[.ref p]/\(vF X.K H p d\/yA X.K H p d)/\∀l,H l=none->Q (.ref l) (upd H l<|.lst d)):=by
 intro i s D H B F Q I r h;obtain⟨p,d,rfl,j,q⟩:=h;obtain⟨u,rfl,E⟩:=vals1 r;cases E
 have k:∀(a:List ci),Vals d a->d.length<=gk->∀(c:hX)(f:Nat),(∀b C,s.heap.get? b=↑C->c.get? b=↑C) ->
   c.get? ⇑s=some { cls:=.type "list",dict:=none,data:=.seq a.toArray f,slots:=#v[]}->EP X i D Q (.ref ⇑s) { s with heap:=c}:=λa g m c f t e =>
  #[.ref ⇑s,_,I.laid (t':=s.toks) t (gg _)<|show vq X.prog X.w _ c _ (.lst d) from#[m,a,f,g,e],rfl,q _<|I.uV.fresh<|gg _]
 rcases j with j|j
 ·refine e1a3 (I.list j) λa g x m=>?_;have v:=g.length;obtain⟨o,y,z,n,A⟩:=x.isList;exact call_list_seq p (.inl rfl) y z A (λc f t e=>k a g m c f t e) (by simp only[gy]<;>lia)
 ·refine e1a3 (I.tuple j) λa g x m=>?_;have v:=g.length;obtain⟨o,y,z,n,A⟩:=x;exact call_list_seq p (.inr rfl) y z A (λc f t e=>k a g m c f t e) (by simp only[gy]<;>lia)
def Es:xU X (.type "tuple") (λk H Q=>∃p d,k=[.ref p]/\((vF X.K H p d/\∀l,H l=none->Q (.ref l) (upd H l<|.tup d))\/(yA X.K H p d/\Q (.ref p) H))):=by
 intro a s m H k A Q I r h;obtain⟨p,d,rfl,h⟩:=h;obtain⟨u,rfl,x⟩:=vals1 r;cases x;rcases h with⟨g,q⟩|⟨g,q⟩
 ·refine e1a3 (I.list g) λc i j n=>?_;have t:=i.length;refine call_tuple_list j.isList (λf y=>?_) (by simp only[gy]<;>lia);have v:Inv X a m H { s with heap:=f}:=I.kept (t':=s.toks) y
  have z:Inv X a m (upd H f.objs.size<|.tup d) { s with heap:=f.push { cls:=.type "tuple",data:=.seq c.toArray}} :=
   v.laid (t':=s.toks) (λb o e=>ce _ e) (gg _) (show vq X.prog X.w _ _ _ (.tup d) from#[n,c,i,IsTup.new _ _])
  exact#[.ref f.objs.size,_,z,rfl,q _<|v.uV.fresh<|gg _]
 ·refine e1a3 (I.tuple g) λc i j n=>?_;exact call_tuple_same j #[.ref p,H,I,rfl,q]
def tyV(K:f9)(T:String)(x:V)(H:Hp):Prop:=match x with
 | .str _=>T="str"
 | .int _=>T="int"
 | .ref p=>(T="list"/\∃xs,vF K H p xs)\/(T="tuple"/\∃o,K.lookup p=↑o/\o.cls=.type "tuple"/\o.dict=none) \/
   (T="dict"/\((∃wA,H p=↑(.dK wA))\/∃wA,H p=↑(.dT wA)))\/(T="set"/\∃S n,H p=↑(.set S n))
 |_=>False
def Oh(I:Inv X k y H s)(r:RelV x v)(f:tyV X.K T x H) :
  s.TypeIs v T/\∀a,v=.ref a->∃l,s.heap.get? a=↑l/\l.dict=none:=by
 cases x with
 |str z =>
  obtain⟨t,rfl⟩:=r;cases (show T="str" from f);exact#[typeIs_str s z t,λ_ e=>nomatch e]
 |int i =>
  obtain⟨t,rfl⟩:=r;cases (show T="int" from f);exact#[typeIs_int s i t,λ_ e=>nomatch e]
 |ref p =>
  cases r;rcases f with⟨rfl,A,q⟩|⟨rfl,o,b,u,g⟩|⟨rfl,b⟩|⟨rfl,S,n,b⟩
  ·refine e1a3 (I.list q) λw _ m _=>?_;refine#[m.isList.typeIs,λa e=>?_];cases e;refine e2a4 m λo n e c g _=>?_;exact#[o,e,g]
  ·refine#[#[o,I.xT p o b,u],λa e=>?_];cases e;exact#[o,I.xT _ o b,g]
  ·have z:∃o,s.heap.get? p=↑o/\o.ExactDict:=by
    rcases b with⟨h,b⟩|⟨h,b⟩
    ·obtain⟨_,_,_,_,o,_,_,e,d,_⟩:=I.uV p _ b;exact#[o,e,d]
    ·obtain⟨_,_,_,_,o,_,_,e,d,_⟩:=I.uV p _ b;exact#[o,e,d]
   refine e1a2 z λo e d=>?_;refine#[#[o,e,d.1],λa j=>?_];cases j;exact#[o,e,d.2.1]
  ·obtain⟨o,_,_,_,e,d,_⟩:=I.uV p _ b;refine#[#[o,e,d.1],λa j=>?_];cases j;exact#[o,e,d.2.1]
 |_=>exact gX f
def Yj(K:f9)(T:String)(r:V->List V->Hp->VK->Prop)(b:TE):TE:=λc H Q=>b c H λx a=>tyV K T x a/\r x [] a Q
def tBM(K:f9)(T:String)(r:V->List V->Hp->VK->Prop)(c:TE)(t:TA):TE:=λa H Q=>c a H λx b=>tyV K T x b/\t a b λd e=>r x d e Q
variable{o e:hW}{es:List hW}{to:TE}{t:TA}{name:Str}{apos cpos:Pos}{T id:String}{r:V->List V->Hp->VK->Prop}
def Oi(k:PlainAttrs T)(d:Slot T name id)(f:typeOf (.builtin id)=pure (.type "method_descriptor"))(l:MtR X id r)(m:PE X o to)
 (b:g9 o name X.env (eval o X.env)=eval o X.env:=by rfl)(c:(apos.endLine==cpos.line)=true:=by rfl):PE X (.Call (.Attribute o name apos) [] [] cpos) (Yj X.K T r to):=by
  intro a s g H Q I h
  refine wpAny_Call_method0_late b c<|uT (m a s g H _ I h) λv n p=>e2a4 p λx q i j u w=>?_
  obtain⟨y,z⟩:=Oh i j u
  exact#[T,id,k,d,f,y,z,jB rfl<|PySem.evalArgs_none<|l a n g q x [] v [] Q i j .nil w]
def U5(p:PlainAttrs T)(f:Slot T name id)(i:typeOf (.builtin id)=pure (.type "method_descriptor"))(q:MtR X id r)(u:PE X o to)(w:PA X (e::es) t)
 (c:g9 o name X.env (eval o X.env)=eval o X.env:=by rfl)
 (g:((iN cpos (gf (e::es) X.env)).all (λx=>!x.1)&&(mf cpos (jZ [] X.env)).all (λx=>x.1.isSome)
&&decide ((e::es).length+([]:List oW).length+(if ([]:List oW).isEmpty then 0 else 1)<30))=true:=by rfl)
 (d:(apos.endLine==cpos.line)=true:=by rfl) (y:gf (e::es) X.env=(false,eval e X.env)::gf es X.env:=by rfl) (b:(iN cpos<|gf es X.env).any (·.1)=false:=by rfl) :
    PE X (.Call (.Attribute o name apos) (e::es) [] cpos) (tBM X.K T r to t):=by
  intro a s j H Q I h
  refine tO c g d rfl<|uT (u a s j H _ I h) λv z k=>e2a4 k λx A l m B C=>?_
  obtain⟨D,E⟩:=Oh l m B
  refine#[T,id,p,f,i,D,E,?_]
  have n:=w cpos a z j A _ l C
  rw[y]at n ⊢
  refine jB (by show (false||(iN cpos<|gf es X.env).any (·.1))=false;rw[b]<;>rfl)<|iZ ?_
  exact uT n λF G k=>e2a3 k λJ L M N O=>q a G j L x J v F Q M m N O
end
def XD(X:Cx)(e:String)(r:V->List V->Hp->VK->Prop):Prop :=
 ∀(a:List (cr×Obj)) (s:gn) (b:St) (H:Hp) (x:V) (c:List V) (v:ci) (d:List ci) (Q:VK),Inv X a b H s->RelV x v->Vals c d->r x c H Q ->
  gu (gv X.prog X.w) X.A (call (.builtin e) (v::d)) (EP X a b Q) X.xe s
def Vals.one:∀{x:V} {a:List ci},Vals [x] a->∃u,a=[u]/\RelV x u:=by intro _ _ z;cases z with|cons h t=>cases t;exact#[_,rfl,h]
def Vals.zero:∀{a:List ci},Vals [] a->a=[]
 |_,.nil=>rfl
def Vals.dropLast(h:Vals a b):Vals a.dropLast b.dropLast:=by
 induction h with
 |nil=>exact .nil
 |cons r t c =>
  cases t with
  |nil=>exact .nil
  |cons q d=>exact .cons r c
def Vals.eraseIdx:∀{a:List V} {b:List ci} (i:Nat),Vals a b->Vals (a.eraseIdx i) (b.eraseIdx i)
 |_,_,_,.nil=>.nil
 |_,_,0,.cons _ t=>t
 |_,_,i+1,.cons r t=>.cons r<|Vals.eraseIdx i t
def Vals.reverse(h:Vals a b):Vals a.reverse b.reverse:=by
 induction h with
 |nil=>exact .nil
 |cons r t c=>rw[ni,ni];exact Vals.append c<|.cons r .nil
def Jl(l:List d):l.eraseIdx (l.length-1)=l.dropLast:=by
 induction l with
 |nil=>rfl
 |cons a r c =>
  cases r with
  |nil=>rfl
  |cons b r =>
   have e:(a::b::r).length-1=((b::r).length-1)+1:=by
    have f:(a::b::r).length=r.length+2:=rfl;have g:(b::r).length=r.length+1:=rfl
    lia
   rw[e,nL,c]
   all_goals rfl
def ES:∀(l:List a)(i:Nat),(l.eraseIdx i).length<=l.length
 | [],_=>gg _
 |_::_,0=>kP _
 |_::r,i+1=>Nat.succ_le_succ<|ES r i
def Inv.V4{a its':List ci}{n:Nat}{d:Nat}(I:Inv X b g H s)(h:H l=↑(.lst p))
 (e:s.heap.get? l=some { cls:=.type "list",data:=.seq a.toArray n}) (i:f a.toArray=its'.toArray) (j:Vals c its') (k:c.length<=gk) :
    Inv X b g (upd H l<|.lst c) { s with heap:=s.heap.update l<|Obj.mapSeq f,toks:=d}:=by
  have q:=PySem.IsL.update e f
  rw[i]at q
  refine I.write (x:=l) (e:=l) (by rw[h];exact trivial) (.inl rfl) (λr u m o=>(gZ s.heap (Obj.mapSeq f)<|Ne.symm m).trans o) #[_,q] ?_
  exact#[k,its',_,j,q]
def Inv.a0G{t':Nat}(I:Inv X a d H s)(e:Vals c b)(f:c.length<=gk) :
  Inv X a d (upd H ⇑s<|.lst c) { s with heap:=s.heap.push { cls:=.type "list",data:=.seq b.toArray},toks:=t'} :=
 I.laid (λ_ _ q=>ce _ q) (gg _) #[f,b,0,e,gx _ rfl]
def Inv.fresh(I:Inv X a b H s):H ⇑s=none:=I.uV.fresh<|gg _
def Inv.Oj(I:Inv X c f H s)(d:H l=↑(.lst b)):b.length<=gk/\∃(a:List ci)(n:Nat),Vals b a/\b.length=a.length/\s.heap.get? l=some { cls:=.type "list",data:=.seq a.toArray n}:=by obtain⟨z,a,n,r,e⟩:=I.uV l _ d;exact#[z,a,n,r,r.length,e]
def Lq:V->List V->Hp->VK->Prop:=λx b H Q=>∃l a y,x=.ref l/\b=[y]/\H l=↑(.lst a)/\a.length<gk/\Q .vT (upd H l<|.lst<|a++[y])
def MG:XD X "list.append" Lq:=by
 intro b s i H x j v k Q I d f h;obtain⟨l,m,y,rfl,rfl,c,o,q⟩:=h;cases d;obtain⟨u,rfl,g⟩:=f.one;obtain⟨z,a,n,r,p,e⟩:=I.Oj c;refine call_meets F.slot_list_append #[_,e,rfl] F.entry_list_append (F.args_list_append_2 _ _) (PySem.list_append l a.toArray n u<|by rw[gy];lia) #[e,?_];refine#[.vT,_,I.V4 (its':=a++[u]) c e q0o (r.append<|.cons g .nil) ?_,rfl,q];rw[gz,gJ]
 lia
def Yk:V->List V->Hp->VK->Prop:=λx b H Q=>∃l a y,x=.ref l/\b=[]/\H l=↑(.lst a)/\a[a.length-1]?=↑y/\Q y (upd H l<|.lst a.dropLast)
def Ol:XD X "list.pop" Yk:=by
 intro d s p H x t v w Q I g i h;obtain⟨l,A,y,rfl,rfl,f,j,q⟩:=h;cases g;have b:=i.zero;subst b;obtain⟨z,a,n,r,k,e⟩:=I.Oj f;refine e1a2 (r.get j) λu m o=>?_
 have c:a.toArray[a.toArray.size-1]?=↑u:=by show a.toArray[a.length-1]?=↑u;rw[<- hI,<- k];exact m
 refine call_meets nZ #[_,e,rfl] F.entry_list_pop (F.args_list_pop_1 _) (MeetsSeq.list_pop_last l a.toArray n u c<|by rw[gy];omega) #[e,?_];refine#[y,_,I.V4 (its':=a.dropLast) f e ?_ r.dropLast ?_,o,q]
 ·show a.toArray.eraseIdxIfInBounds (a.toArray.size-1)=a.dropLast.toArray;rw[gy,pU,Jl]
 ·rw[List.length_dropLast];omega
def Om:V->List V->Hp->VK->Prop:=λx b H Q=>∃l a i k y,x=.ref l/\b=[.int i]/\H l=↑(.lst a)/\-(2 ^ 63)<=i/\i<2 ^ 63/\seqIndex? i a.length=↑k/\a[k]?=↑y/\Q y (upd H l<|.lst<|a.eraseIdx k)
def On:XD X "list.pop" Om:=by
 intro c s E H x G v J Q I f g h;obtain⟨l,j,i,k,y,rfl,rfl,d,m,o,p,A,q⟩:=h;cases f;obtain⟨u,rfl,B⟩:=g.one;obtain⟨t,rfl⟩:=B;obtain⟨z,a,n,r,C,e⟩:=I.Oj d;refine e1a2 (r.get A) λw D b=>?_
 refine call_meets nZ #[_,e,rfl] F.entry_list_pop (F.args_list_pop_2 _ _)
  (MeetsSeq.list_pop_at l a.toArray n i t k w (fitsIndex_both m o) (by rw[gy,<- C];exact p) (by rw[<- hI];exact D)<|by rw[gy];lia) #[e,?_]
 refine#[y,_,I.V4 (its':=a.eraseIdx k) d e ?_ (r.eraseIdx k) ?_,b,q]
 ·show a.toArray.eraseIdxIfInBounds k=(a.eraseIdx k).toArray;rw[pU]
 ·have:=ES j k
  lia
def a0H:R2:=λx y H Q=>∃l b a c,x=.ref l/\y=.ref b/\H l=↑(.lst a)/\H b=↑(.lst c)/\a.length+c.length<=gk/\∀p,H p=none->Q (.ref p) (upd H p<|.lst<|a++c)
def V5:Ad X (lH .Add) a0H:=by
 intro d s t H x y v u Q I f g h;obtain⟨l,b,w,A,rfl,rfl,i,j,B,q⟩:=h;cases f;cases g;obtain⟨z,c,n,r,C,e⟩:=I.Oj i;obtain⟨D,a,E,k,m,o⟩:=I.Oj j;refine PySem.P.add_list e o ?_ (by rw[gy,gy];lia);have p:c.toArray++a.toArray=(c++a).toArray:=by simp
 rw[p];exact#[.ref _,_,I.a0G (t':=s.toks) (r.append k) (by rw[gz];lia),rfl,q _ I.fresh]
section
variable{κ:Type}[DecidableEq κ]
noncomputable def xz(wA:List (κ×V))(k:κ):Option V:=(wA.find? λkv=>decide<|kv.1=k).map (·.2)
noncomputable def putK(wA:List (κ×V))(k:κ)(v:V):List (κ×V) :=
 if (wA.any λkv=>decide<|kv.1=k)=true then wA.map (λkv=>if kv.1=k then (kv.1,v) else kv) else wA++[(k,v)]
noncomputable def zj(a:List (κ×V))(k:κ):List (κ×V):=a.filter λb=>decide<|b.1≠k
def yo{p:κ×V}{r:List (κ×V)}(e:p.1=k):xz (p::r) k=↑p.2:=by simp[xz,ig,e]
def yp{p:κ×V}{r:List (κ×V)}(e:¬p.1=k):xz (p::r) k=xz r k:=by simp[xz,ig,e]
def zk(k:κ):∀a:List (κ×V),(a.any λb=>decide<|b.1=k)=(xz a k).isSome
 | []=>rfl
 |p::r=>by
  rw[ny];by_cases e:p.1=k
  ·simp only[yo e,decide_eq_true e,Bool.true_or,Option.isSome_some]
  ·rw[yp e,gH e,Bool.false_or];exact zk k r
def zl(a:List (κ×V))(k:κ)(v:V):(putK a k v).length<=a.length+1:=by
 unfold putK;split
 ·rw[gm];lia
 ·rw[gz,gK,mu];lia
def Oo{a:List (κ×V)}(v:V)(h:xz a k=none):putK a k v=a++[(k,v)]:=by unfold putK;rw[zk,h];exact gc q0q
def yC.xE(r:yC o u):o.isSome=u.isSome:=by
 cases o with
 |none=>cases u with
  |none=>rfl
  |some _=>exact(show False from r).elim
 |some _=>cases u with
  |none=>exact(show False from r).elim
  |some _=>rfl
def yC.getD(r:yC o u)(a:RelV d b):RelV (o.getD d) (u.getD b):=by
 cases o with
 |none=>cases u with
  |none=>exact a
  |some _=>exact(show False from r).elim
 |some _=>cases u with
  |none=>exact(show False from r).elim
  |some _=>exact r
def KV.val(r:KV a g)(k:κ):yC (xz a k) (pM g k):=by
 induction r with
 |nil=>exact True.intro
 | @cons p q l c h t i =>
  obtain⟨f,j⟩:=h;by_cases e:p.1=k
  ·have d:q.1=k:=f.symm.trans e;have b:pM (q::c) k=↑q.2:=by simp[pM,ig,d]
   rw[yo e,b];exact j
  ·have d:¬q.1=k:=λz=>e<|f.trans z;have b:pM (q::c) k=pM c k:=by simp[pM,ig,d]
   rw[yp e,b];exact i
def KV.any(r:KV a c)(k:κ):(a.any λb=>decide<|b.1=k)=c.any λb=>decide (b.1=k):=by
 induction r with
 |nil=>rfl
 |cons h t d=>rw[ny,ny,d,h.1]
def KV.V6(r:KV c d)(k:κ)(f:RelV y u) :
  KV (c.map λa=>if a.1=k then (a.1,y) else a) (d.map λa=>if a.1=k then (a.1,u) else a):=by
 induction r with
 |nil=>exact .nil
 | @cons p q j l h t g =>
  rw[gN,gN];refine .cons ?_ g;obtain⟨b,i⟩:=h;by_cases e:p.1=k
  ·rw[ga e,ga<|b.symm.trans e];exact#[b,f]
  ·rw[gc e,gc<|λz=>e<|b.trans z];exact#[b,i]
def KV.put(r:KV a b)(k:κ)(c:RelV y u):KV (putK a k y) (stored b k u):=by
 unfold putK stored;rw[r.any k];by_cases e:(b.any λd=>decide<|d.1=k)=true
 ·rw[ga e,ga e];exact r.V6 k c
 ·rw[gc e,gc e];exact Paired.snoc r #[rfl,c]
def KV.drop(r:KV c g)(k:κ):KV (zj c k) (without g k):=by
 unfold zj without
 induction r with
 |nil=>exact .nil
 | @cons p q l m h t f =>
  obtain⟨d,i⟩:=h;rw[iT,iT];by_cases e:p.1=k
  ·have a:¬decide (p.1≠k)=true:=by simp[e]
   have b:¬decide (q.1≠k)=true:=by simp[d.symm.trans e]
   rw[gc a,gc b];exact f
  ·have j:¬q.1=k:=λz=>e<|d.trans z;have a:decide (p.1≠k)=true:=by simp[e]
   have b:decide (q.1≠k)=true:=by simp[j]
   rw[ga a,ga b];exact .cons #[d,i] f
def KV.length{wA:List (κ×V)}{vs:List (κ×ci)}(r:KV wA vs):wA.length=vs.length:=Paired.length r
def HG(a:List (κ×V))(k:κ):(zj a k).length<=a.length:=gS _ _
end
def Aj(r:RelV (kV k) u):(uL P w).is k u=true:=by
 cases k with
 |inl i=>obtain⟨t,e⟩:=(show ∃t,u=kN i t from r);subst e;exact Hn P w i t
 |inr x=>obtain⟨t,e⟩:=(show ∃t,u=Value.str x t from r);subst e;exact Ho P w x t
def MH:∀{a:List Key} {c:List ci},Vals (a.map kV) c->ItemsAre (uL P w) a c:=by
 intro d
 induction d with
 |nil=>intro _ r;rw[n9]at r;cases r;exact .nil
 |cons k a b =>
  intro _ r;rw[gN]at r
  cases r with
  |cons h t=>exact .cons (Aj h)<|b t
abbrev KT(H:Hp):List (List Key×V)->List (List Key×cr×ci)->Prop:=Paired λp q=>p.1=q.1/\H q.2.1=↑(.tup<|p.1.map kV)/\RelV p.2 q.2.2
def KT.val(r:KT H a g)(k:List Key):yC (xz a k) ((r8 g k).map (·.2)):=by
 induction r with
 |nil=>exact True.intro
 | @cons p q l c h t i =>
  refine e0a3 h λf _ j=>?_;by_cases e:p.1=k
  ·have d:q.1=k:=f.symm.trans e;have b:r8 (q::c) k=↑q.2:=by simp[r8,ig,d]
   rw[yo e,b];exact j
  ·have d:¬q.1=k:=λz=>e<|f.trans z;have b:r8 (q::c) k=r8 c k:=by simp[r8,ig,d]
   rw[yp e,b];exact i
def KT.V6(r:KT H b f)(k:List Key)(g:RelV y u) :
  KT H (b.map λc=>if c.1=k then (c.1,y) else c) (f.map<|putAt k u):=by
 induction r with
 |nil=>exact .nil
 | @cons p q l m h t i =>
  rw[gN,gN];refine .cons ?_ i;refine e0a3 h λa d j=>?_;unfold putAt;by_cases e:p.1=k
  ·rw[ga e,ga<|a.symm.trans e];exact#[a,d,g]
  ·rw[gc e,gc<|λz=>e<|a.trans z];exact#[a,d,j]
def KT.put(r:KT H a c)(k:List Key)(f:H b=↑(.tup<|k.map kV))(d:RelV y u) :
  KT H (putK a k y) (storedH c k b u):=by
 have e:(a.any λg=>decide<|g.1=k)=(r8 c k).isSome:=by rw[zk,(r.val k).xE,hZ]
 unfold putK storedH;rw[e];by_cases q:(r8 c k).isSome=true
 ·rw[ga q,ga q];exact r.V6 k d
 ·rw[gc q,gc q];exact Paired.snoc r #[rfl,f,d]
def KT.keeps(r:KT H a d)(e:∀b c,H b=↑(.tup c)->f b=↑(.tup c)):KT f a d :=
 Paired.VA r λ_ _ z=>#[z.1,e _ _ z.2.1,z.2.2]
def U6(b:w4 P w H h)(e:Rd H a u):vq P w H h a u:=e.ok b
def AQ(d:w4 P w H h)(e:Rd H a (.dK b)):b.length<=gk/\(a==j7)=false/\∃c,KV b c/\h.DictOf (uL P w) a c :=
 show vq P w H h a (.dK b) from U6 d e
def Lr(d:w4 P w H h)(e:H a=↑(.dK b)):b.length<=gk/\(a==j7)=false/\∃c,KV b c/\h.DictOf (uL P w) a c:=AQ d<|.inl e
def Az{b:List Key}(d:w4 P w H h)(e:H a=↑(.tup<|b.map kV)):(oz<|uL P w).is h b a:=by obtain⟨_,c,r,o,f,g,n,i⟩:=(show vq P w H h a (.tup<|b.map kV) from d a _ e);exact#[o,c.toArray,n,f,g,i,by simpa using MH r]
def B9(g:w4 P w H h)(e:Rd H a (.dT b)):b.length<=gk/\(a==j7)=false /\
  ∃d,KT H b d/\h.DictOfH (oz<|uL P w) a d:=by
 obtain⟨z,y,d,r,o,j,k,n,s,u,v,A⟩:=(show vq P w H h a (.dT b) from U6 g e);refine#[z,y,d,r,o,j,k,n,s,u,v,λx c=>?_,A]
 have f:∀{l:List (List Key×V)} {m:List (List Key×cr×ci)},KT H l m->∀x∈m,(oz<|uL P w).is h x.1 x.2.1:=by
  intro l m q
  induction q with
  |nil=>intro x c;exact nomatch c
  | @cons p q C D i t B =>
   intro x c;rcases List.mem_cons.mp c with e|c
   ·subst e;exact Az g (by rw[<- i.1];exact i.2.1)
   ·exact B x c
 exact f r x c
def Yl(d:w4 P w H h)(e:H a=↑(.dT b)):b.length<=gk/\(a==j7)=false /\
  ∃c,KT H b c/\h.DictOfH (oz<|uL P w) a c:=B9 d<|.inl e
def xl(H:Hp)(a:cr)(y:V)(r:Option V):Prop :=
 (∃wA k,Rd H a (.dK wA)/\y=kV k/\r=xz wA k)\/∃wA k b,Rd H a (.dT wA)/\y=.ref b/\H b=↑(.tup<|k.map kV)/\r=xz wA k
def FE(H:Hp)(a:cr)(y v:V)(H':Hp):Prop :=
 (∃wA k,H a=↑(.dK wA)/\y=kV k/\wA.length<gk/\H'=upd H a (.dK<|putK wA k v)) \/
 ∃wA k b,H a=↑(.dT wA)/\y=.ref b/\H b=↑(.tup<|k.map kV)/\wA.length<gk/\H'=upd H a (.dT<|putK wA k v)
def xl.k{H:Hp}{a:cr}{wA:List (Key×V)}{k:Key}(e:H a=↑(.dK wA)):xl H a (kV k) (xz wA k):=.inl #[wA,k,.inl e,rfl,rfl]
def FE.k{H:Hp}{a:cr}{wA:List (Key×V)}{k:Key}{v:V}(e:H a=↑(.dK wA))(hl:wA.length<gk):FE H a (kV k) v (upd H a<|.dK<|putK wA k v):=.inl #[wA,k,e,rfl,hl,rfl]
def Inv.big(I:Inv X a b H s):j7<⇑s:=by have h:gC<⇑s:=(I.mod.glob.keeps I.bk).lt;exact mJ q0q h
def ET(B:A.units+1<jS)(I:Inv X i C H s)(g:xl H a y ↑v)(t:RelV y u)(h:∀f x,Inv X i C H x->RelV v f->Q f x) :
  gu (gv X.prog X.w) A (nc (.ref a) u) Q E s:=by
 rcases g with⟨j,k,e,m,l⟩|⟨j,k,b,e,m,eb,l⟩
 ·subst m;obtain⟨z,D,F,c,n⟩:=AQ I.uV e;obtain⟨f,q,d⟩:=yC.some_of (v:=v) (o:=pM F k) (by rw[l];exact c.val k);exact wpAny_getItem_of (Aj t) n.mapOf q<|h f _ (I.tok _) d
 ·subst m;cases (show u=gF b from t);obtain⟨z,D,G,c,n⟩:=B9 I.uV e;obtain⟨f,q,d⟩:=yC.some_of (v:=v) (o:=(r8 G k).map (·.2)) (by rw[l];exact c.val k);refine e1a2 (Option.map_eq_some_iff.mp q) λp J r=>?_;refine wpAny_getItem_heap (kC B) (Az I.uV eb) n J ?_;rw[r];exact h f _ (I.tok _) d
def a0I(r:A.units+1<jS)(I:Inv X d t H s)(g:xl H a y o)(n:RelV y u)(h:∀p,Inv X d t H p->Q (.bool o.isSome) p) :
  gu (gv X.prog X.w) A (iX .In u<|.ref a) Q E s:=by
 rcases g with⟨f,k,e,i,l⟩|⟨f,k,b,e,i,eb,l⟩
 ·subst i;obtain⟨z,j,v,c,m⟩:=AQ I.uV e;refine wpAny_in_of (Aj n) j m.mapOf ?_;rw[<- (c.val k).xE,<- l];exact h _<|I.tok _
 ·subst i;cases (show u=gF b from n);obtain⟨z,j,x,c,m⟩:=B9 I.uV e;refine wpAny_in_heap (kC r) (Az I.uV eb) j m ?_;have q:=(c.val k).xE;rw[hZ]at q;rw[<- q,<- l];exact h _<|I.tok _
def R9(r:A.units+1<jS)(I:Inv X d t H s)(g:xl H a y o)(n:RelV y u)(h:∀p,Inv X d t H p->Q (.bool<|!o.isSome) p) :
  gu (gv X.prog X.w) A (iX .NotIn u<|.ref a) Q E s:=by
 rcases g with⟨f,k,e,i,l⟩|⟨f,k,b,e,i,eb,l⟩
 ·subst i;obtain⟨z,j,v,c,m⟩:=AQ I.uV e;refine wpAny_notIn_of (Aj n) j m.mapOf ?_;rw[<- (c.val k).xE,<- l];exact h _<|I.tok _
 ·subst i;cases (show u=gF b from n);obtain⟨z,j,x,c,m⟩:=B9 I.uV e;refine wpAny_notIn_heap (kC r) (Az I.uV eb) j m ?_;have q:=(c.val k).xE;rw[hZ]at q;rw[<- q,<- l];exact h _<|I.tok _
def AR{h:Nat}(I:Inv X c i H s)(j:XY (H a))(k:im a s.heap d)(l:∃q,d.get? a=↑q)(f:vq X.prog X.w (upd H a g) d a g) :
  Inv X c i (upd H a g) { s with heap:=d,toks:=h} :=
 I.write (x:=a) (e:=a) j (.inl rfl) (λb q m z=>(k.2 b m).trans z) l f
def C7{d:hX}{b:List (Key×V)}(z:b.length<=gk)(f:(a==j7)=false)(c:KV b e)(g:d.DictOf (uL P w) a e) :
  vq P w h d a (.dK b):=#[z,f,e,c,g]
def EU(M:A.units+1<jS)(I:Inv X j N H s)(g:FE H a y v O)(D:RelV y u)(F:RelV v r)(h:∀G,Inv X j N O G->Q () G) :
  gu (gv X.prog X.w) A (rH (.ref a) u r) Q E s:=by
 rcases g with⟨d,k,e,n,l,o⟩|⟨d,k,b,e,n,eb,l,o⟩
 ·subst n o;obtain⟨z,p,P,f,t⟩:=Lr I.uV e;have x:P.length<=gk:=by rw[<- f.length];exact z
  have B:(putK d k v).length<=gk:=by have:=zl d k v;lia
  refine wpAny_setItem_pairs (hsz:=x) (Aj D) t λJ i C=>h _ ?_;have R:∃q,J.get? a=↑q:=e3a2 i λq _ _ m _=> #[q,m];exact AR I (by rw[e];exact True.intro) C R<|C7 B p (f.put k F) i
 ·subst n o;cases (show u=gF b from D);obtain⟨z,p,S,f,t⟩:=Yl I.uV e;have x:S.length<=gk:=by rw[<- Paired.length f];exact z
  have B:(putK d k v).length<=gk:=by have:=zl d k v;lia
  refine wpAny_setItem_heap (hsz:=x) (kC M) (Az I.uV eb) t λJ i C=>h _ ?_;obtain⟨q,T,U,m,W,Y,Z,_,h5⟩:=i;refine AR I (by rw[e];exact True.intro) C #[q,m] #[B,p,_,(f.put k eb F).keeps λc ys L=>?_,q,T,U,m,W,Y,Z,h5];rw[uh<|XX L e<|λz=>nomatch z];exact L
def MI(I:Inv X d j H s)(e:H a=↑(.dK b))(m:RelV (kV k) u)(l:(xz b k).isSome=true)(h:∀i,Inv X d j (upd H a<|.dK<|zj b k) i->Q () i) :
  gu (gv X.prog X.w) A (delItem (.ref a) u) Q E s:=by
 obtain⟨z,n,o,c,g⟩:=Lr I.uV e
 refine wpAny_delItem_slot g.typeIs q0q qq
  (nj qq g.typeIs PySem.F.entry_dict_delitem (PySem.F.args_dict_delitem_2 _ _) (meets_dict_delitem_pairs (uL X.prog X.w) a<|Aj m) ⟨o,g,by rw[<- c.length];exact z,by rw[<- (c.val k).xE];exact l,λp f r=>h _ ?_⟩)
 have t:∃q,p.get? a=↑q:=e3a2 f λq _ _ v _=> #[q,v];exact AR I (by rw[e];exact True.intro) r t<|C7 (gW (HG b k) z) n (c.drop k) f
def Ym{b:List ci}(I:Inv X f C H s)(e:H a=↑(.dK c))(m:RelV (kV k) u)(l:xz c k=↑v)(p:b=[]\/∃x,b=[x])
 (h:∀g r,Inv X f C (upd H a<|.dK<|zj c k) r->RelV v g->Q g r):gu (gv X.prog X.w) A (call (.builtin "dict.pop") (.ref a::u::b)) Q E s:=by
  obtain⟨z,D,y,d,B⟩:=Lr I.uV e
  obtain⟨g,G,n⟩:=yC.some_of (v:=v) (o:=pM y k) (by rw[<- l];exact d.val k)
  have J:(keyPart u).isSome=true:=by
    cases k with
    |inl i=>obtain⟨t,q⟩:=(show ∃t,u=kN i t from m);subst q;rfl
    |inr x=>obtain⟨t,q⟩:=(show ∃t,u=Value.str x t from m);subst q;rfl
  have L:qQ "dict.pop" #[.ref a::u::b,[]]:=by
    rcases p with q|⟨x,q⟩
    · subst q; exact PySem.F.args_dict_pop_2 _ _
    · subst q; exact PySem.F.args_dict_pop_3 _ _ _
  refine nj qZ B.typeIs PySem.F.entry_dict_pop L (meets_dict_pop_there (uL X.prog X.w) a (Aj m) b p J)
    #[y,g,B,by rw[<- d.length];exact z,G,λM j N=>h g _ ?_ n]
  have O:∃q,M.get? a=↑q:=e3a2 j λq _ _ P _=> #[q,P]
  exact AR I (by rw[e];exact True.intro) N O<|C7 (gW (HG c k) z) D (d.drop k) j
def Yn(I:Inv X b g H s)(e:Rd H a (.dK d))(h:∀t f,Inv X b g H f->Q (.int d.length t) f):gu (gv X.prog X.w) A (call (.builtin "len") [.ref a]) Q E s:=by obtain⟨z,i,k,c,j⟩:=AQ I.uV e;refine call_len_dict i j (by rw[<- c.length];rw[iB]at z;lia) ?_;rw[<- c.length];exact h _ _<|I.tok _
def Op(i:hW):Prop:=∀a b,qY i false a b=operate [a,b] (nc a b)
def Sc{m:String} 
 (n:mB (.type T) "__getitem__"=pure (some<|.builtin m)) (p:Op slice)
 (h:gu (gv a w) A (eval value g) (λo d=>gu (gv a w) A (eval slice g) (λi b=>b.TypeIs o T/\gu (gv a w) A (nc o i) Q E b) E d) E s) :
    gu (gv a w) A (eval (.Subscript value slice pos) g) Q E s:=by
  refine rZ<|iw h (λo d j=>iw j (λi b c=>?_) λ_ _ x=>x) λ_ _ x=>x
  obtain⟨l,c⟩:=c
  refine am ?_
  rw[getitemInPython_of_ne l.not_modules]
  refine am<|o6 l n ?_
  have f:gu (gv a w) A (qY slice false o i) (λr e=>gu (gv a w) A (letTemporaryGo value o r >>= λ_=>pure r) Q E e) E b:=by
    rw[p o i]
    exact wpAny_operating<|iw c (λr e k=>am<|wpAny_letTemporaryGo<|ap k) λ_ _ x=>x
  first
    | exact ap<|am f
    | exact am<|ap<|am f
    | exact am f
def HH(I:Inv X f h H s)(g:xl H a y o):s.TypeIs (.ref a) "dict":=by
 rcases g with⟨c,k,e,_,_⟩|⟨c,k,b,e,_,_,_⟩
 ·obtain⟨_,_,i,_,d⟩:=AQ I.uV e;exact d.typeIs
 ·obtain⟨_,_,j,_,d⟩:=B9 I.uV e;exact d.typeIs
def Yo(d e:TE):TE:=λb H Q=>d b H λx f=>e b f λy c=>∃a v,x=.ref a/\xl c a y ↑v/\Q v c
def a0J(d e:TE):TE:=λb H Q=>d b H λy f=>e b f λx c=>∃a o,x=.ref a/\xl c a y o/\Q (.bl o.isSome) c
def Sd(d e:TE):TE:=λb H Q=>d b H λy f=>e b f λx c=>∃a o,x=.ref a/\xl c a y o/\Q (.bl<|!o.isSome) c
def Yp(d e f:TE):TS:=λD b H=>f b H λv g=>d b g λx h=>e b h λy i=>∃a c,x=.ref a/\FE i a y v c/\D.nx b c
def Yq(e f g:TE)(h:V->V->Hp->VK->Prop):TS:=λD b H=>e b H λx i=>f b i λy c=>∃a v,x=.ref a/\xl c a y ↑v /\
 g b c λj k=>h v j k λz l=>∃d,FE l a y z d/\D.nx b d
def Oq(e f:TE):TS:=λD c H=>e c H λx g=>f c g λy d=>∃a b k,x=.ref a/\d a=↑(.dK b)/\y=kV k/\(xz b k).isSome=true/\D.nx c (upd d a<|.dK<|zj b k)
def FF(k:X.A.units+1<jS)(l:PE X o m)(n:PE X i ty)(p:Op i):PE X (.Subscript o i pos) (Yo m ty):=by intro b s f H Q I h;refine Sc PySem.F.slot_dict_getitem.lookup p<|uT (l b s f H _ I h) λu q c=>e2a3 c λx H1 r t w=>uT (n b q f H1 _ r w) λE G c=>e2a3 c λy H2 j z d=>e2a3 d λa v B g C=>?_;subst B;obtain rfl:u=gF a:=t;exact#[HH j g,ET k j g z λJ L D e=>#[v,H2,D,e,C]]
def Ot(f:X.A.units+1<jS)(j:PE X i ty)(k:PE X o l):PC X .In i o (a0J ty l):=by intro b s e H Q I h;refine uT (j b s e H _ I h) λC m c=>e2a3 c λy H1 n p q=>uT (k b m e H1 _ n q) λu D c=>e2a3 c λx H2 r t d=>e2a3 d λa v w g z=>?_;subst w;obtain rfl:u=gF a:=t;exact a0I f r g p λE B=>#[.bl v.isSome,H2,B,rfl,z]
def BA(f:X.A.units+1<jS)(j:PE X i ty)(k:PE X o l):PC X .NotIn i o (Sd ty l):=by intro b s e H Q I h;refine uT (j b s e H _ I h) λC m c=>e2a3 c λy H1 n p q=>uT (k b m e H1 _ n q) λu D c=>e2a3 c λx H2 r t d=>e2a3 d λa v w g z=>?_;subst w;obtain rfl:u=gF a:=t;exact R9 f r g p λE B=>#[.bl<|!v.isSome,H2,B,rfl,z]
def FG(j:X.A.units+1<jS)(k:PE X o l)(m:PE X i ty)(n:PE X value p)(q:js value (some<|.Subscript o i c) pos.line X.env=pure false) :
  PS X (.Assign [.Subscript o i c] value pos) (Yp l ty p):=by
 intro b s e H D I h;refine wpAny_Assign_Subscript (uT (n b s e H _ I h) λr t d=>e2a3 d λv H1 w z B=>uT (k b t e H1 _ w B) λu C d=>e2a3 d λx H2 E F G=>uT (m b C e H2 _ E G) λP Q d=>e2a3 d λy H3 J L f=>e2a3 f λa H4 M g N=>?_) q;subst M;obtain rfl:u=gF a:=F;exact EU j J g L z λR O=>#[e,H4,O,N]
def Sg(p:X.A.units+1<jS)(t:PE X o w)(B:PE X i ty)(C:PE X value E)(j:Ye X op F)
 (G:∀f d new,augStore i f d new=(do jY [new,f,d] (rH f d new);release [new,f,d] [];pure .next)):PS X (.AugAssign (.Subscript o i q) op value pos) (Yq w ty E F):=by
  intro b s e H D I h
  refine rs (uT (t b s e H _ I h) λu J c=>e2a3 c λx H1 L M N=>uT (B b J e H1 _ L N) λd s2 c=>e2a3 c λy H2 O r k=>e2a3 k λa v P g Q=>?_) G
  subst P
  obtain rfl:u=gF a:=M
  refine ET p O g r λR S T l=>uT (C b S e H2 _ T Q) λU W c=>e2a3 c λY H3 Z m q3=>uT (j b W e H3 v Y R U _ Z l m q3) λw3 s5 c=>e2a3 c λz H4 I5 rz n=>e1a2 n λH5 g5 q4=>?_
  exact EU p I5 g5 r rz λs6 I6=>#[e,H5,I6,q4]
def FH(j:PE X o m)(n:PE X i ty):PS X (.Delete [.Subscript o i g] pos) (Oq m ty):=by intro b s d H D I h;refine wpAny_Delete<|wpAny_deleteEach_cons<|wpAny_delete_Subscript<|uT (j b s d H _ I h) λu p f=>e2a3 f λx H1 q r t=>uT (n b p d H1 _ q t) λF G f=>e2a3 f λy H2 v w c=>e3a5 c λa z k A e B l C=>?_;subst A B;obtain rfl:u=gF a:=r;exact MI v e w l λJ E=>wpAny_deleteEach_nil #[d,_,E,C]
def HI(h:hX)(a:j7<h.objs.size):vq P w H (h.push { cls:=.type "dict",data:=.dict #v[]}) h.objs.size (.dK []) :=
 #[iu _,beq_eq_false_iff_ne.mpr<|Ne.symm<|gB a,[],.nil,rN h]
def C8:TE:=λ_ H Q=>∀p,H p=none->Q (.ref p) (upd H p<|.dK [])
def AS:PE X (.Dict [] [] pos) C8:=λb s c H Q I h =>
 wpAny_Dict_empty #[.ref ⇑s,_,I.laid (a:=⇑s) (o:=.dK []) (t':=s.toks) (λ_ _ q=>ce _ q) (gg _)<|HI s.heap I.big,rfl,h _<|I.uV.fresh<|gg _]
def Jm:List (TE×TE)->St->Hp->(List (V×V)->Hp->Prop)->Prop
 | [],_,H,Q=>Q [] H
 | (tk,tv)::r,σ,H,Q=>tk σ H λx H1=>tv σ H1 λy H2=>Jm r σ H2 λps H3=>Q ((x,y)::ps) H3
abbrev VV:List (V×V)->List (ci×ci)->Prop:=Paired λp q=>RelV p.1 q.1/\RelV p.2 q.2
def ZP(X:Cx)(d:Pos)(c:List (Option hW))(a:List hW)(e:List (TE×TE)):Prop :=
 ∀(b:List (cr×Obj)) (s:gn) (f:St) (H:Hp) (Q:List (V×V)->Hp->Prop),Inv X b f H s->Jm e f H Q ->
  gu (gv X.prog X.w) X.A (evalPairs<|pairTrees c a X.env d) (λi j=>∃g h,Inv X b f h j/\VV g i/\Q g h) X.xe s
def Sh:ZP X pos [] [] []:=λa s b H Q I h=>pairTrees_nil_walk #[[],H,I,.nil,h]
def Ou(e:PE X k f)(g:PE X v i)(j:ZP X pos l m c) :
  ZP X pos (↑k::l) (v::m) ((f,i)::c):=λa s d H Q I h =>
 pairTrees_cons_walk (uT (e a s d H _ I h) λu n b=>e2a3 b λx H1 o p q=>uT (g a n d H1 _ o q) λD r b=>e2a3 b λy H2 t w z =>
  uT (j a r d H2 _ t z) λE F b=>e2a3 b λA H3 B rel C=>#[(x,y)::A,H3,B,.cons #[p,w] rel,C])
noncomputable def C9(b a:List (Key×V)):List (Key×V):=a.foldl (λc d=>putK c d.1 d.2) b
def KV.merge:∀{a:List (Key×V)} {d:List (Key×ci)} {b:List (Key×V)} {c:List (Key×ci)},KV a d->KV b c->KV (C9 b a) (merged c d):=by
 intro a d b c r
 induction r generalizing b c with
 |nil=>intro q;exact q
 | @cons p q i j h t f =>
  intro g
  have e:KV (putK b p.1 p.2) (stored c q.1 q.2):=by have:=g.put p.1 h.2;rw[<- h.1];exact this
  exact f e
def Ak:∀(b a:List (Key×V)),(C9 a b).length<=a.length+b.length
 | [],a=>by show a.length<=a.length+0;lia
 |p::r,a=>by have c:=Ak r<|putK a p.1 p.2;have d:=zl a p.1 p.2;show (C9 (putK a p.1 p.2) r).length<=_;rw[gK];lia
def Jn:∀{d:List (Key×V)} {g:List (ci×ci)},VV (d.map λi=>(kV i.1,i.2)) g->∃e,Carries (uL P w) g e/\KV d e:=by
 intro j
 induction j with
 |nil=>intro _ r;rw[n9]at r;cases r;exact#[[],True.intro,.nil]
 |cons p d f =>
  intro _ r;rw[gN]at r
  cases r with
  | @cons a b as bs h t =>
   refine e1a2 (f t) λe c q=>?_;obtain⟨l,k⟩:=b;exact#[(p.1,k)::e,#[Aj h.1,rfl,c],.cons #[rfl,h.2] q]
def Yr(b:List (TE×TE)):TE:=λe H Q=>∀p,H p=none->Jm b e (upd H p<|.dK []) λf c=>c p=↑(.dK [])/\∃a:List (Key×V),f=a.map (λd=>(kV d.1,d.2))/\a.length<=15/\Q (.ref p) (upd c p<|.dK<|C9 [] a)
def Si(h:ZP X pos keys values i)(b:keys.all (·.isSome)=true)(n:keys.length=values.length)(p:keys≠[])
 (j:keys.length<=15):PE X (.Dict keys values pos) (Yr i):=by
  intro d s r H Q I q
  have t:=I.uV.fresh<|gg ⇑s
  have u:=I.laid (a:=⇑s) (o:=.dK []) (h':=s.heap.push { cls:=.type "dict",data:=.dict #v[]}) (t':=s.toks) (λ_ _ q=>ce _ q) (gg _)<|HI s.heap I.big
  refine wpAny_Dict_walk (knd:=uL X.prog X.w) b n p j<|uT (h d _ r _ _ u<|q _ t) λR S v=>e2a4 v λT U m k e l=>e1a3 l λf x lk y=>?_
  subst x
  refine e1a2 (Jn (P:=X.prog) (w:=X.w) k) λA c B=>?_
  obtain⟨z,C,D,E,F⟩:=Lr m.uV e
  cases E
  refine#[A,c,F,λG g J=>#[.ref ⇑s,_,?_,rfl,y]]
  have L:(C9 [] f).length<=gk:=by
    have M:=Ak f []
    rw[mu]at M
    rw[iB];lia
  have N:∃q,G.get? ⇑s=↑q:=e3a2 g λq _ _ O _=> #[q,O]
  exact AR m (by rw[e];exact True.intro) J N<|C7 L C (B.merge .nil) g
structure M1(X:Cx)(o:hW)(m:Str)(apos:Pos)(e:hW)(cpos:Pos):Prop where
 base:g9 o m X.env (eval o X.env)=eval o X.env
 ZQ:((iN cpos (gf [e] X.env)).all (λx=>!x.1)&&(mf cpos (jZ [] X.env)).all (λx=>x.1.isSome)
  && decide (([e]:List hW).length+([]:List oW).length+(if ([]:List oW).isEmpty then 0 else 1)<30))=true
 line:(apos.endLine==cpos.line)=true
 trees:iN cpos (gf [e] X.env)=[(false,eval e X.env)]
structure M2(X:Cx)(o:hW)(m:Str)(apos:Pos)(e f:hW)(cpos:Pos):Prop where
 base:g9 o m X.env (eval o X.env)=eval o X.env
 ZQ:((iN cpos (gf [e,f] X.env)).all (λx=>!x.1)&&(mf cpos (jZ [] X.env)).all (λx=>x.1.isSome)
  && decide (([e,f]:List hW).length+([]:List oW).length+(if ([]:List oW).isEmpty then 0 else 1)<30))=true
 line:(apos.endLine==cpos.line)=true
 trees:iN cpos (gf [e,f] X.env)=[(false,eval e X.env),(false,eval f X.env)]
def ZR(H:Hp)(a:cr):Prop:=(∃b,Rd H a<|.dK b)\/∃b,Rd H a<|.dT b
def Jo(I:Inv X k l H s)(d:ZR H a) :
  s.TypeIs (.ref a) "dict"/\(∀b,gF a=.ref b->∃c,s.heap.get? b=↑c/\c.dict=none)/\(a==j7)=false:=by
 rcases d with⟨g,e⟩|⟨g,e⟩
 ·obtain⟨_,h,m,_,f⟩:=AQ I.uV e;refine#[f.typeIs,λb q=>?_,h];cases q;obtain⟨c,_,_,i,j,_⟩:=f;exact#[c,i,j.2.1]
 ·obtain⟨_,h,n,_,f⟩:=B9 I.uV e;refine#[f.typeIs,λb q=>?_,h];cases q;obtain⟨c,_,_,i,j,_⟩:=f;exact#[c,i,j.2.1]
def V7(r:A.units+1<jS)(I:Inv X d t H s)(g:xl H a y o)(n:RelV y u)(h:∀p q,Inv X d t H q->RelV (o.getD .vT) p->Q p q) :
  gu (gv X.prog X.w) A (call (.builtin "dict.get") [.ref a,u]) Q E s:=by
 rcases g with⟨i,k,e,j,l⟩|⟨i,k,b,e,j,eb,l⟩
 ·subst j;obtain⟨z,m,x,c,f⟩:=AQ I.uV e;refine nj jG f.typeIs lE (qJ _ _) (meets_dict_get (uL X.prog X.w) a (Aj n) m) #[_,f.mapOf,h _ _ (I.tok _) ?_];rw[l];exact(c.val k).getD rfl
 ·subst j;cases (show u=gF b from n);obtain⟨z,m,v,c,f⟩:=B9 I.uV e;refine nj jG f.typeIs lE (qJ _ _) (meetsH_dict_get (oz<|uL X.prog X.w) a b m) #[kC r,k,v,Az I.uV eb,f,h _ _ (I.tok _) ?_];rw[l];exact(c.val k).getD rfl
def V8(x:A.units+1<jS)(I:Inv X f B H s)(g:xl H a y o)(p:RelV y u)(q:RelV d r)(h:∀t v,Inv X f B H v->RelV (o.getD d) t->Q t v) :
  gu (gv X.prog X.w) A (call (.builtin "dict.get") [.ref a,u,r]) Q E s:=by
 rcases g with⟨j,k,e,m,l⟩|⟨j,k,b,e,m,eb,l⟩
 ·subst m;obtain⟨z,n,D,c,i⟩:=AQ I.uV e;refine nj jG i.typeIs lE (qK _ _ _) (meets_dict_get_default (uL X.prog X.w) a (Aj p) n r) #[_,i.mapOf,h _ _ (I.tok _) ?_];rw[l];exact(c.val k).getD q
 ·subst m;cases (show u=gF b from p);obtain⟨z,n,C,c,i⟩:=B9 I.uV e;refine nj jG i.typeIs lE (qK _ _ _) (meetsH_dict_get_default (oz<|uL X.prog X.w) a b n r) #[kC x,k,C,Az I.uV eb,i,h _ _ (I.tok _) ?_];rw[l];exact(c.val k).getD q
def V9(e f:TE):TE:=λb H Q=>e b H λx c=>∃a,x=.ref a/\ZR c a/\f b c λy d=>∃o,xl d a y o/\Q (o.getD .vT) d
def Wa(e f g:TE):TE:=λb H Q=>e b H λx c=>∃a,x=.ref a/\ZR c a/\f b c λy h=>g b h λz d=>∃o,xl d a y o/\Q (o.getD z) d
def Wb(f g:TE):TE:=λc H Q=>f c H λx d=>∃a,x=.ref a/\ZR d a/\g c d λy e=>∃b k v,e a=↑(.dK b)/\y=kV k/\xz b k=↑v/\Q v (upd e a<|.dK<|zj b k)
def Ov(p:X.A.units+1<jS)(q:PE X o r)(t:PE X e ty)(m:M1 X o "get" apos e c):PE X (.Call (.Attribute o "get" apos) [e] [] c) (V9 r ty):=by intro b s l H Q I h;refine qy m.base m.ZQ m.line nq jG q7<|uT (q b s l H _ I h) λu v f=>e2a3 f λx H1 n w i=>e1a3 i λa z d B=>?_;subst z;obtain rfl:u=gF a:=w;refine e0a3 (Jo n d) λC D _=>?_;refine#[C,D,?_];rw[m.trees];refine jB rfl<|iZ<|jt<|uT (t b v l H1 _ n B) λM N f=>e2a3 f λy H2 E G j=>e1a2 j λO g J=>kq ?_;exact V7 p E g G λP R L k=>#[_,H2,L,k,J]
def Ox(q:X.A.units+1<jS)(r:PE X o t)(v:PE X e ty)(w:PE X f B)(m:M2 X o "get" apos e f c):PE X (.Call (.Attribute o "get" apos) [e,f] [] c) (Wa t ty B):=by
 intro b s j H Q I h;refine qy m.base m.ZQ m.line nq jG q7<|uT (r b s j H _ I h) λu C i=>e2a3 i λx H1 p D k=>e1a3 k λa E d G=>?_;subst E;obtain rfl:u=gF a:=D;refine e0a3 (Jo p d) λJ L _=>?_;refine#[J,L,?_];rw[m.trees]
 refine jB rfl (iZ (jt (uT (v b C j H1 _ p G) λW M i=>e2a3 i λy H2 N O P =>
  jt (uT (w b M j H2 _ N P) λY Z i=>e2a3 i λz H3 R S l=>e1a2 l λov g T=>kq ?_))))
 exact V8 q R g O S λw' s4 U n=>#[_,H3,U,n,T]
def Oy(q:PE X o r)(t:PE X e ty)(m:M1 X o "pop" apos e c):PE X (.Call (.Attribute o "pop" apos) [e] [] c) (Wb r ty):=by intro b s n H Q I h;refine qy m.base m.ZQ m.line nq qZ PySem.F.type_dict_pop<|uT (q b s n H _ I h) λu w g=>e2a3 g λx H1 p z i=>e1a3 i λa A d B=>?_;subst A;obtain rfl:u=gF a:=z;refine e0a3 (Jo p d) λC D _=>?_;refine#[C,D,?_];rw[m.trees];refine jB rfl<|iZ<|jt<|uT (t b w n H1 _ p B) λP R g=>e2a3 g λy H2 E G f=>e3a4 f λJ k v L M l N=>kq ?_;subst M;exact Ym E L G l (.inl rfl) λS T O j=>#[v,_,O,j,N]
end L2
namespace Att
open PySem PySem.W PySem.Calls PyProof.Rows
def Ct:∀(c:List Int)(d:List ci),WellAll P h d (c.map WData.int)->kg d c:=by
 intro c
 induction c with
 |nil =>
  intro d w;rw[n9]at w;cases w;exact .nil
 |cons n c e =>
  intro d w;rw[gN]at w
  cases w with
  |cons a b =>
   cases a;exact .cons _ _<|e _ b
def MJ{l:pW}{n:Nat}(o:l.most=↑n) 
 (b:l.row.toRowW.claim.pre args=true) (j:WellAll P h vals args) :
    ∃a m c,vals=[gF a]/\args=[WData.list<|c.map WData.int]/\h.get? a=some { cls:=.type "list",data:=.seq m.toArray}/\kg m c/\c.length<=n:=by
  have k:WShape.hasAll [] args [.list .int]=true:=(pre_splitW b).1
  have p:l.pre.holds [] { args:=args}=true:=(pre_splitW b).2
  obtain⟨d,r,rfl,s,t⟩:=hasAllW_cons k
  obtain rfl:=hasAllW_nil t
  obtain⟨y,rfl,u⟩:=hasW_list s
  obtain⟨c,rfl⟩:=items_int u
  have e:c.length<=n:=by
    have g:(WTm.not<|.lt (.lit<|.int (n:Int))<|.len<|.arg 0).holds [] { args:=[.list<|c.map .int]}=true:=by
      have g:=(holds_andW p).1
      rw[o]at g
      exact g
    have i:=condW_of g<|w_not<|w_lt w_lit<|w_len_list<|w_arg rfl
    rw[gm]at i
    refine qg λq=>?_
    first
      | (rw[decide_eq_true z]at i;exact gA i q0q)
      | (simp at i;omega)
  cases j with
  |cons v w =>
    cases w
    cases v with
    |list x f=>exact#[_,_,c,rfl,rfl,x,Ct c _ f,e]
def MK(l:pW)(args:List WData):l.row.toRowW.claim.post args (.bool true) args=true :=
 postW_of (r:=l.row.toRowW) (X:=(true==true))
  (show WShape.has [] (.bool true) .bool=true by first|rfl|decide|simp[WShape.has,WShape.arms,WShape.armsAll])
  (show (WTm.eq .res<|.lit<|.bool true).value [] { args:=args,res:=some<|.bool true,after:=args}=some (.bool<|true==true) from w_eq_bool (w_res rfl) w_lit) rfl
def HJ{l:pW}{n:Nat}{d:DefRec}
 (E:l.most=↑n) (x:d.params.defaults=[])
 (call:∀(w:ii)(c b:gn)(s y:Str->Option ci)(j:cr)(o:Obj)(pm t e:ci)(a:cr)(i:List ci)(u:List Int),
 Ground q g [] F w c s y b.heap->H w b.heap ->
 b.heap.get? j=↑o->o.data=.func (docDef d.name d.params d.body d.scope pm t e)->b.heap.CodeRec t d.name->s d.name=↑(.ref j) ->
 b.heap.get? a=some { cls:=.type "list",data:=.seq i.toArray}->kg i u->u.length<=n->b.gens=#v[] ->
 lM (gv l.prog w) qz (.call (.ref j) #[[.ref a],[]]) (λr v=>r=.ok (.ret (.bool true))/\OldK b.heap v.heap/\v.os=b.os/\mE v.gens) b) :
    t7 q g F H l.row.toRowW d [] (λf i=>sN f i):=by
  intro w c b s y G Y j o pm t e I kV J hd z C A L args vals as k D M B N
  obtain rfl:I=.none:=Dflts.none C x
  obtain rfl:kV=.none:=Dflts.noKw C
  obtain⟨a,i,u,rfl,rfl,m,h,p⟩:=MJ E k B
  refine enter_call<|jp (call w c b s y j o pm t e a i u G Y J (fd_plain hd) z A m h p L) λr v O=>?_
  obtain⟨rfl,P,Q,R⟩:=O
  exact#[.inl #[.bool true,.bool true,[],rfl,λ_=>rfl,.bool true,MK l _,λ_=>#[gU,λ_ S=>(nomatch S)]],P,Q,R]
end Att
namespace L2
open PySem PySem.Spec PyProof.Rows
def EX:∀{a:List ci} {b:List Int},kg a b->Vals (b.map V.int) a:=by
 intro _ _ z
 induction z with
 |nil=>exact .nil
 |cons n t h c=>exact .cons #[t,rfl] c
noncomputable def vm(s:gR):Arguments:=match s with
 | .FunctionDef _ a _ _ _ _ _ _ _ _=>a
 |_=>{ posonlyargs:=[],args:=[],vararg:=none,kwonlyargs:=[],kw_defaults:=[],kwarg:=none,defaults:=[]}
noncomputable def uM(s:gR):List gR:=match s with
 | .FunctionDef _ _ b _ _ _ _ _ _ _=>b
 |_=>[]
noncomputable def ug(s:gR):k9:=match s with
 | .FunctionDef _ _ _ _ _ _ sc _ _ _=>sc
 |_=>{ kind:=.function,names:=[],isGenerator:=false,isCoroutine:=false}
abbrev Oz:Oa:=λ_ _ _ _ _ _=>False
abbrev E0:XK:=λ_ _ _=>False
structure yk(K:f9)(x qual:Str)(st:gR)(f:cr)(fd:hO):Prop where
 ex:∃(oc:ci)(od:Option cr)(kV doc pm:ci)(an:Option cr)(Sj ct:ci) (ML:Array (Option ci)),
  fd=i7 x qual (vm st) (uM st) (ug st) .none kV doc pm an Sj ct/\K.lookup f=some #[oc,od,.func fd,ML]/\iR K Sj qual=true
 kp:iI K (.ref f)=true
section
variable{P:gV}{w:ii}{K:f9}{mg:Str->Option ci}{base:hX}
def yk.ok{g:gR}{k:Nat}(F:yk K x c g f o)(S:uq N m (ug g))(i:∀d H Q E,n d H Q E->d.length=m.length)
 (e:∀(b:ci)(A:iW)(a:List Env)(s:gn)(H:Hp)(d:List V)(Q:VK)(E:XK),vI k (A.deeper (nQ c (ug g) ⇑s f b))->n d H Q E ->
 ∃t,Em (ve Oz P w K mg base N c (ug g) f b A a s H E).ZK (uM g) t/\t { nx:=λ_ p=>Q .vT p,rt:=Q} (start N d) H):uO P w K mg base Oz (k+1) f o m n:=by
  obtain⟨y,z,B,r,C,D,b,G,u,rfl,lk,j⟩:=F.ex
  refine HE lk j S i λA a s H d Q E v l=>?_
  refine e1a2 (e b A a s H d Q E v l) λt h q=>?_
  exact#[t,h.ZK,q]
def yk.binds{d:gR}{ps:List Str}(F:yk K x c d f l)
 (h:∀(e a g:ci)(i:Option cr)(b j:ci)(k:List ci),k.length=ps.length->rW (i7 x c (vm d) (uM d) (ug d) .none e a g i b j) #[k,[]]=pure (ps.zip k)):Binds K l ps []:=by
  obtain⟨o,p,e,a,g,i,b,j,m,rfl,lk,n⟩:=F.ex
  exact .all<|h e a g i b j
def Dd{st:gR}{e:ci}(l:K.lookup f=some #[j,m,.func<|i7 x a (vm st) (uM st) (ug st) .none e d pm h b i,g])
 (c:iR K b a=true)(k:iI K (.ref f)=true):yk K x a st f (i7 x a (vm st) (uM st) (ug st) .none e d pm h b i):=#[#[j,m,e,d,pm,h,b,i,g,rfl,l,c],k]
end
def MM{n:Nat}(h:n<=1000):n<gk:=i8 h q0q
def pv(i:Nat)(b:X.N[i]?=↑x:=by rfl)(c:Vis X.env.scope x:=by first|exact lU rfl|exact tX (lU rfl)|exact tX<|tX rfl)(d:(x==("__debug__":Str))=false:=by decide)
 (a:(x==("__classdict__":Str))=false:=by decide):PE X (.Name x pos) (uR i):=IR b c d a
def MN:xU X (.builtin "len") (λc H Q=>∃a b,c=[V.ref a]/\H a=↑(.dK b)/\Q (.int b.length) H):=by intro d s i H c j Q I r h;obtain⟨a,b,rfl,e,q⟩:=h;obtain⟨u,rfl,f⟩:=vals1 r;cases f;exact Yn I (.inl e) λt k g=>#[.int b.length,H,g,#[t,rfl],q]
def a0K{A B:Prop}(h:A):if true=true then A else B:=by rw[ga rfl];exact h
def Sk{c A B:Prop}[Decidable c](a:c->A)(b:¬c->B):if c then A else B:=by
 by_cases h:c
 ·rw[ga h];exact a h
 ·rw[gc h];exact b h
def Cu(H a:Hp):Prop:=∀b o,H b=↑o->a b=↑o
def Cu.trans{d e:Hp}(a:Cu H d)(b:Cu d e):Cu H e:=λc o h=>b c o<|a c o h
def Cu.free(e:Cu H a)(h:a l=Option.none):H l=Option.none:=by
 cases q:H l with
 |none=>rfl
 |some o =>
  rw[e l o q]at h;cases h
def Cu.seq{K:f9}(e:Cu H b)(h:vF K H a c):vF K b a c:=by
 rcases h with(h|⟨o,h⟩)|h
 ·exact .inl<|.inl<|e _ _ h
 ·exact .inl<|.inr #[o,e _ _ h]
 ·exact .inr h
end L2
namespace SX
open PySem
def y9(a:Array Nat):Prop:=a.toList.Pairwise (· < ·)
def CD(r:y9 c){i j a b:Nat}(d:c.toList[i]?=↑a)(e:c.toList[j]?=↑b)(h:i<j):a<b:=by obtain⟨f,g⟩:=List.getElem?_eq_some_iff.mp d;obtain⟨k,l⟩:=List.getElem?_eq_some_iff.mp e;have:=List.pairwise_iff_getElem.mp r i j f k h;rw[g,l]at this;exact this
def Sl(f:Array Nat)(j:Nat)(r:y9 f):∀(b d c:Nat),d<=c->c<=f.size->c-d<=b ->
  (∀i a,i<d->f.toList[i]?=↑a->a<j)->(∀i a,c<=i->f.toList[i]?=↑a->j<=a) ->
  mh f j b d c<=f.size/\(∀i a,i<mh f j b d c->f.toList[i]?=↑a->a<j) /\
   (∀i a,mh f j b d c<=i->f.toList[i]?=↑a->j<=a):=by
 intro b
 induction b with
 |zero =>
  intro d c t k u l m;have e:d=c:=by omega
  subst e;exact#[k,l,m]
 |succ b s =>
  intro d c t k u l m;unfold mh;by_cases h:d<c
  ·rw[ga h];have n:(d+c) / 2<f.size:=by omega
   have g:f.toList[(d+c) / 2]?=↑(f.getD ((d+c) / 2) j):=by rw[hI,ku];rw[iP n];rfl
   by_cases o:f.getD ((d+c) / 2) j<j
   ·rw[ga o];refine s _ _ q0d k q0d (λi a p e=>?_) m;by_cases q:i=(d+c) / 2
    ·subst q;rw[g]at e;cases e;exact o
    ·have:=CD r e g q0d;omega
   ·rw[gc o];refine s _ _ q0d q0d q0d l<|λi a p e=>?_;by_cases q:i=(d+c) / 2
    ·subst q;rw[g]at e;cases e;omega
    ·have:=CD r g e q0d;omega
  ·rw[gc h];have e:d=c:=by omega
   subst e;exact#[k,l,m]
def yH(r:y9 b)(j:Nat):gD b j<=b.size/\(∀i a,i<gD b j->b.toList[i]?=↑a->a<j) /\
  (∀i a,gD b j<=i->b.toList[i]?=↑a->j<=a):=by
 refine Sl b j r b.size 0 b.size (iu _) (gg _) q0a (λi a h=>by lia)<|λi a h e=>?_;have:=(List.getElem?_eq_some_iff.mp e).1;rw[gr]at this
 lia
def below_at(r:y9 b){i j:Nat}(h:b.toList[i]?=↑j):gD b j=i:=by
 obtain⟨f,c,d⟩:=yH r j;rcases tY (gD b j) i with q|q|q
 ·cases e:b.toList[gD b j]? with
  |none =>
   have:=List.getElem?_eq_none_iff.mp e;have:=(List.getElem?_eq_some_iff.mp h).1
   lia
  |some a =>
   have:=CD r e h q;have:=d _ a (gg _) e
   lia
 ·exact q
 ·have:=c i j q h
  lia
def Jq(r:y9 b){i j:Nat}(h:b.toList[i]?=↑j):gD b (j+1)=i+1:=by
 obtain⟨f,c,d⟩:=yH r<|j+1;rcases tY (gD b<|j+1) (i+1) with q|q|q
 ·have:=d i j q0a h
  lia
 ·exact q
 ·cases e:b.toList[i+1]? with
  |none =>
   have:=List.getElem?_eq_none_iff.mp e;rw[gr]at this
   lia
  |some a =>
   have:=CD r h e q0a;have:=c (i+1) a q e
   lia
def Jr(r:y9 b):gD b 0=0:=by
 obtain⟨f,d,g⟩:=yH r 0
 cases e:gD b 0 with
 |zero=>rfl
 |succ k =>
  cases c:b.toList[0]? with
  |none =>
   have:=List.getElem?_eq_none_iff.mp c;rw[gr]at this
   lia
  |some a =>
   have:=d 0 a q0a c
   lia
def toList_erase(a:Array b)(p:Nat):(io a p).toList=a.toList.take p++a.toList.drop (p+1):=by unfold io;rw[oX,mi,mi];simp[iQ]
def De(a:Array b)(p:Nat)(x:b):(iH a p x).toList=a.toList.take p++x::a.toList.drop p:=by unfold iH;rw[oX,pE,mi,mi];simp[iQ]
def Js(r:y9 a)(p:Nat):y9 (io a p):=by
 unfold y9;rw[toList_erase];refine List.Pairwise.sublist ?_ r
 conv=>rhs;rw[<- r9 p a.toList]
 exact List.Sublist.append (List.Sublist.refl _)<|List.drop_sublist_drop_left _<|kP p
def OA(r:y9 c){j:Nat}(f:j∉c.toList):y9 (iH c (gD c j) j):=by
 obtain⟨t,g,h⟩:=yH r j;unfold y9;rw[De];have k:(c.toList.take (gD c j)++c.toList.drop (gD c j)).Pairwise (· < ·):=by rw[r9];exact r
 obtain⟨l,m,n⟩:=List.pairwise_append.mp k
 have o:∀a∈c.toList.take (gD c j),a<j:=λa d=>by
  obtain⟨i,e⟩:=kK d;rw[sV]at e;split at e
  ·exact g i a (by assumption) e
  ·cases e
 have p:∀a∈c.toList.drop (gD c j),j<a:=λa d=>by
  obtain⟨i,e⟩:=kK d;rw[sW]at e;have:=h _ a (nV _ i) e;have:j≠a:=λq=>f (by rw[q];exact List.mem_of_mem_drop d)
  lia
 refine List.pairwise_append.mpr #[l,List.pairwise_cons.mpr #[p,m],λa d b s=>?_];rcases List.mem_cons.mp s with q|q
 ·rw[q];exact o a d
 ·exact n a d b q
def MO{t:jd}(r:y9 t.place){j:Nat}(h:∀i,t.slot j≠.live i):j∉t.place.toList:=λa=>by obtain⟨i,e⟩:=kK a;have b:=below_at r e;refine h (gD t.place j) ?_;unfold qr;rw[ga];rw[b,<- hI,e];simp
def Ju{t:jd}{h:Int}:∀(b:Nat)(p:ky),(∀d,p.dummy=↑d->∀i,t.slot d≠.live i) ->
  ∀j c,je t o h b p=↑(.empty j c)->∀i,t.slot (c.getD j)≠.live i:=by
 intro b
 induction b with
 |zero=>intro p _ j c e;cases e
 |succ b f =>
  intro p g j c e;unfold je at e
  cases q:t.slot p.j with
  |empty =>
   rw[q]at e;injection e with e;injection e with l m;subst l m
   cases n:p.dummy with
   |none=>intro i z;rw[pL,q]at z;cases z
   |some d=>exact g d n
  |dummy =>
   rw[q]at e;refine f _ (λd a i z=>?_) j c e
   have:d=p.j:=by
    unfold kH at a;split at a
    ·injection a with a;exact a.symm
    ·injection a with a;exact a.symm
   rw[this,q]at z;cases z
  |live k =>
   rw[q]at e;dsimp only at e;split at e
   ·cases e
   ·refine f _ (λd a=>?_) j c e
    have:p.dummy=↑d:=by unfold kH at a;split at a<;>exact a
    exact g d this
set_option tactic.hygienic true in
def HK{t:jd}{h:Int}{j:Nat}{b:Bool}(r:y9 t.place)(e:t.freeSlot h=↑(j,b)):j∉t.place.toList:=by
 refine MO r ?_;unfold o7 qa at e;split at e
 ·rename_i a c f
  injection e with e;injection e with g i;subst g;exact Ju _ _ (λd q=>by cases q) a c f
 ·cases e
def BB{c k l:Nat}{d i:Bool}(e:mS c k l d i m=↑(t,n)) :
  y9 t.place/\t.led=d/\t.plain=i/\t.mask=c/\t.dummies=#v[]/\t.place.size=n.size:=by
 unfold mS at e
 cases q:o8 c m with
 |none=>rw[q]at e;cases e
 |some j =>
  rw[q]at e;injection e with e;injection e with o p;subst o p;refine#[?_,rfl,rfl,rfl,rfl,q0o];unfold y9;rw[sX];rw[List.pairwise_filterMap];refine om ?_ rO;intro a b f x r y s
  have g:x=a:=by revert r;cases (j.getD a none)<;>simp;intro z;exact z.symm
  have h:y=b:=by revert s;cases (j.getD b none)<;>simp;intro z;exact z.symm
  subst g h;exact f
noncomputable def NN(m i:Nat):Nat:=(i*5+1)%(m+1)
noncomputable def OB(m:Nat):Nat->Nat->Nat
 | 0,i=>i
 |n+1,i=>OB m n<|NN m i
noncomputable def orb(m:Nat):Nat->Nat->List Nat
 | 0,_=>[]
 |n+1,i=>i::orb m n (NN m i)
def FJ(m a b i:Nat):OB m (a+b) i=OB m b (OB m a i):=by
 induction a generalizing i with
 |zero=>rw[sd];rfl
 |succ a c=>rw[Nat.succ_add];exact c _
def Sn(m:Nat):∀(n i k:Nat),k∈orb m n i->∃a,a<n/\OB m a i=k:=by
 intro n
 induction n with
 |zero=>intro i k h;cases h
 |succ n b =>
  intro i k h;rcases List.mem_cons.mp h with q|q
  ·exact#[0,q0a,q.symm]
  ·obtain⟨a,c,e⟩:=b _ _ q;exact#[a+1,q0a,e]
noncomputable def FK(m:Nat):Bool:=OB m (m+1) 0==0&&(gL<|m+1).all λk=>(orb m (m+1) 0).contains k
def EY{m:Nat}(h:FK m=true):∀i k,i<=m->k<=m->∃n,n<=m/\OB m n i=k:=by
 obtain⟨d,j⟩:=Bool.and_eq_true_iff.mp h;have d:OB m (m+1) 0=0:=by simpa using d
 have c:∀k,k<=m->∃a,a<m+1/\OB m a 0=k:=λk e=>by have:=List.all_eq_true.mp j k<|List.mem_range.mpr q0d;exact Sn m _ _ _ (by simpa using this)
 intro i k l e;obtain⟨a,p,f⟩:=c i l;obtain⟨b,q,g⟩:=c k e;by_cases o:a<=b
 ·refine#[b-a,q0d,?_];rw[<- f,<- FJ,show a+(b-a)=b by omega,g]
 ·refine#[m+1-a+b,q0d,?_];rw[<- f,<- FJ,show a+(m+1-a+b)=(m+1)+b by omega,FJ,d,g]
def EZ{m i:Nat}(h:i<=m):iG m i<=m/\i<=iG m i:=by unfold iG;split<;>lia
set_option tactic.hygienic true in
def So{m:Nat}:∀(a i p:Nat),i<=m->∀j,iD m c a i p=↑j->j<=m/\c.getD j ↑0=none:=by
 intro a
 induction a with
 |zero=>intro i p _ j e;cases e
 |succ a d =>
  intro i p f j e;unfold iD at e;split at e
  ·rename_i k b
   injection e with e;subst e;have g:=List.find?_some b;have h:=List.mem_range.mp<|List.mem_of_find?_eq_some b;have:=EZ f;refine#[q0d,?_];simpa[Option.isNone_iff_eq_none] using g
  ·dsimp only at e;refine d _ _ ?_ j e;have:=mY (i*5+1+p / 32)<|mK m;exact jx this
set_option tactic.hygienic true in
def Jv{m:Nat}{b:Array (Option Nat)}{k:Nat}(d:b.getD k ↑0=none):∀(n a i:Nat),i<=m->n<a->OB m n i=k->∃j,iD m b a i 0=↑j:=by
 intro n
 induction n with
 |zero =>
  intro a i c g e;obtain⟨a,rfl⟩:∃f,a=f+1:=#[a-1,q0a];have e:i=k:=e;subst e;unfold iD;split
  ·exact#[_,rfl]
  ·rename_i q
   have:=List.find?_eq_none.mp q 0<|List.mem_range.mpr (by have:=(EZ c).2;lia);rw[Nat.add_zero,d]at this;exact gA rfl this
 |succ n h =>
  intro a i c g e;obtain⟨a,rfl⟩:∃f,a=f+1:=#[a-1,q0a];unfold iD;split
  ·exact#[_,rfl]
  ·dsimp only
   have l:jA m i 0=(NN m i,0):=by unfold jA NN;simp
   rw[l];exact h a (NN m i) (jx<|mY _<|mK m) q0a e
def MP{m:Nat}{h:Array (Option Nat)}(l:FK m=true){k:Nat}(d:k<=m)(o:h.getD k ↑0=none):∀(c a i p:Nat),i<=m->p<32 ^ c->c+m+1<=a->∃j,iD m h a i p=↑j:=by
 intro c
 induction c with
 |zero =>
  intro a i p g b q;have:p=0:=by rw[Nat.pow_zero]at b;lia
  subst this;obtain⟨n,s,e⟩:=EY l i k g d;exact Jv o n a i g q0a e
 |succ c r =>
  intro a i p g b q;obtain⟨a,rfl⟩:∃f,a=f+1:=#[a-1,q0a];unfold iD;split
  ·exact#[_,rfl]
  ·dsimp only;refine r a _ (p / 32) (jx<|mY _<|mK m) ?_ q0a;rw[Nat.pow_succ]at b;exact sO (by rw[Nat.mul_comm];exact b)
def OC(x:Nat):∀(l:List (Option Nat)) (j:Nat),l[j]?=↑none->((l.set j<|↑x).filterMap id).Perm (x::l.filterMap id):=by
 intro l
 induction l with
 |nil=>intro j h;simp at h
 |cons a l b =>
  intro j h
  cases j with
  |zero =>
   have:a=none:=by simpa using h
   subst this;simp
  |succ j =>
   have c:l[j]?=↑none:=by simpa using h
   cases a with
   |none=>simpa using b j c
   |some y =>
    have:=b j c;exact(nW y this).trans<|List.Perm.swap x y _
def has_none:∀(l:List (Option Nat)),(l.filterMap id).length<l.length->∃j:Nat,l[j]?=↑none:=by
 intro l
 induction l with
 |nil=>intro h;simp at h
 |cons a l b =>
  intro h
  cases a with
  |none=>exact#[0,rfl]
  |some y =>
   obtain⟨j,e⟩:=b (by simpa using h);exact#[j+1,by simpa using e]
def Ls(h:Int):iJ h<32 ^ 13:=by
 have a:(h%(2 ^ 64:Int)).toNat<2 ^ 64:=by lia
 exact gG a q0q
def OD{m:Nat}(w:FK m=true):∀(c:List Int) (a:Array (Option Nat)) (k:Nat),a.size=m+1->(a.toList.filterMap id).Perm (gL k)->k+c.length<=m ->
  ∃b,(c.foldl (init:=↑(a,k)) λi h=>do
   let (owner,k) <- i
   let j <- iD m owner (jT m) (iJ h%(m+1)) (iJ h)
   pure (owner.setIfInBounds j ↑k,k+1))=↑(b,k+c.length)/\b.size=m+1/\(b.toList.filterMap id).Perm (gL (k+c.length)):=by
 intro c
 induction c with
 |nil=>intro a k d g r;exact#[a,rfl,d,g]
 |cons h c x =>
  intro a k d g r
  have e:(a.toList.filterMap id).length<a.toList.length:=by
   rw[g.length_eq,kD,gr,d]
   lia
  obtain⟨s,t⟩:=has_none _ e
  have l:s<m+1:=by have:=(List.getElem?_eq_some_iff.mp t).1;rw[gr,d]at this;exact this
  have n:a.getD s ↑0=none:=by rw[ku,<- hI,t];rfl
  have u:iJ h%(m+1)<=m:=jx<|mY _<|mK m;obtain⟨j,v⟩:=MP w (jx l) n 13 (jT m) (iJ h%(m+1)) (iJ h) u (Ls h) (by unfold jT;lia);obtain⟨y,f⟩:=So _ _ _ u j v
  have o:a.toList[j]?=↑none:=by
   rw[ku]at f;rw[hI]
   cases q:a[j]? with
   |none=>rw[q]at f;cases f
   |some z=>rw[q]at f;have p:z=none:=f;rw[p]
  obtain⟨b,A,B,C⟩:=x (a.setIfInBounds j ↑k) (k+1) (by rw[Array.size_setIfInBounds];exact d) (by
   rw[Array.toList_setIfInBounds];refine(OC k _ _ o).trans<|(nW k g).trans ?_;rw[List.range_succ]
   exact(lY (l₁:=[k]) (l₂:=gL k))) (by simp at r;lia)
  refine#[b,?_,B,?_]
  ·rw[lu]
   have:(do
     let (owner,k) <- some (a,k)
     let j <- iD m owner (jT m) (iJ h%(m+1)) (iJ h)
     pure (owner.setIfInBounds j ↑k,k+1))=↑(a.setIfInBounds j (some k),k+1):=by
    show (iD m a (jT m) (iJ h%(m+1))<|iJ h).bind _=_;rw[v];rfl
   rw[this,A];simp only[gK];congr 2
   lia
  ·rw[gK,show k+(c.length+1)=k+1+c.length by lia];exact C
def MQ(l:List (Option Nat)):(gL l.length).map (λj=>l.getD j none)=l:=by
 apply pN;intro i;by_cases h:i<l.length
 ·simp[iO,h]
 ·rw[List.getElem?_eq_none_iff.mpr (by simpa using qg h),List.getElem?_eq_none_iff.mpr<|qg h]
def BC{m fg mv:Nat}{led pl:Bool}{hs:Array Int}(c:FK m=true)(d:hs.size<=m):∃t b,mS m fg mv led pl hs=↑(t,b)/\b.toList.Perm (gL hs.size):=by
 obtain⟨a,e,s,p⟩:=OD c hs.toList (Array.replicate (m+1) none) 0 q0o q0o (by simpa using d)
 have f:o8 m hs=↑a:=by unfold o8;rw[<- Array.foldl_toList];exact congrArg (sE Prod.fst) e
 refine#[_,_,by unfold mS;rw[f];rfl,?_];rw[sX]
 have q:(gL<|m+1).filterMap (λj=>sE (λx:Nat×Nat=>x.2)<|sE (λx=>(j,x))<|a.getD j none)=a.toList.filterMap id:=by
  conv=>rhs;rw[<- MQ a.toList]
  rw[sU,gr,s];congr 1
  funext j
  simp only[tP,id,Option.map_map];rw[ku,iO,hI];cases (a[j]?.getD none)<;>rfl
 refine List.Perm.trans (sF q) ?_;simpa using p
def picked{es:Array (Int×ci)}{a:Array Nat}(h:a.toList.Perm (gL es.size)):(a.filterMap (es[·]?)).toList.Perm es.toList:=by
 rw[Array.toList_filterMap];refine(List.Perm.filterMap _ h).trans<|sF ?_;apply pN;intro i
 have:(gL es.size).filterMap (λx=>es[x]?)=es.toList:=by
  have e:(gL es.size).filterMap (λx=>es[x]?)=(gL es.toList.length).filterMap (λx=>es.toList[x]?):=by simp
  rw[e];exact List.filterMap_getElem?_range_length es.toList
 rw[this]
def a0M:FK 7=true:=by decide +kernel
def Ys:FK 15=true:=by decide +kernel
def Yt:FK 31=true:=by decide +kernel
def Yu:FK 63=true:=by decide +kernel
def Wc:FK 127=true:=by decide +kernel
def Wd:FK 255=true:=by decide +kernel
def We:FK 511=true:=by decide +kernel
def RJ(t:jd)(h:Int)(a:Nat)(p:ky):Prop:=∃j d,je t (λ_=>h+1) h a p=↑(.empty j d)
noncomputable def begin_(m i a:Nat)(b:Option Nat):ky:={ j:=i,more:=iG m i-i,i:=i,perturb:=a,dummy:=b}
def Lu{h:Int}:∀(k a:Nat)(p:ky),p.more=k->(∀b,RJ t h a<|begin_ t.mask (jA t.mask p.i p.perturb).1 (jA t.mask p.i p.perturb).2 b)->RJ t h (a+k+1) p:=by
 intro k
 induction k with
 |zero =>
  intro a p g d
  have c:∀b,t.advance { p with dummy:=b}=begin_ t.mask (jA t.mask p.i p.perturb).1 (jA t.mask p.i p.perturb).2 b:=λb=>by unfold kH;rw[gc<|by show ¬p.more>0;lia];rfl
  unfold RJ je
  cases q:t.slot p.j with
  |empty=>exact#[_,_,rfl]
  |dummy=>dsimp only;rw[c];exact d _
  |live i =>
   dsimp only;rw[gc<|by simp;lia];have:=c p.dummy;have e:({ p with dummy:=p.dummy}:ky)=p:=rfl;rw[e]at this;rw[this];exact d _
 |succ k l =>
  intro a p g d
  have f:∀b,RJ t h (a+k+1) (t.advance { p with dummy:=b}):=λb=>by
   have e:t.advance { p with dummy:=b}={ p with j:=p.j+1,more:=p.more-1,dummy:=b}:=by unfold kH;rw[ga<|by show p.more>0;lia]
   rw[e];exact l a _ (by show p.more-1=k;lia) d
  unfold RJ je
  cases q:t.slot p.j with
  |empty=>exact#[_,_,rfl]
  |dummy=>exact f _
  |live i =>
   dsimp only;rw[gc<|by simp;lia];exact f p.dummy
def Sq{t:jd}{h:Int}{p:ky}(e:t.slot p.j=.empty)(a:Nat):RJ t h (a+1) p:=by unfold RJ je;rw[e];exact#[_,_,rfl]
def Lv(m i:Nat):iG m i-i<=9:=by unfold iG;split<;>lia
def a0N{t:jd}{h:Int}{k:Nat}(d:t.slot k=.empty):∀(n i a:Nat),OB t.mask n i=k->10*(n+1)<=a->∀c,RJ t h a (begin_ t.mask i 0 c):=by
 intro n
 induction n with
 |zero =>
  intro i a e g c;obtain⟨f,rfl⟩:∃f,a=f+1:=#[a-1,q0a];subst e;exact Sq d f
 |succ n j =>
  intro i a e g c;have m:=Lv t.mask i
  have z:=Lu (t:=t) (h:=h) (iG t.mask i-i) (a-(iG t.mask i-i)-1) (begin_ t.mask i 0 c) rfl (λb=>by
   have l:jA t.mask i 0=(NN t.mask i,0):=by unfold jA NN;simp
   show RJ t h _ (begin_ t.mask (jA t.mask i 0).1 (jA t.mask i 0).2 b);rw[l]
   exact j (NN t.mask i) _ e q0a b)
  rw[show a-(iG t.mask i-i)-1+(iG t.mask i-i)+1=a by lia]at z;exact z
def a0O{t:jd}{h:Int}{k:Nat}(m:FK t.mask=true)(g:k<=t.mask)(o:t.slot k=.empty):∀(c i b a:Nat),i<=t.mask->b<32 ^ c->10*(c+t.mask+1)<=a->∀d,RJ t h a (begin_ t.mask i b d):=by
 intro c
 induction c with
 |zero =>
  intro i b a l f p d;have:b=0:=by rw[Nat.pow_zero]at f;lia
  subst this;obtain⟨n,r,e⟩:=EY m i k l g;exact a0N o n i a e q0a d
 |succ c q =>
  intro i b a l f p d;have s:=Lv t.mask i
  have z:=Lu (t:=t) (h:=h) (iG t.mask i-i) (a-(iG t.mask i-i)-1) (begin_ t.mask i b d) rfl (λj=>by
   refine q _ _ _ (jx<|mY _<|mK _) ?_ q0a j;rw[Nat.pow_succ]at f
   exact sO (by rw[Nat.mul_comm];exact f))
  rw[show a-(iG t.mask i-i)-1+(iG t.mask i-i)+1=a by lia]at z;exact z
def yq[DecidableEq d]:∀(l m:List d),l.Nodup->(∀x∈l,x∈m)->l.length<=m.length:=by
 intro l
 induction l with
 |nil=>intro m _ _;exact iu _
 |cons x r e =>
  intro m f b;obtain⟨g,h⟩:=List.nodup_cons.mp f;have a:=b x gh;have i:=e (m.erase x) h λy c=>(List.mem_erase_of_ne<|λ(z:y=x)=>g<|by rw[<- z];exact c).mpr<|b y<|gl _ c;rw[List.length_erase_of_mem a]at i;have:0<m.length:=List.length_pos_of_mem a;rw[gK];omega
def HL(l:List Nat)(m:Nat)(h:l.length<=m):∃j,j<=m/\j∉l:=by
 refine qb λb=>?_;have a:∀j,j<=m->j∈l:=λj c=>qb λq=>b #[j,c,q];have:=yq (gL<|m+1) l List.nodup_range λx d=>a x<|jx<|List.mem_range.mp d;rw[kD]at this
 lia
def Jw{t:jd}{n:Nat}(e:t.fits n=true):∃j,j<=t.mask/\t.slot j=.empty:=by
 have c:t.place.size+t.dummies.size<=t.mask:=by simp only[tQ,hJ,hV]at e;exact e.2
 obtain⟨j,f,d⟩:=HL (t.place.toList++t.dummies.toList) t.mask (by simpa using c);refine#[j,f,?_];rw[ko,oY]at d
 have b:∀(a:Array Nat),j∉a.toList->(a[gD a j]?==↑j)=false:=λa g=>by
  cases q:a[gD a j]? with
  |none=>rfl
  |some x =>
   have h:x∈a.toList:=by rw[<- hI]at q;exact jg q
   have:x≠j:=λz=>g<|z▸h;simp[this]
 unfold qr;dsimp only;rw[b _ d.1];unfold jN;rw[b _ d.2];rfl
def Et{t:jd}{n:Nat}(c:FK t.mask=true)(f:t.fits n=true)(h:Int):∃j b,t.freeSlot h=↑(j,b):=by obtain⟨k,a,g⟩:=Jw f;obtain⟨j,d,e⟩:=a0O (h:=h) c a g 13 (iJ h%(t.mask+1)) (iJ h) (10*jT t.mask) (jx<|mY _<|mK _) (Ls h) (by unfold jT;lia) none;refine⟨d.getD j,d.isSome,?_⟩;unfold o7 qa SetTable.probeStart;have l:je t (λ_=>h+1) h (10*jT t.mask) { j:=iJ h%(t.mask+1),more:=iG t.mask (iJ h%(t.mask+1))-iJ h%(t.mask+1),i:=iJ h%(t.mask+1),perturb:=iJ h,dummy:=none}=↑(.empty j d):=e;rw[l]
def HM{t:jd}{h:Int}:∀(b:Nat)(p:ky),(∀d,p.dummy=↑d->jN t.dummies d=true) ->
  ∀j d,je t l h b p=↑(.empty j<|some d)->jN t.dummies d=true:=by
 intro b
 induction b with
 |zero=>intro p _ j d e;cases e
 |succ b f =>
  intro p g j d e;unfold je at e
  cases q:t.slot p.j with
  |empty =>
   rw[q]at e;injection e with e;injection e with m i;exact g d i
  |dummy =>
   rw[q]at e;refine f _ (λc a=>?_) j d e
   have:c=p.j:=by
    unfold kH at a;split at a
    ·injection a with a;exact a.symm
    ·injection a with a;exact a.symm
   rw[this];unfold qr at q;dsimp only at q;split at q
   ·cases q
   ·split at q
    ·assumption
    ·cases q
  |live k =>
   rw[q]at e;dsimp only at e;split at e
   ·cases e
   ·refine f _ (λc a=>?_) j d e
    have:p.dummy=↑c:=by unfold kH at a;split at a<;>exact a
    exact g c this
set_option tactic.hygienic true in
def Df{t:jd}{h:Int}{j:Nat}(e:t.freeSlot h=↑(j,true)):jN t.dummies j=true:=by
 unfold o7 qa at e;split at e
 ·rename_i a b c
  injection e with e;injection e with f g
  cases b with
  |none=>cases g
  |some d =>
   subst f;exact HM _ _ (λd q=>by cases q) a d c
 ·cases e
def OE{j:Nat}(h:jN a j=true):gD a j<a.size:=by
 unfold jN at h;have b:a[gD a j]?=↑j:=by simpa using h
 exact(Array.getElem?_eq_some_iff.mp b).1
def AA(a:Array b)(p:Nat)(h:p<a.size):(io a p).size=a.size-1:=by
 rw[<- gr,toList_erase,gz,kR,l6,gr]
 lia
def yr(a:Array b)(p:Nat)(x:b):(iH a p x).size=a.size+1:=by rw[<- gr,De,gz,gK,kR,l6,gr];omega
def w6{t:jd}{n:Nat}:t.fits n=true↔t.place.size=n/\t.place.size+t.dummies.size<=t.mask:=by unfold tQ kd;simp
def Good(m:Nat):Prop:=m=7\/m=15\/m=31\/m=63\/m=127\/m=255\/m=511
def Good.FK{m:Nat}(h:Good m):FK m=true:=by
 rcases h with q|q|q|q|q|q|q<;>rw[q]
 ·exact a0M
 ·exact Ys
 ·exact Yt
 ·exact Yu
 ·exact Wc
 ·exact Wd
 ·exact We
def Dg{n:Nat}(h:n<=511):Good (h8 n-1)/\n<h8 n:=by
 have q:((gL 512).all λn=>[8,16,32,64,128,256,512].contains (h8 n)&&decide (n<h8 n))=true:=by decide +kernel
 have q:=List.all_eq_true.mp q n<|List.mem_range.mpr q0a;obtain⟨q1,q2⟩:=Bool.and_eq_true_iff.mp q;refine#[?_,by simpa using q2];have q1:h8 n=8\/h8 n=16\/h8 n=32\/h8 n=64\/h8 n=128\/h8 n=256\/h8 n=512:=by simpa using q1
 rcases q1 with e|e|e|e|e|e|e<;>rw[e]<;>unfold Good<;>decide
structure Yv(t:jd)(n:Nat):Prop where
 fits:t.fits n=true
 rise:y9 t.place
 plain:t.plain=true
 good:Good t.mask
 room:t.fill*5<t.mask*3
set_option tactic.hygienic true in
def Sr{t:jd}{c:Array (Int×ci)}{h:Int}{x:ci}(k:Yv t c.size)(q:c.size<=126) :
  ∃d g,layNew t c h x=(iH c (gD t.place ((t.freeSlot h).getD (0,false)).1) (h,x),d,g,false)/\d.led=t.led/\d.plain=true/\d.fits (c.size+1)=true/\y9 d.place/\Good d.mask/\(g=true->d.fill*5<d.mask*3):=by
 obtain⟨j,b,e⟩:=Et k.good.FK k.fits h;obtain⟨n,r⟩:=w6.mp k.fits;have f:=k.room;unfold kd at f
 have l:(if jN t.dummies j=true then io t.dummies (gD t.dummies j) else t.dummies).size<=t.dummies.size/\(b=true->(if jN t.dummies j=true then io t.dummies (gD t.dummies j) else t.dummies).size+1<=t.dummies.size):=by
  split
  ·rename_i i
   rw[AA _ _<|OE i];have:=OE i;exact⟨q0a,λ_=>by lia⟩
  ·rename_i i
   refine#[gg _,λm=>?_];subst m;exact gA (Df e) i
 have a:(t.put j).1.fits (c.size+1)=true:=by
  refine w6.mpr #[?_,?_]
  ·show (iH t.place (gD t.place j) j).size=_;rw[yr,n]
  ·show (iH t.place (gD t.place j) j).size+(if jN t.dummies j=true then io t.dummies (gD t.dummies j) else t.dummies).size<=t.mask;rw[yr]
   lia
 refine#[(t.put j).1,b,?_,rfl,k.plain,a,OA k.rise<|HK k.rise e,k.good,λm=>?_]
 ·unfold layNew;rw[e];dsimp only;have o:(t.put j).2=gD t.place j:=rfl;have p:(iH c (gD t.place j) (h,x)).size=c.size+1:=yr _ _ _;rw[o,p];unfold SetTable.orStandIn;rw[ga a,a];rfl
 ·have:=l.2 m;show ((iH t.place (gD t.place j) j).size+(if jN t.dummies j=true then io t.dummies (gD t.dummies j) else t.dummies).size)*5<t.mask*3;rw[yr]
  lia
def MR{t:jd}{es:Array (Int×ci)}(v:1<=es.size)(h:es.size<=127)(m:t.plain=true):∃a c,se t es (lw es.size)=(a,c,false)/\a.toList.Perm es.toList/\Yv c a.size/\c.led=t.led:=by
 have o:lw es.size=es.size*4:=by unfold lw;rw[gc q0a]
 obtain⟨j,w⟩:=Dg (n:=es.size*4) q0a;obtain⟨c,f,e,p⟩:=BC (fg:=t.finger) (mv:=t.movedTo<|h8 (es.size*4)-1) (led:=t.led) (pl:=t.plain) (hs:=es.map (·.1)) j.FK (by rw[lJ];lia);obtain⟨q,r,s,g,k,i⟩:=BB e;rw[lJ]at p;have l:=picked p;have u:(f.filterMap (es[·]?)).size=es.size:=by rw[<- gr,l.length_eq,gr]
 have b:f.size=es.size:=by rw[<- gr,p.length_eq,kD]
 have d:c.fits (f.filterMap (es[·]?)).size=true:=by
  refine w6.mpr #[by rw[i,u,b],?_];rw[i,k,b,g];show es.size+0<=_
  lia
 refine#[f.filterMap (es[·]?),c,?_,l,#[d,q,s.trans m,by rw[g];exact j,?_],r]
 ·unfold se;rw[o];unfold SetTable.relaid;rw[e];dsimp only;rw[ga];rw[d,Bool.and_true];exact List.isPerm_iff.mpr p
 ·unfold kd;rw[i,k,b,g];show (es.size+0)*5<_
  lia
open PyProof.Rows
def xV(e:Int×ci)(k:Int):Prop:=e.1=mD k/\∃t,e.2=kN k t
noncomputable abbrev wB(a:Array (Int×ci))(b:Nat)(t:jd):Obj:={ cls:=.type "set",dict:=none,data:=.set a b t,slots:=#v[]}
structure U7(w:ii)(es:Array (Int×ci))(t:jd)(ks:List Int):Prop where
 ent:Paired xV es.toList ks
 nd:ks.Nodup
 small:es.size<=127
 tab:Yv t es.size
 led:w.params.followText "set-order"=true\/t.led=true
def yI{n:Nat}(h:n<=127):n<scanBound:=by have e:scanBound=4096:=rfl;rw[e];lia
def xJ{n:Nat}(h:n<=127):n<=gk:=fits_of_scanBound<|yI h
def vh(w:ii)(a:cr)(c:List Int)(h:hX):Prop:=∃b d t,h.get? a=↑(wB b d t)/\U7 w b t c
def w8{k n:Type}{F:k->n->Prop}{l o:List k}(p:l.Perm o):∀{m:List n},Paired F l m->∃e,m.Perm e/\Paired F o e:=by
 induction p with
 |nil=>intro m h;exact#[m,.refl _,h]
 |cons x _ q =>
  intro m h
  cases h with
  |cons a b =>
   refine e1a2 (q b) λe f g=>?_;exact#[_,.cons _ f,.cons a g]
 |swap x y l =>
  intro m h
  cases h with
  |cons a b =>
   cases b with
   |cons c d=>exact#[_,.swap _ _ _,.cons c<|.cons a d]
 |trans _ _ i j =>
  intro m h;refine e1a2 (i h) λu f g=>?_;refine e1a2 (j g) λr s t=>?_;exact#[r,f.trans s,t]
def FL:∀{g:List (Int×ci)} {h:List Int},Paired xV g h->∀k,(k∈h↔∃e∈g,l8 k e.2=true):=by
 intro o p l
 induction l with
 |nil=>intro k;simp
 | @cons e j _ _ m r b =>
  intro k;have n:=b k;obtain⟨_,t,c⟩:=m
  have i:l8 k e.2=true↔k=j:=by rw[c];simp[l8];exact eq_comm
  rw[gO,n];constructor
  ·rintro(z|⟨d,f,a⟩)
   ·exact#[e,gh,i.mpr z]
   ·exact#[d,gl _ f,a]
  ·rintro⟨d,f,a⟩;rcases List.mem_cons.mp f with z|z
   ·rw[z]at a;exact .inl<|i.mp a
   ·exact .inr #[d,z,a]
def BD{a:gV}{w:ii}:∀{d:List (Int×ci)} {g:List Int},Paired xV d g->ElemsOf (jI a w) d:=by
 intro l m h
 induction h with
 |nil=>exact λe b=>by cases b
 | @cons x j _ _ i r c =>
  intro e b;rcases List.mem_cons.mp b with z|z
  ·subst z;obtain⟨k,t,f⟩:=i;refine#[#[j,?_,k],?_]
   ·rw[f];exact oZ _ _ _ _
   ·rw[f];rfl
  ·exact c e z
def Lw(h:Paired xV a b):a.length=b.length:=Paired.length h
def U7.size{w:ii}{a:Array (Int×ci)}{t:jd}{b:List Int}(h:U7 w a t b):a.size=b.length:=by rw[<- gr];exact Lw h.ent
def vh.nodup(x:vh w a b h):b.Nodup:=by refine e3a2 x λc d t e k=>?_;exact k.nd
def vh.of{b:gV}{w:ii}{a:cr}{c:List Int}{h:hX}(x:vh w a c h):h.SetOf (jI b w) a (λk=>decide<|k∈c) c.length:=by refine e3a2 x λd f t e k=>?_;exact#[_,d,f,t,e,#[rfl,rfl,rfl],rfl,BD k.ent,λj=>by rw[hV];exact FL k.ent j,yI k.small,k.tab.fits,k.size]
def vh.keep{b:hX}(x:vh w a c h)(k:∀o,h.get? a=↑o->b.get? a=↑o):vh w a c b:=by refine e3a2 x λd f t e r=>?_;exact#[d,f,t,k _ e,r]
def vh.lt(x:vh w a b h):a<h.objs.size:=by refine e3a2 x λc d t e r=>?_;exact gp e
def vh.typeIs{w:ii}{a:cr}{b:List Int}{s:gn}(x:vh w a b s.heap):s.TypeIs (.ref a) "set":=by refine e3a2 x λc d t e r=>?_;exact#[_,e,rfl]
def Ss{h:hX}{a:cr}{f b:Array (Int×ci)}{d:Nat}{t c:jd}(e:h.get? a=↑(wB f d t)):(h.update a<|Obj.putSet b c).get? a=↑(wB b (d+1) c):=by have z:=ie (Obj.putSet b c) e (by rw[putSet_of b c rfl];rfl);rw[putSet_of b c rfl]at z;exact z
def zP{i b:Array (Int×ci)}{d:Nat}{t f:jd}{Q:Unit->gn->Prop}(e:s.heap.get? a=↑(wB i d t))(j:b.size<=gk)
  (h:∀c,im a s.heap c->c.get? a=↑(wB b (d+1) f)->Q () { s with heap:=c}):gu (gv g w) A (sf a b f) Q E s :=
 wpAny_storeSet_of e rfl (h _ (nM ..)<|Ss e) j
set_option tactic.hygienic true in
def U8{k:Int}{u:Tok}{Q:Bool->gn->Prop}(S:vh w a i s.heap)(room:i.length+1<=127)
  (h:∀l C,im a s.heap l->vh w a C l->C.Perm (if k∈i then i else k::i)->Q (!decide (k∈i)) { s with heap:=l}) :
  gu (gv b w) A (setAddHashed a (.int k u)<|mD k) Q E s:=by
 refine e3a2 S λm ep t e K=>?_;have el:ElemsOf (jI b w) m.toList:=BD K.ent;have hk:(jI b w).is k (.int k u)=true:=oZ _ _ _ _;have D:(jI b w).hash k=mD k:=rfl;refine gY<|am<|iE e rfl K.tab.fits ?_;dsimp only;rw[byScan_of (knd:=jI b w) rfl (yI K.small) el,ga rfl];refine am<|am<|lh<|am ?_;rw[<- D];refine wpAny_setScan_of (knd:=jI b w) hk e rfl K.tab.fits el ?_;have F:=FL K.ent k
 cases hr:rc (λe=>(jI b w).is k e.2) m.toList with
 |some j =>
  refine e1a2 (List.findIdx?_eq_some_iff_getElem.mp hr) λhj hp _=>?_;have G:k∈i:=F.mpr #[_,tZ hj,hp];have z:=h s.heap i (kZ a s.heap) #[m,ep,t,e,K] (by rw[ga G]);rw[decide_eq_true G]at z;exact ap<|ap z
 |none =>
  have f:k∉i:=λq=>by refine e1a2 (F.mp q) λx hx P=>?_;have:=List.findIdx?_eq_none_iff.mp hr x hx;rw[show (jI b w).is k x.2=true from P]at this;cases this
  have R:m.size<=126:=by rw[K.size];lia
  obtain⟨o,H,le,ll,I,lf,lr,lg,ld⟩:=Sr (h:=mD k) (x:=.int k u) K.tab R;have J:=layNew_perm t m (mD k)<|.int k u;rw[D];rw[le]at J ⊢;generalize iH m (gD t.place ((t.freeSlot<|mD k).getD (0,false)).1) (mD k,kN k u)=c at J ⊢;rw[pE]at J;have p1:Paired xV ((mD k,kN k u)::m.toList) (k::i):=.cons ⟨rfl,u,rfl⟩ K.ent;refine e1a2 (w8 (J.trans lY).symm p1) λT pk pe=>?_;have U:c.size=m.size+1:=by rw[<- gr,J.length_eq];simp
  rw[<- U]at lf;have p:c.size<=127:=by lia
  have W:T.Nodup:=pk.nodup_iff.mp<|List.nodup_cons.mpr #[f,K.nd];have g:c.size<=gk:=xJ p
  -- ab the end wants,for any sY of X entries
  have L:∀(l:hX) (d:Array (Int×ci)) (v:Nat) (B:jd),im a s.heap l->l.get? a=↑(wB d v B)->d.toList.Perm c.toList->Yv B d.size->B.led=t.led->Q true { s with heap:=l}:=by
   intro l d v B sb Y pp f2 l2;refine e1a2 (w8 pp.symm pe) λZ q1 q2=>?_;have hs:d.size=c.size:=by rw[<- gr,pp.length_eq,gr]
   have z:=h l Z sb #[d,v,B,Y,q2,q1.nodup_iff.mp W,by rw[hs];exact p,f2,by rw[l2];exact K.led] (by rw[gc f];exact q1.symm.trans pk.symm);rw[gH f]at z;exact z
  refine am<|ap ?_
  have n:gu (gv b w) A (do
    sf a c o
    if (!H&&o.tooFull)=true then do
      (match (se o c<|lw c.size).2.2 with|true=>rule "set.scan.the-table-gave-way" |false=>pure ())
      sf a (se o c<|lw c.size).1 (se o c<|lw c.size).2.1
      pure ↑true
     else pure ↑true) (λr M=>gu (gv b w) A (match r with|some y=>pure y|none=>setAddHashedIn a (.int k u) (mD k) 99999) Q E M) E s:=by
   refine am<|zP e g λh1 N o1=>?_;split
   ·refine e2a4 (MR (t:=o) (es:=c) q0a p I) λd B re rp rt rl=>?_;rw[re];refine am<|ap<|am<|zP (s:={ s with heap:=h1}) o1 ?_ λh2 aa Y=>ap<|ap<|L h2 _ _ _ (N.trans aa) Y rp rt<|rl.trans ll;have:d.size=c.size:=by rw[<- gr,rp.length_eq,gr]
    rw[this];exact g
   ·rename_i O
    refine ap<|ap<|L h1 _ _ _ N o1 (.refl _) #[lf,lr,I,lg,?_] ll
    cases H with
    |true=>exact ld rfl
    |false =>
     have:o.tooFull=false:=by simpa using O
     unfold SetTable.tooFull at this;simpa using this
  split
  ·rw[hashByValue_scannable 8 rfl];exact am<|ap n
  ·exact am<|ap n
def U9{k:Int}(S:vh w a c s.heap)(room:c.length+1<=127)
 (h:∀d b f,im a s.heap d->vh w a b d->b.Perm (if k∈c then c else k::c)->s.toks<=f->Q (!decide (k∈c)) { s with heap:=d,toks:=f}) :
    gu (gv e w) A (setAdd a<|.int k u) Q E s:=by
  refine gY<|am<|(jI e w).pyHash (k:=k) (oZ _ _ _ _) ?_
  exact U8 (s:={ s with toks:=s.toks+1}) S room λd b g i p=>h d b _ g i p<|kP _
def OF{a:Array (Int×ci)}{k:Int}:∀{b:List Int},Paired xV a.toList b->b.Nodup->∀{j:Nat},rc (λe=>(jI prog w).is k e.2) a.toList=↑j->b[j]?=↑k:=by
 intro b P _ j f;refine e1a2 (List.findIdx?_eq_some_iff_getElem.mp f) λg h _=>?_
 have:∀{a:List (Int×ci)} {b:List Int},Paired xV a b->∀(j:Nat)(e:Int×ci),a[j]?=↑e->∃d,b[j]?=↑d/\xV e d:=by
  intro a b P
  induction P with
  |nil=>intro j e z;simp at z
  |cons x _ i =>
   intro j e z
   cases j with
   |zero =>
    have l:=il z;subst l;exact#[_,rfl,x]
   |succ j=>exact i j e (by simpa using z)
 obtain⟨d,m,_,u,n⟩:=this P j a.toList[j] (by simp[g]);have c:l8 k a.toList[j].2=true:=h;rw[n]at c;have:d=k:=by simpa[l8] using c
 rw[<- this];exact m
def yJ:∀{l:List b} {m:List c},Paired F l m->∀i,Paired F (l.take i++l.drop (i+1)) (m.take i++m.drop (i+1)):=by
 intro _ _ z
 induction z with
 |nil=>intro i;simpa using Paired.nil
 |cons x r a =>
  intro i
  cases i with
  |zero=>simpa using r
  |succ i=>simpa using Paired.cons x (a i)
def wL{k:Int}:∀{ks:List Int} {j:Nat},ks[j]?=↑k->ks.Perm (k::(ks.take j++ks.drop (j+1)))
 | [],j,e=>by simp at e
 |x::r,0,e=>by
  have:x=k:=by simpa using e
  subst this;simp
 |x::r,j+1,e=>by have:=wL (ks:=r) (j:=j) (by simpa using e);simpa using(nW x this).trans (List.Perm.swap k x _)
def E4{k:Int}{Q:Bool->gn->Prop}(S:vh w a c s.heap)
 (h:∀p g,im a s.heap p->vh w a g p->(if k∈c then c.Perm (k::g) else g=c)->Q (decide<|k∈c) { s with heap:=p}) :
    gu (gv b w) A (setDiscardHashed a (.int k u)<|mD k) Q E s:=by
  refine e3a2 S λd J t e K=>?_
  have F:ElemsOf (jI b w) d.toList:=BD K.ent
  have L:(jI b w).is k (.int k u)=true:=oZ _ _ _ _
  refine am<|am<|iE e rfl K.tab.fits ?_
  dsimp only
  rw[byScan_of (knd:=jI b w) rfl (yI K.small) F,ga rfl]
  refine am<|lh<|am ?_
  rw[show mD k=(jI b w).hash k from rfl]
  refine wpAny_setScan_of (knd:=jI b w) L e rfl K.tab.fits F ?_
  have r:=FL K.ent k
  cases v:rc (λe=>(jI b w).is k e.2) d.toList with
  |none =>
    have f:k∉c:=λq=>by
      refine e1a2 (r.mp q) λx M y=>?_
      have:=List.findIdx?_eq_none_iff.mp v x M
      rw[show (jI b w).is k x.2=true from y]at this
      cases this
    have z:=h s.heap c (kZ a s.heap) #[d,J,t,e,K] (by rw[gc f])
    rw[gH f]at z
    exact ap<|ap z
  |some j =>
    dsimp only
    have i:=OF (prog:=b) (w:=w) K.ent K.nd v
    have n:k∈c:=jg i
    have B:j<d.size:=by
      have:=(List.findIdx?_eq_some_iff_getElem.mp v).1
      rwa [gr]at this
    rw[sd]
    refine ap<|am<|iE e rfl K.tab.fits ?_
    have G:=w6.mp K.tab.fits
    have C:t.place[j]?=↑t.place[j]!:=by
      rw[iP q0a,getElem!_pos]
    have H:t.drop j={ t with place:=io t.place j,dummies:=iH t.dummies (gD t.dummies t.place[j]!) t.place[j]!}:=by
      unfold SetTable.drop
      rw[C]
    have o:(io d j).size=d.size-1:=AA _ _ B
    have l:(io t.place j).size=d.size-1:=by rw[AA _ _ q0a];lia
    have I:U7 w (io d j) (t.drop j) (c.take j++c.drop (j+1)):=by
      refine#[by rw[toList_erase];exact yJ K.ent j,?_,by rw[o];have:=K.small;lia,?_,?_]
      · have := (wL i).nodup_iff.mp K.nd
        exact(List.nodup_cons.mp this).2
      · have m := K.tab.room
        unfold kd at m
        rw[H]
        refine#[w6.mpr #[?_,?_],Js K.tab.rise j,K.tab.plain,K.tab.good,?_]
        · show (io t.place j).size = _
          rw[l,o]
        · show (io t.place j).size+(iH t.dummies _ _).size <= t.mask
          rw[l,yr]
          lia
        · show ((io t.place j).size+(iH t.dummies _ _).size)*5<t.mask*3
          rw[l,yr]
          lia
      · rw[H]; exact K.led
    refine am<|zP e (xJ I.small) λN D O=>?_
    refine am<|wpAny_point ?_
    have z:=h N _ D #[_,_,_,O,I] (by rw[ga n];exact wL i)
    rw[decide_eq_true n]at z
    exact ap z
def Dh:∀(l:List a)(i:Nat)(x:a),l[i]?=↑x->(x::l.eraseIdx i).Perm l
 | [],i,x,e=>by simp at e
 |y::r,0,x,e=>by
  have:y=x:=by simpa using e
  subst this;simp
 |y::r,i+1,x,e=>by have:=Dh r i x (by simpa using e);rw[nL];exact(List.Perm.swap y x _).trans<|nW y this
set_option tactic.hygienic true in
def Su(c:Nat->Nat):∀(a k:Nat)(left:List d)(b:Array d),left.length<=a->(qA c a k left b).toList.Perm (b.toList++left):=by
 intro a
 induction a with
 |zero =>
  intro k left b h;have:left=[]:=List.length_eq_zero_iff.mp q0a;subst this;simp[qA]
 |succ a f =>
  intro k left b h;unfold qA;split
  ·rename_i x e
   have g:=(List.getElem?_eq_some_iff.mp e).1;refine(f _ _ _<|by rw[List.length_eraseIdx];split<;>lia).trans ?_;rw[pE,kE];refine nJ _ ?_;exact Dh _ _ _ e
  ·rename_i e
   cases left with
   |nil=>simp
   |cons y r =>
    have:=List.getElem?_eq_none_iff.mp e;have i:=mY (c k) (show 0<(y::r).length by simp)
    lia
def BE(b:Nat->Nat)(a:Array c):(sZ b a).toList.Perm a.toList:=by unfold sZ;have:=Su b a.size 0 a.toList #v[] q0o;simpa using this
set_option tactic.hygienic true in
def Wg(S:vh w a f s.heap)(h:∀(c:Array (Int×ci)) (b:List Int),Paired xV c.toList b->b.Perm f->Q c s):gu (gv g w) A (setWalk a) Q E s:=by
 refine e3a2 S λd k t e K=>?_;refine am<|iE e rfl K.tab.fits<|am<|am<|jb<|ap ?_;split
 ·refine am<|jb<|ap ?_;obtain⟨b,p,q⟩:=w8 (BE _ d).symm K.ent;exact h _ b q p.symm
 ·rename_i i
  rw[gc<|by show ¬((!t.plain&&decide (d.size>1))=true);rw[K.tab.plain];simp]
  have j:t.led=true:=by
   rcases K.led with z|z
   ·exact gA z i
   ·exact z
  refine am<|show gu _ A (if (!t.led&&decide (d.size>1))=true then kA "set:maker-not-led" else pure ()) _ _ _ from ?_;rw[j,gc q0o];exact ap<|ap<|h d f K.ent<|.refl _
def OG(S:vh w a i s.heap)(h:∀(b:Array (Int×ci)) (c:List Int),Paired xV b.toList c->c.Perm i->Q b s) :
  gu (gv d w) A (setWalkUnseen a f g) Q E s:=by
 refine e3a2 (id S) λk l t e K=>?_;refine am<|iE e rfl K.tab.fits<|am<|am<|jb<|ap ?_
 rw[ga (by
  rcases K.led with z|z
  ·have j:(gv d w).w.params.followText "set-order"=true:=z;rw[j];simp
  ·rw[z,K.tab.plain];simp)]
 exact Wg S h
def CF{b:Nat}{n:Nat}(e:s.heap.get? a=↑(wB d b t))(k:t.fits d.size=true)(h:Q b s):gu (gv c w) A (setEpoch a) Q E s :=
 wpAny_setEpoch_of e rfl k h
def Va{es:Array (Int×ci)}{b:Array Nat}{Q:Array (Int×ci)×jd->gn->Prop}(p:b.toList.Perm (gL es.size))(h:Q (b.filterMap (es[·]?),d) s) :
  gu (gv c w) A (do
   let some (t,order):=↑(d,b)|kA "internal:set-table-without-room"
   let a:=order.filterMap (es[·]?)
   if a.size != es.size then kA "internal:set-table-lost-an-element"
   pure (a,t)) Q E s:=by
 have e:(b.filterMap (es[·]?)).size=es.size:=by rw[<- gr,(picked p).length_eq,gr]
 dsimp only;rw[gc<|by rw[e];simp];exact ap h
def Ca(w:ii)(r:cr)(h:hX):Prop:=∃b a,h.get? r=↑(wB #v[] b<|jE 0 0 a)/\(w.params.followText "set-order"=true\/a=true)
def BF(a:Bool):Yv (jE 0 0 a) 0:=#[rfl,gU,rfl,.inl rfl,by show 0*5<7*3;decide]
def Ca.set(x:Ca w r h):vh w r [] h:=by refine e2a2 x λb a e l=>?_;exact#[#v[],b,_,e,.nil,lN,q0q,BF a,l]
set_option tactic.hygienic true in
def Sv{m:Sem Unit}{Q:Unit->gn->Prop}(F:Ca w r s.heap)(S:vh w a X s.heap)(ne:r≠a)
 (h:∀Y l,im r s.heap Y->vh w r l Y->l.Perm X->Q () { s with heap:=Y}):gu (gv I w) A (setMerge r a m) Q E s:=by
  refine e2a2 (id F) λZ c P lr=>?_
  refine e3a2 (id S) λb ep t e K=>?_
  unfold setMerge
  rw[gc<|by simpa using ne]
  refine am<|iE e rfl K.tab.fits ?_
  dsimp only
  by_cases R:b.isEmpty=true
  · rw[ga R]
    have aa:b=#v[]:=by simpa using R
    subst aa
    have:X=[]:=by
      have:=K.ent
      cases this
      rfl
    subst this
    exact ap<|h s.heap [] (kZ _ _) F.set<|.refl _
  · rw[gc R]
    have af:1<=b.size:=by
      have:b.size≠0:=λz=>R (by simpa using Array.size_eq_zero_iff.mp z)
      lia
    have T:=K.small
    -- the room
    have go:∀(o:hX)(J:Nat)(d:jd),im r s.heap o->o.get? r=↑(wB #v[] J d)->d.place=#v[]->d.dummies=#v[]->d.plain=true->d.led=c->Good d.mask->b.size*5<d.mask*3 ->
        gu (gv I w) A (setState r >>= λx=>match x with
          | (_,_,k)=>match k.road t with
            | .slotForSlot=>sf r b { t with finger:=k.finger,led:=k.led&&t.led,moves:=k.moves,plain:=k.plain&&t.plain}
            | .clean=>do
              let (b,t) <- (do
                let some (t,order):=(mS k.mask k.finger k.moves (led:=k.led&&t.led) (plain:=k.plain&&t.plain) (b.map (·.1)))|kA "internal:set-table-without-room"
                let L:=order.filterMap (b[·]?)
                if L.size != b.size then kA "internal:set-table-lost-an-element"
                pure (L,t))
              sf r b t
            | .oneByOne=>do
              for (h,x) in <- setWalkUnseen a [r] ↑r do
                let _ <- jY [x] (setAddHashed r x h)
                m
                if (<- setState a).2.1 != ep then kA "set.changed-during-merge") Q E { s with heap:=o}:=by
      intro o J d sb o1 p1 d1 M l1 C rm
      have f1:d.fits (#v[]:Array (Int×ci)).size=true:=w6.mpr #[by rw[p1];rfl,by rw[p1,d1];exact iu _]
      refine am<|iE (s:={ s with heap:=o}) o1 rfl f1 ?_
      dsimp only
      have u:w.params.followText "set-order"=true\/(d.led&&t.led)=true:=by
        rcases lr with z|z
        · exact .inl z
        · rcases K.led with y|y
          · exact .inl y
          · exact .inr (by rw[l1, z, y]; rfl)
      have v:d.road t=.slotForSlot\/d.road t=.clean:=by
        unfold tR kd
        rw[p1,d1]
        simp only[gy,mu,Nat.add_zero,qC,kh,oF]
        split
        · exact .inl rfl
        · exact .inr rfl
      have ab:d.road t=.slotForSlot->t.dummies.isEmpty=true:=λz=>by
        unfold tR at z
        split at z
        · cases z
        · split at z
          · rename_i q
            exact(Bool.and_eq_true_iff.mp q).2
          · cases z
      have up:∀f,im r o f->im r s.heap f:=λf q=>sb.trans q
      rcases v with z|z
      · have hd := ab z
        rw[z]
        refine zP (s:={ s with heap:=o}) o1 (xJ T) λf g D=>?_
        refine h f X (up f g) #[b,_,_,D,K.ent,K.nd,T,#[K.tab.fits,K.tab.rise,?_,K.tab.good,K.tab.room],u]<|.refl _
        rw[M,K.tab.plain];rfl
      · rw[z]
        have i:b.size<=d.mask:=by lia
        obtain⟨t2,B,N,p⟩:=BC (fg:=d.finger) (mv:=d.moves) (led:=d.led&&t.led) (pl:=d.plain&&t.plain) (hs:=b.map (·.1)) C.FK (by rw[lJ];exact i)
        refine e0a6 (BB N) λr1 r2 r3 G U O=>?_
        rw[N]
        rw[lJ]at p
        have W:=picked p
        have H:(B.filterMap (b[·]?)).size=b.size:=by rw[<- gr,W.length_eq,gr]
        have j:B.size=b.size:=by rw[<- gr,p.length_eq,kD]
        refine am<|Va p ?_
        refine zP (s:={ s with heap:=o}) o1 (by rw[H];exact xJ T) λf g D=>?_
        refine e1a2 (w8 W.symm K.ent) λl q1 q2=>?_
        refine h f l (up f g) #[_,_,_,D,q2,q1.nodup_iff.mp K.nd,by rw[H];exact T,#[w6.mpr #[by rw[O,H,j],?_],r1,?_,by rw[G];exact C,?_],by rw[r2];exact u] q1.symm
        · rw[O, U, j, G]; exact i
        · rw[r3, M, K.tab.plain]; rfl
        · unfold kd
          rw[O,U,j,G]
          exact rm
    refine am<|am<|iE P rfl (BF c).fits ?_
    by_cases hr:b.size*5>=7*3
    · have e1 : (jE 0 0 c).roomFor b.size = some (b.size*2) := by
        unfold sG kd jE
        rw[ga<|by simpa using hr]
        simp
      rw[e1]
      obtain⟨C,g2⟩:=Dg (n:=b.size*2) q0a
      obtain⟨t2,B,N,p⟩:=BC (fg:=0) (mv:=(jE 0 0 c).movedTo<|h8 (b.size*2)-1) (led:=c) (pl:=true) (hs:=(#v[]:Array (Int×ci)).map (·.1)) C.FK (by rw[lJ];exact iu _)
      refine e0a6 (BB N) λr1 r2 r3 G U O=>?_
      have ae:(jE 0 0 c).relaid ((#v[]:Array (Int×ci)).map (·.1)) (b.size*2)=↑(t2,B):=N
      refine am<|iE P rfl (BF c).fits ?_
      dsimp only
      rw[gc (by
        have:h8 (b.size*2)<=512:=by rcases C with q|q|q|q|q|q|q<;>lia
        have e3:(512:Nat)<=gk:=by rw[iB];decide
        lia),ae]
      rw[lJ]at p
      have W:=picked (es:=#v[]) p
      have H:(B.filterMap ((#v[]:Array (Int×ci))[·]?)).size=0:=by rw[<- gr,W.length_eq];rfl
      have j:B.size=0:=by rw[<- gr,p.length_eq];rfl
      refine am<|Va (es:=#v[]) p ?_
      refine zP P (by rw[H];exact iu _) λf g D=>?_
      have o3:B.filterMap ((#v[]:Array (Int×ci))[·]?)=#v[]:=Array.size_eq_zero_iff.mp H
      rw[o3]at D
      refine go f _ t2 g D (Array.size_eq_zero_iff.mp<|by rw[O,j]) U r3 r2 (by rw[G];exact C) (by rw[G];lia)
    · have e1 : (jE 0 0 c).roomFor b.size = none := by
        unfold sG kd jE
        rw[gc<|by simpa using hr]
      rw[e1]
      refine ap ?_
      exact go s.heap Z (jE 0 0 c) (kZ _ _) P rfl rfl rfl rfl (.inl rfl) (by show b.size*5<7*3;lia)
def MS:sg sY "set.__xor__"=↑Builtin.«frozenset.__xor__» :=
 sh (id':="frozenset.__xor__") (by kernel_rfl) (by first|rfl|decide +kernel|(unfold qt;simp +decide [pB])) q0s (by kernel_rfl)
def OH(h:∀a,Ca w ⇑s a->(∀c o,s.heap.get? c=↑o->a.get? c=↑o)->Q (.ref ⇑s) { s with heap:=a}):gu (gv b w) A (newSet<|.type "set") Q E s:=by
 refine am<|am<|jb<|ap ?_;refine am<|wpAny_alloc<|ap<|h _ ⟨0,_,gx _ rfl,?_⟩ λc o e=>ce _ e
 cases q:w.params.followText "set-order" with
 |true=>exact .inl rfl
 |false=>exact .inr (by show (!(w.params.followText "set-order"))=true;rw[q];rfl)
def AT(S:vh w a c s.heap)(h:Q true s):gu (gv b w) A (Builtin.Frozenset.isAnySet<|.ref a) Q E s:=by refine am<|lv S.typeIs o4<|ap ?_;exact h
def MT{m:String}{Q:ci->gn->Prop}(S:vh w a j s.heap)
  (h:∀f b,vh w ⇑s b f->b.Perm j->(∀c o,s.heap.get? c=↑o->f.get? c=↑o)->Q (.ref ⇑s) { s with heap:=f}) :
  gu (gv k w) A (Builtin.Frozenset.newFrom m (.type "set")<|.ref a) Q E s:=by
 refine am<|OH λd r l=>?_;have g:vh w a j d:=S.keep λo e=>l a o e;have u:⇑s≠a:=iK S.lt;refine am<|ap<|am<|gY ?_;refine am<|AT (s:={ s with heap:=d}) g ?_;rw[ga rfl];refine am<|ap ?_;have i:=g;refine e3a2 i λz B t e K=>?_;refine am<|CF (n:=0) (s:={ s with heap:=d}) e K.tab.fits ?_;refine Sv (s:={ s with heap:=d}) r g u λv b x y p=>?_;exact ap<|h v b y p λc o q=>x.extBut c o (gB<|gp q)<|l c o q
set_option tactic.hygienic true in
def Yw{Q:ci->gn->Prop}(Sa:vh w a ka s.heap)(Sb:vh w b kb s.heap)(hl:ka.length+kb.length<=126)
  (h:∀h' ks,vh w ⇑s ks h'->(∀k,k∈ks↔((k∈kb/\k∉ka)\/(k∉kb/\k∈ka)))->(∀c o,s.heap.get? c=↑o->h'.get? c=↑o)->Q (.ref ⇑s) { s with heap:=h'}) :
  gu (gv prog w) A (lH .BitXor (.ref a)<|.ref b) Q E s:=by
 refine wpAny_binaryOp_same (op:=.BitXor) (T:="set") Sa.typeIs Sb.typeIs F.fills_set_xor F.slot_set_xor ?_;refine ij F.slot_set_xor Sa.typeIs MS ?_<|F.args_set_xor_2 _ _;refine am<|am<|ap<|ap ?_;dsimp only;rw[gc gw];refine am<|am<|AT Sa<|AT Sb ?_;rw[gc q0o];refine am<|ap<|am ?_
 wp_delta
 refine am<|am<|lv Sa.typeIs o4<|ap ?_;rw[ga rfl];refine am<|MT Sb λh1 Sw S1 p1 k1=>?_;have ZS:vh w a ka h1:=Sa.keep λo e=>k1 a o e;have ne:⇑s≠a:=iK Sa.lt;refine am<|ap<|am<|gY ?_;unfold Builtin.Frozenset.symmetricDifferenceUpdate;rw[gc<|by simpa using Ne.symm ne];dsimp only;refine am<|j0 (s:={ s with heap:=h1}) (vh.typeIs (s:={ s with heap:=h1}) ZS) ?_;rw[gc q0q];refine am<|AT (s:={ s with heap:=h1}) ZS ?_;rw[ga rfl];refine am<|ap<|am<|ap ?_;have a0P:=ZS;refine e3a2 a0P λes ep t e K=>?_;refine am<|CF (n:=0) (s:={ s with heap:=h1}) e K.tab.fits ?_;refine gY<|am<|OG (s:={ s with heap:=h1}) ZS λes' Yx P' p'=>?_;have nd':Yx.Nodup:=p'.nodup_iff.mpr Sa.nodup;have a2e:=p'.length_eq;have a2f:=p1.length_eq
 refine am (wpAny_forIn_array' _ (λrest _ s2=>∃dn kr h2 k2,Yx=dn++kr/\Paired xV rest kr/\s2={ s with heap:=h2}/\im ⇑s h1 h2/\vh w ⇑s k2 h2/\k2.length<=Sw.length+dn.length /\
   ∀k,k∈k2↔((k∈Sw/\k∉dn)\/(k∉Sw/\k∈dn))) _ ?turn ?fin es' _ #[[],Yx,h1,Sw,rfl,P',rfl,kZ _ _,S1,gg _,λk=>by simp])
 case fin =>
  rintro _ s2 ⟨dn,kr,h2,k2,e0,P,rfl,sb,S2,_,m⟩;cases P;rw[jP]at e0;subst e0;refine ap<|ap<|ap ⟨_,rfl,q0o,?_⟩;refine h h2 k2 S2 (λk=>?_) λc o q=>sb.extBut c o (gB<|gp q)<|k1 c o q;rw[m k,p1.mem_iff,p'.mem_iff]
 case turn =>
  rintro x rest _ s2 ⟨dn,kr,h2,k2,e0,P,rfl,sb,S2,l2,m⟩
  cases P with
  |cons hx hr =>
   rename_i k kr
   obtain⟨hx1,u,hx2⟩:=hx;rw[hx1,hx2];have nd2:=nd';rw[e0]at nd2
   have hkd:k∉dn:=λq=>by have:=(List.nodup_append.mp nd2).2.2 k q k gh;exact this rfl
   have a2j:dn.length+(kr.length+1)=Yx.length:=by rw[e0,gz,gK]
   have ea:∀h3,im ⇑s h2 h3->h3.get? a=↑(wB es ep t):=λh3 q=>q.extBut a _ (Ne.symm ne)<|sb.extBut a _ (Ne.symm ne) e
   have Vb:∀(R:ForInStep PUnit->gn->Prop) h3 k3,im ⇑s h2 h3->vh w ⇑s k3 h3->k3.length<=k2.length+1->(∀j,j∈k3↔((j∈k2/\j≠k)\/(j∉k2/\j=k))) ->
     (∀s':gn,(∃dn kr h2 k2,Yx=dn++kr/\Paired xV rest kr/\s'={ s with heap:=h2}/\im ⇑s h1 h2/\vh w ⇑s k2 h2/\k2.length<=Sw.length+dn.length/\∀k,k∈k2↔((k∈Sw/\k∉dn)\/(k∉Sw/\k∈dn)))->R (.yield #[]) s') ->
     gu (gv prog w) A.in1 (Builtin.Frozenset.unchanged (toString "frozenset."++toString "__xor__") a ep >>= λ_=>pure<|lZ PUnit.unit) R E { s with heap:=h3}:=by
    intro R h3 k3 Yy S3 l3 m3 fin;refine am<|am<|CF (n:=0) (s:={ s with heap:=h3}) (ea h3 Yy) K.tab.fits ?_;rw[gc q0o];refine ap<|ap<|fin _ ⟨dn++[k],kr,h3,k3,by rw[e0];simp,hr,rfl,sb.trans Yy,S3,by rw[gz];simp;lia,λj=>?_⟩;rw[m3 j,m j,ko,lx];by_cases q2:j=k
    ·subst q2;by_cases q1:j∈Sw<;>simp[q1,hkd]
    ·by_cases q1:j∈Sw<;>by_cases q3:j∈dn<;>simp[q1,q2,q3]
   refine am<|gY<|am ?_;refine E4 (s:={ s with heap:=h2}) S2 λh3 k3 Yy S3 p3=>?_;by_cases XG:k∈k2
   ·rw[decide_eq_true XG,gc q0o];rw[ga XG]at p3;have nd3:=p3.nodup_iff.mp S2.nodup;refine ap<|Vb _ h3 k3 Yy S3 (by have:=p3.length_eq;rw[gK]at this;lia) (λj=>?_) λ_ z=>z;have q:=p3.mem_iff (a:=j);rw[gO]at q;rw[q];have hk1:=(List.nodup_cons.mp nd3).1;by_cases q2:j=k
    ·subst q2;simp[hk1]
    ·simp[q2]
   ·rw[gH XG,ga q0o];rw[gc XG]at p3;subst p3;refine am<|U8 (s:={ s with heap:=h3}) S3 q0a λh4 k4 ZU S4 p4=>?_;rw[gc XG]at p4;refine ap<|Vb _ h4 k4 (Yy.trans ZU) S4 (by have:=p4.length_eq;rw[gK]at this;lia) (λj=>?_) λ_ z=>z;rw[p4.mem_iff,gO];by_cases q2:j=k
    ·subst q2;simp[XG]
    ·simp[q2]
section
variable{prog:gV}{w:ii}{A:iW}{R:Result->gn->Prop}{I:cr}{fp wr:List cr}{G:Array oB->Array oB->Prop}{n:Nat}{P:Nat->ci->Prop}{St:Nat->gn->Prop}
set_option tactic.hygienic true in
def Wh(W:WalksS prog w A.in1 I fp wr G n P St)(r:cr)(O:r∉fp)(a:Nat->Int)(g:∀i v,P i v->∃t,v=.int (a i) t)(hb:n<=126) :
  ∀(m i:Nat)(s:gn)(b:List Int),i+m=n->St i s->vh w r b s.heap->(∀k,k∈b↔∃j,j<i/\a j=k)->b.length<=i ->
   (∀h l,Moved (r::wr) G s h->vh w r l h.heap->(∀k,k∈l↔∃j,j<n/\a j=k)->R (.ok<|.ret .none) h) ->
   lM (gv prog w) A (.builtin "set.update.loop" #[[.ref r,.ref I],[]]) R s:=by
 have Q:r∉wr:=λq=>O<|W.sub _ q;have x:∀c∈wr,c∈r::wr:=λc B=>gl _ B;intro m
 induction m with
 |zero =>
  intro i s b X H S d Y f;obtain rfl:i=n:=by lia
  refine ji sH ?_;rw[iY oo _];refine am<|W.done s _ _ H λh C=>?_;exact ap<|f h b (C.mono x) (S.keep λo e=>C.heap r o Q e) d
 |succ m Z =>
  intro i s b X H S d Y f;refine ji sH ?_;rw[iY oo _];refine am<|W.item i s _ _ q0a H λv T hP J C=>?_;obtain⟨u,rfl⟩:=g i v hP;have S1:vh w r b T.heap:=S.keep λo e=>C.heap r o Q e;refine am<|gY<|U9 S1 q0a λh2 D tk U S2 p E=>?_
  have l2:D.length<=i+1:=by
   have:=p.length_eq;split at this
   ·lia
   ·rw[gK]at this;lia
  refine ap #[j9 oo _,Z (i+1) _ D q0a (W.frame _ T _ _ J E λc B o e=>?_) S2 (λk=>?_) l2 λs3 L M S3 m3=>?_]
  ·rw[U.2 c (λz:c=r=>O<|by rw[<- z];exact B)];exact e
  ·rw[p.mem_iff]
   have q:(k∈if a i∈b then b else a i::b)↔(k=a i\/k∈b):=by
    split
    ·rename_i z
     constructor
     ·exact .inr
     ·rintro(y|y)
      ·rw[y];exact z
      ·exact y
    ·exact gO
   rw[q,d k];constructor
   ·rintro(z|⟨j,hj,e⟩)
    ·exact#[i,q0a,z.symm]
    ·exact#[j,q0a,e]
   ·rintro⟨j,hj,e⟩;by_cases N:j=i
    ·subst N;exact .inl e.symm
    ·exact .inr #[j,q0a,e]
  ·refine f s3 L (Moved.trans W.gtrans ((C.mono x).then_heap E λc o B e=>?_) M) S3 m3;rw[U.2 c (λz:c=r=>B<|by rw[z];exact gh)];exact e
end
def MU(x:ci)(h:∀a,Ca w ⇑s a->(∀c o,s.heap.get? c=↑o->a.get? c=↑o)->Q (.ref ⇑s) { s with heap:=a}) :
  lM (gv b w) A (.call (.builtin "set.__new__") #[[.type "set",x],[]]) (wants Q E) s:=by
 refine lO ?_;refine am<|lW (F.newCall_set_1 x)<|ap #[j9 oQ _,ji F.entry_set_new ?_];rw[iY oQ _];unfold Builtin.«set.__new__» oG;have g:=o4;obtain⟨i,j,k,l,m⟩:=s;dsimp only;generalize d:newSet=n
 wp_walk
 subst d;refine OH λa e f=>?_;exact ap<|h a e f
def Jx(hh:A.handled=none)(hl:s.heap.IsList l b)(hi:kg b.toList x)(hb:b.size<=126)
 (h:∀f G g,vh w ⇑s g f->(∀k,k∈g↔k∈x)->(∀c o,s.heap.get? c=↑o->f.get? c=↑o)->Q (.ref ⇑s) { s with heap:=f,toks:=G}) :
    gu (gv aa w) A (call (.type "set") [.ref l]) Q E s:=by
  obtain⟨c0,tl,ab⟩:=F.called_set.mro
  have J:=F.called_set.made
  have ae:=F.called_set.sub
  refine lS<|lO ?_
  refine ap #[mU _ q0s,ji F.entry_type_call ?_]
  rw[sI (t6 "set" [.ref l] []) rfl]
  have ag:=F.called_set.notType
  have ah:=F.called_set.canCreate
  have ai:=F.typeCall_set_1<|.ref l
  repeat (any_goals (first|assumption|wp_step))
  refine jp (MU (.ref l) (E:=E) (Q:=λy z=>y=.ref ⇑s/\∃a,z={ s with heap:=a}/\Ca w ⇑s a/\∀c o,s.heap.get? c=↑o->a.get? c=↑o) λa H u=>#[rfl,a,rfl,H,u]) λr1 s1 m=>?_
  cases r1 with
  |error e=>exact m
  |ok f1 =>
    cases f1 with
    |ret y =>
      obtain⟨rfl,a,rfl,H,u⟩:=m
      have L:vh w ⇑s [] a:=H.set
      have hT:k8 { s with heap:=a} (.ref ⇑s) "set":=vh.typeIs (s:={ s with heap:=a}) L
      have aj:=F.called_set.init.lookup
      have ak:=F.called_set.init.bind<|.ref ⇑s
      repeat (any_goals (first|assumption|wp_step))
      refine jp (mM (R:=wants (λr B=>r=.none/\∃f G g,B={ s with heap:=f,toks:=G}/\vh w ⇑s g f/\(∀k,k∈g↔k∈x)/\∀c o,s.heap.get? c=↑o->f.get? c=↑o) E) F.called_set.init.plain F.entry_set_init<|check_set_init_1 hT ?_) λr2 s2 n=>?_
      · obtain⟨M, p, N, nl, O⟩ := id hl
        have q:a.IsList l b:=#[M,u l M p,N,nl,O]
        have al:k8 { s with heap:=a} (.ref l) "list":=q.typeIs
        have q1:=F.sub_list_set
        have q2:=F.sub_list_frozenset
        have q3:(jw "list" == jw "dict")=false:=by decide
        refine e2a2 (id H) λan af e1 l1=>?_
        unfold Builtin.«set.__init__» noKeywords Builtin.Frozenset.updateFrom
        generalize P:pyIter=PI
        wp_walk
        subst P
        refine wpAny_pyIter_list q<|am<|si ?_
        have S:l<a.objs.size:=gp<|u l M p
        have T:⇑s<a.objs.size:=L.lt
        have U:A.in1.in1.in1.handled=none:=by simp[hh]
        have nr:⇑s∉[a.objs.size,l]:=by
          simp only[gO,iv,lj,oY]
          exact#[gB T,iK<|gp p]
        have C:∀(i:Nat)(v:ci),b[i]?=↑v->∃t,v=.int ((λi=>x.getD i 0) i) t:=λi v hv=>qh hi i v (by rw[hI];exact hv)
        have d:∀c o,a.get? c=↑o->(a.push { cls:=.type "list_iterator",data:=.fields #v[.ref l,.int 0 0]}).get? c=↑o:=λc o e=>ce _ e
        have D:=qi hi
        rw[gr]at D
        refine Wh ((Walks.list U _ l (gB S) b).toS) ⇑s nr (λi=>x.getD i 0) C hb b.size 0 _ [] q0a #[#[_,gx _ rfl,rfl,rfl],q.push _] (L.keep λo e=>d _ o e) (λk=>by simp) (iu _) λs2 W I S2 m2=>?_
        obtain⟨h2,g2,d2,X,Y⟩:=s2
        have eg:g2=s.gens:=I.gens
        have ed:d2=s.drawn:=I.drawn
        have eo:Y=s.os:=I.os
        subst eg ed eo
        refine ap<|ap ⟨rfl,h2,X,W,rfl,S2,λk=>?_,λc o e=>?_⟩
        · rw[m2 k]
          constructor
          · rintro⟨j, Z, e⟩
            rw[<- e]
            have:j<x.length:=by lia
            simp[iO,this]
          · intro hk
            obtain⟨j,Z⟩:=kK hk
            refine#[j,by have:=(List.getElem?_eq_some_iff.mp Z).1;lia,?_]
            simp[iO,Z]
        · refine I.heap c o ?_ (d c o<|u c o e)
          simp only[gO,iv,lj,oY]
          exact#[gB<|gp e,gB<|gp<|u c o e]
      · cases r2 with
        |error e=>exact n
        |ok f2 =>
          cases f2 with
          |ret r =>
            obtain⟨rfl,f,G,g,rfl,S',m',k'⟩:=n
            repeat (any_goals (first|assumption|wp_step))
            exact h _ _ g S' m' k'
          |_=>exact n.elim
    |_=>exact m.elim
def wn:Slot "set_iterator" "__next__" "set_iterator.__next__" :=
 .of (owner:="set_iterator") (n:="__next__") (by rw[mZ,kQ];kernel_rfl) q0s q0s q0s (by first|exact .inl q0s|exact .inr q0s) (by rw[sj];kernel_rfl)
def OI:Manifest.owners.lookup (String.ofList ['r','o','t','a','r','e','t','i','_','t','e','s'].reverse)=↑Manifest.sig_set_iterator:=by kernel_rfl
def AU(a:ci):qQ "set_iterator.__next__" #[[a],[]]:=by unfold qQ;rw[signature?_of (id:="set_iterator.__next__") (n:=['_','_','t','x','e','n','_','_']) (o:=['r','o','t','a','r','e','t','i','_','t','e','s']) (by kernel_rfl) OI];kernel_rfl
def Al:sg sY "set_iterator.__next__"=↑Builtin.«set_iterator.__next__»:=entryFor_of_tree (by kernel_rfl)
def AV:Slot "set_iterator" "__iter__" "set_iterator.__iter__" :=
 .of (owner:="set_iterator") (n:="__iter__") (by rw[mZ,kQ];kernel_rfl) q0s q0s q0s (by first|exact .inl q0s|exact .inr q0s) (by rw[sj];kernel_rfl)
def FM(a:ci):qQ "set_iterator.__iter__" #[[a],[]]:=by unfold qQ;rw[signature?_of (id:="set_iterator.__iter__") (n:=['_','_','r','e','t','i','_','_']) (o:=['r','o','t','a','r','e','t','i','_','t','e','s']) (by kernel_rfl) OI];kernel_rfl
def Eu:sg sY "set_iterator.__iter__"=↑Builtin.«dict_keyiterator.__iter__» :=
 sh (id':="dict_keyiterator.__iter__") (by kernel_rfl) (by first|rfl|decide +kernel|(unfold qt;simp +decide [pB])) q0s (by kernel_rfl)
def Di:sg sY "set.__iter__"=↑Builtin.«frozenset.__iter__» :=
 sh (id':="frozenset.__iter__") (by kernel_rfl) (by first|rfl|decide +kernel|(unfold qt;simp +decide [pB])) q0s (by kernel_rfl)
noncomputable abbrev Yz(b i n c:Nat)(a:cr):Obj:={ cls:=.type "set_iterator",dict:=none,data:=.fields #v[kO b,kO i,.ref a,kO n,kO c],slots:=#v[]}
noncomputable def Jy(w:ii)(a:cr)(b:Array (Int×ci))(c:Nat):Array (Int×ci):=if w.params.followText "set-order"=true then sZ (w.params.setOrder a c) b else b
def BG(w:ii)(a:cr)(b:Array (Int×ci))(c:Nat):(Jy w a b c).toList.Perm b.toList:=by
 unfold Jy;split
 ·exact BE _ b
 ·exact .refl _
def SIt(w:ii)(e a:cr)(c:Array (Int×ci))(d:Nat)(t:jd)(i:Nat)(h:hX):Prop :=
 ∃b,(w.params.followText "set-order"=false->gD t.place b=i)/\h.get? e=↑(Yz b i c.size d a)/\h.get? a=↑(wB c d t)
def HN(e:s.heap.get? b=some { cls:=cls,dict:=none,data:=.fields c,slots:=#v[]})(h:Q c s):gu (gv a w) A (fieldsOf<|.ref b) Q E s:=by exact am<|qd e<|ap h
set_option tactic.hygienic true in
def MV{c i:Nat}(e:s.heap.get? a=↑(wB g k t))(K:U7 w g t p)(n:w.params.followText "set-order"=false->gD t.place c=i)
 (d:(Jy w a g k)[i]?=↑x)(h:∀l,(w.params.followText "set-order"=false->gD t.place l=i+1)->Q ↑(x.2,l) s):gu (gv f w) A (setNext a c i k) Q E s:=by
  have q:=w6.mp K.tab.fits
  refine am<|iE e rfl K.tab.fits<|am<|am<|jb<|ap ?_
  dsimp only
  unfold Jy at d
  split
  · rename_i j
    have b:w.params.followText "set-order"=true:=j
    rw[ga b]at d
    rw[gc q0o]
    refine am<|am<|iE e rfl K.tab.fits<|am<|am<|jb<|ap ?_
    rw[ga j]
    refine am<|jb<|ap<|ap ?_
    rw[show (gv f w).w=w from rfl,d]
    exact h c λz=>by rw[b]at z;cases z
  · rename_i j
    have b:w.params.followText "set-order"=false:=Bool.eq_false_iff.mpr j
    rw[gc<|by rw[b];simp]at d
    rw[gc<|by show ¬((!t.plain&&decide (g.size>1))=true);rw[K.tab.plain];simp]
    have o:t.led=true:=by
      rcases K.led with z|z
      · rw[b]at z; cases z
      · exact z
    refine am<|show gu _ A (if (!t.led&&!g.isEmpty)=true then kA "set:maker-not-led" else pure ()) _ _ _ from ?_
    rw[o,gc q0o]
    have r:=(Array.getElem?_eq_some_iff.mp d).1
    rw[n b,d]
    have m:t.place[i]?=↑t.place[i]!:=by rw[iP q0a,getElem!_pos]
    rw[m]
    refine ap<|ap<|h _ λ_=>?_
    exact Jq K.tab.rise (by rw[hI];exact m)
set_option tactic.hygienic true in
def MW{c:Nat}(e:s.heap.get? a=↑(wB b i t))(K:U7 w b t l)(j:w.params.followText "set-order"=false->gD t.place c=b.size)(h:Q none s):gu (gv d w) A (setNext a c b.size i) Q E s:=by
 refine am<|iE e rfl K.tab.fits<|am<|am<|jb<|ap ?_;dsimp only;split
 ·rename_i g
  rw[gc q0o];refine am<|am<|iE e rfl K.tab.fits<|am<|am<|jb<|ap ?_;rw[ga g];refine am<|jb<|ap<|ap ?_
  have:(sZ ((gv d w).w.params.setOrder a i) b)[b.size]?=none:=by rw[Array.getElem?_eq_none_iff,<- gr,(BE _ b).length_eq,gr];exact gg _
  rw[this];exact h
 ·rename_i g
  have f:w.params.followText "set-order"=false:=Bool.eq_false_iff.mpr g;rw[gc<|by show ¬((!t.plain&&decide (b.size>1))=true);rw[K.tab.plain];simp]
  have k:t.led=true:=by
   rcases K.led with z|z
   ·rw[f]at z;cases z
   ·exact z
  refine am<|show gu _ A (if (!t.led&&!b.isEmpty)=true then kA "set:maker-not-led" else pure ()) _ _ _ from ?_;rw[k,gc q0o,j f];rw[show b[b.size]?=none from by simp];exact ap<|ap h
def MX(hh:A.handled=none)(K:U7 w es t ks)(ne:a≠it):Walks prog w A it [it,a] [it] es.size (λi v=>∃x,(Jy w a es ep)[i]?=↑x/\v=x.2) (SIt w it a es ep t) where
 sub:=λb hb=>by simp at hb;simp[hb]
 frame:=λi h h' z9=>e1a3 z9 λsl z e1 e2 k=>#[sl,z,k it q0o _ e1,k a q0o _ e2]
 item:=by
  rintro i s Q E hi ⟨sl,z,e1,e2⟩ hQ;have hT:s.TypeIs (.ref it) "set_iterator":=#[_,e1,rfl];refine am<|oq<|wpAny_callSpecial?_slot (name:=kW "__next__") hT wn<|ij wn hT Al ?_<|AU _;refine am<|ap<|am<|HN e1 ?_;refine am<|pV e2 rfl K.tab.fits ?_;rw[gc q0o]
  obtain⟨x,hx⟩:∃x,(Jy w a es ep)[i]?=some x:=by
   have hl:i<(Jy w a es ep).size:=by rw[<- gr,(BG w a es ep).length_eq,gr];exact hi
   exact#[_,iP hl]
  refine am<|MV e2 K z hx λsl' z'=>?_;refine am<|jl e1 q0o λh1 o1 sb1=>am<|jl (s:={ s with heap:=h1}) o1 q0o λh2 o2 sb2=>ap #[_,rfl,ap ?_];have sb:=sb1.trans sb2;exact hQ _ h2 _ #[x,hx,rfl] #[sl',z',o2,sb.extBut a _ ne e2] λb o hb q=>sb.extBut b o (by simpa using hb) q
 done:=by
  rintro s Q E ⟨sl,z,e1,e2⟩ hQ;have hT:s.TypeIs (.ref it) "set_iterator":=#[_,e1,rfl];refine am<|oq<|wpAny_callSpecial?_slot (name:=kW "__next__") hT wn<|ij wn hT Al ?_<|AU _;refine am<|ap<|am<|HN e1 ?_;refine am<|pV e2 rfl K.tab.fits ?_;rw[gc q0o];refine am<|MW e2 K z ?_;refine am<|jl e1 q0o λh1 o1 sb1=>am ?_;refine am<|hR ?_ (by size_fits);refine am (m:=pF _ _)<|lW (a:=Value.none) (by first|rfl|(simp only[pF];rfl))<|hR ?_ (by size_fits)
  refine wpAny_raiseNew_none hh<|am<|lv (T:="StopIteration") (b:=true) ⟨_,gx _ rfl,rfl⟩ isSubtype_stop<|ap ?_;exact hQ _ _ λb o hb q=>ce _<|ce _<|sb1.extBut b o (by simpa using hb) q
 self:=by rintro i s Q E ⟨sl,z,e1,e2⟩ hQ;have hT:s.TypeIs (.ref it) "set_iterator":=#[_,e1,rfl];refine wpAny_pyIter_slot hT AV<|ij AV hT Eu ?_<|FM _;exact ap #[_,rfl,"set_iterator",_,hT,wn.lookup,hQ]
def Wi(e:s.heap.get? a=↑(wB f i t))(K:U7 w f t j)
 (h:∀d,SIt w ⇑s a f i t 0 d->(∀c o,s.heap.get? c=↑o->d.get? c=↑o)->d.objs.size=⇑s+1->Q (.ref ⇑s) { s with heap:=d}):gu (gv b w) A (pyIter<|.ref a) Q E s:=by
  have g:s.TypeIs (.ref a) "set":=#[_,e,rfl]
  refine wpAny_pyIter_slot g F.slot_set_iter<|ij F.slot_set_iter g Di ?_<|F.args_set_iter_1 _
  refine am<|am<|ap<|ap<|am<|am<|pV e rfl K.tab.fits<|ap ?_
  refine am<|am<|iE e rfl K.tab.fits<|am<|am<|jb<|ap<|ap ?_
  rw[gc<|by show ¬((!(gv b w).w.params.followText "set-order"&&(!t.plain&&decide (f.size>1)))=true);rw[K.tab.plain];simp]
  refine am<|ap<|am<|CF (n:=0) e K.tab.fits ?_
  refine am<|hR ?_ (by size_fits)
  refine ap #[_,rfl,"set_iterator",_,#[_,gx _ rfl,rfl],wn.lookup,?_]
  exact h _ #[0,λ_=>Jr K.tab.rise,gx _ rfl,ce _ e] (λc o q=>ce _ q)<|i4 _ _
def FN:mB (.type "set") "__len__"=pure (some<|.builtin "set.__len__"):=by rw[mZ,kQ];kernel_rfl
def Sy(P:Paired xV a b):∀(j:Nat)(e:Int×ci),a[j]?=↑e->∃k,b[j]?=↑k/\xV e k:=by
 induction P with
 |nil=>intro j e z;simp at z
 |cons x _ c =>
  intro j e z
  cases j with
  |zero =>
   have d:=il z;subst d;exact#[_,rfl,x]
  |succ j=>exact c j e (by simpa using z)
def zm:∀{a:List ci} {b:List Int},a.length=b.length->(∀(i:Nat)(v:ci),a[i]?=↑v->∃k u,b[i]?=↑k/\v=kN k u)->kg a b
 | [],[],_,_=>.nil
 | [],_::_,h,_=>by simp at h
 |_::_,[],h,_=>by simp at h
 |v::a,n::b,h,k=>by
  refine e2a2 (k 0 v rfl) λc u d f=>?_;have:n=c:=by simpa using d
  subst this;subst f
  exact .cons _ _ (zm (by simpa using h) λi g e=>by
   refine e2a2 (k (i+1) g<|by simpa using e) λj l m o=>?_
   exact#[j,l,by simpa using m,o])
def MY(hh:A.handled=none)(S:vh w a ks s.heap)
 (h:∀N tk vs H,kg vs H->H.Perm ks->(∀c o,s.heap.get? c=↑o->N.get? c=↑o)->⇑s<=N.objs.size->Q vs { s with heap:=N,toks:=tk}):gu (gv r w) A (collect<|.ref a) Q E s:=by
  refine e3a2 (id S) λI J t e K=>?_
  have d:a<⇑s:=gp e
  refine am<|si<|ji td ?_
  rw[iY tj _]
  refine am (m:=newList [])<|hR<|ap #[j9 nN _,ji F.entry_list_iadd ?_]
  rw[iY nN _]
  have l:∀c o,s.heap.get? c=↑o->(s.heap.push { cls:=.type "list",data:=.seq ([]:List ci).toArray}).get? c=↑o:=λc o q=>ce _ q
  have oL:(s.heap.push { cls:=.type "list",data:=.seq ([]:List ci).toArray}).get? ⇑s=some { cls:=.type "list",data:=.seq ([]:List ci).toArray}:=gx _ rfl
  have f:(s.heap.push { cls:=.type "list",data:=.seq ([]:List ci).toArray}).objs.size=⇑s+1:=i4 _ _
  generalize s.heap.push { cls:=.type "list",data:=.seq ([]:List ci).toArray}=n at l oL f ⊢
  show gu _ A.in1 (pr (.ref ⇑s) (.ref a)<|.ref ⇑s) _ _ { s with heap:=n}
  have hT:k8 { s with heap:=n} (.ref a) "set":=#[_,l a _ e,rfl]
  refine am<|j0 hT ?_
  have n1:kI (.ref ⇑s) (.ref a)=false:=by simp[kI,iK d]
  have n2:(jw "set" == jw "list")=false:=by decide
  have n3:(jw "set" == jw "tuple")=false:=by decide
  simp only[n1,n2,n3,rf,kh,oF]
  refine am<|Wi (s:={ s with heap:=n}) (l a _ e) K λp I2 O ae=>?_
  have j:k8 { s with heap:=p} (.ref a) "set":=#[_,O a _<|l a _ e,rfl]
  refine am<|gY ?_
  refine am<|o6 j FN ?_
  generalize y:("set.__len__":String)=P
  dsimp only
  rw[show splitId P=some ("set","__len__") from by subst y;decide +kernel]
  subst y
  refine am<|lv (b:=true) j o4 ?_
  rw[gc q0o]
  rw[ga q0s]
  refine am<|j0 j<|ap ?_
  rw[ga q0s]
  refine am<|lh<|am ?_
  have B:=O _ _ oL
  have R:A.in1.handled=none:=by simp[hh]
  have ne:a≠n.objs.size:=gB<|mJ d (by rw[f];exact iV _)
  have W:=(MX (prog:=r) (A:=A.in1) (ep:=J) R K ne).toS
  refine am<|o9 B rfl ?_
  have C:=ie (Obj.mapSeq (·.push Value.none)) B rfl
  refine o9 C rfl ?_
  have D:=ie (Obj.mapSeq (·.pop)) C rfl
  have L:∀c o,c≠⇑s->p.get? c=↑o->((p.update ⇑s (Obj.mapSeq (·.push Value.none))).update ⇑s (Obj.mapSeq (·.pop))).get? c=↑o :=
    λc o hc q=>(gZ _ _<|Ne.symm hc).trans<|(gZ _ _<|Ne.symm hc).trans q
  have T:((p.update ⇑s (Obj.mapSeq (·.push Value.none))).update ⇑s (Obj.mapSeq (·.pop))).objs.size=p.objs.size:=by rw[nO,nO]
  have U:⇑s∉[n.objs.size,a]:=by
    simp only[gO,iv,lj,oY]
    exact#[by rw[f];exact gB<|iV _,iK d]
  generalize (p.update ⇑s (Obj.mapSeq (·.push Value.none))).update ⇑s (Obj.mapSeq (·.pop))=h4 at D L T ⊢
  refine e1a3 I2 λsl z i1 i2=>?_
  have I4:SIt w n.objs.size a I J t 0 h4:=#[sl,z,L _ _ (by rw[f];exact iK<|iV _) i1,L _ _ (gB d) i2]
  refine ap #[j9 pG _,codeAny_extend_loopS W (xJ K.small) _ U _ I.size 0 _ _ _ rfl (iu _) I4 D (ItemsOf.nil _) λs5 X c5 M G g=>?_]
  refine am<|qd G<|ap ?_
  obtain⟨h5,g5,d5,Y,Z⟩:=s5
  have eg:g5=s.gens:=M.gens
  have ed:d5=s.drawn:=M.drawn
  have eo:Z=s.os:=M.os
  subst eg ed eo
  -- aa ab
  refine e1a2 (w8 (BG w a I J).symm K.ent) λH pp pe=>?_
  have k5:∀c o,s.heap.get? c=↑o->h5.get? c=↑o:=λc o q=>M.heap c o (by
    simp only[gO,iv,lj,oY]
    exact#[gB (gp q),gB (gp (l c o q))]) (L c o (gB (gp q)) (O c o (l c o q)))
  refine h h5 Y X.toList H (zm ?_ λi v hv=>?_) pp.symm k5<|kT<|gp G
  · rw[gr, g.1, <- Lw pe, gr, <- gr, <- gr, (BG w a I J).length_eq]
  · obtain⟨x, hx, rfl⟩ := g.2 i v (by rw[<- hI]; exact hv)
    obtain⟨k,hk,_,u,hu⟩:=Sy pe i x (by rw[hI];exact hx)
    exact#[k,u,hk,hu]
def BH 
 (C:∀(u:List ci->gn->Prop),(∀b e a d,kg a d->d.Perm x->(∀c o,s.heap.get? c=↑o->b.get? c=↑o)->⇑s<=b.objs.size->u a { s with heap:=b,toks:=e})->gu (gv f w) A.in1 (collect v) u E s)
 (k:x.length<64) (h:∀b e r a d,⇑s<=r->kg a d->d.Perm x->d.Pairwise (·<=·)->(∃n,b.get? r=some { cls:=.type "list",data:=.seq a.toArray n})->(∀c o,s.heap.get? c=↑o->b.get? c=↑o)->Q (.ref r) { s with heap:=b,toks:=e}) :
    gu (gv f w) A (call (.builtin "sorted") [v]) Q E s:=by
  refine qL kind_sorted plain_sorted entry_sorted (args_sorted1 _) ?_
  refine am (m:=checkCount "sorted" 1 1 _)<|ap ?_
  refine am<|C _ λl e a d y z B D=>?_
  have g:a.length<64:=by rw[qi y,z.length_eq];exact k
  refine am<|sP ?_
  have p:(l.push<|lF "list" a.toArray 0).get? l.objs.size=↑(lF "list" a.toArray 0):=gx _ rfl
  refine am<|gY<|ij slot_list_sort ⟨_,p,rfl⟩ entry_list_sort (list_sort_tree p y g λi t F G H=>#[_,rfl,?_])<|args_list_sort _
  obtain⟨I,J⟩:=sortedHeap_at (out:=i) p
  refine ap #[_,rfl,h _ e l.objs.size i.toList t D F (G.trans z) H #[I,by simpa using J] λc o q=>?_]
  have j:=gp<|B c o q
  rw[sortedHeap_old (gB j)<|by rw[sk];exact nA j]
  exact ce _<|B c o q
def FO(j:A.handled=none)(S:vh w a f s.heap)(b:f.length<64)
 (h:∀d l r g e,⇑s<=r->kg g e->e.Perm f->e.Pairwise (·<=·)->(∃n,d.get? r=some { cls:=.type "list",data:=.seq g.toArray n})->(∀c o,s.heap.get? c=↑o->d.get? c=↑o)->Q (.ref r) { s with heap:=d,toks:=l}) :
    gu (gv i w) A (call (.builtin "sorted") [.ref a]) Q E s :=
  BH (λ_ k=>MY (by simp[j]) S k) b h
def Ev{a:List ci}(p:s.heap.IsList l a.toArray)(b:kg a i)(d:i.length<64)
 (h:∀f t r j g,⇑s<=r->kg j g->g.Perm i->g.Pairwise (·<=·)->(∃n,f.get? r=some { cls:=.type "list",data:=.seq j.toArray n})->(∀c o,s.heap.get? c=↑o->f.get? c=↑o)->Q (.ref r) { s with heap:=f,toks:=t}) :
    gu (gv m w) A (call (.builtin "sorted") [.ref l]) Q E s :=
  BH (λ_ k=>collect_list p (k _ s.toks _ _ b (.refl _) (λc o q=>(gZ _ _ (iK (gp q))).trans (ce _ q)) (by rw[nO,sk];exact kP _)) (by
    have:=qi b
    have e:(64:Nat)<=gk:=by rw[iB];decide
    lia)) d h
end SX
namespace L2
open PySem PySem.Spec PyProof.Rows SX
def zQ{a:List Int}(h:Vals (a.map V.int) b):kg b a:=intsAre_of h
def Sz(h:kg a b):Vals (b.map V.int) a:=EX h
noncomputable def wx(w:ii)(p:cr)(a:List Int):HO:=.ext<|vh w p a
def yK(I:Inv X a c H s)(h:H p=↑(wx X.w p b)):vh X.w p b s.heap:=(I.uV p _ h).1
def FP(x:vh w p a h):vq P w H h p (wx w p a) :=
 #[x,(e3a2 x λ_ _ _ e _=> #[_,e]),λ_ _ q k=>q.keep k]
def HP(i:X.calm=true):xU X (.type "set") (λe H Q=>∃(a:cr)(c:List Int),e=[.ref a]/\vF X.K H a (c.map V.int)/\c.length<=126/\∀(p:cr)(b:List Int),H p=none->b.Nodup->b.length<=c.length->(∀k,k∈b↔k∈c)->Q (.ref p) (upd H p<|wx X.w p b)):=by intro f s z H e A Q I r h;obtain⟨a,c,rfl,j,B,q⟩:=h;obtain⟨u,rfl,l⟩:=vals1 r;cases l;refine e1a3 (I.list j) λn g o C=>?_;have t:=zQ g;have d:=g.length;rw[gm]at d;refine Jx (I.ok.hd i) o.isList (by simpa using t) (by rw[gy];lia) λD v b S m k=>?_;refine#[.ref ⇑s,_,I.laid (t':=v) k (gg _)<|FP S,rfl,q _ b (I.uV.fresh<|gg _) S.nodup (yq _ _ S.nodup λx y=>(m x).mp y) m]
def SA:Ad X (lH .BitXor) (λx y H Q=>∃(a b:cr)(c d:List Int),x=.ref a/\y=.ref b/\H a=↑(wx X.w a c)/\H b=↑(wx X.w b d)/\c.length+d.length<=126 /\
  ∀(p:cr)(e:List Int),H p=none->e.Nodup->(∀k,k∈e↔((k∈d/\k∉c)\/(k∉d/\k∈c)))->Q (.ref p) (upd H p (wx X.w p e))):=by
 intro f s o H x y v u Q I g i h;obtain⟨a,b,c,d,rfl,rfl,j,l,n,q⟩:=h;cases g;cases i;refine Yw (yK I j) (yK I l) n λr e S m k=>?_;exact#[.ref ⇑s,_,I.laid (t':=s.toks) k (gg _)<|FP S,rfl,q _ e (I.uV.fresh<|gg _) S.nodup m]
def AB{g:List Int}(I:Inv X b k H s)(l:g.length<64)(q:∀(p:cr)(a:List Int),H p=none->a.Perm g->a.Pairwise (·<=·)->Q (.ref p) (upd H p<|.lst<|a.map V.int)) :
  ∀(d:hX)(h:Nat)(r:cr)(f:List ci)(a:List Int),⇑s<=r->kg f a->a.Perm g->a.Pairwise (·<=·)->(∃n,d.get? r=some { cls:=.type "list",data:=.seq f.toArray n})->(∀c o,s.heap.get? c=↑o->d.get? c=↑o)->EP X b k Q (.ref r) { s with heap:=d,toks:=h}:=by
 intro d h r f a i m j t u v;obtain⟨n,e⟩:=u;have w:(64:Nat)<=gk:=by rw[iB];decide
 exact#[.ref r,_,I.laid (t':=h) (o:=.lst<|a.map V.int) v i #[by rw[gm,j.length_eq];lia,f,n,Sz m,e],rfl,q r a (I.uV.fresh i) j t]
def AW(g:X.calm=true):xU X (.builtin "sorted") (λe H Q=>∃(a:cr)(c:List Int),e=[.ref a]/\H a=↑(wx X.w a c)/\c.length<64/\∀(p:cr)(d:List Int),H p=none->d.Perm c->d.Pairwise (·<=·)->Q (.ref p) (upd H p<|.lst<|d.map V.int)):=by intro f s k H e l Q I r h;obtain⟨a,c,rfl,i,b,q⟩:=h;obtain⟨u,rfl,j⟩:=vals1 r;cases j;exact FO (I.ok.hd g) (yK I i) b<|AB I b q
def FQ:xU X (.builtin "sorted") (λe H Q=>∃(a:cr)(c:List Int),e=[.ref a]/\vF X.K H a (c.map V.int)/\c.length<64/\∀(p:cr)(d:List Int),H p=none->d.Perm c->d.Pairwise (·<=·)->Q (.ref p) (upd H p<|.lst<|d.map V.int)):=by intro f s m H e n Q I r h;obtain⟨a,c,rfl,g,b,q⟩:=h;obtain⟨u,rfl,i⟩:=vals1 r;cases i;refine e1a3 (I.list g) λj k l o=>?_;exact Ev l.isList (zQ k) b<|AB I b q
def E5(X:Cx)(H:Hp)(x:V)(d:PyData):Prop:=∀(a:List (cr×Obj)) (b:St) (s:gn) (u:ci),Inv X a b H s->RelV x u->∃c,Reads s.heap u d c
def E5.int(i:Int):E5 X H (.int i) (.int i):=λ_ _ _ _ _ r=>by obtain⟨t,rfl⟩:=r;exact#[_,Reads.int i t]
def E6(I:Inv X a e H s):∀{c:List V} {d:List ci} {b:List PyData},Vals c d->Paired (E5 X H) c b->∃f,ReadsAll s.heap d b f:=by
 intro _ _ b z
 induction z generalizing b with
 |nil=>intro w;cases w;exact#[_,.nil]
 |cons r t g=>intro w;cases w with|cons q p =>
  obtain⟨j,h⟩:=q a e s _ I r;obtain⟨k,i⟩:=g p;exact#[_,.cons h i]
def E5.lst(h:vF X.K H a c)(p:Paired (E5 X H) c d):E5 X H (.ref a) (.list d):=λb m s u I r=>by
 cases r;refine e1a3 (I.list h) λe f g _=>?_;obtain⟨q,i⟩:=E6 I f p;obtain⟨o,j,k,n,l⟩:=g.isList;exact#[_,Reads.list j k l<|by simpa using i]
def YA(X:Cx)(a:Bool):R2:=λx y H Q=>∃d e,E5 X H x d/\E5 X H y e/\rC d=true/\rC e=true/\oH d e=true/\Q (.bl<|if a then !PySem.Spec.same d e else j5 d e) H
def Wj(c:X.A.units+64<jS):Ad X (iX .Eq) (YA X false):=by intro a s b H x y v u Q I f g h;obtain⟨d,e,i,j,k,l,m,q⟩:=h;obtain⟨p,n⟩:=i a b s v I f;obtain⟨r,o⟩:=j a b s u I g;exact eq_dataH_same n o k l c m #[.bl _,H,I,rfl,q]
def Wk(c:X.A.units+64<jS):Ad X (iX .NotEq) (YA X true):=by intro a s b H x y v u Q I f g h;obtain⟨d,e,i,j,k,l,m,q⟩:=h;obtain⟨p,n⟩:=i a b s v I f;obtain⟨r,o⟩:=j a b s u I g;exact ne_dataH_same n o k l c m #[.bl _,H,I,rfl,q]
def HQ:xU X (.builtin "isinstance") (λa H Q=>∃(x:V)(T:String)(t:ci)(b:Bool),a=[x,.ty T]/\zg X.K H x t/\qf X.K t (.type T)=↑b/\Q (.bl b) H):=by intro c s j H a k Q I r h;obtain⟨x,T,t,b,rfl,d,e,q⟩:=h;obtain⟨u,v,rfl,f,g⟩:=vals2 r;cases g;exact MC I f d e λi=>#[.bl b,H,I.tok i,rfl,q]
def YB:V->V->Hp->VK->Prop:=λo i H Q=>∃(p:cr)(a:List V)(k:Int)(v:V),o=.ref p/\i=.int k/\H p=↑(.lst a)/\0<=k/\a[k.toNat]?=↑v/\Q v H
def OJ:X4 X YB:=by intro a s w H o i x y Q I c d h;obtain⟨p,z,k,v,rfl,rfl,e,f,b,q⟩:=h;cases c;obtain⟨t,rfl⟩:=d;refine e1a3 (I.list<|vF.of (K:=X.K) e) λg r j A=>?_;refine e1a2 (r.get b) λu l m=>?_;have B:=C3;have n:=(List.getElem?_eq_some_iff.mp b).1;exact wpAny_getItem_list j.isList f q0a (by simpa using l) #[v,H,I,m,q]
noncomputable abbrev Ek(X:Cx)(a:k9)(d:List (Str×cr))(e:List Str)(b:gn)(c:Hp)(C:cr)(f:List cr)(g:List (cr×Obj)):Cx :=
 { X with N:=e,s₀:=b,H₀:=c,env:=sr a d C X.env,outer:=X.stack,stack:=X.stack,ex:=f,fn:=λ_=>false,pn:=g,xe:=λ_ _=>False}
structure ye(X:Cx)(scope:k9)(cl:List (Str×cr))(T Fr:List Str)(idx:List Nat):Prop where
 kind:scope.kind=.function
 YC:nK scope X.env=pure cl
 AC:∀y∈scope.names,y.2≠.cell
 names:∀y∈scope.names,y.2=.local->scope.names.lookup y.1=some .local
 sub:∀x c,cl.lookup x=↑c->X.env.cells.lookup x=↑c
 frl:∀y∈scope.names,y.2=.free->∃c,cl.lookup y.1=↑c
 fr:∀(j:Nat)(x:Str),Fr[j]?=↑x->∃i c,idx[j]?=↑i/\X.N[i]?=↑x/\(X.env.kindOf x=some .cell\/X.env.kindOf x=some .free)/\cl.lookup x=↑c/\((oa scope X.env).names.lookup x=some .cell\/(oa scope X.env).names.lookup x=some .free)
 len:idx.length=Fr.length
noncomputable def wC(T:List Str)(a:List Nat)(b:St):St:=T.map (λ_=>none)++a.map λi=>b[i]?.join
def lookup_mem{β:Type}:∀{l:List (Str×β)} {x:Str} {v:β},l.lookup x=↑v->(x,v)∈l:=by
 intro l
 induction l with
 |nil=>intro _ _ h;cases h
 |cons p r ih =>
  intro x v h;obtain⟨y,z⟩:=p;rw[g8]at h
  cases q:x==y with
  |true =>
   rw[q]at h;cases h;rw[eq_of_beq q];exact gh
  |false =>
   rw[q]at h;exact gl _<|ih h
def ye.has{l:List Str}(B:ye X a m T l idx)(h:(oa a X.env).names.lookup x=some .cell\/(oa a X.env).names.lookup x=some .free):∃c,m.lookup x=↑c:=by
 have d:∃k,(x,k)∈(oa a X.env).names/\(k=.cell\/k=.free):=by
  rcases h with h|h
  ·exact#[_,lookup_mem h,.inl rfl]
  ·exact#[_,lookup_mem h,.inr rfl]
 obtain⟨k,d,o⟩:=d;obtain⟨⟨n,f⟩,i,e⟩:=List.mem_map.mp d;dsimp only at e
 have:n=x/\f=.free:=by
  by_cases b:(f==NameKind.free&&X.env.scope.kind==ScopeKind.function&&X.env.kindOf n==↑NameKind.cell)=true
  ·rw[ga b]at e;have g:n=x:=congrArg Prod.fst e;simp only[hJ,beq_iff_eq]at b;exact#[g,b.1.1]
  ·rw[gc b]at e;have g:n=x:=congrArg Prod.fst e;have j:f=k:=congrArg Prod.snd e;rcases o with q|q
   ·exact gA (j.trans q)<|B.AC _ i
   ·exact#[g,j.trans q]
 obtain⟨rfl,rfl⟩:=this;exact B.frl _ i rfl
def w4.Vc(x:w4 P w H h)(f:H a=none)(d:vq P w (upd H a o) h a o):w4 P w (upd H a o) h:=λb u e=>by
 by_cases g:b=a
 ·subst g;rw[uk]at e;cases e;exact d
 ·rw[uh g]at e;exact(x b u e).Co (λ_ _ _ q=>q) (λc q=>by rw[uh<|uu q f];exact q) λc i q=>by rw[uh<|uu q f];exact q
section
variable{X:Cx}{elt iter tg:hW}{scope:k9}{cl:List (Str×cr)}{T Fr:List Str}{idx:List Nat}{wi:TI}{g:TG}{tt:TT}{te:TE}{pos:Pos}{ifs:List hW}
def Wl(X:Cx)(ifs:List hW)(tt:TT):Prop:=∀(a:List (cr×Obj)) (s:gn) (b:St) (H:Hp) (Q:Bool->Hp->Prop),Inv X a b H s->tt b H Q ->
 gu (gv X.prog X.w) X.A (forIn ifs true λc r=>if r=true then do let ok <- qc c X.env (eval c X.env);pure (lZ ok) else pure (lZ r)) (TP X a b Q) X.xe s
def SE:Wl X [] (λ_ H Q=>Q true H):=λ_ _ _ H _ I h=>rD #[H,I,h]
def SF(h:PT X c b):Wl X [c] b:=λa s d H Q I q=>wpAny_tests_one<|h a s d H Q I q
def OK(u:Nat->gn->Prop)
 (y:∀n s,u n s->gu (gv a w) A (pyNext H) (λr b=>match r with
 |none=>R (.ok .next) b
 |some v=>gu (gv a w) A (rA target H v) (λ_ f=>gu (gv a w) A (rS target e v) (λ_ i =>
 gu (gv a w) A (forIn ifs true λc r=>if r=true then do let z <- qc c e (eval c e);pure (lZ z) else pure (lZ r)) (λz d =>
 if z=true then gu (gv a w) A (eval elt e) (λx j=>gu (gv a w) A (call (.builtin "list.append") [G,x]) (λ_ k=>∃m,m<n/\u m k) (λ_ _=>False) j) (λ_ _=>False) d
 else ∃m,m<n/\u m d) (λ_ _=>False) i) (λ_ _=>False) f) (λ_ _=>False) b) (λ_ _=>False) s)
 (n:Nat) (h:u n s):lM (gv a w) A (.compLoop (.ListComp elt [#[target,iter,ifs,0]] scope pos) 0 H G e) R s:=by
  refine codeAny_loop rfl u (λn s J=>?_) n h
  refine wpAny_noted ?_
  rw[compTurn_list]
  have l:∀{I:Type} {t:Sem I} {Q:I->gn->Prop} {E:ci->gn->Prop} {s:gn},gu (gv a w) A t Q (λ_ _=>False) s->gu (gv a w) A t Q E s:=λh=>iw h (λ_ _ q=>q) λ_ _ q=>q.elim
  refine am<|mG<|am<|l<|uT (y n s J) λr b o=>?_
  cases r with
  |none=>exact l<|ap o
  |some v =>
    refine am<|l<|uT o λ_ f B=>am<|l<|uT B λ_ i C=>am<|l<|uT C λz d p=>?_
    cases z with
    |false=>exact l<|ap #[rfl,p]
    |true=>exact am<|am<|l<|uT p λx j D=>am<|l<|uT D λ_ k F=>ap<|ap #[rfl,F]
end
structure Wm(X:Cx)(c P:cr):Prop where
 code:X.env.code=.ref c
 hd:qj X.base c P
 blt:∃bm ob,X.mg "__builtins__"=↑(.ref bm)/\bm≠nE/\X.base.get? bm=↑ob/\ob.cls=.type "module"/\ob.dict=↑nE/\ob.data=.plain
def TabAt(H:Hp)(P:cr):Prop:=∃a,H P=↑(.Ej a)/\tm a.toList
def AX{a b:Int}:∀(l:List ci),tm l->tm (l++[.int a 0,.int b 0,c])
 | [],_=>trivial
 | .int _ _::.int _ _::_::r,h=>AX r h
noncomputable def yL(a b:List Int):Bool:=(a.zip b).all λp=>decide<|p.1<p.2
def SG(a b:List Int):(gL<|min a.length b.length).all (λj=>decide<|a.getD j 0<b.getD j 0)=yL a b:=by
 unfold yL;rw[lp,nP,nP];constructor
 ·intro h p f;obtain⟨j,c⟩:=kK f;obtain⟨d,e⟩:=List.getElem?_zip_eq_some.mp c;have l:=(List.getElem?_eq_some_iff.mp d).1;have m:=(List.getElem?_eq_some_iff.mp e).1;have:=h j<|List.mem_range.mpr q0a;rw[iO,iO,d,e]at this;exact this
 ·intro h j c;have c:=List.mem_range.mp c;have g:a[j]?=↑(a.getD j 0):=by rw[iO,iU q0a];rfl
  have i:b[j]?=↑(b.getD j 0):=by rw[iO,iU q0a];rfl
  have k:(a.zip b)[j]?=↑(a.getD j 0,b.getD j 0):=List.getElem?_zip_eq_some.mpr #[g,i];exact h _<|jg k
def Jz(S:Hp->cr->List V->Prop)(P:cr)(g:TA):TE:=λh H Q=>g h H λi c=>∃(a b:cr)(e f:List Int),i=[.ref a,.ref b]/\S c a (e.map V.int)/\S c b (f.map V.int)/\TabAt c P /\
 ∀d,(∀b o,b≠P->c b=↑o->d b=↑o)->(∀b,b≠P->c b=none->d b=none)->TabAt d P->Q (.bl<|yL e f) d
abbrev YD(K:f9)(P:cr)(a:TA):TE:=Jz (vF K) P a
abbrev Wn(K:f9)(P:cr)(a:TA):TE:=Jz (yA K) P a
structure OM(X:Cx)(S:Hp->cr->List V->Prop)(P:cr):Prop where
 go:∀{pins:List (cr×Obj)} {σ:St} {H1:Hp} {s1:gn} {a b:cr} {us vs:List V} {ps:Array ci},Inv X pins σ H1 s1->X.A.handled=none->S H1 a us->S H1 b vs->H1 P=↑(.Ej ps) ->
  ∃ia ib:List ci,Vals us ia/\Vals vs ib/\a<⇑s1/\b<⇑s1/\a≠P/\b≠P/\∀(Q:ci->gn->Prop)(E:ci->gn->Prop),
   (∀h2 St Mid,(∀A':iW,A'.handled=none->WalksU X.prog X.w A' (⇑s1+4) [⇑s1+4,⇑s1+2,⇑s1+3,⇑s1,⇑s1+1,a,b] [⇑s1+4,⇑s1+3,⇑s1,⇑s1+1] (min ia.toArray.size ib.toArray.size) (λi vals=>∃x y,ia.toArray[i]?=↑x/\ib.toArray[i]?=↑y/\vals=#v[x,y]) St Mid) ->
    St 0 h2->h2.objs.size=⇑s1+5->(∀c o,s1.heap.get? c=↑o->h2.get? c=↑o)->Q (.ref (⇑s1+4)) { s1 with heap:=h2})->gu (gv X.prog X.w) X.A (call (.type "zip") [.ref a,.ref b]) Q E s1
def Inv.tabled{s':gn}{a:Array ci}(I:Inv X g m H s)(i:H P=↑(.Ej l))(p:s'.os=s.os)(r:mE s'.gens)
 (k:∀b o,b≠P->s.heap.get? b=↑o->s'.heap.get? b=↑o)(e:s'.heap.get? P=some { cls:=.none,data:=.fields (l++a)}):Inv X g m (upd H P<|.Ej<|l++a) s':=by
  have j:∀b,H b=none->b≠P:=λb n z=>by rw[z,i]at n;cases n
  have h:∀b u,H b=↑u->(∀q,u≠.Ej q)->b≠P:=λb u n f z=>by rw[z,i]at n;cases n;exact f _ rfl
  refine I.US (ch:=[]) p #[λb o q n _ _=>k b o (j b n) q,λb o q n _ _=>#[o.slots,k b o (j b n) q],λb o q n _=>by rw[uh<|j b n];exact n,λb o q _=>?_,λb t q=>by rw[uh<|h b _ q<|λ_ z=>nomatch z];exact q,λb o u q=>by rw[uh<|h b _ q<|λ_ z=>nomatch z];exact q,λb A q=>?_] (λb u q=>?_) r λb d=>by cases d
  · by_cases d : b = P
    · rw[d]; exact#[_, e]
    · exact#[o, k b o d q]
  · by_cases d : b = P
    · subst d
      rw[i]at q
      cases q
      exact#[a,uk]
    · exact#[#v[], by rw[uh d, q]; simp]
  · by_cases d : b = P
    · subst d
      rw[uk]at q
      cases q
      exact e
    · rw[uh d]at q
      refine(I.uV b u q).Co (λc v w z=>k c v ?_ z) (λc z=>by rw[uh<|h c _ z<|λ_ y=>nomatch y];exact z) λc t z=>by rw[uh<|h c _ z<|λ_ y=>nomatch y];exact z
      rcases w with y|y
      · rw[y]; exact d
      · exact h c _ y<|λ_ x => nomatch x
def ON{s:gn}{a:Env}{i j:Int}(d:a.scope.kind=.function)(g:a.kindOf b=some .local)(k:a.kindOf c=some .local)(e:s.heap.Ns a.locals m)
 (l:m b=↑(.int i t))(n:m c=↑(.int j u))(o:(b==("__debug__":Str))=false)(p:(c==("__debug__":Str))=false)(h:Q (.bool<|decide<|i<j) s):gu (gv f w) A (eval (.Compare (.Name b q) [.Lt] [.Name c r] v) a) Q E s:=by
  refine rR (oT (jX d g e l<|oT (jX d k e n<|lt_int h) p) o)<|xk _
def HR(Z:OM X S P)(aC:X.calm=true)(G:Wm X c P)(ae:X.A.depth<rV)(aD:Gl X "all")(aj:X.mg "all"=none)(aE:Gl X "zip")(aF:X.mg "zip"=none)(af:PA X [e1,e2] ta)
 (hk:n.kind=.function) (aG:n.isCoroutine=false) (ag:nK n X.env=pure []) (ah:∀y∈n.names,y.2≠.cell) (h0:n.names.lookup (".0":Str)=↑NameKind.local) (ao:n.names.lookup xa=some .local) (aq:n.names.lookup xb=some .local) (aH:xa≠xb)
 (da:(xa==("__debug__":Str))=false) (db:(xb==("__debug__":Str))=false)
 (aI:gf [e1,e2] X.env=(false,eval e1 X.env)::gf [e2] X.env:=by rfl) (aJ:(iN p3<|gf [e2] X.env).any (·.1)=false:=by rfl) :
    PE X (.Call (.Name "all" p1) [.GeneratorExp (.Compare (.Name xa q1) [.Lt] [.Name xb q2] q3) [#[.Tuple [.Name xa pa,.Name xb pb] kt pt,.Call (.Name "zip" p2) [e1,e2] [] p3,[],0]] n E] [] p4) (Jz S P ta):=by
  intro p s σ H Q I h
  have hh:X.A.handled=none:=I.ok.hd aC
  refine jQ<|yF I aD aj boot_all<|oP ?_ rfl rfl
  refine jt<|wpAny_GeneratorExp_walksQTD hh aG ag ah h0 ao aq aH hk ae (jQ<|yF I aE aF boot_zip<|jv (uT (af p3 p s σ H _ I h) λus m z9=>e2a3 z9 λvs H1 I1 r1 q1=>?_) aI aJ)<|λ_=>rfl
  obtain⟨a,b,ns,ms,rfl,ha,f,⟨U,hP,tr⟩,q⟩:=q1
  obtain⟨ua,ub,rfl,ra,rb⟩:=vals2 r1
  cases ra
  cases rb
  obtain⟨ia,ib,va,vb,aK,aL,aP,bP,aM⟩:=Z.go I1 hh ha f hP
  have B:m.heap.get? P=↑(qk U):=I1.uV P _ hP
  have ar:P<⇑m:=gp B
  refine aM _ _ λh2 St au W av aN k2=>?_
  refine(W X.A hh).self 0 { m with heap:=h2} _ _ av ?_
  have I2:Inv X p σ H1 { m with heap:=h2}:=I1.kept (t':=m.toks) k2
  refine#[I2.nolimit,?_]
  have aw:qj h2 c P:=G.hd.keeps λb o e=>I2.bk b o e
  have ax:=aw.code (k2 P _ B) tr
  have aO:=aw.tab<|k2 P _ B
  obtain⟨bm,ob,b1,b2,b3,b4,b5,b6⟩:=G.blt
  -- an the J: the sY is U++l,all else is kept
  have Y:∀(J:ci)(D:hX)(R:Nat)(l:Array ci),(∀b o,b≠P->h2.get? b=↑o->D.get? b=↑o)->h2.objs.size<=D.objs.size->D.get? P=some { cls:=.none,data:=.fields (U++l)}->tm (U++l).toList ->
      gu (gv X.prog X.w) X.A (builtinsFor X.env.globals X.env.builtins) (λbi d=>∃I fp wr r Pt L au pz F,gF (⇑m+4)=.ref I/\(∀A':iW,A'.handled=none->WalksU X.prog X.w A' I fp wr r Pt L au)/\(∀i M,Pt i M->∃va vb,M=#v[va,vb])/\L 0 d.heap/\(∀b∈fp,b<⇑d)/\d.heap.NoLimit/\qD∉wr /\
          (∀N:hX,(∀b o,d.heap.get? b=↑o->N.get? b=↑o) ->
            QuietGenTD X.prog X.w (genEnv n [] ⇑d J bi X.env) xa xb [] (.Compare (.Name xa q1) [.Lt] [.Name xb q2] q3) (gL ⇑d) wr Pt pz F N (X.A.depth+1) (X.A.units+8)) /\
          (∀a C R gs,gs.bare=true->⇑d<a->C.objs.size=a+1->(∀b o,d.heap.get? b=↑o->C.get? b=↑o) ->
            WalksS X.prog X.w X.A.in4 a (a::⇑d::gL ⇑d) (⇑d::wr) (GenOnlyQ d.gens.size) (passing pz r 0).length
              (λj y=>∃i,(passing pz r 0)[j]?=↑i/\F i y) (GenAt X.prog X.w X.A.in4 a d.gens.size ⇑d (gL ⇑d) wr pz r F) ->
            GenAt X.prog X.w X.A.in4 a d.gens.size ⇑d (gL ⇑d) wr pz r F 0 { d with gens:=d.gens.push gs,toks:=R,heap:=C} ->
            gu (gv X.prog X.w) X.A (tH []) (λus ak=>gu (gv X.prog X.w) X.A (call (.builtin "all") (.ref a::us)) (EP X p σ Q) X.xe ak) X.xe { d with gens:=d.gens.push gs,toks:=R,heap:=C})) X.xe { m with heap:=D,toks:=R}:=by
    intro J D R l k3 aQ e3 aR
    have I3:Inv X p σ (upd H1 P<|.Ej<|U++l) { m with heap:=D,toks:=R}:=Inv.tabled (s:={ m with heap:=h2}) (s':={ m with heap:=D,toks:=R}) I2 hP rfl I2.bare k3 e3
    have ay:=I3.bk
    refine wpAny_builtinsFor (by rw[I3.ok.glob];exact I3.mod.glob.keeps ay) b1 b2 (ay _ _ b3) b4 b5 b6 ?_
    have nz:∀k,⇑m+k≠P:=λk=>iK<|gG ar<|nV _ _
    have aS:qD<⇑m:=by obtain⟨mc,hn,_⟩:=I1.nolimit;exact hn.lt
    have aa:=va.length
    have ab:=vb.length
    rw[gm]at aa ab
    have aT:∀(i:Nat)(x:ci),ia.toArray[i]?=↑x->∃t,x=.int (ns.getD i 0) t:=λi x hx=>qh (zQ va) i x (by simpa using hx)
    have aU:∀(i:Nat)(x:ci),ib.toArray[i]?=↑x->∃t,x=.int (ms.getD i 0) t:=λi x hx=>qh (zQ vb) i x (by simpa using hx)
    have u:∀k,k<5->⇑m+k<D.objs.size:=λk hk=>gG (Nat.add_lt_add_left hk _)<|gW (pT aN.symm) aQ
    refine#[_,_,_,_,_,_,_,(λ_=>true),(λi y=>y=.bool (decide<|ns.getD i 0<ms.getD i 0)),rfl,W,λi M z9=>e2a3 z9 λx y _ _ e=>#[x,y,e],(W X.A hh).frame _ _ _ av λb f o e=>k3 b o ?_ e,λb f=>?_,I3.nolimit,?_,λN a1=>?_,λg h5 aV gs gb g1 g2 k5 WS GA=>?_]
    · simp only[gO, iv, lj]at f
      rcases f with z|z|z|z|z|z|z<;>rw[z]
      · exact nz 4
      · exact nz 2
      · exact nz 3
      · exact nz 0
      · exact nz 1
      · exact aP
      · exact bP
    · simp only[gO, iv, lj]at f
      rcases f with z|z|z|z|z|z|z<;>rw[z]
      · exact u 4 q0q
      · exact u 2 q0q
      · exact u 3 q0q
      · exact u 0 q0q
      · exact u 1 q0q
      · exact mJ aK<|u 0 q0q
      · exact mJ aL<|u 0 q0q
    · intro f
      simp only[gO,iv,lj]at f
      have T:∀k,qD≠⇑m+k:=λk=>gB<|gG aS<|nV _ _
      rcases f with z|z|z|z
      · exact T 4 z
      · exact T 3 z
      · exact T 0 z
      · exact T 1 z
    · refine#[λA' E' i az aA s2 m2 _ _ _ _ _ _ _ _ => rD #[rfl, s2.heap, s2.toks, rfl, λ_ _ e => e], λA' E' i az aA s2 m2 hA _ _ aW _ hn aj aX _ => ?_]
      obtain⟨x,y,hx,hy,e⟩:=aW
      obtain⟨ex,ey⟩:az=x/\aA=y:=by simpa using congrArg rr e
      subst ex ey
      obtain⟨t1,rfl⟩:=aT i _ hx
      obtain⟨t2,rfl⟩:=aU i _ hy
      exact ON hk ao aq hn aj aX da db #[rfl,s2.heap,s2.toks,rfl,λ_ _ e=>e]
    · have ai : passing (λ_ => true) (min ia.toArray.size ib.toArray.size) 0 = gL (min ia.toArray.size ib.toArray.size) := by
        unfold passing
        simp
      rw[ai]at WS
      have W1:=WS.in4_1
      refine kq<|call_all_walkS<|W1.self 0 _ _ _ GA ⟨g,_,_,_,_,_,_,(λj=>decide<|ns.getD j 0<ms.getD j 0),rfl,W1,GA,λj v s7 Q' E' hv hq=>?_,λs7 mv=>?_⟩
      · obtain⟨i, hi, rfl⟩ := hv
        have:i=j:=by
          obtain⟨hl,he⟩:=List.getElem?_eq_some_iff.mp hi
          rw[List.getElem_range]at he
          exact he.symm
        subst this
        exact jC hq
      · have k7 : ∀b o, b<D.objs.size -> (∀k, b ≠ ⇑m+k) -> D.get? b = some o -> s7.heap.get? b = some o := λb o f hn e => mv.heap b o (by
          simp only[gO,iv,lj,oY]
          exact#[gB f,hn 4,hn 3,hn 0,hn 1]) (k5 b o e)
        have O:∀b,b<⇑m->∀k,b≠⇑m+k:=λb f k=>gB<|gG f<|nV _ _
        have e7:s7.heap.get? P=some { cls:=.none,data:=.fields (U++l)}:=k7 P _ (gp e3) (O P ar) e3
        have I7:Inv X p σ (upd H1 P<|.Ej<|U++l) s7:=Inv.tabled I1 hP mv.os (AllBare.movedS (s:={ m with heap:=h5,gens:=m.gens.push gs,toks:=aV}) (I1.bare.push gb) mv) (λb o f e=>k7 b o (gp<|k3 b o f<|k2 b o e) (O b<|gp e)<|k3 b o f<|k2 b o e) e7
        refine#[.bl _,_,I7,rfl,?_]
        have al:(gL (gL<|min ia.toArray.size ib.toArray.size).length).all (λj=>decide<|ns.getD j 0<ms.getD j 0)=yL ns ms:=by
          rw[kD,gy,gy,<- aa,<- ab]
          exact SG ns ms
        rw[al]
        exact q _ (λb o f e=>by rw[uh f];exact e) (λb f e=>by rw[uh f];exact e) #[_,uk,aR]
  cases aB:codeAmong E U.toList with
  |none =>
    refine wpAny_genexprCodeX G.code ax aO aB λc' D R hx aY aZ _ _ a0 _=>?_
    refine Y (.ref c') D R #v[kO E.line,kO E.col,.ref c'] (λb o f e=>hx b o f e) (gW aY<|kT aZ) a0.2 ?_
    rw[oX]
    exact AX _ tr
  |some cv =>
    refine wpAny_genexprCode_hit G.code ax aB ?_
    have:=Y cv h2 m.toks #v[] (λb o _ e=>e) (gg _) (by simpa using k2 P _ B) (by simpa using tr)
    exact this
def a0S:OM X (vF X.K) P:=#[λ{v M H1 j a b N O A} m R B C D=>by
 refine e1a3 (m.list B) λx F d S=>?_;refine e1a3 (m.list C) λy G f T=>?_;have i:j.heap.get? P=↑(qk A):=m.uV P _ D
 have h:∀(l:cr)(g:Array ci),j.heap.IsList l g->l≠P:=λl g n=>e1a3 n λo e c _ z=>by rw[z,i]at e;cases e;cases c
 have k:∀(l:cr)(g:Array ci),j.heap.IsList l g->l<⇑j:=λl g n=>e1a2 n λo e _=>gp e;refine#[x,y,F,G,k _ _ d.isList,k _ _ f.isList,h _ _ d.isList,h _ _ f.isList,λQ E H=>call_zip_2 d.isList f.isList λI J p q r s t u=>?_]
 exact H I _ _ (λU L=>(WalksT.zip2 (prog:=X.prog) (w:=X.w) L _ _ _ _ _ _ _ (zipApart_new (k _ _ d.isList) (k _ _ f.isList)) x.toArray y.toArray).toU) #[J,p,#[_,_,q],r,s,d.isList.at λo e=>u _ o e,f.isList.at λo e=>u _ o e] t u]
def MZ{K:f9}{k:Nat}{f:gn}{C:List ci} 
 (KX:K.In f.heap) (I:f.heap.Ns gC U) (hb:f.heap.Ns nE mb) (ab:∀x:Str,x≠"__name__"->mb x=l9 x) (J:f.heap.NoLimit) (hg:f.gens=#v[])
 (D:f.heap.get? a=some { cls:=.type "list",data:=.seq C.toArray}) (hi:kg C X) (hl:X.length<=gk) (hr:vI k qz)
 (hT:f.heap.TableAt c tab #v[]) (ae:K.lookup tab=none)
 (F:∀base:hX,K.In base->base.Ns gC U->(∀b o,f.heap.get? b=↑o->o.cls≠.type "list"->o.cls≠.none->base.get? b=↑o)->uO P w K U base CX k fa fd [x] sp) (E:∀(s:gn)(u:ci),rK s fd #[[u],[]] [(x,u)])
 (af:∀H:Hp,vF K H a (X.map V.int)->H tab=↑(.Ej #v[])->sp [.ref a] H (λv _=>v=.bl true) λ_ _ _=>False)
 (ag:∀H e j,CX [] H f (λ_ _ _=>False) e j->False) :
    lM (gv P w) qz (.call (.ref fa) #[[.ref a],[]]) (λr j=>r=.ok (.ret<|.bool true)/\OldK f.heap j.heap/\j.os=f.os/\mE j.gens) f:=by
  have rv:=EX hi
  have L:=hi.length
  have l:f.heap.get? tab=some { cls:=.none,data:=.fields #v[]}:=hT.2
  have nat:a≠tab:=λz=>by rw[z,l]at D;cases D
  -- from an abstract ah in aa nothing ai the Y and the sY aj be M
  have core:∀H:Hp,(∀b,H b=none\/(b=a/\∃o xs,H b=↑(.IQ o<|.lst xs))\/(b=tab/\H b=↑(.Ej #v[])))->vF K H a (X.map V.int)->H tab=↑(.Ej #v[])->w4 P w H f.heap->(H a≠none->K.lookup a=none) ->
      lM (gv P w) qz (.call (.ref fa) #[[.ref a],[]]) (λr j=>r=.ok (.ret<|.bool true)/\OldK f.heap j.heap/\j.os=f.os/\mE j.gens) f:=by
    intro H Z hS N O hK
    have freeOf:∀{b:cr} {o:Obj},f.heap.get? b=↑o->o.cls≠.type "list"->o.cls≠.none->H b=none:=λ{b o} e c1 c2=>by
      rcases Z b with z|⟨z,_⟩|⟨z,_⟩
      · exact z
      · rw[z, D]at e; cases e; exact gA rfl c1
      · rw[z, l]at e; cases e; exact gA rfl c2
    have y:∀{b:cr} {m:Str->Option ci},f.heap.Ns b m->(Hq f.heap H).Ns b m:=λ{b m} z9=>e3a3 z9 λo es ep e d r=>by
      refine#[o,es,ep,CV e ?_,d,r]
      rcases Z b with z|⟨z,_⟩|⟨z,_⟩
      · exact z
      · rw[z, D]at e; cases e; have d' : Data.seq C.toArray _ = Data.dict es ep := d; cases d'
      · rw[z, l]at e; cases e; have d' : sA #v[] = Data.dict es ep := d; cases d'
    have Q:K.In (Hq f.heap H):=λb o e=>CV (KX b o e) (by
      rcases Z b with z|⟨z,_,_,z2⟩|⟨z,_⟩
      · exact z
      · rw[z]at e z2; rw[hK<|by rw[z2]; simp]at e; cases e
      · rw[z, ae]at e; cases e)
    have hM:Mod K U (Hq f.heap H):=#[Q,y I,#[mb,y hb,ab],e1a2 J λmc h1 h2=> #[mc,y h1,h2]]
    have e0:HB P w K U (Hq f.heap H) qz [] f H:=#[rfl,hM,λb o e=>RN e,pT<|Mr _ _,trivial,λb hb=>gA (show b∈([]:List cr) from hb) q0o,O,.of_eq hg]
    refine jp ((F _ Q (y I) λb o e c1 c2=>CV e<|freeOf e c1 c2).run qz [] f H ⟨[.ref a],[]⟩ [.ref a] [.ref a] _ _ hr e0 (E f<|.ref a) (.cons rfl .nil)<|af H hS N) λr j h=>?_
    cases r with
    |error e=>exact(ag H e j h).elim
    |ok fl =>
      cases fl with
      |next=>exact gX h
      |brk=>exact gX h
      |cont=>exact gX h
      |ret u =>
        obtain⟨v,H',os,R,un,B,r',q⟩:=h
        have q':v=.bl true:=q
        subst q'
        obtain rfl:u=qv true:=r'
        have G:∀b o,f.heap.get? b=↑o->H b=none->j.heap.get? b=↑o:=λb o e n=>un.keep b o e n (by intro z;exact gA (show b∈([]:List cr) from z) q0o) q0o
        obtain⟨more,hm⟩:=un.Au tab _ N
        have S:j.heap.get? tab=some { cls:=.none,data:=.fields (#v[]++more)}:=B tab _ hm
        have p:∀b o,f.heap.get? b=↑o->b≠tab->j.heap.get? b=↑o:=λb o e n=>by
          rcases Z b with z|⟨_,ob,xs,z⟩|⟨z,_⟩
          · exact G b o e z
          · have z2 := un.As b ob _ z
            obtain⟨e1,_⟩:=O b _ z
            obtain⟨e2,_⟩:=B b _ z2
            rw[e]at e1;cases e1
            exact e2
          · exact gA z n
        refine#[rfl,#[λb o e=>?_,λb o e=>?_],os,R]
        · by_cases t : b = tab
          · subst t
            rw[l]at e
            cases e
            exact .inr<|.inl #[hT.isCodeTable,rfl,#v[],more,rfl,S]
          · exact .inl<|p b o e t
        · by_cases t : b = tab
          · rw[t]; exact#[_, S]
          · exact#[o, p b o e t]
  have T:∀H:Hp,vq P w H f.heap tab (.Ej #v[]):=λH=>l
  cases hk:K.lookup a with
  |some o =>
    have e:=KX a o hk
    rw[D]at e
    cases e
    refine core (λb=>if b=tab then some (.Ej #v[]) else none) (λb=>?_) (.inr #[_,C.toArray,_,hk,rfl,rfl,rfl,by rw[gy,L];exact hl,by simpa using rv]) (ga rfl) (λb u z=>?_) λz=>gA (gc nat) z
    · by_cases g : b = tab
      · exact .inr<|.inr #[g, ga g]
      · exact .inl<|gc g
    · by_cases g : b = tab
      · have A := (ga g).symm.trans z
        cases A
        rw[g]
        exact T _
      · have A := (gc g).symm.trans z
        cases A
  |none =>
    refine core (λb=>if b=tab then some (.Ej #v[]) else if b=a then some (.IQ { cls:=.type "list",data:=.seq C.toArray} (.lst<|X.map V.int)) else none) (λb=>?_) (.inl<|.inr ⟨{ cls:=.type "list",data:=.seq C.toArray},(gc nat).trans<|ga rfl⟩) (ga rfl) (λb u z=>?_) λ_=>hk
    · by_cases g : b = tab
      · exact .inr<|.inr #[g, ga g]
      · by_cases i : b = a
        · exact .inr<|.inl #[i, _, _, (gc g).trans<|ga i]
        · exact .inl<|(gc g).trans<|gc i
    · by_cases g : b = tab
      · have A := (ga g).symm.trans z
        cases A
        rw[g]
        exact T _
      · by_cases i : b = a
        · have A := ((gc g).trans<|ga i).symm.trans z
          cases A
          subst i
          exact#[D,by rw[gm];exact hl,C,_,rv,D]
        · have A := ((gc g).trans<|gc i).symm.trans z
          cases A
structure HS(mg:Str->Option ci)(base:hX)(c tab:cr):Prop where
 hd:qj base c tab
 blt:∃bm ob,mg "__builtins__"=↑(.ref bm)/\bm≠nE/\base.get? bm=↑ob/\ob.cls=.type "module"/\ob.dict=↑nE/\ob.data=.plain
def OO{l:pW}{n k:Nat}{p:List Str}{XP:(Str->Option ci)->hX->Prop}{YP:ii->hX->Prop}{d:DefRec}{K:Params->f9}{sp:ii->f9->cr->Sp} 
 (hn:l.most=↑n) (L:n<=gk) (M:d.params.defaults=[]) (hr:vI k qz)
 (hY:∀(w:ii)(h:hX),YP w h->(K w.params).In h) (z:(recsOf q).find? (λe=>e.name==tx)=↑dx)
 (F:∀(w:ii)(r:Str->Option ci)(I:cr)(h:hX),(K w.params).In h->h.Ns gC r->r d.name=↑(.ref I) ->
 ∃(c j:cr)(N:hO),m4 (K w.params) tx=↑(c,j)/\(K w.params).lookup j=none/\(∀(s:gn)(u:ci),rK s N #[[u],[]] [(x,u)]) /\
 ∀i:hX,(K w.params).In i->i.Ns gC r->HS r i c j->uO l.prog w (K w.params) r i CX k I N [x] (sp w (K w.params) j))
 (O:∀(w:ii)(K:f9)(H:Hp)(a j:cr)(J:List Int),J.length<=n->vF K H a (J.map V.int)->H j=↑(.Ej #v[])->sp w K j [.ref a] H (λv _=>v=.bl true) λ_ _ _=>False)
 (P:∀(H:Hp)(s:gn)(e:ci)(Q:gn),CX [] H s (λ_ _ _=>False) e Q->False) :
    t7 q p XP YP l.row.toRowW d [] (λf vs=>sN f vs):=by
  refine Att.HJ hn M λw ab A r mb I o pm cd ae a vs J G Y ho hd af R B t m hg=>?_
  have S:=hY w _ Y
  obtain⟨c,j,N,ht,U,hb,hF⟩:=F w r I _ S G.T.g R
  obtain⟨C,hP⟩:=PySem.W.tab_of G.T S z ht
  obtain⟨bm,ob,b1,b2,b3,X,b5,b6⟩:=G.T.bmain
  refine MZ S G.T.g G.T.b G.T.builtins G.T.nolimit hg B t (gW m L) hr (C.tab hP) U (λi kb nb bk=>hF i kb nb #[?_,bm,ob,b1,b2,bk _ _ b3 (by rw[X];simp) (by rw[X];simp),X,b5,b6]) hb (λH hS hH=>O w _ H a j J m hS hH) λH e Q=>P H A e Q
  obtain⟨o,Z,D,tf,y,tg,aa,E,tt,e1,r1,r2⟩:=C
  exact#[o,Z,D,tf,y,tg,aa,E,tt,bk _ _ e1 (by rw[r1];simp) (by rw[r1];simp),r1,r2]
end L2
namespace SX
open PySem PyProof.Rows
def a0T{k:Int}(S:vh w a c s.heap)(h:Q (.bool<|decide<|k∈c) { s with toks:=s.toks+1}):gu (gv b w) A (iX .In (.int k u)<|.ref a) Q E s :=
 wpAny_inSet_of (knd:=jI b w) (k:=k) (oZ _ _ _ _) rfl S.of h
def Wp{k:Int}(S:vh w a d s.heap)(room:d.length+1<=127)
 (h:∀c b e,im a s.heap c->vh w a b c->b.Perm (if k∈d then d else k::d)->Q .none { s with heap:=c,toks:=e}) :
    gu (gv f w) A (call (.builtin "set.add") [.ref a,.int k u]) Q E s:=by
  refine ij F.slot_set_add S.typeIs F.entry_set_add ?_<|F.args_set_add_2 _ _
  show gu _ _ (oJ "add" #[[.ref a,.int k u],[]] >>= _) _ _ _
  refine am<|am<|ap<|ap<|am ?_
  refine U9 S room λc b e g i p _=>ap #[_,rfl,h c b e g i p]
def SH{k:Int}(S:vh w a e s.heap)
 (h:∀c b f,im a s.heap c->vh w a b c->(if k∈e then e.Perm (k::b) else b=e)->Q .none { s with heap:=c,toks:=f}) :
    gu (gv d w) A (call (.builtin "set.discard") [.ref a,.int k u]) Q E s:=by
  refine ij F.slot_set_discard S.typeIs F.entry_set_discard ?_<|F.args_set_discard_2 _ _
  show gu _ _ (oJ "discard" #[[.ref a,.int k u],[]] >>= _) _ _ _
  refine am<|am<|ap<|ap<|am ?_
  unfold Builtin.Frozenset.withSetAsKey setDiscard
  refine wpAny_tryCatch ?_
  refine gY<|am<|(jI d w).pyHash (k:=k) (oZ _ _ _ _) ?_
  exact E4 (s:={ s with toks:=s.toks+1}) S λc b g i p=>ap #[_,rfl,h c b _ g i p]
def JA(h:∀a,Ca w ⇑s a->(∀c o,s.heap.get? c=↑o->a.get? c=↑o)->Q (.ref ⇑s) { s with heap:=a}) :
  lM (gv b w) A (.call (.builtin "set.__new__") #[[.type "set"],[]]) (wants Q E) s:=by
 refine lO<|am<|lW F.newCall_set_0<|ap #[j9 oQ _,ji F.entry_set_new ?_];rw[iY oQ _];unfold Builtin.«set.__new__» oG;have g:=o4;obtain⟨i,j,k,l,m⟩:=s;dsimp only;generalize d:newSet=n
 wp_walk
 subst d;refine OH λa e f=>?_;exact ap<|h a e f
def HU(h:∀k,vh w ⇑s [] k->(∀c o,s.heap.get? c=↑o->k.get? c=↑o)->Q (.ref ⇑s) { s with heap:=k}):gu (gv n w) A (call (.type "set") []) Q E s:=by
 obtain⟨I,J,p⟩:=F.called_set.mro;have l:=F.called_set.made;have q:=F.called_set.sub;refine lS<|lO<|ap #[mU _ q0s,ji F.entry_type_call ?_];rw[sI (t6 "set" [] []) rfl];have v:=F.called_set.notType;have x:=F.called_set.canCreate;have y:=F.typeCall_set_0
 repeat (any_goals (first|assumption|wp_step))
 refine jp (JA (E:=E) (Q:=λf g=>f=.ref ⇑s/\∃a,g={ s with heap:=a}/\Ca w ⇑s a/\∀c o,s.heap.get? c=↑o->a.get? c=↑o) λa j m=>#[rfl,a,rfl,j,m]) λz L b=>?_
 cases z with
 |error e=>exact b
 |ok f1 =>
  cases f1 with
  |ret f =>
   obtain⟨rfl,a,rfl,j,m⟩:=b;have t:vh w ⇑s [] a:=j.set;have B:k8 { s with heap:=a} (.ref ⇑s) "set":=vh.typeIs (s:={ s with heap:=a}) t;have C:=F.called_set.init.lookup;have D:=F.called_set.init.bind<|.ref ⇑s
   repeat (any_goals (first|assumption|wp_step))
   refine jp (mM (R:=wants (λr i=>r=.none/\i={ s with heap:=a}) E) F.called_set.init.plain F.entry_set_init<|check_set_init B ?_) λG M d=>?_
   ·obtain⟨H,u,N,O⟩:=id j;unfold Builtin.«set.__init__» noKeywords
    wp_walk
    exact#[rfl,rfl]
   ·cases G with
    |error e=>exact d
    |ok f2 =>
     cases f2 with
     |ret r =>
      obtain⟨rfl,rfl⟩:=d
      repeat (any_goals (first|assumption|wp_step))
      exact h _ t m
     |_=>exact d.elim
  |_=>exact b.elim
end SX
namespace L2
open PySem PySem.Spec PyProof.Rows SX
section
variable{X:Cx}
def M0:xU X (.type "set") (λa H Q=>a=[]/\∀p:cr,H p=none->Q (.ref p) (upd H p<|wx X.w p [])):=by intro b s c H a d Q I r h;obtain⟨rfl,q⟩:=h;cases r;exact HU λe S k=>#[.ref ⇑s,_,I.laid (t':=s.toks) k (gg _)<|FP S,rfl,q _<|I.uV.fresh<|gg _]
def a0U(w:ii):R2:=λx y H Q=>∃(k:Int)(a:cr)(b:List Int),x=.int k/\y=.ref a/\H a=↑(wx w a b)/\Q (.bl<|decide<|k∈b) H
def Wq:Ad X (iX .In) (a0U X.w):=by intro b s f H x y v u Q I c d h;obtain⟨k,a,g,rfl,rfl,e,q⟩:=h;obtain⟨t,rfl⟩:=c;cases d;exact a0T (yK I e) #[.bl _,H,I.tok _,rfl,q]
def Inv.sset{f:Nat}(I:Inv X c h H s)(i:H a=↑(wx X.w a k))(j:im a s.heap g)(S:vh X.w a d g) :
  Inv X c h (upd H a<|wx X.w a d) { s with heap:=g,toks:=f} :=
 I.write (t':=f) (by rw[i];trivial) (.inl rfl) (λb u n e=>j.extBut b u n e) (e3a2 S λ_ _ _ e _=> #[_,e]) (FP S)
def SJ:XD X "set.add" (λx d H Q=>∃(a:cr)(c:List Int)(k:Int),x=.ref a/\d=[.int k]/\H a=↑(wx X.w a c)/\c.length+1<=127/\∀b:List Int,b.Nodup->b.Perm (if k∈c then c else k::c)->Q .vT (upd H a<|wx X.w a b)):=by intro e s m H x d v n Q I g i h;obtain⟨a,c,k,rfl,rfl,f,j,q⟩:=h;cases g;obtain⟨u,rfl,t,rfl⟩:=i.one;exact Wp (yK I f) j λo b r l S p=>#[.vT,_,I.sset f l S,rfl,q b S.nodup p]
def OP:XD X "set.discard" (λx d H Q=>∃(a:cr)(c:List Int)(k:Int),x=.ref a/\d=[.int k]/\H a=↑(wx X.w a c)/\∀b:List Int,b.Nodup->(if k∈c then c.Perm (k::b) else b=c)->Q .vT (upd H a<|wx X.w a b)):=by intro e s l H x d v m Q I g i h;obtain⟨a,c,k,rfl,rfl,f,q⟩:=h;cases g;obtain⟨u,rfl,t,rfl⟩:=i.one;exact SH (yK I f) λn b o j S p=>#[.vT,_,I.sset f j S,rfl,q b S.nodup p]
def Wr(w:ii)(r:V->List V->Hp->VK->Prop)(d:TE)(t:TA):TE:=λb H Q=>d b H λx c=>(∃(a:cr)(e:List Int),x=.ref a/\c a=↑(wx w a e))/\t b c λf g=>r x f g Q
variable{o e:hW}{es:List hW}{to:TE}{t:TA}{name:Str}{apos cpos:Pos}{id:String}{r:V->List V->Hp->VK->Prop}
def OQ(i:Slot "set" name id)(k:typeOf (.builtin id)=pure (.type "method_descriptor"))(q:XD X id r)(u:PE X o to)(y:PA X (e::es) t)
 (f:g9 o name X.env (eval o X.env)=eval o X.env:=by rfl)
 (j:((iN cpos<|gf (e::es) X.env).all (λx=>!x.1)&&(mf cpos<|jZ [] X.env).all (λx=>x.1.isSome)&&decide ((e::es).length+([]:List oW).length+(if ([]:List oW).isEmpty then 0 else 1)<30))=true:=by rfl)
 (g:(apos.endLine==cpos.line)=true:=by rfl) (z:gf (e::es) X.env=(false,eval e X.env)::gf es X.env:=by rfl) (d:(iN cpos<|gf es X.env).any (·.1)=false:=by rfl) :
    PE X (.Call (.Attribute o name apos) (e::es) [] cpos) (Wr X.w r to t):=by
  intro c s l H Q I h
  refine tO f j g rfl<|uT (u c s l H _ I h) λv A m=>e2a4 m λx B n C D E=>?_
  obtain⟨a,W,rfl,G⟩:=D
  cases C
  have S:=yK n G
  refine#["set",id,F.plainAttrs_set,i,k,S.typeIs,λb J=>?_,?_]
  · cases J
    refine e3a2 S λ_ _ _ L _=>?_
    exact#[_,L,rfl]
  have p:=y cpos c A l B _ n E
  rw[z]at p ⊢
  refine jB (by show (false||(iN cpos<|gf es X.env).any (·.1))=false;rw[d]<;>rfl)<|iZ ?_
  exact uT p λM N m=>e2a3 m λO P R T U=>q c N l P (.ref a) O (.ref a) M Q R rfl T U
end
def DK(e:cr)(d:Option cr)(h:hX):Prop:=∃o,h.get? e=↑o/\o.dict=d
def SK(o:Obj)(f:Array ci->Array ci):(o.mapFields f).dict=o.dict:=by obtain⟨c,d,a,b⟩:=o;cases a<;>rfl
section
variable{M:Model}{A:iW}{E:ci->gn->Prop}{s:gn}{base:hX}{env:Env}{outer:List Env}{L e:cr}{oe:Obj}{vs:Array ci}{a0 cls:ci}{d:Option cr}
def Vd{c:Bool}(m:A.frames=↑(env::outer))(k:s.heap.FunFrames base (env::outer))(I:env.frame=↑L)(n:s.heap.get? e=↑oe)(p:base.StaysIn s.heap)(r:base.get? e=none)(g:oe.data=.fields vs)(i:1<vs.size)(J:vs[0]?=↑a0)
 (h:∀t,Heap.NotedW base (env::outer) e oe.cls a0 (kO L) s.heap t->DK e oe.dict t->Q () { s with heap:=t}) :
    gu M A (do setField (.ref e) 1 (<- EntryCells.newEntry head (<- frameOf env) .none (kO L) .none (<- entryPlaceOf L c))) Q E s:=by
  have N:e∉(env::outer).filterMap (·.frame):=λz=>by
    obtain⟨_,o,w,O⟩:=k.mem z
    rw[n]at w;cases w;exact O _ g
  refine am<|wpAny_frameOf_fun m k I λa l=>am<|wpAny_entryPlaceOf λx j=>?_
  have B:a.get? e=↑oe:=(l.2.1 e N).trans n
  have C:base.StaysIn a:=λb o q=>(l.2.1 b λz=>by rw[(k.mem z).1]at q;cases q).trans<|p b o q
  refine am<|hR ?_<|j.sizeOk5 _ _ _ _ _
  have P:∃f:Array ci,(([head,.ref L,.none,kO L,.none]++(if x.isEmpty then j4 6 Value.none else x)).toArray=f)/\f[3]?=↑(kO L):=#[_,rfl,by first|(simp;done)|(rcases j with rfl|⟨_,_,_,_,_,_,_,rfl⟩<;>simp)]
  obtain⟨f,R,S⟩:=P
  rw[R]
  have u:=ce (h:=a) { cls:=.type "traceback",dict:=none,data:=.fields f} B
  have D:a.objs.size≠e:=iK<|gp B
  refine mj u g i<|h _ ?_ ?_
  · have F := Obj.data_mapFields g (·.setIfInBounds 1 (gF a.objs.size))
    have T:=ie (Obj.mapFields (·.setIfInBounds 1 (gF a.objs.size))) u<|Obj.isFreed_of_fields F
    have U:=(gZ (a.push { cls:=.type "traceback",dict:=none,data:=.fields f}) (Obj.mapFields (·.setIfInBounds 1 (gF a.objs.size)))<|Ne.symm D).trans<|gx a rfl
    have v:∀b o,b≠e->a.get? b=↑o->((a.push { cls:=.type "traceback",dict:=none,data:=.fields f}).update e (Obj.mapFields (·.setIfInBounds 1 (gF a.objs.size)))).get? b=↑o:=λb o z q =>
      (gZ _ _<|Ne.symm z).trans (ce _ q)
    have G:∀b o,s.heap.get? b=↑o->(∀vs,o.data≠.fields vs)->b≠e:=λb o q z y=>by rw[y,n]at q;cases q;exact z _ g
    refine#[λb o q=>v b o (λz=>by rw[z,r]at q;cases q)<|C b o q,k.of_keeps λb o q z=>?_,?_,λb o q z=>?_]
    · obtain⟨H, y⟩ := l.2.2 b o q
      exact#[_,v b _ (G b o q z) y,rfl]
    · exact#[_, _, a.objs.size, _, _, T, #[Obj.cls_mapFields _ _, by rw[Array.getElem?_setIfInBounds_ne q0q]; exact J], F, by simp[i], C.fresh, D, U, rfl, S]
    · obtain⟨H, y⟩ := l.2.2 b o q
      exact#[H,v b _ (G b o q z) y]
  · exact#[_, ie _ u<|Obj.isFreed_of_fields<|Obj.data_mapFields g _, SK _ _]
def SM(c:A.frames=↑(env::outer))(l:s.heap.FunFrames base (env::outer))(g:env.frame=↑L)(i:s.heap.get? e=↑oe)(f:base.StaysIn s.heap)(b:base.get? e=none)(j:oe.data=.fields vs)(k:vs[1]?=some .none)(m:vs[0]?=↑a0)
 (h:∀a,Heap.HeldW base (env::outer) e oe.cls a0 L a->s.heap.UpToSlots a->DK e oe.dict a->Q () { s with heap:=a}):gu M A (tq (.ref e) env) Q E s:=by
  unfold tq
  simp only[g]
  refine am<|iC i j k ?_
  rw[gc q0q]
  exact Vd c l g i f b j (Array.getElem?_eq_some_iff.mp k).1 m λa n=>e0a4 n λo p q r y=>h a #[o,b,p,q] r y
def SN(h:A.frames=↑(env::outer))(p:env.frame=↑L)(i:kS base (env::outer) e cls a0 s.heap)(x:DK e d s.heap)
 (B:∀f,Heap.HeldW base (env::outer) e cls a0 L f->s.heap.UpToSlots f->DK e d f->Q () { s with heap:=f}):gu M A (tq (.ref e) env) Q E s:=by
  obtain⟨j,g,C,oe,vs,T,N,O,k,⟨rfl,D⟩,r,t,l,m,n,c,u⟩:=i
  obtain⟨P,v,rfl⟩:=x
  rw[k]at v;cases v
  unfold tq
  simp only[p]
  refine am<|iC k r t ?_
  rw[ga<|show (gF T != Value.none)=true from by simp]
  refine am<|iC n c u ?_
  rw[gc<|show ¬((Value.none==kO L)=true) from by simp[kO]]
  refine am<|mj n c (Array.getElem?_eq_some_iff.mp u).1 ?_
  have a:∀b,b≠T->(s.heap.update T (Obj.mapFields (·.setIfInBounds 3 Value.none))).get? b=s.heap.get? b:=λb z=>gZ _ _<|Ne.symm z
  have w:∀b o,s.heap.get? b=↑o->(∀vs,o.data≠.fields vs)->b≠T:=λb o q z y=>by rw[y,n]at q;cases q;exact z _ c
  refine Vd h (C.of_keeps λb o q z=>#[o,(a b<|w b o q z).trans q,rfl]) p ((a e<|Ne.symm m).trans k) (λb o q=>(a b λz=>by rw[z,l]at q;cases q).trans<|j b o q) g r (Array.getElem?_eq_some_iff.mp t).1 D
    λf F=>e0a4 F λG H I J y=>B f #[G,g,H,I] (λb o q z=>J b o ((a b<|w b o q z).trans q) z) y
def YE(n:base.StaysIn s.heap)(p:base.get? e=none)(C:s.heap.FunFrames base l)(D:s.heap.TracedAtW base e cls a0 H)(F:DK e d s.heap)
 (h:∀m,kS base l e cls a0 m->s.heap.UpToSlots m->DK e d m->Q () { s with heap:=m}):gu M A (setFlight (.ref e) none) Q E s:=by
  obtain⟨oe,vs,T,I,J,r,g,u,v,i,j,t,a,G⟩:=D
  obtain⟨N,w,rfl⟩:=F
  rw[r]at w;cases w
  have k:=(Array.getElem?_eq_some_iff.mp G).1
  have c:∀b,b≠T->(s.heap.update T (Obj.mapFields (·.setIfInBounds 3 ((none:Option cr).elim Value.none λf=>kO f)))).get? b=s.heap.get? b:=λb z=>gZ _ _<|Ne.symm z
  have x:∀b o,s.heap.get? b=↑o->(∀vs,o.data≠.fields vs)->b≠T:=λb o q z y=>by rw[y,t]at q;cases q;exact z _ a
  have B:=(c e<|Ne.symm j).trans r
  refine am<|iC r u v ?_
  rw[ga<|show (gF T != Value.none)=true from by simp]
  refine mj t a k<|h _ ⟨λb o q=>(c b λz=>by rw[z,i]at q;cases q).trans<|n b o q,p,C.of_keeps λb o q z=>#[o,(c b<|x b o q z).trans q,rfl],?_⟩ (λb o q z=>#[o.slots,(c b<|x b o q z).trans q]) #[_,B,rfl]
  exact#[oe,vs,T,_,_,B,g,u,v,i,j,ie _ t<|Obj.isFreed_of_fields<|Obj.data_mapFields a _,Obj.data_mapFields a _,by simp[k]]
def Am(b:A.frames=↑(env::outer))(k:s.heap.FunFrames base (env::outer))(l:env.frame=↑L)(m:s.heap.get? e=↑oe)(c:base.StaysIn s.heap)(f:base.get? e=none)(n:oe.data=.fields vs)(o:vs[1]?=some .none)(p:vs[0]?=↑a0)
 (h:∀a,kS base outer e oe.cls a0 a->s.heap.UpToSlots a->DK e oe.dict a->Q () { s with heap:=a}):gu M A (tK env<|.ref e) Q E s:=by
  refine am<|SM b k l m c f n o p λq g=>e0a4 g λr t u v w x=>YE (s:={ s with heap:=q}) r t u v x λy g=>e0a4 g λz B ⟨_,_,C⟩ D i j=>?_
  exact h y #[z,B,C,D] (w.trans i) j
def OR(b:A.frames=↑(env::outer))(j:env.frame=↑L)(c:kS base (env::outer) e cls a0 s.heap)(k:DK e d s.heap)
 (l:∀a,kS base outer e cls a0 a->s.heap.UpToSlots a->DK e d a->Q () { s with heap:=a}):gu M A (tK env<|.ref e) Q E s:=by
  refine am<|SN b j c k λm f=>e0a4 f λn o p q r g=>YE (s:={ s with heap:=m}) n o p q g λt f=>e0a4 f λu v ⟨_,_,w⟩ x h i=>?_
  exact l t #[u,v,w,x] (r.trans h) i
end
class GX where
 g:cr->Option cr->Hp->Prop
variable[GX]
structure Dj(P:gV)(w:ii)(outer:List Env)(H:Hp)(s:gn)(H':Hp)(C x:cr)(s':gn):Prop where
 os:s'.os=s.os
 bare:mE s'.gens
 un:Un (yz outer) [] H H' s.heap s'.heap
 uV:w4 P w H' s'.heap
 dct:∃d,DK x d s'.heap/\GX.g C d H'
 fly:∃(B:hX)(a0:ci),kS B outer x (.ref C) a0 s'.heap/\∀b o,s'.heap.get? b=↑o->(H' b≠none\/∃o0,s.heap.get? b=↑o0)->b∉yz outer->B.get? b=↑o
def uW(P:gV)(w:ii):Oa:=λa H s E e c=>∃(C x:cr)(b:Hp),e=.ref x/\Dj P w a H s b C x c/\E (.ref C) ↑x b
def zR(x:w4 P w H h)(e:H a=↑o):∃u,h.get? a=↑u:=by
 have d:∀o:HO,vq P w H h a o->∃u,h.get? a=↑u:=by
  intro o q
  cases o with
  |lst i=>obtain⟨_,_,_,_,z⟩:=q;exact#[_,z]
  |tup i=>obtain⟨_,_,_,c,z,_⟩:=q;exact#[_,z]
  |dK g=>obtain⟨_,_,_,_,c,_,_,z,_⟩:=q;exact#[_,z]
  |dT g=>obtain⟨_,_,_,_,c,_,_,z,_⟩:=q;exact#[_,z]
  |set S n=>obtain⟨c,_,_,_,z,_⟩:=q;exact#[_,z]
  |ins C j fs=>obtain⟨_,_,_,z,_⟩:=q;exact#[_,z]
  |own b=>exact q
  |xd fs=>obtain⟨k,⟨c,_,_,z,_⟩,_⟩:=q;exact#[_,z]
  |xS lo l=>obtain⟨_,_,_,z⟩:=q;exact#[_,z]
  |IQ c u=>exact#[_,q.1]
  |Ej m=>exact#[_,q]
  |met f y=>exact#[_,q]
  |ext p=>exact q.2.1
 exact d o<|x a o e
section
variable{P:gV}{w:ii}{l:List Env}{H H':Hp}{s s2:gn}{B h':hX}
def OS(u:Un (yz l) [] H H' s.heap s2.heap)(m:w4 P w H' s2.heap)(g:∀b o,s2.heap.get? b=↑o->(H' b≠none\/∃D,s.heap.get? b=↑D)->b∉yz l->B.get? b=↑o)
 (i:∀b∈yz l,H' b=none/\∃o,s2.heap.get? b=↑o/\∀E,o.data≠.fields E)(p:B.StaysIn h')(F:s2.heap.UpToSlots h'):Un (yz l) [] H H' s.heap h'/\w4 P w H' h':=by
  have d:∀b o,s2.heap.get? b=↑o->b∈yz l->∃r,h'.get? b=some { o with slots:=r}:=λb o e G=>by
    obtain⟨_,t,C,n⟩:=i b G
    rw[e]at C
    cases C
    exact F b o e n
  refine#[#[λb o e n f h=>?_,λb o e n f h=>?_,λb o e n h=>u.free b o e n h,λb o e h=>?_,u.AI,u.As,u.Au],λa o e=>?_]
  · exact p b o<|g b o (u.keep b o e n f h) (.inr #[o, e]) f
  · obtain⟨r, k⟩ := u.slot b o e n f h
    obtain⟨x,y⟩:=d b _ k f
    exact#[x,y]
  · obtain⟨t, k⟩ := u.there b o e h
    by_cases f:b∈yz l
    · obtain⟨r, y⟩ := d b _ k f
      exact#[_,y]
    · exact#[_, p b t<|g b t k (.inr #[o, e]) f]
  · have I : ∀c, H' c ≠ none -> c ∉ yz l := λc A f => A (i c f).1
    refine(m a o e).Co (λc v A q=>?_) (λ_ q=>q) λ_ _ q=>q
    have j:H' c≠none:=by
      rcases A with z|z
      · rw[z, e]; simp
      · rw[z]; simp
    exact p c v<|g c v q (.inl j)<|I c j
end
section
variable{X:Cx}{pins:List (cr×Obj)}{σ:St}{H1 H':Hp}{s1 s2:gn}{C x:cr}{B h':hX}{a0:ci}
def w9(I:Inv X pins σ H1 s1)(a:X.stack=X.env::X.outer):X.env.frame=↑X.env.locals:=by
 rcases I.ok.Br with z|z
 ·rw[a]at z;have:=congrArg ng z;simp at this
 ·exact z.2
def M3(I:Inv X pins σ H1 s1)(a:X.stack=X.env::X.outer):yz X.stack=X.env.locals::yz X.outer:=by rw[a];unfold yz;rw[jW,w9 I a]
def JB(I:Inv X pins σ H1 s1)(D:X.stack=X.env::X.outer)(hex:X.ex=[])(os:s2.os=s1.os)(m:mE s2.gens)(u:Un (yz X.stack) [] H1 H' s1.heap s2.heap)(p:w4 X.prog X.w H' s2.heap)
 (r:∀b o,s2.heap.get? b=↑o->(H' b≠none\/∃k,s1.heap.get? b=↑k)->b∉yz X.stack->B.get? b=↑o) (YF:∀b∈yz X.stack,H' b=none/\∃o,s2.heap.get? b=↑o/\∀R,o.data≠.fields R)
 (up:s2.heap.UpToSlots h')(E:kS B X.outer x (.ref C) a0 h')(F:∃d,DK x d h'/\GX.g C d H'):Dj X.prog X.w X.outer X.H₀ X.s₀ H' C x { s2 with heap:=h'}:=by
  obtain⟨i,s⟩:=OS u p r YF E.1 up
  have t:=M3 I D
  have base:Un (yz X.outer) [] X.H₀ H1 X.s₀.heap s1.heap:=by have:=I.base;rw[hex]at this;exact this
  have L:∀b:cr,b∉([]:List cr):=λb z=>by cases z
  have old:∀b o,X.s₀.heap.get? b=↑o->b≠X.env.locals:=λb o e z=>by
    have S:=gp e
    have M:=I.ok.above
    rw[<- z]at M
    exact gA (gG S M)<|jm _
  have y:∀b o,X.s₀.heap.get? b=↑o->b∉yz X.outer->b∉yz X.stack:=λb o e n z=>by
    rw[t]at z
    rcases List.mem_cons.mp z with q|q
    · exact old b o e q
    · exact n q
  refine#[os.trans I.os,m,#[λb o e n j a=>?_,λb o e n j a=>?_,λb o e n a=>?_,λb o e a=>?_,λb N e=>?_,λb o v e=>?_,λb T e=>?_],s,F,B,a0,E,λb o e A j=>?_]
  · exact i.keep b o (base.keep b o e n j a) (base.free b o e n a) (y b o e j) a
  · obtain⟨sl, c⟩ := base.slot b o e n j a
    obtain⟨G,f⟩:=i.slot b _ c (base.free b o e n a) (by rw[t];exact gl _ j) a
    exact#[G,f]
  · obtain⟨l, c⟩ := base.there b o e a
    exact i.free b l c (base.free b o e n a) a
  · obtain⟨l, c⟩ := base.there b o e a
    exact i.there b l c a
  · exact i.AI b N<|base.AI b N e
  · exact i.As b o v<|base.As b o v e
  · obtain⟨U, c⟩ := base.Au b T e
    obtain⟨W,f⟩:=i.Au b _ c
    exact#[U++W,by rw[f,pf]]
  · have fin : ∀h, s2.heap.get? b = some h -> (H' b ≠ none \/ ∃k, s1.heap.get? b = some k) -> b ∉ yz X.stack -> B.get? b = some o := λh f H J => by
      have q:=r b h f H J
      have O:=E.1 b h q
      have Y:h'.get? b=↑o:=e
      rw[Y]at O
      cases O
      exact q
    rcases A with A|⟨k,P⟩
    · obtain⟨Q, Z⟩ : ∃Q, H' b = some Q := by
        cases z:H' b with
        |none=>exact gA z A
        |some v=>exact#[v,rfl]
      obtain⟨h,f⟩:=zR p Z
      exact fin h f (.inl A) λz=>A (YF b z).1
    · obtain⟨l, c⟩ := base.there b k P (L b)
      obtain⟨h,f⟩:=u.there b l c<|L b
      exact fin h f (.inr #[l,c])<|y b k P j
def Dj.YF(F:Dj P w l H s H' C x s2)(c:∀b∈yz l,H b=none/\∃o,s.heap.get? b=↑o):∀b∈yz l,H' b=none/\∃o,s2.heap.get? b=↑o/\∀d,o.data≠.fields d:=λb a=>by refine e2a2 F.fly λB a0 f _=>?_;obtain⟨n,o,e⟩:=c b a;exact#[F.un.free b o e n q0o,(f.2.2.1.mem a).2]
def Inv.ZV(I:Inv X pins σ H1 s1):∀b∈yz X.stack,H1 b=none/\∃o,s1.heap.get? b=↑o:=λb a=>by have c:=I.HC;exact#[c.IL b a,e1a2 ((c.xI.mem a).2) λo e _=> #[o,e]]
def OT(I:Inv X pins σ H1 s1)(a:X.stack=X.env::X.outer)(b:X.ex=[])(F:Dj X.prog X.w X.stack H1 s1 H' C x s2) :
  gu (gv X.prog X.w) X.A (tK X.env<|.ref x) (λ_ c=>Dj X.prog X.w X.outer X.H₀ X.s₀ H' C x c) E s2:=by
 have i:=F.YF I.ZV;refine e2a2 F.fly λB a0 h e=>?_;rw[a]at h;refine e1a2 F.dct λd j k=>?_;refine OR (by rw[I.ok.frames,a]) (w9 I a) h j λh' f l g=>?_;exact JB I a b F.os F.bare F.un F.uV e i l f #[d,g,k]
end
section
variable{P:gV}{w:ii}{K:f9}{mg:Str->Option ci}{base:hX}{N:List Str}{qual:Str}{scope:k9}{f:cr}{cd:ci}{A:iW}{outer:List Env}{s:gn}{H:Hp}{E:XK}
def Dk:Passes (uW P w) (ve (uW P w) P w K mg base N qual scope f cd A outer s H E) E:=by intro a i j k e l I h;obtain⟨C,x,b,rfl,F,c⟩:=h;exact iw (OT I rfl rfl F) (λ_ d g=>#[C,x,b,rfl,g,c]) λ_ _ z=>z
def yf:qO (gv P w) (ve (uW P w) P w K mg base N qual scope f cd A outer s H E).A (ve (uW P w) P w K mg base N qual scope f cd A outer s H E).env (ve (uW P w) P w K mg base N qual scope f cd A outer s H E).xe:=PassesOwn.leaving
end
variable[L2.GX]
set_option tactic.hygienic true in
def SO{K:f9}(Z:K.In h)(y:iL K C d b=true) :
  ∃j N t q u c v e w f x z A B E F k,h.get? C=↑(i9 t q C N u j c v e w f x z A B E F b)/\h.Ns N k/\k "__init__"=none/\rP h d j:=by
 unfold iL at y;split at y
 ·rename_i G H l a
  split at y
  ·rename_i D I m n o p g r J L
   simp only[hJ,beq_iff_eq,tS]at y;obtain⟨⟨⟨⟨⟨M,O⟩,P⟩,Q⟩,s⟩,R⟩:=y;subst M;subst O;obtain⟨S,T,u3,U,X,Y,u7,u8,u9,i,aa⟩:=H;subst J;subst P
   have e3:l=#v[m,n,o,p,some<|.builtin g,r]:=by obtain⟨li⟩:=l;exact congrArg Array.mk L
   rw[e3]at a;exact#[I,U,S,X,T,Y,u7,u8,u9,i,G,m,n,o,p,r,_,Z _ _ a,.of_isNs<|o5 Z s,PySem.W.nsMap_none_of_in Z s R,su Z Q]
  ·cases y
 ·cases y
def OU(C:cr)(E:XK)(a:TA):TS:=λ_ b H=>a b H λc d=>c.length<=gk/\∀x:cr,E (.ref C) ↑x d
section
variable{P:gV}{w:ii}{K:f9}{mg:Str->Option ci}{base:hX}{N:List Str}{qual:Str}{scope:k9}{f:cr}{cd:ci}{A:iW}{outer:List Env}{s:gn}{H:Hp}{E:XK}
def Dl(hg:Gl (ve (uW P w) P w K mg base N qual scope f cd A outer s H E) x)(hm:mg x=↑(.ref C))(O:iL K C v i=true)
 (Y:jK B i n v) (g0:∀H',GX.g C none H') (ha:PA (ve (uW P w) P w K mg base N qual scope f cd A outer s H E) (y::p) ta) (F:(x==("__debug__":Str))=false:=by decide)
 (r:gf (y::p) (ve (uW P w) P w K mg base N qual scope f cd A outer s H E).env=(false,eval y (ve (uW P w) P w K mg base N qual scope f cd A outer s H E).env)::gf p (ve (uW P w) P w K mg base N qual scope f cd A outer s H E).env:=by rfl)
 (G:(iN d<|gf p (ve (uW P w) P w K mg base N qual scope f cd A outer s H E).env).any (·.1)=false:=by rfl) :
    PS (ve (uW P w) P w K mg base N qual scope f cd A outer s H E) (.Raise (some<|.Call (.Name x np) (y::p) [] d) none pos) (OU C E ta):=by
  intro k s1 σ H1 D I h
  obtain⟨bm,N',nm,q,bs,l,sn,J,ab,L,dd,k0,k1,k2,k3,k5,mN,hC,hN,M,T⟩:=SO I.mod.AH O
  have Z:=ha d k s1 σ H1 _ I h
  refine wpAny_Raise_call_subT (prog:=P) (w:=w) (C:=C) (nm:=nm) (q:=q) (N:=N') (bs:=bs) (bm:=bm) (hdct:=l) (sn:=sn) (sub:=J) (ab:=ab) (col:=L) (dd:=dd) (k0:=k0) (k1:=k1) (k2:=k2) (k3:=k3) (k5:=k5)
    Y (mN:=mN) (T.hasType Y.hasBase) (I.ok.hd rfl) (by rw[r];exact(Bool.false_or _).trans G) M (yE I hg hm #[rfl,?_] F)
  rw[r]at Z ⊢
  refine iZ<|iw Z (λus u q2=>?_) λ_ _ z=>z
  refine e2a4 q2 λvs H2 c r2 hl hE=>?_
  refine#[rfl,by show us.length<=gk;rw[<- r2.length];exact hl,c.bk _ _ hC,hN.keeps c.bk,T.keeps c.bk,λh' e a=>?_]
  have m:(ve (uW P w) P w K mg base N qual scope f cd A outer s H E).stack=(ve (uW P w) P w K mg base N qual scope f cd A outer s H E).env::(ve (uW P w) P w K mg base N qual scope f cd A outer s H E).outer:=rfl
  have fu:=c.HC.xI
  refine e1a3 a.there λt R _ _=>?_
  have S:(kY u.heap<|yz (ve (uW P w) P w K mg base N qual scope f cd A outer s H E).stack).get? e=none:=by
    cases q:(kY u.heap<|yz (ve (uW P w) P w K mg base N qual scope f cd A outer s H E).stack).get? e with
    |none=>rfl
    |some o=>have z:=mz _ q;rw[a.new]at z;cases z
  refine iw (Am (base:=kY u.heap (yz (ve (uW P w) P w K mg base N qual scope f cd A outer s H E).stack)) (a0:=.ref t) c.ok.frames
    ((qR fu λU r b j=>List.mem_filterMap.mpr #[U,r,j]).of_keeps λb o j _=>#[o,a.keeps b o j,rfl]) (w9 c m) R (λb o z=>a.keeps b o (mz _ z)) S rfl rfl rfl (Q:=λ_ X=>uW P w outer H s E (.ref e) X) λaa fl up dk=>?_) (λ_ _ z=>z) λ_ _ z=>z
  refine#[C,e,H2,rfl,?_,hE e]
  refine JB (s2:=u) c m rfl rfl c.bare Un.refl c.uV (λb o z _ nf=>oA _ z nf) (λb j=>?_) ((pH a.keeps).trans up) fl #[_,dk,g0 _]
  exact#[(c.ZV b j).1,(fu.mem j).2]
end
noncomputable abbrev hand(X:Cx)(x:cr):Cx:={ X with A:=X.A.mark<|some<|.ref x,calm:=false,xe:=λ_ _=>False}
def Inv.a0W(I:Inv { X with pn:=X.pn++a} b c H s):Inv X a c H s :=
 #[#[I.ok.mod,I.ok.kind,I.ok.glob,I.ok.blt,I.ok.above,I.ok.inj,I.ok.has,I.ok.NM,I.ok.hd,I.ok.frames,I.ok.Br,I.ok.RP,I.ok.bs,I.ok.Hr,I.ok.Cp,I.ok.CW,I.ok.xI,I.ok.IL],I.os,I.bare,I.base,I.loc,I.cell,I.free,I.xo,λp d=>I.pin p<|iq _ d,I.uV,I.len]
def Inv.OV(I:Inv X a b H s):Inv (hand X x) a b H s :=
 #[#[I.ok.mod,I.ok.kind,I.ok.glob,I.ok.blt,I.ok.above,I.ok.inj,I.ok.has,I.ok.NM,(λz=>by cases z),I.ok.frames,I.ok.Br,I.ok.RP,I.ok.bs,I.ok.Hr,I.ok.Cp,I.ok.CW,I.ok.xI,I.ok.IL],I.os,I.bare,I.base,I.loc,I.cell,I.free,I.xo,I.pin,I.uV,I.len]
def Inv.FR(b:X.calm=true->X.A.handled=none)(I:Inv (hand X x) a c H s):Inv X a c H s :=
 #[#[I.ok.mod,I.ok.kind,I.ok.glob,I.ok.blt,I.ok.above,I.ok.inj,I.ok.has,I.ok.NM,b,I.ok.frames,I.ok.Br,I.ok.RP,I.ok.bs,I.ok.Hr,I.ok.Cp,I.ok.CW,I.ok.xI,I.ok.IL],I.os,I.bare,I.base,I.loc,I.cell,I.free,I.xo,I.pin,I.uV,I.len]
end L2
namespace SX
open PySem PyProof.Rows
def HV:mB (.type "dict") "__len__"=pure (some<|.builtin "dict.__len__"):=by rw[mZ,kQ];kernel_rfl
section
variable{prog:gV}{w:ii}{K:Type}[DecidableEq K]{knd:KeyKind prog w K}{A:iW}{E:ci->gn->Prop}{s:gn}{a:cr}{ks:List Int}{wA:List (K×ci)}{ep:Nat}
def M4(hh:A.handled=none)(G:(a==j7)=false)(D:s.heap.DictAt knd a wA ep)(hl:wA.length<=gk)(S:wA.length=ks.length)
 (hk:∀(i:Nat)(k:K)(x:ci)(v:ci),wA[i]?=↑(k,x)->knd.is k v=true->∃j u,ks[i]?=↑j/\v=.int j u)
 (h:∀T tk vs,kg vs ks->(∀c o,s.heap.get? c=↑o->T.get? c=↑o)->⇑s<=T.objs.size->Q vs { s with heap:=T,toks:=tk}):gu (gv prog w) A (collect<|.ref a) Q E s:=by
  have f:a<⇑s:=D.lt_size
  obtain⟨o0,aj,H,l,ak,al⟩:=id D
  refine am<|si<|ji td ?_
  rw[iY tj _]
  refine am (m:=newList [])<|hR<|ap #[j9 nN _,ji F.entry_list_iadd ?_]
  rw[iY nN _]
  have z:∀c o,s.heap.get? c=↑o->(s.heap.push { cls:=.type "list",data:=.seq ([]:List ci).toArray}).get? c=↑o:=λc o q=>ce _ q
  have oL:(s.heap.push { cls:=.type "list",data:=.seq ([]:List ci).toArray}).get? ⇑s=some { cls:=.type "list",data:=.seq ([]:List ci).toArray}:=gx _ rfl
  have g:(s.heap.push { cls:=.type "list",data:=.seq ([]:List ci).toArray}).objs.size=⇑s+1:=i4 _ _
  generalize s.heap.push { cls:=.type "list",data:=.seq ([]:List ci).toArray}=d at z oL g ⊢
  have D1:d.DictAt knd a wA ep:=D.at' λo q=>z a o q
  show gu _ A.in1 (pr (.ref ⇑s) (.ref a)<|.ref ⇑s) _ _ { s with heap:=d}
  have hT:k8 { s with heap:=d} (.ref a) "dict":=#[_,z a _ H,l.1]
  refine am<|j0 hT ?_
  have n1:kI (.ref ⇑s) (.ref a)=false:=by simp[kI,iK f]
  have n2:(jw "dict" == jw "list")=false:=by decide
  have n3:(jw "dict" == jw "tuple")=false:=by decide
  simp only[n1,n2,n3,rf,kh,oF]
  refine am<|wpAny_pyIter_dict (s:={ s with heap:=d}) G D1 ?_
  have I:∀c o,d.get? c=↑o->(d.push { cls:=.type "dict_keyiterator",data:=.fields #v[.ref a,.int 0 0,.int wA.length 0,.int ep 0]}).get? c=↑o:=λc o q=>ce _ q
  have i2:(d.push { cls:=.type "dict_keyiterator",data:=.fields #v[.ref a,.int 0 0,.int wA.length 0,.int ep 0]}).get? d.objs.size=some { cls:=.type "dict_keyiterator",data:=.fields #v[.ref a,.int 0 0,.int wA.length 0,.int ep 0]}:=gx _ rfl
  generalize d.push { cls:=.type "dict_keyiterator",data:=.fields #v[.ref a,.int 0 0,.int wA.length 0,.int ep 0]}=U at I i2 ⊢
  have p:k8 { s with heap:=U} (.ref a) "dict":=#[_,I a _<|z a _ H,l.1]
  refine am<|gY ?_
  refine am<|o6 p HV ?_
  generalize J:("dict.__len__":String)=X
  dsimp only
  rw[show splitId X=some ("dict","__len__") from by subst J;decide +kernel]
  subst J
  refine am<|lv (b:=true) p F.sub_dict_dict ?_
  rw[gc q0o]
  rw[ga q0s]
  refine am<|j0 p<|ap ?_
  have Y:A.in1.handled=none:=by simp[hh]
  have ne:a≠d.objs.size:=gB<|mJ f (by rw[g];exact iV _)
  have W:=(Walks.dictKeys (knd:=knd) (A:=A.in1) Y d.objs.size a ne wA ep).toS
  have Z:⇑s∉[d.objs.size,a]:=by
    simp only[gO,iv,lj,oY]
    exact#[by rw[g];exact gB<|iV _,iK f]
  have t:=I _ _ oL
  -- the ai,B an L aa of it
  have M:∀(C:hX)(N:Nat),C.get? ⇑s=some { cls:=.type "list",data:=.seq ([]:List ci).toArray N}->(∀c o,c≠⇑s->U.get? c=↑o->C.get? c=↑o) ->
      lM (gv prog w) A (.builtin "list.extend.loop" #[[.ref ⇑s,.ref d.objs.size,.ref ⇑s],[]]) (λr s'=>match r with
        | .ok (.ret v)=>gu (gv prog w) A (match v with
          | .ref a=>do
            let o <- load a
            match o.data with
              | .seq xs ab=>pure xs.toList
              |x=>kA "internal:collect"
          |x=>kA "internal:collect") Q E s'
        | .ok _=>False
        | .error e=>E e s') { s with heap:=C}:=by
    intro C N y k4
    have I4:C.IsKeyIter d.objs.size a 0 wA.length ep/\C.DictAt knd a wA ep:=#[#[_,k4 _ _ (by rw[g];exact iK<|iV _) i2,rfl,rfl],D1.at' λo q=>k4 _ _ (gB f)<|I _ _ q]
    refine codeAny_extend_loopS W hl _ Z _ wA.length 0 _ _ _ rfl (iu _) I4 y (ItemsOf.nil _) λs5 ae c5 R O n=>?_
    refine am<|qd O<|ap ?_
    obtain⟨h5,g5,d5,af,ag⟩:=s5
    have eg:g5=s.gens:=R.gens
    have ed:d5=s.drawn:=R.drawn
    have eo:ag=s.os:=R.os
    subst eg ed eo
    refine h h5 af ae.toList (zm ?_ λi v hv=>?_) (λc o q=>R.heap c o (by
      simp only[gO,iv,lj,oY]
      exact#[gB (gp q),gB (gp (z c o q))]) (k4 c o (gB (gp q)) (I c o (z c o q)))) (kT (gp O))
    · rw[gr, n.1, S]
    · obtain⟨k, x, hx, ah⟩ := n.2 i v (by rw[<- hI]; exact hv)
      exact hk i k x v hx ah
  first
    | (rw[gc q0s];exact ap ⟨j9 pG _,M U 0 t λ_ _ _ q=>q⟩)
    | (rw[ga q0s]
       refine am<|lh<|am ?_
       refine am<|o9 t rfl ?_
       have P:=ie (Obj.mapSeq (·.push Value.none)) t rfl
       refine o9 P rfl ?_
       have y:=ie (Obj.mapSeq (·.pop)) P rfl
       refine ap #[j9 pG _,M _ _ y λc o hc q=>(gZ _ _ (Ne.symm hc)).trans ((gZ _ _ (Ne.symm hc)).trans q)])
end
end SX
namespace L2
open PySem PySem.Spec PyProof.Rows SX
def SQ{k:Int}(h:zb (.inl k) v=true):∃u,v=.int k u:=by
 rcases vy h with⟨i,t,e,rfl⟩|⟨x,t,e,_⟩
 ·cases e;exact#[t,rfl]
 ·cases e
def Ws:∀{b:List (Key×V)} {c:List (Key×ci)} (_:KV b c) (i:Nat) {k:Key} {x:ci},c[i]?=↑(k,x)->∃y,b[i]?=↑(k,y):=by
 intro _ _ z
 induction z with
 |nil=>intro i _ _ h;cases h
 |cons a t d =>
  intro i k x h
  cases i with
  |zero=>cases h;exact#[_,congrArg some<|Prod.ext a.1 rfl]
  |succ i=>exact e1a1 (d i<|by simpa using h) λy q=>#[y,by simpa using q]
def FS(J:X.calm=true):xU X (.builtin "sorted") (λC H Q=>∃(a:cr) (b:List (Key×V)) (c:List Int),C=[.ref a]/\H a=↑(.dK b)/\b.map (·.1)=c.map gP/\c.length<64/\∀(p:cr)(t:List Int),H p=none->t.Perm c->t.Pairwise (·<=·)->Q (.ref p) (upd H p<|.lst<|t.map V.int)):=by
 intro E s σ H C us Q I r h;obtain⟨a,b,c,rfl,L,f,g,q⟩:=h;obtain⟨u,rfl,M⟩:=vals1 r;cases M;obtain⟨hz,l,F,G,N⟩:=I.uV a _ L;obtain⟨o,O,P,R,z,m,d⟩:=N;have D:s.heap.DictAt (uL X.prog X.w) a F P:=#[o,O,R,z,m,d];have S:b.length=F.length:=Paired.length G;have T:b.length=c.length:=by have:=congrArg ng f;simpa using this
 refine BH (λQ' k=>M4 (by simp[I.ok.hd J]) l D q0a q0a (λi U x v W A=>?_) λY Z B hi k1 sz=>k Y Z B c hi (.refl _) k1 sz) g<|AB I g q;obtain⟨y,hy⟩:=Ws G i W;have n:(b.map (·.1))[i]?=↑U:=by rw[ja,hy];rfl
 rw[f,ja]at n
 cases e:c[i]? with
 |none=>rw[e]at n;cases n
 |some j =>
  rw[e]at n;cases n;obtain⟨u,hu⟩:=SQ A;exact#[j,u,rfl,hu]
end L2
namespace WL
open PySem L2
abbrev Wf(A τ PO:Type):=A->(τ->PO->Prop)->(cr->PO->Prop)->Prop
abbrev Rg:=cr->Prop
structure Ext(G R:Rg)(H:Hp)(R':Rg)(H':Hp):Prop where
 keep:∀b o,¬G b->H b=↑o->H' b=↑o
 new:∀a,R' a->R a\/H a=none
def Ext.wide(e:Ext G R H c d)(s:∀a,G a->R a):Ext R R H c d:=#[λb o n h=>e.keep b o (λg=>n<|s b g) h,e.new]
def Ext.not(e:Ext G R H b c)(n:¬R a)(h:H a=↑o):¬b a:=λz=>by
 rcases e.new a z with q|q
 ·exact n q
 ·rw[h]at q;cases q
class Rep(α:Type) where
 rp:Rg->Hp->α->V->Prop
 st:∀{R:Rg} {H:Hp} {R':Rg} {H':Hp} {x:α} {v:V},rp R H x v->Ext R R H R' H'->rp R' H' x v
open Rep (rp)
instance:Rep Int:=#[λ_ _ i v=>v=.int i,λh _=>h]
instance:Rep Bool:=#[λ_ _ i v=>v=.bl i,λh _=>h]
instance:Rep Unit:=#[λ_ _ _ v=>v=.vT,λh _=>h]
instance{α:Type}[Rep α]:Rep (Option α):=#[λR H x v=>match x with|none=>v=.vT|some y=>v≠.vT/\rp R H y v,λ{R H R' H' x v} h e=>by
 cases x with
 |none=>exact h
 |some y=>exact#[h.1,Rep.st h.2 e]]
def vz{α:Type}[Rep α]{R R':Rg}{H H':Hp}(e:Ext R R H R' H'):∀{xs:List α} {vs:List V},Paired (rp R H) xs vs->Paired (rp R' H') xs vs:=by
 intro _ _ z
 induction z with
 |nil=>exact .nil
 |cons h t ih=>exact .cons (Rep.st h e) ih
instance{α:Type}[Rep α]:Rep (List α):=#[λR H xs v=>∃a vs,v=.ref a/\¬R a/\H a=↑(.lst vs)/\Paired (rp R H) xs vs,λ{R H R' H' x v} h e=>by
 refine e2a4 h λa vs h1 h2 h3 h4=>?_
 exact#[a,vs,h1,e.not h2 h3,e.keep a _ h2 h3,vz e h4]]
instance{α β:Type}[Rep α][Rep β]:Rep (α×β):=#[λR H x v=>∃a u w,v=.ref a/\¬R a/\H a=↑(.tup [u,w])/\rp R H x.1 u/\rp R H x.2 w,λ{R H R' H' x v} h e=>by
 obtain⟨a,u,w,h1,h2,h3,h4,h5⟩:=h
 exact#[a,u,w,h1,e.not h2 h3,e.keep a _ h2 h3,Rep.st h4 e,Rep.st h5 e]]
structure Tp(α:Type) where
 l:List α
instance{α:Type}[Rep α]:Rep (Tp α):=#[λR H xs v=>∃a vs,v=.ref a/\¬R a/\H a=↑(.tup vs)/\Paired (rp R H) xs.l vs,λ{R H R' H' x v} h e=>by
 refine e2a4 h λa vs h1 h2 h3 h4=>?_
 exact#[a,vs,h1,e.not h2 h3,e.keep a _ h2 h3,vz e h4]]
class Ow(τ:Type) where
 sl:Rg->Rg->Hp->τ->Option V->Prop
 st:∀{F G R:Rg} {H:Hp} {R':Rg} {H':Hp} {x:τ} {v:Option V},sl F R H x v->Ext G R H R' H'->(∀a,G a->R a)->(∀a,F a->¬G a)->sl F R' H' x v
 fq:∀{F F' R:Rg} {H:Hp} {x:τ} {v:Option V},sl F R H x v->(∀a,F a↔F' a)->sl F' R H x v
open Ow (sl)
structure Un where
instance:Ow Un:=#[λF _ _ _ _=>∀a,¬F a,λh _ _ _=>h,λh e a z=>h a ((e a).mpr z)]
noncomputable instance a1H{α:Type}[Rep α]:Ow α:=#[λF R H x v=>(∀a,¬F a)/\∃u,v=↑u/\rp R H x u,λh e s _=>#[h.1,e1a2 h.2 λu h1 h2=> #[u,h1,Rep.st h2<|e.wide s]],λh e=>#[λa z=>h.1 a<|(e a).mpr z,h.2]]
structure OL(α:Type) where
 l:List α
instance{α:Type}[Rep α]:Ow (OL α):=#[λF R H x v=>∃a vs,v=↑(.ref a)/\(∀b,F b↔b=a)/\H a=↑(.lst vs)/\Paired (rp R H) x.l vs,
 λh e s n=>by
  refine e2a4 h λa vs h1 h2 h3 h4=>?_
  exact#[a,vs,h1,h2,e.keep a _ (n a<|(h2 a).mpr rfl) h3,vz (e.wide s) h4],
 λh e=>by
  refine e2a4 h λa vs h1 h2 h3 h4=>?_
  exact#[a,vs,h1,λb=>(e b).symm.trans (h2 b),h3,h4]]
class Sls(D:Type) where
 rel:Rg->Rg->Hp->D->St->Prop
 st:∀{F G R:Rg} {H:Hp} {R':Rg} {H':Hp} {d:D} {σ:St},rel F R H d σ->Ext G R H R' H'->(∀a,G a->R a)->(∀a,F a->¬G a)->rel F R' H' d σ
 fq:∀{F F' R:Rg} {H:Hp} {d:D} {σ:St},rel F R H d σ->(∀a,F a↔F' a)->rel F' R H d σ
open Sls (rel)
instance:Sls Unit:=#[λF _ _ _ σ=>σ=[]/\∀a,¬F a,λh _ _ _=>h,λh e=>#[h.1,λa z=>h.2 a ((e a).mpr z)]]
structure Cv(F F1 F2:Rg):Prop where
 all:∀a,F a↔F1 a\/F2 a
 xt:∀a,F1 a->F2 a->False
instance{τ D:Type}[Ow τ][Sls D]:Sls (τ×D):=#[λF R H d σ=>∃v σ' F1 F2,σ=v::σ'/\Cv F F1 F2/\sl F1 R H d.1 v/\rel F2 R H d.2 σ',
 λh e s n=>by
  refine e4a4 h λv σ' F1 F2 h1 h2 h3 h4=>?_
  exact#[v,σ',F1,F2,h1,h2,Ow.st h3 e s<|λa z=>n a<|(h2.all a).mpr<|.inl z,Sls.st h4 e s<|λa z=>n a<|(h2.all a).mpr<|.inr z],
 λh e=>by
  refine e4a4 h λv σ' F1 F2 h1 h2 h3 h4=>?_
  exact#[v,σ',F1,F2,h1,#[λa=>(e a).symm.trans (h2.all a),h2.xt],h3,h4]]
class At(i:Nat)(B:Type)[Sls B](τ:outParam Type)[Ow τ](B':outParam Type)[Sls B'] where
 get:B->τ
 hole:B->B'
 take:∀{F R:Rg} {H:Hp} {b:B} {σ:St},rel F R H b σ->∃v F1 F2,σ[i]?=↑v/\Cv F F1 F2/\sl F1 R H (get b) v/\rel F2 R H (hole b) σ
class Pt(i:Nat)(B':Type)[Sls B'](τ:Type)[Ow τ](B:outParam Type)[Sls B] where
 put:B'->τ->B
 back:∀{F F1 F2 R:Rg} {H:Hp} {b:B'} {x:τ} {v:Option V} {σ:St},rel F2 R H b σ->Cv F F1 F2->sl F1 R H x v->rel F R H (put b x) (σ.set i v)
def set_same:∀{l:List b} {i:Nat} {v:b},l[i]?=↑v->l.set i v=l
 | [],_,_,h=>by simp at h
 |_::_,0,_,h=>by simp at h;subst h;rfl
 |a::r,i+1,v,h=>by show a::r.set i v=a::r;rw[set_same<|by simpa using h]
def Pt.same{i:Nat}{B' τ B:Type}[Sls B'][Ow τ][Sls B][A:Pt i B' τ B]{F F1 F2 R:Rg}{H:Hp}{b:B'}{x:τ}{v:Option V}{σ:St}(h:rel F2 R H b σ)(e:σ[i]?=↑v)(t:Cv F F1 F2)(s:sl F1 R H x v):rel F R H (A.put b x) σ:=by have:=A.back h t s;rw[set_same e]at this;exact this
noncomputable instance at0{τ D:Type}[Ow τ][Sls D]:At 0 (τ×D) τ (Un×D) where
 get b:=b.1
 hole b:=(#[],b.2)
 take:=λh=>by refine e4a4 h λv σ' F1 F2 h1 h2 h3 h4=>?_;exact#[v,F1,F2,by rw[h1];rfl,h2,h3,v,σ',λ_=>False,F2,h1,#[λa=>#[.inr,λz=>z.elim (λq=>q.elim) id],λ_ z _=>z],λ_ z=>z,h4]
noncomputable instance pt0{τ D:Type}[Ow τ][Sls D]:Pt 0 (Un×D) τ (τ×D) where
 put b x:=(x,b.2)
 back:=λ{F F1 F2 R H b x v σ} h t s=>by refine e4a4 h λv' σ' G1 G2 h1 h2 h3 h4=>?_;have e2:∀a,G2 a↔F2 a:=λa=>#[λz=>(h2.all a).mpr<|.inr z,λz=>((h2.all a).mp z).elim (λq=>gA q<|h3 a) id];exact#[_,σ',F1,F2,by rw[h1];rfl,t,s,Sls.fq h4 e2]
noncomputable instance atS{i:Nat}{ρ τ D D':Type}[Ow ρ][Ow τ][Sls D][Sls D'][A:At i D τ D']:At (i+1) (ρ×D) τ (ρ×D') where
 get b:=A.get b.2
 hole b:=(b.1,A.hole b.2)
 take:=λh=>by
  refine e4a4 h λv σ' F1 F2 h1 h2 h3 h4=>?_;refine e3a4 (A.take h4) λu G1 G2 k1 k2 k3 k4=>?_;refine#[u,G1,λa=>F1 a\/G2 a,by rw[h1];simpa using k1,#[λa=>?_,λa z q=>?_],k3,v,σ',F1,G2,h1,#[λa=>Iff.rfl,λa z q=>h2.xt a z<|(k2.all a).mpr<|.inr q],h3,k4]
  ·rw[h2.all,k2.all];exact#[λz=>z.elim (λq=>.inr<|.inl q) λz=>z.elim .inl λq=>.inr<|.inr q,λz=>z.elim (λq=>.inr<|.inl q) λz=>z.elim .inl λq=>.inr<|.inr q]
  ·rcases q with q|q
   ·exact h2.xt a q<|(k2.all a).mpr<|.inl z
   ·exact k2.xt a z q
noncomputable instance ptS{i:Nat}{ρ τ D D':Type}[Ow ρ][Ow τ][Sls D][Sls D'][A:Pt i D' τ D]:Pt (i+1) (ρ×D') τ (ρ×D) where
 put b x:=(b.1,A.put b.2 x)
 back:=λ{F F1 F2 R H b x v σ} h t s=>by
  refine e4a4 h λv' σ' G1 G2 h1 h2 h3 h4=>?_;have t':Cv (λa=>F1 a\/G2 a) F1 G2:=#[λa=>Iff.rfl,λa z q=>t.xt a z<|(h2.all a).mpr<|.inr q];refine⟨v',σ'.set i v,G1,λa=>F1 a\/G2 a,by rw[h1];rfl,#[λa=>?_,λa z q=>?_],h3,A.back h4 t' s⟩
  ·rw[t.all,h2.all];exact#[λz=>z.elim (λq=>.inr<|.inl q) λz=>z.elim .inl λq=>.inr<|.inr q,λz=>z.elim (λq=>.inr<|.inl q) λz=>z.elim .inl λq=>.inr<|.inr q]
  ·rcases q with q|q
   ·exact t.xt a q<|(h2.all a).mpr<|.inl z
   ·exact h2.xt a z q
class Fg(D:Type)[Sls D](D':Type)[Sls D'] where
 fg:D->D'
 le:∀{F R:Rg} {H:Hp} {d:D} {σ:St},rel F R H d σ->∃F',(∀a,F' a->F a)/\rel F' R H (fg d) σ
noncomputable instance fgId{D:Type}[Sls D]:Fg D D:=#[id,λh=>#[_,λ_ z=>z,h]]
def two_le{F d e b c:Rg}(t:Cv F d e)(f:∀a,b a->d a)(g:∀a,c a->e a):Cv (λa=>b a\/c a) b c:=#[λ_=>Iff.rfl,λa x y=>t.xt a (f a x)<|g a y]
instance(priority:=low) fgUn {τ D D':Type}[Ow τ][Sls D][Sls D'][A:Fg D D']:Fg (τ×D) (Un×D'):=#[λd=>(#[],A.fg d.2),λh=>by
 obtain⟨v,σ',F1,F2,h1,h2,h3,h4⟩:=h;obtain⟨F',k1,k2⟩:=A.le h4
 exact#[_,λa z=>(h2.all a).mpr (.inr (k1 a (z.elim (λq=>q.elim) id))),v,σ',λ_=>False,F',h1,#[λa=>Iff.rfl,λ_ z _=>z],λ_ z=>z,k2]]
noncomputable instance fgCons{τ D D':Type}[Ow τ][Sls D][Sls D'][A:Fg D D']:Fg (τ×D) (τ×D'):=#[λd=>(d.1,A.fg d.2),λh=>by
 refine e4a4 h λv σ' F1 F2 h1 h2 h3 h4=>?_;refine e1a2 (A.le h4) λF' k1 k2=>?_
 exact#[_,λa z=>(h2.all a).mpr (z.elim .inl λq=>.inr (k1 a q)),v,σ',F1,F',h1,two_le h2 (λ_ z=>z) k1,h3,k2]]
class Pj(D:Type)[Sls D](P:Type)[Sls P](n:outParam Nat) where
 pj:D->P
 le:∀{F R:Rg} {H:Hp} {d:D} {σ:St},rel F R H d σ->∃F',(∀a,F' a->F a)/\rel F' R H (pj d) (σ.take n)
noncomputable instance pjNil{D:Type}[Sls D]:Pj D Unit 0:=#[λ_=>(),λh=>#[λ_=>False,λ_ z=>z.elim,rfl,λ_ z=>z]]
instance(priority:=low) pjUn {τ D P:Type}{n:Nat}[Ow τ][Sls D][Sls P][A:Pj D P n]:Pj (τ×D) (Un×P) (n+1):=#[λd=>(#[],A.pj d.2),λh=>by
 obtain⟨v,σ',F1,F2,h1,h2,h3,h4⟩:=h;obtain⟨F',k1,k2⟩:=A.le h4
 exact#[_,λa z=>(h2.all a).mpr (.inr (k1 a (z.elim (λq=>q.elim) id))),v,σ'.take n,λ_=>False,F',by rw[h1];rfl,#[λa=>Iff.rfl,λ_ z _=>z],λ_ z=>z,k2]]
noncomputable instance pjCons{τ D P:Type}{n:Nat}[Ow τ][Sls D][Sls P][A:Pj D P n]:Pj (τ×D) (τ×P) (n+1):=#[λd=>(d.1,A.pj d.2),λh=>by
 refine e4a4 h λv σ' F1 F2 h1 h2 h3 h4=>?_;refine e1a2 (A.le h4) λF' k1 k2=>?_
 exact#[_,λa z=>(h2.all a).mpr (z.elim .inl λq=>.inr (k1 a q)),v,σ'.take n,F1,F',by rw[h1];rfl,two_le h2 (λ_ z=>z) k1,h3,k2]]
class Sel(is:List Nat)(D:Type)[Sls D](S:outParam Type)[Sls S](D0:outParam Type)[Sls D0] where
 sel:D->S
 rest:D->D0
 mrg:D0->S->D
 cut:∀{F R:Rg} {H:Hp} {d:D} {σ:St},rel F R H d σ->∃F1 F2,Cv F F1 F2/\rel F1 R H (sel d) (is.map λi=>σ[i]?.join)/\rel F2 R H (rest d) σ/\∀i∈is,i<σ.length
 join:∀{F F1 F2 R:Rg} {H:Hp} {d:D0} {s:S} {σ:St},Cv F F1 F2->rel F1 R H s (is.map λi=>σ[i]?.join)->rel F2 R H d σ->(∀i∈is,i<σ.length)->rel F R H (mrg d s) σ
noncomputable instance selNil{D:Type}[Sls D]:Sel [] D Unit D where
 sel _:=()
 rest d:=d
 mrg d _:=d
 cut:=λ{F R H d σ} h=>#[λ_=>False,F,#[λa=>#[.inr,λz=>z.elim (λq=>q.elim) id],λ_ z _=>z],#[rfl,λ_ z=>z],h,λ_ z=>by cases z]
 join:=λ{F F1 F2 R H d s σ} t h1 h2 _=>Sls.fq h2 λa=>#[λz=>(t.all a).mpr<|.inr z,λz=>((t.all a).mp z).elim (λq=>gA q<|h1.2 a) id]
noncomputable instance selCons{i:Nat}{is:List Nat}{D τ D1 S D0:Type}[Sls D][Ow τ][Sls D1][Sls S][Sls D0][A:At i D τ D1][P:Pt i D1 τ D][B:Sel is D1 S D0]:Sel (i::is) D (τ×S) D0 where
 sel d:=(A.get d,B.sel<|A.hole d)
 rest d:=B.rest<|A.hole d
 mrg d s:=P.put (B.mrg d s.2) s.1
 cut:=λ{F R H d σ} h=>by
  refine e3a4 (A.take h) λv F1 F2 h1 h2 h3 h4=>?_;refine e2a4 (B.cut h4) λG1 G2 k1 k2 k3 k4=>?_;have hv:σ[i]?.join=v:=by rw[h1];rfl
  refine#[λa=>F1 a\/G1 a,G2,#[λa=>?_,λa z q=>?_],#[v,_,F1,G1,by rw[gN,hv],#[λ_=>Iff.rfl,λa z q=>h2.xt a z<|(k1.all a).mpr<|.inl q],h3,k2],k3,λj hj=>?_]
  ·rw[h2.all,k1.all];exact#[λz=>z.elim (λq=>.inl<|.inl q) λz=>z.elim (λq=>.inl<|.inr q) .inr,λz=>z.elim (λz=>z.elim .inl λq=>.inr<|.inl q) λq=>.inr<|.inr q]
  ·rcases z with z|z
   ·exact h2.xt a z<|(k1.all a).mpr<|.inr q
   ·exact k1.xt a z q
  ·rcases List.mem_cons.mp hj with e|e
   ·rw[e];exact(List.getElem?_eq_some_iff.mp h1).1
   ·exact k4 j e
 join:=λ{F F1 F2 R H d s σ} t h1 h2 hl=>by
  refine e4a4 h1 λv σ' G1 G2 k1 k2 k3 k4=>?_;rw[gN]at k1;injection k1 with e1 e2;subst e2;have hi:i<σ.length:=hl i gh
  have ev:σ[i]?=↑v:=by rw[iU hi]at e1 ⊢;exact congrArg some e1
  have t2:Cv (λa=>G2 a\/F2 a) G2 F2:=#[λ_=>Iff.rfl,λa z q=>t.xt a ((k2.all a).mpr<|.inr z) q];refine Pt.same (B.join t2 k4 h2 λj hj=>hl j<|gl _ hj) ev ⟨λa=>?_,λa z q=>?_⟩ k3
  ·rw[t.all,k2.all];exact#[λz=>z.elim (λz=>z.elim .inl λq=>.inr<|.inl q) λq=>.inr<|.inr q,λz=>z.elim (λq=>.inl<|.inl q) λz=>z.elim (λq=>.inl<|.inr q) .inr]
  ·rcases q with q|q
   ·exact k2.xt a z q
   ·exact t.xt a ((k2.all a).mpr<|.inl z) q
structure vt(T:cr){D:Type}[Sls D](F R:Rg)(H:Hp)(d:D)(σ:St):Prop where
 rel:rel F R H d σ
 sub:∀a,F a->R a
 wy:∀a,R a->H a≠none
 tab:TabAt H T
 u4:R T
 uP:¬F T
def yu(t:TabAt H T):H T≠none:=by refine e1a2 t λa e _=>?_;rw[e];simp
structure Ch(T:cr)(F R:Rg)(H:Hp)(F' R':Rg)(H':Hp):Prop where
 keep:∀b o,¬F b->b≠T->H b=↑o->H' b=↑o
 zn:∀a,R' a->R a\/H a=none
 xB:∀a,F' a->F a\/H a=none
 left:∀a,R a->¬F a->R' a
def Ch.refl(T:cr)(F R:Rg)(H:Hp):Ch T F R H F R H:=#[λ_ _ _ _ h=>h,λ_ h=>.inl h,λ_ h=>.inl h,λ_ h _=>h]
def Ch.trans{T:cr}{D:Type}[Sls D]{d:D}{u:St}{F R k l m p:Rg}{H j r:Hp}(s:vt T F R H d u)(v:TabAt j T)(a:Ch T F R H k l j)(b:Ch T k l j m p r):Ch T F R H m p r:=by
 have g:∀c,¬F c->H c≠none->¬k c:=λc n h z=>by
  rcases a.xB c z with q|q
  ·exact n q
  ·exact h q
 have f:∀c,j c=none->¬(F c)->H c=none:=λc h n=>by
  cases e:H c with
  |none=>rfl
  |some o =>
   have w:c≠T:=λz=>by rw[z]at h;exact yu v h
   rw[a.keep c o n w e]at h;cases h
 refine#[λc o n t h=>b.keep c o (g c n<|by rw[h];simp) t<|a.keep c o n t h,λc h=>?_,λc h=>?_,λc h n=>b.left c (a.left c h n)<|g c n<|s.wy c h]
 ·rcases b.zn c h with q|q
  ·exact a.zn c q
  ·by_cases i:F c
   ·exact .inl<|s.sub c i
   ·exact .inr<|f c q i
 ·rcases b.xB c h with q|q
  ·exact a.xB c q
  ·by_cases i:F c
   ·exact .inl i
   ·exact .inr<|f c q i
def Ch.ext(c:Ch T F R H f d e):Ext (λa=>F a\/a=T) R H d e:=#[λb o n h=>c.keep b o (λz=>n<|.inl z) (λz=>n<|.inr z) h,c.zn]
def vt.val{T:cr}{D:Type}[Sls D]{d:D}{σ:St}{F R F' R':Rg}{H H':Hp}(s:vt T F R H d σ)(c:Ch T F R H F' R' H'){α:Type}[Rep α]{x:α}{v:V}(h:rp R H x v):rp R' H' x v :=
 Rep.st h (c.ext.wide λa z=>z.elim (s.sub a) λq=>by rw[q];exact s.u4)
def vt.new{T:cr}{D:Type}[Sls D]{d:D}{c:St}{F R:Rg}{H:Hp}(s:vt T F R H d c){p:cr}(o:HO)(f:H p=none):vt T F R (upd H p o) d c/\Ch T F R H F R (upd H p o)/\¬R p:=by
 have g:¬R p:=λz=>s.wy p z f;have k:∀b u,H b=↑u->upd H p o b=↑u:=λb u e=>by rw[uh<|uu e f];exact e
 refine#[#[Sls.st s.rel (G:=λ_=>False) #[λb u _ e=>k b u e,λa h=>.inl h] (λ_ z=>z.elim)<|λ_ _ z=>z,s.sub,λa z=>?_,?_,s.u4,s.uP],#[λb u _ _ e=>k b u e,λa h=>.inl h,λa h=>.inl h,λa h _=>h],g]
 ·cases e:H a with
  |none=>exact gA e<|s.wy a z
  |some u=>rw[k a u e];simp
 ·refine e1a2 s.tab λi e t=>?_;exact#[i,k _ _ e,t]
def EW(X:Cx)(E:XK)(T:cr)(e:hW){D α:Type}[Sls D][Rep α](w:Wf D α D):Prop :=
 ∃t,PE X e t/\∀(d:D)(F R:Rg)(σ:St)(H:Hp)(Kn:α->D->Prop)(Ke:cr->D->Prop)(Q:VK),vt T F R H d σ->w d Kn Ke ->
  (∀x d' v F' R' H',Kn x d'->Ch T F R H F' R' H'->vt T F' R' H' d' σ->rp R' H' x v->Q v H') ->
  (∀C y d' F' R' H',Ke C d'->Ch T F R H F' R' H'->vt T F' R' H' d' σ->E (.ref C) ↑y H')->t σ H Q
structure Nw(T:cr){τ:Type}[Ow τ](F1 F2 R:Rg)(H:Hp)(x:τ)(v:V):Prop where
 is:sl F1 R H x ↑v
 sub:∀a,F1 a->R a
 xt:∀a,F1 a->F2 a->False
 tab:¬F1 T
def EO(X:Cx)(E:XK)(T:cr)(e:hW){D h:Type}[Sls D][Ow h](w:Wf D h D):Prop :=
 ∃t,PE X e t/\∀(d:D)(F R:Rg)(g:St)(H:Hp)(j:h->D->Prop)(k:cr->D->Prop)(Q:VK),vt T F R H d g->w d j k ->
  (∀x f v l i c b,j x f->Ch T F R H (λa=>l a\/i a) c b->vt T i c b f g->Nw T l i c b x v->Q v b) ->
  (∀C y f m c b,k C f->Ch T F R H m c b->vt T m c b f g->E (.ref C) ↑y b)->t g H Q
def TW(X:Cx)(E:XK)(T:cr)(e:hW){D:Type}[Sls D](w:Wf D Bool D):Prop :=
 ∃t,PT X e t/\∀(d:D)(F R:Rg)(g:St)(H:Hp)(h:Bool->D->Prop)(i:cr->D->Prop)(Q:Bool->Hp->Prop),vt T F R H d g->w d h i ->
  (∀x b c f a,h x b->Ch T F R H c f a->vt T c f a b g->Q x a) ->
  (∀C y b c f a,i C b->Ch T F R H c f a->vt T c f a b g->E (.ref C) ↑y a)->t g H Q
section
variable{D:Type}[Sls D]
def Wt{F R F1 F2 R':Rg}{H H':Hp}{d d':D}{σ:St}{α:Type}[Rep α]{x:OL α}{v:V}(s:vt T F R H d σ)(c:Ch T F R H (λa=>F1 a\/F2 a) R' H')(s':vt T F2 R' H' d' σ)(n:Nw T F1 F2 R' H' x v) :
  ∃IM,Ch T F R H F2 IM H'/\vt T F2 IM H' d' σ/\rp IM H' x.l v:=by
 have ex:Ext (λ_=>False) R' H' (λa=>R' a/\¬F1 a) H':=#[λ_ _ _ h=>h,λa h=>.inl h.1];refine#[λa=>R' a/\¬F1 a,#[c.keep,λa h=>c.zn a h.1,λa h=>c.xB a<|.inr h,λa h k=>#[c.left a h k,λz=>?_]],#[Sls.st s'.rel ex (λ_ z=>z.elim)<|λ_ _ z=>z,λa h=>#[s'.sub a h,λz=>n.xt a z h],λa h=>s'.wy a h.1,s'.tab,#[s'.u4,n.tab],s'.uP],?_]
 ·rcases c.xB a (.inl z) with q|q
  ·exact k q
  ·exact s.wy a h q
 ·refine e2a4 n.is λa vs h1 h2 h3 h4=>?_;cases h1;exact#[a,vs,rfl,λz=>z.2<|(h2 a).mpr rfl,h3,vz (ex.wide λ_ z=>z.elim) h4]
def uQ{α:Type}[Rep α]{w:Wf D (OL α) D}(h:EO X E T e w):EW X E T e (λd Kn Ke=>w d (λx d'=>Kn x.l d') Ke):=by refine e1a2 h λt h1 h2=>?_;refine#[t,h1,λd F R σ H Kn Ke Q s hw kn ke=>h2 d F R σ H _ Ke Q s hw (λx d' v F1 F2 R' H' q c s' n=>?_) ke];refine e1a3 (Wt s c s' n) λIM c2 s2 r=>?_;exact kn x.l d' v F2 IM H' q c2 s2 r
def wM{F R:Rg}{H:Hp}{d:D}{σ:St}{α:Type}[Rep α]{xs:List α}{vs:List V}{p:cr}(s:vt T F R H d σ)(hp:H p=none)(h:Paired (rp R H) xs vs) :
  ∃R',Ch T F R H (λa=>a=p\/F a) R' (upd H p<|.lst vs)/\vt T F R' (upd H p<|.lst vs) d σ/\Nw T (λa=>a=p) F R' (upd H p<|.lst vs) (OL.mk xs) (.ref p):=by
 refine e0a3 (s.new (.lst vs) hp) λs1 c1 n1=>?_;have nF:¬F p:=λz=>n1<|s.sub p z;have ex:Ext (λ_=>False) R H (λa=>R a\/a=p) (upd H p<|.lst vs):=⟨λb o _ h=>by rw[uh<|uu h hp];exact h,λa h=>h.elim .inl λq=>.inr<|by rw[q];exact hp⟩;refine⟨λa=>R a\/a=p,#[c1.keep,ex.new,λa h=>h.elim (λq=>.inr<|by rw[q];exact hp) .inl,λa h _=>.inl h],#[Sls.st s.rel ex (λ_ z=>z.elim)<|λ_ _ z=>z,λa h=>.inl<|s.sub a h,λa h=>?_,s1.tab,.inl s.u4,s.uP],#[#[p,vs,rfl,λb=>Iff.rfl,uk,vz (ex.wide λ_ z=>z.elim) h],λa h=>.inr h,λa h k=>nF (by rw[<- h];exact k),λh=>n1<|by rw[<- h];exact s.u4]⟩;rcases h with h|h
 ·exact s1.wy a h
 ·rw[h,uk];simp
def SR{i:Nat}{τ D':Type}[Ow τ][Sls D'][A:At i D τ D']{F R:Rg}{H:Hp}{d:D}{σ:St}(s:vt T F R H d σ):∃v F1 F2,σ[i]?=↑v/\Cv F F1 F2/\sl F1 R H (A.get d) v/\rel F2 R H (A.hole d) σ:=A.take s.rel
def ss[Rep a][Sls c](i:Nat)[A:At i D a c](e:PE X (.Name x pos) (uR i):=by exact pv _):EW X E T (.Name x pos) (λ(d:D)(b:a->D->Prop) _=>b (A.get d) d):=by refine#[_,e,λd F R k H b l Q s f g _=>?_];obtain⟨v,m,n,h,o,⟨_,u,rfl,j⟩,_⟩:=A.take s.rel;exact#[u,h,g _ d u F R H f (Ch.refl _ _ _ _) s j]
def ul{n:Int}{k:Nat}:EW X E T (.Constant (.int n) k pos) (λ(d:D)(a:Int->D->Prop) _=>a n d) :=
 #[_,uH,λd F R e H a f Q s b c _=>c n d _ F R H b (Ch.refl _ _ _ _) s rfl]
def Dm{b:Bool}{k:Nat}:EW X E T (.Constant (.bool b) k pos) (λ(d:D)(a:Bool->D->Prop) _=>a b d) :=
 #[_,XZ,λd F R f H a g Q s c e _=>e b d _ F R H c (Ch.refl _ _ _ _) s rfl]
def JC{k:Nat}:EW X E T (.Constant .none k pos) (λ(d:D)(a:Unit->D->Prop) _=>a () d) :=
 #[_,IS,λd F R e H a f Q s b c _=>c () d _ F R H b (Ch.refl _ _ _ _) s rfl]
def OX{α β γ:Type}[Rep α][Rep β][Rep γ]{wa:Wf D α D}{wb:Wf D β D}{c:α->β->Prop}{g:α->β->γ}
 (ha:EW X E T a wa) (hb:EW X E T b wb) (he:∀ta tb,PE X a ta->PE X b tb->PE X e (XA r ta tb))
 (hr:∀{R:Rg} {H:Hp} {x:α} {y:β} {u v:V} {Q:VK},rp R H x u->rp R H y v->c x y->(∀z,rp R H (g x y) z->Q z H)->r u v H Q) :
    EW X E T e (λd Kn Ke=>wa d (λx d1=>wb d1 (λy d2=>c x y/\Kn (g x y) d2) Ke) Ke):=by
  refine e1a2 ha λta a1 a2=>?_
  refine e1a2 hb λtb b1 b2=>?_
  refine#[_,he ta tb a1 b1,λd F R σ H Kn Ke Q s hw kn ke=>?_]
  refine a2 d F R σ H _ Ke _ s hw (λx d1 u F1 R1 H1 q1 c1 s1 r1=>?_) ke
  refine b2 d1 F1 R1 σ H1 _ Ke _ s1 q1 (λy d2 v F2 R2 H2 q2 c2 s2 r2=>?_) λC y d' F' R' H' k c s'=>ke C y d' F' R' H' k (Ch.trans s s1.tab c1 c) s'
  exact hr (s1.val c2 r1) r2 q2.1 λz rz=>kn _ d2 z F2 R2 H2 q2.2 (Ch.trans s s1.tab c1 c2) s2 rz
def Wu{α γ:Type}[Rep α][Rep γ]{r:V->Hp->VK->Prop}{wa:Wf D α D}{c:α->Prop}{g:α->γ}
 (ha:EW X E T a wa) (he:∀ta,PE X a ta->PE X e (tUn r ta)) (hr:∀{R:Rg} {H:Hp} {x:α} {u:V} {Q:VK},rp R H x u->c x->(∀z,rp R H (g x) z->Q z H)->r u H Q) :
    EW X E T e (λd Kn Ke=>wa d (λx d1=>c x/\Kn (g x) d1) Ke):=by
  refine e1a2 ha λta a1 a2=>?_
  refine#[_,he ta a1,λd F R σ H Kn Ke Q s hw kn ke=>?_]
  refine a2 d F R σ H _ Ke _ s hw (λx d1 u F1 R1 H1 q1 c1 s1 r1=>?_) ke
  exact hr r1 q1.1 λz rz=>kn _ d1 z F1 R1 H1 q1.2 c1 s1 rz
def OY{c:Int->Int->Prop}{g:Int->Int->Int}{h l:Wf D Int D}(n:Ad X (lH op) (rI c λi j=>.int<|g i j))(o:EW X E T a h)(p:EW X E T b l) :
  EW X E T (.BinOp a op b pos) (λd q m=>h d (λx r=>l r (λy s=>c x y/\q (g x y) s) m) m) :=
 OX (γ:=Int) o p (λu v e f=>wg n e f) λe f t k=>#[_,_,e,f,t,k _ rfl]
def zS{g:Int->Int->Int}{wa wb:Wf D Int D}(ho:Ad X (lH op) (RH λi j=>.int<|g i j))(ha:EW X E T a wa)(hb:EW X E T b wb) :
  EW X E T (.BinOp a op b pos) (λd Kn Ke=>wa d (λx d1=>wb d1 (λy d2=>Kn (g x y) d2) Ke) Ke):=by
 have h:=OX (c:=λ_ _=>True) (γ:=Int) (g:=g) (e:=.BinOp a op b pos) ha hb (λta tb h1 h2=>wg ho h1 h2) λh1 h2 _ k=>#[_,_,h1,h2,k _ rfl];simp only[true_and]at h;exact h
class HW(α:Type)[Rep α][DecidableEq α] where
 sc:∀{R:Rg} {H:Hp} {x y:α} {u v:V},rp R H x u->rp R H y v->VW u v=true/\decide (u=v)=decide (x=y)
instance:HW Int:=#[λ{R H x y u v} h1 h2=>by
 subst h1;subst h2;refine#[rfl,?_];by_cases e:x=y
 ·rw[e];simp
 ·rw[gH e,gH (λz=>e (by cases z;rfl))]]
instance:HW Bool:=#[λ{R H x y u v} h1 h2=>by
 subst h1;subst h2;refine#[rfl,?_]
 cases x<;>cases y<;>rfl]
def Lx{α:Type}[Rep α]{x:Option α}(h:rp R H x u):decide (u=.vT)=x.isNone:=by
 cases x with
 |none=>have h:u=.vT:=h;rw[h];rfl
 |some y=>exact gH h.1
end
variable[L2.GX]
section
variable{D:Type}[Sls D]
def uy{b:Type}[Rep b]{w:Wf D b D}(h:EO X E T e w):EW X E T e w:=by refine e1a2 h λt f g=>?_;refine#[t,f,λd F R i H B j Q s k l m=>g d F R i H _ j Q s k (λx o v C p r y q c z n=>?_) m];obtain⟨G,u,e,A⟩:=n.is;cases e;exact l x o v p r y q #[c.keep,c.zn,λa h=>c.xB a<|.inr h,c.left] z A
def uX{b:Type}[Rep b]{w:Wf D b D}(h:EW X E T e w):EO X E T e w:=by refine e1a2 h λt f g=>?_;refine#[t,f,λd F R i H A j Q s k l m=>g d F R i H _ j Q s k (λx n v o p u q c y r=>?_) m];exact l x n v (λ_=>False) o p u q #[c.keep,c.zn,λa h=>c.xB a<|h.elim (λz=>z.elim) id,c.left] y #[#[λ_ z=>z,v,rfl,r],λ_ z=>z.elim,λ_ z=>z.elim,λz=>z]
end
class Hs(τ:Type)[Ow τ]:Prop where
 has:∀{F R:Rg} {H:Hp} {x:τ} {v:Option V},sl F R H x v->∃u,v=↑u
instance{α:Type}[Rep α]:Hs (OL α):=#[λz9=>e2a2 z9 λa _ h _=>#[_,h]]
instance{α:Type}[Rep α]:Hs α:=#[λz9=>e0a2 z9 λ_ z39=>e1a2 z39 λu h _=>#[u,h]]
structure Std(T:cr)(F R:Rg)(H:Hp):Prop where
 sub:∀a,F a->R a
 wy:∀a,R a->H a≠none
 tab:TabAt H T
 u4:R T
 uP:¬F T
def vt.FT{T:cr}{D:Type}[Sls D]{F R:Rg}{H:Hp}{d:D}{a:St}(s:vt T F R H d a):Std T F R H:=#[s.sub,s.wy,s.tab,s.u4,s.uP]
def Std.stt{T:cr}{D:Type}[Sls D]{F R:Rg}{H:Hp}{d:D}{a:St}(s:Std T F R H)(h:rel F R H d a):vt T F R H d a:=#[h,s.sub,s.wy,s.tab,s.u4,s.uP]
section
variable{D:Type}[Sls D]
def two_nil(F:Rg):Cv F (λ_=>False) F:=#[λ_=>#[.inr,λz=>z.elim (λq=>q.elim) id],λ_ z _=>z]
def two_eq(t:Cv F b c)(n:∀a,¬b a):∀a,c a↔F a:=λa=>#[λz=>(t.all a).mpr<|.inr z,λz=>((t.all a).mp z).elim (λq=>gA q<|n a) id]
end
def xR(T:cr){P d f:Type}[Sls P][Sls d][Ow f](w:Wf P f d):Sp:=λg H Q E=>∃(F R:Rg)(p:P)(i:f->d->Prop)(j:cr->d->Prop),vt T F R H p (g.map some)/\w p i j /\
 (∀x e v k h c b,i x e->Ch T F R H (λa=>k a\/h a) c b->vt T h c b e (g.map some)->Nw T k h c b x v->Q v b) /\
 (∀C y e l c b,j C e->Ch T F R H l c b->vt T l c b e (g.map some)->E (.ref C) ↑y b)
def Ag(c:List Nat)(b a:St):Prop:=a.length=b.length/\∀i∈c,a[i]?=b[i]?
def Ag.refl(b:List Nat)(a:St):Ag b a a:=#[rfl,λ_ _=>rfl]
def Ag.trans(a:Ag e f c)(b:Ag e c d):Ag e f d:=#[b.1.trans a.1,λi h=>(b.2 i h).trans<|a.2 i h]
def Ag.set{i:Nat}(h:i∉a):Ag a b (b.set i v):=#[lq,λj c=>mo λe=>h<|by rw[e];exact c]
structure RK(P:Type)[Sls P](ms:List Nat)(n:Nat):Prop where
 dp:∀{F R:Rg} {H:Hp} {p:P} {σ σ':St},Ag ms σ σ'->rel F R H p (σ'.take n)->rel F R H p (σ.take n)
class Dp(P:Type)[Sls P](n:outParam Nat)(l:outParam (List Nat)):Prop where
 dp:RK P l n
instance dp0:Dp Unit 0 []:=#[#[λ{F R H p σ σ'} _ h=>#[rfl,h.2]]]
instance(priority:=high) dpU {P:Type}{n:Nat}{l:List Nat}[Sls P][A:Dp P n l]:Dp (Un×P) (n+1) (l.map (· + 1)):=#[#[λ{F R H p σ σ'} a r=>by
 refine e4a4 r λv ZW F1 F2 h1 h2 h3 h4=>?_
 cases σ' with
 |nil=>cases h1
 |cons v' r' =>
  cases σ with
  |nil=>have:=a.1;simp at this
  |cons u r =>
   injection h1 with e1 e2;subst e2;refine#[u,r.take n,F1,F2,rfl,h2,h3,A.dp.dp (σ':=r') #[by have:=a.1;simpa using this,λi hi=>?_] h4];have:=a.2 (i+1)<|List.mem_map.mpr #[i,hi,rfl]
   simpa using this]]
instance dpO{τ P:Type}{n:Nat}{l:List Nat}[Ow τ][Sls P][A:Dp P n l]:Dp (τ×P) (n+1) (0::l.map (· + 1)):=#[#[λ{F R H p σ σ'} a r=>by
 refine e4a4 r λv ZW F1 F2 h1 h2 h3 h4=>?_
 cases σ' with
 |nil=>cases h1
 |cons v' r' =>
  cases σ with
  |nil=>have:=a.1;simp at this
  |cons u r =>
   injection h1 with e1 e2;subst e2
   have e0:v'=u:=by have:=a.2 0 gh;simpa using this
   subst e0;subst e1;refine#[v',r.take n,F1,F2,rfl,h2,h3,A.dp.dp (σ':=r') #[by have:=a.1;simpa using this,λi hi=>?_] h4];have:=a.2 (i+1)<|gl _<|List.mem_map.mpr #[i,hi,rfl]
   simpa using this]]
def uJ[Sls P]{n:Nat}[A:Dp P n l](h:∀i∈l,i∈b):RK P b n:=#[λa r=>A.dp.dp #[a.1,λi c=>a.2 i<|h i c] r]
def Ve(E:XK)(T:cr)(u:List Nat)(n:Nat)(t:TS){D j f k:Type}[Sls D][Sls j][Sls f][Ow k](w:D->(j->Prop)->(k->f->Prop)->(cr->f->Prop)->Prop):Prop :=
 ∀(d:D)(F R:Rg)(g:St)(H:Hp)(o:j->Prop)(p:k->f->Prop)(q:cr->f->Prop)(l:Ends),vt T F R H d g->w d o p q ->
  (∀r h c b e,o r->Ch T F R H h c b->vt T h c b r e->Ag u g e->l.nx e b) ->
  (∀x i v s m c b,p x i->Ch T F R H (λa=>s a\/m a) c b->vt T m c b i (g.take n)->Nw T s m c b x v->l.rt v b) ->
  (∀C y i h c b,q C i->Ch T F R H h c b->vt T h c b i (g.take n)->E (.ref C) ↑y b)->t l g H
def S1(X:Cx)(E:XK)(T:cr)(d:List Nat)(n:Nat)(e:gR){D b a c:Type}[Sls D][Sls b][Sls a][Ow c](w:D->(b->Prop)->(c->a->Prop)->(cr->a->Prop)->Prop):Prop:=∃t,PS X e t/\Ve E T d n t w
def SW(X:Cx)(E:XK)(T:cr)(e:List Nat)(n:Nat)(a:List gR){D c b d:Type}[Sls D][Sls c][Sls b][Ow d](w:D->(c->Prop)->(d->b->Prop)->(cr->b->Prop)->Prop):Prop:=∃t,Em X a t/\Ve E T e n t w
section
variable{D D' D1 PO τ:Type}[Sls D][Sls D'][Sls D1][Sls PO][Ow τ]
def uN:SW X E T f n [] (λ(d:D)(a:D->Prop)(_:τ->PO->Prop) _=>a d) :=
 #[_,yG,λd F R b H a g h i s c e _ _=>e d F R H b c (Ch.refl _ _ _ _) s<|Ag.refl _ _]
def OZ:SW X E T e n a (λ(d:D)(b:D'->Prop)(_:τ->PO->Prop) _=>False) :=
 #[_,Mt,λd F R f H b g h i s c j _ _=>c.elim]
def a0X[A:Fg D1 D'](k:Ve E T l n t w):Ve E T l n t (λ(d:D)(j:D'->Prop)(e:τ->PO->Prop) f=>w d (λm=>j<|A.fg m) e f):=by refine λd F R o H j e f p s r u v x=>k d F R o H _ e f p s r (λC I y z g q c b a=>?_) v x;refine e1a2 (A.le b.rel) λG i B=>?_;exact u _ G y z g q #[c.keep,c.zn,λa h=>c.xB a<|i a h,c.left] ⟨B,λa h=>b.sub a<|i a h,b.wy,b.tab,b.u4,λh=>b.uP<|i _ h⟩ a
def Ly[A:Fg D1 D'](h:SW X E T b n a w):SW X E T b n a (λ(d:D)(c:D'->Prop)(e:τ->PO->Prop) f=>w d (λg=>c<|A.fg g) e f) :=
 e1a2 h λt i j=> #[t,i,a0X j]
def Vf{A:D->(D1->Prop)->(τ->PO->Prop)->(cr->PO->Prop)->Prop}{B:D1->(D'->Prop)->(τ->PO->Prop)->(cr->PO->Prop)->Prop}(G:RK PO k n)(L:Ve E T k n M A)(N:Ve E T k n O B) :
  Ve E T k n (IU M O) (λd l b e=>A d (λo=>B o l b e) b e):=by
 refine λd F R P H l b e Q s S U I J=>L d F R P H _ b e _ s S (λo W X Y p q r j t=>?_) I J;refine N o W X p Y l b e Q j q (λZ u f h w i c a g=>U Z u f h w i (Ch.trans s j.tab r c) a<|t.trans g) (λx z v M1 M2 f h i c a m=>?_) λC y z u f h i c a=>?_
 ·exact I x z v M1 M2 f h i (Ch.trans s j.tab r c) #[G.dp t a.rel,a.sub,a.wy,a.tab,a.u4,a.uP] m
 ·exact J C y z u f h i (Ch.trans s j.tab r c) #[G.dp t a.rel,a.sub,a.wy,a.tab,a.u4,a.uP]
def CG{c:gR}{a:List gR}{w1:D->(D1->Prop)->(τ->PO->Prop)->(cr->PO->Prop)->Prop}{w2:D1->(D'->Prop)->(τ->PO->Prop)->(cr->PO->Prop)->Prop}(g:RK PO b n)(h:S1 X E T b n c w1)(i:SW X E T b n a w2) :
  SW X E T b n (c::a) (λd j e f=>w1 d (λk=>w2 k j e f) e f) :=
 e1a2 h λq l m=> e1a2 i λr o p=> #[_,vB l o,Vf g m p]
def uj{a:gR}{b:D->(D'->Prop)->(τ->PO->Prop)->(cr->PO->Prop)->Prop}(c:S1 X E T d n a b):SW X E T d n [a] b :=
 e1a2 c λg e f=> #[_,wV e,f]
def vW[A:Pj D PO n](s:vt T c e f d g):∃G,(∀a,G a->c a)/\vt T G e f (A.pj d) (g.take n):=by refine e1a2 (A.le s.rel) λG b i=>?_;exact#[G,b,i,λa h=>s.sub a<|b a h,s.wy,s.tab,s.u4,λh=>s.uP<|b _ h]
def Ch.less(c:Ch T F R H b d e)(g:∀a,G a->b a):Ch T F R H G d e:=#[c.keep,c.zn,λa h=>c.xB a<|g a h,c.left]
def uC[A:Pj D PO n](h:EO X E T e r):S1 X E T N n (.Return ↑e pos) (λ(d:D)(_:D'->Prop)(o:τ->PO->Prop) p=>r d (λx b=>o x<|A.pj b) λC b=>p C<|A.pj b):=by
 refine e1a2 h λt u w=>?_;refine#[_,Bv u,λd F R B H O o p P s I Q J L=>w d F R B H _ _ _ s I (λx b v M S g i q c j m=>?_) λC y b U g i q c j=>?_]
 ·refine e1a2 (vW (PO:=PO) j) λG f l=>?_;exact J x _ v M G g i q (c.less λa h=>h.elim .inl λz=>.inr<|f a z) l ⟨m.is,m.sub,λa h k=>m.xt a h<|f a k,m.tab⟩
 ·refine e1a2 (vW (PO:=PO) j) λG f l=>?_;exact L C y _ G g i q (c.less f) l
def vc{i:Type}[Rep i][A:Pj D PO n]{j:Wf D i D}(h:EW X E T e j)(r:js e none pos.line X.env=pure false:=by rfl) :
  S1 X E T N n (.Expr e pos) (λ(d:D)(k:D->Prop)(u:τ->PO->Prop) l=>j d (λ_ a=>k a) λC a=>l C<|A.pj a):=by
 refine e1a2 h λt w z=>?_;refine#[_,AJ w r,λd F R o H k u l O s B I P J=>z d F R o H _ _ _ s B (λx a v p b f q c g m=>I a p b f o q c g<|Ag.refl _ _) λC y a p b f q c g=>?_];refine e1a2 (vW (PO:=PO) g) λG L M=>?_;exact J C y _ G b f q (c.less L) M
def uZ{a b:List gR}[A:Pj D PO n]{M:Wf D Bool D}{N O:D->(D'->Prop)->(τ->PO->Prop)->(cr->PO->Prop)->Prop}(hc:TW X E T c M)(ha:SW X E T P n a N)(hb:SW X E T P n b O) :
  S1 X E T P n (.If c a b pos) (λ(d:D)(u:D'->Prop)(w:τ->PO->Prop) r=>M d (λb z=>if b=true then N z u w r else O z u w r) λC t=>r C<|A.pj t):=by
 refine e1a2 hc λtc c1 c2=>?_;refine e1a2 ha λta a1 a2=>?_;refine e1a2 hb λtb b1 b2=>?_;refine#[_,K9 c1 a1 b1,λd F R B H u w r Q s hw S U I=>c2 d F R B H _ _ _ s hw (λx z W Y Z q c k=>?_) λC y t l e f q c h=>?_]
 ·cases x with
  |true=>exact a2 z W Y B Z u w r Q k q (λt l e f o i j h g=>S t l e f o i (Ch.trans s k.tab c j) h g) (λx p v J L e f i j h m=>U x p v J L e f i (Ch.trans s k.tab c j) h m) λC y p l e f i j h=>I C y p l e f i (Ch.trans s k.tab c j) h
  |false=>exact b2 z W Y B Z u w r Q k q (λt l e f o i j h g=>S t l e f o i (Ch.trans s k.tab c j) h g) (λx p v J L e f i j h m=>U x p v J L e f i (Ch.trans s k.tab c j) h m) λC y p l e f i j h=>I C y p l e f i (Ch.trans s k.tab c j) h
 ·refine e1a2 (vW (PO:=PO) h) λG g1 g2=>?_;exact I C y _ G e f q (c.less g1) g2
def E7{i:Nat}[Ow c][Ow e][Sls f][Sls j][A:At i D c f][U:Pt i f e j](s:vt T g R H d k)(m:Nw T F1 g R H x v) :
  ∃G,(∀a,G a->F1 a\/g a)/\vt T G R H (U.put (A.hole d) x) (k.set i<|↑v):=by
 refine e3a4 (A.take s.rel) λo p l r b t n=>?_;refine#[λa=>F1 a\/l a,λa h=>h.elim .inl λz=>.inr<|(b.all a).mpr<|.inr z,U.back n ⟨λ_=>Iff.rfl,λa z q=>m.xt a z<|(b.all a).mpr<|.inr q⟩ m.is,λa h=>h.elim (m.sub a) λz=>s.sub a<|(b.all a).mpr<|.inr z,s.wy,s.tab,s.u4,λh=>h.elim m.tab λz=>s.uP<|(b.all T).mpr<|.inr z]
def uz(i:Nat)[Ow f][Ow g][Sls r][Sls u][A:At i D f r][U:Pt i r g u][J:Pj D PO n](B:X.N.Nodup)(h:EO X E T e I)(L:X.N[i]?=↑x:=by rfl)(hx:Loc X.env.scope x:=by exact lU rfl)(M:i∉O:=by decide)
 (P:js e (some<|.Name x a) pos.line X.env=pure false:=by rfl) (Q:X.fn x=true\/X.env.scope.names.lookup x=some .local:=by first|exact .inl rfl|exact .inr rfl) :
    S1 X E T O n (.Assign [.Name x a] e pos) (λ(d:D)(w:u->Prop)(S:τ->PO->Prop) z=>I d (λx b=>w<|U.put (A.hole b) x) λC b=>z C<|J.pj b):=by
  refine e1a2 h λt W Y=>?_
  refine#[_,zd B L hx W P Q,λd F R Z H w S z En s hw kn kr ke=>Y d F R Z H _ _ _ s hw (λx b v F1 F2 j k q c l m=>?_) λC y b F' j k q c l=>?_]
  · refine e1a2 (E7 (i := i) l m) λG o p => ?_
    exact kn _ G j k _ q (c.less o) p<|Ag.set M
  · refine e1a2 (vW (PO := PO) l) λG o p => ?_
    exact ke C y _ G j k q (c.less o) p
end
class Ent(P:Type)[Sls P](k:Nat)(D:outParam Type)[Sls D] where
 ent:P->D
 ok:∀{F R:Rg} {H:Hp} {p:P} {σ:St},rel F R H p σ->rel F R H (ent p) (σ++j4 k none)
noncomputable instance ent0:Ent Unit 0 Unit:=#[id,λh=>by obtain⟨rfl,h⟩:=h;exact#[rfl,h]]
noncomputable instance entS{k:Nat}{D:Type}[Sls D][A:Ent Unit k D]:Ent Unit (k+1) (Un×D):=#[λp=>(#[],A.ent p),λ{F R H p σ} h=>by
 obtain⟨rfl,h⟩:=h
 exact#[none,j4 k none,λ_=>False,F,by rw[mw];rfl,two_nil F,λ_ z=>z,by simpa using A.ok (σ:=[]) (p:=p) (F:=F) (R:=R) (H:=H) #[rfl,h]]]
noncomputable instance entC{k:Nat}{τ P D:Type}[Ow τ][Sls P][Sls D][A:Ent P k D]:Ent (τ×P) k (τ×D):=#[λp=>(p.1,A.ent p.2),λ{F R H p σ} h=>by
 obtain⟨v,σ',F1,F2,rfl,h2,h3,h4⟩:=h
 exact#[v,σ'++j4 k none,F1,F2,rfl,h2,h3,A.ok h4]]
class Ln(P:Type)[Sls P](n:outParam Nat):Prop where
 ln:∀{F R:Rg} {H:Hp} {p:P} {σ:St},rel F R H p σ->σ.length=n
instance ln0:Ln Unit 0:=#[λh=>by rw[h.1];rfl]
instance lnS{τ P:Type}{n:Nat}[Ow τ][Sls P][A:Ln P n]:Ln (τ×P) (n+1):=#[λh=>by
 obtain⟨v,σ',F1,F2,rfl,_,_,h4⟩:=h
 rw[gK,A.ln h4]]
def vU{r:gR}{N M:List Str}{k j n:Nat}{ms:List Nat}{A PO τ D D':Type}[Sls A][Sls PO][Ow τ][Sls D][Sls D'][L:Ln A n][J:Ent A j D]{O:D->(D'->Prop)->(τ->PO->Prop)->(cr->PO->Prop)->Prop}
 (F:yk K x d r f fd) (S:uq N M (ug r)) (hn:M.length=n) (hj:N.length-n=j)
 (i:∀(b:ci)(A:iW)(a:List Env)(s:gn)(H:Hp)(E:XK),vI k (A.deeper<|nQ d (ug r) ⇑s f b)->SW (ve (uW P w) P w K mg base N d (ug r) f b A a s H E) E T ms n (uM r) O) :
    uO P w K mg base (uW P w) (k+1) f fd M (xR T λ(p:A)(U:τ->PO->Prop) l=>O (J.ent p) (λ_=>False) U l):=by
  have e:∀{g:List V} {H:Hp} {Q:VK} {E:XK},xR T (λ(p:A)(U:τ->PO->Prop) l=>O (J.ent p) (λ_=>False) U l) g H Q E->g.length=n:=λh=>by
    obtain⟨F,R,p,Kn,l,s,_⟩:=h
    have:=L.ln s.rel
    rwa [gm]at this
  obtain⟨oc,od,kV,aa,pm,an,b,ct,ab,rfl,lk,W⟩:=F.ex
  refine HE lk W S (λg H Q E h=>(e h).trans hn.symm) λAr a s H g Q E hr u=>?_
  refine e1a2 (i b Ar a s H E hr) λt h1 h2=>?_
  refine#[t,h1,?_]
  have X:=e u
  obtain⟨F,R,p,Kn,l,o,hw,kn,ke⟩:=u
  have B:start N g=g.map some++j4 j none:=by unfold L2.start;rw[X,hj]
  have G:(start N g).take n=g.map some:=by rw[B,mq (by rw[gm,X];exact gg _),iQ<|by rw[gm,X];exact gg _]
  refine h2 (J.ent p) F R _ H _ Kn l _ #[by rw[B];exact J.ok o.rel,o.sub,o.wy,o.tab,o.u4,o.uP] hw (λ_ _ _ _ _ z=>z.elim) (λx Y v F1 F2 Z H' q c I m=>?_) λC y Y F' Z H' q c I=>?_
  · rw[G]at I
    exact kn x Y v F1 F2 Z H' q c I m
  · rw[G]at I
    exact ke C y Y F' Z H' q c I
def Vg{o:gR}{N J:List Str}{k j n:Nat}{ms:List Nat}{A PO τ D D':Type}[Sls A][Sls PO][Ow τ][Sls D][Sls D'][L:Ln A n][I:Ent A j D]{M:D->(D'->Prop)->(τ->PO->Prop)->(cr->PO->Prop)->Prop}
 (F:yk K x b o f O) (S:uq N J (ug o)) (hn:J.length=n) (hj:N.length-n=j)
 (g:∀(A:iW)(a:List Env)(s:gn)(H:Hp)(E:XK),vI k (A.deeper<|nQ b (ug o) ⇑s f O.code)->SW (ve (uW P w) P w K mg base N b (ug o) f O.code A a s H E) E T ms n (uM o) M) :
    uO P w K mg base (uW P w) (k+1) f O J (xR T λ(p:A)(U:τ->PO->Prop) i=>M (I.ent p) (λ_=>False) U i):=by
  have d:∀{e:List V} {H:Hp} {Q:VK} {E:XK},xR T (λ(p:A)(U:τ->PO->Prop) i=>M (I.ent p) (λ_=>False) U i) e H Q E->e.length=n:=λh=>by
    obtain⟨F,R,p,Kn,i,s,_⟩:=h
    have:=L.ln s.rel
    rwa [gm]at this
  obtain⟨oc,od,kV,aa,pm,an,ab,ct,ae,rfl,lk,W⟩:=F.ex
  refine HE lk W S (λe H Q E h=>(d h).trans hn.symm) λAr a s H e Q E hr r=>?_
  refine e1a2 (g Ar a s H E hr) λt h1 h2=>?_
  refine#[t,h1,?_]
  have X:=d r
  obtain⟨F,R,p,Kn,i,l,hw,kn,ke⟩:=r
  have u:start N e=e.map some++j4 j none:=by unfold L2.start;rw[X,hj]
  have B:(start N e).take n=e.map some:=by rw[u,mq (by rw[gm,X];exact gg _),iQ<|by rw[gm,X];exact gg _]
  refine h2 (I.ent p) F R _ H _ Kn i _ #[by rw[u];exact I.ok l.rel,l.sub,l.wy,l.tab,l.u4,l.uP] hw (λ_ _ _ _ _ z=>z.elim) (λx Y v F1 F2 Z H' q c G m=>?_) λC y Y F' Z H' q c G=>?_
  · rw[B]at G
    exact kn x Y v F1 F2 Z H' q c G m
  · rw[B]at G
    exact ke C y Y F' Z H' q c G
def Cb{O:gR}{N ps:List Str}{k j n:Nat}{ms:List Nat}{A PO D D':Type}[Sls A][Sls PO][Sls D][Sls D'][L:Ln A n][En:Ent A j D][J:Pj D' PO n](dp:RK PO ms n){w0:D->(D'->Prop)->(Unit->PO->Prop)->(cr->PO->Prop)->Prop}
 (F:yk K x e O f fd) (S:uq N ps (ug O)) (hn:ps.length=n) (hj:N.length-n=j)
 (o:∀(d:ci)(A:iW)(b:List Env)(s:gn)(H:Hp)(E:XK),vI k (A.deeper<|nQ e (ug O) ⇑s f d)->SW (ve (uW P w) P w K mg base N e (ug O) f d A b s H E) E T ms n (uM O) w0) :
    uO P w K mg base (uW P w) (k+1) f fd ps (xR T λ(p:A)(U:Unit->PO->Prop) B=>w0 (En.ent p) (λd'=>U ()<|J.pj d') U B):=by
  have i:∀{l:List V} {H:Hp} {Q:VK} {E:XK},xR T (λ(p:A)(U:Unit->PO->Prop) B=>w0 (En.ent p) (λd'=>U ()<|J.pj d') U B) l H Q E->l.length=n:=λh=>by
    obtain⟨F,R,p,Kn,B,s,_⟩:=h
    have:=L.ln s.rel
    rwa [gm]at this
  obtain⟨oc,od,kV,ab,pm,an,d,ct,ae,rfl,lk,aa⟩:=F.ex
  refine HE lk aa S (λl H Q E h=>(i h).trans hn.symm) λAr b s H l Q E hr W=>?_
  refine e1a2 (o d Ar b s H E hr) λt h1 h2=>?_
  refine#[t,h1,?_]
  have hl:=i W
  obtain⟨F,R,p,Kn,B,I,hw,kn,ke⟩:=W
  have X:start N l=l.map some++j4 j none:=by unfold L2.start;rw[hl,hj]
  have r:(start N l).take n=l.map some:=by rw[X,mq (by rw[gm,hl];exact gg _),iQ<|by rw[gm,hl];exact gg _]
  refine h2 (En.ent p) F R _ H _ Kn B _ #[by rw[X];exact En.ok I.rel,I.sub,I.wy,I.tab,I.u4,I.uP] hw (λd' F' Y Z af q c u g=>?_) (λx p' v F1 F2 Y Z q c u m=>?_) λC y p' F' Y Z q c u=>?_
  · refine e1a2 (vW (PO := PO) u) λG g1 M => ?_
    have g3:=dp.dp g M.rel
    rw[r]at g3
    exact kn () _ .vT (λ_=>False) G Y Z q (c.less λa h=>h.elim (λz=>z.elim)<|g1 a) ⟨g3,M.sub,M.wy,M.tab,M.u4,M.uP⟩ ⟨⟨λ_ z=>z,.vT,rfl,rfl⟩,λ_ z=>z.elim,λ_ z=>z.elim,λz=>z⟩
  · rw[r]at u
    exact kn x p' v F1 F2 Y Z q c u m
  · rw[r]at u
    exact ke C y p' F' Y Z q c u
end WL
namespace WL
open PySem L2
open Rep (rp)
open Ow (sl)
open Sls (rel)
class Dat(α:Type)[Rep α][DecidableEq α] where
 dat:α->PyData
 dp:Nat
 rd:∀{X:Cx} {R:Rg} {H:Hp} {x:α} {v:V},rp R H x v->E5 X H v (dat x)
 lay:∀x,(dat x).canLay0=true
 dep:∀x,(dat x).depth<=dp
 nm:∀x y,oH (dat x) (dat y)=true
 sm:∀x y,j5 (dat x) (dat y)=decide (x=y)
instance:Dat Int where
 dat:=.int
 dp:=0
 rd h:=by have h:_=_:=h;subst h;exact E5.int _
 lay _:=by simp[oy]
 dep _:=by simp[rg]
 nm _ _:=by simp[oH]
 sm x y:=by rw[j5];by_cases h:x=y<;>simp[h]
section
variable{α β:Type}[Rep α][DecidableEq α][Dat α][Rep β][DecidableEq β][Dat β]
def AY{X:Cx}{R:Rg}{H:Hp}:∀{xs:List α} {vs:List V},Paired (rp R H) xs vs->Paired (E5 X H) vs (xs.map Dat.dat):=by
 intro _ _ z
 induction z with
 |nil=>exact .nil
 |cons h t ih=>exact .cons (Dat.rd h) ih
def Lz:∀a:List α,m6 (a.map Dat.dat)=true
 | []=>by simp[m6]
 |x::a=>by simp only[gN,m6,Dat.lay x,Lz a,pw]
def LA:∀a:List α,nX (a.map Dat.dat)<=Dat.dp α
 | []=>by simp[nX]
 |x::a=>by
  have b:=LA a;have c:=Dat.dep x;simp only[gN,nX]
  lia
def O0:∀a b:List α,lK (a.map Dat.dat) (b.map Dat.dat)=true
 | [],[]=>by simp[lK]
 | [],_::_=>by simp[lK]
 |_::_,[]=>by simp[lK]
 |x::a,y::b=>by simp only[gN,lK,Dat.nm x y,O0 a b,pw]
def O3:∀xs ys:List α,jV (xs.map Dat.dat) (ys.map Dat.dat)=decide (xs=ys)
 | [],[]=>by simp[jV]
 | [],_::_=>by simp[jV]
 |_::_,[]=>by simp[jV]
 |x::xs,y::ys=>by simp only[gN,jV,Dat.sm x y,O3 xs ys];by_cases h:x=y<;>simp[h]
instance:Dat (List α) where
 dat xs:=.list<|xs.map Dat.dat
 dp:=Dat.dp α+1
 rd h:=by obtain⟨a,vs,rfl,_,h3,h4⟩:=h;exact E5.lst (vF.of h3)<|AY h4
 lay xs:=by simp only[oy];exact Lz xs
 dep xs:=by simp only[rg];have:=LA xs;omega
 nm xs ys:=by simp only[oH];exact O0 xs ys
 sm xs ys:=by simp only[j5];exact O3 xs ys
def E5.tup{X:Cx}(h:yA X.K H a c)(p:Paired (E5 X H) c d):E5 X H (.ref a) (.tuple d):=λb m s u I r=>by
 cases r;refine e1a3 (I.tuple h) λe f g _=>?_;obtain⟨q,i⟩:=E6 I f p;obtain⟨o,j,k,n,l⟩:=g;exact#[_,Reads.tuple j k l<|by simpa using i]
instance:Dat (α×β) where
 dat x:=.tuple [Dat.dat x.1,Dat.dat x.2]
 dp:=max (Dat.dp α) (Dat.dp β)+1
 rd h:=by obtain⟨a,u,w,rfl,_,h3,h4,h5⟩:=h;exact E5.tup (yA.of h3)<|.cons (Dat.rd h4)<|.cons (Dat.rd h5) .nil
 lay x:=by simp only[oy,m6,Dat.lay,pw]
 dep x:=by have h1:=Dat.dep x.1;have h2:=Dat.dep x.2;simp only[rg,nX];omega
 nm x y:=by simp only[oH,lK,Dat.nm,pw]
 sm x y:=by simp only[j5,jV,Dat.sm];obtain⟨a,b⟩:=x;obtain⟨c,d⟩:=y;by_cases h1:a=c<;>by_cases h2:b=d<;>simp[h1,h2]
end
def RdL{α:Type}[Rep α]{D:Type}[Sls D](T:cr)(F R:Rg)(H:Hp)(σ:St)(g:D->List α)(v:V):Prop :=
 ∀(d'':D)(Vh IM:Rg)(O5:Hp),Ch T F R H Vh IM O5->vt T Vh IM O5 d'' σ->∃a vs,v=.ref a/\O5 a=↑(.lst vs)/\Paired (rp IM O5) (g d'') vs
def ER(X:Cx)(E:XK)(T:cr)(e:hW){D i:Type}[Sls D][Rep i](w:Wf D (D->List i) D):Prop :=
 ∃t,PE X e t/\∀(d:D)(F R:Rg)(f:St)(H:Hp) (j:(D->List i)->D->Prop) (k:cr->D->Prop) (Q:VK),vt T F R H d f->w d j k ->
  (∀g h v b c a,j g h->Ch T F R H b c a->vt T b c a h f->RdL T b c a f g v->Q v a) ->
  (∀C y h b c a,k C h->Ch T F R H b c a->vt T b c a h f->E (.ref C) ↑y a)->t f H Q
section
variable{D:Type}[Sls D]{α β γ:Type}[Rep α][Rep β][Rep γ]
def vG(h:EW X E T e w):ER X E T e (λ(d:D) (g:(D->List α)->D->Prop) b=>w d (λx f=>g (λ_=>x) f) b):=by refine e1a2 h λt j k=>?_;refine#[t,j,λd F R l H g b Q s m n o=>k d F R l H _ b Q s m (λx f v p u y q c i r=>n _ f v p u y q c i λz A B C G I=>?_) o];refine e2a4 (i.val G r) λa J L O M N=>?_;exact#[a,J,L,M,N]
def vL(i:Nat)[Sls h][A:At i D (OL α) h](j:PE X (.Name x pos) (uR i):=by exact pv _):ER X E T (.Name x pos) (λ(d:D) (e:(D->List α)->D->Prop) _=>e (λd=>(A.get d).l) d):=by refine#[_,j,λd F R w H e y Q s k m _=>?_];obtain⟨v,z,B,f,C,⟨a,G,rfl,I⟩,_⟩:=A.take s.rel;refine#[_,f,m _ d _ F R H k (Ch.refl _ _ _ _) s λn o p q J b=>?_];obtain⟨L,M,N,g,O,⟨P,c,r,S,t,u⟩,_⟩:=A.take b.rel;rw[f]at g;cases g;cases r;exact#[_,c,rfl,t,u]
def Wv{wa:Wf D (D->List α) D}{wb:Wf D β D}{c:List α->β->γ->Prop}
 (ha:ER X E T a wa) (hb:EW X E T b wb) (he:∀ta tb,PE X a ta->PE X b tb->PE X e (XA r ta tb))
 (hr:∀{R:Rg} {H:Hp} {xs:List α} {y:β} {z:γ} {p:cr} {us:List V} {v:V} {Q:VK},H p=↑(.lst us)->Paired (rp R H) xs us->rp R H y v->c xs y z->(∀w,rp R H z w->Q w H)->r (.ref p) v H Q) :
    EW X E T e (λd Kn Ke=>wa d (λg d1=>wb d1 (λy d2=>∃z,c (g d2) y z/\Kn z d2) Ke) Ke):=by
  refine e1a2 ha λta a1 a2=>?_
  refine e1a2 hb λtb b1 b2=>?_
  refine#[_,he ta tb a1 b1,λd F R σ H Kn Ke Q s hw kn ke=>?_]
  refine a2 d F R σ H _ Ke _ s hw (λg d1 u F1 R1 H1 q1 c1 s1 r1=>?_) ke
  refine b2 d1 F1 R1 σ H1 _ Ke _ s1 q1 (λy d2 v F2 R2 H2 q2 c2 s2 r2=>?_) λC y d' F' R' H' k c s'=>ke C y d' F' R' H' k (Ch.trans s s1.tab c1 c) s'
  refine e1a2 q2 λz z1 z2=>?_
  obtain⟨p,us,rfl,h1,h2⟩:=r1 d2 F2 R2 H2 c2 s2
  exact hr h1 h2 r2 z1 λw rw=>kn _ d2 w F2 R2 H2 z2 (Ch.trans s s1.tab c1 c2) s2 rw
def wl{R:Rg}{H:Hp}:∀{xs:List α} {vs:List V} {i:Nat} {x:α},Paired (rp R H) xs vs->xs[i]?=↑x->∃v,vs[i]?=↑v/\rp R H x v:=by
 intro _ _ i x z
 induction z generalizing i with
 |nil=>intro e;simp at e
 |cons r t ih =>
  intro e
  cases i with
  |zero=>simp at e;subst e;exact#[_,rfl,r]
  |succ i=>exact e1a2 (ih<|by simpa using e) λu h1 h2=>#[u,by simpa using h1,h2]
def zU{xs:List α}{vs:List V}{i:Int}(h:Paired (rp R H) xs vs)(e:Ep xs i=↑x):∃v,Ep vs i=↑v/\rp R H x v:=by
 unfold Ep at e ⊢;rw[<- Paired.length h]
 cases q:U4 xs.length i with
 |none=>rw[q]at e;cases e
 |some j =>
  rw[q]at e;exact wl h e
def xW{j:Wf D (D->List α) D}{l:Wf D Int D}(q:ER X E T a j)(s:EW X E T b l)(t:Lo b:=by intro _ _;rfl) :
  EW X E T (.Subscript a b pos) (λ(d:D)(u:α->D->Prop) m=>j d (λg A=>l A (λi n=>∃x,Ep (g n) i=↑x/\u x n) m) m) :=
 Wv (c:=λo i x=>Ep o i=↑x) q s (λF G f h=>xq v0 f h t) λ{R H o y z p I v Q} f h B C k=>by subst B;refine e1a2 (zU h C) λw e r=>?_;exact#[_,_,_,_,rfl,rfl,vF.of f,e,k _ r]
def JD{k:Nat}{e:Wf D (α×β) D}(g:EW X E T a e):EW X E T (.Subscript a (.Constant (.int 0) k p) pos) (λ(d:D)(f:α->D->Prop) b=>e d (λx c=>f x.1 c) b):=by refine e1a2 g λI h i=>?_;refine#[_,xq Of h uH<|λ_ _=>rfl,λd F R j H f b Q s l m n=>i d F R j H _ b _ s l (λx c u o r t y z A B=>?_) n];obtain⟨q,v,w,rfl,_,C,G,J⟩:=B;exact#[_,_,_,v,rfl,rfl,yA.of C,rfl,m _ c v o r t y z A G]
def Dn{k:Nat}{e:Wf D (α×β) D}(g:EW X E T a e):EW X E T (.Subscript a (.Constant (.int 1) k p) pos) (λ(d:D)(f:β->D->Prop) b=>e d (λx c=>f x.2 c) b):=by refine e1a2 g λI h i=>?_;refine#[_,xq Of h uH<|λ_ _=>rfl,λd F R j H f b Q s l m n=>i d F R j H _ b _ s l (λx c u o r t y z A B=>?_) n];obtain⟨q,v,w,rfl,_,C,J,G⟩:=B;exact#[_,_,_,w,rfl,rfl,yA.of C,rfl,m _ c w o r t y z A G]
def zo(f:EW X E T a g):EW X E T a (λ(d:D)(e:α->D->Prop) b=>g d (λx c=>∃y,x=↑y/\e y c) b):=by refine e1a2 f λz h i=>?_;refine#[_,h,λd F R j H e b Q s k l m=>i d F R j H _ b _ s k (λx c u n o p r t v w=>?_) m];obtain⟨y,rfl,q⟩:=r;exact l y c u n o p q t v w.2
class NV(α:Type)[Rep α]:Prop where
 nv:∀{R:Rg} {H:Hp} {x:α} {v:V},rp R H x v->v≠.vT
instance:NV Int:=#[λh z=>by have h:_=_:=h;rw[h]at z;cases z]
instance:NV (α×β):=#[λh z=>by obtain⟨a,u,w,e,_⟩:=h;rw[e]at z;cases z]
def yM[NV α](g:EW X E T a h):EW X E T a (λ(d:D)(e:Option α->D->Prop) b=>h d (λx c=>e ↑x c) b):=by refine e1a2 g λw i j=>?_;exact#[_,i,λd F R k H e b Q s l m n=>j d F R k H _ b _ s l (λx c u o p q r t v f=>m ↑x c u o p q r t v #[NV.nv f,f]) n]
def SS{k:Nat}:EW X E T (.Constant .none k pos) (λ(d:D)(a:Option α->D->Prop) _=>a none d) :=
 #[_,IS,λd F R e H a f Q s b c _=>c none d _ F R H b (Ch.refl _ _ _ _) s rfl]
def xm{a:hW}{p:Pos}{wa:Wf D (D->List α) D}(hg:Gl X "len")(hm:X.mg "len"=none)(ha:ER X E T a wa)(hs:gf [a] X.env=(false,eval a X.env)::gf [] X.env:=by rfl) :
  EW X E T (.Call (.Name "len" p) [a] [] pos) (λ(d:D)(Kn:Int->D->Prop) Ke=>wa d (λg d1=>Kn ((g d1).length:Int) d1) Ke):=by
 refine e1a2 ha λta a1 a2=>?_;refine#[_,wj xv hg hm mO (ur a1 uA hs) (he:=hs),λd F R σ H Kn Ke Q s hw kn ke=>a2 d F R σ H _ Ke _ s hw (λg d1 u F1 R1 H1 q1 c1 s1 r1=>?_) ke];obtain⟨q,us,rfl,h1,h2⟩:=r1 d1 F1 R1 H1 (Ch.refl _ _ _ _) s1;refine#[_,_,rfl,.inl<|vF.of h1,kn _ d1 _ F1 R1 H1 q1 c1 s1 ?_];show V.int _=V.int _;rw[Paired.length h2]
end
def AL(X:Cx)(E:XK)(T:cr)(es:List hW){D α:Type}[Sls D][Rep α](w:Wf D (List α) D):Prop :=
 ∃t,PA X es t/\∀(d:D)(F R:Rg)(σ:St)(H:Hp)(Kn:List α->D->Prop)(Ke:cr->D->Prop)(Q:List V->Hp->Prop),vt T F R H d σ->w d Kn Ke ->
  (∀x d' vs F' R' H',Kn x d'->Ch T F R H F' R' H'->vt T F' R' H' d' σ->Paired (rp R' H') x vs->vs.length=es.length->Q vs H') ->
  (∀C y d' F' R' H',Ke C d'->Ch T F R H F' R' H'->vt T F' R' H' d' σ->E (.ref C) ↑y H')->t σ H Q
def vt.vals{T:cr}{D:Type}[Sls D]{d:D}{σ:St}{F R F' R':Rg}{H H':Hp}(s:vt T F R H d σ)(c:Ch T F R H F' R' H'){α:Type}[Rep α]{x:List α}{v:List V}(h:Paired (rp R H) x v):Paired (rp R' H') x v :=
 vz (c.ext.wide λa z=>z.elim (s.sub a) λq=>by rw[q];exact s.u4) h
section
variable{D:Type}[Sls D]{α β γ:Type}[Rep α][Rep β][Rep γ]
def uD:AL X E T [] (λ(d:D)(a:List α->D->Prop) _=>a [] d) :=
 #[_,uA,λd F R e H a f Q s b c _=>c [] d [] F R H b (Ch.refl _ _ _ _) s .nil rfl]
def uo{b:List hW}{i:Wf D α D}{j:Wf D (List α) D}(r:EW X E T e i)(t:AL X E T b j)(v:gf (e::b) X.env=(false,eval e X.env)::gf b X.env:=by rfl) :
  AL X E T (e::b) (λd l a=>i d (λx g=>j g (λm h=>l (x::m) h) a) a):=by
 refine e1a2 r λta w z=>?_;refine e1a2 t λtr A B=>?_;refine#[_,ur w A v,λd F R n H l a Q s G I o=>?_];refine z d F R n H _ a _ s G (λx g u J L M N p f O=>?_) o;refine B g J L n M _ a _ f N (λm h P S U W Y q Z r2 l2=>?_) λC y d' F' R' H' k c s'=>o C y d' F' R' H' k (Ch.trans s f.tab p c) s';exact I _ h (u::P) S U W Y (Ch.trans s f.tab p q) Z (.cons (f.val q O) r2) (by rw[gK,gK,l2])
def uE(h:AL X E T b w)(g:b.length<=gk:=by decide):EO X E T (.List b pos) (λ(d:D)(c:OL α->D->Prop) a=>w d (λe i=>c #[e] i) a):=by refine e1a2 h λt j k=>?_;refine#[_,N9 j,λd F R l H c a Q s m n o=>k d F R l H _ a _ s m (λe q I r J L u v f x y=>#[by rw[y];exact g,λp z=>?_]) o];refine e1a3 (wM f z x) λA B C G=>?_;exact n _ q _ _ r A _ u (Ch.trans s f.tab v B) C G
def v4{r}(t:EW X E T a w)(z:EW X E T b A)
 (B:gf [a,b] X.env=(false,eval a X.env)::gf [b] X.env:=by rfl) (G:gf [b] X.env=(false,eval b X.env)::gf [] X.env:=by rfl) :
    EW X E T (.Tuple [a,b] r pos) (λ(d:D)(l:α×β->D->Prop) e=>w d (λx h=>A h (λy i=>l (x,y) i) e) e):=by
  refine e1a2 t λta I J=>?_
  refine e1a2 z λtb L M=>?_
  refine#[_,N8<|ur I (ur L uA G) B,λd F R m H l e Q s N O n=>?_]
  refine J d F R m H _ e _ s N (λx h u P S U W o f Y=>?_) n
  refine M h P S m U _ e _ f W (λy i v Z R2 H2 q2 q g r2=>#[(by show 2<=gk;decide),λp hp=>?_]) λC y d' F' R' H' k c s'=>n C y d' F' R' H' k (Ch.trans s f.tab o c) s'
  refine e0a3 (g.new (.tup [u,v]) hp) λs3 j n3=>?_
  exact O _ i _ Z R2 _ q2 (Ch.trans s f.tab o<|Ch.trans f g.tab q j) s3 #[p,u,v,rfl,n3,uk,g.val j<|f.val q Y,g.val j r2]
def wX{R:Rg}{H:Hp}:∀{xs ys:List α} {us vs:List V},Paired (rp R H) xs us->Paired (rp R H) ys vs->Paired (rp R H) (xs++ys) (us++vs):=by
 intro _ _ _ _ z s
 induction z with
 |nil=>exact s
 |cons h t ih=>exact .cons h ih
def AD(J:ER X E T a L)(M:ER X E T b N) :
  EO X E T (.BinOp a .Add b pos) (λ(d:D)(n:OL α->D->Prop) f=>L d (λg j=>N j (λk e=>(g e).length+(k e).length<=gk/\n #[g e++k e] e) f) f):=by
 refine e1a2 J λta O P=>?_;refine e1a2 M λtb S U=>?_;refine#[_,wg V5 O S,λd F R o H n f Q s W Y t=>?_];refine P d F R o H _ f _ s W (λg j u Z R1 H1 q1 w h r1=>?_) t;refine U j Z R1 o H1 _ f _ h q1 (λk e v l x z A B i r2=>?_) λC y d' F' m H' k c s'=>t C y d' F' m H' k (Ch.trans s h.tab w c) s';obtain⟨p,us,rfl,h1,G⟩:=r1 e l x z B i;obtain⟨q,vs,rfl,k1,I⟩:=r2 e l x z (Ch.refl _ _ _ _) i;refine#[p,q,us,vs,rfl,rfl,h1,k1,by rw[<- Paired.length G,<- Paired.length I];exact A.1,λr hr=>?_];refine e1a3 (wM i hr<|wX G I) λm c3 s3 n3=>?_;exact Y _ e _ _ l m _ A.2 (Ch.trans s h.tab w<|Ch.trans h i.tab B c3) s3 n3
def LB(j:Gl X "list")(k:X.mg "list"=none)(m:ER X E T a n)(f:gf [a] X.env=(false,eval a X.env)::gf [] X.env:=by rfl) :
  EO X E T (.Call (.Name "list" p) [a] [] pos) (λ(d:D)(h:OL α->D->Prop) c=>n d (λg b=>h #[g b] b) c):=by
 refine e1a2 m λP o r=>?_;refine#[_,wK xy j k jU (ur o uA f) (he:=f),λd F R t H h c Q s v w x=>r d F R t H _ c _ s v (λg b u i y z A B e C=>?_) x];obtain⟨q,S,rfl,G,I⟩:=C b i y z (Ch.refl _ _ _ _) e;refine#[_,_,rfl,.inl<|vF.of G,λl J=>?_];refine e1a3 (wM e J I) λL M N O=>?_;exact w _ b _ _ i L _ A (Ch.trans s e.tab B M) N O
noncomputable def ins(x:Int):List Int->List Int
 | []=>[x]
 |y::r=>if x<=y then x::y::r else y::ins x r
noncomputable def AE:List Int->List Int
 | []=>[]
 |x::r=>ins x<|AE r
def zp(x:Int):∀r:List Int,(ins x r).Perm (x::r)
 | []=>nY _
 |y::r=>by
  unfold ins;split
  ·exact nY _
  ·exact((zp x r).cons y).trans<|List.Perm.swap x y r
def vO:∀r:List Int,(AE r).Perm r
 | []=>nY _
 |x::r=>(zp x<|AE r).trans<|(vO r).cons x
set_option tactic.hygienic true in
def FU(x:Int):∀r:List Int,r.Pairwise (·<=·)->(ins x r).Pairwise (·<=·)
 | [],_=>jh _ _
 |y::r,h=>by
  unfold ins;have b:=List.pairwise_cons.mp h;split
  ·rename_i a
   refine List.pairwise_cons.mpr #[λz c=>?_,h];rcases List.mem_cons.mp c with e|e
   ·rw[e];exact a
   ·exact Int.le_trans a<|b.1 z e
  ·rename_i a
   refine List.pairwise_cons.mpr #[λz c=>?_,FU x r b.2];rcases List.mem_cons.mp ((zp x r).mem_iff.mp c) with e|e
   ·rw[e];lia
   ·exact b.1 z e
def AZ:∀r:List Int,(AE r).Pairwise (·<=·)
 | []=>gU
 |x::r=>FU x _<|AZ r
def zV:∀{a b:List Int},a.Perm b->a.Pairwise (·<=·)->b.Pairwise (·<=·)->a=b
 | [],b,p,_,_=>(List.Perm.nil_eq p)
 |x::a,[],p,_,_=>gA p.length_eq q0o
 |x::a,y::b,p,c,d=>by
  have e:x=y:=by
   have f:x∈y::b:=p.mem_iff.mp gh;have g:y∈x::a:=p.mem_iff.mpr gh;rcases List.mem_cons.mp f with q|q
   ·exact q
   ·rcases List.mem_cons.mp g with z|z
    ·exact z.symm
    ·have:=(List.pairwise_cons.mp d).1 x q;have:=(List.pairwise_cons.mp c).1 y z
     lia
  subst e;rw[zV p.cons_inv (List.pairwise_cons.mp c).2 (List.pairwise_cons.mp d).2]
def Do{a:List Int}(p:a.Perm b)(h:a.Pairwise (·<=·)):a=AE b:=zV (p.trans (vO b).symm) h<|AZ b
def paired_ints{R:Rg}{H:Hp}:∀{xs:List Int} {vs:List V},Paired (rp R H) xs vs->vs=xs.map V.int:=by
 intro _ _ z
 induction z with
 |nil=>rfl
 |cons h t ih=>rw[show _=V.int _ from h,ih];rfl
def xf{R:Rg}{H:Hp}:∀xs:List Int,Paired (rp R H) xs (xs.map V.int)
 | []=>.nil
 |x::r=>.cons (rfl:rp R H x (V.int x))<|xf r
def BI{a:hW}{p:Pos}{wa:Wf D (D->List Int) D}(hg:Gl X "sorted")(hm:X.mg "sorted"=none)(ha:ER X E T a wa)(hs:gf [a] X.env=(false,eval a X.env)::gf [] X.env:=by rfl) :
  EO X E T (.Call (.Name "sorted" p) [a] [] pos) (λ(d:D)(Kn:OL Int->D->Prop) Ke=>wa d (λg d1=>(g d1).length<64/\Kn #[AE<|g d1] d1) Ke):=by
 refine e1a2 ha λta a1 a2=>?_;refine#[_,wj FQ hg hm jH (ur a1 uA hs) (he:=hs),λd F R σ H Kn Ke Q s hw kn ke=>a2 d F R σ H _ Ke _ s hw (λg d1 u F1 R1 H1 q1 c1 s1 r1=>?_) ke];obtain⟨q,us,rfl,h1,h2⟩:=r1 d1 F1 R1 H1 (Ch.refl _ _ _ _) s1;refine#[_,g d1,rfl,vF.of (by rw[h1,paired_ints h2]),q1.1,λl ns hl pn sn=>?_];rw[Do pn sn];refine e1a3 (wM s1 hl<|xf (R:=R1) (H:=H1)<|AE<|g d1) λR' c3 s3 n3=>?_;exact kn _ d1 _ _ F1 R' _ q1.2 (Ch.trans s s1.tab c1 c3) s3 n3
noncomputable def Ew{α:Type}(a:List α)(b c:Option Int):List α:=(a.drop<|HT.wp a.length 0 b).take<|HT.wp a.length a.length c-HT.wp a.length 0 b
def HX{R:Rg}{H:Hp}:∀{xs:List α} {vs:List V} (n:Nat),Paired (rp R H) xs vs->Paired (rp R H) (xs.drop n) (vs.drop n):=by
 intro _ _ n z
 induction z generalizing n with
 |nil=>cases n<;>exact .nil
 |cons h t ih=>cases n with
  |zero=>exact .cons h t
  |succ k=>exact ih k
def Cc{R:Rg}{H:Hp}:∀{xs:List α} {vs:List V} (n:Nat),Paired (rp R H) xs vs->Paired (rp R H) (xs.take n) (vs.take n)
 |_,_,0,_=>.nil
 |_,_,_+1,.nil=>.nil
 |_,_,n+1,.cons r t=>.cons r<|Cc n t
def Dr{R:Rg}{H:Hp}{xs:List α}{vs:List V}(h:Paired (rp R H) xs vs)(lo hi:Option Int):Paired (rp R H) (Ew xs lo hi) (C6 vs lo hi):=by unfold Ew C6;rw[<- Paired.length h];exact Cc _<|HX _ h
def OW(X:Cx)(E:XK)(T:cr)(e:Option hW){D:Type}[Sls D](w:Wf D (Option Int) D):Prop :=
 ∃t,PO X e t/\∀(d:D)(F R:Rg)(g:St)(H:Hp)(h:Option Int->D->Prop)(i:cr->D->Prop)(Q:Option Int->Hp->Prop),vt T F R H d g->w d h i ->
  (∀x b c f a,h x b->Ch T F R H c f a->vt T c f a b g->Q x a) ->
  (∀C y b c f a,i C b->Ch T F R H c f a->vt T c f a b g->E (.ref C) ↑y a)->t g H Q
def FV:OW X E T none (λ(d:D) a _=>a none d):=#[_,Cz,λd F R e H a f Q s b c _=>c none d F R H b (Ch.refl _ _ _ _) s]
def FW(h:EW X E T e w):OW X E T ↑e (λ(d:D) b a=>w d (λi c=>b ↑i c) a):=by refine e1a2 h λt f g=>?_;exact#[_,CA f,λd F R j H b a Q s k l m=>g d F R j H _ a _ s k (λx n u o p q r v y z=>#[x,z,l _ n o p q r v y]) m]
def HY{G:Option hW}(M:ER X E T a N)(O:OW X E T G P)(S:OW X E T U W) :
  EO X E T (.Subscript a (.Slice G U none p2) pos) (λ(d:D)(I:OL α->D->Prop) b=>N d (λg m=>P m (λl n=>W n (λh f=>I #[Ew (g f) l h] f) b) b) b):=by
 refine e1a2 M λta Y Z=>?_;refine e1a2 O λtl l1 l2=>?_;refine e1a2 S λth h1 h2=>?_;refine#[_,zh CB Y l1 h1,λd F R o H I b Q s hw kn r=>?_];refine Z d F R o H _ b _ s hw (λg m u F1 R1 H1 q1 t e r1=>?_) r;refine l2 m F1 R1 o H1 _ b _ e q1 (λl n F2 R2 H2 q2 v i=>?_) λC y w x j z k c A=>r C y w x j z k (Ch.trans s e.tab t c) A;refine h2 n F2 R2 o H2 _ b _ i q2 (λh f J R3 H3 q3 L B=>?_) λC y w x j z k c A=>r C y w x j z k (Ch.trans s e.tab t<|Ch.trans e i.tab v c) A;obtain⟨q,us,rfl,k1,k2⟩:=r1 f J R3 H3 (Ch.trans e i.tab v L) B;refine⟨q,us,rfl,vF.of k1,λp hp=>?_⟩;refine e1a3 (wM B hp<|Dr k2 l h) λj c4 s4 n4=>?_;exact kn _ f _ _ J j _ q3 (Ch.trans s e.tab t<|Ch.trans e i.tab v<|Ch.trans i B.tab L c4) s4 n4
def Cm(X:Cx)(op:qx)(g:α->β->Bool):Prop:=∃r,Ad X (iX op) r/\∀{R:Rg} {H:Hp} {x:α} {y:β} {u v:V} {Q:VK},rp R H x u->rp R H y v->Q (.bl<|g x y) H->r u v H Q
def ZX(X:Cx)(op:qx)(g:List α->List β->Bool):Prop:=∃r,Ad X (iX op) r/\∀{R:Rg} {H:Hp} {x:List α} {y:List β} {p q:cr} {us vs:List V} {Q:VK},H p=↑(.lst us)->Paired (rp R H) x us->H q=↑(.lst vs)->Paired (rp R H) y vs->Q (.bl<|g x y) H->r (.ref p) (.ref q) H Q
def CmI(X:Cx)(op:qx)(g:α->List β->Bool):Prop:=∃r,Ad X (iX op) r/\∀{R:Rg} {H:Hp} {x:α} {y:List β} {q:cr} {u:V} {vs:List V} {Q:VK},rp R H x u->H q=↑(.lst vs)->Paired (rp R H) y vs->Q (.bl<|g x y) H->r u (.ref q) H Q
def Ww(a:Ad X (iX op) (RH λi j=>.bl<|g i j)):Cm X op g:=⟨_,a,λb c k=>#[_,_,b,c,k]⟩
def O6:Cm X .Lt (λi j:Int=>decide<|i<j):=Ww UY
def Vi:Cm X .Gt (λi j:Int=>decide<|j<i):=Ww U0
def O7:Cm X .GtE (λi j:Int=>decide<|j<=i):=Ww Ya
def An[DecidableEq α][HW α]:Cm X .Eq (λx y:α=>decide<|x=y):=⟨_,X8,λa b k=>#[(HW.sc a b).1,by rw[(HW.sc a b).2];exact k]⟩
def O8[DecidableEq α][HW α]:Cm X .NotEq (λx y:α=>!decide (x=y)):=#[_,X9,λa b k=>#[(HW.sc a b).1,by rw[(HW.sc a b).2];exact k]]
def Wx:Cm X .Is (λ(x:Option α)(_:Unit)=>x.isNone):=#[_,VX,λa b k=>#[b,by rw[Lx a];exact k]]
def LC:Cm X .IsNot (λ(x:Option α)(_:Unit)=>!x.isNone):=#[_,RV,λa b k=>#[b,by rw[Lx a];exact k]]
def yN[DecidableEq α][Dat α](a:Dat.dp α<=64)(x:α):rC (Dat.dat x)=true:=by show (oy (Dat.dat x)&&decide ((Dat.dat x).depth<=64))=true;rw[hJ];exact#[Dat.lay x,decide_eq_true<|gW (Dat.dep x) a]
def JE[DecidableEq α][Dat α](b:X.A.units+64<jS)(a:Dat.dp (List α)<=64:=by decide):ZX X .Eq (λx y:List α=>decide (x=y)):=#[_,Wj b,λ{R H x y p q g h Q} c d e f k=>#[_,_,E5.lst (vF.of c) (AY d),E5.lst (vF.of e) (AY f),yN a x,yN a y,Dat.nm x y,by
 have:=Dat.sm x y
 rw[show j5 (.list (x.map Dat.dat)) (.list (y.map Dat.dat))=decide (x=y) from this];exact k]]
def Ds[DecidableEq α][Dat α](b:X.A.units+64<jS)(a:Dat.dp (List α)<=64:=by decide):ZX X .NotEq (λx y:List α=>!decide (x=y)):=#[_,Wk b,λ{R H x y p q g h Q} c d e f k=>#[_,_,E5.lst (vF.of c) (AY d),E5.lst (vF.of e) (AY f),yN a x,yN a y,Dat.nm x y,by
 have:=Dat.sm x y
 rw[show j5 (.list (x.map Dat.dat)) (.list (y.map Dat.dat))=decide (x=y) from this];exact k]]
def A1(k:Int)(a:List Int):ZO (.int k) (a.map V.int)=decide (k∈a):=by
 unfold ZO;rw[List.any_map,lp,t9,hV];constructor
 ·rintro⟨y,b,e⟩;have:y=k:=by simpa[RI] using e
  rw[<- this];exact b
 ·intro h;exact#[k,h,by simp[RI]]
def zW(a:List Int):(a.map V.int).all AN=true:=by rw[List.all_map,nP];intro x _;rfl
def Vj:CmI X .In (λ(x:Int)(ys:List Int)=>decide (x∈ys)):=#[_,EQ,λ{R H x y q u vs Q} h1 h2 h3 k=>by
 subst h1;refine#[q,vs,rfl,.inl<|vF.of h2,rfl,by rw[paired_ints h3];exact zW y,?_];rw[paired_ints h3,A1]
 exact k]
def Dt:CmI X .NotIn (λ(x:Int)(ys:List Int)=>!decide (x∈ys)):=#[_,AO,λ{R H x y q u vs Q} h1 h2 h3 k=>by
 subst h1;refine#[q,vs,rfl,.inl<|vF.of h2,rfl,by rw[paired_ints h3];exact zW y,?_];rw[paired_ints h3,A1]
 exact k]
def tw_cm{a b:hW}{op:qx}{g:α->β->Bool}{wa:Wf D α D}{wb:Wf D β D}(C:Cm X op g)(ha:EW X E T a wa)(hb:EW X E T b wb)(hm:iA op b=false:=by exact xk _) :
  TW X E T (.Compare a [op] [b] pos) (λ(d:D) Kn Ke=>wa d (λx d1=>wb d1 (λy d2=>Kn (g x y) d2) Ke) Ke):=by
 refine e1a2 C λr o1 o2=>?_;refine e1a2 ha λta a1 a2=>?_;refine e1a2 hb λtb b1 b2=>?_;refine#[_,wW o1 a1 b1 hm,λd F R σ H Kn Ke Q s hw kn ke=>?_];refine a2 d F R σ H _ Ke _ s hw (λx d1 u F1 R1 H1 q1 c1 s1 r1=>?_) ke;refine b2 d1 F1 R1 σ H1 _ Ke _ s1 q1 (λy d2 v F2 R2 H2 q2 c2 s2 r2=>?_) λC y d' F' R' H' k c s'=>ke C y d' F' R' H' k (Ch.trans s s1.tab c1 c) s';exact o2 (s1.val c2 r1) r2 #[_,rfl,kn _ d2 F2 R2 H2 q2 (Ch.trans s s1.tab c1 c2) s2]
def a1J{a b:hW}{op:qx}{g:α->β->Bool}{j:Wf D α D}{l:Wf D β D}(C:Cm X op g)(t:EW X E T a j)(w:EW X E T b l)(z:iA op b=false:=by exact xk _) :
  EW X E T (.Compare a [op] [b] pos) (λ(d:D)(m:Bool->D->Prop) e=>j d (λx h=>l h (λy i=>m (g x y) i) e) e):=by
 obtain⟨r,A,B⟩:=C;obtain⟨ta,G,I⟩:=t;obtain⟨tb,J,L⟩:=w;refine#[_,Lg A G J z,λd F R n H m e Q s M N o=>?_];refine I d F R n H _ e _ s M (λx h u O P H1 S p f U=>?_) o;refine L h O P n H1 _ e _ f S (λy i v W R2 H2 Y q Z r2=>?_) λC y d' F' R' H' k c s'=>o C y d' F' R' H' k (Ch.trans s f.tab p c) s';exact B (f.val q U) r2<|N _ i _ W R2 H2 Y (Ch.trans s f.tab p q) Z rfl
def tw_cmL{a b:hW}{op:qx}{g:List α->List β->Bool}{wa:Wf D (D->List α) D}{wb:Wf D (D->List β) D}(C:ZX X op g)(ha:ER X E T a wa)(hb:ER X E T b wb)(hm:iA op b=false:=by exact xk _) :
  TW X E T (.Compare a [op] [b] pos) (λ(d:D) Kn Ke=>wa d (λx d1=>wb d1 (λy d2=>Kn (g (x d2)<|y d2) d2) Ke) Ke):=by
 refine e1a2 C λr o1 o2=>?_;refine e1a2 ha λta a1 a2=>?_;refine e1a2 hb λtb b1 b2=>?_;refine#[_,wW o1 a1 b1 hm,λd F R σ H Kn Ke Q s hw kn ke=>?_];refine a2 d F R σ H _ Ke _ s hw (λx d1 u F1 R1 H1 q1 c1 s1 r1=>?_) ke;refine b2 d1 F1 R1 σ H1 _ Ke _ s1 q1 (λy d2 v F2 R2 H2 q2 c2 s2 r2=>?_) λC y d' F' R' H' k c s'=>ke C y d' F' R' H' k (Ch.trans s s1.tab c1 c) s';obtain⟨p,us,rfl,h1,h2⟩:=r1 d2 F2 R2 H2 c2 s2;obtain⟨q,vs,rfl,k1,k2⟩:=r2 d2 F2 R2 H2 (Ch.refl _ _ _ _) s2;exact o2 h1 h2 k1 k2 #[_,rfl,kn _ d2 F2 R2 H2 q2 (Ch.trans s s1.tab c1 c2) s2]
def Wy{a b:hW}{op:qx}{g:List α->List β->Bool}{wa:Wf D (D->List α) D}{wb:Wf D (D->List β) D}(C:ZX X op g)(ha:ER X E T a wa)(hb:ER X E T b wb)(hm:iA op b=false:=by exact xk _) :
  EW X E T (.Compare a [op] [b] pos) (λ(d:D)(Kn:Bool->D->Prop) Ke=>wa d (λx d1=>wb d1 (λy d2=>Kn (g (x d2)<|y d2) d2) Ke) Ke):=by
 refine e1a2 C λr o1 o2=>?_;refine e1a2 ha λta a1 a2=>?_;refine e1a2 hb λtb b1 b2=>?_;refine#[_,Lg o1 a1 b1 hm,λd F R σ H Kn Ke Q s hw kn ke=>?_];refine a2 d F R σ H _ Ke _ s hw (λx d1 u F1 R1 H1 q1 c1 s1 r1=>?_) ke;refine b2 d1 F1 R1 σ H1 _ Ke _ s1 q1 (λy d2 v F2 R2 H2 q2 c2 s2 r2=>?_) λC y d' F' R' H' k c s'=>ke C y d' F' R' H' k (Ch.trans s s1.tab c1 c) s';obtain⟨p,us,rfl,h1,h2⟩:=r1 d2 F2 R2 H2 c2 s2;obtain⟨q,vs,rfl,k1,k2⟩:=r2 d2 F2 R2 H2 (Ch.refl _ _ _ _) s2;exact o2 h1 h2 k1 k2<|kn _ d2 _ F2 R2 H2 q2 (Ch.trans s s1.tab c1 c2) s2 rfl
def tw_cmI{a b:hW}{op:qx}{g:α->List β->Bool}{wa:Wf D α D}{wb:Wf D (D->List β) D}(C:CmI X op g)(ha:EW X E T a wa)(hb:ER X E T b wb)(hm:iA op b=false:=by exact xk _) :
  TW X E T (.Compare a [op] [b] pos) (λ(d:D) Kn Ke=>wa d (λx d1=>wb d1 (λy d2=>Kn (g x<|y d2) d2) Ke) Ke):=by
 refine e1a2 C λr o1 o2=>?_;refine e1a2 ha λta a1 a2=>?_;refine e1a2 hb λtb b1 b2=>?_;refine#[_,wW o1 a1 b1 hm,λd F R σ H Kn Ke Q s hw kn ke=>?_];refine a2 d F R σ H _ Ke _ s hw (λx d1 u F1 R1 H1 q1 c1 s1 r1=>?_) ke;refine b2 d1 F1 R1 σ H1 _ Ke _ s1 q1 (λy d2 v F2 R2 H2 q2 c2 s2 r2=>?_) λC y d' F' R' H' k c s'=>ke C y d' F' R' H' k (Ch.trans s s1.tab c1 c) s';obtain⟨q,vs,rfl,k1,k2⟩:=r2 d2 F2 R2 H2 (Ch.refl _ _ _ _) s2;exact o2 (s1.val c2 r1) k1 k2 #[_,rfl,kn _ d2 F2 R2 H2 q2 (Ch.trans s s1.tab c1 c2) s2]
def tw_val{w:Wf D Bool D}(h:EW X E T e w)(b:∀a,qc e X.env a=(do let v <- a;md e.pos;jY [v] (tJ v)):=by intro _;rfl):TW X E T e w:=by refine e1a2 h λt c f=>?_;exact#[_,VB c b,λd F R g H A i Q s j k l=>f d F R g H _ i _ s j (λx m u n o p q r y z=>#[x,z,k _ m n o p q r y]) l]
def tw_not{w:Wf D Bool D}(h:TW X E T e w):TW X E T (.UnaryOp .Not e pos) (λd f a=>w d (λb c=>f (!b) c) a):=by refine e1a2 h λt g i=>?_;exact#[_,VD g,λd F R j H f a Q s k l m=>i d F R j H _ a _ s k (λx c n o p q r u=>l _ c n o p q r u) m]
def WW(X:Cx)(E:XK)(T:cr)(e:hW){D:Type}[Sls D](w:Wf D Bool D):Prop :=
 ∃t,PW X e t/\∀(d:D)(F R:Rg)(g:St)(H:Hp)(h:Bool->D->Prop)(i:cr->D->Prop)(Q:Bool->Hp->Prop),vt T F R H d g->w d h i ->
  (∀x b c f a,h x b->Ch T F R H c f a->vt T c f a b g->Q x a) ->
  (∀C y b c f a,i C b->Ch T F R H c f a->vt T c f a b g->E (.ref C) ↑y a)->t g H Q
def tw_w{w:Wf D Bool D}(h:WW X E T e w):TW X E T e w:=e1a2 h λt a b=> #[t,a.pt,b]
def FX{w:Wf D Bool D}(h:TW X E T a w):WW X E T (.BoolOp .And [a] pos) w:=e1a2 h λt b c=> #[_,RS b,c]
def JF{w:Wf D Bool D}(h:TW X E T a w):WW X E T (.BoolOp .Or [a] pos) w:=e1a2 h λt b c=> #[_,NT b,c]
def JG{e:List hW}{l m:Wf D Bool D}(v:TW X E T a l)(w:WW X E T (.BoolOp .And (b::e) pos) m):WW X E T (.BoolOp .And (a::b::e) pos) (λd i f=>l d (λx g=>if x=true then m g i f else i false g) f):=by
 refine e1a2 v λta z A=>?_;refine e1a2 w λtb B G=>?_;refine#[_,VC z B,λd F R n H i f Q s I o p=>?_];refine A d F R n H _ f _ s I (λx g q r t u j h=>?_) p
 cases x with
 |true=>exact G g q r n t _ f _ h u (λy J L M N O P S=>o _ J L M N O (Ch.trans s h.tab j P) S) λC y U W Y Z k c s'=>p C y U W Y Z k (Ch.trans s h.tab j c) s'
 |false=>exact o _ g q r t u j h
def O9{e:List hW}{l m:Wf D Bool D}(v:TW X E T a l)(w:WW X E T (.BoolOp .Or (b::e) pos) m):WW X E T (.BoolOp .Or (a::b::e) pos) (λd i f=>l d (λx g=>if x=true then i true g else m g i f) f):=by
 refine e1a2 v λta z A=>?_;refine e1a2 w λtb B G=>?_;refine#[_,UT z B,λd F R n H i f Q s I o p=>?_];refine A d F R n H _ f _ s I (λx g q r t u j h=>?_) p
 cases x with
 |false=>exact G g q r n t _ f _ h u (λy J L M N O P S=>o _ J L M N O (Ch.trans s h.tab j P) S) λC y U W Y Z k c s'=>p C y U W Y Z k (Ch.trans s h.tab j c) s'
 |true=>exact o _ g q r t u j h
def FY{op}{w:Wf D Bool D}(h:EW X E T a w):EW X E T (.BoolOp op [a] pos) w:=e1a2 h λt b c=> #[_,VE b,c]
def Pa{e:List hW}(t:EW X E T a w)(z:EW X E T (.BoolOp .And (b::e) pos) A):EW X E T (.BoolOp .And (a::b::e) pos) (λ(d:D)(i:Bool->D->Prop) f=>w d (λx g=>if x=true then A g i f else i false g) f):=by
 refine e1a2 t λta B G=>?_;refine e1a2 z λtb I J=>?_;refine#[_,VF B I,λd F R l H i f Q s L m n=>?_];refine G d F R l H _ f _ s L (λx g u o p q r j h M=>#[x,M,?_]) n
 cases x with
 |true=>exact J g o p l q _ f _ h r (λy N v O P S U W Y Z=>m _ N v O P S U (Ch.trans s h.tab j W) Y Z) λC y d' F' R' H' k c s'=>n C y d' F' R' H' k (Ch.trans s h.tab j c) s'
 |false=>exact m _ g _ o p q r j h rfl
def YG{e:List hW}(t:EW X E T a w)(z:EW X E T (.BoolOp .Or (b::e) pos) A):EW X E T (.BoolOp .Or (a::b::e) pos) (λ(d:D)(i:Bool->D->Prop) f=>w d (λx g=>if x=true then i true g else A g i f) f):=by
 refine e1a2 t λta B G=>?_;refine e1a2 z λtb I J=>?_;refine#[_,X2 B I,λd F R l H i f Q s L m n=>?_];refine G d F R l H _ f _ s L (λx g u o p q r j h M=>#[x,M,?_]) n
 cases x with
 |false=>exact J g o p l q _ f _ h r (λy N v O P S U W Y Z=>m _ N v O P S U (Ch.trans s h.tab j W) Y Z) λC y d' F' R' H' k c s'=>n C y d' F' R' H' k (Ch.trans s h.tab j c) s'
 |true=>exact m _ g _ o p q r j h rfl
def Wz(h:EW X E T a w):EW X E T (.UnaryOp .Not a pos) (λ(d:D)(f:Bool->D->Prop) c=>w d (λb e=>f (!b) e) c):=by refine e1a2 h λt g i=>?_;exact#[_,VG g,λd F R j H f c Q s k l m=>i d F R j H _ c _ s k (λx e u n o p q r v y=>#[x,y,l _ e _ n o p q r v rfl]) m]
end
variable[L2.GX]
class SU(τ:Type)[Ow τ]:Prop where
 fr:∀{F R L:Rg} {H:Hp} {x:τ} {v:Option V},sl F R H x v->(∀a,L a->∃us,H a=↑(.lst us))->sl F (λa=>R a\/L a) H x v
class JH(α:Type)[Rep α]:Prop where
 no:∀{R L:Rg} {H:Hp} {x:α} {v:V},rp R H x v->(∀a,L a->∃us,H a=↑(.lst us))->rp (λa=>R a\/L a) H x v
instance:JH Int:=#[λh _=>h]
instance:JH Bool:=#[λh _=>h]
instance{α β:Type}[Rep α][Rep β][JH α][JH β]:JH (α×β):=#[λ{R L H x v} h k=>by
 obtain⟨a,u,w,h1,h2,h3,h4,h5⟩:=h
 exact#[a,u,w,h1,λz=>z.elim h2 λq=>(by obtain⟨us,e⟩:=k a q;rw[h3]at e;cases e),h3,JH.no h4 k,JH.no h5 k]]
def LD{α:Type}[Rep α][JH α]{R L:Rg}{H:Hp}(k:∀a,L a->∃us,H a=↑(.lst us)):∀{xs:List α} {vs:List V},Paired (rp R H) xs vs->Paired (rp (λa=>R a\/L a) H) xs vs:=by
 intro _ _ z
 induction z with
 |nil=>exact .nil
 |cons h t ih=>exact .cons (JH.no h k) ih
instance{α:Type}[Rep α][JH α]:JH (Tp α):=#[λ{R L H x v} h k=>by
 refine e2a4 h λa vs h1 h2 h3 h4=>?_
 exact#[a,vs,h1,λz=>z.elim h2 λq=>(by obtain⟨us,e⟩:=k a q;rw[h3]at e;cases e),h3,LD k h4]]
instance{α:Type}[Rep α][JH α]:SU α:=#[λ{F R L H x v} h k=>by
 obtain⟨h1,u,e,h2⟩:=h
 exact#[h1,u,e,JH.no h2 k]]
instance{α:Type}[Rep α][JH α]:SU (OL α):=#[λ{F R L H x v} h k=>by
 refine e2a4 h λa vs h1 h2 h3 h4=>?_
 exact#[a,vs,h1,h2,h3,LD k h4]]
instance:SU Un:=#[λh _=>h]
class XH(P:Type)[Sls P]:Prop where
 fr:∀{F R L:Rg} {H:Hp} {x:P} {v:St},rel F R H x v->(∀a,L a->∃us,H a=↑(.lst us))->rel F (λa=>R a\/L a) H x v
instance:XH Unit:=#[λh _=>h]
instance{τ P:Type}[Ow τ][Sls P][SU τ][XH P]:XH (τ×P):=#[λh k=>by
 refine e4a4 h λv σ' F1 F2 h1 h2 h3 h4=>?_
 exact#[v,σ',F1,F2,h1,h2,SU.fr h3 k,XH.fr h4 k]]
class WA(P:Type)[Sls P]:Prop where
 ls:∀{F R:Rg} {H:Hp} {x:P} {v:St},rel F R H x v->∀a,F a->∃us,H a=↑(.lst us)
instance:WA Unit:=#[λh a z=>gA z (h.2 a)]
instance{α P:Type}[Rep α][Sls P][WA P]:WA (OL α×P):=#[λ{F R H x v} h a z=>by
 obtain⟨v,σ',F1,F2,h1,h2,⟨b,vs,k1,k2,k3,k4⟩,h4⟩:=h;rcases(h2.all a).mp z with q|q
 ·rw[(k2 a).mp q];exact#[vs,k3]
 ·exact WA.ls h4 a q]
abbrev Wo(R L:Rg):Rg:=λa=>R a/\¬L a
def BJ(R L:Rg)(H:Hp):Ext (λ_=>False) R H (Wo R L) H:=#[λ_ _ _ h=>h,λa h=>.inl h.1]
def SV(h:∀a,L a->b a):Ext (λ_=>False) (Wo R L) H (Wo R b) H:=#[λ_ _ _ h=>h,λa z=>.inl #[z.1,λq=>z.2<|h a q]]
def Sls.wk{D:Type}[Sls D]{F R R':Rg}{H:Hp}{d:D}{σ:St}(h:rel F R H d σ)(e:Ext (λ_=>False) R H R' H):rel F R' H d σ:=Sls.st h e (λ_ z=>z.elim)<|λ_ _ z=>z
def Ow.wk{τ:Type}[Ow τ]{F R R':Rg}{H:Hp}{d:τ}{σ:Option V}(h:sl F R H d σ)(e:Ext (λ_=>False) R H R' H):sl F R' H d σ:=Ow.st h e (λ_ z=>z.elim)<|λ_ _ z=>z
class Lb(Lc τ PO:Type)[Sls Lc][Ow τ][Sls PO]:Prop where
 fr:∀{F R L R0:Rg} {H:Hp} {x:τ} {v:Option V} {l:Lc} {us:St},rel L R0 H l us->sl F R H x v->sl F (λa=>R a\/L a) H x v
 fs:∀{F R L R0:Rg} {H:Hp} {x:PO} {v:St} {l:Lc} {us:St},rel L R0 H l us->rel F R H x v->rel F (λa=>R a\/L a) H x v
instance{Lc τ PO:Type}[Sls Lc][Ow τ][Sls PO][SU τ][XH PO][WA Lc]:Lb Lc τ PO:=#[λh k=>SU.fr k (WA.ls h),λh k=>XH.fr k (WA.ls h)]
def Pb{R L:Rg}{H:Hp}(h:∀a,¬L a):Ext (λ_=>False) R H (λa=>R a\/L a) H:=#[λ_ _ _ h=>h,λa z=>z.elim .inl λq=>gA q<|h a]
instance(priority:=high){τ PO:Type}[Ow τ][Sls PO]:Lb Unit τ PO:=#[λh k=>Ow.wk k (Pb h.2),λh k=>Sls.wk k (Pb h.2)]
structure Du(F F1 F2 F3:Rg):Prop where
 all:∀a,F a↔F1 a\/F2 a\/F3 a
 Hl:∀a,F1 a->F2 a->False
 IN:∀a,F1 a->F3 a->False
 IP:∀a,F2 a->F3 a->False
def JI(X:Cx)(E:XK)(T:cr)(M:List hW){D P n B j:Type}[Sls D][Sls P][Sls n][Sls B][Sls j](k:B->j->n->D)(w:D->(P->B->j->Prop)->(cr->D->Prop)->Prop):Prop :=
 ∃t,PA X M t/\∀(d:D)(F R:Rg)(g:St)(H:Hp)(o:P->B->j->Prop)(q:cr->D->Prop)(Q:List V->Hp->Prop),vt T F R H d g->w d o q ->
  (∀p b l m r s u L h f a,o p b l->Ch T F R H h f a->Std T h f a->Du h s u L->rel s (Wo f L) a p (m.map some)->rel u f a b g->rel L f a l r ->
   (∀v x z A G i c e I,rel z c e I (m.map some)->rel A c e v g->rel G c e x r->Du i z A G->rel i c e (k v x I) g)->Q m a) ->
  (∀C y J h f a,q C J->Ch T F R H h f a->vt T h f a J g->E (.ref C) ↑y a)->t g H Q
section
variable{D:Type}[Sls D]
def ui:JI X E T [] (λ(b:D)(_:Unit)(_:Unit)=>b) (λ(d:D)(c:Unit->D->Unit->Prop) _=>c () d ()):=by refine#[_,uA,λd F R m H c n Q s e f _=>?_];exact f () d () [] [] (λ_=>False) F (λ_=>False) F R H e (Ch.refl _ _ _ _) s.FT #[λa=>#[λz=>.inr<|.inl z,λz=>z.elim (λq=>q.elim) λz=>z.elim id λq=>q.elim],λ_ z=>z.elim,λ_ z=>z.elim,λ_ _ z=>z] #[rfl,λ_ z=>z] s.rel #[rfl,λ_ z=>z] λo p r u v g h i w j k l t=>Sls.fq k λa=>#[λz=>(t.all a).mpr<|.inr<|.inl z,λz=>((t.all a).mp z).elim (λq=>gA q<|j.2 a) λz=>z.elim id λq=>gA q<|l.2 a]
def um{h:List hW}{n P o B a:Type}[Rep n][Sls P][Sls o][Sls B][Sls a]{f:B->a->o->D}{I:Wf D n D}{J:D->(P->B->a->Prop)->(cr->D->Prop)->Prop}
 (Y:EW X E T e I) (Z:JI X E T h f J) (hs:gf (e::h) X.env=(false,eval e X.env)::gf h X.env:=by rfl) :
    JI X E T (e::h) (λ(b:B)(l:a)(p:Un×o)=>f b l p.2) (λ(d:D)(M:n×P->B->a->Prop) g=>I d (λx q=>J q (λp b l=>M (x,p) b l) g) g):=by
  refine e1a2 Y λta a1 a2=>?_
  refine e1a2 Z λtr b1 b2=>?_
  refine#[_,ur a1 b1 hs,λd F R N H M g Q s hw kn O=>?_]
  refine a2 d F R N H _ g _ s hw (λx q u F1 R1 H1 q1 S i r1=>?_) O
  refine b2 q F1 R1 N H1 _ g _ i q1 (λp b l U us r G2 L v j m q2 W s2 t2 h1 h2 hl k=>?_) λC y d' v j m k c s'=>O C y d' v j m k (Ch.trans s i.tab S c) s'
  refine kn (x,p) b l (u::U) us r G2 L v j m q2 (Ch.trans s i.tab S W) s2 t2 #[↑u,U.map some,λ_=>False,r,rfl,two_nil r,#[λ_ z=>z,u,rfl,Rep.st (i.val W r1)<|(BJ j L m).wide λ_ z=>z.elim],h1] h2 hl λb' l' L1 L2 L3 w A G p' h3 h4 h5 t=>?_
  refine e4a4 h3 λv' aa M1 M2 z1 z2 z3 z4=>?_
  injection z1 with _ z5
  subst z5
  exact k b' l' L1 L2 L3 w A G p'.2 (Sls.fq z4<|two_eq z2 z3) h4 h5 t
def uK{o:List hW}(i:Nat){c S P w B g h:Type}[Ow c][Hs c][Sls S][Sls P][Sls w][Sls B][Sls g][Sls h]{j:B->h->w->D}{W:D->(P->B->h->Prop)->(cr->D->Prop)->Prop}
 [A0:At i D c S] [A:At i B c g] [U:Pt i g c B] (hr:JI X E T o j W) (he:PE X (.Name x pos) (uR i):=by exact pv _) (hs:gf (.Name x pos::o) X.env=(false,eval (.Name x pos) X.env)::gf o X.env:=by rfl) :
    JI X E T (.Name x pos::o) (λ(b:g)(l:h)(p:c×w)=>j (U.put b p.1) l p.2) (λ(d:D)(Y:c×P->g->h->Prop) y=>W d (λp b l=>Y (A.get b,p) (A.hole b) l) y):=by
  refine e1a2 hr λtr b1 b2=>?_
  refine#[_,ur he b1 hs,λd F R σ H Y y Q s hw kn ke=>?_]
  refine e3a4 (A0.take s.rel) λv _ _ C _ G _=>?_
  obtain⟨u,rfl⟩:=Hs.has G
  refine#[u,C,b2 d F R σ H _ y _ s hw (λp b l Z us G1 G2 L F' R' H' q2 c2 s2 e h1 h2 hl k=>?_) ke]
  refine e3a4 (A.take h2) λv' I M2 z1 r z3 z4=>?_
  rw[C]at z1
  cases z1
  have m1:∀a,I a->G2 a:=λa m=>(r.all a).mpr<|.inl m
  have m2:∀a,M2 a->G2 a:=λa m=>(r.all a).mpr<|.inr m
  refine kn (A.get b,p) (A.hole b) l (u::Z) us (λa=>I a\/G1 a) M2 L F' R' H' q2 c2 s2 #[λa=>?_,λa m n=>?_,λa m n=>?_,λa m n=>e.IP a (m2 a m) n] #[↑u,Z.map some,I,G1,rfl,#[λ_=>Iff.rfl,λa m n=>e.Hl a n<|m1 a m],Ow.wk z3<|BJ R' L H',h1] z4 hl λb' l' L1 L2 L3 J M N p' h3 h4 h5 t=>?_
  · rw[e.all, r.all]
    exact#[λz=>z.elim (λq=>.inl<|.inr q) λz=>z.elim (λz=>z.elim (λq=>.inl<|.inl q) λq=>.inr<|.inl q) λq=>.inr<|.inr q,λz=>z.elim (λz=>z.elim (λq=>.inr<|.inl<|.inl q) .inl) λz=>z.elim (λq=>.inr<|.inl<|.inr q) λq=>.inr<|.inr q]
  · rcases m with m|m
    · exact r.xt a m n
    · exact e.Hl a m<|m2 a n
  · rcases m with m|m
    · exact e.IP a (m1 a m) n
    · exact e.IN a m n
  · refine e4a4 h3 λv' aa O N2 y1 f y3 y4 => ?_
    injection y1 with y5 y6
    subst y5;subst y6
    have tt:Cv (λa=>O a\/L2 a) O L2:=#[λ_=>Iff.rfl,λa m n=>t.Hl a ((f.all a).mpr<|.inl m) n]
    refine k _ l' N2 (λa=>O a\/L2 a) L3 J M N p'.2 y4 (Pt.same (A:=U) h4 C tt y3) h5 #[λa=>?_,λa m n=>?_,λa m n=>t.IN a ((f.all a).mpr<|.inr m) n,λa m n=>?_]
    · rw[t.all, f.all]
      exact#[λz=>z.elim (λz=>z.elim (λq=>.inr<|.inl<|.inl q) .inl) λz=>z.elim (λq=>.inr<|.inl<|.inr q) λq=>.inr<|.inr q,λz=>z.elim (λq=>.inl<|.inr q) λz=>z.elim (λz=>z.elim (λq=>.inl<|.inl q) λq=>.inr<|.inl q) λq=>.inr<|.inr q]
    · rcases n with n|n
      · exact f.xt a n m
      · exact t.Hl a ((f.all a).mpr<|.inr m) n
    · rcases m with m|m
      · exact t.IN a ((f.all a).mpr<|.inl m) n
      · exact t.IP a m n
def uY{u:List hW}(i:Nat){e W P y B h j:Type}[Rep e][Sls W][Sls P][Sls y][Sls B][Sls h][Sls j]{o:B->j->y->D}{Y:D->(P->B->j->Prop)->(cr->D->Prop)->Prop}
 [A0:At i D (OL e) W] [A:At i B (OL e) h] [U:Pt i h (OL e) B] (hr:JI X E T u o Y) (he:PE X (.Name x pos) (uR i):=by exact pv _) (hs:gf (.Name x pos::u) X.env=(false,eval (.Name x pos) X.env)::gf u X.env:=by rfl) :
    JI X E T (.Name x pos::u) (λ(b:h)(l:OL e×j)(p:Un×y)=>o (U.put b l.1) l.2 p.2) (λ(d:D)(Z:List e×P->h->OL e×j->Prop) C=>Y d (λp b l=>Z ((A.get b).l,p) (A.hole b) (A.get b,l)) C):=by
  refine e1a2 hr λtr b1 b2=>?_
  refine#[_,ur he b1 hs,λd F R σ H Z C Q s hw kn ke=>?_]
  obtain⟨v,_,_,G,_,⟨r,_,rfl,_⟩,_⟩:=A0.take s.rel
  refine#[_,G,b2 d F R σ H _ C _ s hw (λp b l vs us I G2 L F' R' H' q2 c2 s2 f h1 h2 hl k=>?_) ke]
  refine e3a4 (A.take h2) λv' J M2 z1 w z3 z4=>?_
  rw[G]at z1
  cases z1
  refine e2a4 (id z3) λa ws e1 e2 e3 e4=>?_
  cases e1
  have m1:∀a,J a->G2 a:=λa m=>(w.all a).mpr<|.inl m
  have m2:∀a,M2 a->G2 a:=λa m=>(w.all a).mpr<|.inr m
  refine kn ((A.get b).l,p) (A.hole b) (A.get b,l) (.ref r::vs) (↑(.ref r)::us) I M2 (λc=>J c\/L c) F' R' H' q2 c2 s2 #[λa=>?_,λa m n=>f.Hl a m<|m2 a n,λa m n=>?_,λa m n=>?_] #[some<|.ref r,vs.map some,λ_=>False,I,rfl,two_nil I,#[λ_ z=>z,_,rfl,r,ws,rfl,λz=>z.2<|.inl<|(e2 r).mpr rfl,e3,vz ((BJ R' _ H').wide λ_ z=>z.elim) e4],Sls.wk h1<|SV λ_ z=>.inr z] z4 #[_,us,J,L,rfl,#[λ_=>Iff.rfl,λa m n=>f.IP a (m1 a m) n],z3,hl] λb' l' L1 L2 L3 M N O p' h3 h4 h5 t=>?_
  · rw[f.all, w.all]
    exact#[λz=>z.elim .inl λz=>z.elim (λz=>z.elim (λq=>.inr<|.inr<|.inl q) λq=>.inr<|.inl q) λq=>.inr<|.inr<|.inr q,λz=>z.elim .inl λz=>z.elim (λq=>.inr<|.inl<|.inr q) λz=>z.elim (λq=>.inr<|.inl<|.inl q) λq=>.inr<|.inr q]
  · rcases n with n|n
    · exact f.Hl a m<|m1 a n
    · exact f.IN a m n
  · rcases n with n|n
    · exact w.xt a n m
    · exact f.IP a (m2 a m) n
  · refine e4a4 h3 λv' aa N1 N2 y1 y2 y3 y4 => ?_
    injection y1 with _ y6
    subst y6
    refine e4a4 h5 λv2 ab S K2 x1 g x3 x4=>?_
    injection x1 with x5 x6
    subst x5;subst x6
    have tt:Cv (λa=>S a\/L2 a) S L2:=#[λ_=>Iff.rfl,λa m n=>t.IP a n<|(g.all a).mpr<|.inl m]
    refine k _ l'.2 L1 (λa=>S a\/L2 a) K2 M N O p'.2 (Sls.fq y4<|two_eq y2 y3) (Pt.same (A:=U) h4 G tt x3) x4 ⟨λa=>?_,λa m n=>?_,λa m n=>t.IN a m<|(g.all a).mpr<|.inr n,λa m n=>?_⟩
    · rw[t.all, g.all]
      exact#[λz=>z.elim .inl λz=>z.elim (λq=>.inr<|.inl<|.inr q) λz=>z.elim (λq=>.inr<|.inl<|.inl q) λq=>.inr<|.inr q,λz=>z.elim .inl λz=>z.elim (λz=>z.elim (λq=>.inr<|.inr<|.inl q) λq=>.inr<|.inl q) λq=>.inr<|.inr<|.inr q]
    · rcases n with n|n
      · exact t.IN a m<|(g.all a).mpr<|.inl n
      · exact t.Hl a m n
    · rcases m with m|m
      · exact g.xt a m n
      · exact t.IP a m<|(g.all a).mpr<|.inr n
def Dv{P J B Lc M:Type}[Sls P][Sls J][Sls B][Sls Lc][Ow M][Lb Lc M J]{mrg:B->Lc->J->D}{wf:Wf P M J}{F R F1 F2 L:Rg}{H:Hp}{b:B}{l:Lc}{p:P}{σ:St}{vs:List V}{us:St}{Kn:M->D->Prop}{Ke:cr->D->Prop}{Q:VK}
  (s:Std T F R H) (t:Du F F1 F2 L) (hp:rel F1 (Wo R L) H p (vs.map some)) (hb:rel F2 R H b σ) (hl:rel L R H l us) (km:∀b' l' G1 G2 G3 W u w r,rel G1 u w r (vs.map some)->rel G2 u w b' σ->rel G3 u w l' us->Du W G1 G2 G3->rel W u w (mrg b' l' r) σ)
  (hw:wf p (λx r=>Kn x<|mrg b l r) (λC r=>Ke C<|mrg b l r))
  (kn:∀x X v M1 N i d,Kn x X->Ch T F R H (λa=>M1 a\/N a) i d->vt T N i d X σ->Nw T M1 N i d x v->Q v d)
  (ke:∀C y X Y i d,Ke C X->Ch T F R H Y i d->vt T Y i d X σ->E (.ref C) ↑y d):xR T wf vs H Q E:=by
 have O:∀a,F1 a->F a:=λa h=>(t.all a).mpr<|.inl h;have S:∀a,F2 a->F a:=λa h=>(t.all a).mpr<|.inr<|.inl h;have k:∀a,L a->F a:=λa h=>(t.all a).mpr<|.inr<|.inr h;have s1:vt T F1 (Wo R L) H p (vs.map some):=⟨hp,λa h=>#[s.sub a<|O a h,λz=>t.IN a h z],λa h=>s.wy a h.1,s.tab,#[s.u4,λz=>s.uP<|k T z],λh=>s.uP<|O T h⟩
 -- the region aa it: Z the ab left and Z ah ag
 have ex:∀{G i:Rg} {d:Hp},Ch T F1 (Wo R L) H G i d->Ext (λa=>F1 a\/a=T) R H (λa=>i a\/L a) d:=λc=>#[λb o n h=>c.keep b o (λz=>n<|.inl z) (λz=>n<|.inr z) h,λa h=>h.elim (λz=>(c.zn a z).elim (λq=>.inl q.1) .inr) λz=>.inl<|s.sub a<|k a z];have gs:∀a,(F1 a\/a=T)->R a:=λa h=>h.elim (λz=>s.sub a<|O a z) λq=>by rw[q];exact s.u4
 have fr:∀{G i:Rg} {d:Hp},Ch T F1 (Wo R L) H G i d->rel F2 (λa=>i a\/L a) d b σ:=λc=>Sls.st hb (ex c) gs λa h z=>z.elim (λq=>t.Hl a q h) λq=>s.uP (by rw[<- q];exact S a h);have A:∀{G i:Rg} {d:Hp},Ch T F1 (Wo R L) H G i d->rel L (λa=>i a\/L a) d l us:=λc=>Sls.st hl (ex c) gs λa h z=>z.elim (λq=>t.IN a q h) λq=>s.uP (by rw[<- q];exact k a h)
 have nF:∀{G i:Rg} {d:Hp},Ch T F1 (Wo R L) H G i d->∀a,G a->F2 a\/L a->False:=λc a g f=>by
  rcases c.xB a g with q|q
  ·exact f.elim (t.Hl a q)<|t.IN a q
  ·exact s.wy a (s.sub a<|f.elim (S a)<|k a) q
 have nR:∀{G i:Rg} {d:Hp},Ch T F1 (Wo R L) H G i d->∀a,L a->¬i a:=λc a h z=>by
  rcases c.zn a z with q|q
  ·exact q.2 h
  ·exact s.wy a (s.sub a<|k a h) q
 have ch:∀{G i:Rg} {d:Hp},Ch T F1 (Wo R L) H G i d->Ch T F R H (λa=>G a\/F2 a\/L a) (λa=>i a\/L a) d:=λc=>#[λb o n m h=>c.keep b o (λz=>n<|O b z) m h,(ex c).new,λa h=>h.elim (λq=>(c.xB a q).elim (λz=>.inl<|O a z) .inr) λq=>.inl<|q.elim (S a)<|k a,λa h n=>.inl<|c.left a ⟨h,λz=>n<|k a z⟩ λz=>n<|O a z];have ae:∀{G i:Rg} {d:Hp},Ch T F1 (Wo R L) H G i d->∀a,F2 a->i a:=λc a f=>c.left a #[s.sub a<|S a f,λz=>t.IP a f z] λz=>t.Hl a z f
 have af:∀{G i:Rg} {d:Hp},Ch T F1 (Wo R L) H G i d->(∀a,i a->d a≠none)->∀a,i a\/L a->d a≠none:=λc h a z=>z.elim (h a) λq=>by
  cases e:H a with
  |none=>exact gA e<|s.wy a<|s.sub a<|k a q
  |some o=>rw[c.keep a o (λz=>t.IN a z q) (λz=>s.uP<|by rw[<- z];exact k a q) e];simp
 refine#[F1,Wo R L,p,_,_,s1,hw,λx r v M1 N i d q c j n=>?_,λC y r Y i d q c j=>?_]
 ·have U:=nF c;have kl:=A c;have I:=ch c;refine kn x _ v M1 (λa=>N a\/F2 a\/L a) (λa=>i a\/L a) d q #[I.keep,I.zn,λa h=>I.xB a<|h.elim (λz=>.inl<|.inl z) λz=>z.elim (λq=>.inl<|.inr q) .inr,I.left] ⟨km b l N F2 L _ _ d r (Lb.fs M kl j.rel) (fr c) (A c) ⟨λ_=>Iff.rfl,λa m f=>U a (.inr m)<|.inl f,λa m f=>U a (.inr m)<|.inr f,t.IP⟩,λa h=>h.elim (λz=>.inl<|j.sub a z) λz=>z.elim (λq=>.inl<|ae c a q) .inr,af c j.wy,j.tab,.inl j.u4,λh=>h.elim j.uP λz=>z.elim (λq=>s.uP<|S T q) λq=>s.uP<|k T q⟩ ⟨Lb.fr J kl n.is,λa m=>.inl<|n.sub a m,λa m z=>z.elim (n.xt a m) λz=>U a (.inl m) z,n.tab⟩
 ·have U:=nF c;have kl:=A c;exact ke C y _ (λa=>Y a\/F2 a\/L a) (λa=>i a\/L a) d q (ch c) #[km b l Y F2 L _ _ d r (Lb.fs M kl j.rel) (fr c) (A c) #[λ_=>Iff.rfl,λa m f=>U a m<|.inl f,λa m f=>U a m<|.inr f,t.IP],λa h=>h.elim (λz=>.inl<|j.sub a z) λz=>z.elim (λq=>.inl<|ae c a q) .inr,af c j.wy,j.tab,.inl j.u4,λh=>h.elim j.uP λz=>z.elim (λq=>s.uP<|S T q) λq=>s.uP<|k T q]
def Pc{P j B o:Type}[Sls P][Sls j][Sls B][Ow o]{mrg:B->j->D}{wf:Wf P o j}{F R F1 F2:Rg}{H:Hp}{b:B}{p:P}{σ:St}{r:List V}{Kn:o->D->Prop}{Ke:cr->D->Prop}{Q:VK}
  (s:Std T F R H) (t:Cv F F1 F2) (I:rel F1 R H p (r.map some)) (J:rel F2 R H b σ) (M:∀k m n e c d f,rel m c d f (r.map some)->rel n c d k σ->Cv e m n->rel e c d (mrg k f) σ)
  (hw:wf p (λx f=>Kn x<|mrg b f) (λC f=>Ke C<|mrg b f))
  (N:∀x i v w u h g,Kn x i->Ch T F R H (λa=>w a\/u a) h g->vt T u h g i σ->Nw T w u h g x v->Q v g)
  (O:∀C y i A h g,Ke C i->Ch T F R H A h g->vt T A h g i σ->E (.ref C) ↑y g):xR T wf r H Q E :=
 Dv (Lc:=Unit) (L:=λ_=>False) (l:=()) (us:=[]) (mrg:=λb _ p=>mrg b p) s #[λa=>(t.all a).trans #[λz=>z.elim .inl λq=>.inr<|.inl q,λz=>z.elim .inl λq=>q.elim .inr gX],t.xt,λ_ _ z=>z,λ_ _ z=>z] (Sls.wk I<|BJ _ _ _) J ⟨rfl,λ_ z=>z⟩
  (λk _ m n X e c d f S U W G=>M k m n e c d f S U #[λa=>(G.all a).trans #[λz=>z.elim .inl λq=>q.elim .inr λq=>gA q<|W.2 a,λz=>z.elim .inl λq=>.inr<|.inl q],G.Hl]) hw N O
def A4{P j B o r:Type}[Sls P][Sls j][Sls B][Sls o][Ow r][Lb o r j]{a:B->o->j->D}{Y:Wf P r j}{Z:D->(P->B->o->Prop)->(cr->D->Prop)->Prop}{k:Nat}{ps:List Str}{m:List hW}
 (F:uO X.prog X.w X.K X.mg X.base (uW X.prog X.w) k f fd ps (xR T Y)) (hr:vI k X.A) (hg:Gl X x) (hm:X.mg x=↑(.ref f)) (hk:iI X.K (.ref f)=true) (hb:Binds X.K fd ps []) (hx:Passes (uW X.prog X.w) X E)
 (ha:JI X E T (e::m) a Z) (z:(x==("__debug__":Str))=false:=by decide) (he:gf (e::m) X.env=(false,eval e X.env)::gf m X.env:=by rfl) (I:(iN pos<|gf m X.env).any (·.1)=false:=by rfl) :
    EO X E T (.Call (.Name x p) (e::m) [] pos) (λ(d:D)(Kn:r->D->Prop) u=>Z d (λp b l=>Y p (λx J=>Kn x<|a b l J)<|λC J=>u C<|a b l J) u):=by
  refine e1a2 ha λt a1 a2=>?_
  refine#[_,RZ F hr hg hm hk hb .nil hx a1 z he I,λd F' R σ H Kn u Q s hw kn ke=>?_]
  refine a2 d F' R σ H _ u _ s hw (λp b l vs us F1 F2 L G R' H' q c M tw h1 h2 h3 km=>?_) ke
  rw[jP]
  exact Dv M tw h1 h2 h3 km q (λx N v M1 M2 g h O S i n=>kn x N v M1 M2 g h O (Ch.trans s M.tab c S) i n) λC y N U g h O S i=>ke C y N U g h O (Ch.trans s M.tab c S) i
class Obj(τ:Type)[Ow τ](K:f9)(C:cr)(m:Str):Prop where
 ob:∀{F R:Rg} {H:Hp} {x:τ} {v:V},sl F R H x ↑v->∃a dx fs,v=.ref a/\H a=↑(.ins C dx fs)/\fs.lookup m=none
end
section
variable{D PO τ:Type}[Sls D][Sls PO][Ow τ]{α:Type}[Rep α]
def yO{F:Rg}:Ext (λc=>c=a) R H R (upd H a o):=#[λb u n h=>by rw[uh n];exact h,λ_ h=>.inl h]
def A5{i:Nat}{D0:Type}[Sls D0][A:At i D (OL α) D0][U:Pt i D0 (OL α) D]{F R:Rg}{H:Hp}{d:D}{σ:St}(s:vt T F R H d σ):∃a vs,σ[i]?=↑(some<|.ref a)/\H a=↑(.lst vs)/\Paired (rp R H) (A.get d).l vs /\
  ∀(ys:List α)(us:List V),Paired (rp R H) ys us->Ch T F R H F R (upd H a<|.lst us)/\vt T F R (upd H a<|.lst us) (U.put (A.hole d) #[ys]) σ:=by
 obtain⟨v,F1,F2,h1,h2,⟨a,vs,rfl,h4,h5,h6⟩,h7⟩:=A.take s.rel;have aF:F a:=(h2.all a).mpr<|.inl<|(h4 a).mpr rfl;have aT:a≠T:=λz=>s.uP (by rw[<- z];exact aF);refine#[a,vs,h1,h5,h6,λys us hp=>?_];have ex:=yO (F:=F) (R:=R) (H:=H) (a:=a) (o:=.lst us);have gs:∀c,c=a->R c:=λc z=>by rw[z];exact s.sub a aF
 have k:∀b u,b≠a->H b=↑u->upd H a (.lst us) b=↑u:=λb u z e=>by rw[uh z];exact e
 refine#[#[λb o n _ e=>k b o (λz=>n<|by rw[z];exact aF) e,λ_ h=>.inl h,λ_ h=>.inl h,λ_ h _=>h],Pt.same (A:=U) (Sls.st h7 ex gs λc z q=>h2.xt c ((h4 c).mpr q) z) h1 h2 #[a,us,rfl,h4,uk,vz (ex.wide gs) hp],s.sub,λc z=>?_,?_,s.u4,s.uP]
 ·by_cases e:c=a
  ·rw[e,uk];simp
  ·rw[uh e];exact s.wy c z
 ·refine e1a2 s.tab λps e t=>?_;exact#[ps,k _ _ (λz=>aT z.symm) e,t]
def vP{x:Str}{e:hW}(i:Nat){p1 p2 p3:Pos}{D0:Type}[Sls D0][A:At i D (OL α) D0][U:Pt i D0 (OL α) D][J:Pj D PO n]{we:Wf D α D}(h:EW X E T e we)
  (hb:∀{t:TA},PA X [e] t->PS X (.Expr (.Call (.Attribute (.Name x p1) "append" p2) [e] [] p3) pos) (Hx<|tBM X.K "list" Lq (uR i) t):=by exact λh=>AJ<|U5 lm PySem.F.slot_list_append PySem.F.type_list_append MG (pv _) h) (hs:gf [e] X.env=(false,eval e X.env)::gf [] X.env:=by rfl) :
  S1 X E T ms n (.Expr (.Call (.Attribute (.Name x p1) "append" p2) [e] [] p3) pos) (λ(d:D)(Kn:D->Prop)(Kr:τ->PO->Prop) Ke=>we d (λy d'=>(A.get d').l.length<gk/\Kn (U.put (A.hole d') #[(A.get d').l++[y]])) λC d'=>Ke C<|J.pj d'):=by
 refine e1a2 h λt h1 h2=>?_;refine#[_,hb<|ur h1 uA hs,λd F R σ H Kn Kr Ke En s hw kn kr ke=>?_];refine e2a4 (A5 (i:=i) s) λa vs g1 g2 g3 _=>?_;refine#[_,g1,.inl #[rfl,vs,vF.of g2],h2 d F R σ H _ _ _ s hw (λy d' v F' R' H' q c s' r=>?_) λC y d' F' R' H' q c s'=>?_]
 ·refine e2a4 (A5 (i:=i) s') λa' SY k1 k2 k3 k4=>?_;rw[g1]at k1;cases k1;obtain⟨c2,s2⟩:=k4 _ _<|wX k3<|.cons r .nil;exact#[a,SY,v,rfl,rfl,k2,by rw[<- Paired.length k3];exact q.1,kn _ F' R' _ σ q.2 (Ch.trans s s'.tab c c2) s2<|Ag.refl _ _]
 ·refine e1a2 (vW (PO:=PO) s') λG g1 g2=>?_;exact ke C y _ G R' H' q (c.less g1) g2
end
def GW(X:Cx)(T:cr)(ms:List Nat)(tg:hW){D D1 α:Type}[Sls D][Sls D1][Rep α](g:D->α->D1):Prop :=
 ∃t,PG X tg t/\∀(d:D)(F R:Rg)(σ:St)(H:Hp)(x:α)(v:V)(Q:St->Hp->Prop),vt T F R H d σ->rp R H x v->(∀F' σ',(∀a,F' a->F a)->vt T F' R H (g d x) σ'->Ag ms σ σ'->Q σ' H)->t v σ H Q
section
variable{D:Type}[Sls D]{α β:Type}[Rep α][Rep β]
def JJ{i:Nat}{YH D0 D1:Type}[Ow YH][Sls D0][Sls D1][A:At i D YH D0][U:Pt i D0 α D1]{F R:Rg}{H:Hp}{d:D}{σ:St}{x:α}{v:V}(s:vt T F R H d σ)(r:rp R H x v) :
  ∃F',(∀a,F' a->F a)/\vt T F' R H (U.put (A.hole d) x) (σ.set i<|↑v):=by
 have m:Nw T (λ_=>False) F R H x v:=#[#[λ_ z=>z,v,rfl,r],λ_ z=>z.elim,λ_ z=>z.elim,λz=>z];refine e1a2 (E7 (i:=i) s m) λG g1 g2=>?_;exact#[G,λa h=>(g1 a h).elim (λz=>z.elim) id,g2]
def uG{x:Str}(i:Nat){YH D0 D1:Type}[Ow YH][Sls D0][Sls D1][A:At i D YH D0][U:Pt i D0 α D1](hp:PG X (.Name x pos) (B5 i))(hm:i∉ms:=by decide):GW X T ms (.Name x pos) (λ(d:D)(x:α)=>U.put (A.hole d) x) :=
 #[_,hp,λd F R σ H x v Q s r k=>by
  refine e1a2 (JJ (i:=i) s r) λF' f1 f2=>?_
  exact k F' _ f1 f2 (Ag.set hm)]
def A6(i j:Nat)[Ow b][Ow c][Sls e][Sls f][Sls g][Sls m][A:At i D b e][U:Pt i e α f][n:At j f c g][o:Pt j g β m](p:PG X q (VM X.K 2<|EJ (B5 i)<|EJ (B5 j) VL))(t:i∉l)(y:j∉l) :
  GW X T l q (λ(d:D)(x:α×β)=>o.put (n.hole<|U.put (A.hole d) x.1) x.2) :=
 #[_,p,λd F R M H x v Q s r k=>by
  obtain⟨a,u,w,rfl,_,z,B,C⟩:=r;refine e1a2 (JJ (i:=i) s B) λN E G=>?_;refine e1a2 (JJ (i:=j) G C) λI J L=>?_
  exact#[a,[u,w],rfl,yA.of z,rfl,u,[w],rfl,w,[],rfl,rfl,k I _ (λa h=>E a (J a h)) L ((Ag.set t).trans (Ag.set y))]]
end
structure XI{α:Type}[Rep α](J:It)(xs:List α)(Ps:Rg->Hp->Prop):Prop where
 go:∀{R:Rg} {H:Hp} {i:Nat},Ps R H->i<xs.length->J.go i H
 Hk:∀{R:Rg} {H:Hp} {i:Nat} {v:V} {H':Hp},Ps R H->(∀a,R a->H a≠none)->i<xs.length->J.Hk i H v H'->(H'=H\/∃p o,H p=none/\H'=upd H p o)/\∃x,xs[i]?=↑x/\rp R H' x v
 stop:∀{R:Rg} {H:Hp},Ps R H->J.stop xs.length H
def IW(X:Cx)(E:XK)(T:cr)(O:List Nat)(P e:hW){D B o:Type}[Sls D][Sls B][Rep o](k:B->List o->D)(w:D->(List o->B->Prop)->(cr->D->Prop)->Prop):Prop :=
 ∃t,PI X P e t/\∀(d:D)(F R:Rg)(l:St)(H:Hp)(s:List o->B->Prop)(u:cr->D->Prop)(v:It->Hp->Prop),vt T F R H d l->w d s u ->
  (∀p b J m j q x f c,s p b->Ch T F R H j f c->Std T j f c->Cv j q x->rel x f c b l->XI J p m->m f c ->
   (∀{G r z:Rg} {A I:Hp},m r A->(∀a,G a->r a)->(∀a,q a->¬G a)->Ext G r A z I->m z I) ->
   (∀L M n g h i,m g h->rel M g h L i->Ag O l i->Cv n q M->rel n g h (k L p) i)->v J c) ->
  (∀C y N j f c,u C N->Ch T F R H j f c->vt T j f c N l->E (.ref C) ↑y c)->t l H v
section
variable{D:Type}[Sls D]{α β:Type}[Rep α][Rep β]
def A7{K:f9}{xs:List α}{vs:List V}:XI (Xz K a) xs (λR H=>H a=↑(.lst vs)/\Paired (rp R H) xs vs) where
 go:=λ{R H i} p h=>by refine e1a2 (wl (i:=i) (x:=xs[i]) p.2<|by simp[h]) λv e _=>?_;exact#[vs,v,vF.of p.1,e]
 Hk:=λ{R H i v H'} p _ hi y=>by obtain⟨e,y⟩:=y;subst e;have y':=y vs<|vF.of p.1;refine e1a2 (wl (i:=i) (x:=xs[i]) p.2<|by simp[hi]) λu e r=>?_;rw[y']at e;cases e;exact#[.inl rfl,_,by simp[hi],r]
 stop:=λ{R H} p=>#[vs,vF.of p.1,by rw[Paired.length p.2];exact gg _]
def vw{w:Wf D (List α) D}(h:EW X E T e w):IW X E T is tg e (λ(b:D)(_:List α)=>b) w:=by refine e1a2 h λt h1 h2=>?_;refine#[_,FA h1,λd F R σ H Kn Ke Rk s hw kn ke=>h2 d F R σ H _ _ _ s hw (λxs d' v F' R' H' q c s' r=>?_) ke];obtain⟨a,vs,rfl,r1,r2,r3⟩:=r;refine#[a,rfl,#[vs,vF.of r2],kn xs d' _ (λR H=>(H a=↑(.lst vs)/\Paired (rp R H) xs vs)/\¬R a) F' (λ_=>False) F' R' H' q c s'.FT (two_nil F') s'.rel #[λp=>A7.go p.1,λp=>A7.Hk p.1,λp=>A7.stop p.1] #[#[r2,r3],r1] (λp gs nf ex=>?_) λb' G2 Vh IM O5 σ' p h g t=>Sls.fq h<|two_eq t λ_ z=>z];have na:¬_:=λz=>p.2<|gs a z;exact#[#[ex.keep a _ na p.1.1,vz (ex.wide gs) p.1.2],ex.not p.2 p.1.1]
def JK{x:Str}(i:Nat){B:Type}[Sls B][A:At i D (OL α) B][U:Pt i B (OL α) D](hn:PE X (.Name x pos) (uR i))(hi:i∈is):IW X E T is tg (.Name x pos) (λ(b:B)(xs:List α)=>U.put b #[xs]) (λ(d:D)(Kn:List α->B->Prop) _=>Kn (A.get d).l<|A.hole d):=by refine⟨_,FA hn,λd F R σ H Kn Ke Rk s hw kn ke=>?_⟩;obtain⟨v,F1,F2,h1,h2,⟨a,vs,rfl,h4,h5,h6⟩,h7⟩:=A.take s.rel;refine#[_,h1,a,rfl,#[vs,vF.of h5],kn _ _ _ (λR H=>H a=↑(.lst vs)/\Paired (rp R H) (A.get d).l vs) F F1 F2 R H hw (Ch.refl _ _ _ _) s.FT h2 h7 A7 #[h5,h6] (λp gs nf ex=>#[ex.keep a _ (nf a<|(h4 a).mpr rfl) p.1,vz (ex.wide gs) p.2]) λb' G2 Vh IM O5 σ' p h g t=>?_];exact Pt.same (A:=U) h (by rw[g.2 i hi];exact h1) t #[a,vs,rfl,h4,p.1,p.2]
noncomputable def xS(a b:Int):List Int:=(gL (b-a).toNat).map λ(i:Nat)=>a+(i:Int)
def v6(a b:Int):(xS a b).length=(b-a).toNat:=by unfold xS;rw[gm,kD]
def S6{a b:Int}{i:Nat}(h:i<(b-a).toNat):(xS a b)[i]?=↑(a+(i:Int)):=by unfold xS;rw[ja,sQ h];rfl
def E8{lo hi:Int}:XI (VQ lo (hi-lo).toNat) (xS lo hi) (λ_ _=>True) where
 go:=λ{R H i} _ h=>by rw[v6]at h;exact h
 Hk:=λ{R H i v H'} _ _ hi y=>by obtain⟨e,y⟩:=y;subst e y;rw[v6]at hi;exact#[.inl rfl,_,S6 hi,rfl]
 stop:=λ{R H} _=>by rw[v6];exact gg _
def wN(n:Gl X "range")(o:X.mg "range"=none)(u:EW X E T a w)(x:gf [a] X.env=(false,eval a X.env)::gf [] X.env:=by rfl)(e:gf [a] X.env=[(false,eval a X.env)]:=by rfl) :
  IW X E T is Q (.Call (.Name "range" p) [a] [] pos) (λ(b:D)(_:List Int)=>b) (λ(d:D) k l=>w d (λj f=>(-(2 ^ 62)<=j/\j<2 ^ 62)/\k (xS 0 j) f) l):=by
 refine e1a2 u λt y A=>?_;refine#[_,Mv n o (ur y uA x) e,λd F R B H k l S s C G I=>A d F R B H _ _ _ s C (λj f v i J L q c m r=>?_) I];subst r;refine#[j,rfl,q.1.1,q.1.2,?_];have:=G (xS 0 j) f (VQ 0 (j-0).toNat) (λ_ _=>True) i (λ_=>False) i J L q.2 c m.FT (two_nil i) m.rel E8 trivial (λ_ _ _ _=>trivial) λU W M N O P p h g t=>Sls.fq h<|two_eq t λ_ z=>z;rw[Int.sub_zero]at this;exact this
def M5(hg:Gl X "range")(hm:X.mg "range"=none)(N:EW X E T a O)(P:EW X E T b Q)(m:∀{G:TA},PA X [a,b] G->PI X S (.Call (.Name "range" p) [a,b] [] pos) (UW G))
 (U:gf [a,b] X.env=(false,eval a X.env)::gf [b] X.env:=by rfl) (n:gf [b] X.env=(false,eval b X.env)::gf [] X.env:=by rfl) :
    IW X E T is S (.Call (.Name "range" p) [a,b] [] pos) (λ(b:D)(_:List Int)=>b) (λ(d:D) I o=>O d (λi w=>Q w (λj e=>(-(2 ^ 62)<=i/\i<2 ^ 62/\-(2 ^ 62)<=j/\j<2 ^ 62)/\I (xS i j) e) o) o):=by
  obtain⟨t,W,Y⟩:=N
  obtain⟨tb,Z,b2⟩:=P
  refine#[_,m<|ur W (ur Z uA n) U,λd F R J H I o Rk s hw kn L=>Y d F R J H _ _ _ s hw (λi w u F1 R1 H1 q1 M x r1=>?_) L]
  refine b2 w F1 R1 J H1 _ _ _ x q1 (λj e v f A B q c l r=>?_) λC y e f A B k c l=>L C y e f A B k (Ch.trans s x.tab M c) l
  subst r;subst r1
  exact#[i,j,rfl,q.1,kn (xS i j) e (VQ i (j-i).toNat) (λ_ _=>True) f (λ_=>False) f A B q.2 (Ch.trans s x.tab M c) l.FT (two_nil f) l.rel E8 trivial (λ_ _ _ _=>trivial) λb' G2 aa ab ae af p h g t=>Sls.fq h<|two_eq t λ_ z=>z]
end
def FZ{α B PO τ:Type}(b:α->B->(B->Prop)->(τ->PO->Prop)->(cr->PO->Prop)->Prop):List α->B->(B->Prop)->(τ->PO->Prop)->(cr->PO->Prop)->Prop
 | [],d,Kn,_,_=>Kn d
 |x::xs,d,Kn,Kr,Ke=>b x d (λd'=>FZ b xs d' Kn Kr Ke) Kr Ke
section
variable{D B D1 D2 PO τ α:Type}[Sls D][Sls B][Sls D1][Sls D2][Sls PO][Ow τ][Rep α]
def Ch.big(c:Ch T F R H d e f)(g:∀a,F a->G a):Ch T G R H d e f:=#[λb o n m h=>c.keep b o (λz=>n<|g b z) m h,c.zn,λa h=>(c.xB a h).elim (λz=>.inl<|g a z) .inr,λa h n=>c.left a h λz=>n<|g a z]
def Ch.Pd(t:Cv F F1 d)(c:Ch T d R H e f g):Ch T F R H (λa=>F1 a\/e a) f g:=#[λb o n m h=>c.keep b o (λz=>n<|(t.all b).mpr<|.inr z) m h,c.zn,λa h=>h.elim (λz=>.inl<|(t.all a).mpr<|.inl z) λz=>(c.xB a z).elim (λz=>.inl<|(t.all a).mpr<|.inr z) .inr,λa h n=>c.left a h λz=>n<|(t.all a).mpr<|.inr z]
def Ch.trans'{j:Rg}{i k:Hp}(s:Std T F R H)(m:TabAt i T)(a:Ch T F R H l p i)(b:Ch T l p i r j k):Ch T F R H r j k:=by
 have f:∀c,¬F c->H c≠none->¬l c:=λc n h z=>by
  rcases a.xB c z with q|q
  ·exact n q
  ·exact h q
 have d:∀c,i c=none->¬(F c)->H c=none:=λc h n=>by
  cases e:H c with
  |none=>rfl
  |some o =>
   have u:c≠T:=λz=>by rw[z]at h;exact yu m h
   rw[a.keep c o n u e]at h;cases h
 refine#[λc o n t h=>b.keep c o (f c n<|by rw[h];simp) t<|a.keep c o n t h,λc h=>?_,λc h=>?_,λc h n=>b.left c (a.left c h n)<|f c n<|s.wy c h]
 ·rcases b.zn c h with q|q
  ·exact a.zn c q
  ·by_cases g:F c
   ·exact .inl<|s.sub c g
   ·exact .inr<|d c q g
 ·rcases b.xB c h with q|q
  ·exact a.xB c q
  ·by_cases g:F c
   ·exact .inl g
   ·exact .inr<|d c q g
def drop_cons{α:Type}{a:List α}{i:Nat}{x:α}(h:a[i]?=↑x):a.drop i=x::a.drop (i+1):=by have b:=(List.getElem?_eq_some_iff.mp h);rw[m7 b.1,b.2]
def Ag.sub(a:Ag c d b)(h:∀i∈e,i∈c):Ag e d b:=#[a.1,λi f=>a.2 i<|h i f]
def vY{I:B->List α->D}{wi:D->(List α->B->Prop)->(cr->D->Prop)->Prop}{g:B->α->D1}{wb:D1->(D2->Prop)->(τ->PO->Prop)->(cr->PO->Prop)->Prop}[Gf:Fg D2 B][J:Pj D PO n](dp:RK PO ms n)(hp:qO (gv X.prog X.w) X.A X.env X.xe)(hc:X.calm=true)
 (hi:IW X E T is tg iter I wi) (hg:GW X T mb tg g) (hb:SW X E T mb n body wb) (h1:∀i∈ms,i∈mb) (h2:∀i∈is,i∈mb) (hs:∀x,jD iter X.env x=pure x:=by intro _;rfl) :
    S1 X E T ms n (.For tg iter body [] pos) (λ(d:D)(Kn:D->Prop)(S:τ->PO->Prop) P=>wi d (λQ b=>FZ (λx b U S P=>wb (g b x) (λd2=>U<|Gf.fg d2) S P) Q b (λb'=>Kn<|I b' Q) S P) λC d'=>P C<|J.pj d'):=by
  refine e1a2 hi λti i1 i2=>?_
  refine e1a2 hg λar g1 g2=>?_
  refine e1a2 hb λtb Y b2=>?_
  refine#[_,N0 hp hc i1 g1 Y hs,λd F R σ H Kn S P En s hw kn kr ke=>?_]
  refine i2 d F R σ H _ _ _ s hw (λQ b Jt Ps F' Z F2 R' H' q c s' tw hr ip ps pk pb=>?_) λC y d' F' R' H' q c s'=>?_
  · -- the ao
    refine#[λi m l N=>m=Q.length-i/\i<=Q.length/\∃Y G r j,Ch T F' R' H' G j N/\Std T G j N/\Cv G Z r/\rel r j N Y l/\Ps j N/\Ag mb σ l/\FZ (λx b U S P=>wb (g b x) (λd2=>U (Gf.fg d2)) S P) (Q.drop i) Y (λb'=>Kn (I b' Q)) S P,
      #[_,rfl,iu _,b,F',F2,R',Ch.refl _ _ _ _,s',tw,hr,ps,Ag.refl _ _,q],?_]
    rintro i m l N ⟨rfl,hi,Y,G,r,j,c1,O,t1,r1,p1,a1,w1⟩
    have cc:=Ch.trans s s'.tab c c1
    by_cases ae:i<Q.length
    · refine .inr #[ip.go p1 ae, λaf L => ∃b2 G2 ah R2, Ch T F' R' H' G2 R2 L /\ Std T G2 R2 L /\ Cv G2 Z ah /\ rel ah R2 L b2 af /\ Ps R2 L /\ Ag mb σ af /\ FZ (λx b U S P => wb (g b x) (λd2 => U<|Gf.fg d2) S P) (Q.drop<|i+1) b2 (λb' => Kn<|I b' Q) S P, λaf L p => #[Q.length-(i+1), by omega, rfl, ae, p], λx L y => ?_]
      obtain⟨hH,x',ex,rx⟩:=ip.Hk p1 O.wy ae y
      -- the aq ag the aa step
      have aj:Ch T G j N G j L/\Std T G j L/\rel r j L Y l/\Ps j L:=by
        rcases hH with e|⟨p,o,hp,e⟩
        · subst e; exact#[Ch.refl _ _ _ _, O, r1, p1]
        · subst e
          have k:∀b u,N b=↑u->upd N p o b=↑u:=λb u e=>by rw[uh<|uu e hp];exact e
          have ex:Ext (λ_=>False) j N j (upd N p o):=#[λb u _ e=>k b u e,λa h=>.inl h]
          refine#[#[λb u _ _ e=>k b u e,λa h=>.inl h,λa h=>.inl h,λa h _=>h],#[O.sub,λa z=>?_,?_,O.u4,O.uP],Sls.st r1 ex (λ_ z=>z.elim)<|λ_ _ z=>z,pk p1 (λ_ z=>z.elim) (λ_ _ z=>z) ex]
          · cases e : N a with
            |none=>exact gA e<|O.wy a z
            |some u=>rw[k a u e];simp
          · refine e1a2 O.tab λqs e t => ?_
            exact#[qs,k _ _ e,t]
      obtain⟨c2,M,r2,p2⟩:=aj
      have W:∀a,r a->G a:=λa h=>(t1.all a).mpr<|.inr h
      have S2:vt T r j L Y l:=#[r2,λa h=>M.sub a<|W a h,M.wy,M.tab,M.u4,λh=>M.uP<|W T h]
      rw[drop_cons ex]at w1
      refine g2 Y r j l L x' x _ S2 rx λF3 ak f3 S3 a3=>?_
      have ai:=Ch.trans' s' O.tab c1 c2
      have ab:=Ch.trans s s'.tab c ai
      have t3:∀a,Z a->F3 a->False:=λa h k=>t1.xt a h<|f3 a k
      refine b2 _ F3 j ak L _ S P _ S3 w1 (λd2 F4 R4 H4 au q4 c4 f a4=>?_) (λx p' v M1 M2 R4 H4 q4 c4 f n4=>?_) λC y p' F4 R4 H4 q4 c4 f=>?_
      · refine e1a2 (Gf.le f.rel) λF5 f5 r5 => ?_
        have t4:∀a,Z a->F4 a->False:=λa h k=>by
          rcases c4.xB a k with z|z
          · exact t3 a h z
          · exact M.wy a (M.sub a<|(t1.all a).mpr<|.inl h) z
        have al:Ch T G j L (λa=>Z a\/F5 a) R4 H4:=(Ch.Pd (F1:=Z) (F:=λa=>Z a\/F3 a) #[λ_=>Iff.rfl,t3]<|c4.less f5).big λa h=>h.elim (λz=>(t1.all a).mpr<|.inl z) λz=>W a<|f3 a z
        have an:∀a,Z a->R4 a:=λa h=>c4.left a (M.sub a<|(t1.all a).mpr<|.inl h) λz=>t3 a h z
        refine#[Gf.fg d2,λa=>Z a\/F5 a,F5,R4,Ch.trans' s' M.tab ai al,#[λa h=>h.elim (an a) λz=>f.sub a<|f5 a z,f.wy,f.tab,f.u4,λh=>h.elim (λz=>M.uP<|(t1.all T).mpr<|.inl z) λz=>f.uP<|f5 T z],⟨λ_=>Iff.rfl,λa h k=>t4 a h<|f5 a k⟩,r5,?_,(a1.trans a3).trans a4,q4]
        exact pk p2 (G:=λa=>F3 a\/a=T) (λa h=>h.elim (S3.sub a) λz=>by rw[z];exact M.u4) (λa h z=>z.elim (t3 a h) λz=>M.uP<|(t1.all T).mpr<|.inl<|by rw[<- z];exact h) c4.ext
      · refine kr x p' v M1 M2 R4 H4 q4 (Ch.trans s M.tab ab<|c4.big λa h => W a<|f3 a h) #[dp.dp ((a1.trans a3).sub h1) f.rel, f.sub, f.wy, f.tab, f.u4, f.uP] n4
      · exact ke C y p' F4 R4 H4 q4 (Ch.trans s M.tab ab<|c4.big λa h => W a<|f3 a h) #[dp.dp ((a1.trans a3).sub h1) f.rel, f.sub, f.wy, f.tab, f.u4, f.uP]
    · have e : i = Q.length := by omega
      subst e
      rw[uc]at w1
      exact .inl #[ip.stop p1,kn _ G j N l w1 cc #[pb Y r G j N l p1 r1 (a1.sub h2) t1,O.sub,O.wy,O.tab,O.u4,O.uP]<|a1.sub h1]
  · refine e1a2 (vW (PO := PO) s') λG g1 g2 => ?_
    exact ke C y _ G R' H' q (c.less g1) g2
end
end WL
namespace L2
open PySem PySem.Spec PyProof.Rows
section
variable{X:Cx}{elt iter tg:hW}{scope:k9}{cl:List (Str×cr)}{T Fr:List Str}{idx:List Nat}{wi:TI}{pos:Pos}{ifs:List hW}
def Cd{pins:List (cr×Obj)}{σ:St}{s2:gn}{H2:Hp}{J:It}{fp:List cr}{it:cr}{tn:Nat->hX->Prop}{E:ci->gn->Prop}{RR:ci->cr->Result->gn->Prop}{P:List V->Hp->Prop}(hcm:X.calm=true)
  (B:ye X scope cl T Fr idx) 
  (I2:Inv X pins σ H2 s2) (Tn:Turn X.prog X.w X.K tg J fp it tn) (ZY:tn 0 s2.heap) (f2:∀b∈fp,Av X pins H2 b)
  (hb:∀s₀ H₀ C ex pn,∃(g:TG)(tt:TT)(te:TE),(PG (Ek X scope cl (T++Fr) s₀ H₀ C ex pn) tg g/\Wl (Ek X scope cl (T++Fr) s₀ H₀ C ex pn) ifs tt/\PE (Ek X scope cl (T++Fr) s₀ H₀ C ex pn) elt te)/\∃W:Nat->Nat->List V->St->Hp->Prop,(∃m,W 0 m [] (wC T idx σ) H2)/\∀i m ys σ' H,W i m ys σ' H->(J.stop i H/\P ys H)\/(J.go i H/\ys.length<gk/\∀x H',J.Hk i H x H'->g x σ' H' λWB H2=>tt WB H2 λb H3=>if b=true then te WB H3 λy H4=>∃m',m'<m/\W (i+1) m' (ys++[y]) WB H4 else ∃m',m'<m/\W (i+1) m' ys WB H3))
  (hRR:∀(D C:cr)(s':gn)(H':Hp)(ys:List V),H' D=none->P ys H'->Inv X pins σ (upd H' D<|.lst ys) s'->(∃m,s'.heap.Ns C m)->(upd H' D<|.lst ys) C=none->C≠X.env.locals->X.s₀.heap.objs.size<=C->(∀x c,X.env.cells.lookup x=↑c->c≠C)->(∀p∈X.pn++pins,p.1≠C)->RR (.ref D) C (.ok .next) s') :
  gu (gv X.prog X.w) X.A (newList []) (λacc a0Z=>gu (gv X.prog X.w) X.A (newFunctionEnv scope X.env.globals cl [] X.env.qual none .none ↑X.env) (λcenv a00 =>
   lM (gv X.prog X.w) X.A (.compStart (.ListComp elt [#[tg,iter,ifs,0]] scope pos) 0 (.ref it) acc { cenv with scope:=oa scope X.env}) (RR acc cenv.locals) a00) E a0Z) E s2:=by
 refine hR<|wpAny_newFunctionEnv B.AC (by intro y hy;simp at hy) (λh4 ns4 ZU=>?_) B.kind;have ZZ:∀b o,s2.heap.get? b=↑o->(s2.heap.push { cls:=.type "list",dict:=none,data:=.seq ([]:List ci).toArray}).get? b=↑o:=λb o e=>ce _ e;have oD3:(s2.heap.push { cls:=.type "list",dict:=none,data:=.seq ([]:List ci).toArray}).get? ⇑s2=some { cls:=.type "list",dict:=none,data:=.seq ([]:List ci).toArray}:=gx _ rfl;have sz3:(s2.heap.push { cls:=.type "list",dict:=none,data:=.seq ([]:List ci).toArray}).objs.size=⇑s2+1:=i4 _ _;generalize s2.heap.push { cls:=.type "list",dict:=none,data:=.seq ([]:List ci).toArray}=h3 at ns4 ZU ZZ oD3 sz3 ⊢;have I3:Inv X pins σ H2 { s2 with heap:=h3}:=I2.kept (t':=s2.toks) ZZ;have Pe:H2 ⇑s2=none:=I2.uV.fresh<|gg _;have WC:∀b o,h3.get? b=some o->h4.get? b=some o:=λb o e=>ZU.extBut b o (gB<|gp e)<|ce _ e;have Pf:H2 h3.objs.size=none:=I3.uV.fresh<|gg _;have YI:⇑s2≠h3.objs.size:=by rw[sz3];exact gB<|iV _
 -- facts about D,C,fp in X
 have fD:Av X pins H2 ⇑s2:=I2.Fz (gg _) Pe;have fC:Av X pins H2 h3.objs.size:=I3.Fz (gg _) Pf
 have HZ:∀b∈⇑s2::fp,Av X pins H2 b/\b≠h3.objs.size:=λb yw=>by
  rcases List.mem_cons.mp yw with e|e
  ·subst e;exact#[fD,YI]
  ·refine#[f2 b e,?_];obtain⟨o,ho,_⟩:=Tn.obj 0 _ ZY b e;exact gB<|gp<|ZZ b o ho
 -- the Z0 context
 generalize F7:Ek X scope cl (T++Fr) { s2 with heap:=h3} H2 h3.objs.size (⇑s2::fp) (X.pn++pins)=X';obtain⟨g,tt,te,⟨hG,hT,hE⟩,W,w0,turn⟩:=hb { s2 with heap:=h3} H2 h3.objs.size (⇑s2::fp) (X.pn++pins);rw[F7]at hG hT hE
 have ok':X'.Ok:=by
  subst F7
  exact {
   mod:=I3.ok.mod
   kind:=B.kind
   glob:=I3.ok.glob
   blt:=I3.ok.blt
   above:=gg _
   inj:=λx y c e1 e2=>I3.ok.inj x y c (B.sub x c e1)<|B.sub y c e2
   has:=λx h=>B.has h
   NM:=λx c h=>by cases h
   hd:=I3.ok.hd
   frames:=I3.ok.frames
   Br:=.inl rfl
   RP:=λb yw=>#[(HZ b yw).2,λx c e=>(HZ b yw).1.2.2.2.2.1 x c<|B.sub x c e]
   bs:=λb o e=>I3.bs b o e
   Hr:=gW I3.ok.Hr I3.sz
   Cp:=λb o e yw=>by
    rcases(HZ b yw).1.2.2.2.1 with z|z
    ·exact I3.ok.Cp b o e z
    ·exact gA (gG (gp e)<|gW I3.ok.Hr z)<|jm _
   CW:=λb yw hf=>by
    rcases List.mem_cons.mp (I3.CY b hf) with z|z
    ·exact(HZ b yw).1.2.1 z
    ·exact(HZ b yw).1.2.2.1 z
   xI:=I3.stack
   IL:=λb yw=>I3.K8 b yw}
 have xA:X'.A=X.A:=by subst F7;rfl
 have xp:X'.prog=X.prog:=by subst F7;rfl
 have xw:X'.w=X.w:=by subst F7;rfl
 have xK:X'.K=X.K:=by subst F7;rfl
 have xc:X'.calm=true:=by subst F7;exact hcm
 have xe:X'.env=sr scope cl h3.objs.size X.env:=by subst F7;rfl
 have I4:Inv X' [] (wC T idx σ) H2 { s2 with heap:=h4}:=by
  have hN:X'.N=T++Fr:=by subst F7;rfl
  refine#[ok',by subst F7;rfl,I3.bare,by subst F7;exact Un.kept WC,?_,?_,by subst F7;exact Pf,?_,?_,?_,?_]
  ·obtain⟨m,hn,hl⟩:=I3.loc;refine#[_,by rw[xe];exact ns4,λi x v e1 e2 e3=>?_];rw[hN]at e1;unfold wC at e2;by_cases hi:i<T.length
   ·rw[kU (by rw[gm];exact hi),ja,iU hi]at e2;cases e2
   ·rw[jo q0a]at e1;rw[jo (by rw[gm];lia),gm,ja]at e2;obtain⟨i0,c,q1,q2,q3,q4,q5⟩:=B.fr _ x e1;rw[q1]at e2;have Z1:(σ[i0]?).join=↑v:=il e2
    have a01:σ[i0]?=↑(some v):=by
     cases z:σ[i0]? with
     |none=>rw[z]at Z1;cases Z1
     |some y=>rw[z]at Z1;have:y=↑v:=Z1;rw[this]
    obtain⟨u,r,l⟩:=hl i0 x v q2 a01 (by
     rcases q3 with z|z
     ·exact .inr<|.inl z
     ·exact .inr (.inr z))
    refine#[u,r,?_];rcases l with⟨k,_⟩|⟨k,c',e,z⟩
    ·rcases q3 with y|y<;>(rw[y]at k;cases k)
    ·have:=B.sub x c q4;rw[e]at this;cases this;refine .inr #[by rw[xe];exact q5,_,by rw[xe];exact q4,?_];obtain⟨o,ho,hd⟩:=z;exact#[o,WC _ _ ho,hd]
  ·intro x c e;rw[xe]at e;obtain⟨v,o,ho,hd⟩:=I3.cell x c<|B.sub x c e;exact#[v,o,WC _ _ ho,hd]
  ·intro x c e;rw[xe]at e;exact I3.xo x c<|B.sub x c e
  ·intro p hp;have hp':p∈X.pn++pins:=by subst F7;simpa using hp
   obtain⟨a1,a2,a3,a4,a5⟩:=I3.pin p hp';refine#[WC _ _ a1,a2,?_,?_,a5]
   ·rw[xe];exact gB<|gp a1
   ·subst F7;intro hf;rcases List.mem_cons.mp (I3.CY _ hf) with z|z
    ·exact a3 z
    ·exact a4 z
  ·subst F7;exact I3.uV.kept WC
  ·rw[hN];unfold wC;rw[gz,gz,gm,gm,B.len]
 have oD4:=WC _ _ oD3;have st4:tn 0 h4:=Tn.keep _ _ _ ZY λb _ o e=>WC b o<|ZZ b o e
 -- a03 stays true of the WD objects and of D
 have YJ:∀{H':Hp} {pins':List (cr×Obj)},(∀p∈pins',p.1∉⇑s2::fp)->(∀b∈⇑s2::fp,H' b=none)->∀b∈⇑s2::fp,Av X' pins' H' b:=by
  intro H' pins' hp hn b yw;subst F7;obtain⟨⟨z1,z2,z3,z4,z5,z6⟩,z7⟩:=HZ b yw;refine#[hn b yw,z7,?_,.inl yw,λx c e=>z5 x c<|B.sub x c e,λp hp'=>?_]
  ·intro hf;rcases List.mem_cons.mp (I3.CY b hf) with z|z
   ·exact z2 z
   ·exact z3 z
  ·rcases List.mem_append.mp hp' with q|q
   ·exact z6 p q
   ·intro e;exact hp p q (by rw[e];exact yw)
 -- the end
 have fin:∀(s5:gn)(NO:St)(H5:Hp)(ys:List V)(za:List ci)(nD:Nat),Inv X' [] NO H5 s5->(∀b∈⇑s2::fp,H5 b=none)->s5.heap.get? ⇑s2=some { cls:=.type "list",dict:=none,data:=.seq za.toArray nD}->Vals ys za->ys.length<=gk->P ys H5->RR (.ref ⇑s2) h3.objs.size (.ok .next) s5:=by
  intro s5 NO H5 ys za nD I5 n5 Z2 v5 l5 q5;have D5:=n5 _ gh;have WE:Un (yz X.stack) (⇑s2::fp) H2 H5 h3 s5.heap:=by have z:=I5.base;subst F7;exact z
  have C5:H5 h3.objs.size=none:=by have z:=I5.free;rw[xe]at z;exact z
  have a04:w4 X.prog X.w (upd H5 ⇑s2<|.lst ys) s5.heap:=w4.Vc (by have z:=I5.uV;rw[xp,xw]at z;exact z) D5 #[l5,za,nD,v5,Z2]
  have u5:Un (yz X.stack) (⇑s2::fp) H2 (upd H5 ⇑s2<|.lst ys) h3 s5.heap:=by have YK:∀b u,H2 b=some u->b≠⇑s2:=λb u e=>uu e Pe;exact#[WE.keep,WE.slot,λb o e n hx=>by rw[uh<|λz=>hx<|by rw[z];exact gh];exact WE.free b o e n hx,WE.there,λb xs e=>by rw[uh<|YK b _ e];exact WE.AI b xs e,λb o u e=>by rw[uh<|YK b _ e];exact WE.As b o u e,λb ps e=>by rw[uh<|YK b _ e];exact WE.Au b ps e]
  have os5:s5.os=s2.os:=by have z:=I5.os;subst F7;exact z
  have IX:Inv X pins σ (upd H5 ⇑s2<|.lst ys) s5:=Inv.US (s:={ s2 with heap:=h3}) I3 os5 u5 a04 I5.bare λb yw=>by obtain⟨⟨z1,z2,z3,z4,z5,z6⟩,z7⟩:=HZ b yw;exact#[z4,z2,z5,z6]
  obtain⟨m5,ns5,_⟩:=I5.loc;rw[xe]at ns5;refine hRR ⇑s2 h3.objs.size s5 H5 ys D5 q5 IX #[m5,ns5] (by rw[uh<|Ne.symm YI];exact C5) fC.2.1 (gW I3.sz<|gg _) fC.2.2.2.2.1 fC.2.2.2.2.2
 obtain⟨m0,w0⟩:=w0
 have loop:lM (gv X.prog X.w) X.A (.compLoop (.ListComp elt [#[tg,iter,ifs,0]] scope pos) 0 (.ref it) (.ref ⇑s2)<|sr scope cl h3.objs.size X.env) (RR (.ref ⇑s2) h3.objs.size) { s2 with heap:=h4}:=by
  refine OK (λn s5=>∃i ys za nD NO H5,Inv X' [] NO H5 s5/\tn i s5.heap/\(∀b∈⇑s2::fp,H5 b=none)/\s5.heap.get? ⇑s2=some { cls:=.type "list",dict:=none,data:=.seq za.toArray nD}/\Vals ys za/\ys.length<=gk/\W i n ys NO H5) ?_ m0
   #[0,[],[],0,wC T idx σ,H2,I4,st4,λb yw=>(HZ b yw).1.1,oD4,.nil,iu _,w0]
  rintro n s5 ⟨i,ys,za,nD,NO,H5,I5,NN,n5,Z2,v5,l5,w5⟩;have f5:=YJ (pins':=[]) (λp hp=>by cases hp) n5;rcases turn i n ys NO H5 w5 with⟨stop,q⟩|⟨go,ll,step⟩
  ·have z:=Tn.done X' xp xw xK xc i [] s5 NO H5 (λ_ _=>False) I5 (λb yw=>f5 b<|gl _ yw) NN stop;rw[xA]at z
   -- D is not touched by the end
   have z2:=Tn.done X' xp xw xK xc i [(⇑s2,{ cls:=.type "list",dict:=none,data:=.seq za.toArray nD})] s5 NO H5 (λ_ _=>False) (I5.yD λp hp=>by
    obtain rfl:=List.mem_singleton.mp hp;have WF:=f5 _ gh
    exact#[Z2,WF.1,WF.2.1,WF.2.2.1,λv z=>nomatch z]) (λb yw=>by
     obtain⟨a1,a2,a3,a4,a5,a6⟩:=f5 b<|gl _ yw;refine⟨a1,a2,a3,a4,a5,λp hp=>?_⟩;rcases List.mem_append.mp hp with y|y
     ·exact a6 p<|iq _ y
     ·obtain rfl:=List.mem_singleton.mp y;intro e;obtain⟨o,ho,_⟩:=Tn.obj 0 _ ZY b yw
      exact jm _ (gG (gp ho) (pT (show ⇑s2=b from e)))) NN stop
   rw[xA]at z2;refine uT z2 λr s6 z9=>e0a2 z9 λhr I6=>?_;subst hr;have p6:=I6.pin _<|gI _<|List.mem_singleton.mpr rfl;exact fin s6 NO H5 ys za nD (I6.yD λp hp=>by cases hp) n5 p6.1 v5 l5 q
  ·have WF:=f5 _ gh
   have I5p:=I5.yD (pins':=[(⇑s2,{ cls:=.type "list",dict:=none,data:=.seq za.toArray nD})]) λp hp=>by obtain rfl:=List.mem_singleton.mp hp;exact#[Z2,WF.1,WF.2.1,WF.2.2.1,λv z=>nomatch z]
   have fpD:∀b∈fp,b≠⇑s2:=λb yw=>by obtain⟨o,ho,_⟩:=Tn.obj 0 _ ZY b yw;exact gB<|gp ho
   have fpP:∀{H':Hp},(∀b∈fp,H' b=none)->∀b∈fp,Av X' [(⇑s2,{ cls:=.type "list",dict:=none,data:=.seq za.toArray nD})] H' b:=by
    intro H' hn b yw;obtain⟨a1,a2,a3,a4,a5,a6⟩:=f5 b<|gl _ yw;refine⟨hn b yw,a2,a3,a4,a5,λp hp=>?_⟩;rcases List.mem_append.mp hp with y|y
    ·exact a6 p<|iq _ y
    ·obtain rfl:=List.mem_singleton.mp y;exact Ne.symm<|fpD b yw
   have z:=Tn.item X' xp xw xK xc i _ s5 NO H5 (λ_ _=>False) I5p (fpP λb yw=>n5 b<|gl _ yw) NN go;rw[xA]at z;refine uT z λr s6 z9=>e1a2 z9 λu hr h6=>?_;subst hr;refine uT h6 λ_ s7 z9=>e2a5 z9 λx H7 I7 r7 y7 st7 n7=>?_;have I7':=I7.pinned (fpP n7)<|Tn.obj _ _ st7;have xx:X'.xe=λ_ _=>False:=by subst F7;rfl
   have zG:=hG _ s7 NO H7 x u _ I7' r7<|step x H7 y7;rw[xp,xw,xA,xe,xx]at zG;refine uT zG λ_ s8 z9=>e2a2 z9 λWG H8 I8 q8=>?_;have zT:=hT _ s8 WG H8 _ I8 q8;rw[xp,xw,xA,xe,xx]at zT;refine uT zT λok s9 z9=>e1a2 z9 λH9 I9 q9=>?_
   -- a03 holds behind the turn
   have behind:∀{H':Hp} {s':gn},Inv X' ([(⇑s2,{ cls:=.type "list",dict:=none,data:=.seq za.toArray nD})]++CZ fp s7.heap) WG H' s'->s'.heap.get? ⇑s2=some { cls:=.type "list",dict:=none,data:=.seq za.toArray nD}/\tn (i+1) s'.heap/\∀b∈⇑s2::fp,H' b=none:=by
    intro H' s' I';have pD:=I'.pin _<|gI _<|iq _<|List.mem_singleton.mpr rfl;refine⟨pD.1,Tn.keep _ _ _ st7 λb yw o e=>(I'.pin (b,o)<|gI _<|gI _<|wJ yw e).1,λb yw=>?_⟩;rcases List.mem_cons.mp yw with e|e
    ·rw[e];exact pD.2.1
    ·obtain⟨o,e',_⟩:=Tn.obj _ _ st7 b e;exact(I'.pin (b,o)<|gI _<|gI _<|wJ e e').2.1
   cases ok with
   |false =>
    rw[gc gw]at q9 ⊢;obtain⟨m',hm,w'⟩:=q9;obtain⟨b1,b2,b3⟩:=behind I9;exact#[m',hm,i+1,ys,za,nD,WG,H9,I9.yD (λp hp=>by cases hp),b2,b3,b1,v5,l5,w']
   |true =>
    rw[ga rfl]at q9 ⊢;have zE:=hE _ s9 WG H9 _ I9 q9;rw[xp,xw,xA,xe,xx]at zE;refine uT zE λy s10 z9=>e2a3 z9 λyv H10 I10 r10 z69=>e1a2 z69 λm' hm w'=>?_;obtain⟨b1,b2,b3⟩:=behind I10;have hlen:=v5.length;refine wpAny_list_append_plain (items:=za.toArray) #[nD,b1] (λh11 a08 YL=>?_) (by rw[gy];lia);obtain⟨YK,o11⟩:=a08;have a09:Inv X' [] WG H10 s10:=I10.yD λp hp=>by cases hp
    obtain⟨a1,a2,a3,a4,a5,a6⟩:=YJ (pins':=[]) (λp hp=>by cases hp) b3 _ gh;have I11:Inv X' [] WG H10 { s10 with heap:=h11}:=a09.turned (t':=s10.toks) (λb o yw e=>(YL.2 b yw).trans e) a1 a2 a4 a5 a6;refine#[m',hm,i+1,ys++[yv],za++[y],YK,WG,H10,I11,Tn.keep _ _ _ b2 λb yw o e=>(YL.2 b<|fpD b yw).trans e,b3,by simpa using o11,v5.append<|.cons r10 .nil,by rw[gz,gJ];lia,w']
 exact codeAny_compStart_list loop<|Tn.self _ 0 _ _ _ st4 loop
def WH(X:Cx)(elt tg:hW)(ifs:List hW)(scope:k9)(cl:List (Str×cr))(T Fr:List Str)(idx:List Nat)(wi:TI):TE:=λl H Q=>wi l H λJ s=>∀a c C j k,∃(g:TG)(n:TT)(o:TE),(PG (Ek X scope cl (T++Fr) a c C j k) tg g/\Wl (Ek X scope cl (T++Fr) a c C j k) ifs n/\PE (Ek X scope cl (T++Fr) a c C j k) elt o)/\∃W:Nat->Nat->List V->St->Hp->Prop,(∃m,W 0 m [] (wC T idx l) s)/\∀i m e f H,W i m e f H ->
 (J.stop i H/\∀p,H p=none->Q (.ref p) (upd H p<|.lst e))\/(J.go i H/\e.length<gk/\∀x q,J.Hk i H x q->g x f q λd t=>n d t λb r=>if b=true then o d r λy u=>∃h,h<m/\W (i+1) h (e++[y]) d u else ∃h,h<m/\W (i+1) h e d r)
def Pg(c:X.calm=true)(k:PI X tg iter wi)(B:ye X scope cl T Fr idx) 
 (l:∀x,jD iter X.env x=pure x:=by intro _;rfl):PE X (.ListComp elt [#[tg,iter,ifs,0]] scope pos) (WH X elt tg ifs scope cl T Fr idx wi):=by
  intro a s i H Q I h
  rw[eval_ListComp]
  refine ot (use:=none) rfl l B.YC B.kind B.names<|uT (k a s i H _ I h) λv Y n=>uT n λr Z t=>?_
  obtain⟨it,fp,tn,J,H2,e,u,y,d,z,E⟩:=t
  subst e
  refine Cd (RR:=λf C=>compPost (gv X.prog X.w) X.A X.xe none (EP X a i Q) f C) (P:=λj H=>∀p,H p=none->Q (.ref p) (upd H p<|.lst j)) c B u y d z E ?_
  intro D C F H' j G q L ⟨m,M⟩ N O R S U
  exact#[m,M,λh' W=>#[.ref D,_,L.turned (t':=F.toks) (λb o g e=>(W.2 b g).trans e) N O (.inr R) S U,rfl,q D G]]
def S7(X:Cx)(elt tg:hW)(ifs:List hW)(scope:k9)(cl:List (Str×cr))(T Fr:List Str)(idx:List Nat)(wi:TI)(j:Nat):TS:=λD k H=>wi k H λJ t=>∀a c C l n,∃(g:TG)(o:TT)(q:TE),(PG (Ek X scope cl (T++Fr) a c C l n) tg g/\Wl (Ek X scope cl (T++Fr) a c C l n) ifs o/\PE (Ek X scope cl (T++Fr) a c C l n) elt q)/\∃W:Nat->Nat->List V->St->Hp->Prop,(∃m,W 0 m [] (wC T idx k) t)/\∀i m e f H,W i m e f H ->
 (J.stop i H/\∀p,H p=none->D.nx (k.set j<|some<|.ref p) (upd H p<|.lst e))\/(J.go i H/\e.length<gk/\∀x r,J.Hk i H x r->g x f r λd u=>o d u λb s=>if b=true then q d s λy v=>∃h,h<m/\W (i+1) h (e++[y]) d v else ∃h,h<m/\W (i+1) h e d s)
set_option tactic.hygienic true in
def Ph{j:Nat}{d:Pos}(O:X.N.Nodup)(R:X.N[j]?=↑y)(u:X.env.scope.names.lookup y=some .local)(g:js (.ListComp elt [#[tg,iter,ifs,0]] scope pos) (some<|.Name y py) d.line X.env=pure true)
 (i:X.calm=true) (S:PI X tg iter wi) (B:ye X scope cl T Fr idx) 
 (U:∀x,jD iter X.env x=pure x:=by intro _;rfl):PS X (.Assign [.Name y py] (.ListComp elt [#[tg,iter,ifs,0]] scope pos) d) (S7 X elt tg ifs scope cl T Fr idx wi j):=by
  intro c s E H D I h
  rw[exec_Assign_Name_used _ _ _ _ g]
  refine am<|mG<|am ?_
  refine am<|uT (ot (use:=some<|rS (.Name y py) X.env) (Q:=λ_ f=>SP X c D .next f) rfl U B.YC B.kind B.names<|uT (S c s E H _ I h) λv s1 W=>uT W λY s2 Z=>?_) λ_ f hq=>ap<|ap hq
  obtain⟨it,fp,tn,J,H2,e,I2,Tn,k,f2,hb⟩:=Z
  subst e
  refine Cd (RR:=λl C=>compPost (gv X.prog X.w) X.A X.xe (some<|rS (.Name y py) X.env) (λ_ f=>SP X c D .next f) l C) (P:=λF H=>∀p,H p=none->D.nx (E.set j<|some<|.ref p) (upd H p<|.lst F)) i B I2 Tn k f2 hb ?_
  intro G C f H' F hD q IX ⟨m,ns⟩ hC L c2 M c4
  refine wpAny_assign_Name<|EI IX O R (.inl u) (v:=.ref G) rfl (λs3 I3 z9=>e1a2 z9 λa n ha=>?_)<|.inr u
  have r:C≠a:=by
    rcases ha with z|z
    · rw[z]; exact L
    · exact Ne.symm<|M _ _ z
  exact#[m,ns.sameBut n r,λh' sb=>#[_,_,I3.turned (t':=s3.toks) (λb o t e=>(sb.2 b t).trans e) hC L (.inr c2) M c4,q G hD]]
end
end L2
namespace WL
variable[L2.GX]
open PySem L2
open Rep (rp)
open Ow (sl)
open Sls (rel)
class Pre(k:Nat)(S:Type)[Sls S](Db:outParam Type)[Sls Db] where
 pre:S->Db
 suf:Db->S
 ok:∀{F R:Rg} {H:Hp} {s:S} {σ:St} (τ:St),τ.length=k->rel F R H s σ->rel F R H (pre s) (τ++σ)
 un:∀{F R:Rg} {H:Hp} {d:Db} {σ:St},rel F R H d σ->rel F R H (suf d) (σ.drop k)
 eta:∀d,pre (suf d)=d
 YM:∀s,suf (pre s)=s
noncomputable instance pre0{S:Type}[Sls S]:Pre 0 S S:=#[id,id,λτ h r=>by rw[List.length_eq_zero_iff.mp h];exact r,λr=>r,λ_=>rfl,λ_=>rfl]
noncomputable instance preS{k:Nat}{S Db:Type}[Sls S][Sls Db][A:Pre k S Db]:Pre (k+1) S (Un×Db):=#[λs=>(#[],A.pre s),λd=>A.suf d.2,λ{F R H s σ} τ h r=>by
  cases τ with
  |nil=>cases h
  |cons v τ'=>exact#[v,τ'++σ,λ_=>False,F,rfl,two_nil F,λ_ z=>z,A.ok τ' (by simpa using h) r],
 λ{F R H d σ} r=>by
  obtain⟨v,σ',F1,F2,rfl,h2,h3,h4⟩:=r
  exact A.un<|Sls.fq h4<|two_eq h2 h3,
 λd=>by
  obtain⟨⟨⟩,d⟩:=d
  rw[A.eta],
 λs=>A.YM s]
def A8{α γ S:Type}(b:α->S->(Option γ->S->Prop)->Prop):List α->S->(List γ->S->Prop)->Prop
 | [],s,K=>K [] s
 |x::xs,s,K=>b x s λo s'=>A8 b xs s' λys R7=>K (o.toList++ys) R7
def YN(X:Cx)(T:cr)(a:List hW){D:Type}[Sls D](w:Wf D Bool D):Prop :=
 ∃t,Wl X a t/\∀(d:D)(F R:Rg)(b:St)(H:Hp)(e:Bool->D->Prop)(Q:Bool->Hp->Prop),vt T F R H d b->w d e (λ_ _=>False) ->
  (∀x f g h c,e x f->Ch T F R H g h c->vt T g h c f b->Q x c)->t b H Q
abbrev XF:XK:=λ_ _ _=>False
def tws_nil[Sls D]:YN X T [] (λ(d:D) a _=>a true d):=#[_,SE,λd F R e H a Q s b c=>c true d F R H b (Ch.refl _ _ _ _) s]
def tws_one{D:Type}[Sls D]{w:Wf D Bool D}(h:TW X XF T c w):YN X T [c] w:=e1a2 h λt a b=> #[t,SF a,λd F R e H f Q s g i=>b d F R e H f _ Q s g i λ_ _ _ _ _ _ z=>z.elim]
section
variable{D B S B0 Db D1 PO τ α γ:Type}[Sls D][Sls B][Sls S][Sls B0][Sls Db][Sls D1][Sls PO][Ow τ][Rep α][Rep γ]
abbrev stepC(P:Pre k S Db)(a:Fg D1 Db)(g:Db->α->D1)(c:Wf D1 Bool D1)(d:Wf D1 γ D1):α->S->(Option γ->S->Prop)->Prop :=
 λx s K=>c (g (P.pre s) x) (λt b=>if t=true then d b (λy e=>K ↑y<|P.suf<|a.fg e) (λ_ _=>False) else K none (P.suf<|a.fg b)) λ_ _=>False
def E9[P:Pre k S Db][Gf:Fg D1 Db]{g:Db->α->D1}{wt:Wf D1 Bool D1}{we:Wf D1 γ D1}{J:It}{Ps:Rg->Hp->Prop}{L:List α}{F1 Fs Z:Rg}{Q:Hp}{σ:St}{s0:S}{K:List γ->S->Prop}{ag:List V->Hp->Prop}
  (hk:R.length=k) (ao:∀i,k<=i->i<k+idx.length->i∈mb)
  (hG:∀d f C I M,GW (Ek X n cl (R++Fr) d f C I M) T mb tg g) (hT:∀d f C I M,YN (Ek X n cl (R++Fr) d f C I M) T aq wt) (hE:∀d f C I M,EW (Ek X n cl (R++Fr) d f C I M) XF T ar we)
  (hz:L.length<=gk) (ip:XI J L Ps) (ps:Ps Z Q) (pk:∀{G Ra Rb:Rg} {Ha Hb:Hp},Ps Ra Ha->(∀a,G a->Ra a)->(∀a,F1 a->¬G a)->Ext G Ra Ha Rb Hb->Ps Rb Hb)
  (s':Std T Fs Z Q) (U:∀a,F1 a->Z a/\¬Fs a/\a≠T) (au:rel Fs Z Q s0 (idx.map λi=>σ[i]?.join)) (hw:A8 (stepC P Gf g wt we) L s0 K)
  (av:∀E N F l r O,K E N->Ch T Fs Z Q F l r->Std T F l r->rel F l r N (idx.map λi=>σ[i]?.join)->Ps l r->Paired (rp l r) E O->ag O r) :
  ∀d f C I M,∃(g:TG)(tt:TT)(te:TE),(PG (Ek X n cl (R++Fr) d f C I M) tg g/\Wl (Ek X n cl (R++Fr) d f C I M) aq tt/\PE (Ek X n cl (R++Fr) d f C I M) ar te)/\∃W:Nat->Nat->List V->St->Hp->Prop,(∃m,W 0 m [] (wC R idx σ) Q)/\∀i m O ah H,W i m O ah H ->
   (J.stop i H/\ag O H)\/(J.go i H/\O.length<gk/\∀x Q,J.Hk i H x Q->g x ah Q λs Y=>tt s Y λb H3=>if b=true then te s H3 λy H4=>∃m',m'<m/\W (i+1) m' (O++[y]) s H4 else ∃m',m'<m/\W (i+1) m' O s H3):=by
 intro d f C I M;refine e1a2 (hG d f C I M) λaw g1 g2=>?_;refine e1a2 (hT d f C I M) λtt t1 t2=>?_;refine e1a2 (hE d f C I M) λte e1 e2=>?_;have aE:(wC R idx σ).length=k+idx.length:=by unfold wC;rw[gz,gm,gm,hk]
 have aa:∀{w:St},Ag mb (wC R idx σ) w->w.drop k=idx.map λi=>σ[i]?.join:=λ{w} a=>by
  apply pN;intro j;rw[sW];by_cases hj:j<idx.length
  ·rw[a.2 (k+j)<|ao _ q0a q0a];unfold wC;rw[jo (by rw[gm,hk];lia),gm,hk,Nat.add_sub_cancel_left]
  ·rw[jL (by have:=a.1;lia),jL<|by rw[gm];lia]
 refine#[aw,tt,te,#[g1,t1,e1],λi m O w r=>m=L.length-i/\i<=L.length/\∃N F l E,Ch T Fs Z Q F l r/\Std T F l r/\rel F l r (P.pre N) w/\Ps l r/\Ag mb (wC R idx σ) w/\Paired (rp l r) E O/\E.length<=i/\A8 (stepC P Gf g wt we) (L.drop i) N (λws s'=>K (E++ws) s'),
  #[_,rfl,iu _,s0,Fs,Z,[],Ch.refl _ _ _ _,s',P.ok _ (by rw[gm,hk]) au,ps,Ag.refl _ _,.nil,iu _,by simpa using hw],?_]
 rintro i m O w r ⟨rfl,hi,N,F,l,E,c1,A,r1,p1,a1,pz,lz,w1⟩;have aG:=Paired.length pz;by_cases ab:i<L.length
 ·refine .inr #[ip.go p1 ab,q0a,λx Y y=>?_];obtain⟨hH,x',ax,rx⟩:=ip.Hk p1 A.wy ab y;have ay:∀{G l:Rg} {r:Hp},Ch T Fs Z Q G l r->∀a,F1 a->l a/\¬G a:=λc a h=>#[c.left a (U a h).1 (U a h).2.1,λz=>(c.xB a z).elim (U a h).2.1 λq=>s'.wy a (U a h).1 q]
  have az:Ch T F l r F l Y/\Std T F l Y/\rel F l Y (P.pre N) w/\Ps l Y/\Paired (rp l Y) E O:=by
   rcases hH with e|⟨p,o,hp,e⟩
   ·subst e;exact#[Ch.refl _ _ _ _,A,r1,p1,pz]
   ·subst e;have kk:∀b u,r b=↑u->upd r p o b=↑u:=λb u e=>by rw[uh<|uu e hp];exact e
    have I:Ext (λ_=>False) l r l (upd r p o):=#[λb u _ e=>kk b u e,λa h=>.inl h];refine#[#[λb u _ _ e=>kk b u e,λa h=>.inl h,λa h=>.inl h,λa h _=>h],#[A.sub,λa z=>?_,?_,A.u4,A.uP],Sls.st r1 I (λ_ z=>z.elim)<|λ_ _ z=>z,pk p1 (λ_ z=>z.elim) (λ_ _ z=>z) I,vz (I.wide λ_ z=>z.elim) pz]
    ·cases e:r a with
     |none=>exact gA e<|A.wy a z
     |some u=>rw[kk a u e];simp
    ·refine e1a2 A.tab λqs e t=>?_;exact#[qs,kk _ _ e,t]
  obtain⟨c2,S2,r2,p2,ai⟩:=az;have aA:=Ch.trans' s' A.tab c1 c2;rw[drop_cons ax]at w1;refine g2 (P.pre N) F l w Y x' x _ (S2.stt r2) rx λF3 s f3 S3 a3=>?_;have c3:Ch T Fs Z Q F3 l Y:=aA.less f3
  -- aH the block aF on af an item
  have on:∀{d2:D1} {F5 R5:Rg} {H5:Hp} {o:Option γ} {ae:List V},A8 (stepC P Gf g wt we) (L.drop<|i+1) (P.suf<|Gf.fg d2) (λws s'=>K (E++(o.toList++ws)) s')->Ch T F3 l Y F5 R5 H5->vt T F5 R5 H5 d2 s->Paired (rp R5 H5) (E++o.toList) ae->(E++o.toList).length<=i+1 ->
    ∃m',m'<L.length-i/\m'=L.length-(i+1)/\i+1<=L.length/\∃N F l E,Ch T Fs Z Q F l H5/\Std T F l H5/\rel F l H5 (P.pre N) s/\Ps l H5/\Ag mb (wC R idx σ) s/\Paired (rp l H5) E ae/\E.length<=i+1/\A8 (stepC P Gf g wt we) (L.drop<|i+1) N (λws s'=>K (E++ws) s'):=λ{d2 F5 R5 H5 o ae} hw c5 S5 aB aC=>by
   refine e1a2 (Gf.le S5.rel) λF6 f6 r6=>?_;have aD:=Ch.trans' s' S2.tab c3 c5;refine#[L.length-(i+1),q0a,rfl,ab,P.suf<|Gf.fg d2,F6,R5,E++o.toList,aD.less f6,⟨λa h=>S5.sub a<|f6 a h,S5.wy,S5.tab,S5.u4,λh=>S5.uP<|f6 T h⟩,by rw[P.eta];exact r6,?_,a1.trans a3,aB,aC,?_]
   ·refine pk p2 (G:=λa=>F3 a\/a=T) (λa h=>h.elim (S3.sub a) λz=>by rw[z];exact S2.u4) (λa h z=>?_) c5.ext;rcases z with z|z
    ·exact(ay c3 a h).2 z
    ·exact(U a h).2.2 z
   ·simp only[kE];exact hw
  refine t2 _ F3 l s Y _ _ S3 w1 λb d1 F4 R4 H4 q4 c4 S4=>?_
  cases b with
  |false =>
   rw[gc gw];exact on (o:=none) q4 c4 S4 (by simpa using S3.vals c4 ai) (by simp;lia)
  |true =>
   rw[ga rfl];refine e2 _ F4 R4 s H4 _ _ _ S4 q4 (λy d2 v F5 R5 H5 q5 c5 S5 r5=>?_) λ_ _ _ _ _ _ z=>z.elim;have aj:=Ch.trans S3 S4.tab c4 c5;exact on (o:=↑y) q5 aj S5 (wX (S3.vals aj ai)<|.cons r5 .nil) (by simp;lia)
 ·have e:i=L.length:=by lia
  subst e;rw[uc]at w1;have ak:K (E++[]) N:=w1;rw[jP]at ak;have al:=P.un r1;rw[aa a1,P.YM]at al;refine .inl #[ip.stop p1,av E N F l r O ak c1 A al p1 pz]
def Dw[Se:Sel idx B S B0]{back:B->List α->D}{xs:List α}{Ps:Rg->Hp->Prop}(s':Std T F' R' H')(tw:Cv F' F1 F2)(hr:rel F2 R' H' b σ)
 (pb:∀b' G2 Vh IM O5 σ',Ps IM O5->rel G2 IM O5 b' σ'->Ag is σ σ'->Cv Vh F1 G2->rel Vh IM O5 (back b' xs) σ') :
    ∃Fs,Std T Fs R' H'/\(∀a,F1 a->R' a/\¬Fs a/\a≠T)/\rel Fs R' H' (Se.sel b) (idx.map λi=>σ[i]?.join) /\
      ∀{s1:S} {Gs R1:Rg} {H1:Hp},Ch T Fs R' H' Gs R1 H1->Std T Gs R1 H1->rel Gs R1 H1 s1 (idx.map λi=>σ[i]?.join)->Ps R1 H1->∃G,Ch T F' R' H' G R1 H1/\vt T G R1 H1 (back (Se.mrg (Se.rest b) s1) xs) σ:=by
  refine e2a4 (Se.cut hr) λFs F0 t0 h1 h2 hl=>?_
  have iS:∀a,Fs a->F' a:=λa h=>(tw.all a).mpr<|.inr<|(t0.all a).mpr<|.inl h
  have i0:∀a,F0 a->F' a:=λa h=>(tw.all a).mpr<|.inr<|(t0.all a).mpr<|.inr h
  have i1:∀a,F1 a->F' a:=λa h=>(tw.all a).mpr<|.inl h
  have d1S:∀a,F1 a->Fs a->False:=λa h k=>tw.xt a h<|(t0.all a).mpr<|.inl k
  have d10:∀a,F1 a->F0 a->False:=λa h k=>tw.xt a h<|(t0.all a).mpr<|.inr k
  refine#[Fs,#[λa h=>s'.sub a<|iS a h,s'.wy,s'.tab,s'.u4,λh=>s'.uP<|iS T h],λa h=>#[s'.sub a<|i1 a h,d1S a h,λz=>s'.uP<|by rw[<- z];exact i1 a h],h1,λ{s1 Gs R1 H1} c S1 r1 p1=>?_]
  have f0:rel F0 R1 H1 (Se.rest b) σ:=Sls.st h2 c.ext (λa h=>h.elim (λz=>s'.sub a<|iS a z) λz=>by rw[z];exact s'.u4) λa h z=>z.elim (λq=>t0.xt a q h) λq=>s'.uP (by rw[<- q];exact i0 a h)
  have nG:∀a,Gs a->F1 a\/F0 a->False:=λa g f=>by
    rcases c.xB a g with q|q
    · exact f.elim (λz => d1S a z q) λz => t0.xt a q z
    · exact s'.wy a (s'.sub a<|f.elim (i1 a)<|i0 a) q
  have out:∀a,F1 a\/F0 a->R1 a:=λa f=>c.left a (s'.sub a<|f.elim (i1 a)<|i0 a) λz=>f.elim (λq=>d1S a q z) λq=>t0.xt a z q
  refine#[λa=>F1 a\/Gs a\/F0 a,#[λb o n m h=>c.keep b o (λz=>n<|iS b z) m h,c.zn,λa h=>h.elim (λz=>.inl<|i1 a z) λz=>z.elim (λq=>(c.xB a q).elim (λz=>.inl<|iS a z) .inr) λq=>.inl<|i0 a q,λa h n=>c.left a h λz=>n<|iS a z],pb _ (λa=>Gs a\/F0 a) _ R1 H1 σ p1 (Se.join #[λ_=>Iff.rfl,λa m f=>nG a m<|.inr f] r1 f0 hl) (Ag.refl _ _) ⟨λ_=>Iff.rfl,λa h z=>z.elim (λq=>nG a q<|.inl h) λq=>d10 a h q⟩,λa h=>h.elim (λz=>out a<|.inl z) λz=>z.elim (S1.sub a) λq=>out a<|.inr q,S1.wy,S1.tab,S1.u4,λh=>h.elim (λz=>s'.uP<|i1 T z) λz=>z.elim S1.uP λq=>s'.uP<|i0 T q]
def v7[P:Pre k S Db][O:Fg D1 Db][m:Sel idx B S B0]{h:B->List α->D}{v:D->(List α->B->Prop)->(cr->D->Prop)->Prop}{g:Db->α->D1}{w:Wf D1 Bool D1}{y:Wf D1 γ D1}
 (o:X.calm=true) (U:IW X E T is z iter h v) (W:ye X a cl Ts Fr idx) (Y:Ts.length=k) (r:∀i,k<=i->i<k+idx.length->i∈mb)
 (Z:∀e f C j l,GW (Ek X a cl (Ts++Fr) e f C j l) T mb z g) (hT:∀e f C j l,YN (Ek X a cl (Ts++Fr) e f C j l) T t w) (hE:∀e f C j l,EW (Ek X a cl (Ts++Fr) e f C j l) XF T u y)
 (hs:∀x,jD iter X.env x=pure x:=by intro _;rfl) :
    EO X E T (.ListComp u [#[z,iter,t,0]] a pos) (λ(d:D)(A:OL γ->D->Prop) I=>v d (λn b=>n.length<=gk/\A8 (stepC P O g w y) n (m.sel b) λJ L=>A #[J]<|h (m.mrg (m.rest b) L) n) I):=by
  refine e1a2 U λti i1 i2=>?_
  refine#[_,Pg o i1 W hs,λd F R σ H A I Q s hw kn ke=>?_]
  refine i2 d F R σ H _ _ _ s hw (λn b Jt Ps F' F1 F2 R' H' q c M tw hr ip ps pk pb=>?_) ke
  refine e1a4 (Dw (idx:=idx) (Se:=m) M tw hr pb) λFs S0 n0 r0 on=>?_
  refine E9 Y r Z hT hE q.1 ip ps pk S0 n0 r0 q.2 λzs L Gs R1 H1 J kz c1 S1 r1 p1 pz p hp=>?_
  refine e1a2 (on c1 S1 r1 p1) λG c2 N=>?_
  refine e1a3 (wM N hp pz) λR2 c3 S3 n3=>?_
  exact kn _ _ _ _ G R2 _ kz (Ch.trans s N.tab (Ch.trans s M.tab c c2) c3) S3 n3
def zX[P:Pre k S Db][Gf:Fg D1 Db][v:Sel idx B S B0](j:Nat){m I J:Type}[Ow m][Sls I][Sls J][A:At j D m I][U:Pt j I (OL γ) J][Jp:Pj D PO n]{h:Pos}{l:B->List α->D}{W:D->(List α->B->Prop)->(cr->D->Prop)->Prop}{g:Db->α->D1}{Y:Wf D1 Bool D1}{Z:Wf D1 γ D1}
 (hN:X.N.Nodup) (hj:X.N[j]?=↑y) (hy:X.env.scope.names.lookup y=some .local) (L:js (.ListComp o [#[M,iter,r,0]] a pos) (some<|.Name y py) h.line X.env=pure true) (hm:j∉ms)
 (O:X.calm=true) (hi:IW X E T is M iter l W) (Bs:ye X a cl Ts Fr idx) (hk:Ts.length=k) (Q:∀i,k<=i->i<k+idx.length->i∈mb)
 (hG:∀e f C t u,GW (Ek X a cl (Ts++Fr) e f C t u) T mb M g) (hT:∀e f C t u,YN (Ek X a cl (Ts++Fr) e f C t u) T r Y) (hE:∀e f C t u,EW (Ek X a cl (Ts++Fr) e f C t u) XF T o Z)
 (hs:∀x,jD iter X.env x=pure x:=by intro _;rfl) :
    S1 X E T ms n (.Assign [.Name y py] (.ListComp o [#[M,iter,r,0]] a pos) h) (λ(d:D)(Kn:J->Prop)(Kr:τ->PO->Prop) Ke=>W d (λw b=>w.length<=gk/\A8 (stepC P Gf g Y Z) w (v.sel b) λys s1=>Kn<|U.put (A.hole<|l (v.mrg (v.rest b) s1) w) ⟨ys⟩) λC d'=>Ke C<|Jp.pj d'):=by
  refine e1a2 hi λti i1 i2=>?_
  refine#[_,Ph hN hj hy L O i1 Bs hs,λd F R σ H Kn Kr Ke En s hw kn kr ke=>?_]
  refine i2 d F R σ H _ _ _ s hw (λw b Jt Ps F' F1 F2 R' H' q c z tw hr ip ps pk pb=>?_) λC y d' F' R' H' q c z=>?_
  · refine e1a4 (Dw (idx := idx) (Se := v) z tw hr pb) λFs S0 n0 r0 on => ?_
    refine E9 hk Q hG hT hE q.1 ip ps pk S0 n0 r0 q.2 λzs s1 Gs R1 H1 ys kz c1 S1 r1 p1 pz p hp=>?_
    refine e1a2 (on c1 S1 r1 p1) λG c2 S2=>?_
    refine e1a3 (wM S2 hp pz) λR2 c3 S3 n3=>?_
    refine e1a2 (E7 (i:=j) S3 n3) λG2 g2 S4=>?_
    exact kn _ G2 R2 _ _ kz ((Ch.trans s S2.tab (Ch.trans s z.tab c c2) c3).less g2) S4<|Ag.set hm
  · refine e1a2 (vW (PO := PO) z) λG g1 g2 => ?_
    exact ke C y _ G R' H' q (c.less g1) g2
end
def Kp(g:cr)(H a:Hp):Prop:=∀b o,b≠g->H b=↑o->a b=↑o
def Kp.refl(g:cr)(H:Hp):Kp g H H:=λ_ _ _ h=>h
def Kp.trans{d e:Hp}(a:Kp g H d)(b:Kp g d e):Kp g H e:=λc o n h=>b c o n<|a c o n h
def Kp.at:Kp g H (upd H g o):=λb u n e=>by rw[uh n];exact e
def zq(h:H p=none):Cu H (upd H p o):=λb u e=>by rw[uh<|uu e h];exact e
noncomputable def Ex(q:cr)(i z s:Int):List V:=[.ref q,.int i,.int z,.int s]
structure Ce(H:Hp)(g q:cr)(ns:List Int)(i z s:Int):Prop where
 ob:H g=↑(.lst<|Ex q i z s)
 sc:H q=↑(.lst<|ns.map V.int)
 i0:0<=i
 ne:q≠g
def Ce.put{i z s:Int}(B:Ce H g q b i z s){a z':Int}(h:0<=a):Ce (upd H g<|.lst<|Ex q a z' s) g q b a z' s:=#[uk,by rw[uh B.ne];exact B.sc,h,B.ne]
def WI(q:cr)(i z s:Int):Ep (Ex q i z s) 0=↑(.ref q):=rfl
def Pk(q:cr)(i z s:Int):Ep (Ex q i z s) 1=↑(.int i):=rfl
def Pl(q:cr)(i z s:Int):Ep (Ex q i z s) 2=↑(.int z):=rfl
def a1b(q:cr)(i z s:Int):Ep (Ex q i z s) 3=↑(.int s):=rfl
def YO(x:Int):-(2 ^ 64)<x%2147483647/\x%2147483647<2 ^ 64:=by lia
def S8{ns:List Int}{i:Int}(b:0<=i)(c:i<(ns.length:Int)):∃n,Ep (ns.map V.int) i=↑(.int n):=by
 have a:i.toNat<ns.length:=by omega
 have e:(ns.map V.int)[i.toNat]?=↑(.int ns[i.toNat]):=by rw[ja,iU a];rfl
 have:=Lm e;rw[show ((i.toNat:Nat):Int)=i by omega]at this;exact#[_,this]
structure Bg where
instance:Ow Bg:=#[λF _ H _ v=>∃g q ns i z s,v=↑(.ref g)/\(∀b,F b↔b=g\/b=q)/\Ce H g q ns i z s,
 λ{F G R H R' H' x v} h e s n=>by
  obtain⟨g,q,ns,i,z,s',h1,h2,h3⟩:=h
  exact#[g,q,ns,i,z,s',h1,h2,#[e.keep g _ (n g<|(h2 g).mpr<|.inl rfl) h3.ob,e.keep q _ (n q<|(h2 q).mpr<|.inr rfl) h3.sc,h3.i0,h3.ne]],
 λh e=>by
  obtain⟨g,q,ns,i,z,s',h1,h2,h3⟩:=h
  exact#[g,q,ns,i,z,s',h1,λb=>(e b).symm.trans (h2 b),h3]]
instance:Hs Bg:=#[λz9=>e6a2 z9 λ_ _ _ _ _ _ h _=>#[_,h]]
instance:SU Bg:=#[λh _=>h]
def Pm:Sp:=λd H Q _=>∃(g q:cr)(c:List Int)(i z s a:Int),d=[.ref g,.int a]/\Ce H g q c i z s/\0<a/\a<1073741824 /\
 ∀b e f r,Kp g H b->Ce b g q c e f s->0<=r->r<a->Q (.int r) b
abbrev Vk:Bg×Int×Unit->(Int->Bg×Un×Unit->Prop)->(cr->Bg×Un×Unit->Prop)->Prop:=λp a _=>0<p.2.1/\p.2.1<1073741824/\∀r,0<=r->r<p.2.1->a r (#[],#[],())
def Vl{K:f9}{k:Nat}(F:uO P w K b base Oz k f c d g):uO P w K b base (uW P w) k f c d g :=
 #[F.len,λA a s H args i j Q E l m n o p=>jp (F.run A a s H args i j Q E l m n o p) λr t h=>by
  cases r with
  |error e=>exact gX h
  |ok q =>
   cases q with
   |ret u=>exact h
   |next=>exact gX h
   |brk=>exact gX h
   |cont=>exact gX h]
def a1c:∀{c:List V},List.map some c=[↑a,↑b]->c=[a,b]:=by
 intro c e
 cases c with
 |nil=>cases e
 |cons p r=>cases r with
  |nil=>cases e
  |cons q s=>cases s with
   |nil=>cases e;rfl
   |cons _ _=>cases e
def WJ{K:f9}{k:Nat}(F:uO P w K I base Oz k f J c Pm):uO P w K I base (uW P w) k f J c (xR T Vk):=by
 refine(Vl F).imp λL H Q E h=>?_;obtain⟨m,R,p,Kn,Ke,s,⟨M,N,O⟩,S,_⟩:=h;obtain⟨v1,U,X,Y,Z,v,⟨g,q,x,i,z,y,rfl,A,hb⟩,d⟩:=s.rel;obtain⟨v2,aa,F3,F4,e2,t2,⟨n3,u,rfl,r2⟩,e3,n4⟩:=d;subst r2;subst e2 e3
 have ev:L=[.ref g,.int p.2.1]:=by exact a1c Z
 subst ev;have B:m g:=(v.all g).mpr<|.inl<|(A g).mpr<|.inl rfl;have gT:g≠T:=λe=>s.uP (by rw[<- e];exact B);refine#[g,q,x,i,z,y,p.2.1,rfl,hb,M,N,λC i' z' r j D r0 d=>?_]
 have l:∀a,R a->C a≠none:=λa h=>by
  by_cases e:a=g
  ·rw[e,D.ob];simp
  ·cases G:H a with
   |none=>exact gA G<|s.wy a h
   |some o=>rw[j a o e G];simp
 refine S r (#[],#[],()) _ (λ_=>False) m R C (O r r0 d) #[λb o n _ h=>j b o (λe=>n<|by rw[e];exact B) h,λ_ h=>.inl h,λa h=>h.elim (λz=>z.elim) .inl,λ_ h _=>h]
  #[#[_,_,X,Y,rfl,v,#[g,q,x,i',z',y,rfl,A,D],_,_,F3,F4,rfl,t2,n3,rfl,n4],s.sub,l,?_,s.u4,s.uP] #[#[λ_ z=>z,_,rfl,rfl],λ_ z=>z.elim,λ_ z=>z.elim,λz=>z]
 refine e1a2 s.tab λc e t=>?_;exact#[c,j T _ (λe=>gT e.symm) e,t]
structure Fn(K:f9)(mg:Str->Option ci)(x:Str)(st:gR)(ps:List Str)(f:cr)(fd:hO):Prop where
 fn:yk K x x st f fd
 at_:mg x=↑(.ref f)
 bd:Binds K fd ps []
def a1d{a b c d e:Type}{P:a×b×c×d×e->Prop}(h:∀f g i j k,P (f,g,i,j,k)):∀x,P x:=λx=>h x.1 x.2.1 x.2.2.1 x.2.2.2.1 x.2.2.2.2
def YQ{a b c d e f g:Type}{P:a×b×c×d×e×f×g->Prop}(h:∀i j k l m n o,P (i,j,k,l,m,n,o)):∀x,P x:=λx=>h x.1 x.2.1 x.2.2.1 x.2.2.2.1 x.2.2.2.2.1 x.2.2.2.2.2.1 x.2.2.2.2.2.2
def YR{a b c d e f g i:Type}{P:a×b×c×d×e×f×g×i->Prop}(h:∀j k l m n o p q,P (j,k,l,m,n,o,p,q)):∀x,P x:=λx=>h x.1 x.2.1 x.2.2.1 x.2.2.2.1 x.2.2.2.2.1 x.2.2.2.2.2.1 x.2.2.2.2.2.2.1 x.2.2.2.2.2.2.2
def Ey{a b c d e f g i j:Type}{P:a×b×c×d×e×f×g×i×j->Prop}(h:∀k l m n o p q r s,P (k,l,m,n,o,p,q,r,s)):∀x,P x:=λx=>h x.1 x.2.1 x.2.2.1 x.2.2.2.1 x.2.2.2.2.1 x.2.2.2.2.2.1 x.2.2.2.2.2.2.1 x.2.2.2.2.2.2.2.1 x.2.2.2.2.2.2.2.2
def Vm{b c d e f g i j k l a:Type}{P:b×c×d×e×f×g×i×j×k×l×a->Prop}(h:∀n o p q r s t u v w m,P (n,o,p,q,r,s,t,u,v,w,m)):∀x,P x:=λx=>h x.1 x.2.1 x.2.2.1 x.2.2.2.1 x.2.2.2.2.1 x.2.2.2.2.2.1 x.2.2.2.2.2.2.1 x.2.2.2.2.2.2.2.1 x.2.2.2.2.2.2.2.2.1 x.2.2.2.2.2.2.2.2.2.1 x.2.2.2.2.2.2.2.2.2.2
def uv{K:f9}{d:Str->Option ci}{k:Nat}{e:List Str}{A c g:Type}[Sls A][Sls c][Ow g]{i j:Wf A g c}(F:uO P w K d base (uW P w) k f l e (xR T i))(h:∀p a b,j p a b->i p a b):uO P w K d base (uW P w) k f l e (xR T j) :=
 F.imp λo H Q E m=>e5a3 m λF R p a b s n r=>#[F,R,p,a,b,s,h p a b n,r]
def YS:Passes (uW P w) X XF:=λa b H s e c I h=>by obtain⟨_,_,_,_,_,z⟩:=h;exact z.elim
def lkc{β:Type}{n x:Str}{c c':β}{r:List (Str×β)}(h:jF x ((n,c)::r)=↑c'):(x=n/\c'=c)\/jF x r=↑c':=by
 rw[g8]at h
 cases q:x==n with
 |true=>rw[q]at h;exact .inl #[eq_of_beq q,(il h).symm]
 |false=>rw[q]at h;exact .inr h
def fc{b:Type}{p:b->Prop}{a:b}{l:List b}(h:p a)(t:∀y∈l,p y):∀y∈a::l,p y:=λy c=>by
 rcases List.mem_cons.mp c with e|e
 ·rw[e];exact h
 ·exact t y e
def vQ{k m:Nat}(h:a=(gL m).map (k + ·)):∀i,k<=i->i<k+m->i∈a:=λi b c=>by rw[h];exact List.mem_map.mpr #[i-k,List.mem_range.mpr q0d,q0d]
def a2G{a:Type}{p:a->Prop}:∀y∈([]:List a),p y:=λ_ h=>by cases h
section
variable{D PO τ:Type}[Sls D][Sls PO][Ow τ]{α:Type}[Rep α]
def WK(f:EW X E T a i):EW X E T (.UnaryOp .USub a pos) (λ(d:D)(j:Int->D->Prop) l=>i d (λx m=>j (-x) m) l):=by have h:=Wu (c:=λ_=>True) (γ:=Int) (g:=λx:Int=>-x) (e:=.UnaryOp .USub a pos) f (λn b=>UX N4 b) λb _ k=>#[_,b,k _ rfl];simp only[true_and]at h;exact h
def xX(i:Nat)[Sls l][Sls g][Hs τ][A:At i D τ g][J:Pj g PO n](m:PE X (.Name x p) (uR i)):S1 X E T I n (.Return (some<|.Name x p) pos) (λ(d:D)(_:l->Prop)(j:τ->PO->Prop) _=>j (A.get d)<|J.pj<|A.hole d):=by refine⟨_,Bv m,λd F R L H M j N O s q P r Q=>?_⟩;refine e3a4 (A.take s.rel) λv t w y c k B=>?_;obtain⟨u,rfl⟩:=Hs.has k;have f:∀a,w a->F a:=λa h=>(c.all a).mpr<|.inr h;refine e1a2 (J.le B) λG e C=>?_;exact#[u,y,r _ _ u t G R H q #[λb o _ _ h=>h,λ_ h=>.inl h,λa h=>.inl<|h.elim (λz=>(c.all a).mpr<|.inl z) λz=>f a<|e a z,λ_ h _=>h] #[C,λa h=>s.sub a<|f a<|e a h,s.wy,s.tab,s.u4,λh=>s.uP<|f T<|e T h] ⟨k,λa h=>s.sub a<|(c.all a).mpr<|.inl h,λa h z=>c.xt a h<|e a z,λh=>s.uP<|(c.all T).mpr<|.inl h⟩]
def S9{O:List hW}{i P PO B A:Type}[Ow i][Sls P][Sls PO][Sls B][Sls A]{G:B->A->PO->D}{we:Wf D i D}{wr:D->(P->B->A->Prop)->(cr->D->Prop)->Prop}
 (ha:EO X E T e we) (hr:JI X E T O G wr) (hs:gf (e::O) X.env=(false,eval e X.env)::gf O X.env:=by rfl) :
    JI X E T (e::O) (λ(b:B)(l:A)(p:Un×PO)=>G b l p.2) (λ(d:D)(Kn:i×P->B->A->Prop) I=>we d (λx W=>wr W (λp b l=>Kn (x,p) b l) I) I):=by
  refine e1a2 ha λta a1 a2=>?_
  refine e1a2 hr λtr b1 b2=>?_
  refine#[_,ur a1 b1 hs,λd F R σ H Kn I Q s hw kn ke=>?_]
  refine a2 d F R σ H _ I _ s hw (λx W u j F1 R1 H1 q1 c1 v g=>?_) ke
  have J:Ch T F R H F1 R1 H1:=c1.less λ_ z=>.inr z
  refine b2 W F1 R1 σ H1 _ I _ v q1 (λp b l vs us Y G2 L o w M q2 S N r h1 h2 hl k=>?_) λC y d' o w M k c s'=>ke C y d' o w M k (Ch.trans s v.tab J c) s'
  -- the new Z Pd
  have mF:∀a,j a->o a->False:=λa m f=>by
    rcases S.xB a f with q|q
    · exact g.xt a m q
    · exact v.wy a (g.sub a m) q
  have mT:∀a,j a->a≠T:=λa m z=>g.tab (by rw[<- z];exact m)
  have mx:sl j w M x ↑u:=Ow.st g.is S.ext (λa h=>h.elim (v.sub a) λq=>by rw[q];exact v.u4) λa m z=>z.elim (g.xt a m)<|mT a m
  have mR:∀a,j a->w a:=λa m=>S.left a (g.sub a m) λz=>g.xt a m z
  have g1:∀a,Y a->o a:=λa h=>(r.all a).mpr<|.inl h
  have g2:∀a,G2 a->o a:=λa h=>(r.all a).mpr<|.inr<|.inl h
  have g3:∀a,L a->o a:=λa h=>(r.all a).mpr<|.inr<|.inr h
  have U:=Ch.trans s v.tab J S
  refine kn (x,p) b l (u::vs) us (λa=>j a\/Y a) G2 L (λa=>j a\/o a) w M q2 #[U.keep,U.zn,λa h=>h.elim (λz=>c1.xB a<|.inl z)<|U.xB a,U.left] ⟨λa h=>h.elim (mR a)<|N.sub a,N.wy,N.tab,N.u4,λh=>h.elim g.tab N.uP⟩
    #[λa=>?_,λa m n=>m.elim (λz=>mF a z<|g2 a n) λz=>r.Hl a z n,λa m n=>m.elim (λz=>mF a z<|g3 a n) λz=>r.IN a z n,r.IP] #[↑u,vs.map some,j,Y,rfl,#[λ_=>Iff.rfl,λa m n=>mF a m<|g1 a n],Ow.wk mx<|BJ w L M,h1] h2 hl λb' l' L1 L2 L3 aa ab ae p' h3 h4 h5 t=>?_
  · rw[r.all]
    exact#[λz=>z.elim (λq=>.inl<|.inl q) λz=>z.elim (λq=>.inl<|.inr q) .inr,λz=>z.elim (λz=>z.elim .inl λq=>.inr<|.inl q) λz=>.inr<|.inr z]
  · refine e4a4 h3 λv' af N1 N2 z1 z2 z3 z4 => ?_
    injection z1 with _ z5
    subst z5
    exact k b' l' L1 L2 L3 aa ab ae p'.2 (Sls.fq z4<|two_eq z2 z3) h4 h5 t
class YT(α:Type)[Rep α](ty:String)(b:outParam Bool):Prop where
 ist:∀{K:f9} {R:Rg} {H:Hp} {x:α} {v:V},rp R H x v->∃t,zg K H v t/\qf K t (.type ty)=↑b
instance:YT Int "int" true:=#[λ{K R H x v} h=>by
 subst h
 exact#[_,zg.int x,by rfl]]
instance:YT Int "bool" false:=#[λ{K R H x v} h=>by
 subst h
 exact#[_,zg.int x,by rfl]]
instance:YT (List α) "list" true:=#[λ{K R H x v} h=>by
 obtain⟨a,vs,rfl,_,h3,_⟩:=h
 exact#[_,zg.lst h3,by rfl]]
def BK{b:Bool}[YT α ty b]{i:Wf D α D}(l:Gl X "isinstance")(m:X.mg "isinstance"=none)(c:PE X (.Name x q) (tC<|.ty ty))(n:EW X E T a i)
 (j:gf [a,.Name x q] X.env=(false,eval a X.env)::gf [.Name x q] X.env:=by rfl) (e:gf [.Name x q] X.env=(false,eval (.Name x q) X.env)::gf [] X.env:=by rfl) (f:(iN pos<|gf [.Name x q] X.env).any (·.1)=false:=by rfl) :
    EW X E T (.Call (.Name "isinstance" p) [a,.Name x q] [] pos) (λ(d:D)(k:Bool->D->Prop) g=>i d (λ_ h=>k b h) g):=by
  refine e1a2 n λP o r=>?_
  refine#[_,wj HQ l m PyProof.Rows.boot_isinstance (ur o (ur c uA e) j) (he:=j) (hpl:=f),λd F R v H k g Q s w z A=>r d F R v H _ g _ s w (λy h u B C G I J L M=>?_) A]
  refine e1a2 (YT.ist (ty:=ty) (K:=X.K) M) λt N O=>?_
  exact#[u,ty,t,b,rfl,N,O,z _ h _ B C G I J L rfl]
end
end WL
namespace ZT
open PySem PySem.Spec PyProof.Rows
def Dx{i:Nat}(a:s.heap.IsTupleIter b t i)(h:s.heap.IsTuple t j)(k:j[i]?=↑x)
 (l:∀e,e.IsTupleIter b t (i+1)->im b s.heap e->Q x { s with heap:=e}):gu (gv g w) A (iM<|.ref b) Q E s:=by
  obtain⟨o,d,n,c⟩:=id a;obtain⟨p,q,_,m,r⟩:=h;unfold iM
  refine am<|wpAny_callSpecial?_slot (name:=kW "__next__") a.typeIs kX<|ij kX a.typeIs rh ?_<|qS _
  show gu _ _ (ts (.ref b) 0 >>= _) _ _ s;refine am<|iC d c (x:=.ref t) rfl ?_
  show gu _ _ (ts (.ref b) 1 >>= _) _ _ s;refine am<|iC d c (x:=.int i 0) rfl ?_
  show gu _ _ (seqItems? (.ref t) >>= _) _ _ s;refine am<|ki q r ?_;simp only[kG,k]
  have f:Heap.IsTupleIter (s.heap.update b λu=>u.mapFields (·.setIfInBounds 1 (kO<|(i:Int)+1))) b t (i+1):=#[_,ie _ d<|Obj.isFreed_of_fields<|Obj.data_mapFields c _,(Obj.cls_mapFields ..).trans n,by rw[Obj.data_mapFields c];simp[kO]]
  exact am<|mj d c q0o<|ap #[x,rfl,ap<|l _ f<|nM ..]
def LF{i:Nat}(h:A.handled=none)(b:s.heap.IsTupleIter c t i)(k:s.heap.IsTuple t l)(n:l[i]?=none)
 (q:∀d e,Heap.ExtBut c s.heap d->(∃o,d.get? e=↑o/\o.cls=.type "StopIteration")->E (.ref e) { s with heap:=d}):gu (gv j w) A (iM<|.ref c) Q E s:=by
  obtain⟨o,f,v,g⟩:=id b;obtain⟨p,r,_,m,u⟩:=k;unfold iM
  refine am<|wpAny_callSpecial?_slot (name:=kW "__next__") b.typeIs kX<|ij kX b.typeIs rh ?_<|qS _
  show gu _ _ (ts (.ref c) 0 >>= _) _ _ s;refine am<|iC f g (x:=.ref t) rfl ?_
  show gu _ _ (ts (.ref c) 1 >>= _) _ _ s;refine am<|iC f g (x:=.int i 0) rfl ?_
  show gu _ _ (seqItems? (.ref t) >>= _) _ _ s;refine am<|ki r u ?_;simp only[kG,n]
  refine am<|lh<|am<|mj f g q0o ?_;show gu _ _ (newExc (.type "StopIteration") [] >>= _) _ _ _
  refine am ?_;simp only[newExc,newTuple];refine am<|hR ?_ (by size_fits)
  refine am (m:=pF _ _)<|lW (a:=Value.none) (by first|rfl|(simp only[pF];rfl))<|hR ?_ (by size_fits)
  simp only[raiseNew];refine am<|wpAny_handled ?_;first|rw[show A.in1.handled=none from h]|rw[h]
  exact am<|ap<|wpAny_throw<|q _ _ (((nM ..).extBut.push _).push _) #[_,gx _ rfl,rfl]
abbrev YU(h:hX)(z c d e g i j:cr)(f:ci)(k:Nat)(l m:Array ci):Prop :=
 rj h z c d f/\pI h c (.ref e) (.ref g)/\(∃a b,pI h d a b)/\h.IsTupleIter e i k/\h.IsTupleIter g j k/\h.IsTuple i l/\h.IsTuple j m
def Ta{g d:cr}{k:Nat}{Q:ci->gn->Prop}(D:ZipApart z g d l m H I)(st:YU s.heap z g d l m H I .none k xs ys)(hx:xs[k]?=↑x)(hy:ys[k]?=↑y)
 (hQ:∀h,rj h z g d (kO ⇑s)->pI h d x y->h.IsTupleIter l H (k+1)->h.IsTupleIter m I (k+1)->pI h ⇑s x y ->
 (∀c o,c≠z->c≠d->c≠l->c≠m->s.heap.get? c=↑o->h.get? c=↑o)->Q (.ref ⇑s) { s with heap:=h}) :
    gu (gv W w) A (Builtin.«zip.__next__» #[[.ref z],[]]) (λJ s'=>∃v,J=.done (.ret v)/\Q v s') E s:=by
  obtain⟨q,L,⟨a,b,M⟩,h1,h2,N,O⟩:=st
  show gu _ _ (ts (.ref z) 2 >>= _) _ _ _;refine am<|iC q rfl (x:=.bool false) rfl ?_
  show gu _ _ (ts (.ref z) 3 >>= _) _ _ _;refine am<|iC q rfl (x:=.ref g) rfl<|am<|ki L rfl ?_
  show gu _ _ (ju (.ref z) >>= _) _ _ _;refine am ?_;unfold ju
  refine am<|iC q rfl (x:=.none) rfl<|ap ?_;simp only[if_true]
  refine am<|lh<|am<|iC q rfl (x:=.ref d) rfl<|am<|jl q q0o λg1 P i=>?_
  replace P:rj g1 z g d .ellipsis:=P;refine am ?_;simp only[ud,List.zipIdx_nil,List.forIn_cons,List.forIn_nil]
  refine am<|am<|ou ?_;show gu _ _ (iM (.ref l) >>= _) _ _ _
  refine am<|Dx (h1.extBut i.extBut D.i1z) (N.extBut i.extBut D.l1z) hx λg2 a2 n=>ap ?_
  have X:pI g2 d a b:=n.extBut _ _ D.TOi1<|i.extBut _ _ D.TOz M
  refine am<|ki X rfl<|am<|pJ X λg3 R p=>am<|rn<|ap ?_
  replace R:pI g3 d x b:=R
  refine am<|am<|ou ?_;show gu _ _ (iM (.ref m) >>= _) _ _ _
  refine am<|Dx (((h2.extBut i.extBut D.i2z).extBut n.extBut D.i12.symm).extBut p.extBut D.TOi2.symm) (((O.extBut i.extBut D.l2z).extBut n.extBut D.l2i1).extBut p.extBut D.l2TO) hy λg4 a4 r=>ap ?_
  have Y:pI g4 d x b:=r.extBut _ _ D.TOi2 R
  refine am<|ki Y rfl<|am<|pJ Y λf u t=>am<|rn<|ap<|ap ?_
  replace u:pI f d x y:=u
  refine am<|ki u rfl<|am<|wpAny_newTuple ?_
  have Z:f.objs.size=⇑s:=by rw[t.1,r.1,p.1,n.1,i.1]
  have z5:rj f z g d .ellipsis:=t.extBut _ _ D.TOz.symm<|r.extBut _ _ D.i2z.symm<|p.extBut _ _ D.TOz.symm<|n.extBut _ _ D.i1z.symm P
  have k5:∀c o,c≠z->c≠d->c≠l->c≠m->s.heap.get? c=↑o->f.get? c=↑o:=λc o j B S T e=>t.extBut _ _ B<|r.extBut _ _ T<|p.extBut _ _ B<|n.extBut _ _ S<|i.extBut _ _ j e
  have q1:f.IsTupleIter l H (k+1):=((a2.extBut p.extBut D.TOi1.symm).extBut r.extBut D.i12).extBut t.extBut D.TOi1.symm
  have q2:f.IsTupleIter m I (k+1):=a4.extBut t.extBut D.TOi2.symm
  have lz:z<f.objs.size:=gp z5
  show gu _ _ (mV (.ref z) (.ref f.objs.size) >>= _) _ _ _;refine am ?_;unfold mV
  have z6:rj (f.push { cls:=.type "tuple",data:=.seq #v[x,y]}) z g d .ellipsis:=ce _ z5
  refine am<|jl z6 q0o λg7 U e7=>?_;replace U:rj g7 z g d (kO f.objs.size):=U
  refine jl U q0o λC F e8=>?_;replace F:rj C z g d (kO f.objs.size):=F
  have G:∀c o,c≠z->f.get? c=↑o->C.get? c=↑o:=λc o j e=>e8.extBut _ _ j<|e7.extBut _ _ j<|ce _ e
  have t8:pI C f.objs.size x y:=e8.extBut _ _ (iK lz)<|e7.extBut _ _ (iK lz)<|gx _ rfl
  rw[Z]at F t8;refine ap #[_,rfl,?_];show Q (.ref f.objs.size) _;rw[Z]
  exact hQ C F (G _ _ D.TOz u) (q1.at λo e=>G _ o D.i1z e) (q2.at λo e=>G _ o D.i2z e) t8 λc o j B S T e=>G c o j<|k5 c o j B S T e
def WM{l f:cr}{k:Nat}(O:A.handled=none)(D:ZipApart z l f v y l1 l2)(st:YU s.heap z l f v y l1 l2 .none k P R)(m:P[k]?=none\/R[k]?=none)
 (S:∀B e,(∀c o,c≠z->c≠f->c≠v->c≠y->s.heap.get? c=↑o->B.get? c=↑o)->(∃o,B.get? e=↑o/\o.cls=.type "StopIteration")->E (.ref e) { s with heap:=B}) :
    gu (gv T w) A (Builtin.«zip.__next__» #[[.ref z],[]]) Q E s:=by
  obtain⟨n,C,⟨a,b,F⟩,U,h2,p,G⟩:=st
  show gu _ _ (ts (.ref z) 2 >>= _) _ _ _;refine am<|iC n rfl (x:=.bool false) rfl ?_
  show gu _ _ (ts (.ref z) 3 >>= _) _ _ _;refine am<|iC n rfl (x:=.ref l) rfl<|am<|ki C rfl ?_
  show gu _ _ (ju (.ref z) >>= _) _ _ _;refine am ?_;unfold ju
  refine am<|iC n rfl (x:=.none) rfl<|ap ?_;simp only[if_true]
  refine am<|lh<|am<|iC n rfl (x:=.ref f) rfl<|am<|jl n q0o λg1 u d=>?_
  replace u:rj g1 z l f .ellipsis:=u;refine am ?_;simp only[ud,List.zipIdx_nil,List.forIn_cons,List.forIn_nil]
  refine am<|am<|ou ?_;show gu _ _ (iM (.ref v) >>= _) _ _ _
  cases H:P[k]? with
  |none =>
    refine am<|LF O (U.extBut d.extBut D.i1z) (p.extBut d.extBut D.l1z) H λI e g J=>?_;obtain⟨L,i,r⟩:=J
    have W:rj I z l f .ellipsis:=g _ _ D.i1z.symm u
    have M:e≠z:=λq=>by subst q;rw[W]at i;cases i;simp at r
    exact jl W q0o λX _ j=>S X e (λc o t _ N _ q=>j.extBut _ _ t<|g _ _ N<|d.extBut _ _ t q) #[L,j.extBut _ _ M i,r]
  |some x =>
    have hy:R[k]?=none:=by rcases m with h|h;rw[H]at h;cases h;exact h
    refine am<|Dx (U.extBut d.extBut D.i1z) (p.extBut d.extBut D.l1z) H λI a2 g=>ap ?_
    have Y:pI I f a b:=g.extBut _ _ D.TOi1<|d.extBut _ _ D.TOz F
    refine am<|ki Y rfl<|am<|pJ Y λX p3 j=>am<|rn<|ap ?_
    refine am<|am<|ou ?_;show gu _ _ (iM (.ref y) >>= _) _ _ _
    refine am<|LF O (((h2.extBut d.extBut D.i2z).extBut g.extBut D.i12.symm).extBut j.extBut D.TOi2.symm) (((G.extBut d.extBut D.l2z).extBut g.extBut D.l2i1).extBut j.extBut D.l2TO) hy λg4 e Z J=>?_
    obtain⟨L,i,r⟩:=J
    have z4:rj g4 z l f .ellipsis:=Z _ _ D.i2z.symm<|j.extBut _ _ D.TOz.symm<|g.extBut _ _ D.i1z.symm u
    have M:e≠z:=λq=>by subst q;rw[z4]at i;cases i;simp at r
    exact jl z4 q0o λg5 _ e5=>S g5 e (λc o t c2 N c4 q=>e5.extBut _ _ t<|Z _ _ c4<|j.extBut _ _ c2<|g.extBut _ _ N<|d.extBut _ _ t q) #[L,e5.extBut _ _ M i,r]
noncomputable abbrev tI(l:cr):Obj:={ cls:=.type "tuple_iterator",data:=.fields #v[.ref l,.int 0 0]}
noncomputable abbrev H1(h:hX)(a:cr):hX:=h.push<|tI a
noncomputable abbrev H2(h:hX)(a b:cr):hX:=(H1 h a).push<|tI b
noncomputable abbrev H3(h:hX)(a b:cr):hX:=(H2 h a b).push { cls:=.type "tuple",data:=.seq #v[.ref h.objs.size,.ref (H1 h a).objs.size]}
noncomputable abbrev H4(h:hX)(a b:cr):hX:=(H3 h a b).push { cls:=.type "tuple",data:=.seq #v[.none,.none]}
noncomputable abbrev H5(h:hX)(a b:cr):hX:=(H4 h a b).push { cls:=.type "zip",data:=.fields #v[.none,.bool false,.bool false,.ref (H2 h a b).objs.size,.ref (H3 h a b).objs.size]}
def made(a b:cr)(c e:Array ci):Meets (Builtin.«zip.__new__» #[[.type "zip",.ref a,.ref b],[]]) (λ_ R s=>s.heap.IsTuple a c/\s.heap.IsTuple b e/\R (.ok<|.ret<|.ref (H4 s.heap a b).objs.size) { s with heap:=H5 s.heap a b}) :=
 .of_wp λf w A R s h=>by
  obtain⟨i,g,d,j,k⟩:=s;obtain⟨m,n,h⟩:=h;have l:=sub_zip;have o:pO (Shared.heap #[i,g,d,j,k]) a c:=m;have p:pO (Shared.heap #[i.push<|tI a,g,d,j,k]) b e:=Heap.IsTuple.push n _
  wp_walk using qe o,qe p
  exact#[_,rfl,h]
def Pn(n:s.heap.IsTuple a p)(q:s.heap.IsTuple b r)
 (h:∀d,YU d (⇑s+4) (⇑s+2) (⇑s+3) ⇑s (⇑s+1) a b .none 0 p r->d.objs.size=⇑s+5->(∀c o,s.heap.get? c=↑o->d.get? c=↑o)->Q (.ref<|⇑s+4) { s with heap:=d}) :
    gu (gv t w) A (call (.type "zip") [.ref a,.ref b]) Q E s:=by
  refine callType_new F.called_zip q0q (F.typeCall_zip_2 _ _) (F.newCall_zip_2 _ _) (λf=>F.args_object_init_3 f _ _) F.entry_zip_new (made a b p r) #[n,q,?_]
  have g:(H1 s.heap a).objs.size=⇑s+1:=i4 ..
  have i:(H2 s.heap a b).objs.size=⇑s+2:=by rw[i4,g]
  have j:(H3 s.heap a b).objs.size=⇑s+3:=by rw[i4,i]
  have k:(H4 s.heap a b).objs.size=⇑s+4:=by rw[i4,j]
  have z:(H5 s.heap a b).objs.size=⇑s+5:=by rw[i4,k]
  have l:(H5 s.heap a b).get? (H4 s.heap a b).objs.size=↑_:=gx _ rfl
  have u:(H5 s.heap a b).get? (H3 s.heap a b).objs.size=↑_:=ce _<|gx _ rfl
  have v:(H5 s.heap a b).get? (H2 s.heap a b).objs.size=↑_:=ce _<|ce _<|gx _ rfl
  have y:(H5 s.heap a b).get? (H1 s.heap a).objs.size=↑_:=ce _<|ce _<|ce _<|gx _ rfl
  have B:(H5 s.heap a b).get? ⇑s=↑_:=ce _<|ce _<|ce _<|ce _<|gx _ rfl
  have m:∀c o,s.heap.get? c=↑o->(H5 s.heap a b).get? c=↑o:=λc o x=>ce _<|ce _<|ce _<|ce _<|ce _ x
  rw[i,j,k]at l;rw[g,i]at v;rw[j]at u;rw[g]at y;rw[k]
  exact#[#[_,l,rfl],h _ #[l,v,#[_,_,u],#[_,B,rfl,rfl],#[_,y,rfl,rfl],n.at λo e=>m _ o e,q.at λo e=>m _ o e] z m]
def walk(hh:A.handled=none)(z TI TO i1 i2 l1 l2:cr)(D:ZipApart z TI TO i1 i2 l1 l2)(xs ys:Array ci):WalksT prog w A z [z,TI,TO,i1,i2,l1,l2] [z,TO,i1,i2] (min xs.size ys.size)
   (λi vals=>∃x y,xs[i]?=↑x/\ys[i]?=↑y/\vals=#v[x,y]) (λi h=>YU h z TI TO i1 i2 l1 l2 .none i xs ys)
   (λi T h=>YU h z TI TO i1 i2 l1 l2 (kO T) (i+1) xs ys/\T≠z/\T≠TO/\T≠i1/\T≠i2) where
 sub:=λc hc=>by simp only[gO,iv,lj]at hc ⊢;rcases hc with q|q|q|q<;>simp[q]
 frame:=λi h h' st k=>by obtain⟨hz,YV,⟨a,b,YW⟩,h1,h2,YX,YY⟩:=st;exact#[k z q0o _ hz,k TI q0o _ YV,#[a,b,k TO q0o _ YW],h1.at λo e=>k i1 q0o o e,h2.at λo e=>k i2 q0o o e,YX.at λo e=>k l1 q0o o e,YY.at λo e=>k l2 q0o o e]
 item:=λi s Q E hi st hQ=>by have ix:i<xs.size:=gG hi<|Nat.min_le_left ..;have iy:i<ys.size:=gG hi<|Nat.min_le_right ..;have hT:s.TypeIs (.ref z) "zip":=⟨_,st.1,rfl⟩;unfold pyNext;refine am<|oq<|wpAny_callSpecial?_slot (name:=kW "__next__") hT oR<|ij oR hT F.entry_zip_next (Ta D st (iP ix) (iP iy) λh' a1 a2 a3 a4 a5 k=>ap ?_)<|F.args_zip_next_1 _;obtain⟨hz,YV,⟨a,b,YW⟩,h1,h2,YX,YY⟩:=st;have lt:∀{c o},s.heap.get? c=some o->⇑s≠c:=λe=>iK<|gp e;refine hQ ⇑s #v[xs[i],ys[i]] h' s.toks ⟨_,_,iP ix,iP iy,rfl⟩ (gg _) ⟨_,a5,rfl,_,rfl⟩ ⟨⟨a1,k _ _ D.TIz D.TITO D.TIi1 D.TIi2 YV,⟨_,_,a2⟩,a3,a4,YX.at λo e=>k _ o D.l1z D.l1TO D.l1i1 D.l1i2 e,YY.at λo e=>k _ o D.l2z D.l2TO D.l2i1 D.l2i2 e⟩,lt hz,lt YW,by obtain⟨_,e,_⟩:=h1;exact lt e,by obtain⟨_,e,_⟩:=h2;exact lt e⟩ ?_;exact λc o hc e=>k c o (λx=>hc<|by simp[x]) (λx=>hc<|by simp[x]) (λx=>hc<|by simp[x]) (λx=>hc<|by simp[x]) e
 go:=λelts k pos i T s Q E hm hQ=>by obtain⟨⟨hz,YV,⟨a,b,YW⟩,h1,h2,YX,YY⟩,_⟩:=hm;refine wpAny_letOwnedTupleGo_zip hz λh' hz' e=>hQ h' #[hz',e.extBut _ _ D.TIz YV,#[a,b,e.extBut _ _ D.TOz YW],h1.extBut e.extBut D.i1z,h2.extBut e.extBut D.i2z,YX.extBut e.extBut D.l1z,YY.extBut e.extBut D.l2z] λc o hc q=>e.extBut _ _ (λx=>hc<|by simp[x]) q
 apart:=λi T h hm hT=>by obtain⟨_,t1,t2,t3,t4⟩:=hm;simp only[gO,iv,lj]at hT;rcases hT with q|q|q|q;exact t1 q;exact t2 q;exact t3 q;exact t4 q
 done:=λs Q E st hQ=>by
  have a1f:xs[min xs.size ys.size]?=none\/ys[min xs.size ys.size]?=none:=by
   rcases Nat.le_total xs.size ys.size with h|h
   ·rw[Nat.min_eq_left h];exact .inl<|rE<|gg _
   ·rw[Nat.min_eq_right h];exact .inr<|rE<|gg _
  have hT:s.TypeIs (.ref z) "zip":=#[_,st.1,rfl];unfold pyNext;refine am<|oq<|wpAny_callSpecial?_slot (name:=kW "__next__") hT oR<|ij oR hT F.entry_zip_next (WM hh D st a1f λh' e k he=>?_)<|F.args_zip_next_1 _;obtain⟨o,ho,hc⟩:=he;exact am<|lv (T:="StopIteration") (b:=true) ⟨o,ho,hc⟩ isSubtype_stop<|ap<|hQ _ s.toks λc o hc e=>k c o (λx=>hc<|by simp[x]) (λx=>hc<|by simp[x]) (λx=>hc<|by simp[x]) (λx=>hc<|by simp[x]) e
 self:=λi s Q E st hQ=>wpAny_pyIter_zip st.1 hQ
end ZT
namespace L2
open PySem PySem.Spec PyProof.Rows
def a1g:OM X (yA X.K) P:=#[λ{v J H1 g a b L M x} m N y A B=>by
 obtain⟨n,C,p,O⟩:=m.tuple y;obtain⟨q,D,r,R⟩:=m.tuple A;have h:g.heap.get? P=↑(qk x):=m.uV P _ B;have i:pO g.heap a n.toArray:=p;have j:pO g.heap b q.toArray:=r
 have f:∀(l:cr)(d:Array ci),g.heap.IsTuple l d->l≠P:=λl d s=>e1a3 s λo e c _ z=>by rw[z,h]at e;cases e;cases c
 have k:∀(l:cr)(d:Array ci),g.heap.IsTuple l d->l<⇑g:=λl d s=>e1a2 s λo e _=>gp e;refine#[n,q,C,D,k _ _ i,k _ _ j,f _ _ i,f _ _ j,λQ E F=>ZT.Pn i j λG t u H=>?_]
 exact F G _ _ (λS I=>(ZT.walk (prog:=X.prog) (w:=X.w) I _ _ _ _ _ _ _ (zipApart_new (k _ _ i) (k _ _ j)) n.toArray q.toArray).toU) t u H]
end L2
namespace HT
variable[L2.GX]
open PySem PySem.Spec PyProof.Rows
def Af{a:Option Int}(b:IsTup s.heap t items)(i:s.heap.IsSliceOf j l m .none)(n:pC l a)(o:pC m c)
 (hw:wp items.size 0 a=0/\wp items.size items.size c=items.size)(h:Q (.ref t) s):gu (gv k w) A (nc (.ref t)<|.ref j) Q E s:=by
  refine e1a3 (id i) λp d e q=>?_
  have f:s.TypeIs (.ref j) "slice":=#[p,d,e]
  unfold nc
  try with_reducible refine gY ?_
  first|refine am (ap ?_)|skip
  refine am<|wpAny_sequenceKey b.typeIs q0q ?_
  refine am (wpAny_callSpecial?_slot (name:=kW "__getitem__") b.typeIs jJ
    (ij jJ b.typeIs entry_tuple_getitem ?_ (args_tuple_getitem _ _)))
  show gu _ _ (pi (.ref t) >>= _) _ _ s
  refine am<|tupleItemsOf_ b ?_
  refine am<|j0 f ?_
  rw[ga q0q]
  refine am<|ym i n o ?_
  have g:(((wp items.size 0 a:Nat):Int)==0&&(1:Int)==1&&(wp items.size items.size c-wp items.size 0 a)==items.size)=true:=by
    rw[hw.1,hw.2]
    simp
  show gu _ _ (if (((wp items.size 0 a:Nat):Int)==0&&(1:Int)==1&&(wp items.size items.size c-wp items.size 0 a)==items.size)=true then _ else _) _ _ s
  rw[ga g]
  refine am<|am<|j0 b.typeIs<|ap ?_
  rw[ga q0q]
  first
    | exact am<|lh<|ap #[_,rfl,ap h]
    | exact am<|lh<|am<|ap<|ap #[_,rfl,ap h]
    | exact am<|am<|lh<|ap<|ap #[_,rfl,ap h]
end HT
namespace L2
variable[L2.GX]
open PySem PySem.Spec PyProof.Rows
def YZ(K:f9):V->Option Int->Option Int->Hp->VK->Prop:=λx c d H Q=>∃a b,x=.ref a/\yA K H a b/\(HT.wp b.length 0 c=0/\HT.wp b.length b.length d=b.length)/\Q (.ref a) H
def Tb:U1 X (YZ X.K):=by
 intro d s n H x v o p t u w Q I f g i j h;obtain⟨a,k,rfl,l,m,q⟩:=h;cases f;refine e1a3 (I.tuple l) λc r e y=>?_;have b:c.toArray.size=k.length:=by rw[gy];exact r.length.symm
 refine#["tuple",_,PyProof.Rows.slot_tuple_getitem.lookup,e.typeIs,?_];exact HT.Af e g i j (by rw[b];exact m) #[.ref a,H,I,rfl,q]
end L2
namespace WL
variable[L2.GX]
open PySem L2
open Rep (rp)
open Ow (sl)
open Sls (rel)
section
variable{D:Type}[Sls D]
def vt.Po{F R:Rg}{H c:Hp}{d:D}{f:St}(s:vt T F R H d f)(k:∀b o,b≠T->H b=↑o->c b=↑o)(t:TabAt c T):Ch T F R H F R c/\vt T F R c d f:=by
 refine#[#[λb o _ n h=>k b o n h,λ_ h=>.inl h,λ_ h=>.inl h,λ_ h _=>h],Sls.st s.rel (G:=λa=>a=T) #[λb o n h=>k b o n h,λ_ h=>.inl h] (λa h=>by rw[h];exact s.u4)<|λa h z=>s.uP (by rw[<- z];exact h),s.sub,λa h=>?_,t,s.u4,s.uP];by_cases e:a=T
 ·rw[e];exact yu t
 ·cases q:H a with
  |none=>exact gA q<|s.wy a h
  |some o=>rw[k a o e q];simp
def Dy{x:Tp Int}(h:rp R H x v):∃a,v=.ref a/\H a=↑(.tup<|x.l.map V.int):=by refine e2a4 h λa vs e _ h3 h4=>?_;exact#[a,e,by rw[h3,paired_ints h4]]
def Dz{x:List Int}(h:rp R H x v):∃a,v=.ref a/\H a=↑(.lst<|x.map V.int):=by refine e2a4 h λa vs e _ h3 h4=>?_;exact#[a,e,by rw[h3,paired_ints h4]]
def Pp(B:EW X E T i G)(I:EW X E T f J)(L:∀{j:TA},PA X [i,f] j->PE X e (YD X.K T j))
 (M:gf [i,f] X.env=(false,eval i X.env)::gf [f] X.env:=by rfl) (l:gf [f] X.env=(false,eval f X.env)::gf [] X.env:=by rfl) :
    EW X E T e (λ(d:D)(q:Bool->D->Prop) g=>G d (λN m=>J m (λO n=>q (yL N O) n) g) g):=by
  refine e1a2 B λj P S=>?_
  refine e1a2 I λtb U W=>?_
  refine#[_,L<|ur P (ur U uA l) M,λd F R r H q g Q s Y Z w=>?_]
  refine S d F R r H _ g _ s Y (λx m u F1 R1 H1 q1 z h r1=>?_) w
  refine W m F1 R1 r H1 _ g _ h q1 (λy n v F2 R2 H2 q2 A o r2=>?_) λC y d' F' R' p k c s'=>w C y d' F' R' p k (Ch.trans s h.tab z c) s'
  obtain⟨a,rfl,ha⟩:=Dz<|h.val A r1
  obtain⟨b,rfl,hb⟩:=Dz r2
  refine#[a,b,x,y,rfl,vF.of ha,vF.of hb,o.tab,λp k _ t=>?_]
  obtain⟨c3,s3⟩:=o.Po k t
  exact Z _ n _ F2 R2 p q2 (Ch.trans s h.tab z<|Ch.trans h o.tab A c3) s3 rfl
def Pq{r w:Wf D (Tp Int) D}(J:EW X E T i r)(L:EW X E T f w)(M:∀{j:TA},PA X [i,f] j->PE X e (Wn X.K T j))
 (N:gf [i,f] X.env=(false,eval i X.env)::gf [f] X.env:=by rfl) (m:gf [f] X.env=(false,eval f X.env)::gf [] X.env:=by rfl) :
    EW X E T e (λ(d:D)(z:Bool->D->Prop) g=>r d (λO n=>w n (λP o=>z (yL O.l P.l) o) g) g):=by
  refine e1a2 J λj S U=>?_
  refine e1a2 L λtb W Y=>?_
  refine#[_,M<|ur S (ur W uA m) N,λd F R A H z g Q s Z kn B=>?_]
  refine U d F R A H _ g _ s Z (λx n u F1 R1 H1 q1 G h r1=>?_) B
  refine Y n F1 R1 A H1 _ g _ h q1 (λy o v F2 R2 H2 q2 I p r2=>?_) λC y d' F' R' q k c s'=>B C y d' F' R' q k (Ch.trans s h.tab G c) s'
  obtain⟨a,rfl,ha⟩:=Dy<|h.val I r1
  obtain⟨b,rfl,hb⟩:=Dy r2
  refine#[a,b,x.l,y.l,rfl,yA.of ha,yA.of hb,p.tab,λq k _ t=>?_]
  obtain⟨c3,s3⟩:=p.Po k t
  exact kn _ o _ F2 R2 q q2 (Ch.trans s h.tab G<|Ch.trans h p.tab I c3) s3 rfl
def M6{N O:Option hW}{P:Wf D (Tp Int) D}{S U:Wf D (Option Int) D}(ha:EW X E T a P)(hl:OW X E T N S)(hh:OW X E T O U) :
  EW X E T (.Subscript a (.Slice N O none p2) pos) (λ(d:D)(W:Tp Int->D->Prop) f=>P d (λg r=>S r (λl t=>U t (λh n=>W #[Ew g.l l h] n) f) f) f):=by
 refine e1a2 ha λta a1 a2=>?_;refine e1a2 hl λtl l1 l2=>?_;refine e1a2 hh λth h1 h2=>?_;refine#[_,zh (V1.or Tb) a1 l1 h1,λd F R v H W f Q s j Y w=>?_];refine a2 d F R v H _ f _ s j (λg r u F1 R1 H1 q1 x i r1=>?_) w;refine l2 r F1 R1 v H1 _ f _ i q1 (λl t F2 R2 H2 q2 Z z=>?_) λC y A B G I k c J=>w C y A B G I k (Ch.trans s i.tab x c) J;refine h2 t F2 R2 v H2 _ f _ z q2 (λh n F3 R3 H3 q3 c3 o=>?_) λC y A B G I k c J=>w C y A B G I k (Ch.trans s i.tab x<|Ch.trans i z.tab Z c) J;have m:=Ch.trans i z.tab Z c3;have r3:=i.val m r1;obtain⟨q,b,rfl,k1,L,M⟩:=id r3;have cc:=Ch.trans s i.tab x m;have le:=Paired.length M;by_cases j:HT.wp b.length 0 l=0/\HT.wp b.length b.length h=b.length
 ·refine .inr #[q,b,rfl,yA.of L,j,?_];refine Y _ n _ F3 R3 H3 q3 cc o #[q,b,rfl,k1,L,?_]
  have e:Ew g.l l h=g.l:=by unfold Ew;rw[le,j.1,j.2,List.drop_zero,Nat.sub_zero,<- le,ue]
  rw[e];exact M
 ·refine .inl #[q,b,rfl,yA.of L,j,λp hp=>?_];refine e0a3 (o.new (.tup<|C6 b l h) hp) λs4 c4 n4=>?_;exact Y _ n _ F3 R3 _ q3 (Ch.trans s o.tab cc c4) s4 #[p,_,rfl,n4,uk,o.vals c4<|Dr M l h]
end
structure SI(w:ii) where
 l:List Int
instance(w:ii):Ow (SI w):=#[λF _ H x v=>∃a ks,v=↑(.ref a)/\(∀b,F b↔b=a)/\H a=↑(wx w a ks)/\ks.Nodup/\(∀k,k∈ks↔k∈x.l)/\x.l.Pairwise (· < ·),
 λh e s n=>by
  refine e2a4 h λa ks h1 h2 h3 h4=>?_
  exact#[a,ks,h1,h2,e.keep a _ (n a<|(h2 a).mpr rfl) h3,h4],
 λh e=>by
  refine e2a4 h λa ks h1 h2 h3 h4=>?_
  exact#[a,ks,h1,λb=>(e b).symm.trans (h2 b),h3,h4]]
noncomputable def Ez(k:Int)(l:List Int):List Int:=if k∈l then l else ins k l
noncomputable def JL(k:Int)(l:List Int):List Int:=l.filter λx=>decide<|x≠k
def vC{a b:List Int}(c:a.Nodup)(d:b.Nodup)(h:∀k,k∈a↔k∈b):a.Perm b:=(List.perm_ext_iff_of_nodup c d).mpr h
def ut{l:List Int}(h:l.Pairwise (· < ·)):l.Nodup:=h.imp λq=>Int.ne_of_lt q
def LG{l:List Int}(h:l.Pairwise (· < ·)):l.Pairwise (·<=·):=h.imp λq=>Int.le_of_lt q
def Pr{l:List Int}(h:l.Pairwise (·<=·))(n:l.Nodup):l.Pairwise (· < ·):=List.Pairwise.imp₂ (λa b (q:a<=b) (n:a≠b)=>by lia) h n
def xY{k:Int}:k∈AE l↔k∈l:=(vO l).mem_iff
def DA{a:List Int}(n:a.Nodup)(h:∀k,k∈a↔k∈l)(r:l.Pairwise (· < ·)):AE a=l:=zV ((vO a).trans<|vC n (ut r) h) (AZ a)<|LG r
set_option tactic.hygienic true in
def A9{k x:Int}:x∈Ez k l↔x=k\/x∈l:=by
 unfold Ez;split
 ·rename_i h
  exact#[.inr,λz=>z.elim (λe=>by rw[e];exact h) id]
 ·rw[(zp k l).mem_iff,gO]
set_option tactic.hygienic true in
def CH{k:Int}{l:List Int}(r:l.Pairwise (· < ·)):(Ez k l).Pairwise (· < ·):=by
 unfold Ez;split
 ·exact r
 ·rename_i h
  exact Pr (FU k l<|LG r)<|(zp k l).nodup_iff.mpr<|List.nodup_cons.mpr #[h,ut r]
def zr{k x:Int}:x∈JL k l↔x∈l/\x≠k:=by unfold JL;rw[iz];simp
section
variable{D PO τ:Type}[Sls D][Sls PO][Ow τ]{α:Type}[Rep α]
def Tc(j:X.w=w)(l:Gl X "set")(m:X.mg "set"=none):EO X E T (.Call (.Name "set" p) [] [] pos) (λ(d:D)(e:SI w->D->Prop) _=>e #[[]] d):=by
 subst j;refine#[_,Jg M0 l m m8,λd F R v H e x Q s n r y=>#[rfl,λp c=>?_]];refine e0a3 (s.new (wx X.w p []) c) λf t g=>?_;have u:¬F p:=λz=>g<|s.sub p z;have i:Ext (λ_=>False) R H (λa=>R a\/a=p) (upd H p<|wx X.w p []):=⟨λb o _ h=>by rw[uh<|uu h c];exact h,λa h=>h.elim .inl λq=>.inr<|by rw[q];exact c⟩;refine r ⟨[]⟩ d _ (λa=>a=p) F (λa=>R a\/a=p) _ n #[t.keep,i.new,λa h=>h.elim (λq=>.inr<|by rw[q];exact c) .inl,λa h _=>.inl h] #[Sls.st s.rel i (λ_ z=>z.elim)<|λ_ _ z=>z,λa h=>.inl<|s.sub a h,λa h=>?_,f.tab,.inl s.u4,s.uP] #[#[p,[],rfl,λb=>Iff.rfl,uk,lN,λ_=>Iff.rfl,gU],λa h=>.inr h,λa h k=>u (by rw[<- h];exact k),λh=>g<|by rw[<- h];exact s.u4];rcases h with h|h
 ·exact f.wy a h
 ·rw[h,uk];simp
def tw_inS(i:Nat)(m:X.w=w)[Sls n][A:At i D (SI w) n](o:EW X E T a q)(r:PE X (.Name x p) (uR i))(t:iA .In (.Name x p)=false) :
  TW X E T (.Compare a [.In] [.Name x p] pos) (λ(d:D) g f=>q d (λk c=>g (decide<|k∈(A.get c).l) c) f):=by
 subst m;refine e1a2 o λY y z=>?_;refine#[_,wW Wq y r t,λd F R B H g f Q s C G I=>z d F R B H _ f _ s C (λk c u J L M N O h P=>?_) I];obtain⟨v,Z,G2,S,h2,⟨b,j,rfl,g2,U,g4,W,g6⟩,_⟩:=A.take h.rel;refine#[_,S,k,b,j,P,rfl,U,_,rfl,?_];have e:decide (k∈j)=decide (k∈(A.get c).l):=by simp only[W]
 rw[e];exact G _ c J L M N O h
def CI{i:Nat}[Sls x][A:At i D (SI w) x][U:Pt i x (SI w) D](s:vt T F R H d y):∃a g,y[i]?=↑(some<|.ref a)/\H a=↑(wx w a g)/\g.Nodup/\(∀k,k∈g↔k∈(A.get d).l)/\(A.get d).l.Pairwise (· < ·) /\
  ∀(j f:List Int),f.Nodup->(∀k,k∈f↔k∈j)->j.Pairwise (· < ·)->Ch T F R H F R (upd H a<|wx w a f)/\vt T F R (upd H a<|wx w a f) (U.put (A.hole d) #[j]) y:=by
 obtain⟨v,W,X,B,m,⟨a,g,rfl,p,C,E,G,I⟩,J⟩:=A.take s.rel;have r:F a:=(m.all a).mpr<|.inl<|(p a).mpr rfl;have L:a≠T:=λz=>s.uP (by rw[<- z];exact r);refine#[a,g,B,C,E,G,I,λj f M N O=>?_];have P:=yO (F:=F) (R:=R) (H:=H) (a:=a) (o:=wx w a f);have Q:∀c,c=a->R c:=λc z=>by rw[z];exact s.sub a r
 have k:∀b u,b≠a->H b=↑u->upd H a (wx w a f) b=↑u:=λb u z e=>by rw[uh z];exact e
 refine#[#[λb o n _ e=>k b o (λz=>n<|by rw[z];exact r) e,λ_ h=>.inl h,λ_ h=>.inl h,λ_ h _=>h],Pt.same (A:=U) (Sls.st J P Q λc z q=>m.xt c ((p c).mpr q) z) B m #[a,f,rfl,p,uk,M,N,O],s.sub,λc z=>?_,?_,s.u4,s.uP]
 ·by_cases e:c=a
  ·rw[e,uk];simp
  ·rw[uh e];exact s.wy c z
 ·refine e1a2 s.tab λS e t=>?_;exact#[S,k _ _ (λz=>L z.symm) e,t]
set_option tactic.hygienic true in
def Td(i:Nat)(W:X.w=w)[Sls B][A:At i D (SI w) B][U:Pt i B (SI w) D][J:Pj D PO n](h:EW X E T e Y)
 (Z:∀{t:TA},PA X [e] t->PS X (.Expr (.Call (.Attribute (.Name x p1) "add" p2) [e] [] p3) pos) (Hx<|Wr X.w (λx vs H Q=>∃(a:cr)(g:List Int)(k:Int),x=.ref a/\vs=[.int k]/\H a=↑(wx X.w a g)/\g.length+1<=127/\∀b:List Int,b.Nodup->b.Perm (if k∈g then g else k::g)->Q .vT (upd H a<|wx X.w a b)) (uR i) t)) (hs:gf [e] X.env=(false,eval e X.env)::gf [] X.env:=by rfl) :
    S1 X E T ms n (.Expr (.Call (.Attribute (.Name x p1) "add" p2) [e] [] p3) pos) (λ(d:D)(I:D->Prop)(Kr:τ->PO->Prop) L=>Y d (λy f=>(A.get f).l.length<127/\I (U.put (A.hole f) #[Ez y (A.get f).l])) λC f=>L C<|J.pj f):=by
  subst W
  refine e1a2 h λt h1 h2=>?_
  refine#[_,Z<|ur h1 uA hs,λd F R M H I Kr L En s hw kn kr ke=>?_]
  refine e2a4 (CI (i:=i) s) λa g j p g3 _=>?_
  refine#[_,j,#[a,g,rfl,p],h2 d F R M H _ _ _ s hw (λy f v N u O q c m r=>?_) λC y f N u O q c m=>?_]
  · obtain⟨a', b, P, k2, k3, o, S, k6⟩ := CI (i := i) m
    rw[j]at P
    cases P
    subst r
    have aa:b.length=(A.get f).l.length:=(vC k3 (ut S) o).length_eq
    refine#[a,b,y,rfl,rfl,k2,by have:=q.1;lia,λus nu pu=>?_]
    obtain⟨c2,s2⟩:=k6 (Ez y (A.get f).l) us nu (λk=>by
      rw[pu.mem_iff,A9]
      split
      · rename_i hy
        rw[o]
        exact#[.inr,λz=>z.elim (λe=>by rw[e];exact(o y).mp hy) id]
      · rw[gO, o]) (CH S)
    exact kn _ N u _ M q.2 (Ch.trans s m.tab c c2) s2<|Ag.refl _ _
  · refine e1a2 (vW (PO := PO) m) λG j p => ?_
    exact ke C y _ G u O q (c.less j) p
set_option tactic.hygienic true in
def Te(i:Nat)(Y:X.w=w)[Sls B][A:At i D (SI w) B][U:Pt i B (SI w) D][J:Pj D PO n](h:EW X E T e Z)
 (hb:∀{t:TA},PA X [e] t->PS X (.Expr (.Call (.Attribute (.Name x p1) "discard" p2) [e] [] p3) pos) (Hx<|Wr X.w (λx vs H Q=>∃(a:cr)(g:List Int)(k:Int),x=.ref a/\vs=[.int k]/\H a=↑(wx X.w a g)/\∀b:List Int,b.Nodup->(if k∈g then g.Perm (k::b) else b=g)->Q .vT (upd H a<|wx X.w a b)) (uR i) t)) (hs:gf [e] X.env=(false,eval e X.env)::gf [] X.env:=by rfl) :
    S1 X E T ms n (.Expr (.Call (.Attribute (.Name x p1) "discard" p2) [e] [] p3) pos) (λ(d:D)(I:D->Prop)(Kr:τ->PO->Prop) L=>Z d (λy f=>I<|U.put (A.hole f) ⟨JL y (A.get f).l⟩) λC f=>L C<|J.pj f):=by
  subst Y
  refine e1a2 h λt h1 h2=>?_
  refine#[_,hb<|ur h1 uA hs,λd F R M H I Kr L En s hw kn kr ke=>?_]
  refine e2a4 (CI (i:=i) s) λa g j p g3 _=>?_
  refine#[_,j,#[a,g,rfl,p],h2 d F R M H _ _ _ s hw (λy f v N u O q c m r=>?_) λC y f N u O q c m=>?_]
  · obtain⟨a', b, P, k2, k3, k4, k5, k6⟩ := CI (i := i) m
    rw[j]at P
    cases P
    subst r
    refine#[a,b,y,rfl,rfl,k2,λS nu o=>?_]
    obtain⟨c2,s2⟩:=k6 (JL y (A.get f).l) S nu (λk=>by
      rw[zr,<- k4]
      split at o
      · rename_i W
        have nk:y∉S:=(List.nodup_cons.mp<|o.nodup_iff.mp k3).1
        rw[o.mem_iff,gO]
        exact#[λz=>#[.inr z,λe=>nk<|by rw[<- e];exact z],λz=>z.1.elim (λe=>gA e z.2) id]
      · rename_i W
        rw[o]
        exact#[λz=>#[z,λe=>W (by rw[<- e];exact z)],λz=>z.1]) (iF _ k5)
    exact kn _ N u _ M q (Ch.trans s m.tab c c2) s2<|Ag.refl _ _
  · refine e1a2 (vW (PO := PO) m) λG j p => ?_
    exact ke C y _ G u O q (c.less j) p
def JM(i:Nat)(j:X.w=w)[Sls k][A:At i D (SI w) k](m:X.calm=true)(n:Gl X "sorted")(o:X.mg "sorted"=none)(q:PE X (.Name x r) (uR i)) :
  EO X E T (.Call (.Name "sorted" p) [.Name x r] [] pos) (λ(d:D)(b:OL Int->D->Prop) _=>(A.get d).l.length<64/\b #[(A.get d).l] d):=by
 subst j;refine#[_,wj (AW m) n o jH<|ur q uA,λd F R N H b O Q s c t P=>?_];obtain⟨v,S,U,u,W,⟨a,e,rfl,Y,y,f,g,h⟩,Z⟩:=A.take s.rel;have z:e.length=(A.get d).l.length:=(vC f (ut h) g).length_eq;refine#[_,u,a,e,rfl,y,by have:=c.1;omega,λl ns B C G=>?_];rw[Do C G,DA f g h];refine e1a3 (wM s B<|xf (R:=R) (H:=H) (A.get d).l) λI J L M=>?_;exact t _ d _ _ F I _ c.2 J L M
def F8{K:f9}{xs:List α}{vs:List V}:XI (Itt K a) xs (λR H=>H a=↑(.tup vs)/\Paired (rp R H) xs vs) where
 go:=λ{R H i} p h=>by refine e1a2 (wl (i:=i) (x:=xs[i]) p.2<|by simp[h]) λv e _=>?_;exact#[vs,v,yA.of p.1,e]
 Hk:=λ{R H i v H'} p _ hi y=>by obtain⟨e,y⟩:=y;subst e;have y':=y vs<|yA.of p.1;refine e1a2 (wl (i:=i) (x:=xs[i]) p.2<|by simp[hi]) λu e r=>?_;rw[y']at e;cases e;exact#[.inl rfl,_,by simp[hi],r]
 stop:=λ{R H} p=>#[vs,yA.of p.1,by rw[Paired.length p.2];exact gg _]
def Pu{w:Wf D (Tp α) D}(h:EW X E T e w):IW X E T is tg e (λ(b:D)(_:List α)=>b) (λ(d:D) Kn Ke=>w d (λx d'=>Kn x.l d') Ke):=by refine e1a2 h λt h1 h2=>?_;refine#[_,VR h1,λd F R σ H Kn Ke Rk s hw kn ke=>h2 d F R σ H _ _ _ s hw (λxs d' v F' R' H' q c s' r=>?_) ke];obtain⟨a,vs,rfl,r1,r2,r3⟩:=r;refine#[a,rfl,#[vs,yA.of r2],kn xs.l d' _ (λR H=>(H a=↑(.tup vs)/\Paired (rp R H) xs.l vs)/\¬R a) F' (λ_=>False) F' R' H' q c s'.FT (two_nil F') s'.rel #[λp=>F8.go p.1,λp=>F8.Hk p.1,λp=>F8.stop p.1] #[#[r2,r3],r1] (λp gs nf ex=>?_) λb' G2 Vh IM O5 σ' p h g t=>Sls.fq h<|two_eq t λ_ z=>z];have na:¬_:=λz=>p.2<|gs a z;exact#[#[ex.keep a _ na p.1.1,vz (ex.wide gs) p.1.2],ex.not p.2 p.1.1]
def DB{a:gR}[Sls c][J:Pj D PO n](e:PS X a (OU C E<|B7 (tC x) Cr)):S1 X E T j n a (λ(d:D)(_:c->Prop)(_:τ->PO->Prop) b=>b C<|J.pj d):=by refine⟨_,e,λd F R k H l m b o s f p q g=>#[(by show 1<=gk;decide),λy=>?_]⟩;refine e1a2 (vW (PO:=PO) s) λG h i=>?_;exact g C y _ G R H f ((Ch.refl _ _ _ _).less h) i
end
def v8(l:List Int):Prop:=l.Pairwise (· < ·)
noncomputable def asc(a:List Int):Bool:=yL a<|a.drop 1
def Y0(b:List c):Ew b ↑1 none=b.drop 1:=by
 unfold Ew;rw[HT.HF,show ↑(1:Int)=some ((1:Nat):Int) from rfl,HT.Lh]
 cases b with
 |nil=>rfl
 |cons a r =>
  rw[show min 1 (a::r).length=1 by simp,iQ];rw[l6];exact gg _
def Pw{a b:Int}:asc (a::b::r)=(decide (a<b)&&asc (b::r)):=rfl
def wY:∀(c:List Int),asc c=true↔v8 c
 | []=>#[λ_=>gU,λ_=>rfl]
 | [a]=>#[λ_=>jh _ _,λ_=>rfl]
 |a::b::r=>by
  rw[Pw,hJ,hV,wY (b::r)];constructor
  ·rintro⟨d,f⟩;refine List.pairwise_cons.mpr #[λx g=>?_,f];rcases List.mem_cons.mp g with e|e
   ·rw[e];exact d
   ·exact Int.lt_trans d<|(List.pairwise_cons.mp f).1 x e
  ·intro h;exact#[(List.pairwise_cons.mp h).1 b gh,(List.pairwise_cons.mp h).2]
def CJ(a:v8 b)(c:v8 d)(h:∀k,k∈b↔k∈d):b=d:=zV (vC (ut a) (ut c) h) (LG a)<|LG c
noncomputable def JN(l:List Int)(k:Int):List Int:=if k∈l then JL k l else Ez k l
def LH{k:Int}(h:v8 l):v8 (JN l k):=by
 unfold JN;split
 ·exact iF _ h
 ·exact CH h
set_option tactic.hygienic true in
def Tf{k x:Int}:x∈JN l k↔((x∈l)↔¬x=k):=by
 unfold JN;split
 ·rename_i h
  rw[zr];constructor
  ·intro⟨a,b⟩;exact#[λ_=>b,λ_=>a]
  ·intro z;by_cases e:x=k
   ·rw[e]at z;exact gA (z.mp h) q0o
   ·exact#[z.mpr e,e]
 ·rename_i h
  rw[A9];constructor
  ·rintro(a|a)
   ·subst a;exact#[λz=>gA z h,λz=>gA rfl z]
   ·exact#[λ_ e=>h (by rw[<- e];exact a),λ_=>a]
  ·intro z;by_cases e:x=k
   ·exact .inl e
   ·exact .inr<|z.mpr e
noncomputable def xr(l r:List Int):List Int:=r.foldl JN l
def wD:∀{r l:List Int},v8 l->v8 (xr l r)
 | [],_,h=>h
 |_::r,_,h=>wD (r:=r)<|LH h
def yg:∀{r l:List Int} {x:Int},r.Nodup->(x∈xr l r↔((x∈l)↔¬x∈r))
 | [],l,x,_=>by simp[xr]
 |k::r,l,x,h=>by
  have a:=List.nodup_cons.mp h;show x∈xr (JN l k) r↔_;rw[yg a.2,Tf,gO];by_cases e:x=k
  ·subst e;simp[a.1]
  ·simp[e]
def F9{r:List Int}{x:Int}(a:r.Nodup)(h:x∈xr l r):x∈l\/x∈r:=by
 rw[yg a]at h;by_cases q:x∈r
 ·exact .inr q
 ·exact .inl<|h.mpr q
noncomputable def NP(a:List (List Int)):List Int:=a.foldl xr []
def Ba:∀{rows:List (List Int)} {l:List Int},v8 l->v8 (rows.foldl xr l)
 | [],_,h=>h
 |_::r,_,h=>Ba (rows:=r)<|wD h
def Tg(a:List (List Int)):v8 (NP a):=Ba gU
def vJ{l U:List Int}(h:v8 l)(s:∀x∈l,x∈U):l.length<=U.length:=SX.yq _ _ (ut h) s
noncomputable def jn(a b:List Int):List Int:=AE<|a.filter (λk=>!decide (k∈b))++b.filter λk=>!decide (k∈a)
def Ga{k:Int}:k∈jn a b↔(k∈a/\k∉b)\/(k∈b/\k∉a):=by unfold jn;rw[xY,ko,iz,iz];simp
def Gb(c:v8 d)(f:v8 g):v8 (jn d g):=by refine Pr (AZ _)<|(vO _).nodup_iff.mpr<|List.nodup_append.mpr ⟨iF _<|ut c,iF _<|ut f,λa h b i e=>?_⟩;subst e;have j:=(List.mem_filter.mp h).1;have k:=(List.mem_filter.mp i).2;simp[j]at k
def Px(e:v8 c)(f:v8 d):jn c d=xr c d:=CJ (Gb e f) (wD e) λk=>by rw[Ga,yg<|ut f];by_cases a:k∈c<;>by_cases b:k∈d<;>simp[a,b]
def vo:∀{a:List k} {K:List g->S->Prop},(∀x∈a,∀K:Option g->S->Prop,K (f x) s->b x s K)->K (a.filterMap f) s->A8 b a s K:=by
 intro i
 induction i with
 |nil=>intro _ _ h;exact h
 |cons x a c =>
  intro K d h;refine d x gh _<|c (λy j=>d y<|gl _ j) ?_
  have e:(x::a).filterMap f=(f x).toList++a.filterMap f:=by rw[jW];cases f x<;>rfl
  rw[e]at h;exact h
def filterMap_filter(p:b->Bool):∀a:List b,a.filterMap (λx=>if p x=true then some x else none)=a.filter p
 | []=>rfl
 |x::a=>by rw[jW,iT,filterMap_filter p a];cases p x<;>rfl
def vf(I:List j->B->Prop):∀(a:List j) {s:B},I a s->(∀x r s,(∃p,a=p++x::r)->I (x::r) s->∀K:B->Prop,(∀c,I r c->K c)->b x s K k l)->(∀s,I [] s->m s)->FZ b a s m k l:=by
 intro d
 induction d with
 |nil=>intro s h _ f;exact f s h
 |cons x a g=>intro s h i f;exact i x a s #[[],rfl] h _ λc n=>g n (λy r o d=>e1a1 d λp e q=>i y r o #[x::p,by rw[e];rfl] q) f
def vd{n:Nat}(h:n<=1000):n<=gk:=kT<|MM h
structure Bd(C:cr)(fl:Bool) where
 rk:List (Int×Int)
 bd:List (Int×List Int)
 up:Int
 ht:List (Int×Int)
 th:List (Int×Int)
noncomputable def lk{a:Type}(l:List (Int×a))(k:Int):Option a:=(l.find? λe=>decide<|e.1=k).map (·.2)
noncomputable def AH(l:List (Int×Int)):List (Key×V):=l.map λe=>(gP e.1,V.int e.2)
def Bb(R:Rg)(H:Hp):List (Int×List Int)->List (Key×V)->Prop:=Paired λe u=>u.1=gP e.1/\rp R H (Tp.mk e.2) u.2
noncomputable def xL(a b c d:cr)(e:Int)(f:Bool):List (Str×V):=("ranks",.ref a)::("borders",.ref b)::("upcoming",.int e)::(if f=true then [("head_by_tail",.ref c),("tail_by_head",.ref d)] else [])
noncomputable def adr(p dx d1 d2 d3 d4:cr)(fl:Bool):List cr:=p::dx::d1::d2::(if fl=true then [d3,d4] else [])
structure DC(C:cr)(fl:Bool)(R:Rg)(H:Hp)(x:Bd C fl)(p dx d1 d2 d3 d4:cr)(us:List (Key×V)):Prop where
 nd:(adr p dx d1 d2 d3 d4 fl).Nodup
 ob:H p=↑(.ins C dx<|xL d1 d2 d3 d4 x.up fl)
 ow:H dx=↑(.own p)
 rk:H d1=↑(.dK<|AH x.rk)
 bd:H d2=↑(.dK us)
 tu:Bb R H x.bd us
 ht:fl=true->H d3=↑(.dK<|AH x.ht)
 th:fl=true->H d4=↑(.dK<|AH x.th)
def CK{R R':Rg}{H H':Hp}(e:Ext R R H R' H'):∀{l:List (Int×List Int)} {us:List (Key×V)},Bb R H l us->Bb R' H' l us:=by
 intro _ _ z
 induction z with
 |nil=>exact .nil
 |cons h t ih=>exact .cons #[h.1,Rep.st h.2 e] ih
def DC.st{C:cr}{fl:Bool}{G R R':Rg}{H H':Hp}{x:Bd C fl}{p dx d1 d2 d3 d4:cr}{us:List (Key×V)}(b:DC C fl R H x p dx d1 d2 d3 d4 us)(e:Ext G R H R' H')(s:∀a,G a->R a)(n:∀a,a∈adr p dx d1 d2 d3 d4 fl->¬G a):DC C fl R' H' x p dx d1 d2 d3 d4 us :=
 #[b.nd,e.keep _ _ (n _<|by simp[adr]) b.ob,e.keep _ _ (n _<|by simp[adr]) b.ow,e.keep _ _ (n _<|by simp[adr]) b.rk,e.keep _ _ (n _<|by simp[adr]) b.bd,CK (e.wide s) b.tu,λh=>e.keep _ _ (n _<|by simp[adr,h])<|b.ht h,λh=>e.keep _ _ (n _<|by simp[adr,h])<|b.th h]
instance(C:cr)(fl:Bool):Ow (Bd C fl):=#[λF R H x v=>∃p dx d1 d2 d3 d4 us,v=↑(.ref p)/\(∀b,F b↔b∈adr p dx d1 d2 d3 d4 fl)/\DC C fl R H x p dx d1 d2 d3 d4 us,
 λh e s n=>by
  obtain⟨p,dx,d1,d2,d3,d4,us,h1,h2,h3⟩:=h
  exact#[p,dx,d1,d2,d3,d4,us,h1,h2,h3.st e s λa z=>n a<|(h2 a).mpr z],
 λh e=>by
  obtain⟨p,dx,d1,d2,d3,d4,us,h1,h2,h3⟩:=h
  exact#[p,dx,d1,d2,d3,d4,us,h1,λb=>(e b).symm.trans (h2 b),h3]]
instance(C:cr)(fl:Bool):Hs (Bd C fl):=#[λz9=>e7a2 z9 λ_ _ _ _ _ _ _ h _=>#[_,h]]
def H0{R L:Rg}{H:Hp}(k:∀a,L a->∃b,H a=↑(.lst b)):∀{l:List (Int×List Int)} {b:List (Key×V)},Bb R H l b->Bb (λa=>R a\/L a) H l b
 |_,_,.nil=>.nil
 |_,_,.cons h t=>.cons #[h.1,JH.no h.2 k]<|H0 k t
instance(C:cr)(fl:Bool):SU (Bd C fl):=#[λ{F R L H x v} h k=>by
 obtain⟨p,dx,d1,d2,d3,d4,us,h1,h2,b⟩:=h
 exact#[p,dx,d1,d2,d3,d4,us,h1,h2,b.nd,b.ob,b.ow,b.rk,b.bd,H0 k b.tu,b.ht,b.th]]
structure Ah(K:f9)(C:cr):Prop where
 cl:Ae K C
 nR:vg K C "ranks"
 nB:vg K C "borders"
 nU:vg K C "upcoming"
structure NQ(K:f9)(C:cr):Prop where
 nH:vg K C "head_by_tail"
 nT:vg K C "tail_by_head"
def xC(k:Int):∀l:List (Int×Int),xz (AH l) (gP k)=(lk l k).map V.int
 | []=>rfl
 |e::l=>by
  by_cases h:e.1=k
  ·show xz ((gP e.1,V.int e.2)::AH l) _=_;rw[yo<|by rw[h]];unfold lk;rw[ig,decide_eq_true h];rfl
  ·show xz ((gP e.1,V.int e.2)::AH l) _=_;rw[yp (by intro z;exact h<|mP z),xC k l];unfold lk;rw[ig,gH h]
def DD{R:Rg}{H:Hp}{k:Int}:∀{l:List (Int×List Int)} {us:List (Key×V)},Bb R H l us->(∀b,lk l k=↑b->∃v,xz us (gP k)=↑v/\rp R H (Tp.mk b) v)/\(lk l k=none->xz us (gP k)=none):=by
 intro z0 z1 z9
 induction z9 with
 |nil=>exact#[(λb h=>by cases h),λ_=>rfl]
 | @cons e u l us h t WN =>
  obtain⟨i1,i2⟩:=WN;by_cases q:e.1=k
  ·have e1:lk (e::l) k=↑e.2:=by unfold lk;rw[ig,decide_eq_true q];rfl
   rw[e1];refine#[λb hb=>?_,(λz=>by cases z)];cases hb;exact#[u.2,yo (by rw[h.1,q]),h.2]
  ·have e1:lk (e::l) k=lk l k:=by unfold lk;rw[ig,gH q]
   rw[e1,yp<|by rw[h.1];intro z;exact q<|mP z];exact#[i1,i2]
noncomputable def pk{a:Type}(l:List (Int×a))(k:Int)(v:a):List (Int×a):=if (lk l k).isSome then l.map (λe=>if e.1=k then (e.1,v) else e) else l++[(k,v)]
noncomputable def dk{a:Type}(l:List (Int×a))(k:Int):List (Int×a):=l.filter λe=>decide<|e.1≠k
def Th(l:List (Int×Int))(k v:Int):putK (AH l) (gP k) (V.int v)=AH (pk l k v):=by
 unfold putK pk;rw[zk,xC,hZ]
 cases (lk l k).isSome with
 |true =>
  rw[ga rfl,ga rfl];unfold AH;rw[jR,jR];refine mC λe _=>?_;show (if (gP e.1:Key)=gP k then _ else _)=(λe:Int×Int=>((gP e.1:Key),V.int e.2)) (if e.1=k then (e.1,v) else e);by_cases h:e.1=k
  ·rw[ga (by rw[h]),ga h]
  ·rw[gc<|λz=>h<|mP z,gc h]
 |false =>
  rw[gc gw,gc gw];unfold AH;rw[jy];rfl
def Ia(l:List (Int×Int))(k:Int):zj (AH l) (gP k)=AH (dk l k):=by
 unfold zj dk AH;rw[qu];congr 1;refine lP λe _=>?_;by_cases h:e.1=k
 ·simp[h]
 ·simp[h]
def Ib{R:Rg}{H:Hp}{k:Int}{b:List Int}{v:V}(h:rp R H (Tp.mk b) v):∀{l:List (Int×List Int)} {us:List (Key×V)},Bb R H l us->Bb R H (l++[(k,b)]) (us++[(gP k,v)])
 |_,_,.nil=>.cons #[rfl,h] .nil
 |_,_,.cons q t=>.cons q<|Ib h t
def Py{R:Rg}{H:Hp}{l:List (Int×List Int)}{us:List (Key×V)}{k:Int}{b:List Int}{v:V}(t:Bb R H l us)(hn:lk l k=none)(h:rp R H (Tp.mk b) v):Bb R H (pk l k b) (putK us (gP k) v):=by unfold pk;rw[hn,Oo _<|(DD t).2 hn];exact Ib h t
def M7{R:Rg}{H:Hp}{k:Int}:∀{l:List (Int×List Int)} {us:List (Key×V)},Bb R H l us->Bb R H (dk l k) (zj us<|gP k):=by
 intro z0 z1 z9
 induction z9 with
 |nil=>exact .nil
 | @cons e u l us h t WN =>
  have ih:=WN;unfold dk zj at ih ⊢;rw[iT,iT];by_cases q:e.1=k
  ·rw[gc (by simpa using q),gc<|by rw[h.1];simpa using q];exact ih
  ·rw[ga (by simpa using q),ga<|by rw[h.1];simpa using q];exact .cons h ih
inductive ID where
 | rk|ht|th
noncomputable abbrev ID.nm:ID->Str
 | .rk=>"ranks" | .ht=>"head_by_tail" | .th=>"tail_by_head"
noncomputable abbrev ID.get{C:cr}{a:Bool}:ID->Bd C a->List (Int×Int)
 | .rk,x=>x.rk|.ht,x=>x.ht|.th,x=>x.th
noncomputable abbrev ID.set{C:cr}{a:Bool}:ID->Bd C a->List (Int×Int)->Bd C a
 | .rk,x,l=>{ x with rk:=l}|.ht,x,l=>{ x with ht:=l}|.th,x,l=>{ x with th:=l}
def ID.ok:ID->Bool->Prop
 | .rk,_=>True|.ht,fl=>fl=true|.th,fl=>fl=true
def nd4(h:(a::b::c::d::r).Nodup):(a≠b/\a≠c/\a≠d/\∀x∈r,a≠x)/\(b≠c/\b≠d/\∀x∈r,b≠x)/\(c≠d/\∀x∈r,c≠x)/\(∀x∈r,d≠x)/\r.Nodup:=by have g:=List.nodup_cons.mp h;have i:=List.nodup_cons.mp g.2;have j:=List.nodup_cons.mp i.2;have k:=List.nodup_cons.mp j.2;simp only[gO,oY]at g i j;exact#[#[g.1.1,g.1.2.1,g.1.2.2.1,λx f e=>g.1.2.2.2<|by rw[e];exact f],⟨i.1.1,i.1.2.1,λx f e=>i.1.2.2<|by rw[e];exact f⟩,⟨j.1.1,λx f e=>j.1.2<|by rw[e];exact f⟩,λx f e=>k.1 (by rw[e];exact f),k.2]
def zt(b:DC C k R H x p s l m g i t)(q:ID)(u:q.ok k):∃d,(xL l m g i x.up k).lookup q.nm=↑(.ref d)/\H d=↑(.dK<|AH<|q.get x)/\d∈adr p s l m g i k /\
  ∀j,R d->DC C k R (upd H d<|.dK<|AH j) (q.set x j) p s l m g i t:=by
 have f:=nd4 b.nd;have n:∀d j,R d->Bb R (upd H d<|.dK<|AH j) x.bd t:=λd j h=>CK ((yO (F:=R) (R:=R) (H:=H) (a:=d) (o:=.dK<|AH j)).wide λc z=>by rw[z];exact h) b.tu
 cases q with
 |rk =>
  refine#[l,rfl,b.rk,by simp[adr],λj h=>#[b.nd,by rw[uh f.1.2.1];exact b.ob,by rw[uh f.2.1.1];exact b.ow,uk,by rw[uh f.2.2.1.1.symm];exact b.bd,n _ _ h,λz=>?_,λz=>?_]]
  ·rw[uh (f.2.2.1.2 g<|by rw[ga z];simp).symm];exact b.ht z
  ·rw[uh (f.2.2.1.2 i<|by rw[ga z];simp).symm];exact b.th z
 |ht =>
  have z:k=true:=u;subst z;have r:=List.nodup_cons.mp f.2.2.2.2;refine#[g,rfl,b.ht rfl,by simp[adr],λj h=>#[b.nd,by rw[uh<|f.1.2.2.2 g q0o];exact b.ob,by rw[uh<|f.2.1.2.2 g q0o];exact b.ow,by rw[uh<|f.2.2.1.2 g q0o];exact b.rk,by rw[uh<|f.2.2.2.1 g q0o];exact b.bd,n _ _ h,λ_=>uk,λ_=>?_]];rw[uh<|λe=>r.1<|by rw[<- e];simp];exact b.th rfl
 |th =>
  have z:k=true:=u;subst z;have r:=List.nodup_cons.mp f.2.2.2.2;refine#[i,rfl,b.th rfl,by simp[adr],λj h=>#[b.nd,by rw[uh<|f.1.2.2.2 i q0o];exact b.ob,by rw[uh<|f.2.1.2.2 i q0o];exact b.ow,by rw[uh<|f.2.2.1.2 i q0o];exact b.rk,by rw[uh<|f.2.2.2.1 i q0o];exact b.bd,n _ _ h,λ_=>?_,λ_=>uk]];rw[uh<|λe=>r.1<|by rw[e];simp];exact b.ht rfl
section
variable{D PO τ:Type}[Sls D][Sls PO][Ow τ]
def vM{i:Nat}[Sls J][A:At i D (Bd C r) J](s:vt T F R H d L):∃p f g j l m B,L[i]?=↑(some<|.ref p)/\DC C r R H (A.get d) p f g j l m B/\(∀a∈adr p f g j l m r,R a) /\
  ∀{U:Pt i J (Bd C r) D} {a:cr} {o:HO} {E:Bd C r} {w:List (Key×V)},a∈adr p f g j l m r->DC C r R (upd H a o) E p f g j l m w->Ch T F R H F R (upd H a o)/\vt T F R (upd H a o) (U.put (A.hole d) E) L:=by
 obtain⟨v,X,Y,M,G,⟨p,f,g,j,l,m,B,rfl,I,N⟩,O⟩:=A.take s.rel;have x:∀a∈adr p f g j l m r,F a:=λa h=>(G.all a).mpr<|.inl<|(I a).mpr h;refine⟨p,f,g,j,l,m,B,M,N,λa h=>s.sub a<|x a h,λ{U a o E w} y P=>?_⟩;have Q:=yO (F:=F) (R:=R) (H:=H) (a:=a) (o:=o);have S:∀c,c=a->R c:=λc z=>by rw[z];exact s.sub a<|x a y
 have k:∀b u,b≠a->H b=↑u->upd H a o b=↑u:=λb u z e=>by rw[uh z];exact e
 refine#[#[λb o n _ e=>k b o (λz=>n<|by rw[z];exact x a y) e,λ_ h=>.inl h,λ_ h=>.inl h,λ_ h _=>h],Pt.same (A:=U) (Sls.st O Q S λc z q=>G.xt c ((I c).mpr<|by rw[q];exact y) z) M G ⟨p,f,g,j,l,m,w,rfl,I,P⟩,s.sub,λc z=>?_,?_,s.u4,s.uP]
 ·by_cases e:c=a
  ·rw[e,uk];simp
  ·rw[uh e];exact s.wy c z
 ·refine e1a2 s.tab λW e t=>?_;exact#[W,k _ _ (λz=>s.uP<|by rw[z];exact x a y) e,t]
def Pz(q:ID)(b:Bool)(i:Nat)[Sls U][A:At i D (Bd C W) U](Y:q.ok W)(Z:Ae X.K C)(nf:vg X.K C q.nm)(G:X.A.units+1<jS)(hk:EW X E T a wk)(I:PE X (.Name x l) (uR i))(J:g9 (.Name x l) q.nm X.env (eval (.Name x l) X.env)=eval (.Name x l) X.env:=by rfl)
 (L:iA (if b then .NotIn else .In) (.Attribute (.Name x l) q.nm p2)=false:=by with_unfolding_all rfl):EW X E T (.Compare a [if b then .NotIn else .In] [.Attribute (.Name x l) q.nm p2] pos) (λ(d:D)(r:Bool->D->Prop) m=>wk d (λk c=>r (if b then !(lk (q.get<|A.get c) k).isSome else (lk (q.get<|A.get c) k).isSome) c) m):=by
  refine e1a2 hk λta M N=>?_
  have O:∀{c:D} {h j:Rg} {e:Hp} {f:St} {k:Int} {Q:VK},vt T h j e c f->Q (.bl<|if b then !(lk (q.get<|A.get c) k).isSome else (lk (q.get<|A.get c) k).isSome) e->VZ X.K (uR i) q.nm f e λy P=>∃a o,y=.ref a/\xl P a (.int k) o/\Q (.bl<|if b then !o.isSome else o.isSome) P:=λ{c h j e f k Q} g n=>by
    obtain⟨p,dx,e1,e2,e3,e4,us,g1,S,_,_⟩:=vM (i:=i) g
    refine e1a4 (zt S q Y) λd l1 l2 _ _=>?_
    refine#[_,g1,p,C,dx,_,_,rfl,S.ob,Z,nf,l1,d,_,rfl,xl.k (k:=gP k) l2,?_]
    rw[xC,hZ]
    exact n
  cases b with
  |false=>exact#[_,NS (Ot G M (wh I J)) L,λd F R f H r m Q s t n v=>N d F R f H _ m _ s t (λk c u h j e w z g B=>by
      subst B
      exact O g (n _ c _ h j e w z g rfl)) v]
  |true=>exact#[_,NS (BA G M (wh I J)) L,λd F R f H r m Q s t n v=>N d F R f H _ m _ s t (λk c u h j e w z g B=>by
      subst B
      exact O g (n _ c _ h j e w z g rfl)) v]
def tw_dIn(q:ID)(b:Bool)(i:Nat)[Sls W][A:At i D (Bd C Y) W](Z:q.ok Y)(cl:Ae X.K C)(nf:vg X.K C q.nm)(I:X.A.units+1<jS)(hk:EW X E T a wk)(J:PE X (.Name x m) (uR i))(L:g9 (.Name x m) q.nm X.env (eval (.Name x m) X.env)=eval (.Name x m) X.env:=by rfl)
 (M:iA (if b then .NotIn else .In) (.Attribute (.Name x m) q.nm p2)=false:=by with_unfolding_all rfl):TW X E T (.Compare a [if b then .NotIn else .In] [.Attribute (.Name x m) q.nm p2] pos) (λ(d:D)(t:Bool->D->Prop) n=>wk d (λk e=>t (if b then !(lk (q.get<|A.get e) k).isSome else (lk (q.get<|A.get e) k).isSome) e) n):=by
  refine e1a2 hk λta N O=>?_
  have P:∀{e:D} {j l:Rg} {f:Hp} {g:St} {k:Int} {Q:VK},vt T j l f e g->Q (.bl<|if b then !(lk (q.get<|A.get e) k).isSome else (lk (q.get<|A.get e) k).isSome) f->VZ X.K (uR i) q.nm g f λy S=>∃a o,y=.ref a/\xl S a (.int k) o/\Q (.bl<|if b then !o.isSome else o.isSome) S:=λ{e j l f g k Q} h r=>by
    obtain⟨p,dx,e1,e2,e3,e4,us,g1,U,_,_⟩:=vM (i:=i) h
    refine e1a4 (zt U q Z) λd l1 l2 _ _=>?_
    refine#[_,g1,p,C,dx,_,_,rfl,U.ob,cl,nf,l1,d,_,rfl,xl.k (k:=gP k) l2,?_]
    rw[xC,hZ]
    exact r
  cases b with
  |false=>exact#[_,IT (Ot I N (wh J L)) M,λd F R g H t n Q s v r w=>O d F R g H _ n _ s v (λk e u j l f z B h G=>by
      subst G
      exact P (Q:=λy H=>∃c,y=.bl c/\Q c H) h #[_,rfl,r _ e j l f z B h]) w]
  |true=>exact#[_,IT (BA I N (wh J L)) M,λd F R g H t n Q s v r w=>O d F R g H _ n _ s v (λk e u j l f z B h G=>by
      subst G
      exact P (Q:=λy H=>∃c,y=.bl c/\Q c H) h #[_,rfl,r _ e j l f z B h]) w]
def EV(X:Cx)(T:cr)(e:hW){D α:Type}[Sls D][Rep α](f:D->α):Prop :=
 ∃t,PE X e t/\∀(d:D)(F R:Rg)(σ:St)(H:Hp)(Q:VK),vt T F R H d σ->(∀v,rp R H (f d) v->Q v H)->t σ H Q
def vD[Rep a][Sls b](i:Nat)[A:At i D a b](c:PE X (.Name y pos) (uR i)):EV X T (.Name y pos) (λ(d:D)=>A.get d):=by refine#[_,c,λd F R h H Q s e=>?_];obtain⟨v,j,k,f,l,⟨_,u,rfl,g⟩,_⟩:=A.take s.rel;exact#[u,f,e u g]
def PB{m:Int}{k:Nat}:EV X T (.Constant (.int m) k pos) (λ(_:D)=>m):=#[_,uH,λd F R b H Q s a=>a _ rfl]
def Gc(q:ID)(i:Nat)[Sls h][A:At i D (Bd C j) h](l:q.ok j)(m:Ae X.K C)(n:vg X.K C q.nm)(o:X.A.units+1<jS)(t:PE X (.Name x b) (uR i))(u:EV X T a f)(w:g9 (.Name x b) q.nm X.env (eval (.Name x b) X.env)=eval (.Name x b) X.env:=by rfl)(B:Op a:=by intro _ _;rfl) :
  EW X E T (.Subscript (.Attribute (.Name x b) q.nm Y) a pos) (λ(d:D)(c:Int->D->Prop) _=>∃v,lk (q.get<|A.get d) (f d)=↑v/\c v d):=by
 refine e1a2 u λZ G I=>?_;refine#[_,FF o (wh t w) G B,λd F R J H c Ke Q s L M ke=>?_];obtain⟨p,N,e1,e2,e3,e4,us,O,e,_,_⟩:=vM (i:=i) s;refine e1a4 (zt e q l) λy P S _ _=>?_;refine#[_,O,p,C,N,_,_,rfl,e.ob,m,n,P,I d F R J H _ s λv r=>?_];subst r;refine e1a2 L λz U W=>?_;have g:=xl.k (k:=gP<|f d) S;rw[xC,U]at g;exact#[y,_,rfl,g,M z d _ F R H W (Ch.refl _ _ _ _) s rfl]
def zY(i:Nat)[Sls h][A:At i D (Bd C U) h](j:Ae X.K C)(l:vg X.K C "borders")(m:X.A.units+1<jS)(n:PE X (.Name x b) (uR i))(o:EV X T a f)(q:g9 (.Name x b) "borders" X.env (eval (.Name x b) X.env)=eval (.Name x b) X.env:=by rfl)(t:Op a:=by intro _ _;rfl) :
  EW X E T (.Subscript (.Attribute (.Name x b) "borders" W) a pos) (λ(d:D)(e:Tp Int->D->Prop) _=>∃v,lk (A.get d).bd (f d)=↑v/\e #[v] d):=by
 refine e1a2 o λY u y=>?_;refine#[_,FF m (wh n q) u t,λd F R B H e Z Q s G I ke=>?_];obtain⟨p,J,e1,L,e3,e4,us,M,c,_,_⟩:=vM (i:=i) s;refine#[_,M,p,C,J,_,_,rfl,c.ob,j,l,rfl,y d F R B H _ s λv r=>?_];subst r;refine e1a2 G λz N O=>?_;refine e1a2 ((DD c.tu).1 z N) λw P S=>?_;have g:=xl.k (k:=gP<|f d) c.bd;rw[P]at g;exact#[L,w,rfl,g,I #[z] d _ F R H O (Ch.refl _ _ _ _) s S]
def Ti(q:ID)(i:Nat)[Sls g][A:At i D (Bd C h) g](j:q.ok h)(k:Ae X.K C)(l:vg X.K C q.nm)(m:Gl X "len")(n:X.mg "len"=none)(o:PE X (.Name x a) (uR i))(r:g9 (.Name x a) q.nm X.env (eval (.Name x a) X.env)=eval (.Name x a) X.env:=by rfl)
 (b:gf [.Attribute (.Name x a) q.nm c] X.env=(false,eval (.Attribute (.Name x a) q.nm c) X.env)::gf [] X.env:=by rfl) :
    EW X E T (.Call (.Name "len" G) [.Attribute (.Name x a) q.nm c] [] pos) (λ(d:D)(e:Int->D->Prop) _=>e ((q.get<|A.get d).length:Int) d):=by
  refine#[_,wj MN m n mO (ur (wh o r) uA b) (he:=b),λd F R I H e J Q s t u L=>?_]
  obtain⟨p,v,M,N,O,P,S,w,f,_,_⟩:=vM (i:=i) s
  refine e1a4 (zt f q j) λy z B _ _=>?_
  refine#[_,w,p,C,v,_,_,rfl,f.ob,k,l,z,y,_,rfl,B,u _ d _ F R H t (Ch.refl _ _ _ _) s ?_]
  show V.int _=V.int _
  unfold AH
  rw[gm]
def DE(q:ID)(i:Nat)[Sls h][A:At i D (Bd C j) h](k:q.ok j)(m:Ae X.K C)(n:vg X.K C q.nm)(o:X.calm=true)(r:Gl X "sorted")(t:X.mg "sorted"=none)(u:PE X (.Name x a) (uR i))(v:g9 (.Name x a) q.nm X.env (eval (.Name x a) X.env)=eval (.Name x a) X.env:=by rfl)
 (b:gf [.Attribute (.Name x a) q.nm c] X.env=(false,eval (.Attribute (.Name x a) q.nm c) X.env)::gf [] X.env:=by rfl) :
    EO X E T (.Call (.Name "sorted" U) [.Attribute (.Name x a) q.nm c] [] pos) (λ(d:D)(e:OL Int->D->Prop) _=>(q.get<|A.get d).length<64/\e #[AE ((q.get<|A.get d).map (·.1))] d):=by
  refine#[_,wj (FS o) r t jH (ur (wh u v) uA b) (he:=b),λd F R W H e Y Q s f w Z=>?_]
  obtain⟨p,z,e1,e2,e3,e4,us,B,g,_,_⟩:=vM (i:=i) s
  refine e1a4 (zt g q k) λy G I _ _=>?_
  refine#[_,B,p,C,z,_,_,rfl,g.ob,m,n,G,y,_,(q.get<|A.get d).map (·.1),rfl,I,?_,by rw[gm];exact f.1,λl ns J L M=>?_]
  · unfold AH
    rw[jR,jR]
    rfl
  · rw[Do L M]
    refine e1a3 (wM s J (xf (R:=R) (H:=H) (AE ((q.get<|A.get d).map (·.1))))) λN O P S=>?_
    exact w _ d _ _ F N _ f.2 O P S
def Y1(i:Nat)[Sls c][A:At i D (Bd C o) c](e:Ae X.K C)(f:vg X.K C "upcoming")(g:PE X (.Name x a) (uR i))(h:g9 (.Name x a) "upcoming" X.env (eval (.Name x a) X.env)=eval (.Name x a) X.env:=by rfl) :
  EW X E T (.Attribute (.Name x a) "upcoming" pos) (λ(d:D)(b:Int->D->Prop) _=>b (A.get d).up d):=by
 refine#[_,wh g h,λd F R q H b r Q s j k t=>?_];obtain⟨p,l,u,v,w,y,z,m,n,_,_⟩:=vM (i:=i) s;exact#[_,m,p,C,l,_,_,rfl,n.ob,e,f,rfl,k _ d _ F R H j (Ch.refl _ _ _ _) s rfl]
def Gd(q:ID)(i:Nat)[Sls o][A:At i D (Bd C t) o][U:Pt i o (Bd C t) D][J:Pj D PO n](P:q.ok t)(Q:Ae X.K C)(S:vg X.K C q.nm)(W:X.A.units+1<jS)(Y:PE X (.Name x g) (uR i))(Z:EV X T a f)(he:EW X E T e we)(hb:g9 (.Name x g) q.nm X.env (eval (.Name x g) X.env)=eval (.Name x g) X.env:=by rfl)
 (hs:js e (some<|.Subscript (.Attribute (.Name x g) q.nm p2) a p3) pos.line X.env=pure false:=by rfl) :
    S1 X E T ms n (.Assign [.Subscript (.Attribute (.Name x g) q.nm p2) a p3] e pos) (λ(d:D)(z:D->Prop)(Kr:τ->PO->Prop) B=>we d (λv b=>(q.get<|A.get b).length<gk/\z (U.put (A.hole b)<|q.set (A.get b)<|pk (q.get<|A.get b) (f b) v)) λC I=>B C<|J.pj I):=by
  refine e1a2 Z λta a1 a2=>?_
  refine e1a2 he λte b1 b2=>?_
  refine#[_,FG W (wh Y hb) a1 b1 hs,λd F R j H z Kr B En s hw kn kr ke=>b2 d F R j H _ _ _ s hw (λv b u L M H1 N c1 l r1=>?_) λC y I F' R' H' q c s'=>?_]
  · obtain⟨p, dx, e1, e2, e3, e4, us, m, h, g3, g4⟩ := vM (i := i) l
    refine e1a4 (zt h q P) λy l1 l2 O l4=>?_
    subst r1
    refine#[_,m,p,C,dx,_,_,rfl,h.ob,Q,S,l1,a2 b L M j H1 _ l λw r=>?_]
    subst r
    obtain⟨c2,s2⟩:=g4 (U:=U) O<|l4 (pk (q.get<|A.get b) (f b) v)<|g3 y O
    refine#[y,_,rfl,FE.k (k:=gP<|f b) l2 (by unfold AH;rw[gm];exact N.1),?_]
    rw[Th]
    exact kn _ L M _ j N.2 (Ch.trans s l.tab c1 c2) s2<|Ag.refl _ _
  · refine e1a2 (vW (PO := PO) s') λG m h => ?_
    exact ke C y _ G R' H' q (c.less m) h
def DF(b:DC C i R H y p j k f g h n)(m:R f)(t:Bb R H l d):DC C i R (upd H f<|.dK d) { y with bd:=l} p j k f g h d:=by have e:=nd4 b.nd;exact⟨b.nd,by rw[uh e.1.2.2.1];exact b.ob,by rw[uh e.2.1.2.1];exact b.ow,by rw[uh e.2.2.1.1];exact b.rk,uk,CK ((yO (F:=R) (R:=R) (H:=H) (a:=f) (o:=.dK d)).wide λc z=>by rw[z];exact m) t,λz=>by rw[uh (e.2.2.2.1 g<|by rw[ga z];simp).symm];exact b.ht z,λz=>by rw[uh (e.2.2.2.1 h<|by rw[ga z];simp).symm];exact b.th z⟩
def Tj(i:Nat){o:Type}[Sls o][A:At i D (Bd C L) o][U:Pt i o (Bd C L) D][J:Pj D PO n]{f:D->Int}{M:Wf D (Tp Int) D}(Z:Ae X.K C)(nf:vg X.K C "borders")(hu:X.A.units+1<jS)(hn:PE X (.Name x j) (uR i))(hk:EV X T a f)(he:EW X E T e M)(hb:g9 (.Name x j) "borders" X.env (eval (.Name x j) X.env)=eval (.Name x j) X.env:=by rfl)
 (hs:js e (some<|.Subscript (.Attribute (.Name x j) "borders" p2) a p3) pos.line X.env=pure false:=by rfl) :
    S1 X E T ms n (.Assign [.Subscript (.Attribute (.Name x j) "borders" p2) a p3] e pos) (λ(d:D)(N:D->Prop)(Kr:τ->PO->Prop) O=>M d (λv g=>(A.get g).bd.length<gk/\lk (A.get g).bd (f g)=none/\N (U.put (A.hole g) { A.get g with bd:=pk (A.get g).bd (f g) v.l})) λC P=>O C<|J.pj P):=by
  refine e1a2 hk λta a1 a2=>?_
  refine e1a2 he λte b1 b2=>?_
  refine#[_,FG hu (wh hn hb) a1 b1 hs,λd F R t H N Kr O En s hw kn kr ke=>b2 d F R t H _ _ _ s hw (λv g u Q S H1 z c1 B r1=>?_) λC y P F' R' H' q c s'=>?_]
  · obtain⟨p, W, e1, m, e3, e4, us, I, h, g3, g4⟩ := vM (i := i) B
    have Y:m∈adr p W e1 m e3 e4 L:=by simp[adr]
    refine#[_,I,p,C,W,_,_,rfl,h.ob,Z,nf,rfl,a2 g Q S t H1 _ B λw r=>?_]
    subst r
    obtain⟨c2,s2⟩:=g4 (U:=U) Y<|DF h (g3 m Y)<|Py (b:=v.l) h.tu z.2.1 r1
    exact#[m,_,rfl,FE.k (k:=gP<|f g) h.bd (by rw[<- Paired.length h.tu];exact z.1),kn _ Q S _ t z.2.2 (Ch.trans s B.tab c1 c2) s2<|Ag.refl _ _]
  · refine e1a2 (vW (PO := PO) s') λG I h => ?_
    exact ke C y _ G R' H' q (c.less I) h
def Y2(i:Nat)[Sls w][A:At i D (Bd C f) w][U:Pt i w (Bd C f) D][J:Pj D PO n](S:Ae X.K C)(W:vg X.K C "upcoming")(Y:PE X (.Name x B) (uR i))(Z:EW X E T e we)(hs:js e (some<|.Attribute (.Name x B) "upcoming" p2) pos.line X.env=pure false:=by rfl) :
  S1 X E T ms n (.Assign [.Attribute (.Name x B) "upcoming" p2] e pos) (λ(d:D)(I:D->Prop)(Kr:τ->PO->Prop) L=>we d (λv j=>I<|U.put (A.hole j) { A.get j with up:=v}) λC M=>L C<|J.pj M):=by
 refine e1a2 Z λte b1 b2=>?_;refine#[_,By Y b1 hs,λd F R N H I Kr L En s hw kn kr ke=>b2 d F R N H _ _ _ s hw (λv j u F1 o O q1 c1 P r1=>?_) λC y M F' R' H' q c s'=>?_]
 ·obtain⟨p,r,k,l,g,h,us,t,b,g3,g4⟩:=vM (i:=i) P;subst r1;have Q:p∈adr p r k l g h f:=by simp[adr]
  have m:=nd4 b.nd;have eq:zf "upcoming" (V.int v) (xL k l g h (A.get j).up f)=xL k l g h v f:=rfl;have nb:DC C f o (upd O p<|.ins C r<|xL k l g h v f) { A.get j with up:=v} p r k l g h us:=⟨b.nd,uk,by rw[uh m.1.1.symm];exact b.ow,by rw[uh m.1.2.1.symm];exact b.rk,by rw[uh m.1.2.2.1.symm];exact b.bd,CK ((yO (F:=o) (R:=o) (H:=O) (a:=p)).wide λc z=>by rw[z];exact g3 p Q) b.tu,λz=>by rw[uh (m.1.2.2.2 g<|by rw[ga z];simp).symm];exact b.ht z,λz=>by rw[uh (m.1.2.2.2 h<|by rw[ga z];simp).symm];exact b.th z⟩;obtain⟨c2,s2⟩:=g4 (U:=U) Q nb;refine#[_,t,p,C,r,_,rfl,b.ob,S,W,?_,?_]
  ·unfold xL;split<;>(simp only[gK,mu];decide)
  ·rw[eq];exact kn _ F1 o _ N q1 (Ch.trans s P.tab c1 c2) s2<|Ag.refl _ _
 ·refine e1a2 (vW (PO:=PO) s') λG t b=>?_;exact ke C y _ G R' H' q (c.less t) b
def LI(q:ID)(i:Nat)[Sls c][A:At i D (Bd C e) c][U:Pt i c (Bd C e) D][J:Pj D PO n](u:q.ok e)(v:Ae X.K C)(z:vg X.K C q.nm)(B:PE X (.Name x b) (uR i))(G:EV X T a f)(I:∀{g h:TE},PE X (.Attribute (.Name x b) q.nm j) g->PE X a h->PS X (.Delete [.Subscript (.Attribute (.Name x b) q.nm j) a L] pos) (Oq g h))(M:g9 (.Name x b) q.nm X.env (eval (.Name x b) X.env)=eval (.Name x b) X.env:=by rfl) :
  S1 X E T ms n (.Delete [.Subscript (.Attribute (.Name x b) q.nm j) a L] pos) (λ(d:D)(k:D->Prop)(N:τ->PO->Prop)(O:cr->PO->Prop)=>(lk (q.get<|A.get d)<|f d).isSome=true/\k (U.put (A.hole d)<|q.set (A.get d)<|dk (q.get<|A.get d)<|f d)):=by
 refine e1a2 G λta P Q=>?_;refine#[_,I (wh B M) P,λd F R l H k N O En s m S kr ke=>?_];obtain⟨p,W,e1,e2,e3,e4,us,Y,o,Z,g4⟩:=vM (i:=i) s;refine e1a4 (zt o q u) λy l1 l2 t l4=>?_;refine#[_,Y,p,C,W,_,_,rfl,o.ob,v,z,l1,Q d F R l H _ s λw r=>?_];subst r;obtain⟨c2,s2⟩:=g4 (U:=U) t<|l4 (dk (q.get<|A.get d)<|f d)<|Z y t;refine#[y,_,gP<|f d,rfl,l2,rfl,by rw[xC,hZ];exact m.1,?_];rw[Ia];exact S _ F R _ l m.2 c2 s2<|Ag.refl _ _
def Tk(i:Nat)[Sls h][A:At i D (Bd C j) h][U:Pt i h (Bd C j) D][J:Pj D PO n](I:Ae X.K C)(L:vg X.K C "borders")(M:PE X (.Name x c) (uR i))(N:EV X T a f)(O:∀{l m:TE},PE X (.Attribute (.Name x c) "borders" o) l->PE X a m->PS X (.Delete [.Subscript (.Attribute (.Name x c) "borders" o) a P] pos) (Oq l m))(Q:g9 (.Name x c) "borders" X.env (eval (.Name x c) X.env)=eval (.Name x c) X.env:=by rfl) :
  S1 X E T ms n (.Delete [.Subscript (.Attribute (.Name x c) "borders" o) a P] pos) (λ(d:D)(q:D->Prop)(S:τ->PO->Prop)(W:cr->PO->Prop)=>(lk (A.get d).bd<|f d).isSome=true/\q (U.put (A.hole d) { A.get d with bd:=dk (A.get d).bd (f d)})):=by
 refine e1a2 N λta Y Z=>?_;refine#[_,O (wh M Q) Y,λd F R t H q S W En s u kn kr ke=>?_];obtain⟨p,y,e1,g,e3,e4,us,g1,e,g3,g4⟩:=vM (i:=i) s;have B:g∈adr p y e1 g e3 e4 j:=by simp[adr]
 refine#[_,g1,p,C,y,_,_,rfl,e.ob,I,L,rfl,Z d F R t H _ s λw r=>?_];subst r;obtain⟨c2,s2⟩:=g4 (U:=U) B<|DF e (g3 g B)<|M7 (k:=f d) e.tu;refine#[g,us,gP<|f d,rfl,e.bd,rfl,?_,kn _ F R _ t u.2 c2 s2<|Ag.refl _ _]
 cases z:lk (A.get d).bd (f d) with
 |none =>
  have G:=u.1;rw[z]at G;cases G
 |some b =>
  refine e1a2 ((DD e.tu).1 b z) λv v1 _=>?_;rw[v1];rfl
end
section
variable{D PO τ:Type}[Sls D][Sls PO][Ow τ]{α:Type}[Rep α]
def Ic(i:Nat){D1 P O B B1 S:Type}[Sls D1][Sls P][Sls O][Sls B][Sls B1][Sls S][Lb S τ<|Bd C J×O]{I:B->S->O->D}{wr:D->(P->B->S->Prop)->(cr->D->Prop)->Prop}
 {wf:Wf (Bd C J×P) τ (Bd C J×O)} [A0:At i D (Bd C J) D1] [A:At i B (Bd C J) B1] [U:Pt i B1 (Bd C J) B] (hl:∀a b c d u,(xL a b c d u J).lookup m=none)
 (b2:∀(d:D)(F R:Rg)(k:St)(H:Hp)(W:P->B->S->Prop)(M:cr->D->Prop)(Q:List V->Hp->Prop),vt T F R H d k->wr d W M ->
 (∀p b l vs us F1 X L w j e,W p b l->Ch T F R H w j e->Std T w j e->Du w F1 X L->rel F1 (Wo j L) e p (vs.map some)->rel X j e b k->rel L j e l us ->
 (∀b' l' G1 G2 G3 o f h G,rel G1 f h G (vs.map some)->rel G2 f h b' k->rel G3 f h l' us->Du o G1 G2 G3->rel o f h (I b' l' G) k)->Q vs e) ->
 (∀C y r w j e,M C r->Ch T F R H w j e->vt T w j e r k->E (.ref C) ↑y e)->tr k H Q)
 (d:D) (F R:Rg) (k:St) (H:Hp) (W:τ->D->Prop) (M:cr->D->Prop) (Q:VK) (s:vt T F R H d k) (hw:wr d (λp b l=>wf (A.get b,p) (λy G=>W y<|I (U.put (A.hole b) G.1) l G.2)<|λC G=>M C<|I (U.put (A.hole b) G.1) l G.2) M)
 (kn:∀x r v F1 X j e,W x r->Ch T F R H (λa=>F1 a\/X a) j e->vt T X j e r k->Nw T F1 X j e x v->Q v e)
 (ke:∀C y r w j e,M C r->Ch T F R H w j e->vt T w j e r k->E (.ref C) ↑y e):EL C m (xR T wf) [] E (uR i) tr k H Q:=by
  obtain⟨v,_,_,hv,_,⟨a,dx,d1,d2,d3,d4,aa,rfl,_,g⟩,_⟩:=A0.take s.rel
  refine#[_,hv,a,dx,_,rfl,g.ob,hl _ _ _ _ _,b2 d F R k H _ M _ s hw (λp b l vs us G1 G2 L w j e q2 c2 s2 Y h1 h2 h3 km=>?_) ke]
  rw[jP]
  refine e3a4 (A.take h2) λv' M1 M2 z1 z2 z3 z4=>?_
  rw[hv]at z1
  cases z1
  have m1:∀a,M1 a->G2 a:=λa m=>(z2.all a).mpr<|.inl m
  have m2:∀a,M2 a->G2 a:=λa m=>(z2.all a).mpr<|.inr m
  refine Dv (F:=w) (F1:=λa=>M1 a\/G1 a) (F2:=M2) (L:=L) (mrg:=λ(b:B1)(l:S)(p:Bd C J×O)=>I (U.put b p.1) l p.2) (wf:=wf) (p:=(A.get b,p)) (b:=A.hole b) (l:=l) (us:=us) (σ:=k) (Kn:=W) (Ke:=M) s2 #[λa=>?_,λa m n=>?_,λa m n=>?_,λa m n=>Y.IP a (m2 a m) n] #[some<|.ref a,vs.map some,M1,G1,rfl,⟨λ_=>Iff.rfl,λa m n=>Y.Hl a n<|m1 a m⟩,Ow.wk z3<|BJ j L e,h1] z4 h3 (λb' l' L1 L2 L3 o f h G h3 h4 h5 t=>?_) q2 (λx r v M1 M2 f h q' c' N n=>kn x r v M1 M2 f h q' (Ch.trans s s2.tab c2 c') N n) λC y r o f h q' c' N=>ke C y r o f h q' (Ch.trans s s2.tab c2 c') N
  · rw[Y.all, z2.all]
    exact#[λz=>z.elim (λq=>.inl<|.inr q) λz=>z.elim (λz=>z.elim (λq=>.inl<|.inl q) λq=>.inr<|.inl q) λq=>.inr<|.inr q,λz=>z.elim (λz=>z.elim (λq=>.inr<|.inl<|.inl q) .inl) λz=>z.elim (λq=>.inr<|.inl<|.inr q) λq=>.inr<|.inr q]
  · rcases m with m|m
    · exact z2.xt a m n
    · exact Y.Hl a m<|m2 a n
  · rcases m with m|m
    · exact Y.IP a (m1 a m) n
    · exact Y.IN a m n
  · refine e4a4 h3 λv' ab N1 N2 y1 Z y3 y4 => ?_
    injection y1 with y5 y6
    subst y5;subst y6
    have tt:Cv (λa=>N1 a\/L2 a) N1 L2:=#[λ_=>Iff.rfl,λa m n=>t.Hl a ((Z.all a).mpr<|.inl m) n]
    refine km _ l' N2 (λa=>N1 a\/L2 a) L3 o f h G.2 y4 (Pt.same (A:=U) h4 hv tt y3) h5 #[λa=>?_,λa m n=>?_,λa m n=>t.IN a ((Z.all a).mpr<|.inr m) n,λa m n=>?_]
    · rw[t.all, Z.all]
      exact#[λz=>z.elim (λz=>z.elim (λq=>.inr<|.inl<|.inl q) .inl) λz=>z.elim (λq=>.inr<|.inl<|.inr q) λq=>.inr<|.inr q,λz=>z.elim (λq=>.inl<|.inr q) λz=>z.elim (λz=>z.elim (λq=>.inl<|.inl q) λq=>.inr<|.inl q) λq=>.inr<|.inr q]
    · rcases n with n|n
      · exact Z.xt a n m
      · exact t.Hl a ((Z.all a).mpr<|.inr m) n
    · rcases m with m|m
      · exact t.IN a ((Z.all a).mpr<|.inl m) n
      · exact t.IP a m n
def PD{o:List hW}(i:Nat){v P j B r q:Type}[Sls v][Sls P][Sls j][Sls B][Sls r][Sls q][Lb q τ<|Bd C g×j]{h:B->q->j->D}{z:D->(P->B->q->Prop)->(cr->D->Prop)->Prop}
 {s:Wf (Bd C g×P) τ (Bd C g×j)} [S:At i D (Bd C g) v] [A:At i B (Bd C g) r] [U:Pt i r (Bd C g) B] {k:Nat} {G:List Str}
 (F:uO X.prog X.w X.K X.mg X.base (uW X.prog X.w) k f J G (xR T s)) (W:vI k X.A) (Y:Ae X.K C) (Z:Meth X.K C m f) (hb:Binds X.K J G []) (hx:Passes (uW X.prog X.w) X E) (hn:PE X (.Name x H) (uR i))
 (L:∀a b c d u,(xL a b c d u g).lookup m=none)
 (M:∀{t:TA},PA X (e::o) t->PE X (.Call (.Attribute (.Name x H) m apos) (e::o) [] pos) (EL C m (xR T s) [] E (uR i) t)) (N:JI X E T (e::o) h z) :
    EO X E T (.Call (.Attribute (.Name x H) m apos) (e::o) [] pos) (λ(d:D)(O:τ->D->Prop) I=>z d (λp b l=>s (A.get b,p) (λy n=>O y<|h (U.put (A.hole b) n.1) l n.2)<|λC n=>I C<|h (U.put (A.hole b) n.1) l n.2) I):=by
  refine e1a2 N λtr Q R=>?_
  exact#[_,M Q,Ic i L R]
def PF(i:Nat){h:Type}[Sls h]
 {j:Wf (Bd C e×Unit) τ (Bd C e×Unit)} [A:At i D (Bd C e) h] [U:Pt i h (Bd C e) D] {k:Nat} {B:List Str}
 (F:uO X.prog X.w X.K X.mg X.base (uW X.prog X.w) k f N B (xR T j)) (hr:vI k X.A) (cl:Ae X.K C) (hm:Meth X.K C m f) (hb:Binds X.K N B []) (hx:Passes (uW X.prog X.w) X E) (hn:PE X (.Name x G) (uR i))
 (O:∀a b c d u,(xL a b c d u e).lookup m=none)
 (P:PE X (.Call (.Attribute (.Name x G) m apos) [] [] pos) (EL C m (xR T j) [] E (uR i) Cr)) :
    EO X E T (.Call (.Attribute (.Name x G) m apos) [] [] pos) (λ(d:D)(o:τ->D->Prop) r=>j (A.get d,()) (λy l=>o y<|U.put (A.hole d) l.1)<|λC l=>r C<|U.put (A.hole d) l.1):=by
  refine#[_,P,λd F R S H o r Q s W Y Z=>?_]
  refine e3a4 (A.take s.rel) λv I M2 J z2 L z4=>?_
  obtain⟨a,dx,d1,d2,d3,d4,aa,rfl,_,g⟩:=id L
  refine#[_,J,a,dx,_,rfl,g.ob,O _ _ _ _ _,?_]
  refine Pc (F:=F) (F1:=I) (F2:=M2) (mrg:=λ(b:h)(p:Bd C e×Unit)=>U.put b p.1) (wf:=j) (p:=(A.get d,())) (b:=A.hole d) (σ:=S) (Kn:=o) (Ke:=r) s.FT z2 #[some<|.ref a,[],I,λ_=>False,rfl,#[λ_=>#[.inl,λz=>z.elim id λq=>q.elim],λ_ _ z=>z],L,rfl,λ_ z=>z] z4 (λb' G1 G2 ab ae af l h1 h2 t=>?_) W Y Z
  refine e4a4 h1 λv' ag N1 N2 y1 M y3 y4=>?_
  injection y1 with y5 y6
  subst y5
  refine Pt.same (A:=U) h2 J #[λa=>?_,λa m n=>t.xt a ((M.all a).mpr<|.inl m) n] y3
  rw[t.all,M.all]
  exact#[λz=>z.elim (λz=>z.elim .inl λq=>gA q<|y4.2 a) .inr,λz=>z.elim (λq=>.inl<|.inl q) .inr]
def tw_trueO{wa:Wf D (OL α) D}(ha:EO X E T a wa)(he:∀whole,qc a X.env whole=(do let v <- whole;md a.pos;jY [v] (tJ v)):=by intro _;rfl):TW X E T a (λ(d:D) Kn Ke=>wa d (λxs d1=>Kn (!xs.l.isEmpty) d1) Ke):=by
 refine e1a2 ha λta a1 a2=>?_;refine#[_,Hz a1 he,λd F R σ H Kn Ke Q s hw kn ke=>a2 d F R σ H _ Ke _ s hw (λxs d1 u F1 F2 R1 H1 q1 c1 s1 n1=>?_) ke];refine e2a4 n1.is λb vs e _ h3 h4=>?_;cases e;refine#[!vs.isEmpty,.inl #[vs,vF.of h3,rfl],?_];obtain⟨l⟩:=xs
 have:vs.isEmpty=l.isEmpty:=by
  cases h4<;>rfl
 rw[this];exact kn _ d1 F2 R1 H1 q1 (c1.less λ_ z=>.inr z) s1
def PH{e:Wf D (Tp α) D}(i:Gl X "list")(j:X.mg "list"=none)(k:EW X E T a e)(f:gf [a] X.env=(false,eval a X.env)::gf [] X.env:=by rfl) :
  EO X E T (.Call (.Name "list" p) [a] [] pos) (λ(d:D)(g:OL α->D->Prop) b=>e d (λt c=>g #[t.l] c) b):=by
 refine e1a2 k λN m n=>?_;refine#[_,wK xy i j jU (ur m uA f) (he:=f),λd F R o H g b Q s r v w=>n d F R o H _ b _ s r (λt c u x O P y z h A=>?_) w];obtain⟨q,S,rfl,_,B,C⟩:=A;refine#[_,_,rfl,.inr<|yA.of B,λl G=>?_];refine e1a3 (wM h G C) λI J L M=>?_;exact v _ c _ _ x I _ y (Ch.trans s h.tab z J) L M
def Tl(n:Gl X "tuple")(o:X.mg "tuple"=none)(r:ER X E T a t)(f:gf [a] X.env=(false,eval a X.env)::gf [] X.env:=by rfl) :
  EW X E T (.Call (.Name "tuple" p) [a] [] pos) (λ(d:D)(h:Tp α->D->Prop) e=>t d (λg b=>h #[g b] b) e):=by
 refine e1a2 r λP v w=>?_;refine#[_,wK Es n o PyProof.Rows.boot_tuple (ur v uA f) (he:=f),λd F R x H h e Q s y z A=>w d F R x H _ e _ s y (λg b u i j B C G c I=>?_) A];obtain⟨q,k,rfl,J,L⟩:=I b i j B (Ch.refl _ _ _ _) c;refine#[_,_,rfl,.inl #[vF.of J,λl M=>?_]];refine e0a3 (c.new (.tup k) M) λN m O=>?_;exact z _ b _ i j _ C (Ch.trans s c.tab G m) N #[l,k,rfl,O,uk,c.vals m L]
def ints_of{R:Rg}{H:Hp}:∀{xs:List Int} {vs:List V},Paired (rp R H) xs vs->vs=xs.map V.int:=by
 intro _ _ z
 induction z with
 |nil=>rfl
 |cons h t ih=>rw[show _=V.int _ from h,ih];rfl
def tw_inT{a b:hW}{wa:Wf D Int D}{wb:Wf D (Tp Int) D}(ha:EW X E T a wa)(hb:EW X E T b wb)(hm:iA .In b=false) :
  TW X E T (.Compare a [.In] [b] pos) (λ(d:D) Kn Ke=>wa d (λk d1=>wb d1 (λt d2=>Kn (decide<|k∈t.l) d2) Ke) Ke):=by
 refine e1a2 ha λta a1 a2=>?_;refine e1a2 hb λtb b1 b2=>?_;refine#[_,wW EQ a1 b1 hm,λd F R σ H Kn Ke Q s hw kn ke=>a2 d F R σ H _ Ke _ s hw (λk d1 u F1 R1 H1 q1 c1 s1 r1=>?_) ke];refine b2 d1 F1 R1 σ H1 _ Ke _ s1 q1 (λt d2 v F2 R2 H2 q2 c2 s2 r2=>?_) λC y d' F' R' H' k c s'=>ke C y d' F' R' H' k (Ch.trans s s1.tab c1 c) s';subst r1;obtain⟨l⟩:=t;obtain⟨q,us,rfl,_,h1,h2⟩:=r2;have e:=ints_of (xs:=l) h2;subst e;refine#[q,_,rfl,.inr<|yA.of h1,rfl,zW _,_,rfl,?_];rw[gc gw,A1];exact kn _ d2 F2 R2 H2 q2 (Ch.trans s s1.tab c1 c2) s2
def DG[Sls D2][Gf:Fg D2 D][J:Pj D PO n](N:RK PO ms n)(hp:qO (gv X.prog X.w) X.A X.env X.xe)
 (hc:TW X E T c wc) (hb:SW X E T mb n body wb) (B:∀i∈ms,i∈mb) :
    S1 X E T ms n (.While c body [] pos) (λ(d:D)(Kn:D->Prop)(O:τ->PO->Prop) I=>∃W:Nat->D->Prop,(∃m,W m d)/\∀m d,W m d->wc d (λb j=>if b=true then wb j (λL=>∃l,l<m/\W l (Gf.fg L)) O I else Kn j) λC d'=>I C<|J.pj d'):=by
  refine e1a2 hc λtc c1 c2=>?_
  refine e1a2 hb λtb b1 b2=>?_
  refine#[_,NY hp c1 b1,λd F R σ H Kn O I En s hw kn kr ke=>?_]
  obtain⟨W,⟨m0,w0⟩,t⟩:=hw
  refine#[λm e M=>∃j G o,Ch T F R H G o M/\vt T G o M j e/\Ag mb σ e/\W m j,#[m0,d,F,R,Ch.refl _ _ _ _,s,Ag.refl _ _,w0],?_]
  rintro m e M ⟨j,G,o,k1,P,g1,w1⟩
  refine c2 j G o e M _ _ _ P (t m j w1) (λb L G2 R2 H2 q2 k2 u=>?_) λC y d' F' R' z q c s'=>?_
  · have k := Ch.trans s P.tab k1 k2
    cases b with
    |false=>exact kn L G2 R2 H2 e q2 k u<|g1.sub B
    |true =>
      refine#[λp z=>∃l,l<m/\∃j G o,Ch T F R H G o z/\vt T G o z j p/\Ag mb σ p/\W l j,λp z h=>h,?_]
      refine b2 L G2 R2 e H2 _ O I _ u q2 (λd3 G3 R3 H3 ab q3 k3 r g3=>?_) (λx Q v M1 M2 S U Y Z f n4=>?_) λC y Q F4 S U Y Z f=>?_
      · refine e1a2 q3 λl hm w3 => ?_
        refine e1a2 (Gf.le r.rel) λG5 f5 r5=>?_
        exact#[l,hm,_,G5,R3,(Ch.trans s u.tab k k3).less f5,#[r5,λa h=>r.sub a<|f5 a h,r.wy,r.tab,r.u4,λh=>r.uP<|f5 T h],g1.trans g3,w3]
      · exact kr x Q v M1 M2 S U Y (Ch.trans s u.tab k Z) #[N.dp (g1.sub B) f.rel, f.sub, f.wy, f.tab, f.u4, f.uP] n4
      · exact ke C y Q F4 S U Y (Ch.trans s u.tab k Z) #[N.dp (g1.sub B) f.rel, f.sub, f.wy, f.tab, f.u4, f.uP]
  · refine e1a2 (vW (PO := PO) s') λG' aa g => ?_
    exact ke C y _ G' R' z q ((Ch.trans s P.tab k1 c).less aa) #[N.dp (g1.sub B) g.rel,g.sub,g.wy,g.tab,g.u4,g.uP]
end
open PyProof.Rows hiding K
noncomputable def Ite(K:f9)(a:cr):It :=
 #[λi H=>∃b x,vF K H a b/\b[i]?=↑x,λi H v c=>∃p x,v=.ref p/\H p=none/\c=upd H p (.tup [.int i,x])/\∀b,vF K H a b->b[i]?=↑x,λi H=>∃b,vF K H a b/\b.length<=i]
def To{t':Nat}{xs:List V}{nh:Nat}(I:Inv X d y H s)(i:Av X d H e)(j:Av X d H l)(x:⇑s<=a)(k:∀b o,b≠e->b≠l->s.heap.get? b=↑o->h'.get? b=↑o)(A:xs.length<=gk)(r:Vals xs us)(B:IsTup h' a us.toArray) :
  Inv X d y (upd H a<|.tup xs) { s with heap:=h',toks:=t'}:=by
 have C:=I.uV.fresh x;have f:∀b u,H b=↑u->b≠e/\b≠l:=λb u q=>#[λz=>(by rw[z,i.1]at q;cases q),λz=>(by rw[z,j.1]at q;cases q)];have t:∀b o,b∉[e,l]->s.heap.get? b=↑o->h'.get? b=↑o:=λb o h q=>k b o (λz=>h<|by simp[z]) (λz=>h<|by simp[z]) q;have p:∀{b u},H b=some u->upd H a (.tup xs) b=some u:=λ{b u} q=>by rw[uh<|uu q C];exact q
 refine I.step (g':=s.gens) (d':=s.drawn) (ch:=[e,l]) (λb h=>?_) (λb o _ _ g q _=>t b o g q) (λb o _ _ g q _=>#[o.slots,t b o g q]) (λb o g q n=>?_)
  (λb o g q=>#[o,t b o g q]) (λ_ _ q=>p q) (λ_ _ _ q=>p q) (λb J q=>#[#v[],by rw[p q];simp]) (λm D=>?_) (λb u q=>?_) I.bare
 ·rcases List.mem_cons.mp h with z|z
  ·subst z;exact#[i.2.2.2.1,i.2.1,i.2.2.2.2.1,i.2.2.2.2.2]
  ·have z:b=l:=by simpa using z
   subst z;exact#[j.2.2.2.1,j.2.1,j.2.2.2.2.1,j.2.2.2.2.2]
 ·rw[uh<|λz=>gA (gp q)<|by rw[z];exact Nat.not_lt.mpr x];exact n
 ·refine e3a2 D λo E F G r=>?_;exact#[o,E,F,k _ o (Ne.symm i.2.1) (Ne.symm j.2.1) G,r]
 ·by_cases h:b=a
  ·subst h;rw[uk]at q;cases q;exact#[A,us,r,B]
  ·rw[uh h]at q;refine(I.uV b u q).Co (λc v g w=>?_) (λc w=>p w) λc L w=>p w;rcases g with z|z
   ·rw[z]at w ⊢;exact k b v (f b u q).1 (f b u q).2 w
   ·exact k c v (f c _ z).1 (f c _ z).2 w
def M8{K:f9}{x1}(a e it:cr)(hne:e≠it):Turn P w K (.Tuple els x1 tp) (Ite K a) [e,it] e (λi h=>(∃old,IsEnum h e it i old)/\h.IsListIter it a i) where
 mem:=by simp
 obj:=λi h st b hb=>by
  obtain⟨⟨old,h1⟩,⟨o,h2,c,d⟩⟩:=st;rcases List.mem_cons.mp hb with z|z
  ·subst z
   exact#[_,h1,λv z=>by
    have z':sA _=Data.cell v:=z
    cases z']
  ·have z:b=it:=by simpa using z
   subst z;exact#[o,h2,λv z=>by rw[d]at z;cases z]
 keep:=λi h h' st k=>#[e1a1 st.1 λold h1=> #[old,k e q0o _ h1],st.2.at λo q=>k it q0o o q]
 item:=by
  intro X hP hw hK hc i pins s σ H E I hf st hg;subst hP hw hK;refine e2a2 hg λxs x hq hx=>?_;refine e1a3 (I.list hq) λza rv p hz=>?_;refine e1a2 (rv.get hx) λu hu ru=>?_;obtain⟨⟨old,h1⟩,h2⟩:=st;have fe:=hf e q0o;have fi:=hf it q0o;refine wpAny_pyNext_enum_item h1 h2 p.isList (x:=u) (by simpa using hu) hne λh' a1 a2 a3 a4 a5=>#[_,rfl,wpAny_letOwnedTupleGo_enum a1 λh2' b1 b2=>?_];have hel:e<⇑s:=gp h1;have t2:h2'.get? ⇑s=some { cls:=.type "tuple",data:=.seq #v[.int i s.toks,u]}:=b2.extBut _ _ (iK hel) a3;refine#[.ref ⇑s,upd H ⇑s<|.tup [.int i,x],To (s:=s) (h':=h2') (t':=s.toks+1) (xs:=[.int i,x]) (us:=[.int i s.toks,u]) (nh:=0) I fe fi (gg _) (λb o n1 n2 q=>b2.extBut b o n1<|a5 b o n1 n2 q) (by show 2<=gk;decide) (.cons ⟨_,rfl⟩<|.cons ru .nil) ⟨_,t2,rfl,_,rfl⟩,rfl,⟨_,x,rfl,I.uV.fresh<|gg _,rfl,λys hy=>by rw[I.Hw hy hq];exact hx⟩,#[#[_,b1],a2.extBut b2.extBut<|Ne.symm hne],λb hb=>?_];rw[uh]
  ·exact(hf b hb).1
  ·refine e1a2 h2 λo ho _=>?_;rcases List.mem_cons.mp hb with z|z
   ·rw[z];exact gB hel
   ·have z:b=it:=by simpa using z
    rw[z];exact gB<|gp ho
 done:=by intro X hP hw hK hc i pins s σ H E I hf st hg;subst hP hw hK;refine e1a2 hg λxs hq hx=>?_;refine e1a3 (I.list hq) λza rv p hz=>?_;obtain⟨⟨old,h1⟩,h2⟩:=st;refine e0a6 (hf it q0o) λf0 f1 f2 f3 f4 f5=>?_;have hl:=rv.length;exact wpAny_pyNext_enum_end (I.ok.hd hc) h1 h2 p.isList (by simp;lia) λh' eb=>#[rfl,I.turned (t':=s.toks) (λb o hb e=>eb b o hb e) f0 f1 f3 f4 f5]
 self:=λ_ _ _ _ _ st h=>wpAny_pyIter_enum st.1.choose_spec h
section
variable{D:Type}[Sls D]{α:Type}[Rep α]
def Y3(K:f9)(c:TA):TI:=λd H R=>c d H λe b=>∃a,e=[.ref a]/\(∃f,vF K b a f)/\R (Ite K a) b
def Tq{i}(j:Gl X "enumerate")(k:X.mg "enumerate"=none)(l:PA X [a] m)(n:gf [a] X.env=[(false,eval a X.env)]:=by rfl):PI X (.Tuple o i G) (.Call (.Name "enumerate" p) [a] [] pos) (Y3 X.K m):=by
 intro d s t H R I h;refine PyProof.Rows.Call_<|yF I j k PyProof.Rows.boot_enumerate<|jv (uT (l pos d s t H _ I h) λJ c u=>e2a3 u λL v f w x=>?_) n rfl;obtain⟨a,e,⟨M,y⟩,q⟩:=x;subst e
 cases w with
 |cons r A =>
  cases A;cases r;refine e1a3 (f.list y) λB N p O=>?_;refine call_enumerate_list p.isList λP g C Q E=>?_;refine wpAny_pyIter_enum g ?_;refine#[⇑c+1,[⇑c+1,⇑c],_,_,v,rfl,f.kept (t':=c.toks) E,M8 a _ _<|iK<|iV _,⟨⟨_,g⟩,C⟩,λb F=>?_,q]
  have e:⇑c<=b:=by
   rcases List.mem_cons.mp F with z|z
   ·rw[z];exact kP _
   ·have z:b=⇑c:=by simpa using z
    rw[z];exact gg _
  exact f.Fz e<|f.uV.fresh e
noncomputable def M9:Nat->List α->List (Int×α)
 |_,[]=>[]
 |k,x::r=>((k:Int),x)::M9 (k+1) r
def CL:∀(k:Nat)(a:List α),(M9 k a).length=a.length
 |_,[]=>rfl
 |k,x::r=>by show (M9 (k+1) r).length+1=r.length+1;rw[CL (k+1) r]
def LJ:∀(k:Nat)(a:List α)(i:Nat),(M9 k a)[i]?=(a[i]?).map λx=>(((k+i:Nat):Int),x)
 |_,[],_=>by simp[M9]
 |k,x::r,0=>by simp[M9]
 |k,x::r,i+1=>by
  show (((k:Int),x)::M9 (k+1) r)[i+1]?=_;rw[rF,rF,LJ (k+1) r i];congr 1
  funext y
  rw[show k+1+i=k+(i+1) by lia]
def DH{K:f9}{xs:List α}{vs:List V}:XI (Ite K a) (M9 0 xs) (λR H=>H a=↑(.lst vs)/\Paired (rp R H) xs vs) where
 go:=λ{R H i} p h=>by rw[CL]at h;obtain⟨v,e,_⟩:=wl (i:=i) (x:=xs[i]) p.2 (by simp[h]);exact#[vs,v,vF.of p.1,e]
 Hk:=λ{R H i v H'} p wy hi y=>by rw[CL]at hi;obtain⟨q,w,e,hq,e',y⟩:=y;subst e e';have y':=y vs<|vF.of p.1;obtain⟨u,e,r⟩:=wl (i:=i) (x:=xs[i]) p.2 (by simp[hi]);rw[y']at e;cases e;have ex:Ext R R H R (upd H q<|.tup [.int i,w]):=⟨λb o _ z=>by rw[uh<|uu z hq];exact z,λ_ z=>.inl z⟩;refine#[.inr #[q,_,hq,rfl],((i:Int),xs[i]),?_,q,.int i,w,rfl,λz=>wy q z hq,uk,rfl,Rep.st r ex];rw[LJ,iU hi,sd];rfl
 stop:=λ{R H} p=>#[vs,vF.of p.1,by rw[CL,Paired.length p.2];exact gg _]
def Tr{i:List hW}{B}{w:Wf D (List α) D}(C:Gl X "enumerate")(G:X.mg "enumerate"=none)(h:EW X E T e w)(I:gf [e] X.env=(false,eval e X.env)::gf [] X.env:=by rfl)(j:gf [e] X.env=[(false,eval e X.env)]:=by rfl) :
  IW X E T is (.Tuple i B tp) (.Call (.Name "enumerate" p) [e] [] pos) (λ(b:D) (_:List (Int×α))=>b) (λ(d:D) o u=>w d (λf k=>o (M9 0 f) k) u):=by
 refine e1a2 h λt J L=>?_;refine#[_,Tq C G (ur J uA I) j,λd F R M H o u Rk s N O P=>L d F R M H _ _ _ s N (λf k v l Q S q c x r=>?_) P];obtain⟨a,m,rfl,U,y,W⟩:=r;refine#[a,rfl,#[m,vF.of y],O (M9 0 f) k _ (λR H=>(H a=↑(.lst m)/\Paired (rp R H) f m)/\¬R a) l (λ_=>False) l Q S q c x.FT (two_nil l) x.rel #[λp=>DH.go p.1,λp=>DH.Hk p.1,λp=>DH.stop p.1] #[#[y,W],U] (λp A nf n=>?_) λb' G2 Y Z aa ab p h g t=>Sls.fq h<|two_eq t λ_ z=>z];have na:¬_:=λz=>p.2<|A a z;exact#[#[n.keep a _ na p.1.1,vz (n.wide A) p.1.2],n.not p.2 p.1.1]
end
def Ge(C:cr):Sp:=λf H Q E=>∃p e,f=[.ref p]/\H p=↑(.ins C e []) /\
 ∀c d a,H c=none->H d=none->c≠d->a p=↑(.ins C e<|xL c d 0 0 0 false)->a c=↑(.dK [])->a d=↑(.dK [])->(∀b o,b≠p->H b=↑o->a b=↑o)->Q .vT a
def Tt{m:gR}{k:Nat}(F:yk K "__init__" i m f D)(S:uq ["self"] ["self"] (ug m))(g:Ah K C)
 (j:∀(d:ci)(A:iW)(a:List Env)(s:gn)(H:Hp)(E:XK),Em (ve (uW P w) P w K G base ["self"] i (ug m) f d A a s H E) (uM m)<|IU (MB K (uR 0) C8 "ranks")<|IU (MB K (uR 0) C8 "borders")<|MB K (uR 0) (tC<|.int 0) "upcoming") :
    uO P w K G base (uW P w) (k+1) f D ["self"] (Ge C):=by
  obtain⟨T,U,W,I,X,Y,d,J,L,rfl,lk,t⟩:=F.ex
  refine HE lk t S (λM H Q E N=>e2a2 N λp l e _=>by rw[e];rfl) λO a s H M Q E Z u=>#[_,j d O a s H E,?_]
  obtain⟨p,l,rfl,B,k⟩:=u
  intro h v
  have n:p≠h:=uu B v
  have R:upd H h (.dK []) p=↑(.ins C l []):=by rw[uh n];exact B
  refine#[_,rfl,p,C,l,[],rfl,R,g.cl,g.nR,q0q,?_]
  intro q c
  have r:p≠q:=λz=>by rw[<- z,uk]at c;cases c
  rw[uh r.symm]at c
  have x:q≠h:=λz=>by rw[z,uk]at c;cases c
  rw[uh x]at c
  refine#[_,rfl,p,C,l,[("ranks",.ref h)],rfl,?_,g.cl,g.nB,(by show 1<1000;decide),?_]
  · rw[uh r, uk]
    rfl
  refine#[_,rfl,p,C,l,[("ranks",.ref h),("borders",.ref q)],rfl,?_,g.cl,g.nU,(by show 2<1000;decide),?_]
  · rw[uk]
    rfl
  refine k h q _ v c x.symm ?_ ?_ ?_ λb o y j=>?_
  · rw[uk]
    rfl
  · rw[uh n.symm, uh n.symm, uh x.symm, uh n.symm, uk]
  · rw[uh r.symm, uh r.symm, uk]
  · rw[uh y, uh y, uh<|uu j c, uh y, uh<|uu j v]
    exact j
structure Mf(K:f9)(C:cr)(m qual:Str)(st:gR)(ps:List Str)(f:cr)(fd:hO):Prop where
 fn:yk K m qual st f fd
 me:Meth K C m f
 bd:Binds K fd ps []
structure Xc(K:f9)(mg:Str->Option ci)(x:Str)(C:cr):Prop where
 ex:∃(Cw:List ci)(B newId xn:String),mg x=↑(.ref C)/\iL K C Cw newId=true/\jK B newId xn Cw
 g0:∀H',GX.g C none H'
def BL{k:Nat}(r:vI k A):A.units+1<jS:=i8 (Nat.add_le_add_left q0q _) r.units
noncomputable def a1j(s:gR):List gR:=match s with
 | .ClassDef _ _ _ body _ _ _ _ _ _ _=>body
 |_=>[]
noncomputable def Bu(s:gR)(i:Nat):gR:=(a1j s).getD i<|.Pass #[0,0,0,0]
section
variable{D D' PO τ:Type}[Sls D][Sls D'][Sls PO][Ow τ]
def Ao{k:Nat}[J:Pj D PO n](r:Gl (ve (uW P w) P w K e base N c a f g A b s H E) x)(h:Xc K e x C)(l:(x==("__debug__":Str))=false:=by decide)
 (q:gf [.Constant (.str m) k mp] (ve (uW P w) P w K e base N c a f g A b s H E).env=(false,eval (.Constant (.str m) k mp) (ve (uW P w) P w K e base N c a f g A b s H E).env)::gf [] (ve (uW P w) P w K e base N c a f g A b s H E).env:=by rfl)
 (o:(iN i<|gf [] (ve (uW P w) P w K e base N c a f g A b s H E).env).any (·.1)=false:=by rfl) :
    S1 (ve (uW P w) P w K e base N c a f g A b s H E) E T z n (.Raise (some<|.Call (.Name x np) [.Constant (.str m) k mp] [] i) none pos) (λ(d:D)(_:D'->Prop)(_:τ->PO->Prop) t=>t C<|J.pj d):=by
  obtain⟨u,B,p,j,v,O,y⟩:=h.ex
  exact DB<|Dl r v O y h.g0 (ur Fx uA q) l q o
end
section
variable{D:Type}[Sls D]
def PJ{i:Int}(b:Gl X x)(c:X.mg x=↑(.int i t))(e:(x==("__debug__":Str))=false:=by decide):EW X E T (.Name x pos) (λ(d:D)(a:Int->D->Prop) _=>a i d) :=
 #[_,RQ (v:=.int i) b c #[t,rfl] e,λd F R h H a j Q s f g _=>g i d _ F R H f (Ch.refl _ _ _ _) s rfl]
end
noncomputable def Sf(f:Int->List Int)(x:Int):List Int->Bool
 | []=>false
 |c::l=>xor (decide<|x∈f c)<|Sf f x l
def Gg{x:Int}{a:List Int}(p:a.Perm b):Sf f x a=Sf f x b:=by
 induction p with
 |nil=>rfl
 |cons c _ e=>show xor _ _=xor _ _;rw[e]
 |swap c d l=>show xor _ (xor _ _)=xor _ (xor _ _);rw[<- lQ,<- lQ,Bool.xor_comm<|decide<|x∈f d]
 |trans _ _ g h=>exact g.trans h
def WO{x k:Int}(h:v8 l):Sf f x (JN l k)=xor (decide<|x∈f k) (Sf f x l):=by
 by_cases q:k∈l
 ·have e:JN l k=JL k l:=ga q
  have p:l.Perm (k::JL k l):=by
   refine vC (ut h) (List.nodup_cons.mpr #[λz=>(zr.mp z).2 rfl,ut<|iF _ h]) λy=>?_;rw[gO,zr];by_cases z:y=k
   ·rw[z];simp[q]
   ·simp[z]
  rw[e,Gg p];show _=xor _ (xor _ _);rw[<- lQ,Bool.xor_self,oS]
 ·have e:JN l k=Ez k l:=gc q
  have p:(Ez k l).Perm (k::l):=by refine vC (ut<|CH h) (List.nodup_cons.mpr ⟨q,ut h⟩) λy=>?_;rw[gO,A9]
  rw[e,Gg p];rfl
def PL{x:Int}:∀{b a:List Int},v8 a->Sf f x (xr a b)=xor (Sf f x a) (Sf f x b)
 | [],a,_=>by show Sf f x a=xor _ false;rw[mW]
 |k::b,a,h=>by show Sf f x (xr (JN a k) b)=xor (Sf f x a) (xor (decide<|x∈f k)<|Sf f x b);rw[PL<|LH h,WO h,<- lQ,Bool.xor_comm<|Sf f x a]
def PM{x:Int}:∀{l:List Int} {a:List Int},(∀c∈l,(f c).Nodup)->decide (x∈(l.map f).foldl xr a)=xor (decide<|x∈a) (Sf f x l):=by
 intro d
 induction d with
 |nil=>intro a _;show decide (x∈a)=xor _ false;rw[mW]
 |cons c l b =>
  intro a h;show decide (x∈(l.map f).foldl xr (xr a<|f c))=xor _ (xor _ _);rw[b<|λy g=>h y<|gl _ g,<- lQ];congr 1;have e:=yg (l:=a) (x:=x)<|h c gh;by_cases p:x∈a<;>by_cases q:x∈f c<;>simp[p,q,e]
noncomputable def uI(f:Int->List Int)(l:List Int):List Int:=NP<|l.map f
def wE{x:Int}(h:∀c∈l,(f c).Nodup):decide (x∈uI f l)=Sf f x l:=by unfold uI NP;rw[PM h];rw[gH q0o,oS]
def vk(f:Int->List Int)(l:List Int):v8 (uI f l):=Tg _
def zu(c:v8 a)(d:v8 b)(h:∀x,decide (x∈a)=decide (x∈b)):a=b:=CJ c d λk=>by have:=h k;by_cases p:k∈a<;>by_cases q:k∈b<;>simp[p,q]at this ⊢
def yx{x:Int}(h:∀c∈l,(f c).Nodup)(a:x∈uI f l):∃c∈l,x∈f c:=by
 have e:=wE (x:=x) h;rw[decide_eq_true a]at e;clear a
 induction l with
 |nil=>cases e
 |cons c l b =>
  by_cases q:x∈f c
  ·exact#[c,gh,q]
  ·have e:true=xor (decide<|x∈f c) (Sf f x l):=e;rw[gH q,oS]at e;obtain⟨d,g,i⟩:=b (λy j=>h y<|gl _ j) e;exact#[d,gl _ g,i]
def zZ(h:v8 a)(i:v8 b)(d:∀c∈a,(f c).Nodup)(g:∀c∈b,(f c).Nodup):uI f (xr a b)=xr (uI f a) (uI f b) :=
 zu (vk _ _) (wD<|vk _ _) λx=>by rw[wE λc j=>(F9 (ut i) j).elim (d c)<|g c,PL h,<- wE d,<- wE g];have e:=yg (l:=uI f a) (x:=x)<|ut<|vk f b;by_cases p:x∈uI f a<;>by_cases q:x∈uI f b<;>simp[p,q,e]
def LK{x:Int}:∀{l a:List Int},v8 a->(∀c∈l,v8 (f c)/\Sf f x (f c)=false)->Sf f x ((l.map f).foldl xr a)=Sf f x a
 | [],_,_,_=>rfl
 |c::l,a,b,h=>by show Sf f x ((l.map f).foldl xr<|xr a<|f c)=_;rw[LK (wD b) λy d=>h y<|gl _ d,PL b,(h c gh).2,mW]
def Fa(h:∀c∈l,v8 (f c)/\(∀d∈f c,(f d).Nodup)/\uI f (f c)=[]):uI f (uI f l)=[] :=
 zu (vk _ _) gU λx=>by
  rw[wE,gH q0o]
  ·exact LK (x:=x) (l:=l) gU λc a=>#[(h c a).1,by rw[<- wE (h c a).2.1,(h c a).2.2];rfl]
  ·intro d b;obtain⟨c,a,b⟩:=yx (λc a=>ut (h c a).1) b;exact(h c a).2.1 d b
def vE(h:∀c∈l,f c=g c):uI f l=uI g l:=by unfold uI;rw[mC h]
structure Y4(K:f9) where
def PN(K:f9)(R:Rg)(H:Hp)(a:cr)(c:List Int):Prop :=
 (¬R a/\Rd H a (.lst<|c.map V.int))\/∃(o:pX)(b:Array ci)(n:Nat),K.lookup a=↑o/\o.cls=.type "list"/\o.dict=none/\o.data=.seq b n/\b.size<=gk/\Vals (c.map V.int) b.toList
def PN.sq{K:f9}(h:PN K R H a b):vF K H a (b.map V.int):=h.elim (λz=>.inl z.2) .inr
instance(K:f9):Rep (Y4 K):=#[λR H _ v=>∃a ns,v=.ref a/\PN K R H a ns,λ{R H R' H' x v} h e=>by
 refine e2a2 h λa ns h1 h2=>?_;refine#[a,ns,h1,?_];rcases h2 with⟨n,r⟩|r
 ·rcases r with r|⟨o,r⟩
  ·exact .inl #[e.not n r,.inl<|e.keep a _ n r]
  ·exact .inl #[e.not n r,.inr #[o,e.keep a _ n r]]
 ·exact .inr r]
def Vn(K:f9):Sp:=λd H Q _=>∃(a:cr)(e:List Int),d=[.ref a]/\vF K H a (e.map V.int)/\∀b g q c s,Cu H b->Ce b g q c 0 0 s->H g=none->H q=none->Q (.ref g) b
def PP(K:f9):Wf (Y4 K×Unit) Bg (Un×Unit):=λ_ a _=>a #[] (#[],())
def Vo(K:f9):Wf (Y4 K×Unit) Bool (Un×Unit):=λ_ a _=>a true (#[],())
def Y5(F:uO P w K y base Oz k f A C (Vn K)):uO P w K y base (uW P w) k f A C (xR T<|PP K) :=
 (Vl F).imp λD H Q E G=>e5a4 G λF R p Kn Ke s I J _=>by
  obtain⟨v,L,F1,F2,d,h2,⟨n1,u,e,a,M,N,O⟩,S⟩:=s.rel;subst e N
  match D,d with
  | [],d=>cases d
  |x::r,d =>
   injection d with U W;cases U
   have X:r=[]:=by have:=S.1;rw[<- W]at this;exact List.map_eq_nil_iff.mp this
   subst X;refine#[a,M,rfl,O.sq,λn g q j Y i B l m=>?_];have Z:Ext (λ_=>False) R H (λc=>R c\/c=g\/c=q) n:=#[λb o _ h=>i b o h,λc h=>h.elim .inl λz=>.inr<|z.elim (λz=>by rw[z];exact l) λz=>by rw[z];exact m];refine J #[] (#[],()) (.ref g) (λc=>c=g\/c=q) (λ_=>False) (λc=>R c\/c=g\/c=q) n I #[λb o _ _ h=>i b o h,Z.new,λc h=>h.elim (λz=>.inr<|z.elim (λz=>by rw[z];exact l) λz=>by rw[z];exact m) λz=>z.elim,λc h _=>.inl h] #[#[some<|.ref a,[],λ_=>False,λ_=>False,rfl,#[λ_=>#[λz=>z.elim,λz=>z.elim id id],λ_ z _=>z],λ_ z=>z,rfl,λ_ z=>z],λ_ z=>z.elim,λc h=>?_,?_,.inl s.u4,λz=>z] #[#[g,q,j,0,0,Y,rfl,λ_=>Iff.rfl,B],λc h=>.inr h,λ_ _ z=>z,λz=>?_]
   ·rcases h with h|h|h
    ·cases e:H c with
     |none=>exact gA e<|s.wy c h
     |some o=>rw[i c o e];simp
    ·rw[h,B.ob];simp
    ·rw[h,B.sc];simp
   ·refine e1a2 s.tab λqs e t=>?_;exact#[qs,i _ _ e,t]
   ·have:=yu s.tab;rcases z with z|z
    ·rw[z]at this;exact this l
    ·rw[z]at this;exact this m
def LL(K:f9)(b:cr):Sp:=λc H Q _=>∃(a:cr)(d:List Int),c=[.ref a]/\vF K H a (d.map V.int)/\TabAt H b/\∀e,Q (.bl true) e
def Y6(F:uO P w K g base (uW P w) k f i j (xR T<|Vo K)):uO P w K g base (uW P w) k f i j (LL K T) :=
 F.imp λB H Q E l=>e2a4 l λa m e p b s=>by
  subst e;refine#[λ_=>False,λc=>c=T,(#[],()),λx _=>x=true,λ_ _=>False,#[#[some<|.ref a,[],λ_=>False,λ_=>False,rfl,#[λ_=>#[λz=>z.elim,λz=>z.elim id id],λ_ z _=>z],#[λ_ z=>z,_,rfl,a,m,rfl,?_],rfl,λ_ z=>z],λ_ z=>z.elim,λc h=>by rw[h];exact yu b,b,rfl,λz=>z],rfl,λx t v D G A d q c I n=>?_,λC y t J A d q=>q.elim]
  ·rcases p with r|r
   ·refine .inl #[λz=>?_,r];refine e1a2 b λL e _=>?_;rcases r with r|⟨o,r⟩
    ·rw[z,e]at r;cases r
    ·rw[z,e]at r;cases r
   ·exact .inr r
  ·obtain⟨_,u,e,r⟩:=n.is;cases e;rw[r,q];exact s d
def Y7(F:uO P w K d base (uW P w) k f g i c)(h:∀b H Q E,c b H Q E->c b H Q XF):uO P w K d base Oz k f g i c :=
 #[F.len,λA a s H args j b Q E l m n o p=>jp (F.run A a s H args j b Q XF l m n o (h _ _ _ _ p)) λr t z=>by
  cases r with
  |error e =>
   obtain⟨_,_,_,_,_,z⟩:=z;exact z.elim
  |ok q =>
   cases q with
   |ret u=>exact z
   |next=>exact gX z
   |brk=>exact gX z
   |cont=>exact gX z]
structure Fk(P:gV)(w:ii)(K:f9)(mg:Str->Option ci)(base:hX)(T:cr)(x:Str)(ps:List Str){A PO τ:Type}[Sls A][Sls PO][Ow τ](wf:Wf A τ PO)(k:Nat) where
 f:cr
 fd:hO
 ok:uO P w K mg base (uW P w) k f fd ps (xR T wf)
 at_:mg x=↑(.ref f)
 kp:iI K (.ref f)=true
 bd:Binds K fd ps []
structure Fm(P:gV)(w:ii)(K:f9)(mg:Str->Option ci)(base:hX)(T C:cr)(m:Str)(ps:List Str){A PO τ:Type}[Sls A][Sls PO][Ow τ](wf:Wf A τ PO)(k:Nat) where
 f:cr
 fd:hO
 ok:uO P w K mg base (uW P w) k f fd ps (xR T wf)
 me:Meth K C m f
 bd:Binds K fd ps []
section
variable{P:gV}{w:ii}{K:f9}{mg:Str->Option ci}{base:hX}{T C f:cr}{fd:hO}{x:Str}{ps:List Str}{A PO τ:Type}[Sls A][Sls PO][Ow τ]{wf:Wf A τ PO}{j k:Nat}
noncomputable def Fk.up(h:Fk P w K mg base T x ps wf j)(l:j<=k:=by decide):Fk P w K mg base T x ps wf k:=#[h.f,h.fd,h.ok.mono l,h.at_,h.kp,h.bd]
noncomputable def Fm.up(h:Fm P w K mg base T C x ps wf j)(l:j<=k:=by decide):Fm P w K mg base T C x ps wf k:=#[h.f,h.fd,h.ok.mono l,h.me,h.bd]
end
section
variable{D:Type}[Sls D]
def uB{P c B g i:Type}[Sls P][Sls c][Sls B][Sls g][Ow i][Lb g i c]{a:B->g->c->D}{o:Wf P i c}{q:D->(P->B->g->Prop)->(cr->D->Prop)->Prop}{k:Nat}{s:List Str}{f:List hW}
 (h:Fk X.prog X.w X.K X.mg X.base T x s o k) (t:JI X E T (e::f) a q) (u:vI k X.A:=by assumption) (v:Gl X x:=by exact rfl) (y:Passes (uW X.prog X.w) X E:=by exact Dk) (j:(x==("__debug__":Str))=false:=by decide) (z:gf (e::f) X.env=(false,eval e X.env)::gf f X.env:=by rfl) (m:(iN pos<|gf f X.env).any (·.1)=false:=by rfl) :
    EO X E T (.Call (.Name x p) (e::f) [] pos) (λ(d:D)(F:i->D->Prop) r=>q d (λp b l=>o p (λx n=>F x<|a b l n)<|λC n=>r C<|a b l n) r):=A4 h.ok u v h.at_ h.kp h.bd y t j z m
variable{τ:Type}[Ow τ]
def vr{g:List hW}(i:Nat){z P o B s r:Type}[Sls z][Sls P][Sls o][Sls B][Sls s][Sls r][Lb r τ<|Bd C j×o]{n:B->r->o->D}{F:D->(P->B->r->Prop)->(cr->D->Prop)->Prop}
 {G:Wf (Bd C j×P) τ (Bd C j×o)} [Z:At i D (Bd C j) z] [A:At i B (Bd C j) s] [U:Pt i s (Bd C j) B] {k:Nat} {M:List Str} {N:Sem Bool}
 (h:Fm X.prog X.w X.K X.mg X.base T C m M G k) (O:JI X E T (e::g) n F) (hr:vI k X.A:=by assumption) (H:Ae X.K C:=by exact Ah.cl<|by assumption) (hx:Passes (uW X.prog X.w) X E:=by exact Dk) (I:PE X (.Name x v) (uR i):=by exact pv _) (Q:∀a b c d u,(xL a b c d u j).lookup m=none:=by intros;rfl)
 (R:gf (e::g) X.env=(false,eval e X.env)::gf g X.env:=by rfl) (S:(iN pos<|gf g X.env).any (·.1)=false:=by rfl)
 (W:eval (.Call (.Attribute (.Name x v) m apos) (e::g) [] pos) X.env=(do
 let J <- eval (.Name x v) X.env
 md apos.atName
 let (f,first) <- jY [J] (lV J m N)
 mH pos f first (iN pos (gf (e::g) X.env)) (mf pos (jZ [] X.env))):=by rfl) :
    EO X E T (.Call (.Attribute (.Name x v) m apos) (e::g) [] pos) (λ(d:D)(Y:τ->D->Prop) L=>F d (λp b l=>G (A.get b,p) (λy q=>Y y<|n (U.put (A.hole b) q.1) l q.2)<|λC q=>L C<|n (U.put (A.hole b) q.1) l q.2) L) :=
  PD i h.ok hr H h.me h.bd hx I Q (λt=>R6 I H h.me h.ok hr h.bd .nil hx t R S W) O
def Ie(i:Nat){g:Type}[Sls g]{n:Wf (Bd C e×Unit) τ (Bd C e×Unit)}[A:At i D (Bd C e) g][U:Pt i g (Bd C e) D]{k:Nat}{t:List Str}{v:Sem Bool}
 (h:Fm X.prog X.w X.K X.mg X.base T C m t n k) (o:vI k X.A:=by assumption) (p:Ae X.K C:=by exact Ah.cl<|by assumption) (q:Passes (uW X.prog X.w) X E:=by exact Dk) (r:PE X (.Name x j) (uR i):=by exact pv _) (z:∀a b c d u,(xL a b c d u e).lookup m=none:=by intros;rfl)
 (B:eval (.Call (.Attribute (.Name x j) m apos) [] [] pos) X.env=(do
 let s <- eval (.Name x j) X.env
 md apos.atName
 let (f,first) <- jY [s] (lV s m v)
 mH pos f first (iN pos (gf [] X.env)) (mf pos (jZ [] X.env))):=by rfl) :
    EO X E T (.Call (.Attribute (.Name x j) m apos) [] [] pos) (λ(d:D)(F:τ->D->Prop) G=>n (A.get d,()) (λy l=>F y<|U.put (A.hole d) l.1)<|λC l=>G C<|U.put (A.hole d) l.1) :=
  PF i h.ok o p h.me h.bd q r z (Ob r p h.me h.ok o h.bd .nil q B)
end
end WL
namespace WL
open PySem L2
open Rep (rp)
open Ow (sl)
open Sls (rel)
section
structure Dq(K:f9)(x:Str)(st:gR):Prop where
 ex:∃f fd,gE K gC x=↑(some<|.ref f)/\yk K x x st f fd
structure Mq(K:f9)(C:cr)(m q:Str)(st:gR):Prop where
 ex:∃f fd,Meth K C m f/\yk K m q st f fd
def Y8{b:gR}{e:ci}(a:gE K gC x=↑(some<|.ref f))(l:K.lookup f=some #[i,j,.func<|i7 x x (vm b) (uM b) (ug b) .none e g pm m d n,h])
 (c:iR K d x=true)(k:iI K (.ref f)=true):Dq K x b:=#[_,_,a,Dd l c k]
def Y9{b:gR}{e:ci}(a:gQ K (.ref C) x=↑(some<|.ref f))(i:nI K (.ref f)=true)(l:K.lookup f=some #[j,m,.func<|i7 x q (vm b) (uM b) (ug b) .none e g pm n d o,h])
 (c:iR K d q=true)(k:iI K (.ref f)=true):Mq K C x q b:=#[_,_,#[a,i,k],Dd l c k]
noncomputable def Dq.f{x:Str}{a:gR}(q:Dq K x a):cr:=q.ex.choose
noncomputable def Dq.d{x:Str}{a:gR}(q:Dq K x a):hO:=q.ex.choose_spec.choose
noncomputable def Mq.f{x q:Str}{a:gR}(m:Mq K C x q a):cr:=m.ex.choose
noncomputable def Mq.d{x q:Str}{a:gR}(m:Mq K C x q a):hO:=m.ex.choose_spec.choose
def Dq.fn{a:gR}(q:Dq K x a)(X:K.In h)(G:h.Ns gC j)(c:List Str)
 (b:∀(k e l:ci)(m:Option cr)(g n:ci)(i:List ci),i.length=c.length->rW (i7 x x (vm a) (uM a) (ug a) .none k e l m g n) #[i,[]]=pure (c.zip i)):Fn K j x a c q.f q.d :=
  have h:=q.ex.choose_spec.choose_spec;#[h.2,ic X G h.1,h.2.binds b]
def Mq.fn{a:gR}(m:Mq K C x q a)(c:List Str)
 (b:∀(j e k:ci)(l:Option cr)(g n:ci)(i:List ci),i.length=c.length->rW (i7 x q (vm a) (uM a) (ug a) .none j e k l g n) #[i,[]]=pure (c.zip i)):Mf K C x q a c m.f m.d :=
  have h:=m.ex.choose_spec.choose_spec;#[h.2,h.1,h.2.binds b]
variable[L2.GX]
noncomputable def Fn.fk{x:Str}{h:gR}{a:List Str}{f:cr}{b:hO}{A c d:Type}[Sls A][Sls c][Ow d]{e:Wf A d c}{k:Nat}(N:Fn K g x h a f b)(o:uO P w K g base (uW P w) k f b a (xR T e)):Fk P w K g base T x a e k:=#[f,b,o,N.at_,N.fn.kp,N.bd]
noncomputable def Mf.fm{x q:Str}{g:gR}{a:List Str}{f:cr}{b:hO}{A c d:Type}[Sls A][Sls c][Ow d]{e:Wf A d c}{k:Nat}(N:Mf K C x q g a f b)(o:uO P w K h base (uW P w) k f b a (xR T e)):Fm P w K h base T C x a e k:=#[f,b,o,N.me,N.bd]
end
variable[L2.GX]
def Tu{X:Cx}{E:XK}{T:cr}{f:List Nat}{n:Nat}{D g PO j:Type}[Sls D][Sls g][Sls PO][Ow j]{a:List gR}{w w':D->(g->Prop)->(j->PO->Prop)->(cr->PO->Prop)->Prop}(h:SW X E T f n a w)(i:∀d b c e,w' d b c e->w d b c e):SW X E T f n a w' :=
 let ⟨t,k,l⟩:=h
 #[t,k,λd F R m H b c e o s p=>l d F R m H b c e o s<|i d b c e p]
end WL
namespace WL
open PySem L2
open Rep (rp)
open Ow (sl)
open Sls (rel)
structure Cq where
 P:gV
 w:ii
 K:f9
 mg:Str->Option ci
 base:hX
 T:cr
structure Bz(K:f9):Prop where
 all:gE K gC "all"=↑none
 zip:gE K gC "zip"=↑none
 set:gE K gC "set"=↑none
 sorted:gE K gC "sorted"=↑none
 len:gE K gC "len"=↑none
 list:gE K gC "list"=↑none
 isinstance:gE K gC "isinstance"=↑none
 int:gE K gC "int"=↑none
 bool:gE K gC "bool"=↑none
 range:gE K gC "range"=↑none
 enumerate:gE K gC "enumerate"=↑none
 tuple:gE K gC "tuple"=↑none
 min:gE K gC "min"=↑none
 max:gE K gC "max"=↑none
 str:gE K gC "str"=↑none
structure Bn(mg:Str->Option ci):Prop where
 all:mg "all"=none
 zip:mg "zip"=none
 set:mg "set"=none
 sorted:mg "sorted"=none
 len:mg "len"=none
 list:mg "list"=none
 isinstance:mg "isinstance"=none
 int:mg "int"=none
 bool:mg "bool"=none
 range:mg "range"=none
 enumerate:mg "enumerate"=none
 tuple:mg "tuple"=none
 min:mg "min"=none
 max:mg "max"=none
 str:mg "str"=none
def Bz.bn{K:f9}(X:K.In h)(G:h.Ns gC a)(z:Bz K):Bn a :=
 let f:=λ{x:Str} (e:gE K gC x=some none)=>sv X G e
 #[f z.all,f z.zip,f z.set,f z.sorted,f z.len,f z.list,f z.isinstance,f z.int,f z.bool,f z.range,f z.enumerate,f z.tuple,f z.min,f z.max,f z.str]
variable[L2.GX]
abbrev wu(q:Cq)(x:Str)(c:List Str){A a b:Type}[Sls A][Sls a][Ow b](d:Wf A b a)(k:Nat):=Fk q.P q.w q.K q.mg q.base q.T x c d k
abbrev yZ(q:Cq)(C:cr)(x:Str)(c:List Str){A a b:Type}[Sls A][Sls a][Ow b](d:Wf A b a)(k:Nat):=Fm q.P q.w q.K q.mg q.base q.T C x c d k
abbrev Gq(q:Cq)(k:Nat)(f:cr)(c:hO)(d:List Str){A a b:Type}[Sls A][Sls a][Ow b](e:Wf A b a):Prop:=uO q.P q.w q.K q.mg q.base (uW q.P q.w) k f c d<|xR q.T e
abbrev Cf(q:Cq)(x:Str)(a:gR)(f:cr)(b:hO):Prop:=yk q.K x x a f b
@[reducible] def wSq{D c e a b:Type}(h:D->(e->Prop)->(b->a->Prop)->(cr->a->Prop)->Prop)(i:e->(c->Prop)->(b->a->Prop)->(cr->a->Prop)->Prop):D->(c->Prop)->(b->a->Prop)->(cr->a->Prop)->Prop:=λd j f g=>h d (λk=>i k j f g) f g
def ux{c:List Nat}{n:Nat}{D h d b e:Type}[Sls D][Sls h][Sls d][Sls b][Ow e]{i:gR}{a:List gR}{f:D->(d->Prop)->(e->b->Prop)->(cr->b->Prop)->Prop}{g:d->(h->Prop)->(e->b->Prop)->(cr->b->Prop)->Prop}(j:S1 X E T c n i f)(k:SW X E T c n a g)(l:RK b c n:=by exact uJ q0q) :
  SW X E T c n (i::a) (wSq f g):=CG (w1:=f) (w2:=g) l j k
end WL
namespace L2
variable[L2.GX]
open PySem PySem.Spec PyProof.Rows
structure PQ(N P:List Str)(sc:k9)(cl:List (Str×cr)):Prop where
 kind:sc.kind=.function
 co:sc.isCoroutine=false
 gen:sc.isGenerator=false
 nd:N.Nodup
 pre:N.take P.length=P
 par:∀x∈P,sc.names.lookup x=some .local
 AC:∀y∈sc.names,y.2≠.cell
 has:∀x,sc.names.lookup x=some .free->∃c,cl.lookup x=↑c
 inj:∀x y c,cl.lookup x=↑c->cl.lookup y=↑c->x=y
noncomputable def JO(CX:Oa)(P:gV)(w:ii)(K:f9)(mg:Str->Option ci)(base:hX)(N:List Str)(qual:Str)(scope:k9)(f:cr)(cd:ci)(cl:List (Str×cr))(A:iW)(outer:List Env)(s:gn)(H:Hp)(E:XK):Cx where
 prog:=P
 w:=w
 K:=K
 mg:=mg
 base:=base
 A:=A.deeper<|ik qual scope ⇑s f cd cl
 N:=N
 s₀:=s
 H₀:=H
 env:=ik qual scope ⇑s f cd cl
 outer:=outer
 stack:=ik qual scope ⇑s f cd cl::outer
 ex:=[]
 calm:=true
 fn:=λ_=>false
 pn:=[]
 xe:=λe s'=>gu (gv P w) (A.deeper<|ik qual scope ⇑s f cd cl) (tK (ik qual scope ⇑s f cd cl) e) (λ_ R7=>CX outer H s E e R7) (λe' R7=>CX outer H s E e' R7) s'
section
variable{P:gV}{w:ii}{K:f9}{mg:Str->Option ci}{base:hX}{N ps:List Str}{qual:Str}{scope:k9}{f:cr}{cd:ci}{cl:List (Str×cr)}{A:iW}{outer:List Env}{s:gn}{H:Hp}{E:XK}
def PR:Passes (uW P w) (JO (uW P w) P w K mg base N qual scope f cd cl A outer s H E) E:=by intro a i j k e l I h;obtain⟨C,x,b,rfl,F,c⟩:=h;exact iw (OT I rfl rfl F) (λ_ d g=>#[C,x,b,rfl,g,c]) λ_ _ z=>z
def PU:∀{l:List (Str×d)},(l.map (·.1)).Nodup->(x,u)∈l->l.lookup x=↑u:=by
 intro l
 induction l with
 |nil=>intro _ h;cases h
 |cons p l b =>
  intro a h;rw[gN,List.nodup_cons]at a;obtain⟨y,v⟩:=p;rcases List.mem_cons.mp h with z|z
  ·cases z;rw[g8,oK]
  ·have c:(x==y)=false:=beq_eq_false_iff_ne.mpr λe=>a.1 (by rw[<- e];exact List.mem_map.mpr #[_,z,rfl]);rw[g8,c];exact b a.2 z
def Ig:∀(ps:List b)(a:List c),((ps.zip a).map (·.1)).Sublist ps
 | [],_=>by simp
 |_::_,[]=>by simp
 |p::ps,u::a=>by rw[List.zip_cons_cons,gN];exact(Ig ps a).cons₂ p
def Tv{ps:List Str}{i:Nat}(b:ps.Nodup)(c:ps[i]?=↑x)(d:a[i]?=↑u):(ps.zip a).reverse.lookup x=↑u:=by
 refine PU ?_ ?_
 ·rw[List.map_reverse];refine List.pairwise_reverse.mpr<|om Ne.symm ?_;exact b.sublist<|Ig ps a
 ·rw[List.mem_reverse];refine List.mem_iff_getElem?.mpr #[i,?_];rw[List.getElem?_zip_eq_some];exact#[c,d]
def JP{j:hX}{D:Nat}{k:List V}(S:PQ N ps scope cl)(C:∀x c,cl.lookup x=↑c->∃v,base.IsCell c v)(F:A.handled=none)(g:HB P w K mg base A outer s H)(R:k.length=ps.length)(r:Vals k G)
 (I:j.Ns ⇑s (λx=>(ps.zip G).reverse.lookup x))(t:∀b o,s.heap.get? b=↑o->j.get? b=↑o):Inv (JO J P w K mg base N qual scope f cd cl A outer s H E) [] (start N k) H { s with heap:=j,toks:=D}:=by
  have L:ps.length<=N.length:=by have:=congrArg ng S.pre;rw[kR]at this;lia
  have l:∀b:cr,b∉(JO J P w K mg base N qual scope f cd cl A outer s H E).ex:=λb z=>gA (show b∈([]:List cr) from z) q0o
  refine#[#[g.mod,S.kind,rfl,rfl,gg _,λy z c j d=>S.inj y z c j d,λy m=>?_,λy c z _=>(by cases z),λ_=>F,rM g.frames,.inr #[rfl,rfl],λb z=>gA z (l b),g.bs,g.Hr,λb _ _=>l b,λb z=>gA z (l b),g.xI,g.IL],
    rfl,g.bare,Un.kept t,#[_,I,λi y v j d T=>?_],λy c h=>?_,g.uV.fresh (gg _),λy c h=>?_,λp n=>gA (show p∈([]:List (cr×Obj)) from n) q0o,g.uV.kept t,?_]
  · have m : scope.names.lookup y = some .cell \/ scope.names.lookup y = some .free := m
    rcases m with m|m
    · exact gA rfl<|S.AC _<|jz m
    · exact S.has y m
  · have q : i<k.length := by
      unfold start at d
      by_cases q:i<k.length
      · exact q
      · rw[jo<|by simpa using q]at d
        rw[rB]at d
        split at d<;>cases d
    have M:k[i]?=↑v:=by
      unfold start at d
      rw[kU (by simpa using q),ja]at d
      cases e:k[i]? with
      |none=>rw[e]at d;cases d
      |some a=>rw[e]at d;cases d;rfl
    refine e1a2 (r.get M) λu O Q=>?_
    have n:ps[i]?=↑y:=by rw[<- S.pre,qX q0a];exact j
    have B:ps.Nodup:=by rw[<- S.pre];exact S.nd.sublist<|tL _ _
    exact#[u,Q,.inl #[S.par y<|jg n,Tv B n O]]
  · obtain⟨v, z⟩ := C y c h
    exact#[v,z.keeps λb o e=>t b o (g.bs b o e).1]
  · refine e2a2 (C y c h) λv o z _ => ?_
    exact(g.bs c o z).2
  · unfold start
    show _=N.length
    rw[gz,gm,rX]
    lia
end
def Z3(X:Cx)(c:List gR)(e:hW)(t:TE):Prop :=
 ∀(a:List (cr×Obj)) (s:gn) (b:St) (H:Hp) (Q:VK),Inv X a b H s->t b H Q->sR (gv X.prog X.w) X.A (.func c X.env) (eval e X.env) (EP X a b Q) X.xe s
def Z4(X:Cx)(c:List gR)(d:gR)(t:TS):Prop :=
 ∀(a:List (cr×Obj)) (s:gn) (b:St) (H:Hp) (D:Ends),Inv X a b H s->t D b H->sR (gv X.prog X.w) X.A (.func c X.env) (exec d X.env) (SP X a D) X.xe s
def PV(X:Cx)(c:List gR)(d:List gR)(t:TS):Prop :=
 ∀(a:List (cr×Obj)) (s:gn) (b:St) (H:Hp) (D:Ends),Inv X a b H s->t D b H->sR (gv X.prog X.w) X.A (.func c X.env) (execs d X.env) (SP X a D) X.xe s
section
variable{fb:List gR}{pos:Pos}
def PX{b:gR}(h:PS X b t):Z4 X fb b t:=λa s c H D I q=>wpAt_of_wpAny<|h a s c H D I q
def CM{b:List gR}(h:Em X b t):PV X fb b t:=λa s c H D I q=>wpAt_of_wpAny<|h a s c H D I q
def xF{e:gR}{a:List gR}(g:Z4 X fb e h)(i:PV X fb a j):PV X fb (e::a) (IU h j):=λb s k H D I q=>by
 refine ks_wpAt_execs_cons<|qE (g b s k H _ I q) (λf l c=>?_) λ_ _ z=>z
 cases f with
 |next=>obtain⟨d,m,J,n⟩:=c;exact i b l d m D J n
 |brk=>exact c
 |cont=>exact c
 |ret u=>exact c
def Tw(h:Z3 X fb e t):Z4 X fb (.Return ↑e pos) (VH t):=λa s b H D I q =>
 ks_wpAt_Return_some (qE (h a s b H _ I q) (λu g c=>e2a3 c λv d J r f=>#[v,b,d,J,r,f]) λ_ _ z=>z)
def DI(h:Z3 X fb e t)(c:js e none pos.line X.env=pure false:=by rfl):Z4 X fb (.Expr e pos) (Hx t):=λa s b H D I q =>
 ks_wpAt_Expr_any (qE (h a s b H _ I q) (λu i d=>e2a3 d λv f J r g=>#[b,f,J,g]) λ_ _ z=>z) I.quiet c
end
structure JQ(P:gV)(K:f9)(C f yB cc:cr)(x0:Str):Prop where
 fn:∃(oc:ci)(od:Option cr)(fd:hO) (ML:Array (Option ci)) (ar:Arg),K.lookup f=some #[oc,od,.func fd,ML]/\(fd.params.posonlyargs++fd.params.args).head?=↑ar/\ar.arg=x0
 code:∃(oc:ci)(od:Option cr)(vs:Array ci) (ML:Array (Option ci)) (file:Str) (tf:Tok),K.lookup yB=some #[oc,od,.fields vs,ML]/\vs[2]?=↑(.str file tf)/\((P.main.file:Str)==file)=true
 cell:∃(oc:ci)(od:Option cr) (ML:Array (Option ci)),K.lookup cc=some #[oc,od,.cell<|some<|.ref C,ML]
 cls:∃cd,lX K C=↑cd
 sub:kf K C (.ref C)=↑true
 opq:gE K qD "thirdparty.any"=↑none
 top:(P.main.scope.names.lookup ("super":Str)).isSome=false
def Za(C:cr)(c:Sp)(E:XK)(t:TA):TE:=λb H Q=>∃a d e,b[0]?=↑(some<|.ref a)/\H a=some (.ins C d e)/\t b H λf g=>c (.ref a::f) g Q E
def PY(K:f9)(h:cr)(c:Pos)(f:List hW)(d:Env):Prop:=∀{M:Model} {B:iW} {Q e:ci->gn->Prop} {g:gn} {q a:cr},
 gu M B (tH<|iN c<|gf f d) (λi b=>qF K q h (.ref a) b.heap/\gu M B (call (.ref q) i) Q e b) e g->gu M B (mH c (.ref q) [] (iN c<|gf f d) []) Q e g
def Na(d e b c:Pos)(m:Str)(f:List hW):Prop:=∀a:Env,∃h:Sem Bool,eval (.Call (.Attribute (.Call (.Name "super" d) [] [] e) m b) f [] c) a=(do
 let g <- g9 (.Call (.Name "super" d) [] [] e) m a (eval (.Call (.Name "super" d) [] [] e) a)
 md b.atName
 let (i,first) <- jY [g] (lV g m h)
 mH c i first (iN c (gf f a)) [])
def cw_nil{K:f9}(b:lG K f2=true):PY K f2 pos [] c:=λ{M B Q e f q a} h=>by refine oM (P:=qF K q f2<|.ref a) rfl (tz b) ?_;refine am<|iw h (λg i d=>?_) λ_ _ x=>x;refine gY ?_;exact am<|ap<|am<|ap<|ap d
def cw_cons{K:f9}(f:lG K f2=true)(g:gf (e::d) b=(false,eval e b)::gf d b:=by rfl)(c:(iN pos<|gf d b).any (·.1)=false:=by rfl):PY K f2 pos (e::d) b:=λ{M B Q i j q a} h=>by rw[g]at h ⊢;exact oM (P:=qF K q f2<|.ref a) (by show ((false||(iN pos<|gf d b).any (·.1))||false)=false;rw[c];rfl) (tz f)<|iZ h
section
variable{P:gV}{w:ii}{K:f9}{mg:Str->Option ci}{base:hX}{N ps:List Str}{qual:Str}{scope:k9}{f yB cc:cr}{A:iW}{outer:List Env}{s:gn}{H:Hp}{E E0:XK}{C f2:cr}{x0 m:Str}{k:Nat}{Zb:hO}{sp:Sp}{fb:List gR}{p0 p1 apos pos:Pos}{es:List hW}{ta:TA}
set_option tactic.hygienic true in
def Gh(S:JQ P K C f yB cc x0)(ab:N[0]?=↑x0)(M:scope.names.lookup ("super":Str)=some .globalImplicit)(R:scope.names.lookup ("__class__":Str)=some .free)(x:scope.names.lookup x0=some .local)(ae:mg "super"=none)
 (hm:jq K C C m=↑(some<|.ref f2)) (ht:oi K (.ref f2)=↑(.type "function")) (aq:lG K f2=true) (F:uO P w K mg base (uW P w) k f2 Zb ps sp) (T:Binds K Zb ps [])
 (hr:vI k (A.deeper<|ik qual scope ⇑s f (.ref yB) [("__class__",cc)])) (ha:PA (JO (uW P w) P w K mg base N qual scope f (.ref yB) [("__class__",cc)] A outer s H E) es ta)
 (af:PY K f2 pos es (ik qual scope ⇑s f (.ref yB) [("__class__",cc)])) (y:Na p0 p1 apos pos m es) (U:(m==("__class__":Str))=false:=by decide) :
    Z3 (JO (uW P w) P w K mg base N qual scope f (.ref yB) [("__class__",cc)] A outer s H E) fb (.Call (.Attribute (.Call (.Name "super" p0) [] [] p1) m apos) es [] pos) (Za C sp E ta):=by
  intro l i σ H1 Q I h
  obtain⟨a,dx,fs,h0,ea,h⟩:=h
  have X:=I.xT
  obtain⟨oc,od,fd,au,ar,lf,hp,rfl⟩:=S.fn
  obtain⟨av,aw,ax,al,file,tf,lc,ag,B⟩:=S.code
  obtain⟨an,ao,aa,D⟩:=S.cell
  obtain⟨cd,j⟩:=S.cls
  obtain⟨mA,O,_,_,_,_⟩:=AK I.uV ea
  refine e1a2 I.loc λmL hn hl=>?_
  refine e1a2 (hl 0 ar.arg (.ref a) ab h0<|.inl x) λu ru lk=>?_
  obtain rfl:u=gF a:=ru
  have ah:mL ar.arg=↑(.ref a):=by
    rcases lk with⟨_,q⟩|⟨q,_⟩
    · exact q
    · have q : scope.names.lookup ar.arg = some .cell \/ scope.names.lookup ar.arg = some .free := q
      rw[x]at q
      rcases q with q|q<;>cases q
  obtain⟨oD,G,J⟩:∃oD,i.heap.get? C=some oD/\oD.data=.cls cd:=by
    unfold lX at j
    split at j
    · rename_i c d ay sl ho
      cases j
      exact#[_,X _ _ ho,rfl]
    · cases j
  refine e1a2 I.mod.blt λmb ai aj=>?_
  have ne:a≠C:=λz=>by
    have:=O.obj
    rw[z,G]at this
    cases this
    cases J
  obtain⟨pl,y⟩:=y<|ik qual scope ⇑s f (.ref yB) [("__class__",cc)]
  refine ks_wpAt_MethodCall (pl:=pl) (ks_wpAt_super_base (env:=ik qual scope ⇑s f (.ref yB) [("__class__",cc)]) M R U rfl (X _ _ lf) rfl hp rfl (X _ _ lc) rfl ag B S.top ?_) y
  refine qm I.ok.kind M<|m9 (env:=ik qual scope ⇑s f (.ref yB) [("__class__",cc)]) (I.mod.glob.keeps I.bk) ae (ai.keeps I.bk) ((aj _ q0s).trans rfl) #[rfl,?_]
  refine pQ I.ok.kind R rfl #[_,X _ _ D,rfl] ?_
  refine jX I.ok.kind x hn ah ?_
  refine ks_wpAny_isType_cls (h:=i.heap) (g:=i.gens) (d:=i.drawn) (t:=i.toks) (os:=i.os) G J #[rfl,?_]
  refine ks_wpAny_call_super (h:=i.heap) (g:=i.gens) (d:=i.drawn) (t:=i.toks) (os:=i.os) G J O.obj rfl (λc e=>by cases e) (oN X S.sub) λn e k'=>?_
  have L:Inv _ l σ H1 #[n,i.gens,i.drawn,i.toks,i.os]:=I.kept (t':=i.toks) k'
  unfold jq at hm
  rw[j]at hm
  obtain⟨of,ak,Y⟩:∃of,n.get? f2=some of/\of.cls=.type "function":=by
    have p:(K.lookup f2).map (·.cls)=↑(.type "function"):=ht
    cases z:K.lookup f2 with
    |none=>rw[z]at p;cases p
    |some of=>rw[z]at p;exact#[of,L.xT _ _ z,il p]
  refine ks_wpAny_getMethod_super e (rG L.xT S.opq) (l₀:=cd.mro) (λA Q E s k q=>am<|(oE L.xT j) A _ E s k<|ap q) rfl L.xT hm ak Y ne U ?_
  have I2:Inv _ l σ H1 #[n.push { cls:=.type "method",data:=.fields #v[.ref f2,.ref a]},i.gens,i.drawn,i.toks+1,i.os]:=L.kept (t':=i.toks+1) λb o z=>ce _ z
  have fr:H1 n.objs.size=none:=L.uV.fresh<|gg _
  have gq:(n.push { cls:=.type "method",data:=.fields #v[.ref f2,.ref a]}).get? n.objs.size=↑(lA (.ref f2)<|.ref a):=nw rfl rfl
  have I3:=I2.pinned (fp:=[n.objs.size]) (λb T=>by rw[List.mem_singleton.mp T];exact L.Fz (gg _) fr) λb T=>by rw[List.mem_singleton.mp T];exact#[_,gq,λv z=>by cases z]
  refine af (a:=a)<|uT (ha pos _ _ σ H1 _ I3 h) λZ s2 z9=>e2a3 z9 λvs H2 I4 r q2=>?_
  have g2:s2.heap.get? n.objs.size=↑(lA (.ref f2)<|.ref a):=(I4.pin (n.objs.size,lA (.ref f2)<|.ref a)<|gI _<|gI _<|wJ gh gq).1
  refine#[#[g2,I4.xT],?_]
  have I5:=I4.ze
  have r2:Vals (.ref a::vs) (.ref a::Z):=.cons rfl r
  have hl:(gF a::Z).length=ps.length:=by rw[<- r2.length];exact F.len _ _ _ _ q2
  refine lS<|ks_codeAny_call_bound g2<|jp (F.run _ _ s2 H2 ⟨.ref a::Z,[]⟩ (.ref a::Z) (.ref a::vs) Q E hr I5.HC (by simpa using T s2 (.ref a::Z) I5.xT (by simpa using hl)) r2 q2) λr s' hq=>?_
  cases r with
  |error e=>exact PR l σ H2 s2 e s' I5 hq
  |ok fl =>
    cases fl with
    |ret u=>exact I5.after hq
    |next=>exact gX hq
    |brk=>exact gX hq
    |cont=>exact gX hq
def Gi{O:ci}(lk:K.lookup f=some #[oc,od,.func<|jO name qual g a scope i dV O F pm an d ct,aa])(R:iR K d qual=true)
 (S:PQ N ps scope i) (hc:∀x c,i.lookup x=↑c->∃o v,K.lookup c=↑o/\o.data=.cell v) (G:∀j H Q E,sp j H Q E->j.length=ps.length)
 (z:∀(A:iW)(outer:List Env)(s:gn)(H:Hp)(j:List V)(Q:VK)(E:XK),vI k (A.deeper (ik qual scope ⇑s f d i))->sp j H Q E ->
 ∃t,PV (JO (uW P w) P w K mg base N qual scope f d i A outer s H E) a a t/\t { nx:=λ_ p=>Q .vT p,rt:=Q} (start N j) H) :
    uO P w K mg base (uW P w) (k+1) f (jO name qual g a scope i dV O F pm an d ct) ps sp:=by
  refine#[G,λA outer s H args us j Q E T B hb r L=>?_]
  have hl:=G _ _ _ _ L
  have KX:K.In s.heap:=B.mod.AH.keeps λb o e=>(B.bs b o e).1
  have U:s.heap.NoLimit:=B.mod.nolimit.keeps λb o e=>(B.bs b o e).1
  have l:∀x c,i.lookup x=↑c->∃v,base.IsCell c v:=λx c h=>by
    refine e2a2 (hc x c h) λo v q1 q2=>?_
    exact#[v,o,B.mod.AH _ _ q1,q2]
  refine ks_codeAny_call_defAt (fd:=jO name qual g a scope i dV O F pm an d ct) (body:=a) (binds:=ps.zip us) T.depth (KX _ _ lk) rfl U (rY KX R) rfl hb S.AC (λy hy=>S.par y.1 (ol hy).1) (λh1 X Y=>?_) S.co S.gen S.kind
  refine e1a2 (z A outer s H j Q E (T.deeper _) L) λt ht hq=>?_
  have I:Inv (JO (uW P w) P w K mg base N qual scope f d i A outer s H E) [] (start N j) H { s with heap:=h1,toks:=s.toks+(ps.zip us).length}:=JP S l T.hd B hl r X Y
  refine qE (ht [] _ (start N j) H _ I hq) (λfl Z D=>?_) λe Z D=>D
  have M:∀{n:St} {p:Hp} {v:V} {u:ci},Inv (JO (uW P w) P w K mg base N qual scope f d i A outer s H E) [] n p Z->RelV v u->Q v p->CE outer P w H s Q u Z :=
    λ{n p v u} J rv q=>#[v,p,J.os,J.bare,J.base,J.uV,rv,q]
  cases fl with
  |ret u =>
    obtain⟨v,n,p,J,rv,q⟩:=D
    exact M J rv q
  |next =>
    refine e2a2 D λn p J q=>?_
    exact M (v:=V.vT) (u:=Value.none) J rfl q
  |brk =>
    refine e2a2 D λ_ _ _ q=>?_
    exact gX q
  |cont =>
    refine e2a2 D λ_ _ _ q=>?_
    exact gX q
end
end L2
namespace WL
variable[L2.GX]
open PySem L2
open Rep (rp)
open Ow (sl)
open Sls (rel)
structure xM(N P:List Str)(sc:k9):Prop where
 kind:sc.kind=.function
 co:sc.isCoroutine=false
 gen:sc.isGenerator=false
 nd:N.Nodup
 pre:N.take P.length=P
 par:∀x∈P,sc.names.lookup x=some .local
 AC:∀y∈sc.names,y.2≠.cell
 fr:∀y∈sc.names,y.2=.free->y.1="__class__"
 ks:sc.names.lookup ("super":Str)=some .globalImplicit
 kc:sc.names.lookup ("__class__":Str)=some .free
def xM.x{N P:List Str}{sc:k9}(S:xM N P sc)(cc:cr):PQ N P sc [("__class__",cc)] :=
 #[S.kind,S.co,S.gen,S.nd,S.pre,S.par,S.AC,λx h=>#[cc,by have e:x="__class__":=S.fr _ (jz h) rfl;rw[e];rfl],λx y c h1 h2=>by
  have q:∀{z:Str},([(("__class__":Str),cc)]:List (Str×cr)).lookup z=↑c->z="__class__":=λ{z} h=>by
   by_cases e:(z==("__class__":Str))=true
   ·exact eq_of_beq e
   ·rw[g8,Bool.eq_false_iff.mpr e]at h;cases h
  rw[q h1,q h2]]
structure DJ(P:gV)(K:f9)(C:cr)(x qual:Str)(st:gR)(f:cr)(fd:hO):Prop where
 ex:∃(oc:ci)(od:Option cr)(kV doc pm:ci)(an:Option cr)(yB cc:cr)(ct:ci) (ML:Array (Option ci)),
  fd=jO x qual (vm st) (uM st) (ug st) [("__class__",cc)] .none kV doc pm an (.ref yB) ct/\K.lookup f=some #[oc,od,.func fd,ML]/\iR K (.ref yB) qual=true/\JQ P K C f yB cc "self"
 kp:iI K (.ref f)=true
structure Sm(K:f9)(C:cr)(m:Str)(f2:cr):Prop where
 find:jq K C C m=↑(some<|.ref f2)
 ty:oi K (.ref f2)=↑(.type "function")
 fn:lG K f2=true
structure Fs(P:gV)(w:ii)(K:f9)(mg:Str->Option ci)(base:hX)(C:cr)(m:Str)(ps:List Str)(sp:Sp)(k:Nat):Prop where
 ex:∃f2 Zb,Sm K C m f2/\uO P w K mg base (uW P w) k f2 Zb ps sp/\Binds K Zb ps []/\mg "super"=none
def Tx{B b i:Type}[Sls B][Sls b][Ow i]{k:Bool}{l:Wf (Bd C k×B) i b}{c:List V}(h:xR T l c H Q E):∃a d m r,c=.ref a::r/\H a=↑(.ins C d m):=by
 obtain⟨F,R,p,o,q,s,_⟩:=h;obtain⟨v,n,t,u,e,_,⟨a,d,w,x,y,z,A,j,_,g⟩,_⟩:=s.rel;subst j
 cases c with
 |nil=>cases e
 |cons v r=>injection e with f j;injection f with f;subst f;exact#[a,d,_,r,rfl,g.ob]
def zv{o:gR}{d:List Str}{k:Nat}{B t X:Type}[Sls B][Sls t][Ow X]{fl:Bool}{u:Wf (Bd C fl×B) X t}{p:List hW} 
 (F:DJ P K C x l o f fd) (S:xM d d (ug o)) (v:uM o=[.Return (some<|.Call (.Attribute (.Call (.Name "super" p0) [] [] p1) m apos) p [] pos) p2]) (Y:d[0]?=↑("self":Str)) (z:Na p0 p1 apos pos m p) (G:Fs P w K Z base C m d (xR T u) k)
 (ha:∀(g n:cr)(A:iW)(b:List Env)(s:gn)(H:Hp)(E:XK),PA (JO (uW P w) P w K Z base d l (ug o) f (.ref g) [("__class__",n)] A b s H E) p ta)
 (I:∀(a:cr)(r:List V)(H:Hp)(Q:List V->Hp->Prop),r.length+1=d.length->Q r H->ta ((V.ref a::r).map some) H Q) (J:∀(q:cr)(L:Env),lG K q=true->PY K q pos p L) (N:(m==("__class__":Str))=false:=by decide) :
    uO P w K Z base (uW P w) (k+1) f fd d (xR T u):=by
  obtain⟨oc,od,kV,aa,pm,an,g,n,ct,ab,rfl,lk,O,D⟩:=F.ex
  refine e2a4 G.ex λq ae M G hb R=>?_
  obtain⟨o1,o2,o3,i⟩:=D.cell
  refine Gi lk O (S.x n) (λy c h=>?_) G.len λA b s H vs Q E hr j=>?_
  · have e : c = n := by
      by_cases e:(y==("__class__":Str))=true
      · rw[g8, e]at h; cases h; rfl
      · rw[g8, Bool.eq_false_iff.mpr e]at h; cases h
    subst e
    exact#[_,_,i,rfl]
  · have hl := G.len _ _ _ _ j
    obtain⟨a,dx,fs,r,rfl,ea⟩:=Tx j
    have U:start d (V.ref a::r)=(V.ref a::r).map some:=by unfold L2.start;rw[hl,pY];simp
    refine#[IU (VH<|Za C (xR T u) E ta) UU,?_,?_]
    · rw[v]
      exact xF (Tw<|Gh D Y S.ks S.kc (S.par _<|jg Y) R M.find M.ty M.fn G hb hr (ha g n A b s H E) (J q _ M.fn) z N)<|CM yG
    · rw[U]
      exact#[a,dx,fs,rfl,ea,I a r H _ hl j]
class Fu(D:Type)[Sls D]:Prop where
 fu:∀{F R:Rg} {H:Hp} {d:D} {σ:St},rel F R H d σ->∃vs:List V,σ=vs.map some
instance:Fu Unit:=#[λh=>#[[],h.1]]
instance{τ D:Type}[Ow τ][Sls D][Hs τ][Fu D]:Fu (τ×D):=#[λh=>by
 obtain⟨v,σ',F1,F2,rfl,_,h3,h4⟩:=h;obtain⟨u,rfl⟩:=Hs.has h3;obtain⟨vs,rfl⟩:=Fu.fu h4
 exact#[u::vs,rfl]]
def Z5(X:Cx)(e:List gR)(E:XK)(T:cr)(f:List Nat)(n:Nat)(a:List gR){D c b d:Type}[Sls D][Sls c][Sls b][Ow d](w:D->(c->Prop)->(d->b->Prop)->(cr->b->Prop)->Prop):Prop:=∃t,PV X e a t/\Ve E T f n t w
def Vp{g:List gR}{c:List Nat}{n:Nat}{D h e b f:Type}[Sls D][Sls h][Sls e][Sls b][Ow f]{i:gR}{a:List gR}{j:D->(e->Prop)->(f->b->Prop)->(cr->b->Prop)->Prop}{k:e->(h->Prop)->(f->b->Prop)->(cr->b->Prop)->Prop}(o:S1 X E T c n i j)(p:Z5 X g E T c n a k)(q:RK b c n:=by exact uJ q0q) :
  Z5 X g E T c n (i::a) (λd r l m=>j d (λs=>k s r l m) l m) :=
 e1a2 o λx t u=> e1a2 p λy v w=> #[_,xF (PX t) v,Vf q u w]
def Tz{o:gR}{A:iW}{b:List Env}{s:gn}{fb:List gR}{ms:List Nat}{n k:Nat}{l:List Str}{B t:Type}[Sls B][Sls t]{fl:Bool}{wf:Wf (Bd C fl×B) Unit t}{u:List hW}{p2:Pos}[Fu B][L:Ln B n]
 (D:JQ P K C f j z "self") (S:xM l l (ug o)) (h0:l[0]?=↑("self":Str)) (J:Na p0 p1 apos pos m u) (G:Fs P w K mg base C m l (xR T wf) k) (hr:vI k (A.deeper<|ik i (ug o) ⇑s f (.ref j) [("__class__",z)]))
 (ha:PA (JO (uW P w) P w K mg base l i (ug o) f (.ref j) [("__class__",z)] A b s H E) u ta)
 (N:∀(a:cr)(r:List V)(H:Hp)(Q:List V->Hp->Prop),r.length=n->Q r H->ta ((V.ref a::r).map some) H Q) (O:∀(I:cr)(U:Env),lG K I=true->PY K I pos u U) (X:(m==("__class__":Str))=false:=by decide) (Y:js (.Call (.Attribute (.Call (.Name "super" p0) [] [] p1) m apos) u [] pos) none p2.line (ik i (ug o) ⇑s f (.ref j) [("__class__",z)])=pure false:=by rfl) :
    Z5 (JO (uW P w) P w K mg base l i (ug o) f (.ref j) [("__class__",z)] A b s H E) fb E T ms (n+1) [.Expr (.Call (.Attribute (.Call (.Name "super" p0) [] [] p1) m apos) u [] pos) p2] (λ(d:Bd C fl×B)(Z:t->Prop)(_:Unit->t->Prop) Ke=>wf d (λ_ p=>Z p) Ke):=by
  refine e2a4 G.ex λI ab M G hb aa=>?_
  refine#[_,xF (DI (Gh D h0 S.ks S.kc (S.par _<|jg h0) aa M.find M.ty M.fn G hb hr ha (O I _ M.fn) J X) Y)<|CM yG,λd F R σ H1 Z Kr Ke En s1 hw kn kr ke=>?_]
  refine e4a4 (id s1.rel) λv ae F1 F2 e t2 h3 h4=>?_
  obtain⟨a,dx,d1,d2,d3,d4,us,rfl,_,g⟩:=id h3
  obtain⟨r,rfl⟩:=Fu.fu h4
  have hl:=L.ln h4
  rw[gm]at hl
  subst e
  refine#[a,dx,_,rfl,g.ob,N a r H1 _ hl #[F,R,d,λ_ p=>Z p,Ke,s1,hw,λx p' v M1 M2 R' H' q c s' n'=>?_,λC y p' F' R' H' q c s'=>?_]]
  · exact kn p' M2 R' H' _ q (c.less λa h => .inr h) s'<|Ag.refl _ _
  · exact ke C y p' F' R' H' q c (by rw[iQ<|by simp[hl]]; exact s')
def Zc{J:gR}{M:List Str}{k n:Nat}{ms:List Nat}{A PO:Type}[Sls A][Sls PO][L:Ln A n](dp:RK PO ms n){w0:A->(PO->Prop)->(Unit->PO->Prop)->(cr->PO->Prop)->Prop}
 (F:DJ P K C x j J f fd) (S:xM M M (ug J)) (hn:M.length=n)
 (r:∀(i u:cr)(A:iW)(b:List Env)(s:gn)(H:Hp)(E:XK),JQ P K C f i u "self"->vI k (A.deeper<|ik j (ug J) ⇑s f (.ref i) [("__class__",u)])->Z5 (JO (uW P w) P w K mg base M j (ug J) f (.ref i) [("__class__",u)] A b s H E) (uM J) E T ms n (uM J) w0) :
    uO P w K mg base (uW P w) (k+1) f fd M (xR T λ(p:A)(X:Unit->PO->Prop) N=>w0 p (λY=>X () Y) X N):=by
  have l:∀{o:List V} {H:Hp} {Q:VK} {E:XK},xR T (λ(p:A)(X:Unit->PO->Prop) N=>w0 p (λY=>X () Y) X N) o H Q E->o.length=n:=λh=>by
    obtain⟨F,R,p,Kn,N,s,_⟩:=h
    have:=L.ln s.rel
    rwa [gm]at this
  obtain⟨oc,od,kV,ae,pm,an,i,u,ct,af,rfl,lk,aa,D⟩:=F.ex
  obtain⟨o1,o2,o3,B⟩:=D.cell
  refine Gi lk aa (S.x u) (λy c h=>?_) (λo H Q E h=>(l h).trans hn.symm) λAr b s H o Q E hr Z=>?_
  · have e : c = u := by
      by_cases e:(y==("__class__":Str))=true
      · rw[g8, e]at h; cases h; rfl
      · rw[g8, Bool.eq_false_iff.mpr e]at h; cases h
    subst e
    exact#[_,_,B,rfl]
  refine e1a2 (r i u Ar b s H E D hr) λt h1 h2=>?_
  refine#[t,h1,?_]
  have hl:=l Z
  obtain⟨F,R,p,Kn,N,s0,hw,kn,ke⟩:=Z
  have ab:start M o=o.map some:=by unfold L2.start;rw[hl,hn,pY];simp
  rw[ab]
  have G:(o.map some).take n=o.map some:=iQ (by rw[gm,hl];exact gg _)
  refine h2 p F R _ H _ Kn N _ s0 hw (λY F' O U I q c d g=>?_) (λx p' v F1 F2 O U q c d m=>?_) λC y p' F' O U q c d=>?_
  · have e' : I.take n = I := iQ (by rw[g.1, gm, hl]; exact gg _)
    have g3:=dp.dp g (show rel F' O U Y (I.take n) by rw[e'];exact d.rel)
    rw[G]at g3
    exact kn () _ .vT (λ_=>False) F' O U q (c.less λa h=>h.elim (λz=>z.elim) id) #[g3,d.sub,d.wy,d.tab,d.u4,d.uP] #[#[λ_ z=>z,.vT,rfl,rfl],λ_ z=>z.elim,λ_ z=>z.elim,λz=>z]
  · rw[G]at d
    exact kn x p' v F1 F2 O U q c d m
  · rw[G]at d
    exact ke C y p' F' O U q c d
def CN(C:cr):Sp:=λi H Q E=>∃p h,i=[.ref p]/\H p=↑(.ins C h []) /\
 ∀c d e f g,(∀a,a=c\/a=d\/a=e\/a=f->H a=none)->[c,d,e,f].Nodup->g p=↑(.ins C h<|xL c d e f 0 true)->(∀a,a=c\/a=d\/a=e\/a=f->g a=↑(.dK []))->(∀b o,b≠p->H b=↑o->g b=↑o)->Q .vT g
def PZ{J:gR}{k:Nat}{p3 p4:Pos}{i:List gR}(F:DJ P K C "__init__" q J f fd)(S:xM ["self"] ["self"] (ug J))(ct:Ah K C)(cf:NQ K C)(T:Na p0 p1 apos pos "__init__" [])
 (U:uM J=.Expr (.Call (.Attribute (.Call (.Name "super" p0) [] [] p1) "__init__" apos) [] [] pos) p2::i) (G:Fs P w K mg base C "__init__" ["self"] (Ge C) k)
 (W:∀X,js (.Call (.Attribute (.Call (.Name "super" p0) [] [] p1) "__init__" apos) [] [] pos) none p2.line X=pure false)
 (Y:∀(j r:cr)(A:iW)(d:List Env)(s:gn)(H:Hp)(E:XK),Em (JO (uW P w) P w K mg base ["self"] q (ug J) f (.ref j) [("__class__",r)] A d s H E) i<|IU (MB K (uR 0) C8 "head_by_tail")<|MB K (uR 0) C8 "tail_by_head") :
    uO P w K mg base (uW P w) (k+1) f fd ["self"] (CN C):=by
  obtain⟨oc,od,kV,af,pm,an,j,r,ag,ah,rfl,lk,Z,D⟩:=F.ex
  refine e2a4 G.ex λf2 ai M G hB aa=>?_
  obtain⟨o1,o2,o3,l⟩:=D.cell
  refine Gi lk Z (S.x r) (λy c h=>?_) (λvs H Q E z9=>e2a2 z9 λp t e _=>by rw[e];rfl) λAr d s H vs Q E hr ab=>?_
  · have e : c = r := by
      by_cases e:(y==("__class__":Str))=true
      · rw[g8, e]at h; cases h; rfl
      · rw[g8, Bool.eq_false_iff.mpr e]at h; cases h
    subst e
    exact#[_,_,l,rfl]
  refine#[_,by rw[U];exact xF (DI (Gh D rfl S.ks S.kc (S.par _ gh) aa M.find M.ty M.fn G hB hr uA (cw_nil M.fn) T)<|W _)<|CM<|Y j r Ar d s H E,?_]
  obtain⟨p,t,rfl,m,k⟩:=ab
  refine#[p,t,[],rfl,m,p,t,rfl,m,λL N H1 h1 h2 ae g1 g2 g3 g4=>?_]
  intro u v
  have O:p≠u:=uu g1 v
  have q2:L≠u:=uu g2 v
  have q3:N≠u:=uu g3 v
  refine#[_,rfl,p,C,t,_,rfl,(by rw[uh O];exact g1),ct.cl,cf.nH,(by show 3<1000;decide),?_]
  intro B g
  have R:p≠B:=λz=>by rw[<- z,uk]at g;cases g
  rw[uh R.symm]at g
  have r2:B≠u:=λz=>by rw[z,uk]at g;cases g
  rw[uh r2]at g
  have r3:L≠B:=uu g2 g
  have r4:N≠B:=uu g3 g
  refine#[_,rfl,p,C,t,_,rfl,(by rw[uh R,uk]),ct.cl,cf.nT,(by show 4<1000;decide),?_]
  have I:∀{b:cr} {o:HO},H b=↑o->b≠p->H1 b=↑o:=λh n=>g4 _ _ n h
  have z:∀{a:cr},a≠p->H1 a=none->H a=none:=λ{a} n h=>by
    cases e:H a with
    |none=>rfl
    |some o=>rw[I e n]at h;cases h
  refine k L N u B _ (λa ha=>?_) ?_ ?_ (λa ha=>?_) λb o nb Y=>?_
  · rcases ha with e|e|e|e <;> rw[e]
    · exact h1
    · exact h2
    · exact z O.symm v
    · exact z R.symm g
  · simp only[List.nodup_cons, gO, iv, lj, oY, lN, and_true, not_false_eq_true]
    exact#[#[ae,q2,r3],#[q3,r4],r2.symm]
  · rw[uk]; rfl
  · have pd : p ≠ L := λe => by rw[e, h1]at m; cases m
    have pe:p≠N:=λe=>by rw[e,h2]at m;cases m
    rcases ha with e|e|e|e<;>rw[e]
    · rw[uh pd.symm, uh r3, uh pd.symm, uh q2]; exact g2
    · rw[uh pe.symm, uh r4, uh pe.symm, uh q3]; exact g3
    · rw[uh O.symm, uh r2.symm, uh O.symm, uk]
    · rw[uh R.symm, uk]
  · have e := I Y nb
    rw[uh nb,uh<|uu e g,uh nb,uh<|uu e v]
    exact e
section
variable{D:Type}[Sls D]
def P0{k:Nat}(M:Mk X.K C f)(F:uO X.prog X.w X.K X.mg X.base (uW X.prog X.w) k f fd ["self"] (CN C))(hr:vI (k+1) X.A)(hg:Gl X x)(hm:X.mg x=↑(.ref C))(hb:Binds X.K fd ["self"] [])(hx:Passes (uW X.prog X.w) X E)(J:(x==("__debug__":Str))=false:=by decide) :
  EO X E T (.Call (.Name x p) [] [] pos) (λ(d:D)(O:Bd C true->D->Prop) _=>O #[[],[],0,[],[]] d):=by
 refine#[_,Od M F hr hg hm hb .nil hx J,λd F' R σ H O Ke Q s hw kn _=>?_];intro y c L n m;refine#[y,c,rfl,uk,λg i j l r hn nd P v S=>#[rfl,?_]]
 have N:∀a,a=g\/a=i\/a=j\/a=l->a≠y/\a≠c/\H a=none:=λa ha=>by
  have h:=hn a ha;have U:a≠y:=λz=>by rw[z,uk]at h;cases h
  rw[uh U]at h;have W:a≠c:=λz=>by rw[z,uk]at h;cases h
  rw[uh W]at h;exact#[U,W,h]
 have B:∀a,a∈adr y c g i j l true->a=y\/a=c\/a=g\/a=i\/a=j\/a=l:=λa h=>by simpa[adr] using h
 have G:∀a,a∈adr y c g i j l true->H a=none:=λa h=>(B a h).elim (λz=>by rw[z];exact L) λh=>h.elim (λz=>by rw[z];exact n) λh=>(N a h).2.2;have I:∀b o,H b=↑o->r b=↑o:=λb o q=>S b o (uu q L) (by rw[uh<|uu q L,uh<|uu q n];exact q);have Y:r c=some (.own y):=S c _ m (by rw[uh m,uk]);have hl:∀a,a∈adr y c g i j l true->r a≠none:=λa h=>(B a h).elim (λz=>by rw[z,P];simp) λh=>h.elim (λz=>by rw[z,Y];simp) λh=>by rw[v a h];simp
 have Z:Ext (λ_=>False) R H (λa=>R a\/a∈adr y c g i j l true) r:=#[λb o _ h=>I b o h,λa h=>h.elim .inl λq=>.inr<|G a q]
 refine kn _ d (.ref y) (λa=>a∈adr y c g i j l true) F' (λa=>R a\/a∈adr y c g i j l true) r hw #[λb o _ _ h=>I b o h,Z.new,λa h=>h.elim (λq=>.inr<|G a q) .inl,λa h _=>.inl h]
  #[Sls.st s.rel Z (λ_ z=>z.elim)<|λ_ _ z=>z,λa h=>.inl<|s.sub a h,λa h=>h.elim (λz=>?_)<|hl a,?_,.inl s.u4,s.uP] ⟨⟨y,c,g,i,j,l,[],rfl,λ_=>Iff.rfl,#[?_,P,Y,v _<|.inl rfl,v _<|.inr<|.inl rfl,.nil,λ_=>v _<|.inr<|.inr<|.inl rfl,λ_=>v _<|.inr<|.inr<|.inr rfl]⟩,λa h=>.inr h,λa h z=>s.wy a (s.sub a z)<|G a h,λh=>yu s.tab<|G T h⟩
 ·cases e:H a with
  |none=>exact gA e<|s.wy a z
  |some u=>rw[I a u e];simp
 ·refine e1a2 s.tab λps e t=>?_;exact#[ps,I _ _ e,t]
 ·show [y,c,g,i,j,l].Nodup;refine List.nodup_cons.mpr #[λh=>?_,List.nodup_cons.mpr #[λh=>?_,nd]]
  ·rcases List.mem_cons.mp h with z|z
   ·exact m z.symm
   ·exact(N y<|by simpa using z).1 rfl
  ·exact(N c<|by simpa using h).2.1 rfl
end
section
variable{X:Cx}{scope:k9}{T:List Str}{i j:Nat}{x y:Str}{c d:cr}
/-- the scope of a comprehension Zd reads nothing,one name,two names from around it -/
def XJ(a:scope.kind=.function/\nK scope X.env=pure []:=by exact#[rfl,rfl])
 (b:(∀z∈scope.names,z.2≠.cell)/\(∀z∈scope.names,z.2=.local->scope.names.lookup z.1=some .local)/\∀z∈scope.names,z.2≠.free:=by refine#[?_,?_,?_]<;>decide +kernel):ye X scope [] T [] [] :=
  #[a.1,a.2,b.1,b.2.1,(λ_ _ h=>by cases h),λz f e=>gA e<|b.2.2 z f,(λj z h=>by cases h),rfl]
def P1(a:scope.kind=.function/\nK scope X.env=pure [(x,c)]/\X.env.cells.lookup x=↑c/\X.N[i]?=↑x/\X.env.kindOf x=some .cell/\(oa scope X.env).names.lookup x=some .cell:=by exact#[rfl,rfl,rfl,rfl,rfl,rfl])
 (b:(∀z∈scope.names,z.2≠.cell)/\(∀z∈scope.names,z.2=.local->scope.names.lookup z.1=some .local)/\∀z∈scope.names,z.2=.free->z.1=x:=by refine#[?_,?_,?_]<;>decide +kernel):ye X scope [(x,c)] T [x] [i] :=
  have f:∀{z:Str},z=x->jF z [(x,c)]=↑c:=λ{z} e=>by rw[e,g8,oK]
  #[a.1,a.2.1,b.1,b.2.1,(λz e h=>(lkc h).elim (λq=>by rw[q.1,q.2];exact a.2.2.1) λq=>by cases q),λz g e=>#[c,f (b.2.2 z g e)],(λk z h=>by
    cases k with
    |zero=>cases h;exact#[i,c,rfl,a.2.2.2.1,.inl a.2.2.2.2.1,f rfl,.inl a.2.2.2.2.2]
    |succ k=>cases h),rfl]
def bs2(a:scope.kind=.function/\nK scope X.env=pure [(y,d),(x,c)]/\X.env.cells.lookup x=↑c/\X.env.cells.lookup y=↑d/\X.N[i]?=↑x/\X.N[j]?=↑y/\X.env.kindOf x=some .cell/\X.env.kindOf y=some .cell/\(oa scope X.env).names.lookup x=some .cell/\(oa scope X.env).names.lookup y=some .cell:=by exact#[rfl,rfl,rfl,rfl,rfl,rfl,rfl,rfl,rfl,rfl])
 (b:(∀z∈scope.names,z.2≠.cell)/\(∀z∈scope.names,z.2=.local->scope.names.lookup z.1=some .local)/\(∀z∈scope.names,z.2=.free->z.1=x\/z.1=y)/\¬x=y:=by refine#[?_,?_,?_,?_]<;>decide +kernel):ye X scope [(y,d),(x,c)] T [x,y] [i,j] :=
  have f:∀{z:Str},z=y->jF z [(y,d),(x,c)]=↑d:=λ{z} e=>by rw[e,g8,oK]
  have g:∀{z:Str},z=x->jF z [(y,d),(x,c)]=↑c:=λ{z} e=>by rw[e,g8,beq_eq_false_iff_ne.mpr b.2.2.2,g8,oK]
  #[a.1,a.2.1,b.1,b.2.1,(λz e h=>(lkc h).elim (λq=>by rw[q.1,q.2];exact a.2.2.2.1) λh=>(lkc h).elim (λq=>by rw[q.1,q.2];exact a.2.2.1) λq=>by cases q),λz l e=>(b.2.2.1 z l e).elim (λq=>#[c,g q]) λq=>#[d,f q],(λk z h=>by
    cases k with
    |zero=>cases h;exact#[i,c,rfl,a.2.2.2.2.1,.inl a.2.2.2.2.2.2.1,g rfl,.inl a.2.2.2.2.2.2.2.2.1]
    |succ k=>cases k with
      |zero=>cases h;exact#[j,d,rfl,a.2.2.2.2.2.1,.inl a.2.2.2.2.2.2.2.1,f rfl,.inl a.2.2.2.2.2.2.2.2.2]
      |succ k=>cases h),rfl]
end
structure Dc(α:Type) where
 l:List (Int×α)
def PK{α:Type}[Rep α](R:Rg)(H:Hp):List (Int×α)->List (Key×V)->Prop:=Paired λe u=>u.1=gP e.1/\rp R H e.2 u.2
section
variable{α:Type}[Rep α]
def P2(e:Ext R R H b c):∀{l:List (Int×α)} {a:List (Key×V)},PK R H l a->PK b c l a:=by
 intro _ _ z
 induction z with
 |nil=>exact .nil
 |cons h t d=>exact .cons #[h.1,Rep.st h.2 e] d
def JR{k:Int}:∀{l:List (Int×α)} {us:List (Key×V)},PK R H l us->(∀b,lk l k=↑b->∃v,xz us (gP k)=↑v/\rp R H b v)/\(lk l k=none->xz us (gP k)=none):=by
 intro z0 z1 z9
 induction z9 with
 |nil=>exact#[(λb h=>by cases h),λ_=>rfl]
 | @cons e u l us h t WN =>
  have i:=WN;by_cases q:e.1=k
  ·have e1:lk (e::l) k=↑e.2:=by unfold lk;rw[ig,decide_eq_true q];rfl
   rw[e1];refine#[λb hb=>?_,(λz=>by cases z)];cases hb;exact#[u.2,yo (by rw[h.1,q]),h.2]
  ·have e1:lk (e::l) k=lk l k:=by unfold lk;rw[ig,gH q]
   rw[e1,yp<|by rw[h.1];intro z;exact q<|mP z];exact i
def LM{k:Int}{l:List (Int×α)}{us:List (Key×V)}(h:PK R H l us):(xz us<|gP k).isSome=(lk l k).isSome:=by
 have i:=JR (k:=k) h
 cases e:lk l k with
 |none=>rw[i.2 e];rfl
 |some b=>obtain⟨v,hv,_⟩:=i.1 b e;rw[hv];rfl
def JS:∀{l:List (Int×α)} {a:List (Key×V)},PK R H l a->a.length=l.length
 |_,_,.nil=>rfl
 |_,_,.cons _ t=>by rw[gK,gK,JS t]
def P4{k:Int}{x:α}{v:V}(r:rp R H x v):∀{l:List (Int×α)} {us:List (Key×V)},PK R H l us->PK R H (l++[(k,x)]) (us++[(gP k,v)])
 |_,_,.nil=>.cons #[rfl,r] .nil
 |_,_,.cons h t=>.cons h<|P4 r t
def WP{k:Int}{x:α}{v:V}(r:rp R H x v):∀{l:List (Int×α)} {us:List (Key×V)},PK R H l us->PK R H (l.map λe=>if e.1=k then (e.1,x) else e) (us.map λkv=>if kv.1=gP k then (kv.1,v) else kv):=by
 intro z0 z1 z9
 induction z9 with
 |nil=>exact .nil
 | @cons e u l us h t WN =>
  refine .cons ?_<|WN;dsimp only;by_cases q:e.1=k
  ·rw[ga q,ga<|by rw[h.1,q]];exact#[h.1,r]
  ·rw[gc q,gc<|by rw[h.1];intro z;exact q<|mP z];exact h
def P5{k:Int}(r:rp R H x v){l:List (Int×α)}{us:List (Key×V)}(h:PK R H l us):PK R H (pk l k x) (putK us (gP k) v):=by
 unfold putK pk;rw[zk,LM h]
 cases (lk l k).isSome with
 |true=>rw[ga rfl,ga rfl];exact WP r h
 |false=>rw[gc gw,gc gw];exact P4 r h
end
instance{α:Type}[Rep α]:Ow (Dc α):=#[λF R H x v=>∃a us,v=↑(.ref a)/\(∀b,F b↔b=a)/\H a=↑(.dK us)/\PK R H x.l us,
 λh e s n=>by
  refine e2a4 h λa us h1 h2 h3 h4=>?_
  exact#[a,us,h1,h2,e.keep a _ (n a<|(h2 a).mpr rfl) h3,P2 (e.wide s) h4],
 λh e=>by
  refine e2a4 h λa us h1 h2 h3 h4=>?_
  exact#[a,us,h1,λb=>(e b).symm.trans (h2 b),h3,h4]]
instance{α:Type}[Rep α]:Hs (Dc α):=#[λz9=>e2a2 z9 λ_ _ h _=>#[_,h]]
section
variable{D PO τ:Type}[Sls D][Sls PO][Ow τ]{α:Type}[Rep α]
def CO{i:Nat}[Sls c][A:At i D (Dc α) c](s:vt T F R H d e):∃a b,e[i]?=↑(some<|.ref a)/\H a=↑(.dK b)/\PK R H (A.get d).l b:=by obtain⟨v,j,k,f,m,⟨a,b,rfl,n,g,h⟩,o⟩:=A.take s.rel;exact#[a,b,f,g,h]
def P6{i:Nat}[Sls w][A:At i D (Dc α) w][U:Pt i w (Dc α) D](s:vt T F R H d x):∃a g,x[i]?=↑(some<|.ref a)/\H a=↑(.dK g)/\PK R H (A.get d).l g /\
  ∀(j:List (Int×α)) (f:List (Key×V)),PK R H j f->Ch T F R H F R (upd H a<|.dK f)/\vt T F R (upd H a<|.dK f) (U.put (A.hole d) #[j]) x:=by
 obtain⟨v,N,O,y,m,⟨a,g,rfl,p,E,G⟩,I⟩:=A.take s.rel;have r:F a:=(m.all a).mpr<|.inl<|(p a).mpr rfl;have J:a≠T:=λz=>s.uP (by rw[<- z];exact r);refine#[a,g,y,E,G,λj f L=>?_];have B:=yO (F:=F) (R:=R) (H:=H) (a:=a) (o:=.dK f);have C:∀c,c=a->R c:=λc z=>by rw[z];exact s.sub a r
 have k:∀b u,b≠a->H b=↑u->upd H a (.dK f) b=↑u:=λb u z e=>by rw[uh z];exact e
 refine#[#[λb o n _ e=>k b o (λz=>n<|by rw[z];exact r) e,λ_ h=>.inl h,λ_ h=>.inl h,λ_ h _=>h],Pt.same (A:=U) (Sls.st I B C λc z q=>m.xt c ((p c).mpr q) z) y m #[a,f,rfl,p,uk,P2 (B.wide C) L],s.sub,λc z=>?_,?_,s.u4,s.uP]
 ·by_cases e:c=a
  ·rw[e,uk];simp
  ·rw[uh e];exact s.wy c z
 ·refine e1a2 s.tab λM e t=>?_;exact#[M,k _ _ (λz=>J z.symm) e,t]
def DL{a:hW}(i:Nat){D0:Type}[Sls D0][A:At i D (Dc α) D0]{wk:Wf D Int D}(hu:X.A.units+1<jS)(hn:PE X (.Name x p1) (uR i))(hk:EW X E T a wk)(hs:Op a:=by intro _ _;rfl) :
  EW X E T (.Subscript (.Name x p1) a pos) (λ(d:D)(Kn:α->D->Prop) Ke=>wk d (λk d1=>∃v,lk (A.get d1).l k=↑v/\Kn v d1) Ke):=by
 refine e1a2 hk λta a1 a2=>?_;refine#[_,FF hu hn a1 hs,λd F R σ H Kn Ke Q s hw kn ke=>?_];obtain⟨y0,us0,h1,_,_⟩:=CO (i:=i) s;refine#[_,h1,a2 d F R σ H _ Ke _ s hw (λk d1 u F1 R1 H1 q1 c1 s1 r1=>?_) ke];subst r1;obtain⟨y,us,g1,g2,g3⟩:=CO (i:=i) s1;rw[h1]at g1;cases g1;refine e1a2 q1 λz z1 z2=>?_;refine e1a2 ((JR g3).1 z z1) λv v1 v2=>?_;have g:=xl.k (k:=gP k) g2;rw[v1]at g;exact#[_,v,rfl,g,kn z d1 v F1 R1 H1 z2 c1 s1 v2]
def P7(i:Nat){B:Type}[Sls B][A:At i D (Dc α) B][U:Pt i B (Dc α) D][J:Pj D PO n]{M:Wf D Int D}{N:Wf D α D}(hu:X.A.units+1<jS)(hn:PE X (.Name x O) (uR i))(hk:EW X E T a M)(he:EW X E T e N)
 (hs:js e (some<|.Subscript (.Name x O) a p3) pos.line X.env=pure false:=by rfl) :
    S1 X E T ms n (.Assign [.Subscript (.Name x O) a p3] e pos) (λ(d:D)(P:D->Prop)(Kr:τ->PO->Prop) j=>N d (λv I=>M I (λk r=>(A.get r).l.length<gk/\P (U.put (A.hole r) #[pk (A.get r).l k v])) λC f=>j C<|J.pj f) λC f=>j C<|J.pj f):=by
  refine e1a2 hk λta a1 a2=>?_
  refine e1a2 he λte b1 b2=>?_
  have Q:∀{F R g h:Rg} {H b:Hp} {C y:cr} {f:D} {m:St} {j:cr->PO->Prop},(∀C y S g h b,j C S->Ch T F R H g h b->vt T g h b S (m.take n)->E (.ref C) ↑y b)->j C (J.pj f)->Ch T F R H g h b->vt T g h b f m->E (.ref C) ↑y b:=λt q c p=>by
    refine e1a2 (vW (PO:=PO) p) λG z L=>?_
    exact t _ _ _ G _ _ q (c.less z) L
  refine#[_,FG hu hn a1 b1 hs,λd F R m H P Kr j En s hw kn kr t=>b2 d F R m H _ _ _ s hw (λv I u F1 R1 H1 q1 W o r1=>?_) λC y f g h b q c p=>Q t q c p]
  obtain⟨y0,aa,Y,_,_⟩:=CO (i:=i) o
  refine#[_,Y,a2 I F1 R1 m H1 _ _ _ o q1 (λk r w F2 R2 H2 Z c2 s2 r2=>?_) λC y f g h b q c p=>Q t q (Ch.trans s o.tab W c) p]
  subst r2
  refine e2a4 (P6 (i:=i) s2) λy us z L g3 g4=>?_
  rw[Y]at z
  cases z
  obtain⟨c3,s3⟩:=g4 _ _<|P5 (k:=k) (o.val c2 r1) g3
  exact#[_,_,rfl,FE.k (k:=gP k) L (by rw[JS g3];exact Z.1),kn _ F2 R2 _ m Z.2 (Ch.trans s o.tab W<|Ch.trans o s2.tab c2 c3) s3<|Ag.refl _ _]
end
section
variable{D PO τ:Type}[Sls D][Sls PO][Ow τ]{α β:Type}[Rep α][Rep β]
def Fb{i:Nat}[Sls c][A:At i D (List Int) c](s:vt T F R H d e):∃a,e[i]?=↑(some<|.ref a)/\H a=↑(.lst<|(A.get d).map V.int):=by obtain⟨v,h,j,f,_,⟨_,u,rfl,a,k,rfl,_,b,g⟩,_⟩:=A.take s.rel;rw[paired_ints g]at b;exact#[a,f,b]
def TB(i j:Nat)[Sls D1][Sls D2][A:At i D (List Int) D1][B:At j D (List Int) D2](u:X.calm=true)(v:Gl X "sorted")(C:X.mg "sorted"=none)(L:Gl X "set")(M:X.mg "set"=none)(hn:PE X (.Name x c) (uR i))(G:PE X (.Name y e) (uR j))
 (f:gf [.Name x c] X.env=(false,eval (.Name x c) X.env)::gf [] X.env:=by rfl) (g:gf [.Name y e] X.env=(false,eval (.Name y e) X.env)::gf [] X.env:=by rfl)
 (h:gf [.BinOp (.Call (.Name "set" N) [.Name x c] [] O) .BitXor (.Call (.Name "set" P) [.Name y e] [] S) W] X.env=(false,eval (.BinOp (.Call (.Name "set" N) [.Name x c] [] O) .BitXor (.Call (.Name "set" P) [.Name y e] [] S) W) X.env)::gf [] X.env:=by rfl) :
    EO X E T (.Call (.Name "sorted" q1) [.BinOp (.Call (.Name "set" N) [.Name x c] [] O) .BitXor (.Call (.Name "set" P) [.Name y e] [] S) W] [] pos)
      (λ(d:D)(Y:OL Int->D->Prop) _=>(v8 (A.get d)/\v8 (B.get d)/\∃U:List Int,U.length<64/\(∀k∈A.get d,k∈U)/\∀k∈B.get d,k∈U)/\Y #[xr (A.get d)<|B.get d] d):=by
  refine#[_,wj (AW u) v C jH (ur (wg SA (wK (HP u) L M m8 (ur hn uA f) (he:=f))<|wK (HP u) L M m8 (ur G uA g) (he:=g)) uA h) (he:=h),λd F R σ H Y Ke Q s hw kn ke=>?_]
  obtain⟨⟨Z,rb,U,hU,ua,ub⟩,o⟩:=hw
  have la:=vJ Z ua
  have lb:=vJ rb ub
  refine e1a2 (Fb (i:=i) s) λa a1 a2=>?_
  refine#[_,a1,a,A.get d,rfl,vF.of a2,q0a,λp ka hp aa ab ma=>?_]
  refine e0a3 (s.new (wx X.w p ka) hp) λt c1 _=>?_
  refine e1a2 (Fb (i:=j) t) λb b1 b2=>?_
  refine#[_,b1,b,B.get d,rfl,vF.of b2,q0a,λq kb hq ae af mb=>?_]
  refine e0a3 (t.new (wx X.w q kb) hq) λI c2 _=>?_
  have J:p≠q:=uu uk hq
  refine#[p,q,ka,kb,rfl,rfl,by rw[uh J];exact uk,uk,q0a,λr m hr n mc=>?_]
  refine e0a3 (I.new (wx X.w r m) hr) λs3 c3 _=>?_
  have mm:∀k,k∈m↔k∈xr (A.get d) (B.get d):=λk=>by
    rw[mc,yg<|ut rb,ma,mb]
    by_cases h1:k∈A.get d<;>by_cases h2:k∈B.get d<;>simp[h1,h2]
  have lc:m.length<64:=by
    have:=SX.yq m U n λk o=>by
      rw[mc,ma,mb]at o
      exact o.elim (λz=>ub k z.1) λz=>ua k z.2
    lia
  refine#[r,m,rfl,uk,lc,λl ns hl pn sn=>?_]
  rw[Do pn sn,DA n mm<|wD Z]
  refine e1a3 (wM s3 hl<|xf (R:=R)<|xr (A.get d)<|B.get d) λR' c4 s4 n4=>?_
  exact kn _ d _ _ F R' _ o (Ch.trans s t.tab c1<|Ch.trans t I.tab c2<|Ch.trans I s3.tab c3 c4) s4 n4
end
structure T3(α β γ:Type) where
 a:α
 b:β
 c:γ
instance{α β γ:Type}[Ow α][Ow β][Ow γ]:Ow (T3 α β γ):=#[λF R H x v=>∃p u1 u2 u3 F1 F2 F3,v=↑(.ref p)/\¬R p/\H p=↑(.tup [u1,u2,u3])/\Du F F1 F2 F3/\sl F1 R H x.a ↑u1/\sl F2 R H x.b ↑u2/\sl F3 R H x.c ↑u3,
 λh e s n=>by
  obtain⟨p,u1,u2,u3,F1,F2,F3,h1,h2,h3,t,g1,g2,g3⟩:=h
  exact#[p,u1,u2,u3,F1,F2,F3,h1,(e.wide s).not h2 h3,e.keep p _ (λz=>h2<|s p z) h3,t,Ow.st g1 e s λa z=>n a<|(t.all a).mpr<|.inl z,Ow.st g2 e s λa z=>n a<|(t.all a).mpr<|.inr<|.inl z,Ow.st g3 e s λa z=>n a<|(t.all a).mpr<|.inr<|.inr z],
 λh e=>by
  obtain⟨p,u1,u2,u3,F1,F2,F3,h1,h2,h3,t,g⟩:=h
  exact#[p,u1,u2,u3,F1,F2,F3,h1,h2,h3,#[λa=>(e a).symm.trans (t.all a),t.Hl,t.IN,t.IP],g]]
section
variable{D PO τ:Type}[Sls D][Sls PO][Ow τ]{α β γ:Type}[Ow α][Ow β][Ow γ]
def TC{x1}(i j k:Nat)[Sls D'][Sls P][Sls Q][Sls S][Hs α][Hs β][Hs γ][g:At i D α P][l:At j P β Q][t:At k Q γ S][J:Pj S PO n](u:PE X (.Name x v) (uR i))(w:PE X (.Name y m) (uR j))(A:PE X (.Name z e) (uR k))
 (h1:gf [.Name x v,.Name y m,.Name z e] X.env=(false,eval (.Name x v) X.env)::gf [.Name y m,.Name z e] X.env:=by rfl) (h2:gf [.Name y m,.Name z e] X.env=(false,eval (.Name y m) X.env)::gf [.Name z e] X.env:=by rfl) (h3:gf [.Name z e] X.env=(false,eval (.Name z e) X.env)::gf [] X.env:=by rfl) :
    S1 X E T ms n (.Return (some<|.Tuple [.Name x v,.Name y m,.Name z e] x1 p4) pos) (λ(d:D)(_:D'->Prop)(U:T3 α β γ->PO->Prop) _=>U #[g.get d,l.get<|g.hole d,t.get<|l.hole<|g.hole d]<|J.pj<|t.hole<|l.hole<|g.hole d):=by
  refine#[_,Bv<|N8<|ur u (ur w (ur A uA h3) h2) h1,λd F R σ H Kn U Ke En s hw kn kr ke=>?_]
  refine e3a4 (g.take s.rel) λ_ G1 G2 W b g1 r1=>?_
  obtain⟨B,rfl⟩:=Hs.has g1
  refine e3a4 (l.take r1) λ_ _ _ Y _ g2 r2=>?_
  obtain⟨C,rfl⟩:=Hs.has g2
  refine e3a4 (t.take r2) λ_ _ _ Z _ g3 _=>?_
  obtain⟨I,rfl⟩:=Hs.has g3
  refine#[B,W,C,Y,I,Z,(by show 3<=gk;decide),λp hp=>?_]
  refine e0a3 (s.new (.tup [B,C,I]) hp) λL c1 n1=>?_
  refine e3a4 (g.take L.rel) λv1 o E1 b1 b k1 q1=>?_
  refine e3a4 (l.take q1) λv2 q E2 b2 c k2 q2=>?_
  refine e3a4 (t.take q2) λv3 r E3 b3 f k3 q3=>?_
  rw[W]at b1
  rw[Y]at b2
  rw[Z]at b3
  cases b1
  cases b2
  cases b3
  refine e1a2 (J.le q3) λG l1 l2=>?_
  have i1:∀a,o a->F a:=λa h=>(b.all a).mpr<|.inl h
  have i2:∀a,q a->F a:=λa h=>(b.all a).mpr<|.inr<|(c.all a).mpr<|.inl h
  have i3:∀a,r a->F a:=λa h=>(b.all a).mpr<|.inr<|(c.all a).mpr<|.inr<|(f.all a).mpr<|.inl h
  have M:∀a,G a->F a:=λa h=>(b.all a).mpr<|.inr<|(c.all a).mpr<|.inr<|(f.all a).mpr<|.inr<|l1 a h
  have dG:∀a,o a\/q a\/r a->¬G a:=λa h z=>by
    have N:=l1 a z
    rcases h with h|h|h
    · exact b.xt a h<|(c.all a).mpr<|.inr<|(f.all a).mpr<|.inr N
    · exact c.xt a h<|(f.all a).mpr<|.inr N
    · exact f.xt a h N
  have O:∀a,o a\/q a\/r a->F a:=λa h=>h.elim (i1 a) λh=>h.elim (i2 a)<|i3 a
  exact kr _ _ (.ref p) (λa=>o a\/q a\/r a) G R _ hw #[c1.keep,λ_ h=>.inl h,λa h=>.inl<|h.elim (O a)<|M a,λ_ h _=>h] #[l2,λa h=>s.sub a<|M a h,L.wy,L.tab,s.u4,λh=>s.uP<|M T h]
    #[#[p,B,C,I,o,q,r,rfl,n1,uk,#[λ_=>Iff.rfl,λa h k=>b.xt a h<|(c.all a).mpr<|.inl k,λa h k=>b.xt a h<|(c.all a).mpr<|.inr<|(f.all a).mpr<|.inl k,λa h k=>c.xt a h<|(f.all a).mpr<|.inl k],k1,k2,k3],λa h=>s.sub a<|O a h,λa h z=>dG a h z,λh=>s.uP<|O T h]
def TF(i j k:Nat){ZW WB σ3 D0 D1 D2 D3 D4 D5:Type}[Ow ZW][Ow WB][Ow σ3][Sls D0][Sls D1][Sls D2][Sls D3][Sls D4][Sls D5][A:At i D ZW D0][U:Pt i D0 α D1][A2:At j D1 WB D2][U2:Pt j D2 β D3][A3:At k D3 σ3 D4][U3:Pt k D4 γ D5][J:Pj D PO n]{we:Wf D (T3 α β γ) D}
 (hp:PG X tg (VM X.K 3<|EJ (B5 i)<|EJ (B5 j)<|EJ (B5 k) VL)) (hi:i∉ms) (hj:j∉ms) (hk:k∉ms) (he:EO X E T e we)
 (hb:∀{te:TE} {t:TG},PE X e te->PG X tg t->PS X (.Assign [tg] e pos) (VN te t):=by intro te t h1 h2;exact IV h1 h2) :
    S1 X E T ms n (.Assign [tg] e pos) (λ(d:D)(Kn:D5->Prop)(Kr:τ->PO->Prop) Ke=>we d (λx d1=>Kn<|U3.put (A3.hole<|U2.put (A2.hole<|U.put (A.hole d1) x.a) x.b) x.c) λC d'=>Ke C<|J.pj d'):=by
  refine e1a2 he λt h1 h2=>?_
  refine#[_,hb h1 hp,λd F R σ H Kn Kr Ke En s hw kn kr ke=>h2 d F R σ H _ _ _ s hw (λx d1 v F1 F2 R1 H1 q1 c1 s1 m1=>?_) λC y d' F' R' H' q c s'=>?_]
  · obtain⟨p, u1, u2, u3, G1, G2, G3, e1, e2, e3, t3, g1, g2, g3⟩ := m1.is
    cases e1
    have j1:∀a,G1 a->F1 a:=λa h=>(t3.all a).mpr<|.inl h
    have j2:∀a,G2 a->F1 a:=λa h=>(t3.all a).mpr<|.inr<|.inl h
    have j3:∀a,G3 a->F1 a:=λa h=>(t3.all a).mpr<|.inr<|.inr h
    refine e1a2 (E7 (i:=i) s1 (x:=x.a) (v:=u1) (F1:=G1) #[g1,λa h=>m1.sub a<|j1 a h,λa h z=>m1.xt a (j1 a h) z,λh=>m1.tab<|j1 T h]) λL1 k1 f1=>?_
    refine e1a2 (E7 (i:=j) f1 (x:=x.b) (v:=u2) (F1:=G2) #[g2,λa h=>m1.sub a<|j2 a h,λa h z=>(k1 a z).elim (λq=>t3.Hl a q h)<|m1.xt a<|j2 a h,λh=>m1.tab<|j2 T h]) λL2 k2 f2=>?_
    refine e1a2 (E7 (i:=k) f2 (x:=x.c) (v:=u3) (F1:=G3) #[g3,λa h=>m1.sub a<|j3 a h,λa h z=>(k2 a z).elim (λq=>t3.IP a q h) λz=>(k1 a z).elim (λq=>t3.IN a q h)<|m1.xt a<|j3 a h,λh=>m1.tab<|j3 T h]) λL3 k3 f3=>?_
    exact#[p,[u1,u2,u3],rfl,yA.of e3,rfl,u1,[u2,u3],rfl,u2,[u3],rfl,u3,[],rfl,rfl,kn _ L3 R1 H1 _ q1 (c1.less λa h=>(k3 a h).elim (λq=>.inl<|j3 a q) λh=>(k2 a h).elim (λq=>.inl<|j2 a q) λh=>(k1 a h).elim (λq=>.inl<|j1 a q) .inr) f3<|((Ag.set hi).trans<|Ag.set hj).trans<|Ag.set hk]
  · refine e1a2 (vW (PO := PO) s') λG g1 g2 => ?_
    exact ke C y _ G R' H' q (c.less g1) g2
end
end WL
namespace L2
variable[L2.GX]
open PySem PySem.Spec PyProof.Rows
noncomputable abbrev wO(X:Cx)(a:List (cr×Obj))(h:XK)(i:St->Prop):Cx :=
 { X with pn:=a,xe:=λe j=>∃(b:List (cr×Obj)) (c:St) (d:Hp) (f:gn) (C x:cr) (g:Hp),e=.ref x/\Inv { X with pn:=a} b c d f/\i c/\Dj X.prog X.w X.stack d f g C x j/\h (.ref C) ↑x g}
def Inv.WQ(I:Inv X a b H s):Inv (wO X (X.pn++a) d e) [] b H s :=
 #[#[I.ok.mod,I.ok.kind,I.ok.glob,I.ok.blt,I.ok.above,I.ok.inj,I.ok.has,I.ok.NM,I.ok.hd,I.ok.frames,I.ok.Br,I.ok.RP,I.ok.bs,I.ok.Hr,I.ok.Cp,I.ok.CW,I.ok.xI,I.ok.IL],I.os,I.bare,I.base,I.loc,I.cell,I.free,I.xo,λp c=>I.pin p (by simpa using c),I.uV,I.len]
def Inv.Gj(I:Inv (wO X (X.pn++a) e f) b c H s):Inv X a c H s :=
 #[#[I.ok.mod,I.ok.kind,I.ok.glob,I.ok.blt,I.ok.above,I.ok.inj,I.ok.has,I.ok.NM,I.ok.hd,I.ok.frames,I.ok.Br,I.ok.RP,I.ok.bs,I.ok.Hr,I.ok.Cp,I.ok.CW,I.ok.xI,I.ok.IL],I.os,I.bare,I.base,I.loc,I.cell,I.free,I.xo,λp d=>I.pin p<|iq _ d,I.uV,I.len]
def Inv.Ze(I:Inv (wO X b d e) a c H s):Inv { X with pn:=b} a c H s :=
 #[#[I.ok.mod,I.ok.kind,I.ok.glob,I.ok.blt,I.ok.above,I.ok.inj,I.ok.has,I.ok.NM,I.ok.hd,I.ok.frames,I.ok.Br,I.ok.RP,I.ok.bs,I.ok.Hr,I.ok.Cp,I.ok.CW,I.ok.xI,I.ok.IL],I.os,I.bare,I.base,I.loc,I.cell,I.free,I.xo,I.pin,I.uV,I.len]
def JT(c:Oa)(X:Cx)(E:XK)(d:St):Prop:=∀(a:List (cr×Obj)) (H:Hp) (s:gn) (e:ci) (b:gn),Inv X a d H s->c X.stack H s E e b->X.xe e b
def Zf(h:c b):JT (uW X.prog X.w) (wO X d f c) f b:=by intro a g i e m I j;obtain⟨C,x,k,rfl,F,l⟩:=j;exact#[a,b,g,i,C,x,k,rfl,I.Ze,h,F,l]
def TH(F:uO X.prog X.w X.K X.mg X.base l k f m g n)(o:vI k X.A)(p:Binds X.K m g d)(q:Vals b d)(t:JT l X E i)
 (I:Inv X a i H s)(r:Vals vs us)(h:n (vs++b) H Q E):gu (gv X.prog X.w) X.A (call (.ref f) us) (EP X a i Q) X.xe s:=by
  have j:Vals (vs++b) (us++d):=r.append q
  have v:(us++d).length=g.length:=by rw[<- j.length];exact F.len _ _ _ _ h
  refine lS<|jp (F.run X.A X.stack s H ⟨us,[]⟩ (us++d) (vs++b) Q E o I.HC (p s us I.xT v) j h) λr x c=>?_
  cases r with
  |error e=>exact t a H s e x I c
  |ok y =>
    cases y with
    |ret u=>exact I.after c
    |next=>exact gX c
    |brk=>exact gX c
    |cont=>exact gX c
def P8(c:Oa)(X:Cx)(C:cr)(m:Str)(d:Sp)(a:List V)(E:XK)(e:TE)(t:TA):TE:=λb H Q=>JT c X E b/\EL C m d a E e t b H Q
def P9(G:PE X o J)(c:Ae X.K C)(v:Meth X.K C m f)(F:uO X.prog X.w X.K X.mg X.base CX k f L M N)(O:vI k X.A)(P:Binds X.K L M R)(hd:Vals i R)(S:PA X (e::d) t)
 (j:gf (e::d) X.env=(false,eval e X.env)::gf d X.env:=by rfl) (n:(iN pos<|gf d X.env).any (·.1)=false:=by rfl)
 (ht:eval (.Call (.Attribute o m apos) (e::d) [] pos) X.env=(do
 let y <- eval o X.env
 md apos.atName
 let (f,first) <- jY [y] (lV y m T)
 mH pos f first (iN pos (gf (e::d) X.env)) (mf pos (jZ [] X.env))):=by rfl) :
    PE X (.Call (.Attribute o m apos) (e::d) [] pos) (P8 CX X C m N i E J t):=by
  intro b s z H Q I h
  obtain⟨U,h⟩:=h
  refine nS (pl:=T) (uT (G b s z H _ I h) λu Y p=>e2a3 p λx H1 B Z g=>e3a4 g λa dx fs ex ea l q=>?_) ht
  subst ex
  obtain rfl:u=gF a:=Z
  refine Ay B ea c v l ?_
  refine oV (first:=[.ref a]) (h₀:=X.base) I.ok.mod.AH v.kp (uT (S pos b Y z H1 _ B q) λus s2 p=>e2a3 p λvs H2 D r q2=>#[D.xT,?_]) j n
  exact TH (us:=.ref a::us) (vs:=.ref a::vs) F O P hd U D (.cons rfl r) q2
def a1l(o:Option (List V))(h h':hX):Prop:=match o with
 |none=>h'=h
 |some xs=>∃za:List ci,Vals xs za/\xs.length<=gk/\h'=h.push { cls:=.type "tuple",data:=.seq za.toArray}
def Lay(o:Option (List V))(H H':Hp):Prop:=match o with
 |none=>H'=H
 |some xs=>∃p,H p=none/\H'=upd H p (.tup xs)
def ClO(X:Cx)(d:hW)(e:List cr)(o:Option (List V)):Prop:=∀(x C:cr) (a:List (cr×Obj)) (s:gn) (f:St) (H:Hp) (Q:Bool->gn->Prop) (E:ci->gn->Prop),C∈e->Inv (hand X x) a f H s->(∃b,s.heap.get? x=↑b/\b.cls=.ref C) ->
 (∀c,a1l o s.heap c->Q true { s with heap:=c}) ->
 gu (gv X.prog X.w) (X.A.mark<|some<|.ref x) (eval d X.env) (λv g=>gu (gv X.prog X.w) (X.A.mark<|some<|.ref x) (excMatches (.ref x) v) Q E g) E s
def WR{r:Nat}(e:Gl X f)(g:X.mg f=↑(.ref c))(h:Gl X i)(j:X.mg i=↑(.ref d))(l:kF X.K (.ref c) [.ref c,.ref d]=↑true)(m:kF X.K (.ref d) [.ref c,.ref d]=↑true)
 (t:(f==("__debug__":Str))=false:=by decide) (u:(i==("__debug__":Str))=false:=by decide) :
    ClO X (.Tuple [.Name f D,.Name i F] r pos) [c,d] (some [.ref c,.ref d]):=by
  intro x n p s G H Q E v I ⟨J,y,A⟩ k
  have B:jj (gv X.prog X.w) s.heap (typeOf<|.ref x) (.ref n):=A▸(qT y).andThen .now
  refine wpAny_Tuple_spliced ?_
  refine jt<|yE (X:=hand X x) I e g (jt<|yE (X:=hand X x) I h j (kq ?_) u) t
  refine#[by show 2<=gk;decide,?_]
  have q:∀b o,s.heap.get? b=↑o->(s.heap.push { cls:=.type "tuple",data:=.seq [gF c,gF d].toArray}).get? b=↑o:=λb o z=>ce _ z
  have C:kF X.K (.ref n) [.ref c,.ref d]=↑true:=by
    rcases List.mem_cons.mp v with z|z
    · rw[z]; exact l
    · rw[List.mem_singleton.mp z]; exact m
  refine(PySem.W.exm_tup2 (λa o z=>q a o<|I.xT a o z) (B.keeps q) (gx _ rfl) C).here ?_
  exact k _ #[[.ref c,.ref d],.cons rfl<|.cons rfl .nil,(by show 2<=gk;decide),rfl]
def Inv.adopt(I:Inv X a j H s)(f:Av X a H p)(c:vq X.prog X.w (upd H p o) s.heap p o):Inv X a j (upd H p o) s:=by
 refine e0a6 f λi k r l n q=>?_;have d:∀b u,H b=↑u->b≠p:=λb u e z=>by rw[z,i]at e;cases e
 have J:=I.step (h':=s.heap) (g':=s.gens) (d':=s.drawn) (t':=s.toks) (ch:=[p]) (H':=upd H p o) (λb g=>by rw[List.mem_singleton.mp g];exact#[l,k,n,q]) (λb o _ _ _ e _=>e) (λb o _ _ _ e _=>#[o.slots,e])
  (λb _ g _ e=>by rw[uh λz=>g<|by rw[z];exact List.mem_singleton.mpr rfl];exact e) (λb o _ e=>#[o,e]) (λb t e=>by rw[uh<|d b _ e];exact e) (λb o u e=>by rw[uh<|d b _ e];exact e) (λb v e=>#[#v[],by rw[uh<|d b _ e,e];simp]) (λm h=>h) (I.uV.Vc i c) I.bare
 exact J
def Zg(i:XK->(St->Prop)->List (cr×Obj)->TS)(j:List cr)(o:Option (List V))(k:cr->TS):TS:=λD d H=>∃e:XK,(∀c f b,e c f b->∃C∈j,c=.ref C)/\(∀g,i e (λh=>h=d) g D d H)/\∀(c:ci)(f:Option cr)(b a:Hp),e c f b->Lay o b a->∀x,k x D d a
def TJ(E:X.stack=X.env::X.outer)(Y:ClO X ty Cs o)
 (hb:∀U Φ N,Em (wO X N U Φ) body<|tb U Φ N) (hs:∀x,Em (hand X x) (b0::i)<|th x) :
    PS X (.Try body [.ExceptHandler ↑ty none (b0::i) hp] [] [] tp) (Zg tb Cs o th):=by
  intro d s σ H D I h
  refine e1a3 h λU Z hB hH=>?_
  refine wpAny_Try_except<|iw (hb U _ (X.pn++d) [] s σ H D I.WQ<|hB _) (λO g q=>?_)<|λe g q=>?_
  · cases O with
    |next=>obtain⟨a,c,J,z⟩:=q;exact mX #[a,c,J.Gj,z]
    |brk=>obtain⟨a,c,J,z⟩:=q;exact#[a,c,J.Gj,z]
    |cont=>obtain⟨a,c,J,z⟩:=q;exact#[a,c,J.Gj,z]
    |ret u=>obtain⟨v,a,c,J,r,z⟩:=q;exact#[v,a,c,J.Gj,r,z]
  · obtain⟨aa, k, H1, s0, C', x, c, rfl, J, ab, F, hE⟩ := q
    subst ab
    refine e1a2 (Z _ _ _ hE) λC hC hc=>?_
    cases hc
    have nf:=F.YF J.ZV
    refine e2a2 F.fly λB a0 O ae=>?_
    have af:kS B (X.env::X.outer) x (.ref C') a0 g.heap:=by rw[<- E];exact O
    have ag:X.A.frames=↑(X.env::X.outer):=by rw[<- E];exact J.ok.frames
    have ah:X.env.frame=↑X.env.locals:=w9 I E
    refine wpAny_looks_onW ag ah af λh4 P ai=>wpAny_landsW P λl m aj=>?_
    have j:g.heap.UpToSlots l:=ai.trans aj
    have G:∀(n:hX)(Q:Nat),B.StaysIn n->g.heap.UpToSlots n->Inv X d k c { g with heap:=n,toks:=Q}:=λn Q st up=>by
      obtain⟨u6,ak⟩:=OS F.un F.uV ae nf st up
      have J6:=J.call (h':=n) (g':=g.gens) (d':=g.drawn) (t':=Q) (ch:=[]) u6 ak F.bare<|λb z=>gA z q0o
      have e6:{ s0 with heap:=n,gens:=g.gens,drawn:=g.drawn,toks:=Q}={ g with heap:=n,toks:=Q}:=by
        have:=F.os
        obtain⟨_,_,_,_,an⟩:=g
        obtain⟨_,_,_,_,ao⟩:=s0
        rw[this]
      rw[<- e6]
      exact J6.a0W
    have I5:=G l g.toks m.1 j
    have R:∀(S:Hp)(t:hX),Lay o c S->Inv X d k S { g with heap:=t}->gu (gv X.prog X.w) (X.A.mark<|some<|.ref x) (execs (b0::i) X.env) (λf T=>SP X d D f T) (λ_ _=>False) { g with heap:=t}:=λS t hY I7=>by
      refine iw (hs x d _ k S D I7.OV<|hH _ _ c S hE hY x) (λO s7 q=>?_) λ_ _ z=>z.elim
      cases O with
      |next=>obtain⟨a,c,J,z⟩:=q;exact#[a,c,J.FR I.ok.hd,z]
      |brk=>obtain⟨a,c,J,z⟩:=q;exact#[a,c,J.FR I.ok.hd,z]
      |cont=>obtain⟨a,c,J,z⟩:=q;exact#[a,c,J.FR I.ok.hd,z]
      |ret u=>obtain⟨v,a,c,J,r,z⟩:=q;exact#[v,a,c,J.FR I.ok.hd,r,z]
    refine wpAny_handleBy_cons (codeAny_handlers_test<|Y x C' d { g with heap:=l} k c _ _ hC I5.OV m.there λn hL=>?_) (by intro q;cases q)
    refine codeAny_handlers_suite ?_
    cases o with
    |none =>
      subst hL
      refine lands_againW (s:={ g with heap:=n}) m λt L y=>?_
      exact iw (R c t rfl<|G t g.toks L.1<|j.trans y) (λ_ _ z=>z) λ_ _ z=>z.elim
    |some xs =>
      obtain⟨M,r,hz,rfl⟩:=hL
      have kp:∀b o,l.get? b=↑o->(l.push { cls:=.type "tuple",data:=.seq M.toArray}).get? b=↑o:=λb o z=>ce _ z
      have al:=PySem.W.flying_keeps m kp
      refine lands_againW (s:={ g with heap:=l.push { cls:=.type "tuple",data:=.seq M.toArray}}) al λt L y=>?_
      have I7:=G t g.toks L.1<|(j.trans<|pH kp).trans y
      have n5:c l.objs.size=none:=I5.uV.fresh<|gg _
      obtain⟨sl,e7⟩:=y l.objs.size _ (gx _ rfl) (λvs z=>by cases z)
      have I8:=I7.adopt (p:=l.objs.size) (o:=.tup xs) (I5.Fz (gg _) n5) #[hz,M,r,_,e7,rfl,_,rfl]
      exact iw (R _ t #[_,n5,rfl] I8) (λ_ _ z=>z) λ_ _ z=>z.elim
end L2
namespace WL
variable[L2.GX]
open PySem L2
open Rep (rp)
open Ow (sl)
open Sls (rel)
def BW(X:Cx)(T:cr)(c:List gR){D:Type}[Sls D](w:D->(D->Prop)->(cr->D->Prop)->Prop):Prop:=∀i j h,∃t,Em (wO X h i j) c t/\∀(d:D)(F R:Rg)(b:St)(H:Hp)(k:D->Prop)(l:cr->D->Prop)(m:Ends),j b->vt T F R H d b->w d k l ->
 (∀e f g a,k e->Ch T F R H f g a->vt T f g a e b->m.nx b a)->(∀C y e f g a,l C e->Ch T F R H f g a->vt T f g a e b->i (.ref C) ↑y a)->t m b H
section
variable{D PO τ Zh:Type}[Sls D][Sls PO][Ow τ][Ow Zh]
def TK{h:Pos}{o:List hW}(i:Nat){N P r B I E:Type}[Sls N][Sls P][Sls r][Sls B][Sls I][Sls E][Lb E Zh<|Bd C k×r]{n:B->E->r->D}{O:D->(P->B->E->Prop)->(cr->D->Prop)->Prop}
 {Q:Wf (Bd C k×P) Zh (Bd C k×r)} [A0:At i D (Bd C k) N] [A:At i B (Bd C k) I] [U:Pt i I (Bd C k) B]
 (W:∀a b c d u,(xL a b c d u k).lookup m=none) (Y:∀g j f,JI (wO X f g j) g T (e::o) n O)
 (Z:∀(g:XK)(j:St->Prop) (f:List (cr×pX)) {t:TA},PA (wO X f g j) (e::o) t->PE (wO X f g j) (.Call (.Attribute (.Name x S) m apos) (e::o) [] pos) (P8 (uW X.prog X.w) (wO X f g j) C m (xR T Q) [] g (uR i) t))
 (hs:js (.Call (.Attribute (.Name x S) m apos) (e::o) [] pos) none h.line X.env=pure false:=by rfl) :
    BW X T [.Expr (.Call (.Attribute (.Name x S) m apos) (e::o) [] pos) h] (λ(d:D) J F=>O d (λp b l=>Q (A.get b,p) (λ_ y=>J<|n (U.put (A.hole b) y.1) l y.2)<|λC y=>F C<|n (U.put (A.hole b) y.1) l y.2) F):=by
  intro g j f
  refine e1a2 (Y g j f) λtr b1 b2=>?_
  refine#[_,wV<|AJ (Z g j f b1) hs,λd G R σ H J F En L s hw kn ke=>#[Zf L,?_]]
  refine Ic i W b2 d G R σ H (λ_ M=>J M) F _ s hw (λx M v F1 F2 R' H' q c s' m=>?_) ke
  exact kn M F2 R' H' q (c.less λa z=>.inr z) s'
def Zi{j:Pos}{n:List hW}(i:Nat){H P v B G z:Type}[Sls H][Sls P][Sls v][Sls B][Sls G][Sls z][Lb z Zh<|Bd C q×v]{r:B->z->v->D}{I:D->(P->B->z->Prop)->(cr->D->Prop)->Prop}
 {J:Wf (Bd C q×P) Zh (Bd C q×v)} [A0:At i D (Bd C q) H] [A:At i B (Bd C q) G] [U:Pt i G (Bd C q) B] {k:Nat} {N:List Str} {O:Sem Bool}
 (h:Fm X.prog X.w X.K X.mg X.base T C m N J k) (Q:vI k X.A) (R:Ae X.K C) (S:∀(o:XK)(s:St->Prop) (g:List (cr×pX)),PE (wO X g o s) (.Name x F)<|uR i) (W:∀(o:XK)(s:St->Prop) (g:List (cr×pX)),JI (wO X g o s) o T (e::n) r I) (Y:∀a b c d u,(xL a b c d u q).lookup m=none:=by intros;rfl)
 (Z:gf (e::n) X.env=(false,eval e X.env)::gf n X.env:=by rfl) (h2:(iN pos<|gf n X.env).any (·.1)=false:=by rfl)
 (h3:eval (.Call (.Attribute (.Name x F) m apos) (e::n) [] pos) X.env=(do
 let L <- eval (.Name x F) X.env
 md apos.atName
 let (f,first) <- jY [L] (lV L m O)
 mH pos f first (iN pos (gf (e::n) X.env)) (mf pos (jZ [] X.env))):=by rfl)
 (hs:js (.Call (.Attribute (.Name x F) m apos) (e::n) [] pos) none j.line X.env=pure false:=by rfl) :
    BW X T [.Expr (.Call (.Attribute (.Name x F) m apos) (e::n) [] pos) j] (λ(d:D) Kn M=>I d (λp b l=>J (A.get b,p) (λ_ y=>Kn<|r (U.put (A.hole b) y.1) l y.2)<|λC y=>M C<|r (U.put (A.hole b) y.1) l y.2) M) :=
  TK i Y W (λo s g {t} b1=>P9 (X:=wO X g o s) (CX:=uW X.prog X.w) (E:=o) (S o s g) R h.me h.ok Q h.bd .nil b1 Z h2 h3) hs
def TL{j b:List gR}{G:List cr}{o:Option (List V)}{wb:D->(D->Prop)->(cr->D->Prop)->Prop}{I:D->(D->Prop)->(τ->PO->Prop)->(cr->PO->Prop)->Prop}(J:X.stack=X.env::X.outer)(L:ClO X ty G o)
 (M:BW X T j wb) (z:∀k,SW (hand X k) E T ms n (b0::b) I) :
    S1 X E T ms n (.Try j [.ExceptHandler ↑ty none (b0::b) hp] [] [] tp) (λ(d:D)(u:D->Prop)(A:τ->PO->Prop) B=>wb d u λC a=>C∈G/\I a u A B):=by
  refine#[_,TJ (tb:=λN O f=>(M N O f).choose) (th:=λk=>(z k).choose) J L (λN O f=>(M N O f).choose_spec.1)<|λk=>(z k).choose_spec.1,λd F R r H u A B P s hw kn kr ke=>?_]
  refine#[λc _ l=>∃C a h i,c=.ref C/\C∈G/\I a u A B/\Ch T F R H h i l/\vt T h i l a r,?_,λf=>?_,?_]
  · rintro c ox l ⟨C, a, h, i, e, m, _⟩
    exact#[C,m,e]
  · exact(M _ _ f).choose_spec.2 d F R r H _ _ P rfl s hw (λa h i l q c Q => kn a h i l r q c Q<|Ag.refl _ _) λC y a h i l q c Q => #[C, a, h, i, rfl, q.1, q.2, c, Q]
  · rintro c ox l aa ⟨C, a, h, i, e, m, S, t, st⟩ hL k
    have go:∀{w:Hp},Ch T F R H h i w->vt T h i w a r->(z k).choose P r w:=λ{w} t st=>(z k).choose_spec.2 a h i r w u A B P st S (λd1 F1 R1 H1 U q c s1 g=>kn d1 F1 R1 H1 U q (Ch.trans s st.tab t c) s1 g) (λx W v M1 M2 Y Z q4 c4 S4 n4=>kr x W v M1 M2 Y Z q4 (Ch.trans s st.tab t c4) S4 n4) λC y W F4 Y Z q4 c4 S4=>ke C y W F4 Y Z q4 (Ch.trans s st.tab t c4) S4
    cases o with
    |none =>
      rw[hL]
      exact go t st
    |some xs =>
      obtain⟨p,hp,rfl⟩:=hL
      refine e0a3 (st.new (.tup xs) hp) λs3 c3 _=>?_
      exact go (Ch.trans s st.tab t c3) s3
end
structure Zj(q:Cq)(C1 C2:cr)(y1 y2:Str):Prop where
 m1:q.mg y1=↑(.ref C1)
 m2:q.mg y2=↑(.ref C2)
 x1:kF q.K (.ref C1) [.ref C1,.ref C2]=↑true
 x2:kF q.K (.ref C2) [.ref C1,.ref C2]=↑true
end WL
namespace L2
variable[L2.GX]
open PySem PySem.Spec PyProof.Rows
def zw:Slot "wrapper_descriptor" "__get__" "wrapper_descriptor.__get__":=.of (owner:="wrapper_descriptor") (n:="__get__") (by rw[mZ,kQ];kernel_rfl) q0s q0s q0s
 (.inl<|by kernel_rfl) (by rw[sj];kernel_rfl)
def Gk:sg sY "wrapper_descriptor.__get__"=↑Builtin.«wrapper_descriptor.__get__»:=entryFor_of_tree (by kernel_rfl)
def Ih(a b c:ci):qQ "wrapper_descriptor.__get__" #[[a,b,c],[]]:=by unfold qQ;kernel_rfl
def yP:typeOf (.builtin "ValueError.__init__")=pure (.type "wrapper_descriptor"):=by kernel_rfl
noncomputable def Zk(obj cls:ci)(name:Str):Sem Unit:=do
  rule "descr.get.wrong-instance"
  raiseError "TypeError" s!"descriptor '{name.toString}' for '{← typeName cls}' objects doesn't apply to a '{← typeNameOf obj}' object"
def Nb(x C:cr):Builtin.«wrapper_descriptor.__get__» #[[.builtin "ValueError.__init__",.ref x,.ref C],[]]=((isInstance (.ref x) (.type "ValueError") >>= λb=>if (!b)=true then Zk (.ref x) (.type "ValueError") "__init__" else pure ()) >>= λ_=>newFields "method-wrapper" [.builtin "ValueError.__init__",.ref x] >>= ret):=by kernel_rfl
section
variable{prog:gV}{w:ii}{A:iW}{E:ci->gn->Prop}{h:hX}{g:Array oB}{d:Drawn}{t:Nat}{os:OsState}{so D x C:cr}{ox:Obj}{l0 l:List ci}{K:f9}
def DM(c:h.get? x=↑ox)(b:ox.cls=.ref C)(a:jj (gv prog w) h (isSubtype (.ref C)<|.type "ValueError") true)
 (e:R (.ok<|.ret<|.ref h.objs.size) #[h.push { cls:=.type "method-wrapper",data:=.fields #v[.builtin "ValueError.__init__",.ref x]},g,d,t,os]) :
    lM (gv prog w) A (.call (.builtin "wrapper_descriptor.__get__") #[[.builtin "ValueError.__init__",.ref x,.ref C],[]]) R #[h,g,d,t,os]:=by
  have f:(#[h,g,d,t,os]:gn).TypeIs (.builtin "ValueError.__init__") "wrapper_descriptor":=by first|exact lU yP|exact yP
  refine mM zw.plain Gk<|zw.check _ _ _ _ _ _ _ _ f (Ih _ _ _) ?_
  rw[Nb]
  refine am<|am ?_
  refine am<|wpAny_typeOf_ref c ?_
  rw[b]
  refine PySem.W.Looks.at a ?_
  exact ap<|am<|hR<|ap e
def Ii(a:h.get? so=↑(oO D x C))(c:jj (gv prog w) h (opaqueClassAbove<|.ref C) none)(j:jj (gv prog w) h (mroOf<|.ref C) l0)(k:(l0.dropWhile (· != .ref D)).drop 1=l)(X:K.In h)
 (m:tD K "__init__" l=↑(some<|.builtin "ValueError.__init__")) (n:h.get? x=↑ox) (e:ox.cls=.ref C) (b:jj (gv prog w) h (isSubtype (.ref C)<|.type "ValueError") true) (f:x≠C)
 (o:Q (.done<|.ret<|.ref h.objs.size) #[h.push { cls:=.type "method-wrapper",data:=.fields #v[.builtin "ValueError.__init__",.ref x]},g,d,t,os]) :
    gu (gv prog w) A (Builtin.«super.__getattribute__» #[[.ref so,.str "__init__" y],[]]) Q E #[h,g,d,t,os]:=by
  have lk:=zw.lookup
  have p:(gF x==gF C)=false:=by simp[f]
  have q:(("__init__":Str)==("__class__":Str))=false:=by decide
  have r:(#v[.ref D,.ref x,.ref C]:Array ci)[0]?=↑(.ref D):=rfl
  have s:(#v[.ref D,.ref x,.ref C]:Array ci)[1]?=↑(.ref x):=rfl
  have u:(#v[.ref D,.ref x,.ref C]:Array ci)[2]?=↑(.ref C):=rfl
  have i:(oO D x C).data=.fields #v[.ref D,.ref x,.ref C]:=rfl
  have v:=yP
  repeat (first|(with_reducible refine iC a i r ?_)|(with_reducible refine iC a i s ?_)|(with_reducible refine iC a i u ?_)|(with_reducible refine ks_wpAny_notOpaque c ?_)|(with_reducible refine PySem.W.Looks.at j ?_;rw[k])|(refine ks_forIn_along X (λ_ _=>rfl) rfl ?_ m)|(with_reducible refine lW v ?_)|(simp only[q,p,rf,kh,oF])|wp_step|dsimp only)
  exact DM n e b<|am<|ap<|ap<|ap o
end
section
variable{prog:gV}{w:ii}{A:iW}{E:ci->gn->Prop}{h:hX}{g:Array oB}{d:Drawn}{t:Nat}{os:OsState}
variable{nm q:Str}{C N:cr}{bs bm Cw:List ci}{hdct:Bool}{sn:List Str}{sub:List ci}{ab:Bool}{col:Option Bool}{dd:Option cr}{k0 k1 k2 k3 k5:Option ci}{B newId xn:String}
def Ai(F:jK B newId xn Cw)(T:rP h Cw bm){a:List ci} 
 (i:h.get? C=↑(i9 nm q C N bs bm hdct sn sub ab col dd k0 k1 k2 k3 k5 newId)) (u:h.Ns N v) (y:v "__init__"=↑(.ref n))
 (k:h.get? n=↑z) (l:z.cls=.type "function")
 (D:∀p e,qM h p e (.ref C) a ->
 gu (gv prog w) A (call (.ref n) (.ref e::a)) (λr s=>r=.none/\Q (.done (.ret (.ref e))) s) E #[p,g,d,t,os]) (hrest:a.length<=gk:=by size_fits) :
    gu (gv prog w) A (Builtin.«type.__call__» #[.ref C::a,[]]) Q E #[h,g,d,t,os]:=by
  repeat (first|with_reducible refine jf i ?_|with_reducible refine wpAny_madeBy_exc i ?_|wp_step)
  refine codeAny_call_builtin_code (mU _ F.quiet)<|wpAny_check_new_subT F T i ?_
  refine codeAny_exc_new_subT F T i ?_ hrest
  have j:∀b o,h.get? b=↑o->((h.push { cls:=.type "tuple",data:=.seq a.toArray}).push { cls:=.ref C,data:=.fields #v[.ref h.objs.size,.none,.none,.none,.bool false,.none]}).get? b=↑o:=λb o e=>ce _<|ce _ e
  have c:=j _ _ i
  have f:((h.push { cls:=.type "tuple",data:=.seq a.toArray}).push
      { cls:=.ref C,data:=.fields #v[.ref h.objs.size,.none,.none,.none,.bool false,.none]}).get? (h.objs.size+1)=some
      { cls:=.ref C,data:=.fields #v[.ref h.objs.size,.none,.none,.none,.bool false,.none]}:=by heap_get
  have m:(gF C::bm).contains (.ref C)=true:=by simp
  repeat (first|with_reducible refine jf f ?_|(with_reducible refine pZ c ?_;rw[m])|wp_step)
  refine wpAny_typeLookup_tail c (u.keeps j) (T.keeps j) F.mroIs F.init.lookup ?_
  rw[y]
  refine gY<|am ?_
  refine am<|j0 (T:="function") #[_,j _ _ k,l] ?_
  rw[ga q0q]
  refine ap<|am<|iw (D _ (h.objs.size+1) ⟨j,mn<|kP _,h.objs.size,f,mn<|gg _,ce _<|nw rfl rfl⟩) (λr s G=>?_) λ_ _ x=>x
  obtain⟨rfl,H⟩:=G
  wp_walk
  exact H
def DN(F:jK B newId xn Cw)(T:rP h Cw bm){a:List ci} 
 (c:h.get? C=↑(i9 nm q C N bs bm hdct sn sub ab col dd k0 k1 k2 k3 k5 newId)) (k:h.Ns N l) (m:l "__init__"=↑(.ref j))
 (f:h.get? j=↑n) (i:n.cls=.type "function")
 (o:∀b e,qM h b e (.ref C) a ->
 gu (gv prog w) (A.under (.builtin "type.__call__" #[.ref C::a,[]])) (call (.ref j) (.ref e::a)) (λr p=>r=.none/\Q (.ref e) p) E #[b,g,d,t,os]) (hrest:a.length<=gk:=by size_fits) :
    gu (gv prog w) A (call (.ref C) a) Q E #[h,g,d,t,os]:=by
  have u:=tc_lookup
  have v:=tc_bind<|.ref C
  refine lS<|lO ?_
  repeat (any_goals (first|assumption|with_reducible refine jf c ?_|wp_step))
  refine#[rfl,?_]
  exact codeAny_call_builtin_at (mU _ q0s) entry_typeCall<|wpAny_check_type_call_sub c<|Ai (hrest:=hrest) F T c k m f i λb e s=>o b e s
end
noncomputable def zx(x:cr):Obj:={ cls:=.type "method-wrapper",data:=.fields #v[.builtin "ValueError.__init__",.ref x]}
section
variable{prog:gV}{w:ii}{A:iW}{E:ci->gn->Prop}{h:hX}{g:Array oB}{d:Drawn}{t:Nat}{os:OsState}{so D x C:cr}{ox:Obj}{l0 l:List ci}{K:f9}
def AF(a:h.get? so=↑(oO D x C))(f:jj (gv prog w) h (opaqueClassAbove<|.ref C) none)(n:jj (gv prog w) h (mroOf<|.ref C) l0)(o:(l0.dropWhile (· != .ref D)).drop 1=l)(X:K.In h)
 (p:tD K "__init__" l=↑(some<|.builtin "ValueError.__init__")) (q:h.get? x=↑ox) (i:ox.cls=.ref C) (b:jj (gv prog w) h (isSubtype (.ref C)<|.type "ValueError") true) (j:x≠C)
 (r:Q (.ref h.objs.size,[]) #[h.push<|zx x,g,d,t+1,os]):gu (gv prog w) A (lV (.ref so) "__init__" y) Q E #[h,g,d,t,os]:=by
  have c:=F.ks_slot_super_ga.lookup
  have e:=F.ks_canon_super_ga
  have k:∀s,(#[h,g,d,s,os]:gn).TypeIs (.ref so) "super":=λ_=>#[_,a,rfl]
  refine am<|o6 (k _) c ?_
  show gu _ _ (if (Manifest.canonical "super.__getattribute__" != "object.__getattribute__")=true then _ else _) _ _ _
  rw[ga e]
  refine am<|am<|wpAny_mkText<|gY<|am<|j0 (k _)<|am<|lW c ?_
  refine am<|lW (show (if onTheHeap (.type "super") then mB (.type "super") "__getattr__" else pure none)=pure none from rfl) ?_
  refine am<|oq<|gY ?_
  refine am<|lW (F.ks_slot_super_ga.bind _) ?_
  refine iw (Q:=λv m=>v=.ref h.objs.size/\m=#[h.push<|zx x,g,d,t+1,os]) (E:=λ_ _=>False)
    (ij F.ks_slot_super_ga (k _) F.ks_entry_super_ga (Ii a f n o X p q i b j #[_,rfl,rfl,rfl])<|F.ks_gaArgs_super _ _) (λv m u=>?_) λ_ _ z=>z.elim
  obtain⟨rfl,rfl⟩:=u
  exact ap<|ap r
def Qa(h:hX)(e:h.get? q=↑(zx x)):∃k,(k=Keeper.frame\/k=Keeper.machine\/k=Keeper.boundFrame)/\jj M h (keeperOf<|.ref q) k :=
 #[.machine,.inr<|.inl rfl,(qT (part:=none) e).andThen .now]
variable{nm q:Str}{N:cr}{bs bm Cw:List ci}{hdct:Bool}{sn:List Str}{sub:List ci}{ab:Bool}{col:Option Bool}{dd:Option cr}{k0 k1 k2 k3 k5:Option ci}{newId:String}
def BM(F:jK "ValueError" newId "ValueError.__init__" Cw){c:List ci} 
 (f:h.get? C=↑(i9 nm q C N bs bm hdct sn sub ab col dd k0 k1 k2 k3 k5 newId)) (i:h.get? x=↑ox) (e:ox.cls=.ref C) (j:Q () #[h,g,d,t,os]) :
    gu M A (checkBoundCall "ValueError.__init__" #[.ref x::c,[]]) Q E #[h,g,d,t,os]:=by
  simp only[checkBoundCall,F.initKind,F.initRow]
  rw[ga q0q]
  repeat (first|(with_reducible refine jf i ?_;rw[e])|with_reducible refine jf f ?_|wp_step)
  refine ou ?_
  rw[show ∀(a b:String)(n:Nat),Bind.check #[.positional,"*","ValueError",.self,[#["args",.varPos,false]]] a b n (List.map (λx=>x.fst) ({ pos:=gF x::c}:Args).kw)=pure () from
    λa b n=>check_star_args _ _ _ _ _ _]
  exact ap j
def TM(F:jK "ValueError" newId "ValueError.__init__" Cw){a:List ci}(o:h.get? C=↑(i9 nm q C N bs bm hdct sn sub ab col dd k0 k1 k2 k3 k5 newId))(e:h.get? p=↑(zx x))(j:h.get? x=↑ox)(f:ox.cls=.ref C)(k:ox.data=.fields m)(n:m[0]?=↑(.ref s))
 (r:Q .none #[(h.push { cls:=.type "tuple",data:=.seq a.toArray}).update x (Obj.mapFields (·.setIfInBounds 0 (.ref h.objs.size))),g,d,t,os]) (c:a.length<=gk:=by size_fits) :
    gu (gv prog w) A (call (.ref p) a) Q E #[h,g,d,t,os]:=by
  refine lS<|lO ?_
  refine am<|qd e ?_
  refine am<|BM F o j f<|ap #[j9 F.init.plain _,ji F.initEntry ?_]
  rw[iY F.init.plain]
  unfold Builtin.«BaseException.__init__»
  dsimp only
  rw[gc q0o]
  have i:0<m.size:=(Array.getElem?_eq_some_iff.mp n).1
  have b:=ce (h:=h) { cls:=.type "tuple",data:=.seq a.toArray} j
  refine am<|hR (am<|am<|iC b k n<|am<|mj b k i ?_) (by show a.toArray.size<=gk;rw[gy];exact c)
  exact rn<|ap r
end
open Builtin Builtin.ObjectAttr
section
variable{prog:gV}{w:ii}{A:iW}{E:ci->gn->Prop}{h:hX}{g:Array oB}{d:Drawn}{t:Nat}{os:OsState}{x C N:cr}{o:Obj}{v:ci}{name:Str}
variable{nm q:Str}{bs bm Cw:List ci}{sn:List Str}{sub:List ci}{ab:Bool}{col:Option Bool}{dd:Option cr}{k0 k1 k2 k3 k5:Option ci}{B newId sa owner:String}
def Nc(e:StoreFacts B Cw sa owner)(f:bm.contains (.type owner)=true)
 (l:h.get? C=↑(i9 nm q C N bs bm true sn sub ab col dd k0 k1 k2 k3 k5 newId)) (m:h.get? x=↑o) (n:o.cls=.ref C) (j:Q () #[h,g,d,t,os]) :
    gu M A (checkBuiltinCall sa #[[.ref x,a,v],[]]) Q E #[h,g,d,t,os]:=by
  have i:(gF C::bm).contains (.type owner)=true:=by rw[tE,f,Bool.or_true]
  have k:=e.args (.ref x) a v
  simp only[checkBuiltinCall,e.kind,e.split]
  refine am ?_
  repeat (first|(with_reducible refine jf m ?_;rw[n])|(with_reducible refine pZ l ?_;rw[i])|wp_step)
  cases b:Manifest.signature? sa with
  |none=>exact ap j
  |some c =>
    simp only[qQ,b]at k
    have p:Bind.checkArgs sa c #[[.ref x,a,v],[]]=pure ():=k
    show gu M A (Bind.checkArgs sa c #[[.ref x,a,v],[]]) Q E _
    rw[p];exact ap j
set_option tactic.hygienic true in
def JU(m:sw (.ref x) "__setattr__" bm=pure ())
 (P:h.get? C=↑(i9 nm q C N bs bm true sn sub ab col dd k0 k1 k2 k3 k5 newId)) (L2:jj (gv prog w) h (mB (.ref C) name) none)
 (l:h.get? x=↑o) (R:o.cls=.ref C) (n:∀c,o.data≠.cls c) (p:o.dict=none)
 (S:∀i r s,h.get? s=none->(∀b u,b≠x->h.get? b=↑u->i.get? b=↑u)->i.get? x=some { cls:=o.cls,dict:=↑s,data:=o.data,slots:=o.slots}->i.Ns1 s (λy=>if y=name then some v else none)->Q (.done<|.ret .none) #[i,g,d,r,os]) :
    gu (gv prog w) A (Builtin.«object.__setattr__» #[[.ref x,.str name Z,v],[]]) Q E #[h,g,d,t,os]:=by
  repeat (first|rw[refuse_eq]|(rw[refuseLoop_ref,m])|(with_reducible refine jf l ?_;rw[R])|with_reducible refine wpAny_mroOf_exc P ?_|(with_reducible refine PySem.W.Looks.at L2 ?_)|wp_step)
  rw[p,gc<|by simp[typeHasDict]]
  split
  · rename_i f
    cases f
  split
  · rename_i c f
    exact gA f<|n c
  · have a : (h.push { cls := .type "dict", data := .dict #v[] }).get? x = some o := ce _ l
    have j:x≠h.objs.size:=gB<|gp l
    refine am<|wpAny_alloc' ?_
    refine am<|wpAny_update' a ?_
    refine ap ?_
    have z:((h.push { cls:=.type "dict",data:=.dict #v[]}).update x λo=>{ cls:=o.cls,dict:=↑h.objs.size,data:=o.data,slots:=o.slots}).get? h.objs.size
       =some { cls:=.type "dict",data:=.dict #v[]} :=
      (pc _ _ _ _ j.symm).trans (nw rfl rfl)
    have D:((h.push { cls:=.type "dict",data:=.dict #v[]}).update x λo=>{ cls:=o.cls,dict:=↑h.objs.size,data:=o.data,slots:=o.slots}).Ns h.objs.size (λ_=>none) :=
      #[_,#v[],_,z,rfl,λe T=>gA T q0o,λ_=>rfl]
    refine am<|ap<|am<|wpAny_nsSet1 (rT D) λi k M=>?_
    obtain⟨oD,U,X,F,G,H⟩:=k.count<|Within.cons name v Within.nil
    refine am<|wpAny_lookBehind F (by rw[G];exact pastItsLine_dict<|gW H<|by rw[gK,mu,iB];lia) ?_
    wp_walk
    refine S i _ h.objs.size (mn<|gg _) (λb u I O=>?_) ?_ k
    · exact(M.2 b<|gB<|gp O).trans<|(pc _ _ _ _ I).trans<|ce _ O
    · refine(M.2 x j).trans (ie _ a ?_)
      have J:=(Heap.get?_some_iff.mp l).2
      obtain⟨oc,od,L,Y⟩:=o
      cases L<;>first|rfl|exact J
def Ij(i:StoreFacts B Cw sa owner)(j:bm.contains (.type owner)=true)(k:sw (.ref x) "__setattr__" bm=pure ())
 (r:h.get? C=↑(i9 nm q C N bs bm true sn sub ab col dd k0 k1 k2 k3 k5 newId)) (u:jj (gv prog w) h (mB (.ref C) "__setattr__") (some<|.builtin sa)) (L2:jj (gv prog w) h (mB (.ref C) name) none)
 (l:h.get? x=↑o) (m:o.cls=.ref C) (n:∀c,o.data≠.cls c) (p:o.dict=none)
 (z:∀e a f,h.get? f=none->(∀b s,b≠x->h.get? b=↑s->e.get? b=↑s)->e.get? x=some { cls:=o.cls,dict:=↑f,data:=o.data,slots:=o.slots}->e.Ns1 f (λy=>if y=name then some v else none)->Q () #[e,g,d,a,os]) :
    gu (gv prog w) A (setAttr (.ref x) name v) Q E #[h,g,d,t,os]:=by
  have I:=i.slot.bind<|.ref x
  repeat (any_goals (first|assumption|(with_reducible refine jf l ?_;rw[m])|(with_reducible refine PySem.W.Looks.at u ?_)|wp_step))
  refine mM i.slot.plain i.entry<|Nc i j r l m<|JU k r L2 l m n p λe a f D F G H=>?_
  repeat (any_goals (first|assumption|wp_step))
  exact z e a f D F G H
end
def Zl(C x:cr)(d:Option cr)(h:hX):Prop:=∃(a:cr),h.get? x=some { cls:=.ref C,dict:=d,data:=.fields #v[.ref a,.none,.none,.none,.bool false,.none]}
noncomputable def CP(C x:cr)(d:Option cr):HO:=.ext<|Zl C x d
def Gm(I:Inv X a c H s)(h:H x=↑(CP C x b)):Zl C x b s.heap:=(I.uV x _ h).1
def JV(q:Zl C x b h):vq P w H h x (CP C x b) :=
 #[q,e1a1 q λ_ e=> #[_,e],λf g a=>e1a1 a λc d k=>#[c,k _ d]]
def cw_mw(i:gf (e::f) b=(false,eval e b)::gf f b)(c:(iN pos<|gf f b).any (·.1)=false)
 (h:gu M B (tH<|iN pos<|gf (e::f) b) (λj d=>d.heap.get? q=↑(zx a)/\gu M B (call (.ref q) j) Q g d) g k):gu M B (mH pos (.ref q) [] (iN pos<|gf (e::f) b) []) Q g k:=by
  rw[i]at h ⊢
  exact oM (P:=λh=>h.get? q=↑(zx a)) (by show ((false||(iN pos<|gf f b).any (·.1))||false)=false;rw[c];rfl) Qa<|iZ h
def Zm(C:cr)(t:TA):TE:=λb H Q=>∃a,b[0]?=↑(some<|.ref a)/\H a=some (CP C a none)/\t b H λd c=>d.length<=gk/\c a=↑(CP C a none)/\Q .vT c
section
variable{P:gV}{w:ii}{K:f9}{mg:Str->Option ci}{base:hX}{N:List Str}{qual:Str}{scope:k9}{f yB cc:cr}{A:iW}{outer:List Env}{s:gn}{H:Hp}{E:XK}{C:cr}{x0:Str}{fb:List gR}{p0 p1 apos pos:Pos}{es:List hW}{e0:hW}{ta:TA}
variable{nm q:Str}{Ns:cr}{bs bm:List ci}{hdct:Bool}{sn:List Str}{sub:List ci}{ab:Bool}{col:Option Bool}{dd:Option cr}{k0 k1 k2 k3 k5:Option ci}
set_option tactic.hygienic true in
def Qb(S:JQ P K C f yB cc x0)(ae:N[0]?=↑x0)(U:scope.names.lookup ("super":Str)=some .globalImplicit)(X:scope.names.lookup ("__class__":Str)=some .free)(B:scope.names.lookup x0=some .local)(af:mg "super"=none)
 (lC:K.lookup C=↑(i9 nm q C Ns bs bm hdct sn sub ab col dd k0 k1 k2 k3 k5 "ValueError.__new__")) (hm:jq K C C "__init__"=↑(some<|.builtin "ValueError.__init__")) (ag:kf K C (.type "ValueError")=↑true)
 (ha:PA (JO (uW P w) P w K mg base N qual scope f (.ref yB) [("__class__",cc)] A outer s H E) (e0::es) ta)
 (he:gf (e0::es) (ik qual scope ⇑s f (.ref yB) [("__class__",cc)])=(false,eval e0<|ik qual scope ⇑s f (.ref yB) [("__class__",cc)])::gf es (ik qual scope ⇑s f (.ref yB) [("__class__",cc)]))
 (l:(iN pos<|gf es<|ik qual scope ⇑s f (.ref yB) [("__class__",cc)]).any (·.1)=false) (D:Na p0 p1 apos pos "__init__" (e0::es)) :
    Z3 (JO (uW P w) P w K mg base N qual scope f (.ref yB) [("__class__",cc)] A outer s H E) fb (.Call (.Attribute (.Call (.Name "super" p0) [] [] p1) "__init__" apos) (e0::es) [] pos) (Zm C ta):=by
  intro n i σ H1 Q I h
  refine e1a3 h λa h0 ea h=>?_
  have Y:=I.xT
  obtain⟨oc,od,fd,au,Z,lf,hp,rfl⟩:=S.fn
  obtain⟨av,aw,ax,an,file,tf,lc,ah,G⟩:=S.code
  obtain⟨ao,aq,aa,L⟩:=S.cell
  obtain⟨cd,j⟩:=S.cls
  obtain⟨t0,O⟩:=Gm I ea
  refine e1a2 I.loc λmL hn hl=>?_
  refine e1a2 (hl 0 Z.arg (.ref a) ae h0<|.inl B) λu ru lk=>?_
  obtain rfl:u=gF a:=ru
  have ai:mL Z.arg=↑(.ref a):=by
    rcases lk with⟨_,q⟩|⟨q,_⟩
    · exact q
    · have q : scope.names.lookup Z.arg = some .cell \/ scope.names.lookup Z.arg = some .free := q
      rw[B]at q
      rcases q with q|q<;>cases q
  obtain⟨oD,M,R⟩:∃oD,i.heap.get? C=some oD/\oD.data=.cls cd:=by
    unfold lX at j
    split at j
    · rename_i c d ay sl ho
      cases j
      exact#[_,Y _ _ ho,rfl]
    · cases j
  refine e1a2 I.mod.blt λmb aj ak=>?_
  have ne:a≠C:=λz=>by
    rw[z,M]at O
    cases O
    cases R
  obtain⟨pl,D⟩:=D<|ik qual scope ⇑s f (.ref yB) [("__class__",cc)]
  refine ks_wpAt_MethodCall (pl:=pl) (ks_wpAt_super_base (env:=ik qual scope ⇑s f (.ref yB) [("__class__",cc)]) U X q0q rfl (Y _ _ lf) rfl hp rfl (Y _ _ lc) rfl ah G S.top ?_) D
  refine qm I.ok.kind U<|m9 (env:=ik qual scope ⇑s f (.ref yB) [("__class__",cc)]) (I.mod.glob.keeps I.bk) af (aj.keeps I.bk) ((ak _ q0s).trans rfl) #[rfl,?_]
  refine pQ I.ok.kind X rfl #[_,Y _ _ L,rfl] ?_
  refine jX I.ok.kind B hn ai ?_
  refine ks_wpAny_isType_cls (h:=i.heap) (g:=i.gens) (d:=i.drawn) (t:=i.toks) (os:=i.os) M R #[rfl,?_]
  refine ks_wpAny_call_super (h:=i.heap) (g:=i.gens) (d:=i.drawn) (t:=i.toks) (os:=i.os) M R O rfl (λc e=>by cases e) (oN Y S.sub) λp e k'=>?_
  have T:Inv _ n σ H1 #[p,i.gens,i.drawn,i.toks,i.os]:=I.kept (t':=i.toks) k'
  unfold jq at hm
  rw[j]at hm
  refine AF e (rG T.xT S.opq) (l0:=cd.mro) (λA Q E s k q=>am<|(oE T.xT j) A _ E s k<|ap q) rfl T.xT hm (k' _ _ O) rfl (oN T.xT ag) ne ?_
  have I2:Inv _ n σ H1 #[p.push<|zx a,i.gens,i.drawn,i.toks+1,i.os]:=T.kept (t':=i.toks+1) λb o z=>ce _ z
  have fr:H1 p.objs.size=none:=T.uV.fresh<|gg _
  have gq:(p.push<|zx a).get? p.objs.size=↑(zx a):=nw rfl rfl
  have I3:=I2.pinned (fp:=[p.objs.size]) (λb y=>by rw[List.mem_singleton.mp y];exact T.Fz (gg _) fr) λb y=>by rw[List.mem_singleton.mp y];exact#[_,gq,λv z=>by cases z]
  refine cw_mw (a:=a) he l<|uT (ha pos _ _ σ H1 _ I3 h) λus s2 z9=>e2a5 z9 λvs H2 I4 r q1 q2 q3=>?_
  have g2:s2.heap.get? p.objs.size=↑(zx a):=(I4.pin (p.objs.size,zx a)<|gI _<|gI _<|wJ gh gq).1
  refine#[g2,?_]
  have I5:=I4.ze
  obtain⟨t1,O1⟩:=Gm I5 q2
  have al:=I5.xT
  obtain⟨m,g5,d5,t5,az⟩:=s2
  refine TM gM (al _ _ lC) g2 O1 rfl rfl rfl ?_ (by show us.length<=_;rw[<- r.length];exact q1)
  have hu:upd H2 a (CP C a none)=H2:=by
    funext b
    by_cases y:b=a
    · rw[y, uk, q2]
    · rw[uh y]
  have O2:=ie (f:=Obj.mapFields (·.setIfInBounds 0 (.ref m.objs.size))) (ce { cls:=.type "tuple",data:=.seq us.toArray} O1) rfl
  have J:=I5.write (x:=a) (e:=a) (o:=CP C a none) (t':=t5) (h':=(m.push { cls:=.type "tuple",data:=.seq us.toArray}).update a (Obj.mapFields (·.setIfInBounds 0 (.ref m.objs.size)))) (by rw[q2];trivial) (.inl rfl)
    (λb u y z=>by rw[pc _ _ _ _ y];exact ce _ z) #[_,O2] (JV #[m.objs.size,O2])
  rw[hu]at J
  exact#[.vT,H2,J,rfl,q3]
end
def w4.a1n{s:hX}(k:w4 P w H h)(t:H a=↑(CP C a none))(n:h.get? l=none)(x:∀b o,b≠a->h.get? b=↑o->s.get? b=↑o)(q:Zl C a d s)(D:s.Ns1 l (λz=>if z=f then some u else none))(r:RelV y u) :
  w4 P w (upd (upd H l<|.xd [(f,y)]) a<|CP C a d) s/\∀A,Un A [] H (upd (upd H l<|.xd [(f,y)]) a<|CP C a d) h s:=by
 have E:∀b v,H b=↑v->b≠l:=λb v z e=>by obtain⟨o,i⟩:=zR k z;rw[e,n]at i;cases i
 have j:∀b v,H b=↑v->(∀B,v≠.ext B)->upd (upd H l<|.xd [(f,y)]) a (CP C a d) b=some v:=λb v z e=>by rw[uh λi=>by rw[i,t]at z;cases z;exact e _ rfl,uh<|E b v z];exact z
 refine#[λb o z=>?_,λA=>#[λb o z e _ _=>x b o (λi=>by rw[i,t]at e;cases e) z,λb o z e _ _=>#[o.slots,x b o (λi=>by rw[i,t]at e;cases e) z],λb o z e _=>?_,λb o z _=>?_,λb B z=>j b _ z (λ_ e=>by cases e),λb o v z=>j b _ z (λ_ e=>by cases e),λb I z=>#[#v[],by rw[j b _ z<|λ_ e=>by cases e];simp]]]
 ·by_cases e:b=a
  ·subst e;rw[uk]at z;cases z;exact JV q
  ·rw[uh e]at z;by_cases i:b=l
   ·subst i;rw[uk]at z;cases z;refine#[_,D,λg=>?_];by_cases m:g=f
    ·rw[m,List.lookup_cons_self,ga rfl];exact r
    ·rw[g8,beq_false_of_ne m,gc m];exact True.intro
   ·rw[uh i]at z;refine(k b o z).Co (λc v p y=>x c v (λm=>?_) y) (λc y=>j c _ y λ_ e=>by cases e) λc J y=>j c _ y λ_ e=>by cases e
    rcases p with p|p
    ·exact e<|p▸m
    ·rw[m,t]at p;cases p
 ·have F:b≠a:=λi=>by rw[i,t]at e;cases e
  have G:b≠l:=λi=>by rw[i,n]at z;cases z
  rw[uh F,uh G];exact e
 ·by_cases e:b=a
  ·obtain⟨_,q⟩:=q;rw[e];exact#[_,q]
  ·exact#[_,x b o e z]
def Zn(C:cr)(f:Str)(e g:TE):TS:=λD c H=>g c H λy h=>e c h λx d=>∃a,x=.ref a/\d a=↑(CP C a none)/\∀b,d b=none->b≠a->D.nx c (upd (upd d b<|.xd [(f,y)]) a<|CP C a<|↑b)
def TN(L:PE X o M)(N:PE X value P)(Q:js value (some<|.Attribute o f e) pos.line X.env=pure false)
 (R:X.K.lookup C=↑(i9 nm q C Ns bs B true sn sub ab S dd k0 E G k3 k5 l)) (m:B.contains (.type "object")=true) (n:∀x:cr,sw (.ref x) "__setattr__" B=pure ())
 (T:gQ X.K (.ref C) "__setattr__"=↑(some<|.builtin "object.__setattr__"))(U:gQ X.K (.ref C) f=↑none):PS X (.Assign [.Attribute o f e] value pos) (Zn C f M P):=by
  intro b s p H D I h
  refine qI (uT (N b s p H _ I h) λu Y r=>e2a3 r λy H1 Z ry q=>uT (L b Y p H1 _ Z q) λov s2 r=>e2a3 r λx H2 i rx v=>e1a3 v λa ex J q2=>?_) Q
  subst ex
  obtain rfl:ov=gF a:=rx
  obtain⟨t0,O⟩:=Gm i J
  have w:=i.xT
  obtain⟨hp,g,d,t,os⟩:=s2
  refine Ij PySem.F.store_ValueError m (n a) (w _ _ R) (oj w T) (oj w U) O rfl (λc z=>by cases z) rfl λh' A j k z2 z3 z4=>?_
  have n1:H2 j=none:=by
    cases z:H2 j with
    |none=>rfl
    |some o=>obtain⟨u,q⟩:=zR i.uV z;rw[k]at q;cases q
  have na:j≠a:=λz=>by rw[z,O]at k;cases k
  obtain⟨E,G⟩:=w4.a1n (d:=↑j) i.uV J k z2 #[t0,z3] z4 ry
  exact#[p,_,i.un (h':=h') (t':=A) (G _) E,q2 j n1 na]
def Ik(b:bm.contains (.type "BaseException")=true)(k:A.handled=none)
 (h:gu M A x (λv a=>∃e t i,v=.ref e/\a.heap.get? C=↑(i9 nm q C N bs bm hdct sn sub ab col dd k0 k1 k2 k3 k5 newId) /\
 a.heap.get? e=some { cls:=.ref C,dict:=i,data:=.fields #v[.ref t,.none,.none,.none,.bool false,.none]}/\E (.ref e) a) E s) :
    gu M A (raiseStmt l ↑x none) Q E s:=by
  have f:(gF C::bm).contains (.type "BaseException")=true:=by rw[tE,b,Bool.or_true]
  unfold raiseStmt
  refine am<|iw h (λv a c=>?_) λ_ _ x=>x
  obtain⟨e,t,i,rfl,j,m,n⟩:=c
  obtain⟨o,g,d,p,r⟩:=a
  repeat (first|with_reducible refine jf m ?_|with_reducible refine jf j ?_|(with_reducible refine pZ j ?_;rw[f])|wp_step)
  exact wpAny_raiseNew_none k n
def Il(F:jK B c y H) 
 (n:bm.contains (.type "BaseException")=true) (Y:A.handled=none) (k:(iN l<|gf args o).any (·.1)=false)
 (h:gu (gv prog w) A (eval (.Name x np) o) (λf m=>f=.ref C/\gu (gv prog w) A (evalArgs (.ref C) true (iN l (gf args o)) [])
 (λa b=>a.kw=[]/\a.pos.length<=gk/\b.heap.get? C=↑(i9 nm q C N bs bm hdct sn sub ab col dd k0 k1 k2 k3 k5 c)/\(∃I,b.heap.Ns N I/\I "__init__"=↑(.ref fI))/\(∃J,b.heap.get? fI=↑J/\J.cls=.type "function")/\rP b.heap H bm /\
 ∀D e,qM b.heap D e (.ref C) a.pos->gu (gv prog w) (A.under (.builtin "type.__call__" #[.ref C::a.pos,[]])) (call (.ref fI) (.ref e::a.pos)) (λr G=>r=.none/\G.heap.get? C=↑(i9 nm q C N bs bm hdct sn sub ab col dd k0 k1 k2 k3 k5 c) /\
 (∃t L,G.heap.get? e=some { cls:=.ref C,dict:=L,data:=.fields #v[.ref t,.none,.none,.none,.bool false,.none]})/\E (.ref e) G) E { b with heap:=D}) E m) E s) :
    gu (gv prog w) A (exec (.Raise (some<|.Call (.Name x np) args [] l) none pos) o) Q E s:=by
  rw[arm_exec_Raise]
  refine am<|mG<|Ik (C:=C) (nm:=nm) (q:=q) (N:=N) (bs:=bs) (bm:=bm) (hdct:=hdct) (sn:=sn) (sub:=sub) (ab:=ab) (col:=col) (dd:=dd) (k0:=k0) (k1:=k1) (k2:=k2) (k3:=k3) (k5:=k5) (newId:=c) n Y<|am<|iw (wpAny_Call_ofName<|iw h (λf m i=>?_) λ_ _ x=>x) (λv S p=>am<|mG<|ap p) λ_ _ x=>x
  obtain⟨rfl,i⟩:=i
  unfold mH
  refine am<|gY<|iw i (λa b j=>am<|mG ?_) λ_ _ x=>x
  obtain⟨U,M⟩:=a
  obtain⟨O,u,W,⟨I,Z,hi⟩,⟨J,P,R⟩,T,j⟩:=j
  obtain rfl:M=[]:=O
  obtain⟨hp,g,d,tk,os⟩:=b
  simp only[k]
  refine am<|wpAny_keeperOf_exc W ?_
  refine am<|DN (hrest:=u) F T W Z hi P R λD e hm=>iw (j D e hm) (λr G X=>#[X.1,?_]) λ_ _ z=>z
  obtain⟨_,c1,⟨t,L,c2⟩,c3⟩:=X
  exact am<|gY<|wpAny_point<|ap #[e,t,L,rfl,c1,c2,c3]
noncomputable def Bc(H:Hp)(x:cr):Hp:=λb=>if b=x then none else H b
def yQ:Bc H x x=none:=ga rfl
def xg(h:b≠x):Bc H x b=H b:=gc h
section
variable{P:gV}{w:ii}{H H3 H4:Hp}{h h' h4:hX}{x C:cr}{c:Option cr}
def w4.Qc(k:w4 P w H h)(e:H x=↑(CP C x c)):w4 P w (Bc H x) h:=λa o z=>by
 have g:a≠x:=λq=>by rw[q,yQ]at z;cases z
 rw[xg g]at z
 have d:∀b u,H b=↑u->(∀f,u≠.ext f)->Bc H x b=↑u:=λb u q n=>by rw[xg λy=>by rw[y,e]at q;cases q;exact n _ rfl];exact q
 exact(k a o z).Co (λ_ _ _ q=>q) (λb q=>d b _ q λf y=>by cases y) λb i q=>d b _ q λf y=>by cases y
def w4.Gn(k:w4 P w H h)(e:h.get? x=none):H x=none:=by
 cases z:H x with
 |none=>rfl
 |some o=>obtain⟨u,q⟩:=zR k z;rw[e]at q;cases q
def w4.LN(k:w4 P w H h)(e:h.get? x=none)(f:∀b o,h.get? b=↑o->h'.get? b=↑o)(n:Zl C x c h'):w4 P w (upd H x<|CP C x c) h':=λa o z=>by
 by_cases q:a=x
 ·subst q;rw[uk]at z;cases z;exact JV n
 ·rw[uh q]at z;have d:∀b u,H b=↑u->upd H x (CP C x c) b=↑u:=λb u y=>by rw[uh λg=>by rw[g,k.Gn e]at y;cases y];exact y
  exact(k a o z).Co (λ_ _ _ y=>f _ _ y) (λb y=>d b _ y) λb i y=>d b _ y
def Un.LN(k:w4 P w H h)(e:h.get? x=none)(d:∀b o,h.get? b=↑o->h'.get? b=↑o):Un fs [] H (upd H x<|CP C x c) h h':=by
 have a:∀b u,H b=↑u->upd H x (CP C x c) b=↑u:=λb u y=>by rw[uh λf=>by rw[f,k.Gn e]at y;cases y];exact y
 refine#[λb o z _ _ _=>d b o z,λb o z _ _ _=>#[o.slots,d b o z],λb o z n _=>?_,λb o z _=>#[o,d b o z],λb g z=>a b _ z,λb o u z=>a b _ z,λb i z=>#[#v[],by rw[a b _ z];simp]];rw[uh λy=>by rw[y,e]at z;cases z];exact n
def Un.Qc(u:Un fs [] H H4 h h4)(e:h.get? x=none)(d:H x=none):Un fs [] H (Bc H4 x) h h4:=by
 have a:∀b v,H b=↑v->b≠x:=λb v y z=>by rw[z,d]at y;cases y
 refine#[u.keep,u.slot,λb o z n f=>?_,u.there,λb g z=>?_,λb o v z=>?_,λb i z=>?_]
 ·rw[xg λy=>by rw[y,e]at z;cases z];exact u.free b o z n f
 ·rw[xg<|a b _ z];exact u.AI b g z
 ·rw[xg<|a b _ z];exact u.As b o v z
 ·rw[xg<|a b _ z];exact u.Au b i z
end
def TQ(C:cr)(f:Sp)(a:List V)(E:XK)(h:TA):TS:=λ_ i H=>h i H λc e=>c.length<=gk/\∀x:cr,e x=none ->
 f (.ref x::c++a) (upd e x<|CP C x none) (λv b=>v=.vT/\∃d,b x=↑(CP C x d)/\GX.g C d (Bc b x)/\E (.ref C) ↑x (Bc b x)) λ_ _ _=>False
section
variable{P:gV}{w:ii}{K:f9}{mg:Str->Option ci}{base:hX}{N:List Str}{qual:Str}{scope:k9}{f:cr}{cd:ci}{A:iW}{outer:List Env}{s:gn}{H:Hp}{E:XK}
variable{nm q:Str}{Ns:cr}{bs bm Cw:List ci}{hdct:Bool}{sn:List Str}{sub:List ci}{ab:Bool}{col:Option Bool}{dd:Option cr}{k0 k1 k2 k3 k5:Option ci}{B newId xn:String}
def Nd{k:Nat}(hg:Gl (ve (uW P w) P w K mg base N qual scope f cd A outer s H E) x)(hm:mg x=↑(.ref C))
 (lC:K.lookup C=↑(i9 nm q C Ns bs bm hdct sn sub ab col dd k0 k1 k2 k3 k5 newId)) (aa:∀h:hX,K.In h->∃mN,h.Ns Ns mN/\mN "__init__"=↑(.ref fI)) (hT:∀h:hX,K.In h->rP h Cw bm) (lI:K.lookup fI=↑oI) (ae:oI.cls=.type "function")
 (FB:jK B newId xn Cw) (n:bm.contains (.type "BaseException")=true) (FI:uO P w K mg base (uW P w) k fI fd ps sp) (j:Binds K fd ps U) (af:Vals p U) (hr:vI (k+1) (ve (uW P w) P w K mg base N qual scope f cd A outer s H E).A)
 (ha:PA (ve (uW P w) P w K mg base N qual scope f cd A outer s H E) args ta) (ag:(x==("__debug__":Str))=false)
 (ah:(iN cpos<|gf args (ve (uW P w) P w K mg base N qual scope f cd A outer s H E).env).any (·.1)=false)
 (ai:∀(Q:Args->gn->Prop)(E':ci->gn->Prop)(s9:gn),gu (gv P w) (ve (uW P w) P w K mg base N qual scope f cd A outer s H E).A (tH<|iN cpos<|gf args (ve (uW P w) P w K mg base N qual scope f cd A outer s H E).env) (λX y=>Q #[X,[]] y) E' s9->gu (gv P w) (ve (uW P w) P w K mg base N qual scope f cd A outer s H E).A (evalArgs (.ref C) true (iN cpos<|gf args (ve (uW P w) P w K mg base N qual scope f cd A outer s H E).env) []) Q E' s9) :
    PS (ve (uW P w) P w K mg base N qual scope f cd A outer s H E) (.Raise (some<|.Call (.Name x np) args [] cpos) none pos) (TQ C sp p E ta):=by
  intro a s1 σ H1 D I h
  have hA:=ha cpos a s1 σ H1 _ I h
  refine Il (prog:=P) (w:=w) (C:=C) (nm:=nm) (q:=q) (N:=Ns) (bs:=bs) (bm:=bm) (hdct:=hdct) (sn:=sn) (sub:=sub) (ab:=ab) (col:=col) (dd:=dd) (k0:=k0) (k1:=k1) (k2:=k2) (k3:=k3) (k5:=k5) (fI:=fI)
    FB n (I.ok.hd rfl) ah (yE I hg hm #[rfl,?_] ag)
  refine ai _ _ _<|iw hA (λl G q2=>?_) λ_ _ z=>z
  refine e2a4 q2 λX H2 F r2 hl M=>?_
  have Y:=F.xT
  refine#[rfl,by show l.length<=gk;rw[<- r2.length];exact hl,Y _ _ lC,aa _ Y,#[oI,Y _ _ lI,ae],hT _ Y,λZ e made=>?_]
  refine e1a3 made.there λt aj _ _=>?_
  have n2:H2 e=none:=F.uV.Gn made.new
  have I3:Inv (ve (uW P w) P w K mg base N qual scope f cd A outer s H E) a σ (upd H2 e<|CP C e none) { G with heap:=Z,toks:=G.toks}:=F.un (Un.LN F.uV made.new made.keeps)<|F.uV.LN made.new made.keeps #[t,aj]
  have r3:Vals (.ref e::X++p) (.ref e::l++U):=.cons rfl<|Vals.append r2 af
  have ak:(gF e::l++U).length=ps.length:=by rw[<- r3.length];exact FI.len _ _ _ _<|M e n2
  refine lS<|jp (FI.run _ _ { G with heap:=Z} _ ⟨.ref e::l,[]⟩ (.ref e::l++U) (.ref e::X++p) _ _ (hr.make C l []) (I3.HC.make C l []) (j { G with heap:=Z} (.ref e::l) I3.xT ak) r3 (M e n2)) λr y O=>?_
  cases r with
  |error e'=>obtain⟨_,_,_,_,_,z⟩:=O;exact z.elim
  |ok fl =>
    cases fl with
    |next=>exact gX O
    |brk=>exact gX O
    |cont=>exact gX O
    |ret u =>
      obtain⟨v,H4,R,i,S,m,rv,rfl,c,e4,gd,hE⟩:=id O
      have T:(ve (uW P w) P w K mg base N qual scope f cd A outer s H E).stack=(ve (uW P w) P w K mg base N qual scope f cd A outer s H E).env::(ve (uW P w) P w K mg base N qual scope f cd A outer s H E).outer:=rfl
      have J:Inv (ve (uW P w) P w K mg base N qual scope f cd A outer s H E) a σ H4 y:=by
        obtain⟨hh,g,d,tt,al⟩:=y
        obtain rfl:al=G.os:=R
        exact Inv.call (s:={ G with heap:=Z}) (h':=hh) (g':=g) (d':=d) (t':=tt) (ch:=[]) I3 S m i<|λb z=>gA z q0o
      obtain⟨t4,O4⟩:=Gm J e4
      refine#[rv,J.xT _ _ lC,#[t4,c,O4],?_]
      have fu:=J.HC.xI
      have an:(kY y.heap (e::yz (ve (uW P w) P w K mg base N qual scope f cd A outer s H E).stack)).get? e=none:=rq _ gh
      refine iw (Am (base:=kY y.heap (e::yz (ve (uW P w) P w K mg base N qual scope f cd A outer s H E).stack)) (a0:=.ref t4) J.ok.frames
        (qR fu λao he b j=>gl _<|List.mem_filterMap.mpr ⟨ao,he,j⟩) (w9 J T) O4 (λb o z=>mz _ z) an rfl rfl rfl
        (Q:=λ_ aq=>uW P w outer H s E (.ref e) aq) λar fl up dk=>?_) (λ_ _ z=>z) λ_ _ z=>z
      refine#[C,e,Bc H4 e,rfl,?_,hE]
      refine JB (s2:=y) F T rfl R i (Un.Qc ((Un.LN F.uV made.new made.keeps).trans S) made.new n2) (m.Qc e4) (λb o z L nf=>oA _ z λj=>?_) (λb j=>?_) up fl #[_,dk,gd]
      · rcases List.mem_cons.mp j with rfl|j
        · rcases L with L|⟨o0, L⟩
          · exact L yQ
          · rw[made.new]at L; cases L
        · exact nf j
      · have z := J.ZV b j
        refine#[?_,(fu.mem j).2]
        by_cases q:b=e
        · rw[q, yQ]
        · rw[xg q]; exact z.1
end
def WT(K:f9)(C:cr)(c:Str):Sp:=λd H Q _=>∃x l b,d=[.ref x,.ref l]/\H x=↑(CP C x none)/\(vF K H l b\/yA K H l b)/\∀p a,H p=none->H a=none->a≠x->a≠p->Q .vT (upd (upd (upd H p<|.lst b) a<|.xd [(c,.ref p)]) x<|CP C x<|↑a)
section
variable{P:gV}{w:ii}{K:f9}{mg:Str->Option ci}{base:hX}{qual name:Str}{scope:k9}{f yB cc:cr}{C:cr}{k:Nat}{p0 p1 p2 p3 p4 p5 p6 p7 p8 p9 apos pos:Pos}{r fl tx:Str}{j:Nat}
variable{nm q:Str}{Ns:cr}{bs bm:List ci}{sn:List Str}{sub:List ci}{ab:Bool}{col:Option Bool}{dd:Option cr}{k0 k1 k2 k3 k5:Option ci}{params:Arguments}{dV kV doc pm ct oc:ci}{an od:Option cr}{ML:Array (Option ci)}{body:List gR}
def TR(lk:K.lookup f=some #[oc,od,.func<|jO name qual params body scope [("__class__",cc)] dV kV doc pm an (.ref yB) ct,ML])(g:iR K (.ref yB) qual=true)
 (m:body=[.Expr (.Call (.Attribute (.Call (.Name "super" p0) [] [] p1) "__init__" apos) [.Constant (.str tx) j p3] [] pos) p2,.Assign [.Attribute (.Name "self" p4) fl p5] (.Call (.Name "list" p6) [.Name r p7] [] p8) p9])
 (S:WL.xM ["self",r] ["self",r] scope) (D:JQ P K C f yB cc "self") (n:Na p0 p1 apos pos "__init__" [.Constant (.str tx) j p3]) (o:mg "super"=none) (t:mg "list"=none) (u:scope.names.lookup ("list":Str)=some .globalImplicit)
 (M:K.lookup C=↑(i9 nm q C Ns bs bm true sn sub ab col dd k0 k1 k2 k3 k5 "ValueError.__new__")) (U:jq K C C "__init__"=↑(some<|.builtin "ValueError.__init__")) (v:kf K C (.type "ValueError")=↑true)
 (B:bm.contains (.type "object")=true) (F:∀x:cr,sw (.ref x) "__setattr__" bm=pure ()) (X:gQ K (.ref C) "__setattr__"=↑(some<|.builtin "object.__setattr__")) (Y:gQ K (.ref C) fl=↑none)
 (G:(r==("__debug__":Str))=false) (I:(r==("__classdict__":Str))=false) :
    uO P w K mg base (uW P w) (k+1) f (jO name qual params body scope [("__class__",cc)] dV kV doc pm an (.ref yB) ct) ["self",r] (WT K C fl):=by
  obtain⟨o1,o2,o3,a⟩:=D.cell
  refine Gi lk g (S.x cc) (λy c h=>?_) (λZ H Q E h=>?_) λA J s H Z Q E hr L=>?_
  · have e : c = cc := by
      by_cases e:(y==("__class__":Str))=true
      · rw[g8, e]at h; cases h; rfl
      · rw[g8, Bool.eq_false_iff.mpr e]at h; cases h
    subst e
    exact#[_,_,a,rfl]
  · obtain⟨x, l, N, rfl, _⟩ := h; rfl
  · obtain⟨x, l, N, rfl, b, hl, hq⟩ := L
    rw[m]
    refine#[_,xF (DI (Qb D rfl S.ks S.kc (S.par _ gh) o M U v (ur Fx uA) rfl rfl n)) (xF (PX (TN (IR (i:=0) rfl (.inl (S.par _ gh)))
      (wK xy u t jU (ur (IR (i:=1) rfl (.inl (S.par _ (gl _ gh))) G I) uA)) rfl M B F X Y)) (CM yG)),?_]
    have st:start ["self",r] [V.ref x,V.ref l]=[some<|.ref x,some<|.ref l]:=rfl
    rw[st]
    refine#[x,rfl,b,?_,b,?_]
    · show (1 : Nat) <= gk
      rw[iB];lia
    · refine#[.ref l, rfl, l, N, rfl, hl, λp O => #[.ref x, rfl, x, rfl, ?_, λR d n2 => ?_]]
      · rw[uh λz => by rw[z, O]at b; cases b]
        exact b
      · have T : R ≠ p := λz => by rw[z, uk]at d; cases d
        rw[uh T]at d
        exact hq p R O d n2 T
end
end L2
namespace WL
variable[L2.GX]
open PySem L2
open Rep (rp)
open Ow (sl)
open Sls (rel)
structure XcI(P:gV)(w:ii)(K:f9)(mg:Str->Option ci)(base:hX)(k:Nat)(x:Str)(C:cr)(fl:Str):Prop where
 ex:∃(fI Ns:cr)(fd:hO)(oI:pX)(nm q:Str)(bs bm Cw:List ci)(hdct:Bool)(sn:List Str)(sub:List ci)(ab:Bool)(col:Option Bool)(dd:Option cr)(k0 k1 k2 k3 k5:Option ci)(B newId xn:String)(ps:List Str),
  mg x=↑(.ref C)/\K.lookup C=↑(i9 nm q C Ns bs bm hdct sn sub ab col dd k0 k1 k2 k3 k5 newId)/\(∀h:hX,K.In h->∃mN,h.Ns Ns mN/\mN "__init__"=↑(.ref fI))/\(∀h:hX,K.In h->rP h Cw bm)/\K.lookup fI=↑oI/\oI.cls=.type "function" /\
  jK B newId xn Cw/\bm.contains (.type "BaseException")=true/\uO P w K mg base (uW P w) k fI fd ps (WT K C fl)/\Binds K fd ps []
 go:∀dx p xs H,H dx=↑(.xd [(fl,.ref p)])->H p=↑(.lst xs)->GX.g C ↑dx H
section
variable{D D' D1 PO τ α:Type}[Sls D][Sls D'][Sls D1][Sls PO][Ow τ][Rep α]
def WU{x r L:Str}{i:Nat}{y j M:Pos}{C:cr}[J:Pj D PO n][At i D (OL α) D1](hg:Gl (ve (uW P w) P w K l base N g c f u A e s H E) x)(h:XcI P w K l base k x C L)(hr:vI (k+1) (ve (uW P w) P w K l base N g c f u A e s H E).A)
  (hv:PE (ve (uW P w) P w K l base N g c f u A e s H E) (.Name r M) (uR i)) (W:(x==("__debug__":Str))=false:=by decide)
  (X:gf [.Name r M] (ve (uW P w) P w K l base N g c f u A e s H E).env=(false,eval (.Name r M) (ve (uW P w) P w K l base N g c f u A e s H E).env)::gf [] (ve (uW P w) P w K l base N g c f u A e s H E).env:=by rfl) :
  S1 (ve (uW P w) P w K l base N g c f u A e s H E) E T ms n (.Raise (some<|.Call (.Name x y) [.Name r M] [] j) none Y) (λ(d:D)(_:D'->Prop)(_:τ->PO->Prop) Ke=>Ke C<|J.pj d):=by
 obtain⟨fI,Ns,fd,oI,nm,q,bs,bm,af,ae,sn,ag,ab,ah,dd,k0,k1,k2,k3,k5,B,Z,O,ps,a1,a2,a3,a4,a5,a6,a7,a8,a9,aa⟩:=h.ex;refine#[_,Nd (np:=y) (pos:=Y) (cpos:=j) hg a1 a2 a3 a4 a5 a6 a7 a8 a9 aa .nil hr (ur hv uA X) W (by rw[X];rfl) λQ E' s9 z=>by rw[X]at z ⊢;exact iZ z,λd F R σ H Kn Kr Ke En s hw kn kr ke=>?_];obtain⟨v,F1,F2,e1,_,⟨a,I,rfl,_,ha,_⟩,_⟩:=SR (i:=i) (τ:=OL α) s;refine#[.ref a,e1,(by show 1<=gk;decide),λx hx=>#[x,a,I,rfl,uk,.inl ?_,λp m S hd nx y=>#[rfl,↑m,uk,?_]]]
 ·have ne:a≠x:=λz=>by rw[z,hx]at ha;cases ha
  exact .inl<|Rd.of (by rw[uh ne];exact ha)
 ·have px:p≠x:=λz=>by rw[z,uk]at S;cases S
  rw[uh px]at S;rw[uh nx]at hd
  have q:Bc (upd (upd (upd (upd H x<|CP C x none) p<|.lst I) m<|.xd [(L,.ref p)]) x<|CP C x<|↑m) x=upd (upd H p<|.lst I) m (.xd [(L,.ref p)]):=by
   funext b
   by_cases U:b=x
   ·rw[U,yQ,uh<|Ne.symm nx,uh<|Ne.symm px,hx]
   ·rw[xg U,uh U];by_cases o:b=m
    ·rw[o,uk,uk]
    ·rw[uh o,uh o];by_cases t:b=p
     ·rw[t,uk,uk]
     ·rw[uh t,uh U,uh t]
  rw[q];refine#[h.go m p I _ uk (by rw[uh<|Ne.symm y];exact uk),?_];refine e0a3 (s.new (.lst I) S) λs2 c2 _=>?_;obtain⟨s3,c3,_⟩:=s2.new (p:=m) (.xd [(L,.ref p)]) (by rw[uh y];exact hd);refine e1a2 (vW (PO:=PO) s3) λG g1 g2=>?_;exact ke C x _ G R _ hw ((Ch.trans s s2.tab c2 c3).less g1) g2
end
end WL
namespace SX
open PySem PySem.W PyProof.Rows
def zy(p:Array Nat)(k:Nat):p.getD k 0=(p[k]?).getD 0:=by simp
def BN{p:Array Nat}{i j:Nat}(h:j<=p.size)(k:Nat):(qG p i j).getD k 0=if i<=k/\k<j then p.getD (i+j-1-k) 0 else p.getD k 0:=by rw[zy,qG,getElem?_mirror_all h k,zy,zy];split<;>rfl
def JW{p:Array Nat}{k d:Nat}(h:k<p.size)(a:d<=k)(i:Nat):(bubble p k d).getD i 0=if i=k-d then p.getD k 0 else if k-d<i/\i<=k then p.getD (i-1) 0 else p.getD i 0:=by
 rw[zy,getElem?_bubble h d a i,zy,zy,zy];split
 ·rfl
 ·split<;>rfl
structure a1p(lt:Nat->Nat->Bool):Prop where
 ir:∀a,lt a a=false
 tr:∀a b c,lt b a=false->lt c b=false->lt c a=false
 as:∀a b,lt a b=true->lt b a=false
section
variable{lt:Nat->Nat->Bool}{cmp:Nat->Nat->(Bool->gn->Prop)->gn->Prop}{N:Nat}{s:gn}
def Go(lt:Nat->Nat->Bool)(p:Array Nat)(k:Nat):Prop:=∀i j,i<=j->j<k->lt (p.getD j 0) (p.getD i 0)=false
def EA(lt:Nat->Nat->Bool)(p:Array Nat)(k:Nat):Prop:=∀i j,i<=j->j<k->lt (p.getD i 0) (p.getD j 0)=false
def Hm(N:Nat)(p:Array Nat):Prop:=∀k,p.getD k 0<N
def Hm.rev{i j:Nat}(b:Hm N p)(h:j<=p.size):Hm N (qG p i j):=λk=>by rw[BN h];split<;>exact b _
def Hm.bub{k d:Nat}(b:Hm N p)(h:k<p.size)(c:d<=k):Hm N (bubble p k d):=λi=>by
 rw[JW h c];by_cases q:i=k-d
 ·rw[ga q];exact b _
 ·rw[gc q];by_cases a:k-d<i/\i<=k
  ·rw[ga a];exact b _
  ·rw[gc a];exact b _
def Be{i j:Nat}:(qG p i j).Perm p:=mirror_perm _ _ _ _
variable(L:a1p lt)(hc:∀i j (C:Bool->gn->Prop),i<N->j<N->C (lt i j) s->cmp i j C s)
include L hc
def LO(b:Hm N p):∀(f n:Nat) {Q:Nat->gn->Prop},1<=n->Go lt p n->(∀m,n<=m->m<=n+f->Go lt p m->(m<n+f->lt (p.getD m 0) (p.getD (m-1) 0)=true)->Q m s)->kM cmp (kas_asc p f n) Q s:=by
 intro g
 induction g with
 |zero=>intro n Q h a k;exact k n (gg _) (gg _) a<|λz=>gA z<|jm _
 |succ f c =>
  intro n Q h a k;refine hc _ _ _ (b _) (b _) ?_
  cases e:lt (p.getD n 0) (p.getD (n-1) 0) with
  |true=>exact k n (gg _) q0a a λ_=>e
  |false =>
   refine c (n+1) q0a (λi j d t=>?_) λm u v l o=>k m q0a q0a l λz=>o q0a;by_cases q:j=n
   ·subst q;by_cases r:i=j
    ·rw[r];exact L.ir _
    ·exact L.tr _ _ _ (a i (j-1) q0a q0a) e
   ·exact a i j d q0a
omit hc in
set_option tactic.hygienic true in
def TU{p:Array Nat}{n q:Nat}(m:q+1<=n)(d:n<=p.size)(f:EA lt p n)(c:∀k,n-(q+1)<=k->k<n->lt (p.getD (n-1) 0) (p.getD k 0)=false)(k:Nat) :
  lt ((qG p (n-(q+1)) n).getD k 0) (p.getD k 0)=false/\lt (p.getD k 0) ((qG p (n-(q+1)) n).getD k 0)=false:=by
 rw[BN d];split
 ·rename_i h
  have e:∀a b,n-(q+1)<=a->a<n->n-(q+1)<=b->b<n->lt (p.getD a 0) (p.getD b 0)=false:=λa b o r g l =>
   L.tr _ (p.getD (n-1) 0) _ (c b g l) (f a (n-1) q0d q0d)
  exact#[e _ _ q0d q0d h.1 h.2,e _ _ h.1 h.2 q0d q0d]
 ·exact#[L.ir _,L.ir _]
omit hc in
def LP{p:Array Nat}{n q m:Nat}(c:q+1<=n)(d:n<=p.size)(f:EA lt p n)(a:∀k,n-(q+1)<=k->k<n->lt (p.getD (n-1) 0) (p.getD k 0)=false)(g:EA lt p m):EA lt (qG p (n-(q+1)) n) m:=λi j b h=>by have e:=TU L c d f a;exact L.tr _ _ _ (L.tr _ _ _ (e j).2<|g i j b h) (e i).1
omit hc in
def DO{n:Nat}(d:1<=n)(b:EA lt p n)(h:lt (p.getD (n-1) 0) (p.getD n 0)=false):EA lt p (n+1):=λi j a e=>by
 by_cases q:j=n
 ·subst q;by_cases c:i=j
  ·rw[c];exact L.ir _
  ·exact L.tr _ _ _ h<|b i (j-1) q0a q0a
 ·exact b i j a q0a
def Qd:∀(f:Nat)(p:Array Nat)(n q:Nat) {Q:Array Nat×Nat×Nat->gn->Prop},Hm N p->q+1<=n->n+f<=p.size->EA lt p n->(∀k,n-(q+1)<=k->k<n->lt (p.getD (n-1) 0) (p.getD k 0)=false) ->
  (∀a m d,a.Perm p->a.size=p.size->Hm N a->d+1<=m->n<=m->m<=n+f->EA lt a m->(∀k,m-(d+1)<=k->k<m->lt (a.getD (m-1) 0) (a.getD k 0)=false)->Q (a,m,d) s)->kM cmp (kas_desc f p n q) Q s:=by
 intro F
 induction F with
 |zero=>intro p n q Q b w G h c k;exact k p n q (.refl _) rfl b w (gg _) (gg _) h c
 |succ f g =>
  intro p n q Q b w G h c k;refine hc _ _ _ (b _) (b _) ?_
  cases e:lt (p.getD n 0) (p.getD (n-1) 0) with
  |true =>
   have y:=DO L q0a h<|L.as _ _ e
   have A:∀{x:Array Nat},∀k,n+1-(0+1)<=k->k<n+1->lt (x.getD (n+1-1) 0) (x.getD k 0)=false:=λ{x} k H I=>by
    have:k=n+1-1:=by lia
    rw[this];exact L.ir _
   split
   ·refine g _ (n+1) 0 (b.rev q0a) q0a (by rw[ml];lia) (LP L w q0a h c y) A λa m d l o r t B D u v=>k a m d (l.trans Be) (o.trans<|ml _ _) r t q0a q0a u v
   ·exact g p (n+1) 0 b q0a q0a y A λa m d l o r t B D u v=>k a m d l o r t q0a q0a u v
  |false =>
   refine hc _ _ _ (b _) (b _) ?_
   cases J:lt (p.getD (n-1) 0) (p.getD n 0) with
   |true=>exact k p n q (.refl _) rfl b w (gg _) q0a h c
   |false =>
    refine g p (n+1) (q+1) b q0a q0a (DO L q0a h J) (λE H I=>?_) λa m d l o r t B D u v=>k a m d l o r t q0a q0a u v;have M:n+1-1=n:=by lia
    rw[M];by_cases z:E=n
    ·rw[z];exact L.ir _
    ·exact L.tr _ _ _ (c E q0a q0a) e
def Im{n a:Nat}(b:Hm N p)(e:1<=n)(o:n<=a)(q:a<=p.size)(f:EA lt p n)
 (k:∀m c,c.Perm p->c.size=p.size->Hm N c->1<=m->m<=a->Go lt c m->Q (m,c) s):kM cmp (kas_tail3 n a p) Q s:=by
  unfold kas_tail3
  rw[my]
  have d:n<=p.size:=by omega
  refine LO L hc (b.rev d) _ n e (λi j g h=>?_) λm r t l _=>k m _ Be (ml _ _) (b.rev d) q0d q0d l
  rw[BN d,BN d,ga #[iu _,h],ga #[iu _,q0d]]
  exact f _ _ q0d q0d
def Qe{n a:Nat}(b:Hm N p)(A:1<=n)(B:n+1<=a)(D:a<=p.size)(w:EA lt p (n+1))
 (k:∀m d,d.Perm p->d.size=p.size->Hm N d->1<=m->m<=a->Go lt d m->Q (m,d) s):kM cmp (kas_descPart n a p) Q s:=by
  unfold kas_descPart
  rw[my]
  refine Qd L hc _ p (n+1) 0 b q0a q0a w (λx E F=>?_) λd m G t u v y H I e z=>?_
  · have : x = n+1-1 := by lia
    rw[this];exact L.ir _
  · dsimp only
    split
    · exact Im L hc (v.rev q0a) q0a q0a (by rw[ml]; lia) (LP L y q0a e z e) λf c g h l o q r => k f c ((g.trans Be).trans t) ((h.trans<|ml _ _).trans u) l o q r
    · exact Im L hc v q0a q0a q0a e λf c g h l o q r => k f c (g.trans t) (h.trans u) l o q r
set_option tactic.hygienic true in
def Nf{d:Nat}(b:Hm N p)(P:1<=d)(B:d<=p.size)
 (k:∀m f,f.Perm p->f.size=p.size->Hm N f->1<=m->m<=d->Go lt f m->Q (m,f) s):kM cmp (kas_count d p) Q s:=by
  unfold kas_count
  rw[my]
  refine LO L hc b _ 1 (gg _) (λi j g v=>?_) λn w R o D=>?_
  · have r : i = 0 := by lia
    have h:j=0:=by lia
    rw[r,h];exact L.ir _
  · by_cases e : n = d
    · rw[ga<|by rw[e]; simp]
      exact k n p (.refl _) rfl b w q0a o
    · rw[gc<|by simp[e]]
      have x:=D q0a
      split
      · rename_i S
        refine hc _ _ _ (b _) (b _) ?_
        cases h:lt (p.getD 0 0) (p.getD (n-1) 0) with
        |true=>exact k n p (.refl _) rfl b w q0a o
        |false =>
          have t:n<=p.size:=by lia
          refine Qe L hc (b.rev t) q0a q0a (by rw[ml];lia) (λi j g v=>?_) λE u y F G H I J=>k E u (y.trans Be) (F.trans<|ml _ _) G H I J
          have l:∀a c,a<n->c<n->lt (p.getD a 0) (p.getD c 0)=false:=λa c M y=>L.tr _ _ _ (L.tr _ _ _ (o c (n-1) q0a q0a) h)<|o 0 a (iu _) M
          rw[BN t i,BN t j]
          by_cases q:j<n
          · rw[ga #[iu _, by lia], ga #[iu _, q]]
            exact l _ _ q0a q0a
          · have O : j = n := by lia
            rw[gc (c:=0<=j/\j<n) λz=>q z.2]
            by_cases A:i<n
            · rw[ga #[iu _, A], O]
              exact L.tr _ _ _ (L.as _ _ x)<|l _ _ q0a q0a
            · rw[gc λz => A z.2, show i = j by lia]
              exact L.ir _
      · refine Qe L hc b q0a q0a B (DO L q0a (λi j g v => ?_)<|L.as _ _ x) k
        have r:i=0:=by lia
        have h:j=0:=by lia
        rw[r,h];exact L.ir _
def Ng{k:Nat}(b:Hm N p)(q:Go lt p k):∀(f l r:Nat) {Q:Nat->gn->Prop},r-l<=f->l<=r->r<=k->(∀i,i<l->lt (p.getD k 0) (p.getD i 0)=false)->(∀i,r<=i->i<k->lt (p.getD k 0) (p.getD i 0)=true) ->
  (∀h,h<=k->(∀i,i<h->lt (p.getD k 0) (p.getD i 0)=false)->(∀i,h<=i->i<k->lt (p.getD k 0) (p.getD i 0)=true)->Q h s)->kM cmp (tF p k f l r) Q s:=by
 intro t
 induction t with
 |zero=>intro l r Q u o a m n d;exact d l q0d m λi z=>n i q0d
 |succ f g =>
  intro l r Q u o a m n d;show kM cmp (if l>=r then KasT.ret l else KasT.ask (p.getD k 0) (p.getD ((l+r) / 2) 0) λc=>if c=true then tF p k f l ((l+r) / 2) else tF p k f ((l+r) / 2+1) r) Q s;split
  ·exact d l q0d m λi z=>n i q0d
  ·refine hc _ _ _ (b _) (b _) ?_
   cases e:lt (p.getD k 0) (p.getD ((l+r) / 2) 0) with
   |true =>
    refine g l ((l+r) / 2) q0d q0d q0d m (λi v w=>?_) d
    cases x:lt (p.getD k 0) (p.getD i 0) with
    |true=>rfl
    |false=>rw[L.tr _ _ _ (q ((l+r) / 2) i v w) x]at e;cases e
   |false =>
    refine g ((l+r) / 2+1) r q0d q0d a (λi z=>?_) n d;exact L.tr _ _ _ (q i ((l+r) / 2) q0d q0d) e
def TV:∀(f:Nat)(p:Array Nat)(k:Nat) {Q:Array Nat->gn->Prop},Hm N p->k+f<=p.size->Go lt p k->(∀d,d.Perm p->Go lt d (k+f)->Q d s)->kM cmp (kas_bin f p k) Q s:=by
 intro t
 induction t with
 |zero=>intro p k Q b u c g;exact g p (.refl _) c
 |succ f h =>
  intro p k Q b u c g;show kM cmp ((tF p k k 0 k).bind λl=>kas_bin f (bubble p k<|k-l)<|k+1) Q s;rw[my];refine Ng L hc b c k 0 k q0a q0a (gg _) (λi z=>gA z q0a) (λi D v=>gA v q0a) λl E w x=>?_;have a:k<p.size:=by lia
  have m:k-l<=k:=by lia
  have y:k-(k-l)=l:=by lia
  refine h _ (k+1) (b.bub a m) (by rw[bubble_size];lia) (λi j n F=>?_) λd A B=>g d (A.trans<|bubble_perm _ _ _) (by rw[show k+(f+1)=k+1+f by lia];exact B);rw[JW a m,JW a m,y];by_cases o:j=l
  ·rw[ga o];by_cases e:i=l
   ·rw[ga e];exact L.ir _
   ·rw[gc e,gc q0a];exact w i q0a
  ·rw[gc o];by_cases q:l<j/\j<=k
   ·rw[ga q];by_cases e:i=l
    ·rw[ga e];exact L.as _ _<|x (j-1) q0a q0a
    ·rw[gc e];by_cases r:l<i/\i<=k
     ·rw[ga r];exact c _ _ q0a q0a
     ·rw[gc r];exact c _ _ q0a q0a
   ·rw[gc q,gc q0a,gc q0a];exact c _ _ n q0a
set_option tactic.hygienic true in
def Qf{n:Nat}(p:1<=n)(u:n<=N)(d:∀a,a.Perm (gL n).toArray->Go lt a n->Q a s):kM cmp (kas_sort n) Q s:=by
 unfold kas_sort;rw[my];have e:(gL n).toArray.size=n:=by simp
 have b:Hm N (gL n).toArray:=λk=>by
  rw[zy];simp only[List.getElem?_toArray,List.getElem?_range'];by_cases h:k<n
  ·simp[sQ h];lia
  ·simp[jL (l:=gL n)<|by simpa using h];lia
 refine Nf L hc b p (by rw[e];exact gg _) λm a f q r v w g=>?_;split
 ·rename_i h
  refine TV L hc _ a (max m 1) r (by rw[q,e];lia) (by rw[show max m 1=m by lia];exact g) λc t o=>d c (t.trans f) (by rw[show max m 1+(n-max m 1)=n by lia]at o;exact o)
 ·exact d a f (by rw[show n=m by lia];exact g)
end
open PySem.Spec
noncomputable def Io(p q:Int×Int):Bool:=decide (p.1<q.1)||(p.1==q.1&&decide (p.2<q.2))
def Fc:Io p q=false↔q.1<p.1\/(q.1=p.1/\q.2<=p.2):=by unfold Io;simp only[Bool.or_eq_false_iff,Bool.and_eq_false_iff,decide_eq_false_iff_not,beq_eq_false_iff_ne];omega
def Zo:Io p q=true↔p.1<q.1\/(p.1=q.1/\p.2<q.2):=by unfold Io;simp only[Bool.or_eq_true,hJ,hV,beq_iff_eq]
def wF(h:hX)(v:ci)(p:Int×Int):Prop:=∃x o t u n,v=.ref x/\h.get? x=↑o/\o.cls=.type "tuple"/\o.data=.seq #v[.int p.1 t,.int p.2 u] n
def TX{x y:ci}{p q:Int×Int}{Q:Bool->gn->Prop}(hx:wF s.heap x p)(hy:wF s.heap y q)(h:Q (Io p q) s):gu (gv prog w) A (keyLt' (tuples' true) x y) Q E s:=by
 obtain⟨a,o,t,u,n,rfl,h1,h2,h3⟩:=hx;obtain⟨b,o',t',u',n',rfl,k1,k2,k3⟩:=hy;refine PySem.W.kat_lt h1 h3 k1 k3<|sS<|qN<|tT (λe=>tG<|sS<|qN<|tT (λe2=>tG<|PySem.W.kat_nil ?_) λe2=>tU<|PySem.W.kat_one _ _<|wpAny_lt_int ?_) λe=>tU<|oneLt_int ?_
 ·have e1:=eq_of_beq e;have e2:=eq_of_beq e2;have:Io p q=false:=Fc.mpr<|.inr #[e1.symm,Int.le_of_eq e2.symm];rw[this]at h;exact h
 ·have e1:=eq_of_beq e;have:Io p q=decide (p.2<q.2):=by unfold Io;rw[e1];simp
  rw[this]at h;exact h
 ·have:Io p q=decide (p.1<q.1):=by unfold Io;rw[e];simp
  rw[this]at h;exact h
def wF.keep{h a:hX}(k:∀b o,h.get? b=↑o->o.cls=.type "tuple"->a.get? b=↑o)(z:wF h v p):wF a v p:=by obtain⟨x,o,t,u,n,e,d,c,f⟩:=z;exact#[x,o,t,u,n,e,k x o d c,c,f]
def DP{h a:hX}(k:∀b o,h.get? b=↑o->o.cls=.type "tuple"->a.get? b=↑o):∀{c:List ci} {d:List (Int×Int)},Paired (wF h) c d->Paired (wF a) c d:=by
 intro _ _ z
 induction z with
 |nil=>exact .nil
 |cons h t e=>exact .cons (h.keep k) e
def DQ:∀{d:List ci} {e:List (Int×Int)},Paired (wF h) d e->∃c,PySem.W.KatTups h d c/\c.length=d.length/\∀v∈c,∃i t,v=kN i t
 |_,_,.nil=>#[[],PySem.W.KatTups.nil,rfl,λ_ z=>gA z iv]
 |_,_,.cons a b=>by
  refine e1a3 (DQ b) λc f g j=>?_;obtain⟨x,o,t,u,n,rfl,k,l,m⟩:=a;refine#[_::c,#[#[x,o,_,n,rfl,k,l,m,rfl],f],by simp[g],λv p=>?_];rcases List.mem_cons.mp p with z|z
  ·exact#[_,_,z]
  ·exact j v z
def Fd:∀{c:List ci} {d:List (Int×Int)},Paired (wF h) c d->∀i,i<c.length->wF h (c.getD i .none) (d.getD i (0,0)):=by
 intro _ _ z
 induction z with
 |nil=>intro i z;exact gA z<|Nat.not_lt_zero _
 |cons a b e =>
  intro i z
  cases i with
  |zero=>exact a
  |succ i=>simpa using e i (by simpa using z)
def JX{d:List ci}{n:Nat}(D:s.heap.get? a=↑(lF "list" d.toArray n))(hp:Paired (wF s.heap) d m)(I:d.length<64)
 (h:∀J:List Nat,J.Perm (gL d.length)->(J.map λi=>m.getD i (0,0)).Pairwise (λx y=>Io y x=false)->P (.done<|.ret .none) { s with heap:=sortedHeap s.heap a d (J.map λi=>d.getD i .none).toArray}):gu (gv U w) A (Builtin.«list.sort» #[[.ref a],[]]) P E s:=by
  rw[list_sort_plain]
  have sl:(64:Nat)<=gk:=by rw[iB];decide
  have hz:d.length<=gk:=by lia
  refine am<|listItems_at D rfl<|am<|sT D rfl ?_ (hsz:=by simpa using hz)
  obtain⟨L,X⟩:∃L,(s.heap.update a<|Obj.mapSeq λ_=>#v[]).get? a=some (lF "list" #v[] L):=#[_,get?_update_seq D _]
  refine am<|seqEpoch_at X rfl<|am<|wpAny_newTuple<|am<|sP<|gY ?_
  have F:(((s.heap.update a<|Obj.mapSeq λ_=>#v[]).push<|lF "tuple" d.toArray 0).push<|lF "list" #v[] 0).get? a=↑(lF "list" #v[] L):=ce _<|ce _ X
  have g:Paired (wF<|((s.heap.update a<|Obj.mapSeq λ_=>#v[]).push<|lF "tuple" d.toArray 0).push<|lF "list" #v[] 0) d m:=DP (λb o z c=>ce _<|ce _<|(gZ _ _ (λq=>by rw[<- q,D]at z;cases z;have c:jw "list"=jw "tuple":=c;injection c with c;exact gA c q0q)).trans z) hp
  have sz:d.toArray.size=d.length:=by simp
  by_cases Y:d.length<2
  · rw[ga q0a, ga q0a]
    refine am<|ap<|am<|ap ?_
    refine am<|seqEpoch_at F rfl<|am<|sT F rfl ?_ (hsz2:=by simp[SortSt.mk',arrOf];lia)
    have key:=h (gL d.length) (.refl _) (by
      rcases d with _|⟨v,_|⟨v2,r⟩⟩
      · simp
      · simp
      · simp at Y; lia)
    have e:((gL d.length).map λi=>d.getD i .none).toArray=Array.map (λx=>x.snd) (d.toArray.zip d.toArray):=by
      rcases d with _|⟨v,_|⟨v2,r⟩⟩
      · simp
      · simp
      · simp at Y; lia
    rw[e]at key
    simp only[qC,kh,oF]
    exact ap key
  rw[gc q0a,gc q0a]
  refine e1a3 (DQ g) λfs f1 f2 f3=>?_
  refine am<|PySem.W.kat_kind (T:=.type "int") f1 q0a (λv hv=>?_) q0q ?_
  · obtain⟨i, t, rfl⟩ := f3 v hv
    exact PySem.W.Looks.now
  refine am (iw (PySem.W.kat_run (ks:=d) (vs:=d) (κ:=tuples' true) rfl q0a I (Q:=λf u=>∃p:Array Nat,p.size=d.length/\arrOf f=Array.map (PySem.W.kas_item (d.toArray.zip d.toArray)) p/\failedOf f=none/\u={ s with heap:=((s.heap.update a (Obj.mapSeq λ_=>#v[])).push (lF "tuple" d.toArray 0)).push (lF "list" #v[] 0)}/\p.toList.Perm (gL d.length)/\(p.toList.map λi=>m.getD i (0,0)).Pairwise (λx y=>Io y x=false))
    (G:=λp u=>u={ s with heap:=((s.heap.update a (Obj.mapSeq λ_=>#v[])).push (lF "tuple" d.toArray 0)).push (lF "list" #v[] 0)}/\p.toList.Perm (gL d.length)/\(p.toList.map λi=>m.getD i (0,0)).Pairwise (λx y=>Io y x=false)) (λp f u M O R q4=>#[p,M,O,R,q4]) ?_) ?_ λ_ _ z=>z)
  rotate_left
  · rintro⟨⟨⟩, f⟩ u ⟨p, M, O, R, rfl, g1, g2⟩
    have Z:=PySem.W.kat_snds (vs:=d) (ks:=d) rfl O
    refine am<|seqEpoch_at F rfl<|am<|sT F rfl ?_ (hsz2:=by rw[Z];simp[M];lia)
    rw[R]
    simp only[qC,kh,oF]
    rw[Z]
    exact ap<|h _ g1 g2
  · refine Qf (N := d.length) (lt := λi j => Io (m.getD i (0, 0))<|m.getD j (0, 0)) ⟨λa => ?_, λa b c z1 z2 => ?_, λa b z => ?_⟩ (λi j C H B k => ?_) q0a (gg _) λl c1 c2 => #[rfl, ?_, ?_]
    · exact Fc.mpr<|.inr #[rfl, nC _]
    · have z1 := Fc.mp z1
      have z2:=Fc.mp z2
      exact Fc.mpr q0a
    · have z := Zo.mp z
      exact Fc.mpr q0a
    · exact TX (Fd g i H) (Fd g j B) k
    · have := c1.toList
      simpa using this
    · rw[List.pairwise_iff_getElem]
      intro i j H B S
      have hl:l.size=d.length:=by have:=c1.size_eq;simpa using this
      have q:=c2 i j (kT S) (by simpa[hl] using B)
      have gi:l.getD i 0=l.toList[i]'(by simpa using H):=by
        have:i<l.size:=by simpa using H
        simp[Array.getD,this]
      have gj:l.getD j 0=l.toList[j]'(by simpa using B):=by
        have:j<l.size:=by simpa using B
        simp[Array.getD,this]
      rw[uf,uf,<- gi,<- gj]
      exact q
def Gp{a:List ci}(u:s.heap.IsList l a.toArray)(v:Paired (wF s.heap) a B)(f:a.length<64)
 (h:∀j C r (d:List Nat),⇑s<=r->d.Perm (gL a.length)->(d.map λi=>B.getD i (0,0)).Pairwise (λx y=>Io y x=false)->(∃n,j.get? r=some { cls:=.type "list",data:=.seq (d.map λi=>a.getD i .none).toArray n})->(∀c o,s.heap.get? c=↑o->j.get? c=↑o)->Q (.ref r) { s with heap:=j,toks:=C}) :
    gu (gv t w) A (call (.builtin "sorted") [.ref l]) Q E s:=by
  refine qL kind_sorted plain_sorted entry_sorted (args_sorted1 _) ?_
  have I:(64:Nat)<=gk:=by rw[iB];decide
  refine am (m:=checkCount "sorted" 1 1 _)<|ap<|am<|collect_list u ?_ q0d
  have e:∀c o,s.heap.get? c=↑o->((s.heap.push<|lF "list" #v[] 0).update ⇑s<|Obj.mapSeq λx=>x++a.toArray).get? c=↑o:=λc o q=>(gZ _ _<|iK<|gp q).trans<|ce _ q
  have sz:⇑s<=((s.heap.push<|lF "list" #v[] 0).update ⇑s<|Obj.mapSeq λx=>x++a.toArray).objs.size:=by rw[nO,sk];exact kP _
  generalize ((s.heap.push<|lF "list" #v[] 0).update ⇑s<|Obj.mapSeq λx=>x++a.toArray)=k at e sz ⊢
  refine am<|sP ?_
  have p:(k.push<|lF "list" a.toArray 0).get? k.objs.size=↑(lF "list" a.toArray 0):=gx _ rfl
  refine am<|gY<|ij slot_list_sort ⟨_,p,rfl⟩ entry_list_sort (JX p (DP (λb o z _=>ce _<|e b o z) v) f λd D F=>#[_,rfl,?_])<|args_list_sort _
  obtain⟨G,H⟩:=sortedHeap_at (out:=(d.map λi=>a.getD i .none).toArray) p
  refine ap #[_,rfl,h _ s.toks k.objs.size d sz D F #[G,by simpa using H] λc o g=>?_]
  have lt:=gp<|e c o g
  rw[sortedHeap_old (gB lt)<|by rw[sk];exact nA lt]
  exact ce _<|e c o g
end SX
namespace L2
open PySem PySem.Spec PyProof.Rows SX
def range_getD(l:List a)(d:a):(gL l.length).map (λi=>l.getD i d)=l:=by refine List.ext_getElem q0o λi c b=>?_;simp[List.getD,b]
def Fe(h:Paired R c k):∀{b:List Nat},(∀i∈b,i<c.length)->Paired R (b.map λi=>c.getD i d) (b.map λi=>k.getD i e):=by
 have g:∀i,i<c.length->R (c.getD i d) (k.getD i e):=by
  induction h with
  |nil=>exact λi z=>gA z<|Nat.not_lt_zero _
  |cons a _ f =>
   intro i z
   cases i with
   |zero=>exact a
   |succ i=>simpa using f i (by simpa using z)
 intro b
 induction b with
 |nil=>exact λ_=>.nil
 |cons i r f=>exact λz=>.cons (g i<|z i gh)<|f λj l=>z j<|gl _ l
def pairs_at(I:Inv X g B H s):∀{i:List V} {d:List ci} {f:List (Int×Int)},Vals i d->Paired (λ(v:V)(p:Int×Int)=>∃t,v=.ref t/\H t=↑(.tup [.int p.1,.int p.2])) i f->Paired (wF s.heap) d f:=by
 intro _ _ f z
 induction z generalizing f with
 |nil=>intro w;cases w;exact .nil
 |cons r C j=>intro w;cases w with|cons q k =>
  refine e1a2 q λt e h=>?_;subst e;obtain rfl:=r;obtain⟨d,l,⟨o,m,u,n,x⟩,_⟩:=I.tuple<|yA.of h
  cases l with|cons a b =>
  cases b with|cons b c =>
  cases c;obtain⟨y,rfl⟩:=a;obtain⟨A,rfl⟩:=b;exact .cons #[t,o,y,A,n,rfl,m,u,x]<|j k
def Gr:xU X (.builtin "sorted") (λm H Q=>∃(a:cr)(c:List V) (j:List (Int×Int)),m=[.ref a]/\vF X.K H a c/\Paired (λ(v:V)(p:Int×Int)=>∃t,v=.ref t/\H t=↑(.tup [.int p.1,.int p.2])) c j/\c.length<64 /\
  ∀(l:cr)(b:List Nat),H l=none->b.Perm (gL c.length)->(b.map λi=>j.getD i (0,0)).Pairwise (λx y=>Io y x=false)->Q (.ref l) (upd H l (.lst (b.map λi=>c.getD i .vT)))):=by
 intro w s R H m c Q I r h;obtain⟨a,f,j,rfl,A,B,C,q⟩:=h;obtain⟨u,rfl,D⟩:=vals1 r;cases D;refine e1a3 (I.list A) λd k E S=>?_;have F:f.length=d.length:=k.length;refine Gp E.isList (pairs_at I k B) q0d λT G r b z g J L M=>?_;obtain⟨n,e⟩:=L;rw[<- F]at g;have N:∀i∈b,i<f.length:=λi O=>by simpa using g.subset O
 have P:b.length=f.length:=by simpa using g.length_eq
 exact#[.ref r,_,I.laid (t':=G) (o:=.lst<|b.map λi=>f.getD i .vT) M z #[by rw[gm,P];omega,b.map λi=>d.getD i .none,n,Fe k N,e],rfl,q r b (I.uV.fresh z) g J]
end L2
namespace WL
variable[L2.GX]
open PySem L2 SX
open Rep (rp)
open Ow (sl)
open Sls (rel)
section
variable{D:Type}[Sls D]
def Nh:∀{a:List d} {b:List V},Paired R a b->Paired (λv x=>R x v) b a:=by
 intro _ _ z
 induction z with
 |nil=>exact .nil
 |cons h t c=>exact .cons h c
def Ip{a b:Type}{R S:a->b->Prop}(h:∀x y,R x y->S x y):∀{c:List a} {d:List b},Paired R c d->Paired S c d:=λz=>L2.Paired.VA z h
def JY(C:Gl X "sorted")(G:X.mg "sorted"=none)(I:ER X E T a J)(m:gf [a] X.env=(false,eval a X.env)::gf [] X.env:=by rfl) :
  EO X E T (.Call (.Name "sorted" p) [a] [] pos) (λ(d:D) (n:OL (Int×Int)->D->Prop) c=>J d (λg b=>(g b).length<64/\∀f,f.Perm (g b)->f.Pairwise (λx y=>Io y x=false)->n #[f] b) c):=by
 refine e1a2 I λta L M=>?_;refine#[_,wj Gr C G jH (ur L uA m) (he:=m),λd F R N H n c Q s O P S=>M d F R N H _ c _ s O (λg b u o U W r Y h Z=>?_) S];obtain⟨q,A,rfl,h1,j⟩:=Z b o U W (Ch.refl _ _ _ _) h;have B:(g b).length=A.length:=j.length;refine#[_,A,g b,rfl,vF.of h1,Ip (λv x z=>?_)<|Nh j,by rw[<- B];exact r.1,λl ix hl k sn=>?_]
 ·obtain⟨t,u,w,rfl,_,e,e1,e2⟩:=z;exact#[t,rfl,by rw[e,e1,e2]]
 ·rw[<- B]at k;have lt:∀i∈ix,i<(g b).length:=λi hi=>by simpa using k.subset hi
  refine e1a3 (wM h hl<|Fe (d:=(0,0)) (e:=V.vT) j lt) λR' c3 s3 n3=>?_;exact P _ b _ _ o R' _ (r.2 _ (by have:=k.map<|λi=>(g b).getD i (0,0);rwa [range_getD]at this) sn) (Ch.trans s h.tab Y c3) s3 n3
def tw_trueR{h:Type}[Rep h]{i:Wf D (D->List h) D}(r:ER X E T a i)(t:∀b,qc a X.env b=(do let v <- b;md a.pos;jY [v] (tJ v)):=by intro _;rfl):TW X E T a (λ(d:D) j e=>i d (λg c=>j (!(g c).isEmpty) c) e):=by
 refine e1a2 r λL w x=>?_;refine#[_,Hz w t,λd F R y H j e Q s z A B=>x d F R y H _ e _ s z (λg c u k m n C G o I=>?_) B];obtain⟨q,f,rfl,J,p⟩:=I c k m n (Ch.refl _ _ _ _) o;refine#[!f.isEmpty,.inl #[f,vF.of J,rfl],?_]
 have:f.isEmpty=(g c).isEmpty:=by generalize g c=l at p;cases p<;>rfl
 rw[this];exact A _ c k m n C G o
end
section
variable{D PO τ:Type}[Sls D][Sls PO][Ow τ]{α:Type}[Rep α]
def Qg(q:ID)(i:Nat)[Sls j][A:At i D (Bd C l) j](n:q.ok l)(o:Ae X.K C)(t:vg X.K C q.nm)(u:X.A.units+1<jS)(w:PE X (.Name x b) (uR i))(B:EV X T a f)(m:M1 X (.Attribute (.Name x b) q.nm G) "get" apos a pos:=by exact#[rfl,rfl,rfl,rfl])(I:g9 (.Name x b) q.nm X.env (eval (.Name x b) X.env)=eval (.Name x b) X.env:=by rfl) :
  EW X E T (.Call (.Attribute (.Attribute (.Name x b) q.nm G) "get" apos) [a] [] pos) (λ(d:D)(c:Option Int->D->Prop) _=>c (lk (q.get<|A.get d)<|f d) d):=by
 refine e1a2 B λW J L=>?_;refine#[_,Ov u (wh w I) J m,λd F R M H c Y Q s N O Z=>?_];obtain⟨p,P,e1,e2,e3,e4,us,S,e,_,_⟩:=vM (i:=i) s;refine e1a4 (zt e q n) λy U h _ _=>?_;refine#[_,S,p,C,P,_,_,rfl,e.ob,o,t,U,y,rfl,.inl #[_,.inl h],L d F R M H _ s λv r=>?_];subst r;have g:=xl.k (k:=gP<|f d) h;rw[xC]at g;refine#[_,g,O _ d _ F R H N (Ch.refl _ _ _ _) s ?_]
 cases lk (q.get<|A.get d) (f d) with
 |none=>exact rfl
 |some z=>exact#[(λz=>by cases z),rfl]
def Qh(q:ID)(i:Nat)[Sls n][A:At i D (Bd C o) n](t:q.ok o)(u:Ae X.K C)(w:vg X.K C q.nm)(B:X.A.units+1<jS)(G:PE X (.Name x c) (uR i))(I:EV X T a f)(J:EV X T b g)(m:M2 X (.Attribute (.Name x c) q.nm L) "get" apos a b pos:=by exact#[rfl,rfl,rfl,rfl])(M:g9 (.Name x c) q.nm X.env (eval (.Name x c) X.env)=eval (.Name x c) X.env:=by rfl) :
  EW X E T (.Call (.Attribute (.Attribute (.Name x c) q.nm L) "get" apos) [a,b] [] pos) (λ(d:D)(e:Int->D->Prop) _=>e ((lk (q.get<|A.get d)<|f d).getD<|g d) d):=by
 refine e1a2 I λta N O=>?_;refine e1a2 J λtb P S=>?_;refine#[_,Ox B (wh G M) N P m,λd F R h H e Ke Q s U W ke=>?_];obtain⟨p,Y,e1,e2,e3,e4,us,Z,j,_,_⟩:=vM (i:=i) s;refine e1a4 (zt j q t) λy l1 l _ _=>?_;refine#[_,Z,p,C,Y,_,_,rfl,j.ob,u,w,l1,y,rfl,.inl #[_,.inl l],O d F R h H _ s λv r=>S d F R h H _ s λv' r'=>?_];subst r r';have g:=xl.k (k:=gP<|f d) l;rw[xC]at g;refine#[_,g,W _ d _ F R H U (Ch.refl _ _ _ _) s ?_]
 cases lk (q.get<|A.get d) (f d) with
 |none=>exact rfl
 |some z=>exact rfl
def TY(q:ID)(i:Nat)[Sls e][A:At i D (Bd C g) e][U:Pt i e (Bd C g) D](n:q.ok g)(o:Ae X.K C)(t:vg X.K C q.nm)(u:PE X (.Name x b) (uR i))(w:EV X T a f)(m:M1 X (.Attribute (.Name x b) q.nm B) "pop" apos a pos:=by exact#[rfl,rfl,rfl,rfl])(G:g9 (.Name x b) q.nm X.env (eval (.Name x b) X.env)=eval (.Name x b) X.env:=by rfl) :
  EW X E T (.Call (.Attribute (.Attribute (.Name x b) q.nm B) "pop" apos) [a] [] pos) (λ(d:D)(h:Int->D->Prop) _=>∃v,lk (q.get<|A.get d) (f d)=↑v/\h v (U.put (A.hole d)<|q.set (A.get d)<|dk (q.get<|A.get d)<|f d)):=by
 refine e1a2 w λta I J=>?_;refine#[_,Oy (wh u G) I m,λd F R L H h Ke Q s M N ke=>?_];obtain⟨p,O,e1,e2,e3,e4,us,P,j,S,W⟩:=vM (i:=i) s;refine e1a4 (zt j q n) λy Y k l Z=>?_;refine#[_,P,p,C,O,_,_,rfl,j.ob,o,t,Y,y,rfl,.inl #[_,.inl k],J d F R L H _ s λv r=>?_];subst r;refine e1a2 M λz h1 h2=>?_;refine#[_,gP<|f d,V.int z,k,rfl,(by rw[xC,h1];rfl),?_];rw[Ia];obtain⟨c,s'⟩:=W (U:=U) l<|Z (dk (q.get<|A.get d)<|f d)<|S _ l;exact N z _ _ F R _ h2 c s' rfl
def Iq{R:Rg}{H:Hp}{y:α}:∀{xs:List α} {vs:List V},Paired (rp R H) (xs++[y]) vs->∃us u,vs=us++[u]/\Paired (rp R H) xs us/\rp R H y u:=by
 intro xs
 induction xs with
 |nil=>intro _ z;cases z with|cons h t=>cases t;exact#[[],_,rfl,.nil,h]
 |cons a xs ih =>
  intro _ z
  cases z with|cons h t =>
  obtain⟨us,u,rfl,h1,h2⟩:=ih t;exact#[_::us,u,rfl,.cons h h1,h2]
def LQ(i:Nat){D0:Type}[Sls D0][A:At i D (OL α) D0][U:Pt i D0 (OL α) D](hn:PE X (.Name x p1) (uR i))(hb:PE X (.Call (.Attribute (.Name x p1) "pop" apos) [] [] pos) (Yj X.K "list" Yk<|uR i)) :
  EW X E T (.Call (.Attribute (.Name x p1) "pop" apos) [] [] pos) (λ(d:D)(Kn:α->D->Prop) _=>∃ys y,(A.get d).l=ys++[y]/\Kn y (U.put (A.hole d) #[ys])):=by
 refine#[_,hb,λd F R σ H Kn Ke Q s hw kn ke=>?_];refine e2a4 (A5 (i:=i) s) λa vs g1 g2 g3 g4=>?_;refine e2a2 hw λys y e hk=>?_;rw[e]at g3;obtain⟨us,u,rfl,h1,h2⟩:=Iq g3;obtain⟨c2,s2⟩:=g4 _ _ h1;refine#[_,g1,.inl #[rfl,_,vF.of g2],a,_,u,rfl,rfl,g2,q0o,?_];rw[List.dropLast_concat];exact kn y _ u F R _ hk c2 s2<|s.val c2 h2
def yJ{R:Rg}{H:Hp}:∀{xs:List α} {vs:List V} (k:Nat),Paired (rp R H) xs vs->Paired (rp R H) (xs.eraseIdx k) (vs.eraseIdx k):=by
 intro _ _ k z
 induction z generalizing k with
 |nil=>exact .nil
 |cons h t ih=>cases k with
  |zero=>exact t
  |succ k=>exact .cons h<|ih k
def Ni{a:hW}(i:Nat){D0:Type}[Sls D0][A:At i D (OL α) D0][U:Pt i D0 (OL α) D]{we:Wf D Int D}(hn:PE X (.Name x p1) (uR i))(h:EW X E T a we)
  (hb:∀{t:TA},PA X [a] t->PE X (.Call (.Attribute (.Name x p1) "pop" apos) [a] [] pos) (tBM X.K "list" Om (uR i) t)) (hs:gf [a] X.env=(false,eval a X.env)::gf [] X.env:=by rfl) :
  EW X E T (.Call (.Attribute (.Name x p1) "pop" apos) [a] [] pos) (λ(d:D)(Kn:α->D->Prop) Ke=>we d (λk d'=>0<=k/\∃y,(A.get d').l[k.toNat]?=↑y/\(A.get d').l.length<1000/\Kn y (U.put (A.hole d') #[(A.get d').l.eraseIdx k.toNat])) Ke):=by
 refine e1a2 h λt h1 h2=>?_;refine#[_,hb<|ur h1 uA hs,λd F R σ H Kn Ke Q s hw kn ke=>?_];refine e2a4 (A5 (i:=i) s) λa0 vs0 g1 g2 g3 _=>?_;refine#[_,g1,.inl #[rfl,vs0,vF.of g2],h2 d F R σ H _ _ _ s hw (λk d' v F' R' H' q c s' r=>?_) ke];subst r;refine e2a4 (A5 (i:=i) s') λa' SY k1 k2 k3 k4=>?_;rw[g1]at k1;cases k1;obtain⟨q0,y,e,ql,hk⟩:=q;refine e1a2 (wl k3 e) λu hu ru=>?_;have lt:=(List.getElem?_eq_some_iff.mp hu).1;have ll:=Paired.length k3;obtain⟨c2,s2⟩:=k4 _ _<|yJ k.toNat k3;refine#[a0,SY,k,k.toNat,u,rfl,rfl,k2,q0a,q0a,?_,hu,kn y _ u F' R' _ hk (Ch.trans s s'.tab c c2) s2<|s'.val c2 ru];have e0:(if k<0 then k+(SY.length:Int) else k)=k:=gc q0a;show (if (decide (0<=(if k<0 then k+(SY.length:Int) else k))&&decide ((if k<0 then k+(SY.length:Int) else k)<(SY.length:Int)))=true then some (if k<0 then k+(SY.length:Int) else k).toNat else none)=_;rw[e0];have:(decide (0<=k)&&decide (k<(SY.length:Int)))=true:=by simp;lia
 exact ga this
end
end WL
namespace L2
open PySem PySem.Spec PyProof.Rows SX
def WV(f:TE)(c:Int):TE:=λg H Q=>f g H λv d=>∃(a:cr) (b:List (Key×V)) (e:List Int),v=.ref a/\d a=↑(.dK b)/\b.map (·.1)=e.map gP/\∀p,d p=none->Q (.ref p) (upd d p<|.dK<|e.map λk=>(gP k,V.int c))
def stored_new:∀{l:List (Key×ci)},k∉l.map (·.1)->stored l k y=l++[(k,y)]
 |l,h=>by unfold stored;rw[gc];simp only[t9,hV,not_exists,not_and];exact λe a z=>h<|List.mem_map.mpr #[e,a,z]
def Ir:∀{l:List k} {c:List m},Paired R c (l++[v])->∃b d,c=b++[d]/\Paired R b l/\R d v:=by
 intro e
 induction e with
 |nil=>intro _ z;cases z with|cons h t=>cases t;exact#[[],_,rfl,.nil,h]
 |cons a e f =>
  intro _ z
  cases z with|cons h t =>
  obtain⟨g,u,rfl,i,j⟩:=f t;exact#[_::g,u,rfl,.cons h i,j]
def zU:∀{l:List c} {m:List d},l.length=m.length->(∀(j:Nat)(k:c)(v:d),l[j]?=↑k->m[j]?=↑v->R k v)->Paired R l m
 | [],[],_,_=>.nil
 | [],_::_,h,_=>by cases h
 |_::_,[],h,_=>by cases h
 |a::l,b::m,h,f=>.cons (f 0 a b rfl rfl)<|zU (mr h) λj k v e g=>f (j+1) k v e g
def Iu{c:Int}:∀{a:List Int} {r:List (Key×ci)},r.map (·.1)=a.map gP->(∀e∈r,∃t,e.2=.int c t)->KV (a.map λk=>(gP k,V.int c)) r
 | [],[],_,_=>.nil
 | [],_::_,h,_=>by cases h
 |_::_,[],h,_=>by cases h
 |k::a,e::r,h,f=>by rw[gN,gN]at h;injection h with b d;obtain⟨t,g⟩:=f e gh;exact .cons #[b.symm,t,g]<|Iu d λi j=>f i<|gl _ j
def JZ{P:gV}{w:ii}(g:∀v k,i v k->zb k v=true)(h:StoredAll i j l r):∀{a:List Key},Paired (λk v=>zb k v=true) a l->a.Nodup->r.map (·.1)=a/\∀e∈r,∃v,j v e.2:=by
 induction h with
 |nil=>intro a c _;cases c;exact#[rfl,λ_ z=>by cases z]
 | @snoc l r v k y _ m n o =>
  intro a c p;obtain⟨q,d,rfl,s,t⟩:=Ir c;have u:k=d:=(uL P w).inj v k d (g v k m) t;subst u;have b:=List.nodup_append.mp p;obtain⟨f,x⟩:=o s b.1;have A:k∉r.map (·.1):=λz=>by rw[f]at z;exact b.2.2 k z k q0o rfl
  rw[stored_new A,jy,f];refine#[rfl,λe B=>?_];rcases List.mem_append.mp B with z|z
  ·exact x e z
  ·rw[List.mem_singleton.mp z];exact#[v,n]
def Qi(af:X.calm=true)(hi:PE X iter ti)(E:nK d X.env=pure [])(F:∀y∈d.names,y.2≠.cell)(f:d.kind=.function)(p:∀y∈d.names,y.2=.local->d.names.lookup y.1=some .local)(hx:d.names.lookup x=some .local)(hd:(x==("__debug__":Str))=false:=by decide)
 (hs:∀x,jD iter X.env x=pure x:=by intro _;rfl):PE X (.DictComp (.Name x q1) (.Constant (.int c) j q2) [#[.Name x px,iter,[],0]] d pos) (WV ti c):=by
  intro u s σ H Q I h
  have hh:X.A.handled=none:=I.ok.hd af
  rw[arm_eval_DictComp]
  refine ot (use:=none) rfl hs E f p<|uT (hi u s σ H _ I h) λv l z9=>e2a3 z9 λx1 H1 I1 r1 N=>e3a4 N λa r O e1 ha G q=>?_
  subst e1
  obtain rfl:v=gF a:=r1
  obtain⟨hz,S,m,kv,vA⟩:=I1.uV a _ ha
  obtain⟨B,D⟩:=vA.dictAt
  have alt:a<⇑l:=D.lt_size
  refine wpAny_pyIter_dict S D ?_
  -- the M ah at n,the dict at n+1,the frame at n+2
  have u0:∀b o,l.heap.get? b=↑o->(l.heap.push { cls:=.type "dict_keyiterator",data:=.fields #v[.ref a,.int 0 0,.int m.length 0,.int B 0]}).get? b=↑o:=λb o e=>ce _ e
  have i0:Heap.IsKeyIter (l.heap.push { cls:=.type "dict_keyiterator",data:=.fields #v[.ref a,.int 0 0,.int m.length 0,.int B 0]}) ⇑l a 0 m.length B:=#[_,gx _ rfl,rfl,rfl]
  have z0:(l.heap.push { cls:=.type "dict_keyiterator",data:=.fields #v[.ref a,.int 0 0,.int m.length 0,.int B 0]}).objs.size=⇑l+1:=i4 _ _
  generalize l.heap.push { cls:=.type "dict_keyiterator",data:=.fields #v[.ref a,.int 0 0,.int m.length 0,.int B 0]}=g at u0 i0 z0 ⊢
  refine hR<|wpAny_newFunctionEnv F (λy hy=>by cases hy) (λJ T U=>?_) f
  have d1:(g.push { cls:=.type "dict",dict:=none,data:=.dict #v[]}).DictOf (uL X.prog X.w) g.objs.size []:=rN g
  have u1:∀b o,g.get? b=↑o->(g.push { cls:=.type "dict",dict:=none,data:=.dict #v[]}).get? b=↑o:=λb o e=>ce _ e
  have z1:(g.push { cls:=.type "dict",dict:=none,data:=.dict #v[]}).objs.size=g.objs.size+1:=i4 _ _
  generalize g.push { cls:=.type "dict",dict:=none,data:=.dict #v[]}=g1 at d1 u1 z1 T U ⊢
  have u2:∀b o,g1.get? b=↑o->J.get? b=↑o:=λb o e=>U.extBut b o (gB<|gp e)<|ce _ e
  have c1:g.objs.size≠g1.objs.size:=by lia
  have n1:∀b∈[⇑l,a],b<g.objs.size:=λb hb=>by
    rcases List.mem_cons.mp hb with z|z
    · rw[z, z0]; exact iV _
    · rw[List.mem_singleton.mp z, z0]; exact nA alt
  have W:=Walks.dictKeys (prog:=X.prog) (w:=X.w) (knd:=uL X.prog X.w) hh ⇑l a (gB alt) m B
  have st:J.IsKeyIter ⇑l a 0 m.length B/\J.DictAt (uL X.prog X.w) a m B:=#[i0.at λo e=>u2 _ o<|u1 _ o e,D.at' λo e=>u2 _ o<|u1 _ o<|u0 _ o e]
  have C:=codeAny_compLoop_walkD (R:=compPost (gv X.prog X.w) X.A X.xe none (EP X u σ Q) (gF g.objs.size) g1.objs.size) (s:={ l with heap:=J,toks:=l.toks+0}) (kx:=.Name x q1) (vx:=.Constant (.int c) j q2) (iter:=iter) (x:=x) (px:=px) (ifs:=[]) (scope:=d) (pos:=pos) (D:=g.objs.size) (cenv:=sr d [] g1.objs.size X.env) W (λ_=>true) (λv k=>zb k v=true) (λ_ y=>∃t,y=.int c t)
    (lookup_relabel_local hx) (by simp[sr,oa,f]) c1 (λY=>jm _<|n1 _ Y) (λY=>jm _<|mJ (n1 _ Y)<|by rw[z1];exact iV _) st (d1.at λo e=>u2 _ o e) T (λi v L m3 _ _ _ _=>rD #[rfl,L.heap,L.toks,rfl,λ_ _ e=>e])
    (λi v L m3 Z _ hn Y _=>by
      refine e2a2 Z λk x' aj hk=>?_
      exact oT (jX (by show d.kind=_;exact f) (lookup_relabel_local hx) hn Y #[#[k,hk,hk],L.heap,L.toks,rfl,λ_ _ e=>e]) hd)
    (λi v L m3 _ _ _ _ _=>wpAny_Constant_int #[#[_,rfl],L.heap,_,rfl,λ_ _ e=>e])
    (λh2 tk m' aa ag hn dd ab hP hS k=>?fin) (by rw[<- Paired.length kv];exact hz)
  · exact codeAny_compStart_dict C<|W.self 0 _ _ _ st C
  · refine#[m', hn, λh3 ae => ?_]
    have le:⇑l<=g.objs.size:=by rw[z0];exact kP _
    have k':∀b o,l.heap.get? b=↑o->h3.get? b=↑o:=λb o e=>by
      have lb:=gp e
      have lg:b<g.objs.size:=gG lb le
      have n2:b≠g1.objs.size:=gB (by rw[z1];exact nA lg)
      exact ae.extBut b o n2<|k b o n2 (λz=>by rw[List.mem_singleton.mp z]at lb;exact jm _ lb) (gB lg)<|u2 _ _<|u1 _ _<|u0 _ _ e
    have nH:H1 g.objs.size=none:=I1.uV.fresh le
    have kk:∀{r:List (Key×V)} {m:List (Key×ci)},KV r m->r.map (·.1)=m.map (·.1):=λh=>by
      induction h with
      |nil=>rfl
      |cons h _ ih=>rw[gN,gN,ih,h.1]
    have Z:Paired (λk v=>zb k v=true) (O.map gP) ag:=by
      rw[<- G,kk kv]
      refine zU (by rw[gm,ab]) λj k v J h2=>?_
      refine e2a2 (hP j v h2) λk' x' g1 g2=>?_
      rw[ja,g1]at J
      cases J
      exact g2
    have nd:(O.map gP:List Key).Nodup:=by
      rw[<- G,kk kv]
      obtain⟨o,es,ho,hc,ai,hk,hp,hn⟩:=id D
      exact hn
    obtain⟨f1,f2⟩:=JZ (P:=X.prog) (w:=X.w) (λv k h=>h) hS (by rw[List.filter_eq_self.mpr<|λ_ _=>rfl];exact Z) nd
    have rel:KV (O.map λk=>(gP k,V.int c)) aa:=Iu f1 λe he=>(f2 e he).elim λv Z=>Z
    have ll:O.length=r.length:=by have:=congrArg ng G;simpa using this.symm
    exact#[.ref g.objs.size,_,I1.laid (a:=g.objs.size) (o:=.dK<|O.map λk=>(gP k,V.int c)) (t':=tk) k' le<|C7 (by rw[gm,ll];exact hz) (beq_eq_false_iff_ne.mpr λz=>gA I1.big<|by rw[<- z];exact Nat.not_lt.mpr le) rel<|dd.extBut ae.extBut c1,rfl,q _ nH]
end L2
namespace WL
variable[L2.GX]
open PySem L2
open Rep (rp)
open Ow (sl)
open Sls (rel)
section
variable{D PO τ:Type}[Sls D][Sls PO][Ow τ]{α:Type}[Rep α]
def Qj{F R:Rg}{H:Hp}{d:D}{g:St}(s:vt T F R H d g){p:cr}(c:H p=none){l:List (Int×α)}{us:List (Key×V)}(h:PK R H l us):∃e,Ch T F R H (λa=>a=p\/F a) e (upd H p<|.dK us)/\vt T F e (upd H p<|.dK us) d g/\Nw T (λa=>a=p) F e (upd H p<|.dK us) (Dc.mk l) (.ref p):=by
 refine e0a3 (s.new (.dK us) c) λi m j=>?_;have n:¬F p:=λz=>j<|s.sub p z;have f:Ext (λ_=>False) R H (λa=>R a\/a=p) (upd H p<|.dK us):=⟨λb o _ h=>by rw[uh<|uu h c];exact h,λa h=>h.elim .inl λq=>.inr<|by rw[q];exact c⟩;refine⟨λa=>R a\/a=p,#[m.keep,f.new,λa h=>h.elim (λq=>.inr<|by rw[q];exact c) .inl,λa h _=>.inl h],#[Sls.st s.rel f (λ_ z=>z.elim)<|λ_ _ z=>z,λa h=>.inl<|s.sub a h,λa h=>?_,i.tab,.inl s.u4,s.uP],#[#[p,us,rfl,λb=>Iff.rfl,uk,P2 (f.wide λ_ z=>z.elim) h],λa h=>.inr h,λa h k=>n (by rw[<- h];exact k),λh=>j<|by rw[<- h];exact s.u4]⟩;rcases h with h|h
 ·exact i.wy a h
 ·rw[h,uk];simp
def LR{c:Int}:∀l:List Int,PK R H (l.map λk=>(k,c)) (l.map λk=>((gP k:Key),V.int c))
 | []=>.nil
 |_::l=>.cons #[rfl,rfl]<|LR l
def Nj{y:Str}{r t u:Pos}{c:Int}{j:Nat}{a:k9}(q:ID)(i:Nat){m:Type}[Sls m][A:At i D (Bd C v) m](w:q.ok v)(B:Ae X.K C)(G:vg X.K C q.nm)(l:X.calm=true)(I:PE X (.Name x h) (uR i))(e:nK a X.env=pure [])(f:∀y∈a.names,y.2≠.cell)(g:a.kind=.function)(b:∀y∈a.names,y.2=.local->a.names.lookup y.1=some .local)(J:a.names.lookup y=some .local)(L:(y==("__debug__":Str))=false:=by decide)(M:g9 (.Name x h) q.nm X.env (eval (.Name x h) X.env)=eval (.Name x h) X.env:=by rfl)
  (N:∀z,jD (.Attribute (.Name x h) q.nm O) X.env z=pure z:=by intro _;rfl) :
  EO X E T (.DictComp (.Name y r) (.Constant (.int c) j t) [#[.Name y u,.Attribute (.Name x h) q.nm O,[],0]] a pos) (λ(d:D)(n:Dc Int->D->Prop) _=>n #[((q.get<|A.get d).map (·.1)).map λk=>(k,c)] d):=by
 refine#[_,Qi l (wh I M) e f g b J L N,λd F R σ H n Ke Q s P S ke=>?_];obtain⟨p,U,e1,e2,e3,e4,us,W,o,_,_⟩:=vM (i:=i) s;refine e1a4 (zt o q w) λz Y Z _ _=>?_;refine#[_,W,p,C,U,_,_,rfl,o.ob,B,G,Y,z,_,(q.get<|A.get d).map (·.1),rfl,Z,?_,λp' hp=>?_]
 ·unfold AH;rw[jR,jR];rfl
 ·refine e1a3 (Qj s hp (LR (R:=R) (H:=H) (c:=c) ((q.get<|A.get d).map (·.1)))) λR' c3 s3 n3=>?_;exact S _ d _ _ F R' _ P c3 s3 n3
def WX{j:Nat}(e:EV X T a f):EO X E T (.Dict [↑a] [.Constant .none j w] pos) (λ(d:D) (b:Dc (Option Int)->D->Prop) _=>b #[[(f d,none)]] d):=by
 refine e1a2 e λx g h=>?_;refine#[_,Si (Ou g IS Sh) rfl rfl q0o q0o,λd F R i H b y Q s k m z=>?_];intro p c;refine e0a3 (s.new (.dK []) c) λn A B=>?_;refine h d F R i _ _ n λv r=>#[uk,[(gP<|f d,.vT)],?_,(show 1<=15 by decide),?_]
 ·have r:v=V.int (f d):=r;rw[r];rfl
 ·rw[RM];refine e1a3 (Qj (α:=Option Int) s c (l:=[(f d,none)]) (us:=[(gP<|f d,V.vT)])<|.cons ⟨rfl,rfl⟩ .nil) λo q t u=>?_;exact m _ d _ _ F o _ k q t u
def tw_dcNin(i:Nat)[Sls h][A:At i D (Dc α) h](j:X.A.units+1<jS)(m:EW X E T a wk)(n:PE X (.Name x e) (uR i))(o:iA .NotIn (.Name x e)=false:=by with_unfolding_all rfl) :
  TW X E T (.Compare a [.NotIn] [.Name x e] pos) (λ(d:D)(f:Bool->D->Prop) c=>wk d (λk b=>f (!(lk (A.get b).l k).isSome) b) c):=by
 refine e1a2 m λO p q=>?_;refine#[_,IT (BA j p n) o,λd F R r H f c Q s t v w=>q d F R r H _ c _ s t (λk b u z B C G I g J=>?_) w];subst J;obtain⟨y,P,L,M,N⟩:=CO (i:=i) g;refine#[_,L,y,_,rfl,xl.k (k:=gP k) M,_,rfl,?_];rw[LM N];exact v _ b z B C G I g
def Iv(i:Nat)[Sls q][A:At i D (Dc Int) q][U:Pt i q (Dc Int) D][J:Pj D PO n](B:X.A.units+1<jS)(C:PE X (.Name x G) (uR i))(I:EV X T a f)(L:EV X T e h)(m:Ye X op (ipI g))
 (M:∀c j b,augStore a c j b=(do jY [b,c,j] (rH c j b);release [b,c,j] [];pure .next):=by intros;rfl) :
    S1 X E T ms n (.AugAssign (.Subscript (.Name x G) a p3) op e pos) (λ(d:D)(r:D->Prop)(_:τ->PO->Prop) _=>∃v,lk (A.get d).l (f d)=↑v/\(A.get d).l.length<gk/\r (U.put (A.hole d) #[pk (A.get d).l (f d)<|g v<|h d])):=by
  refine e1a2 I λta N O=>?_
  refine e1a2 L λte P Q=>?_
  refine#[_,Sg B C N P m M,λd F R o H r Kr Ke En s S W kr ke=>?_]
  refine e2a4 (P6 (i:=i) s) λy us Y t p Z=>?_
  refine e1a3 S λv h1 h2 h3=>?_
  refine#[_,Y,O d F R o H _ s λk rk=>?_]
  subst rk
  refine e1a2 ((JR p).1 v h1) λw w1 w2=>?_
  subst w2
  have u:=xl.k (k:=gP<|f d) t
  rw[w1]at u
  refine#[y,_,rfl,u,Q d F R o H _ s λz rz=>?_]
  subst rz
  obtain⟨c3,s3⟩:=Z _ _<|P5 (R:=R) (H:=H) (k:=f d) (x:=g v<|h d) (v:=V.int<|g v<|h d) rfl p
  exact#[v,h d,rfl,rfl,_,FE.k (k:=gP<|f d) t (by rw[JS p];exact h2),W _ F R _ o h3 c3 s3<|Ag.refl _ _]
end
section
variable{D:Type}[Sls D]
def tw_ninT{j:Wf D Int D}{m:Wf D (Tp Int) D}(w:EW X E T a j)(x:EW X E T b m)(z:iA .NotIn b=false) :
  TW X E T (.Compare a [.NotIn] [b] pos) (λ(d:D) n f=>j d (λk g=>m g (λt h=>n (!decide (k∈t.l)) h) f) f):=by
 refine e1a2 w λta A B=>?_;refine e1a2 x λtb G I=>?_;refine#[_,wW AO A G z,λd F R o H n f Q s J L p=>B d F R o H _ f _ s J (λk g u M N O P r i S=>?_) p];refine I g M N o O _ f _ i P (λt h v U W Y Z c2 s2 r2=>?_) λC y d' F' R' H' k c s'=>p C y d' F' R' H' k (Ch.trans s i.tab r c) s';subst S;obtain⟨l⟩:=t;obtain⟨q,us,rfl,_,h1,h2⟩:=r2;have e:=ints_of (xs:=l) h2;subst e;refine#[q,_,rfl,.inr<|yA.of h1,rfl,zW _,_,rfl,?_];rw[ga rfl,A1];exact L _ h U W Y Z (Ch.trans s i.tab r c2) s2
end
end WL
namespace L2
variable[L2.GX]
open PySem PySem.Spec PyProof.Rows
def a1q(K:f9)(d:TE):TE:=λe H Q=>d e H λx b=>∃a c,x=.ref a/\vF K b a c/\∀p,b p=none->Q (.ref p) (upd b p<|.lst c.reverse)
def WY{X:Cx}{e:hW}{te:TE}{p2 p3 p4 pos:Pos}{j:Nat}(he:PE X e te):PE X (.Subscript e (.Slice none none (some<|.UnaryOp .USub (.Constant (.int 1) j p3) p4) p2) pos) (a1q X.K te):=by
 intro pins s σ H Q I h;refine rZ<|uT (he pins s σ H _ I h) λv s1 z9=>e2a3 z9 λx H1 I1 r1 z89=>e2a3 z89 λa xs e1 hx q=>?_;subst e1;obtain rfl:v=gF a:=r1;refine wpAny_Slice ?_;rw[sL,evalPart_some];refine ap<|ap<|uT (UX N4 uH pins s1 σ H1 (λv H=>v=.int (-1)/\H=H1) I1 #[1,rfl,rfl,rfl]) λu s2 z9=>e2a4 z9 λy H2 I2 r2 e2 e3=>?_;subst e2 e3;obtain⟨t,rfl⟩:=r2;have I4:Inv X pins σ H2 { s2 with heap:=s2.heap.push { cls:=.type "slice",data:=.fields #v[.none,.none,.int (-1) t]}}:=I2.kept (t':=s2.toks) λb ob q=>ce _ q;refine e1a3 (I4.list hx) λza r pl hz=>?_;refine' tail_any pl.isList.typeIs slot_list_getitem.lookup ?_ ?hs
 case hs=>with_unfolding_all rfl
 refine sM pl.isList (qp ..) .none .none (.int (-1) t) q0q ?_ (by rw[gy,<- r.length];exact hz);rw[PySem.W.krv_pick];refine#[.ref (s2.heap.push { cls:=.type "slice",data:=.fields #v[.none,.none,.int (-1) t]}).objs.size,_,I4.laid (t':=s2.toks) (o:=.lst xs.reverse) (λb ob q=>ce _ q) (gg _) ?_,rfl,q _<|I4.uV.fresh<|gg _];exact#[by rw[List.length_reverse];exact hz,za.reverse,0,r.reverse,gx _ rfl]
end L2
namespace WL
variable[L2.GX]
open PySem L2
open Rep (rp)
open Ow (sl)
open Sls (rel)
section
variable{D:Type}[Sls D]{α:Type}[Rep α]
def J0{R:Rg}{H:Hp}:∀{xs:List α} {vs:List V},Paired (rp R H) xs vs->Paired (rp R H) xs.reverse vs.reverse:=by
 intro _ _ z
 induction z with
 |nil=>exact .nil
 |cons h t ih=>rw[ni,ni];exact wX ih<|.cons h .nil
def WZ{j:Nat}(i:ER X E T a k) :
  EO X E T (.Subscript a (.Slice none none (some<|.UnaryOp .USub (.Constant (.int 1) j N) O) P) pos) (λ(d:D)(f:OL α->D->Prop) c=>k d (λg b=>f #[(g b).reverse] b) c):=by
 refine e1a2 i λS l m=>?_;refine#[_,WY l,λd F R n H f c Q s o r t=>?_];refine m d F R n H _ c _ s o (λg b u h v w x y e z=>?_) t;obtain⟨q,A,rfl,B,C⟩:=z b h v w (Ch.refl _ _ _ _) e;refine#[q,A,rfl,vF.of B,λp G=>?_];refine e1a3 (wM e G<|J0 C) λI J L M=>?_;exact r _ b _ _ h I _ x (Ch.trans s e.tab y J) L M
end
end WL
namespace K7
variable[L2.GX]
open PySem L2 WL
open WL.Rep (rp)
open WL.Ow (sl)
open WL.Sls (rel)
noncomputable def top(i:Nat):gR:=PySem.Challenge.pw_slimbody_k31_whole_up_goes_with_borders.main.body.getD i<|.Pass #[0,0,0,0]
noncomputable abbrev wq:gR:=top 16
noncomputable abbrev DR:gR:=top 17
noncomputable abbrev Gu:gR:=top 19
def Ff:Wf (List Int×Unit) Bool (Un×Unit):=λp a _=>a (asc p.1) (#[],())
def Fh:Wf (Tp Int×Unit) Bool (Un×Unit):=λp a _=>a (asc p.1.l) (#[],())
def CQ(C:cr):Wf (List Int×Unit) Unit (Un×Unit):=λp a b=>(asc p.1=true->a () (#[],()))/\(asc p.1=false->b C (#[],()))
def LS(C:cr):Wf (Tp Int×Unit) Unit (Un×Unit):=λp a b=>(asc p.1.l=true->a () (#[],()))/\(asc p.1.l=false->b C (#[],()))
def LU:Wf (List (Tp Int)×Unit) (OL Int) (Un×Unit):=λp a _=>∃U:List Int,U.length<64/\(∀r∈p.1,v8 r.l/\∀x∈r.l,x∈U)/\a #[NP (p.1.map (·.l))] (#[],())
section
variable{P:gV}{w:ii}{K:f9}{mg:Str->Option ci}{base:hX}{T:cr}
def Fi:uq ["row"] ["row"] (ug wq):=#[rfl,rfl,rfl,q0s,rfl,q0s,q0s]
def J1{f c:cr}{fd:hO}(F:yk K "is_sum" "is_sum" wq f fd)(hc:fd.code=.ref c)(B:HS mg base c T)(W0:mg "all"=none)(W2:mg "zip"=none):uO P w K mg base (uW P w) 1 f fd ["row"] (xR T Ff):=by
 refine' uv (Vg (A:=List Int×Unit) (PO:=Un×Unit) (τ:=Bool) (D':=Unit) (ms:=[]) (j:=0) F Fi rfl rfl λA outer s H E hr=>?body) ?nice
 case body =>
  exact uj<|uC<|uX<|Pp (ss 0) (uQ<|HY (vG<|ss 0) (FW ul) FV)<|λh=>HR a0S (c:=c) (P:=T) rfl #[hc,B.hd,B.blt] hr.depth rfl W0 rfl W2 h rfl rfl rfl q0s rfl rfl rfl q0s q0s q0s
 case nice =>
  intro p Kn Ke h
  walk_at "wl"
  rw[Y0];exact h
def J2{f c:cr}{fd:hO}(F:yk K "is_sum" "is_sum" wq f fd)(hc:fd.code=.ref c)(B:HS mg base c T)(W0:mg "all"=none)(W2:mg "zip"=none):uO P w K mg base (uW P w) 1 f fd ["row"] (xR T Fh):=by
 refine' uv (Vg (A:=Tp Int×Unit) (PO:=Un×Unit) (τ:=Bool) (D':=Unit) (ms:=[]) (j:=0) F Fi rfl rfl λA outer s H E hr=>?body) ?nice
 case body =>
  exact uj<|uC<|uX<|Pq (ss 0) (M6 (ss 0) (FW ul) FV)<|λh=>HR a1g (c:=c) (P:=T) rfl #[hc,B.hd,B.blt] hr.depth rfl W0 rfl W2 h rfl rfl rfl q0s rfl rfl rfl q0s q0s q0s
 case nice =>
  intro p Kn Ke h
  walk_at "wl"
  rw[Y0];exact h
def LV:uq ["row"] ["row"] (ug DR):=#[rfl,rfl,rfl,q0s,rfl,q0s,q0s]
def Fj{b:Bool}(h:(b=true->p)/\(b=false->q)):if (!b)=true then q else p:=by
 cases b
 ·exact h.2 rfl
 ·exact h.1 rfl
def Qk{f C f1:cr}{fd Vq:hO}{Cw:List ci}{B newId xn:String}(F:yk K "must_be_sum" "must_be_sum" DR f fd)(F1:Fn K mg "is_sum" wq ["row"] f1 Vq)(G1:uO P w K mg base (uW P w) 1 f1 Vq ["row"] (xR T Ff))
  (hC:mg "NotASum"=↑(.ref C))(O:iL K C Cw newId=true)(FB:jK B newId xn Cw)(g0:∀H',GX.g C none H'):uO P w K mg base (uW P w) 2 f fd ["row"] (xR T<|CQ C):=by
 refine' uv (Cb (uJ q0q) (A:=List Int×Unit) (PO:=Un×Unit) (D':=List Int×Unit) (ms:=[]) (j:=0) F LV rfl rfl λSj A outer s H E hr=>?body) ?nice
 case body =>
  exact uj<|uZ (tw_not<|tw_val<|uy<|A4 G1 hr rfl F1.at_ F1.fn.kp F1.bd Dk<|um (ss 0) ui) (uj<|DB<|Dl rfl hC O FB g0<|ur Fx uA) uN
 case nice =>
  intro p Kn Ke h
  walk_at "wl"
  exact Fj h
def Ql{f C f1:cr}{fd Vq:hO}{Cw:List ci}{B newId xn:String}(F:yk K "must_be_sum" "must_be_sum" DR f fd)(F1:Fn K mg "is_sum" wq ["row"] f1 Vq)(G1:uO P w K mg base (uW P w) 1 f1 Vq ["row"] (xR T Fh))
  (hC:mg "NotASum"=↑(.ref C))(O:iL K C Cw newId=true)(FB:jK B newId xn Cw)(g0:∀H',GX.g C none H'):uO P w K mg base (uW P w) 2 f fd ["row"] (xR T<|LS C):=by
 refine' uv (Cb (uJ q0q) (A:=Tp Int×Unit) (PO:=Un×Unit) (D':=Tp Int×Unit) (ms:=[]) (j:=0) F LV rfl rfl λSj A outer s H E hr=>?body) ?nice
 case body =>
  exact uj<|uZ (tw_not<|tw_val<|uy<|A4 G1 hr rfl F1.at_ F1.fn.kp F1.bd Dk<|um (ss 0) ui) (uj<|DB<|Dl rfl hC O FB g0<|ur Fx uA) uN
 case nice =>
  intro p Kn Ke h
  walk_at "wl"
  exact Fj h
def Iw:uq ["rows","odd","row","number"] ["rows"] (ug Gu):=#[rfl,rfl,rfl,q0s,rfl,q0s,q0s]
def Qm{f C f1:cr}{fd Vq:hO}(F:yk K "total" "total" Gu f fd)(F1:Fn K mg "must_be_sum" DR ["row"] f1 Vq)(G1:uO P w K mg base (uW P w) 2 f1 Vq ["row"] (xR T<|LS C))(a1r:mg "set"=none)(TZ:mg "sorted"=none) :
  uO P w K mg base (uW P w) 3 f fd ["rows"] (xR T LU):=by
 refine' uv (vU (A:=List (Tp Int)×Unit) (PO:=Un×Unit) (τ:=OL Int) (D':=Unit) (ms:=[]) (j:=3) F Iw rfl rfl λSj A outer s H E hr=>?body) ?nice
 case body =>
  have nd:=Iw.nd
  exact CG (uJ q0q) (uz 1 nd<|Tc (w:=w) rfl rfl a1r)
   (CG (uJ q0q) (vY (is:=[]) (mb:=[]) (D1:=List (Tp Int)×SI w×Tp Int×Un×Unit) (D2:=List (Tp Int)×SI w×Tp Int×Un×Unit) (uJ q0q) yf rfl (vw (ss 0)) (uG 2 (uw nd))
    (CG (uJ q0q) (vc (uy (A4 G1 hr rfl F1.at_ F1.fn.kp F1.bd Dk (um (ss 2) ui))))
     (uj (vY (is:=[]) (mb:=[]) (D1:=List (Tp Int)×SI w×Tp Int×Int×Unit) (D2:=List (Tp Int)×SI w×Tp Int×Int×Unit) (uJ q0q) yf rfl (Pu (ss 2)) (uG 3 (uw nd))
      (uj (uZ (tw_inS 1 (w:=w) rfl (ss 3) (pv 1) (by with_unfolding_all rfl))
       (uj<|Te 1 (w:=w) rfl (ss 3)<|λh=>AJ<|OQ PySem.F.slot_set_discard PySem.F.type_set_discard OP (pv 1) h)
       (uj (Td 1 (w:=w) rfl (ss 3) (λh=>AJ (OQ PySem.F.slot_set_add PySem.F.type_set_add SJ (pv 1) h)))))) q0q q0q))) q0q q0q)
    (uj (uC (JM 1 (w:=w) rfl rfl rfl TZ (pv 1)))))
 case nice =>
  intro p Kn Ke h
  walk_at "wl"
  obtain⟨U,hU,hr,hk⟩:=h;refine vf (λ(r:List (Tp Int)) (b:List (Tp Int)×SI w×Un×Un×Unit)=>v8 b.2.1.l/\(∀x∈b.2.1.l,x∈U)/\(r.map (·.l)).foldl xr b.2.1.l=NP (p.1.map (·.l))) p.1 #[gU,(λ_ h=>by cases h),rfl] ?_ ?_
  ·rintro x r b ⟨pre,e⟩ ⟨h1,h2,h3⟩ K hK;have hx:=hr x (by rw[e];simp);refine#[λ_=>?_,λz=>gA ((wY _).mpr hx.1)<|by rw[z];simp];refine vf (λ(q:List Int) (c:List (Tp Int)×SI w×Tp Int×Un×Unit)=>v8 c.2.1.l/\(∀y∈c.2.1.l,y∈U)/\q.foldl JN c.2.1.l=xr b.2.1.l x.l) x.l #[h1,h2,rfl] ?_ ?_
   ·rintro y q c ⟨a2M,e2⟩ ⟨g1,g2,g3⟩ K2 hK2;have hy:y∈x.l:=by rw[e2];simp
    have g3':q.foldl JN (JN c.2.1.l y)=xr b.2.1.l x.l:=g3;by_cases hc:y∈c.2.1.l
    ·rw[ga<|decide_eq_true hc];refine hK2 _ ⟨iF _ g1,λz hz=>g2 z (zr.mp hz).1,?_⟩;rw[<- g3'];unfold JN;rw[ga hc]
    ·rw[gc<|by simpa using hc];refine⟨by have:=vJ g1 g2;lia,hK2 _ ⟨CH g1,λz hz=>?_,?_⟩⟩
     ·rcases A9.mp hz with e3|e3
      ·rw[e3];exact hx.2 y hy
      ·exact g2 z e3
     ·rw[<- g3'];rw[show JN c.2.1.l y=Ez y c.2.1.l from gc hc]
   ·rintro c ⟨g1,g2,g3⟩;refine hK _ #[g1,g2,?_];rw[<- h3];show (r.map (·.l)).foldl xr c.2.1.l=(r.map (·.l)).foldl xr (xr b.2.1.l x.l);rw[<- g3];rfl
  ·rintro b ⟨h1,h2,h3⟩;refine#[by have:=vJ h1 h2;lia,?_];have h3':b.2.1.l=NP (p.1.map (·.l)):=h3;rw[h3'];exact hk
end
section
variable(C:cr)
abbrev B0:=Bd C true
noncomputable def vn{C:cr}(x:B0 C)(row:List Int):Bool:=row.all λc=>(lk x.rk c).isSome
noncomputable def vK{C:cr}(x:B0 C)(c:Int):List Int:=(lk x.bd c).getD []
noncomputable def W3{C:cr}(x:B0 C)(c:Int):List Int:=(x.rk.map (·.1)).filter λh=>decide<|c∈vK x h
noncomputable def T0{C:cr}(x:B0 C)(row:List Int)(r:Int):Bool:=row.all λc=>decide<|lk x.rk c=↑r
structure Qn{C:cr}(x:B0 C):Prop where
 kb:∀k,(lk x.rk k).isSome=true->(lk x.bd k).isSome=true
 bo:∀k b,lk x.bd k=↑b->v8 b/\∀c∈b,0<=c/\c<63
 ri:(x.rk.map (·.1)).Pairwise (·<=·)
 lr:x.rk.length<64
 lb:x.bd.length<64
def Bf(a:cr):Wf (B0 C×Int×Unit) Unit (B0 C×Un×Unit):=λp b c =>
 if (lk p.1.rk p.2.1).isSome=true then b () (p.1,#[],()) else c a (p.1,#[],())
def zA(XS XC:cr):Wf (B0 C×List Int×Unit) Unit (B0 C×Un×Unit):=λp Kn Ke =>
 if asc p.2.1=true then (if vn p.1 p.2.1=true then Kn () (p.1,#[],()) else Ke XC (p.1,#[],())) else Ke XS (p.1,#[],())
def wP(XO:cr):Wf (B0 C×List Int×Int×Unit) Unit (B0 C×Un×Un×Unit):=λp Kn Ke =>
 vn p.1 p.2.1=true/\if T0 p.1 p.2.1 p.2.2.1=true then Kn () (p.1,#[],#[],()) else Ke XO (p.1,#[],#[],())
def xh(XS XC:cr):Wf (B0 C×List Int×Unit) (OL Int) (B0 C×Un×Unit):=λp Kn Ke =>
 Qn p.1/\if asc p.2.1=true then (if vn p.1 p.2.1=true then Kn #[NP<|p.2.1.map<|vK p.1] (p.1,#[],()) else Ke XC (p.1,#[],())) else Ke XS (p.1,#[],())
def CS:Wf (B0 C×Unit) (OL Int) (B0 C×Unit):=λp a _=>Qn p.1/\a #[p.1.rk.map (·.1)] (p.1,())
def Gv(a:cr):Wf (B0 C×Int×Unit) (OL Int) (B0 C×Un×Unit):=λp b c =>
 Qn p.1/\if (lk p.1.rk p.2.1).isSome=true then b #[W3 p.1 p.2.1] (p.1,#[],()) else c a (p.1,#[],())
def Ix(b c d e f:cr):Wf (B0 C×Int×List Int×Unit) Int (B0 C×Un×Un×Unit):=λp g a =>
 Qn p.1/\lk p.1.bd p.1.up=none/\if p.2.1<0\/12<p.2.1 then a b (p.1,#[],#[],()) else if asc p.2.2.1=true then (if vn p.1 p.2.2.1=true then (if T0 p.1 p.2.2.1 (p.2.1-1)=true then
  (if NP (p.2.2.1.map (vK p.1))=[] then g p.1.up ({ p.1 with rk:=pk p.1.rk p.1.up p.2.1,bd:=pk p.1.bd p.1.up p.2.2.1,up:=p.1.up+1},#[],#[],()) else a f (p.1,#[],#[],())) else a e (p.1,#[],#[],())) else a d (p.1,#[],#[],())) else a c (p.1,#[],#[],())
def Gw(b c:cr):Wf (B0 C×Int×Unit) Unit (B0 C×Un×Unit):=λp d a =>
 Qn p.1/\if (lk p.1.rk p.2.1).isSome=true then (if W3 p.1 p.2.1=[] then d () ({ p.1 with rk:=dk p.1.rk p.2.1,bd:=dk p.1.bd p.2.1},#[],()) else a c (p.1,#[],())) else a b (p.1,#[],())
def Bh(XC:cr):Wf (B0 C×Int×Unit) (OL Int) (B0 C×Un×Unit):=λp Kn Ke =>
 Qn p.1/\if (lk p.1.rk p.2.1).isSome=true then Kn #[vK p.1 p.2.1] (p.1,#[],()) else Ke XC (p.1,#[],())
end
def yR{n k:Int}(h0:0<=k)(h1:k<n):k∈xS 0 n:=by exact List.mem_map.mpr #[k.toNat,List.mem_range.mpr q0a,q0a]
def yS{k:Int}:∀{l:List (Int×c)},(lk l k).isSome=true->k∈l.map (·.1):=by
 intro b
 induction b with
 |nil=>intro h;cases h
 |cons e l a =>
  intro h;by_cases q:e.1=k
  ·rw[<- q];simp
  ·have:lk (e::l) k=lk l k:=by unfold lk;rw[ig,gH q]
   rw[this]at h;exact gl _<|a h
def wG{k:Int}:∀{l:List (Int×a)},k∈l.map (·.1)->(lk l k).isSome=true
 | [],h=>by cases h
 |e::l,h=>by
  by_cases q:e.1=k
  ·unfold lk;rw[ig,decide_eq_true q];rfl
  ·have:lk (e::l) k=lk l k:=by unfold lk;rw[ig,gH q]
   rw[this];rcases List.mem_cons.mp h with z|z
   ·exact gA z.symm q
   ·exact wG z
def DS{C:cr}{x:B0 C}{c:Int}{r:List Int}:vn x (c::r)=((lk x.rk c).isSome&&vn x r):=by unfold vn;rw[pq]
def Qo{C:cr}{x:B0 C}{c k:Int}{r:List Int}:T0 x (c::r) k=(decide (lk x.rk c=↑k)&&T0 x r k):=by unfold T0;rw[pq]
def Nk{C:cr}{x:B0 C}{row:List Int}(ok:Qn x)(ha:asc row=true)(h:vn x row=true):row.length<=gk:=by have:=vJ (U:=x.rk.map (·.1)) ((wY row).mp ha) λc hc=>yS<|List.all_eq_true.mp h c hc;rw[gm]at this;have:=ok.lr;exact vd q0a
def Bi{n:Nat}(h:n<1000):n<gk:=by have z:gk=16777216:=iB;lia
def Ap{C:cr}{x:B0 C}(ok:Qn x){c:Int}(h:(lk x.rk c).isSome=true):lk x.bd c=↑(vK x c):=by obtain⟨v,hv⟩:=Option.isSome_iff_exists.mp<|ok.kb c h;unfold vK;rw[hv];rfl
def vi{K:List d->S->Prop}(e:∀x∈c,∀K:Option d->S->Prop,(if q x=true then K ↑x s else K none s)->b x s K)(h:K (c.filter q) s):A8 b c s K:=by
 refine vo (f:=λx=>if q x=true then some x else none) (λx g K a=>e x g K ?_) (by rw[filterMap_filter];exact h);by_cases z:q x=true
 ·rw[ga z]at a ⊢;exact a
 ·rw[gc z]at a ⊢;exact a
section
variable{q:Cq}{C XC XS XO XB XP XV W4 XF XT XN XR XL:cr}
noncomputable abbrev yT:gR:=Bu (top 28) 15
noncomputable abbrev yU:List Str:=["self","cell"]
def EB:uq ["self","cell"] yU (ug yT):=by walk_at "sc"
abbrev vX(q:Cq)(C XC:cr)(k:Nat):=yZ q C "must_stand" yU (Bf C XC) k
def EC(F:yk q.K "must_stand" "Body.must_stand" yT f d)(c:Ah q.K C)(a:Xc q.K q.mg "NoCell" XC):Gq q 2 f d yU (Bf C XC):=by
 refine' uv (Cb (uJ q0q) (D':=(Bd C true)×Int×Unit) (ms:=[0]) (j:=0) F EB rfl rfl λe A b s H E g =>
   (uj (uZ (tw_dIn .rk true 0 trivial c.cl c.nR (BL g) (ss 1) (pv 0))
   (uj<|Ao rfl a)
   uN))) λp i k h=>?_
 walk_at "wl"
 have h:if (lk p.1.rk p.2.1).isSome=true then i () (p.1,#[],()) else k XC (p.1,#[],()):=h
 cases q:(lk p.1.rk p.2.1).isSome with
 |true=>rw[q]at h;simpa using h
 |false=>rw[q]at h;simpa using h
noncomputable abbrev zB:gR:=Bu (top 28) 16
noncomputable abbrev zC:List Str:=["self","row"]
def Bj:uq ["self","row","cell"] zC (ug zB):=by walk_at "sc"
abbrev xZ(q:Cq)(C XS XC:cr)(k:Nat):=yZ q C "must_hold" zC (zA C XS XC) k
def Gx{f:cr}{fd:hO}(F:yk q.K "must_hold" "Body.must_hold" zB f fd)(ct:Ah q.K C)(ED:wu q "must_be_sum" ["row"] (CQ XS) 2)(wH:vX q C XC 2):Gq q 3 f fd zC (zA C XS XC):=by
 refine' uv (Cb (uJ q0q) (D':=(Bd C true)×(List Int)×Un×Unit) (ms:=[0]) (j:=1) F Bj rfl rfl λSj A outer s H E hr =>
   (ux (vc (uy (uB ED (um (ss 1) ui))))
   (uj (vY (is:=[]) (mb:=[0]) (D1:=(Bd C true)×(List Int)×Int×Unit) (D2:=(Bd C true)×(List Int)×Int×Unit) (uJ q0q) yf rfl (vw (ss 1)) (uG 2 (uw Bj.nd))
   (uj (vc (uy (vr 0 wH (um (ss 2) ui))))) q0q q0q)))) λp Kn Ke h=>?_
 walk_at "wl"
 have h:if asc p.2.1=true then (if vn p.1 p.2.1=true then Kn () (p.1,#[],()) else Ke XC (p.1,#[],())) else Ke XS (p.1,#[],()):=h;refine#[λha=>?_,λha=>?_]
 ·have ha:asc p.2.1=true:=ha;rw[ga ha]at h;refine vf (λ(r:List Int)(b:B0 C×List Int×WL.Un×Unit)=>b.1=p.1/\if vn p.1 r=true then Kn () (p.1,#[],()) else Ke XC (p.1,#[],())) p.2.1 #[rfl,h] ?_ ?_
  ·rintro c r b _ ⟨e,hb⟩ K2 hK;rw[DS]at hb;show if (lk b.1.rk c).isSome=true then K2 _ else Ke XC (b.1,#[],());rw[e]
   cases q:(lk p.1.rk c).isSome with
   |false=>rw[q]at hb;simpa using hb
   |true =>
    rw[q,Bool.true_and]at hb;rw[ga rfl];exact hK _ #[rfl,hb]
  ·rintro b ⟨e,hb⟩;rw[e];exact hb
 ·have ha:asc p.2.1=false:=ha;rw[gc<|by rw[ha];simp]at h;exact h
noncomputable abbrev wQ:gR:=Bu (top 28) 17
noncomputable abbrev wR:List Str:=["self","row","rank"]
def x8:uq ["self","row","rank","cell"] wR (ug wQ):=by walk_at "sc"
abbrev BO(q:Cq)(C XO:cr)(k:Nat):=yZ q C "must_have_rank" wR (wP C XO) k
def Bk{f:cr}{fd:hO}(F:yk q.K "must_have_rank" "Body.must_have_rank" wQ f fd)(ct:Ah q.K C)(Iy:Xc q.K q.mg "OtherRank" XO):Gq q 2 f fd wR (wP C XO):=by
 refine' uv (Cb (uJ q0q) (D':=(Bd C true)×(List Int)×Int×Un×Unit) (ms:=[0]) (j:=1) F x8 rfl rfl λSj A outer s H E hr =>
   (uj (vY (is:=[]) (mb:=[0]) (D1:=(Bd C true)×(List Int)×Int×Int×Unit) (D2:=(Bd C true)×(List Int)×Int×Int×Unit) (uJ q0q) yf rfl (vw (ss 1)) (uG 3 (uw x8.nd))
   (uj (uZ (tw_cm O8 (Gc .rk 0 trivial ct.cl ct.nR (BL hr) (pv 0) (vD 3 (pv 3))) (ss 2))
   (uj<|Ao rfl Iy)
   uN)) q0q q0q))) λp Kn Ke h=>?_
 walk_at "wl"
 refine vf (λ(r:List Int)(b:B0 C×List Int×Int×WL.Un×Unit)=>b.1=p.1/\b.2.2.1=p.2.2.1/\vn p.1 r=true/\if T0 p.1 r p.2.2.1=true then Kn () (p.1,#[],#[],()) else Ke XO (p.1,#[],#[],())) p.2.1 #[rfl,rfl,h.1,h.2] ?_ ?_
 ·rintro c r b _ ⟨e1,e2,hi,hb⟩ K2 hK;rw[DS,hJ]at hi;rw[Qo]at hb;obtain⟨v,hv⟩:=Option.isSome_iff_exists.mp hi.1;refine#[v,by rw[e1];exact hv,?_];rw[hv]at hb;rw[e2];by_cases q:v=p.2.2.1
  ·rw[gc<|by simp[q]];refine hK _ #[e1,rfl,hi.2,?_];rw[q]at hb;simpa using hb
  ·rw[ga (by simp[q]),e1];rw[gc<|by simp[q]]at hb;exact hb
 ·rintro b ⟨e1,_,_,hb⟩;rw[e1];exact hb
noncomputable abbrev zD:gR:=Bu (top 28) 9
abbrev vV:List Str:=["self","row"]
def Gy:uq ["self","row"] vV (ug zD):=by walk_at "sc"
def EE:(["cell","self"]:List Str).Nodup:=by decide +kernel
abbrev zF(q:Cq)(C XS XC:cr)(k:Nat):=yZ q C "border_of" vV (xh C XS XC) k
def Gz{f:cr}{fd:hO}(F:yk q.K "border_of" "Body.border_of" zD f fd)(ct:Ah q.K C)(T1:wu q "total" ["rows"] LU 3)(Iz:xZ q C XS XC 3):Gq q 4 f fd vV (xh C XS XC):=by
 refine' uv (vU (D':=Unit) (ms:=[0]) (j:=0) F Gy rfl rfl λSj A outer s H E hr =>
   (ux (vc (uy (vr 0 Iz (um (ss 1) ui))))
   (uj (uC (uB T1 (um (uQ (v7 (Ts:=["cell"]) (Fr:=["self"]) (idx:=[0]) (k:=1) (mb:=[1]) (is:=[]) (cl:=[("self",⇑s+1)]) rfl (vw (ss 1)) P1 rfl (vQ rfl) (λs₀ H₀ C ex pn=>(uG 0 (uw EE))) (λs₀ H₀ C ex pn=>tws_nil) (λs₀ H₀ C ex pn=>(zY 1 ct.cl ct.nB (BL hr) (pv 1) (vD 0 (pv 0)))))) ui)))))) λp Kn Ke h=>?_
 walk_at "wl"
 obtain⟨ok,h⟩:=h;show if asc p.2.1=true then (if vn p.1 p.2.1=true then _ else Ke XC (p.1,#[],())) else Ke XS (p.1,#[],());by_cases ha:asc p.2.1=true
 ·rw[ga ha]at h ⊢;by_cases hb:vn p.1 p.2.1=true
  ·rw[ga hb]at h ⊢
   have lkb:∀c∈p.2.1,lk p.1.bd c=↑(vK p.1 c):=λc hc=>by obtain⟨v,hv⟩:=Option.isSome_iff_exists.mp<|ok.kb c<|List.all_eq_true.mp hb c hc;unfold vK;rw[hv];rfl
   refine#[Nk ok ha hb,vo (f:=λc=>some<|Tp.mk<|vK p.1 c) (λc hc K hk=>#[vK p.1 c,lkb c hc,hk]) ?_];refine#[xS 0 63,by rw[v6];decide,λr hr=>?_,?_]
   ·obtain⟨c,hc,e⟩:=List.mem_filterMap.mp hr;cases e;obtain⟨g1,g2⟩:=ok.bo c _<|lkb c hc;exact⟨g1,λx hx=>yR (g2 x hx).1 (g2 x hx).2⟩
   ·have e:((p.2.1.filterMap λc=>some<|Tp.mk<|vK p.1 c).map (·.l))=p.2.1.map (vK p.1):=by rw[show (λc=>some<|Tp.mk<|vK p.1 c)=some∘(λc=>Tp.mk<|vK p.1 c) from rfl,List.filterMap_eq_map,jR];rfl
    rw[e];exact h
  ·rw[gc hb]at h ⊢;exact h
 ·rw[gc ha]at h ⊢;exact h
noncomputable abbrev GB:gR:=Bu (top 28) 4
noncomputable abbrev x9:List Str:=["self"]
def Qp:uq ["self"] x9 (ug GB):=by walk_at "sc"
abbrev T2(q:Cq)(C:cr)(k:Nat):=yZ q C "cells" x9 (CS C) k
def Qq(F:yk q.K "cells" "Body.cells" GB f d)(b:Ah q.K C)(B:Bn q.mg):Gq q 2 f d x9 (CS C):=by
 refine' uv (vU (D':=Unit) (ms:=[0]) (j:=0) F Qp rfl rfl λe A a s H E g =>
   (uj (uC (DE .rk 0 trivial b.cl b.nR rfl rfl B.sorted (pv 0))))) λp i k h=>?_
 walk_at "wl"
 obtain⟨c,h⟩:=h;exact#[c.lr,by rw[<- Do (nY _) c.ri];exact h]
noncomputable abbrev J3:gR:=Bu (top 28) 8
abbrev zH:List Str:=["self","cell"]
def T4:uq ["self","cell"] zH (ug J3):=by walk_at "sc"
def Qr:(["high","cell","self"]:List Str).Nodup:=by decide +kernel
abbrev W5(q:Cq)(C XC:cr)(k:Nat):=yZ q C "over" zH (Gv C XC) k
def T5(F:yk q.K "over" "Body.over" J3 f u)(m:Ah q.K C)(a:vX q C XC 3)(b:T2 q C 3):Gq q 4 f u zH (Gv C XC):=by
 refine' uv (vU (D':=Unit) (ms:=[0]) (j:=0) F T4 rfl rfl λw A i s H E x =>
   (ux (vc (uy (vr 0 a (um (ss 1) ui))))
   (uj (uC (v7 (Ts:=["high"]) (Fr:=["cell","self"]) (idx:=[1,0]) (k:=1) (mb:=[1,2]) (is:=[]) (cl:=[("self",⇑s+1),("cell",⇑s+1+1)]) rfl (vw (uQ (Ie 0 b))) bs2 rfl (vQ rfl) (λc d C n o=>(uG 0 (uw Qr))) (λc d C n o=>(tws_one (tw_inT (ss 1) (zY 2 m.cl m.nB (BL x) (pv 2) (vD 0 (pv 0))) (by with_unfolding_all rfl)))) (λc d C n o=>(ss 0))))))) λp B y h=>?_
 walk_at "wl"
 obtain⟨l,h⟩:=h;show if (lk p.1.rk p.2.1).isSome=true then _ else y XC (p.1,#[],());by_cases r:(lk p.1.rk p.2.1).isSome=true
 ·rw[ga r]at h ⊢;refine#[l,?_,?_]
  ·show (p.1.rk.map (·.1)).length<=gk;rw[gm];have:=l.lr;exact vd q0a
  ·refine vo (f:=λk=>if decide (p.2.1∈vK p.1 k)=true then some k else none) (λk z K g=>?_) ?_
   ·obtain⟨v,t⟩:=Option.isSome_iff_exists.mp<|l.kb k<|wG z;have e:vK p.1 k=v:=by unfold vK;rw[t];rfl
    refine#[v,t,?_];rw[e]at g;show if decide (p.2.1∈v)=true then _ else _;by_cases q:decide (p.2.1∈v)=true
    ·rw[ga q]at g ⊢;exact g
    ·rw[gc q]at g ⊢;exact g
   ·rw[filterMap_filter];exact h
 ·rw[gc r]at h ⊢;exact h
noncomputable abbrev Qs:gR:=Bu (top 28) 1
noncomputable abbrev Cg:List Str:=["self","rank","border"]
def Qt:uq ["self","rank","border","cell"] Cg (ug Qs):=by walk_at "sc"
abbrev Zp(q:Cq)(C XB XS XC XO XP:cr)(k:Nat):=yZ q C "put" Cg (Ix C XB XS XC XO XP) k
def W6(F:yk q.K "put" "Body.put" Qs f R)(o:Ah q.K C)(e:xZ q C XS XC 5)(b:BO q C XO 5)(g:zF q C XS XC 5)(k:Xc q.K q.mg "BadRank" XB)(t:Xc q.K q.mg "Full" W4)(c:Xc q.K q.mg "OpenBorder" XP)(d:q.mg "MOST_CELLS"=↑(.int 120 r))(i:q.mg "TOP_RANK"=↑(.int 12 u))(B:Bn q.mg):Gq q 6 f R Cg (Ix C XB XS XC XO XP):=by
 refine' uv (vU (D':=Unit) (ms:=[0]) (j:=1) F Qt rfl rfl λS A I s H E O =>
   (ux (uZ (tw_w (O9 (tw_cm O6 (ss 1) ul) (JF (tw_cm Vi (ss 1) (PJ rfl i)))))
   (uj<|Ao rfl k)
   uN)
   (ux (vc (uy (vr 0 e (um (ss 2) ui))))
   (ux (vc (uy (vr 0 b (um (ss 2) (um (zS FC (ss 1) ul) ui)))))
   (ux (uZ (tw_trueO (vr 0 g (um (ss 2) ui)))
   (uj<|Ao rfl c)
   uN)
   (ux (uZ (tw_cm O7 (Ti .rk 0 trivial o.cl o.nR rfl B.len (pv 0)) (PJ rfl d))
   (uj<|Ao rfl t)
   uN)
   (ux (uz 3 Qt.nd (uX (Y1 0 o.cl o.nU (pv 0))))
   (ux (Gd .rk 0 trivial o.cl o.nR (BL O) (pv 0) (vD 3 (pv 3)) (ss 1))
   (ux (Tj 0 o.cl o.nB (BL O) (pv 0) (vD 3 (pv 3)) (Tl rfl B.tuple (vG (ss 2))))
   (ux (Y2 0 o.cl o.nU (pv 0) (zS Aw (ss 3) ul))
   (uj (uC (uX (ss 3)))))))))))))) λp P m h=>?_
 walk_at "wl"
 obtain⟨J,L,h⟩:=h
 have M:(if asc p.2.2.1=true then (if vn p.1 p.2.2.1=true then (if T0 p.1 p.2.2.1 (p.2.1-1)=true then
  (if NP (p.2.2.1.map (vK p.1))=[] then P p.1.up ({ p.1 with rk:=pk p.1.rk p.1.up p.2.1,bd:=pk p.1.bd p.1.up p.2.2.1,up:=p.1.up+1},#[],#[],()) else m XP (p.1,#[],#[],())) else m XO (p.1,#[],#[],())) else m XC (p.1,#[],#[],())) else m XS (p.1,#[],#[],())) ->
  zA C XS XC (p.1,p.2.2.1,()) (λy v=>wP C XO (v.1,p.2.2.1,p.2.1-1,()) (λy w=>xh C XS XC (w.1,p.2.2.1,()) (λy a =>
   if (!y.l.isEmpty)=true then m XP (a.1,#[],#[],()) else if decide (120<=(a.1.rk.length:Int))=true then m W4 (a.1,#[],#[],()) else a.1.rk.length<gk/\a.1.bd.length<gk/\lk a.1.bd a.1.up=none /\
    P a.1.up ({ a.1 with rk:=pk a.1.rk a.1.up p.2.1,bd:=pk a.1.bd a.1.up p.2.2.1,up:=a.1.up+1},#[],#[],()))
   λn v=>m n (v.1,#[],#[],())) λn v=>m n (v.1,#[],#[],())) λn v=>m n (v.1,#[],#[],()):=by
  intro h;show if asc p.2.2.1=true then (if vn p.1 p.2.2.1=true then _ else m XC (p.1,#[],#[],())) else m XS (p.1,#[],#[],());by_cases N:asc p.2.2.1=true
  ·rw[ga N]at h ⊢;by_cases x:vn p.1 p.2.2.1=true
   ·rw[ga x]at h ⊢;refine#[x,?_];by_cases Q:T0 p.1 p.2.2.1 (p.2.1-1)=true
    ·rw[ga Q]at h ⊢;refine#[J,?_];rw[ga N,ga x];by_cases hd:NP (p.2.2.1.map<|vK p.1)=[]
     ·rw[ga hd]at h;have T:=J.lr;have U:=J.lb;have z:gk=16777216:=iB;rw[hd,gc q0o,gc<|by simp;lia];exact#[(by show p.1.rk.length<gk;lia),(by show p.1.bd.length<gk;lia),L,h]
     ·rw[gc hd]at h;rw[ga<|by simpa using hd];exact h
    ·rw[gc Q]at h ⊢;exact h
   ·rw[gc x]at h ⊢;exact h
  ·rw[gc N]at h ⊢;exact h
 by_cases D:p.2.1<0
 ·rw[ga<|decide_eq_true D,ga rfl];rw[ga<|.inl D]at h;exact h
 ·rw[gc<|by simpa using D];by_cases G:12<p.2.1
  ·rw[ga<|decide_eq_true G];rw[ga<|.inr G]at h;exact h
  ·rw[gc<|by simpa using G];rw[gc (by intro z;rcases z with z|z;exact D z;exact G z)]at h;exact M h
noncomputable abbrev J4:gR:=Bu (top 28) 2
abbrev zI:List Str:=["self","cell"]
def T6:uq ["self","cell"] zI (ug J4):=by walk_at "sc"
def T7(F:yk q.K "take" "Body.take" J4 f m)(d:Ah q.K C)(c:W5 q C XC 5)(b:Xc q.K q.mg "Covered" XV):Gq q 6 f m zI (Gw C XC XV):=by
 refine' uv (Cb (uJ q0q) (D':=(Bd C true)×Int×Unit) (ms:=[0]) (j:=0) F T6 rfl rfl λn A g s H E o =>
   (ux (uZ (tw_trueO (vr 0 c (um (ss 1) ui)))
   (uj<|Ao rfl b)
   uN)
   (ux (LI .rk 0 trivial d.cl d.nR (pv 0) (vD 1 (pv 1)) (λi k=>FH i k))
   (uj (Tk 0 d.cl d.nB (pv 0) (vD 1 (pv 1)) (λi k=>FH i k)))))) λp t u h=>?_
 walk_at "wl"
 obtain⟨l,h⟩:=h;refine#[l,?_];by_cases e:(lk p.1.rk p.2.1).isSome=true
 ·rw[ga e]at h ⊢
  cases q:W3 p.1 p.2.1 with
  |nil =>
   rw[q,ga rfl]at h;exact#[e,l.kb _ e,h]
  |cons a r =>
   rw[q,gc q0o]at h;exact h
 ·rw[gc e]at h ⊢;exact h
noncomputable abbrev DT:gR:=Bu (top 28) 7
abbrev xi:List Str:=["self","cell"]
def Nl:uq ["self","cell"] xi (ug DT):=by walk_at "sc"
abbrev Qu(q:Cq)(C XC:cr)(k:Nat):=yZ q C "border" xi (Bh C XC) k
def Nm{f:cr}{fd:hO}(F:yk q.K "border" "Body.border" DT f fd)(ct:Ah q.K C)(wH:vX q C XC 2)(B:Bn q.mg):Gq q 3 f fd xi (Bh C XC):=by
 refine' uv (vU (D':=Unit) (ms:=[0]) (j:=0) F Nl rfl rfl λSj A outer s H E hr =>
   (ux (vc (uy (vr 0 wH (um (ss 1) ui))))
   (uj (uC (PH rfl B.list (zY 0 ct.cl ct.nB (BL hr) (pv 0) (vD 1 (pv 1)))))))) λp Kn Ke h=>?_
 walk_at "wl"
 obtain⟨ok,h⟩:=h;show if (lk p.1.rk p.2.1).isSome=true then _ else Ke XC (p.1,#[],());by_cases q:(lk p.1.rk p.2.1).isSome=true
 ·rw[ga q]at h ⊢;exact#[_,Ap ok q,h]
 ·rw[gc q]at h ⊢;exact h
end
section
variable(C:cr)
noncomputable def vR{C:cr}(x:B0 C)(c:Int):Bool:=(lk x.ht c).isSome||(lk x.th c).isSome
noncomputable def Bl{C:cr}(x:B0 C)(low high:Int):List Int:=(vK x high).filter λf=>decide (f≠low)&&(lk x.ht f).isSome
noncomputable def vA{C:cr}(x:B0 C)(t:Int):Int:=(lk x.ht t).getD 0
noncomputable def vj{C:cr}(x:B0 C):List Int:=x.ht.map (·.1)
def XM{C:cr}(x:B0 C):Prop:=∃r:Int->Nat,∀l∈vj x,∀t∈Bl x l (vA x l),r l<r t
structure z8{C:cr}(x:B0 C):Prop where
 ok:Qn x
 nd:(vj x).Nodup
 len:x.ht.length<64
 Zq:x.th.length<64
 ht:∀l h,lk x.ht l=↑h->(lk x.rk l).isSome=true/\(lk x.rk h).isSome=true/\l∈vK x h/\lk x.th h=↑l
 th:∀l h,lk x.th h=↑l->lk x.ht l=↑h
 one:∀c,(lk x.ht c).isSome=true->(lk x.th c).isSome=true->False
 acy:XM x
noncomputable def El{C:cr}(x:B0 C)(low high:Int):B0 C:={ x with ht:=pk x.ht low high,th:=pk x.th high low}
def Fo:Wf (B0 C×Int×Unit) Bool (B0 C×Un×Unit):=λp a _=>a (vR p.1 p.2.1) (p.1,#[],())
def GC:Wf (B0 C×Int×Int×Unit) (OL Int) (B0 C×Un×Un×Unit):=λp a _ =>
 (lk p.1.bd p.2.2.1).isSome=true/\(vK p.1 p.2.2.1).length<=gk/\a #[Bl p.1 p.2.1 p.2.2.1] (p.1,#[],#[],())
def LW:Wf (B0 C×Unit) (OL Int) (B0 C×Unit):=λp a _=>p.1.ht.length<64/\(vj p.1).Nodup/\a #[AE<|vj p.1] (p.1,())
def IA:Wf (B0 C×Unit) (OL<|Int×Int) (B0 C×Unit):=λp a _=>p.1.ht.length<64/\(vj p.1).Nodup/\a #[(AE<|vj p.1).map λl=>(l,vA p.1 l)] (p.1,())
def Fp(a:cr):Wf (B0 C×Int×Unit) (Option Int) (B0 C×Un×Unit):=λp b c =>
 if (lk p.1.rk p.2.1).isSome=true then b (lk p.1.ht p.2.1) (p.1,#[],()) else c a (p.1,#[],())
def GD(b c:cr):Wf (B0 C×Int×Unit) Int (B0 C×Un×Unit):=λp d a =>
 z8 p.1/\if (lk p.1.rk p.2.1).isSome=true then (if (lk p.1.ht p.2.1).isSome=true then d (vA p.1 p.2.1) ({ p.1 with ht:=dk p.1.ht p.2.1,th:=dk p.1.th (vA p.1 p.2.1)},#[],()) else a c (p.1,#[],())) else a b (p.1,#[],())
def yy:Wf (Dc (Option Int)×Int×Unit) (OL Int) (Dc (Option Int)×Un×Unit):=λp a _ =>
 (∃m:Int->Nat,(∀k,m k<1000)/\(lk p.1.l p.2.1).isSome=true/\∀k e,lk p.1.l k=↑(some e)->(lk p.1.l e).isSome=true/\m e<m k)/\∀r:List Int,r≠[]->a #[r] (p.1,#[],())
def Ci:Wf (B0 C×Int×Int×Unit) (OL Int) (B0 C×Un×Un×Unit):=λp a _ =>
 z8 p.1/\(lk p.1.rk p.2.2.1).isSome=true/\vR p.1 p.2.1=false/\vR p.1 p.2.2.1=false/\∀r:List Int,(r=[]->XM (El p.1 p.2.1 p.2.2.1))->a #[r] (p.1,#[],#[],())
def Qv(b c d e:cr):Wf (B0 C×Int×Int×Unit) Unit (B0 C×Un×Un×Unit):=λp f a =>
 z8 p.1/\if (lk p.1.rk p.2.1).isSome=true then (if (lk p.1.rk p.2.2.1).isSome=true then (if p.2.1∈vK p.1 p.2.2.1 then (if vR p.1 p.2.1=true\/vR p.1 p.2.2.1=true then a d (p.1,#[],#[],())
  else a e (p.1,#[],#[],())/\(XM (El p.1 p.2.1 p.2.2.1)->f () (El p.1 p.2.1 p.2.2.1,#[],#[],()))) else a c (p.1,#[],#[],())) else a b (p.1,#[],#[],())) else a b (p.1,#[],#[],())
structure Ord{C:cr}(x:B0 C)(o:List Int):Prop where
 pm:o.Perm (vj x)
 up:o.Pairwise λa b=>a∉Bl x b (vA x b)
def LX:Wf (B0 C×Unit) (OL Int) (B0 C×Unit):=λp a _=>z8 p.1/\∀o,Ord p.1 o->a #[o] (p.1,())
noncomputable def BP{C:cr}(x:B0 C)(s:List Int×List Int)(t:Int):List Int×List Int:=if t∈s.1 then (xr s.1<|vK x<|vA x t,s.2++[vA x t]) else s
end
def wv{j:Int}:lk (e::l) j=if e.1=j then some e.2 else lk l j:=by
 by_cases q:e.1=j
 ·rw[ga q];unfold lk;rw[ig,decide_eq_true q];rfl
 ·rw[gc q];unfold lk;rw[ig,gH q]
def J5{k j:Int}:∀{l:List (Int×c)},lk l k=none->lk (l++[(k,v)]) j=if j=k then some v else lk l j:=by
 intro b
 induction b with
 |nil =>
  intro _;rw[mw,wv];by_cases q:j=k
  ·rw[ga q,ga q.symm]
  ·rw[gc q,gc<|λz=>q z.symm]
 |cons e l a =>
  intro h;rw[wv]at h;by_cases z:e.1=k
  ·rw[ga z]at h;cases h
  ·rw[gc z]at h;rw[List.cons_append,wv,wv,a h];by_cases q:e.1=j
   ·rw[ga q,ga q,gc<|λw=>z<|q.trans w]
   ·rw[gc q,gc q]
def yV{k:Int}(h:lk l k=none):pk l k v=l++[(k,v)]:=by unfold pk;rw[h];rfl
def Bm{k j:Int}:∀{l:List (Int×d)},lk (dk l k) j=if j=k then none else lk l j:=by
 intro c
 induction c with
 |nil=>unfold dk;rw[List.filter_nil];split<;>rfl
 |cons e l a =>
  have b:=a;unfold dk at b ⊢;rw[iT];by_cases z:e.1=k
  ·rw[gc (by simpa using z),b,wv];by_cases q:j=k
   ·rw[ga q,ga q]
   ·rw[gc q,gc q,gc<|λw=>q<|w.symm.trans z]
  ·rw[ga (by simpa using z),wv,wv,b];by_cases q:e.1=j
   ·rw[ga q,ga q,gc<|λw=>z<|q.trans w]
   ·rw[gc q,gc q]
def W7{k j:Int}:∀{l:List (Int×c)},lk (l.map λe=>if e.1=k then (e.1,v) else e) j=if j=k then (if (lk l k).isSome=true then some v else none) else lk l j:=by
 intro b
 induction b with
 |nil=>simp[lk]
 |cons e l a =>
  rw[gN,wv,a,wv,wv];by_cases z:e.1=k
  ·rw[ga z,ga z];by_cases q:j=k
   ·subst q;simp[z]
   ·have:¬e.1=j:=λw=>q<|w.symm.trans z;simp[q,this]
  ·rw[gc z,gc z];by_cases q:e.1=j
   ·have:¬j=k:=λw=>z<|q.trans w;simp[q,this]
   ·simp[q]
def xu{k j:Int}:lk (pk l k v) j=if j=k then some v else lk l j:=by
 unfold pk
 cases q:(lk l k).isSome with
 |true=>rw[ga rfl,W7,q];simp
 |false =>
  rw[gc q0o,J5<|by simpa using q]
def LY{a:Type}{l:List (Int×a)}{k:Int}(h:k∉l.map (·.1)):lk l k=none:=by
 cases e:lk l k with
 |none=>rfl
 |some v=>exact gA (yS<|by rw[e];rfl) h
def zJ{a:Type}{k:Int}{l:List (Int×a)}:(lk l k).isSome=true↔k∈l.map (·.1):=#[yS,wG]
def LZ{c t:Int}:∀{l:List Int},t∈l->lk (l.map λk=>(k,c)) t=↑c
 |a::l,h=>by
  rw[gN,wv];by_cases q:a=t
  ·rw[ga q]
  ·rw[gc q];exact LZ<|(List.mem_cons.mp h).elim (λz=>gA z.symm q) id
def Cj{b:Type}{p q:b->Bool}(h:∀t,q t=true->p t=true):∀{l:List b},(l.filter q).length<=(l.filter p).length
 | []=>gg _
 |a::l=>by
  have:=Cj h (l:=l);rw[iT,iT];by_cases z:q a=true
  ·rw[ga z,ga<|h a z];simpa using this
  ·rw[gc z];split<;>simp<;>lia
def filter_lt{b:Type}{p q:b->Bool}(h:∀t,q t=true->p t=true){x:b}(c:p x=true)(d:q x=false):∀{l:List b},x∈l->(l.filter q).length+1<=(l.filter p).length
 |a::l,m=>by
  rw[iT,iT];rcases List.mem_cons.mp m with z|z
  ·subst z;rw[d,c,gc q0o,ga rfl];have:=Cj h (l:=l);simp;lia
  ·have:=filter_lt h c d z;by_cases w:q a=true
   ·rw[ga w,ga<|h a w];simp;lia
   ·rw[gc w];split<;>simp<;>lia
def Qw{r:Int->Nat}{t:Int}:∀{l:List Int},t∈l->r t<=(l.map r).sum
 |a::l,h=>by
  rw[gN,List.sum_cons];rcases List.mem_cons.mp h with z|z
  ·rw[z];lia
  ·have:=Qw (r:=r) z;lia
section
variable{C:cr}{x:B0 C}
def vS{l:Int}(h:l∈vj x):lk x.ht l=↑(vA x l):=by obtain⟨v,e⟩:=Option.isSome_iff_exists.mp<|wG h;unfold vA;rw[e];rfl
def ww{l h t:Int}:t∈Bl x l h↔t∈vK x h/\t≠l/\t∈vj x:=by unfold Bl vj;rw[iz,hJ,hV,zJ]
def z8.FT(a:z8 x){l:Int}(h:l∈vj x):(lk x.rk<|vA x l).isSome=true:=(a.ht l _<|vS h).2.1
def z8.bl(a:z8 x){c:Int}(h:(lk x.rk c).isSome=true):(vK x c).length<=gk:=by
 have:=(a.ok.bo c _<|Ap a.ok h);have:=vJ (U:=xS 0 63) this.1 λk b=>yR (this.2 k b).1 (this.2 k b).2;have e:(xS 0 63).length=63:=by decide
 exact vd q0a
def T8{low high:Int}{V:List Int}(v:z8 x)(o:low∉vj x)(f:low∈V)(E:∀k∈V,k≠low->k∈vj x)
 (p:∀k∈V,(k≠low->low∉vK x (vA x k))/\∀t∈Bl x k (if k=low then high else vA x k),t∈V):XM (El x low high):=by
  obtain⟨r,u⟩:=v.acy
  have c:∀{t:Int},t∈vj (El x low high)↔t=low\/t∈vj x:=λ{t}=>by
    show t∈(pk x.ht low high).map (·.1)↔_
    rw[<- zJ,xu]
    by_cases q:t=low
    · simp[q]
    · rw[gc q, zJ]; simp[q, vj]
  have y:∀l,vA (El x low high) l=if l=low then high else vA x l:=λl=>by
    unfold vA El
    rw[xu]
    split<;>rfl
  have A:∀{l h t:Int},t∈Bl (El x low high) l h↔t∈vK x h/\t≠l/\(t=low\/t∈vj x):=λ{l h t}=>by
    rw[ww,c];exact Iff.rfl
  refine#[λt=>if t∈V then (if t=low then ((vj x).map r).sum+1 else ((vj x).map r).sum+2+r t) else r t,λl g t a=>?_]
  rw[y]at a
  have a:=A.mp a
  have i:∀k,k∈vj x->r k<=((vj x).map r).sum:=λk B=>Qw B
  dsimp only
  by_cases b:l=low
  · subst b
    rw[ga rfl]at a
    rw[ga f,ga rfl]
    have D:t∈vj x:=a.2.2.elim (λz=>gA z a.2.1) id
    have e:t∈V:=(p l f).2 t (by rw[ga rfl];exact ww.mpr #[a.1,a.2.1,D])
    rw[ga e,gc a.2.1]
    lia
  · rw[gc b]at a
    have j:l∈vj x:=(c.mp g).elim (λz=>gA z b) id
    by_cases m:l∈V
    · rw[ga m, gc b]
      have d:=p l m
      rw[gc b]at d
      rcases a.2.2 with z|z
      · rw[z]at a; exact gA a.1<|d.1 b
      · have s : t ∈ Bl x l (vA x l) := ww.mpr #[a.1, a.2.1, z]
        have:=u l j t s
        have n:t≠low:=λw=>o<|w▸z
        rw[ga<|d.2 t s,gc n]
        lia
    · rw[gc m]
      have:=i l j
      rcases a.2.2 with z|z
      · subst z
        rw[ga f,ga rfl]
        lia
      · have s : t ∈ Bl x l (vA x l) := ww.mpr #[a.1, a.2.1, z]
        have:=u l j t s
        have n:t≠low:=λw=>o<|w▸z
        by_cases e:t∈V
        · rw[ga e, gc n]; lia
        · rw[gc e]; lia
noncomputable def NR(x:B0 C)(e:List (Int×Option Int)):Nat:=((vj x).filter λt=>!(lk e t).isSome).length
structure Rw(x:B0 C)(low:Int)(e:List (Int×Option Int))(ws:List Int)(D:Int->List (Int×Option Int)->Prop):Prop where
 lo:(lk e low).isSome=true
 tl:∀k,(lk e k).isSome=true->k≠low->k∈vj x
 wk:∀k∈ws,(lk e k).isSome=true
 dn:∀k,(lk e k).isSome=true->k∉ws->D k e
 ch:∃mm:Int->Nat,(∀k,mm k<=e.length)/\∀k t,lk e k=↑(some t)->(lk e t).isSome=true/\mm t<mm k
 sz:e.length+NR x e<=64
def Rw.add{low:Int}{a t0:Int}(R:Rw x low e p D)(m:a∈vj x)(d:lk e a=none)(i:(lk e t0).isSome=true)(b:∀k,(lk e k).isSome=true->D k e->D k (pk e a<|↑t0)) :
  Rw x low (pk e a<|↑t0) (p++[a]) D/\NR x (pk e a<|↑t0)+1<=NR x e:=by
 have r:NR x (pk e a<|↑t0)+1<=NR x e:=by
  refine filter_lt (x:=a) (λt h=>?_) (by rw[d];rfl) (by rw[xu,ga rfl];rfl) m;rw[xu]at h;by_cases q:t=a
  ·rw[ga q]at h;simp at h
  ·rw[gc q]at h;exact h
 have f:∀k,(lk e k).isSome=true->(lk (pk e a<|some t0) k).isSome=true:=λk h=>by
  rw[xu];split
  ·rfl
  ·exact h
 have j:∀k,k≠a->lk (pk e a<|some t0) k=lk e k:=λk h=>by rw[xu,gc h]
 have c:(pk e a<|↑t0).length=e.length+1:=by rw[yV d];simp
 refine#[#[f _ R.lo,λk h n=>?_,λk h=>?_,λk h n=>?_,?_,by rw[c];have:=R.sz;lia],r]
 ·by_cases q:k=a
  ·rw[q];exact m
  ·rw[j k q]at h;exact R.tl k h n
 ·rcases List.mem_append.mp h with z|z
  ·exact f _<|R.wk k z
  ·rw[List.mem_singleton.mp z,xu,ga rfl];rfl
 ·have q:k≠a:=λz=>n (by rw[z];simp);rw[j k q]at h;exact b k h<|R.dn k h λz=>n<|iq _ z
 ·obtain⟨s,o,u⟩:=R.ch;refine#[λk=>if k=a then e.length+1 else s k,λk=>?_,λk t h=>?_]
  ·rw[c];dsimp only;split
   ·exact gg _
   ·have:=o k;lia
  ·by_cases q:k=a
   ·rw[q,xu,ga rfl]at h;injection h with h;injection h with h;subst h;have l:t0≠a:=λz=>by rw[z,d]at i;cases i
    refine#[f _ i,?_];dsimp only;rw[ga q,gc l];have:=o t0;lia
   ·rw[j k q]at h;have g:=u k t h;have l:t≠a:=λz=>by rw[z,d]at g;cases g.1
    refine#[f _ g.1,?_];dsimp only;rw[gc q,gc l];exact g.2
def L0(x:B0 C)(low high:Int)(k:Int)(e:List (Int×Option Int)):Prop:=(k≠low->low∉vK x (vA x k))/\∀t∈Bl x k (if k=low then high else vA x k),(lk e t).isSome=true
def Qx{low high:Int}(b:z8 x):Rw x low [(low,none)] [low] (L0 x low high):=by
 have a:∀k,(lk ([(low,none)]:List (Int×Option Int)) k).isSome=true->k=low:=λk h=>by have:=yS h;simpa using this
 refine#[wG q0o,λk h n=>gA (a k h) n,λk h=>wG (by simpa using h),λk h n=>gA (a k h) (by simpa using n),#[λ_=>0,λ_=>iu _,λk t h=>?_],?_]
 ·rw[wv]at h;by_cases q:low=k
  ·rw[ga q]at h;cases h
  ·rw[gc q]at h;cases h
 ·have:=b.len;have g:NR x [(low,none)]<=(vj x).length:=gS _ _;have e:(vj x).length=x.ht.length:=gm _;simp only[gJ]
  lia
def a1t{low:Int}(a:z8 x):2*NR x [(low,none)]+[low].length<=200:=by
 have:=a.len;have g:NR x [(low,none)]<=(vj x).length:=gS _ _;have e:(vj x).length=x.ht.length:=gm _;simp only[gJ]
 lia
noncomputable def J7(x:B0 C)(a:List Int):List Int:=(vj x).filter λt=>decide<|t∉a
noncomputable def cnt(x:B0 C)(a:List Int)(t:Int):Int:=((a.filter λl=>decide<|t∈Bl x l (vA x l)).length:Int)
def ya{t:Int}:t∈J7 x a↔t∈vj x/\t∉a:=by unfold J7;rw[iz,hV]
def cnt_cons{l t:Int}:cnt x (l::a) t=cnt x a t+if t∈Bl x l (vA x l) then 1 else 0:=by
 unfold cnt;rw[iT];by_cases q:t∈Bl x l (vA x l)
 ·rw[ga<|decide_eq_true q,ga q];simp
 ·rw[gc (by simpa using q),gc q];simp
def IB{a:List Int}{t:Int}(h:a.Perm b):cnt x a t=cnt x b t:=by unfold cnt;rw[(h.filter _).length_eq]
def W8{t:Int}:0<=cnt x a t:=by unfold cnt;lia
def Qy{t:Int}(h:cnt x a t=0):∀l∈a,t∉Bl x l (vA x l):=λl b q=>by unfold cnt at h;have:(a.filter λl=>decide<|t∈Bl x l (vA x l))=[]:=List.length_eq_zero_iff.mp q0a;have m:l∈(a.filter λl=>decide<|t∈Bl x l (vA x l)):=List.mem_filter.mpr #[b,decide_eq_true q];rw[this]at m;cases m
def L4{t:Int}(h:cnt x a t≠0):∃l∈a,t∈Bl x l (vA x l):=by
 unfold cnt at h
 cases e:(a.filter λl=>decide<|t∈Bl x l (vA x l)) with
 |nil=>rw[e]at h;exact gA rfl h
 |cons l r =>
  have m:l∈(a.filter λl=>decide<|t∈Bl x l (vA x l)):=by rw[e];exact gh
  have:=List.mem_filter.mp m;exact#[l,this.1,jr this.2]
def J8{a b:List Int}(h:a.Nodup)(c:b.Nodup)(s:∀k∈a,k∈b):a.length<=b.length:=by
 have p:a.Perm (b.filter λk=>decide<|k∈a):=vC h (c.filter _) λk=>by rw[iz,hV];exact#[λz=>#[s k z,z],λz=>z.2]
 rw[p.length_eq];exact gS _ _
def L5{a:Type}{l:List (Int×a)}{k:Int}{v:a}(h:(lk l k).isSome=true):(pk l k v).map (·.1)=l.map (·.1):=by unfold pk;rw[ga h,jR];refine mC λe _=>?_;dsimp only[tP];split<;>rfl
structure Kh(x:B0 C)(u:List (Int×Int))(ready told r2:List Int):Prop where
 ks:u.map (·.1)=vj x
 nd:(told++ready).Nodup
 st:∀t∈told++ready,t∈vj x
 ct:∀t∈vj x,lk u t=↑(cnt x (J7 x told) t+if t∈r2 then 1 else 0)
 rd:∀t∈vj x,t∉told->(t∈ready↔cnt x (J7 x told) t+(if t∈r2 then 1 else 0)=0)
 bk:∀a∈told,∀l∈vj x,l∉told->a∉Bl x l (vA x l)
 od:told.Pairwise λa b=>a∉Bl x b (vA x b)
def T9{y:Int}(b:z8 x)(c:y∈vj x)(d:y∉a):(J7 x a).Perm (y::J7 x (a++[y])):=by
 refine vC (b.nd.filter _) (List.nodup_cons.mpr #[λz=>(ya.mp z).2 q0o,b.nd.filter _]) λk=>?_;rw[ya,gO,ya,ko,lx];by_cases q:k=y
 ·subst q;exact#[λ_=>.inl rfl,λ_=>#[c,d]]
 ·simp[q]
def Kh.pop{y:Int}(n:z8 x)(K:Kh x u (f++[y]) c []):Kh x u f (c++[y]) (Bl x y<|vA x y):=by
 have g:y∈vj x:=K.st y q0o;have o:=List.nodup_append.mp K.nd;have h:y∉c:=λz=>o.2.2 y z y q0o rfl;have q:=T9 n g h;have j:∀t,cnt x (J7 x c) t=cnt x (J7 x<|c++[y]) t+if t∈Bl x y (vA x y) then 1 else 0:=λt=>by rw[IB q,cnt_cons]
 have r:cnt x (J7 x c) y=0:=by have:=(K.rd y g h).mp q0o;simpa using this
 refine#[K.ks,?_,λt d=>K.st t (by simp only[ko,lx]at d ⊢;rcases d with(z|z)|z<;>simp[z]),λt d=>?_,λt d e=>?_,λa i l k e=>?_,?_]
 ·have p:(c++[y]++f).Perm (c++(f++[y])):=by rw[kE];exact nJ c lY
  exact(p.nodup_iff).mpr K.nd
 ·rw[K.ct t d,j t];simp
 ·have s:t∉c:=λz=>e<|iq _ z;have v:t≠y:=λz=>e (by rw[z];simp);have:=K.rd t d s;rw[j t]at this;rw[ko,lx]at this;simpa[v] using this
 ·have m:l∉c:=λz=>e<|iq _ z;rcases List.mem_append.mp i with z|z
  ·exact K.bk a z l k m
  ·rw[List.mem_singleton.mp z];exact Qy r l<|ya.mpr #[k,m]
 ·rw[List.pairwise_append];refine#[K.od,jh _ _,λa i b w=>?_];rw[List.mem_singleton.mp w];exact K.bk a i y g h
def Kh.step{b v:Int}(K:Kh x u ready c (b::e))(f:b∈vj x)(i:b∉c)(j:b∉e)(k:lk u b=↑v) :
  Kh x (pk u b<|v-1) (if v-1=0 then ready++[b] else ready) c e:=by
 have g:=K.ct b f;rw[k,ga gh]at g;injection g with g
 have l:b∉ready:=λz=>by
  have:=(K.rd b f i).mp z;rw[ga gh]at this;have:=W8 (x:=x) (a:=J7 x c) (t:=b)
  lia
 have d:∀t,t≠b->(if t∈b::e then (1:Int) else 0)=if t∈e then 1 else 0:=λt q=>by simp[q]
 refine#[(L5<|by rw[k];rfl).trans K.ks,?_,λt h=>?_,λt h=>?_,λt h m=>?_,K.bk,K.od]
 ·split
  ·have p:(c++(ready++[b])).Perm (b::(c++ready)):=by rw[<- kE];exact lY
   refine(p.nodup_iff).mpr<|List.nodup_cons.mpr ⟨λz=>?_,K.nd⟩;rcases List.mem_append.mp z with z|z
   ·exact i z
   ·exact l z
  ·exact K.nd
 ·by_cases q:t=b
  ·rw[q];exact f
  ·refine K.st t ?_;rcases List.mem_append.mp h with z|z
   ·exact iq _ z
   ·by_cases w:v-1=0
    ·rw[ga w]at z;rcases List.mem_append.mp z with z|z
     ·exact gI _ z
     ·exact gA (List.mem_singleton.mp z) q
    ·rw[gc w]at z;exact gI _ z
 ·rw[xu];by_cases q:t=b
  ·rw[ga q,q,gc j];congr 1;lia
  ·rw[gc q,K.ct t h,d t q]
 ·by_cases q:t=b
  ·rw[q,gc j];by_cases w:v-1=0
   ·rw[ga w];exact#[λ_=>by lia,λ_=>by simp]
   ·rw[gc w];exact#[λz=>gA z l,λz=>gA q0a w]
  ·have:=K.rd t h m;rw[d t q]at this;rw[<- this];by_cases w:v-1=0
   ·rw[ga w];simp[q]
   ·rw[gc w]
def Kh.done(f:z8 x)(K:Kh x u [] a []):Ord x a:=by
 obtain⟨r,g⟩:=f.acy
 have c:∀n t,r t<=n->t∈vj x->t∈a:=by
  intro n
  induction n with
  |zero =>
   intro t i d;by_cases q:t∈a
   ·exact q
   ·have:cnt x (J7 x a) t≠0:=λz=>by have:=(K.rd t d q).mpr (by simpa using z);cases this
    obtain⟨l,b,e⟩:=L4 this;have:=g l (ya.mp b).1 t e
    lia
  |succ n j =>
   intro t i d;by_cases q:t∈a
   ·exact q
   ·have:cnt x (J7 x a) t≠0:=λz=>by have:=(K.rd t d q).mpr (by simpa using z);cases this
    obtain⟨l,b,e⟩:=L4 this;have:=g l (ya.mp b).1 t e;exact gA (j l q0a (ya.mp b).1) (ya.mp b).2
 have h:=K.nd;rw[jP]at h;exact#[vC h f.nd λk=>#[λz=>K.st k (by simpa using z),λz=>c _ k (gg _) z],K.od]
def Kh.len(b:z8 x)(K:Kh x u ready a d):ready.length<=63/\a.length<=63/\u.length<=63:=by
 have e:(vj x).length=x.ht.length:=gm _;have:=b.len;have c:=J8 K.nd b.nd K.st;rw[gz]at c;have f:u.length=(vj x).length:=by rw[<- K.ks,gm]
 lia
def Qz(a:z8 x){l h:Int}(b:(lk x.rk h).isSome=true):(Bl x l h).Nodup:=by exact(ut (a.ok.bo h _<|Ap a.ok b).1).filter _
end
def zK(C:cr):Wf (B0 C×List Int×Unit) Unit (B0 C×WL.Un×Unit):=λp a _=>(∀c∈p.2.1,vR p.1 c=false)/\a () (p.1,#[],())
section
variable{q:Cq}{C XC XS XO XB XP XV W4 XF XT XN XR XL:cr}
noncomputable abbrev BQ:gR:=Bu (top 30) 22
noncomputable abbrev BR:List Str:=["self","cell"]
def J9:uq ["self","cell"] BR (ug BQ):=by walk_at "sc"
abbrev Aa(q:Cq)(C:cr)(k:Nat):=yZ q C "is_tied" BR (Fo C) k
def Ka(F:yk q.K "is_tied" "Field.is_tied" BQ f g)(b:Ah q.K C)(c:NQ q.K C):Gq q 2 f g BR (Fo C):=by
 refine' uv (vU (D':=Unit) (ms:=[0]) (j:=0) F J9 rfl rfl λi A a s H E d =>
   (uj (uC (uX (YG (Pz .ht false 0 rfl b.cl c.nH (BL d) (ss 1) (pv 0)) (FY (Pz .th false 0 rfl b.cl c.nT (BL d) (ss 1) (pv 0)))))))) λp k l h=>?_
 walk_at "wl"
 have h:k ((lk p.1.ht p.2.1).isSome||(lk p.1.th p.2.1).isSome) (p.1,#[],()):=h;rw[gc gw,gc gw];by_cases e:(lk p.1.ht p.2.1).isSome=true
 ·rw[ga e];rw[e]at h;exact h
 ·rw[gc e];rw[Bool.eq_false_iff.mpr e]at h;exact h
noncomputable abbrev xN:gR:=Bu (top 30) 23
noncomputable abbrev xO:List Str:=["self","row"]
def y8:uq ["self","row","cell"] xO (ug xN):=by walk_at "sc"
abbrev DU(q:Cq)(C:cr)(k:Nat):=yZ q C "must_be_lone" xO (zK C) k
def Cy(F:yk q.K "must_be_lone" "Field.must_be_lone" xN f i)(t:Ah q.K C)(a:Aa q C 2)(d:Xc q.K q.mg "NotLone" XL):Gq q 3 f i xO (zK C):=by
 refine' uv (Cb (uJ q0q) (D':=(Bd C true)×(List Int)×Un×Unit) (ms:=[0]) (j:=1) F y8 rfl rfl λk A g s H E u =>
   (uj (vY (is:=[]) (mb:=[0]) (D1:=(Bd C true)×(List Int)×Int×Unit) (D2:=(Bd C true)×(List Int)×Int×Unit) (uJ q0q) yf rfl (vw (ss 1)) (uG 2 (uw y8.nd))
   (uj (uZ (tw_val (uy (vr 0 a (um (ss 2) ui))))
   (uj<|Ao rfl d)
   uN)) q0q q0q))) λp v w h=>?_
 walk_at "wl"
 obtain⟨l,m⟩:=h;refine vf (λ(r:List Int)(b:B0 C×List Int×WL.Un×Unit)=>b.1=p.1/\∀c∈r,vR p.1 c=false) _ #[rfl,l] ?_ ?_
 ·intro y r b _ e K n;show if vR b.1 y=true then _ else _;rw[gc<|by rw[e.1,e.2 y gh];decide];exact n _ ⟨e.1,λc o=>e.2 c<|gl _ o⟩
 ·intro b e;rw[e.1];exact m
noncomputable abbrev GF:gR:=Bu (top 30) 24
noncomputable abbrev GG:List Str:=["self","low","high"]
def QA:uq ["self","low","high"] GG (ug GF):=by walk_at "sc"
def Nn:(["face","low","self"]:List Str).Nodup:=by decide +kernel
abbrev L6(q:Cq)(C:cr)(k:Nat):=yZ q C "steps" GG (GC C) k
def QB(F:yk q.K "steps" "Field.steps" GF f r)(d:Ah q.K C)(t:NQ q.K C):Gq q 2 f r GG (GC C):=by
 refine' uv (vU (D':=Unit) (ms:=[0]) (j:=0) F QA rfl rfl λu A g s H E i =>
   (uj (uC (v7 (Ts:=["face"]) (Fr:=["low","self"]) (idx:=[1,0]) (k:=1) (mb:=[1,2]) (is:=[]) (cl:=[("self",⇑s+1),("low",⇑s+1+1)]) rfl (Pu (zY 0 d.cl d.nB (BL i) (pv 0) (vD 2 (pv 2)))) bs2 rfl (vQ rfl) (λa b C l m=>(uG 0 (uw Nn))) (λa b C l m=>(tws_one (tw_w (JG (tw_cm O8 (ss 0) (ss 1)) (FX (tw_dIn .ht false 2 rfl d.cl t.nH (BL i) (ss 0) (pv 2))))))) (λa b C l m=>(ss 0)))))) λp w B h=>?_
 walk_at "wl"
 obtain⟨x,n,h⟩:=h;obtain⟨v,o⟩:=Option.isSome_iff_exists.mp x;have e:vK p.1 p.2.2.1=v:=by unfold vK;rw[o];rfl
 rw[e]at n;refine#[v,o,n,?_];refine vi (q:=λf=>decide (f≠p.2.1)&&(lk p.1.ht f).isSome) (λf D K c=>?_) ?_
 ·show if (!decide (f=p.2.1))=true then (if (if false=true then _ else (lk p.1.ht f).isSome)=true then K ↑f _ else K none _) else (if false=true then K ↑f _ else K none _);rw[gc gw,gc gw];by_cases z:f=p.2.1
  ·rw[gc<|by simp[z]];rw[gc<|by simp[z]]at c;exact c
  ·rw[ga<|by simp[z]];by_cases y:(lk p.1.ht f).isSome=true
   ·rw[ga y];rw[ga<|by simp[z,y]]at c;exact c
   ·rw[gc y];rw[gc<|by simp[z,y]]at c;exact c
 ·have h:w #[Bl p.1 p.2.1 p.2.2.1] (p.1,#[],#[],()):=h;unfold Bl at h;rw[e]at h;exact h
noncomputable abbrev GH:gR:=Bu (top 30) 17
noncomputable abbrev GI:List Str:=["self"]
def QC:uq ["self"] GI (ug GH):=by walk_at "sc"
abbrev L7(q:Cq)(C:cr)(k:Nat):=yZ q C "tails" GI (LW C) k
def QD(F:yk q.K "tails" "Field.tails" GH f b)(c:Ah q.K C)(d:NQ q.K C)(B:Bn q.mg):Gq q 2 f b GI (LW C):=by
 refine' uv (vU (D':=Unit) (ms:=[0]) (j:=0) F QC rfl rfl λe A a s H E k =>
   (uj (uC (DE .ht 0 rfl c.cl d.nH rfl rfl B.sorted (pv 0))))) λp l m h=>?_
 walk_at "wl"
 obtain⟨g,n,i⟩:=h;exact#[g,i]
noncomputable abbrev DV:gR:=Bu (top 30) 20
abbrev DW:List Str:=["self"]
def No:uq ["self"] DW (ug DV):=by walk_at "sc"
def Kc:(["low","self"]:List Str).Nodup:=by decide +kernel
abbrev QE(q:Cq)(C:cr)(k:Nat):=yZ q C "arrows" DW (IA C) k
def Np(F:yk q.K "arrows" "Field.arrows" DV f i)(m:Ah q.K C)(n:NQ q.K C)(a:L7 q C 2):Gq q 3 f i DW (IA C):=by
 refine' uv (vU (D':=Unit) (ms:=[0]) (j:=0) F No rfl rfl λo A d s H E r =>
   (uj (uC (v7 (Ts:=["low"]) (Fr:=["self"]) (idx:=[0]) (k:=1) (mb:=[1]) (is:=[]) (cl:=[("self",⇑s+1)]) rfl (vw (uQ (Ie 0 a))) P1 rfl (vQ rfl) (λb c C e g=>(uG 0 (uw Kc))) (λb c C e g=>tws_nil) (λb c C e g=>(v4 (ss 0) (Gc .ht 1 rfl m.cl n.nH (BL r) (pv 1) (vD 0 (pv 0))))))))) λp z B h=>?_
 walk_at "wl"
 obtain⟨t,u,v⟩:=h;refine#[t,u,?_,?_]
 ·show (AE<|vj p.1).length<=gk;rw[(vO _).length_eq];exact vd (by show (p.1.ht.map (·.1)).length<=1000;rw[gm];lia)
 ·refine vo (f:=λl=>↑(l,vA p.1 l)) (λl w K y=>?_) ?_
  ·exact#[_,vS (x:=p.1)<|xY.mp w,y]
  ·rw[og];exact v
noncomputable abbrev BS:gR:=Bu (top 30) 15
abbrev BU:List Str:=["self","cell"]
def Kd:uq ["self","cell"] BU (ug BS):=by walk_at "sc"
abbrev Nq(q:Cq)(C XC:cr)(k:Nat):=yZ q C "head_of" BU (Fp C XC) k
def Kf(F:yk q.K "head_of" "Field.head_of" BS f c)(d:Ah q.K C)(e:NQ q.K C)(a:vX q C XC 2):Gq q 3 f c BU (Fp C XC):=by
 refine' uv (vU (D':=Unit) (ms:=[0]) (j:=0) F Kd rfl rfl λg A b s H E i =>
   (ux (vc (uy (vr 0 a (um (ss 1) ui))))
   (uj (uC (uX (Qg .ht 0 rfl d.cl e.nH (BL i) (pv 0) (vD 1 (pv 1)))))))) λp k l h=>?_
 walk_at "wl"
 exact h
noncomputable abbrev GJ:gR:=Bu (top 30) 14
noncomputable abbrev GK:List Str:=["self","low"]
def IC:uq ["self","low","high"] GK (ug GJ):=by walk_at "sc"
abbrev Ua(q:Cq)(C XC XN:cr)(k:Nat):=yZ q C "untie" GK (GD C XC XN) k
def QF(F:yk q.K "untie" "Field.untie" GJ f k)(c:Ah q.K C)(d:NQ q.K C)(a:vX q C XC 2)(b:Xc q.K q.mg "NotTied" XN):Gq q 3 f k GK (GD C XC XN):=by
 refine' uv (vU (D':=Unit) (ms:=[0]) (j:=1) F IC rfl rfl λl A g s H E m =>
   (ux (vc (uy (vr 0 a (um (ss 1) ui))))
   (ux (uZ (tw_dIn .ht true 0 rfl c.cl d.nH (BL m) (ss 1) (pv 0))
   (uj<|Ao rfl b)
   uN)
   (ux (uz 2 IC.nd (uX (TY .ht 0 rfl c.cl d.nH (pv 0) (vD 1 (pv 1)))))
   (ux (LI .th 0 rfl c.cl d.nT (pv 0) (vD 2 (pv 2)) (λn o=>FH n o))
   (uj (uC (uX (ss 2))))))))) λp u r h=>?_
 walk_at "wl"
 obtain⟨t,h⟩:=h;show if (lk p.1.rk p.2.1).isSome=true then _ else r XC (p.1,#[],());by_cases i:(lk p.1.rk p.2.1).isSome=true
 ·rw[ga i]at h ⊢;dsimp only;rw[ga rfl];by_cases q:(lk p.1.ht p.2.1).isSome=true
  ·rw[ga q]at h;rw[gc<|by simp[q]];have e:=vS (x:=p.1)<|yS q;exact#[_,e,by rw[(t.ht _ _ e).2.2.2];rfl,h]
  ·rw[gc q]at h;rw[ga<|by simp[q]];exact h
 ·rw[gc i]at h ⊢;exact h
noncomputable abbrev wS:gR:=top 31
noncomputable abbrev wT:List Str:=["earlier","last"]
def v9:uq ["earlier","last","row","tail"] wT (ug wS):=by walk_at "sc"
abbrev BV(q:Cq)(k:Nat):=wu q "row_from_first" wT yy k
def Bo(F:Cf q "row_from_first" wS f n):Gq q 2 f n wT yy:=by
 refine' uv (vU (D':=Unit) (ms:=[0]) (j:=2) F v9 rfl rfl λo A b s H E r =>
   (ux (uz 2 v9.nd (uE (α:=Int) uD))
   (ux (uz 3 v9.nd (uX (yM (ss 1))))
   (ux (DG (mb:=[0]) (D2:=(Dc (Option Int))×Int×(OL Int)×(Option Int)×Unit) (uJ q0q) yf (tw_cm LC (ss 3) JC)
   (ux (vP 2 (zo (ss 3)))
   (uj (uz 3 v9.nd (uX (DL 0 (BL r) (pv 0) (zo (ss 3))))))) q0q)
   (uj (uC (WZ (vL 2)))))))) λp B D h=>?_
 walk_at "wl"
 obtain⟨⟨a,t,u,w⟩,h⟩:=h;refine#[λm d=>d.1=p.1/\(match d.2.2.2.1 with|none=>d.2.2.1.l≠[]|some k=>(lk p.1.l k).isSome=true/\d.2.2.1.l.length+a k<1000)/\(match d.2.2.2.1 with|none=>0|some k=>a k+1)<=m,#[a p.2.1+1,rfl,#[u,by have:=t p.2.1;simpa using this],gg _],?_];intro m;refine a1d λG I x y J=>?_;rintro⟨rfl,c,L⟩
 cases y with
 |none =>
  rw[gc q0o];exact h _ (by simpa using c)
 |some k =>
  rw[ga q0o];obtain⟨v,i⟩:=Option.isSome_iff_exists.mp c.1;have z:gk=16777216:=iB;refine#[k,rfl,by show x.l.length<gk;lia,k,rfl,v,i,?_]
  cases v with
  |none=>exact#[0,q0a,rfl,q0o,gg _]
  |some e =>
   have g:=w k e i;exact#[a e+1,q0a,rfl,#[g.1,by simp;lia],gg _]
noncomputable abbrev zL:gR:=Bu (top 30) 25
noncomputable abbrev zM:List Str:=["self","low","high"]
def wo:uq ["self","low","high","earlier","waiting","tail","head","later"] zM (ug zL):=by walk_at "sc"
abbrev IE(q:Cq)(C:cr)(k:Nat):=yZ q C "ring_with" zM (Ci C) k
def GL(F:yk q.K "ring_with" "Field.ring_with" zL f fd)(ct:Ah q.K C)(cf:NQ q.K C)(a:BV q 3)(D:L6 q C 3):Gq q 4 f fd zM (Ci C):=by
 refine' uv (vU (D':=Unit) (ms:=[0]) (j:=5) F wo rfl rfl λaf A aa s H E P =>
   (ux (uz 3 wo.nd (WX (vD 1 (pv 1))))
   (ux (uz 4 wo.nd (uE (uo (ss 1) uD)))
   (ux (DG (mb:=[0]) (D2:=(Bd C true)×Int×Int×(Dc (Option Int))×(OL Int)×Int×Int×Un×Unit) (uJ q0q) yf (tw_trueR (vL 4))
   (ux (uz 5 wo.nd (uX (LQ 4 (pv 4) (Oi lm nZ n6 Ol (pv 4)))))
   (ux (uz 6 wo.nd (uX (Qh .ht 0 rfl ct.cl cf.nH (BL P) (pv 0) (vD 5 (pv 5)) (vD 2 (pv 2)))))
   (ux (uZ (tw_w (JG (tw_cm O8 (ss 5) (ss 1)) (FX (tw_inT (ss 1) (zY 0 ct.cl ct.nB (BL P) (pv 0) (vD 6 (pv 6))) (by with_unfolding_all rfl)))))
   (uj<|uC<|uB a<|uK 3<|um (ss 5) ui)
   uN)
   (uj (vY (is:=[]) (mb:=[0]) (D1:=(Bd C true)×Int×Int×(Dc (Option Int))×(OL Int)×Int×Int×Int×Unit) (D2:=(Bd C true)×Int×Int×(Dc (Option Int))×(OL Int)×Int×Int×Int×Unit) (uJ q0q) yf rfl (vw (uQ (vr 0 D (um (ss 5) (um (ss 6) ui))))) (uG 7 (uw wo.nd))
   (uj (uZ (tw_dcNin 3 (BL P) (ss 7) (pv 3))
   (ux (P7 3 (BL P) (pv 3) (ss 7) (yM (ss 5)))
   (uj (vP 4 (ss 7))))
   uN)) q0q q0q))))) q0q)
   (uj (uC (uE (α:=Int) uD))))))) λp Kn Ke h=>?_
 walk_at "wl"
 obtain⟨L,hh,t1,t2,h⟩:=h
 have G:p.2.1∉vj p.1:=λz=>by have:=wG z;unfold vR at t1;rw[this]at t1;cases t1
 have n0:lk p.1.ht p.2.1=none:=LY G;refine#[λm d=>d.1=p.1/\d.2.1=p.2.1/\d.2.2.1=p.2.2.1/\Rw p.1 p.2.1 d.2.2.2.1.l d.2.2.2.2.1.l (L0 p.1 p.2.1 p.2.2.1)/\2*NR p.1 d.2.2.2.1.l+d.2.2.2.2.1.l.length<=m/\m<=200,#[_,rfl,rfl,rfl,Qx L,gg _,a1t L],?_];intro m;refine Ey λd1 d2 d3 d4 d5 d6 d7 d8 d9=>?_;rintro⟨rfl,rfl,rfl,i,i5,i6⟩;rcases sx d5.l with e|⟨ys,y,e⟩
 ·rw[gc<|by rw[e];simp];refine h [] λ_=>?_;rw[e]at i;exact T8 (V:=d4.l.map (·.1)) L G (zJ.mp i.lo) (λk o n=>i.tl k (zJ.mpr o) n) λk o=>#[(i.dn k (zJ.mpr o) q0o).1,λt c=>zJ.mp<|(i.dn k (zJ.mpr o) q0o).2 t c]
 ·rw[ga<|by rw[e];simp];rw[sy]at e;refine#[ys,y,e,?_];have W:(lk d4.l y).isSome=true:=i.wk y (by rw[e];simp)
  have hd:(lk p.1.ht y).getD p.2.2.1=if y=p.2.1 then p.2.2.1 else vA p.1 y:=by
   by_cases q:y=p.2.1
   ·rw[ga q,q,n0];rfl
   ·rw[gc q,vS<|i.tl y W q];rfl
  have M:(lk p.1.rk<|if y=p.2.1 then p.2.2.1 else vA p.1 y).isSome=true:=by
   by_cases q:y=p.2.1
   ·rw[ga q];exact hh
   ·rw[gc q];exact L.FT<|i.tl y W q
  rw[hd]
  have I:(y≠p.2.1->p.2.1∉vK p.1 (vA p.1 y))->GC C (p.1,y,(if y=p.2.1 then p.2.2.1 else vA p.1 y),()) (λab p'=>FZ (λx (b:B0 C×Int×Int×Dc (Option Int)×OL Int×Int×Int×WL.Un×Unit) R Kr Ke =>
    if (!(lk b.2.2.2.1.l x).isSome)=true then b.2.2.2.1.l.length<gk/\b.2.2.2.2.1.l.length<gk/\R (b.1,b.2.1,b.2.2.1,#[pk b.2.2.2.1.l x<|↑b.2.2.2.2.2.1],#[b.2.2.2.2.1.l++[x]],b.2.2.2.2.2.1,b.2.2.2.2.2.2.1,#[],b.2.2.2.2.2.2.2.2)
    else R (b.1,b.2.1,b.2.2.1,b.2.2.2.1,b.2.2.2.2.1,b.2.2.2.2.2.1,b.2.2.2.2.2.2.1,#[],b.2.2.2.2.2.2.2.2)) ab.l (p'.1,p.2.1,p.2.2.1,d4,#[ys],y,(if y=p.2.1 then p.2.2.1 else vA p.1 y),d8,d9)
    (λN=>∃m',m'<m/\N.1=p.1/\N.2.1=p.2.1/\N.2.2.1=p.2.2.1/\Rw p.1 p.2.1 N.2.2.2.1.l N.2.2.2.2.1.l (L0 p.1 p.2.1 p.2.2.1)/\2*NR p.1 N.2.2.2.1.l+N.2.2.2.2.1.l.length<=m'/\m'<=200) Kn Ke) (λae p'=>Ke ae (p'.1,#[],#[],())):=by
   intro hy;refine#[by rw[Ap L.ok M];rfl,L.bl M,?_]
   refine vf (λ(r:List Int) (b:B0 C×Int×Int×Dc (Option Int)×OL Int×Int×Int×WL.Un×Unit)=>b.1=p.1/\b.2.1=p.2.1/\b.2.2.1=p.2.2.1/\b.2.2.2.2.2.1=y/\(lk b.2.2.2.1.l y).isSome=true/\(∀t∈r,t∈vj p.1) /\
    Rw p.1 p.2.1 b.2.2.2.1.l b.2.2.2.2.1.l (λk e=>if k=y then (∀t∈Bl p.1 y (if y=p.2.1 then p.2.2.1 else vA p.1 y),(lk e t).isSome=true\/t∈r) else L0 p.1 p.2.1 p.2.2.1 k e)/\2*NR p.1 b.2.2.2.1.l+b.2.2.2.2.1.l.length+1<=m) _ ?_ ?_ ?_
   ·refine#[rfl,rfl,rfl,rfl,W,λt c=>(ww.mp c).2.2,#[i.lo,i.tl,λk o=>i.wk k (by rw[e];exact iq _ o),λk o O=>?_,i.ch,i.sz],?_]
    ·dsimp only;by_cases q:k=y
     ·rw[ga q];exact λt c=>.inr c
     ·rw[gc q];exact i.dn k o (by rw[e];intro z;rcases List.mem_append.mp z with z|z;exact O z;exact q<|List.mem_singleton.mp z)
    ·rw[e,gz]at i5;simp only[gJ]at i5
     lia
   ·intro S r;refine Ey λb1 b2 b3 X b5 J b7 b8 b9=>?_;rintro _ ⟨rfl,rfl,rfl,rfl,Y,j6,u,j8⟩ K hK;have T:∀t∈r,t∈vj p.1:=λt c=>j6 t (gl _ c)
    cases q:lk X.l S with
    |none =>
     rw[ga q0o];have z:gk=16777216:=iB;have s1:=u.sz;have nn:∀(k:Int) (e':List (Int×Option Int)),(∀t,(lk e' t).isSome=true->(lk (pk e' S<|some J) t).isSome=true):=λk e' t c=>by rw[xu];split;rfl;exact c
     obtain⟨Q,u2⟩:=u.add (t0:=J) (j6 S gh) q Y λk o U=>by
      by_cases B:k=J
      ·rw[ga B]at U ⊢;exact λt c=>(U t c).imp (nn k _ t) id
      ·rw[gc B]at U ⊢;exact#[U.1,λt c=>nn k _ t<|U.2 t c]
     refine#[by show X.l.length<gk;lia,by show b5.l.length<gk;lia,hK _ #[rfl,rfl,rfl,rfl,nn 0 _ _ Y,T,?_,?_]]
     ·refine#[Q.lo,Q.tl,Q.wk,λk o O=>?_,Q.ch,Q.sz];have g:=Q.dn k o O;by_cases B:k=J
      ·rw[ga B]at g ⊢;intro t c;rcases g t c with w|w
       ·exact .inl w
       ·rcases List.mem_cons.mp w with w|w
        ·left;rw[w,xu,ga rfl];rfl
        ·exact .inr w
      ·rw[gc B]at g ⊢;exact g
     ·show 2*NR p.1 (pk X.l S<|↑J)+(b5.l++[S]).length+1<=m;rw[gz];simp only[gJ]
      lia
    |some v =>
     rw[gc q0o];refine hK _ #[rfl,rfl,rfl,rfl,Y,T,#[u.lo,u.tl,u.wk,λk o O=>?_,u.ch,u.sz],j8];have g:=u.dn k o O;by_cases B:k=J
     ·rw[ga B]at g ⊢;intro t c;rcases g t c with w|w
      ·exact .inl w
      ·rcases List.mem_cons.mp w with w|w
       ·left;rw[w,q];rfl
       ·exact .inr w
     ·rw[gc B]at g ⊢;exact g
   ·refine Ey λb1 b2 b3 X b5 J b7 b8 b9=>?_;rintro⟨rfl,rfl,rfl,rfl,Y,_,u,j8⟩;refine#[m-1,q0a,rfl,rfl,rfl,#[u.lo,u.tl,u.wk,λk o O=>?_,u.ch,u.sz],by dsimp only at j8 ⊢;lia,q0a];have g:=u.dn k o O;by_cases B:k=J
    ·rw[ga B]at g;subst B;exact#[hy,λt c=>(g t c).elim id λw=>gA w q0o]
    ·rw[gc B]at g;exact g
  by_cases q:y=p.2.1
  ·rw[gc (by simp[q]),gc gw];exact I λz=>gA q z
  ·rw[ga<|by simp[q]];refine#[_,Ap L.ok M,?_];by_cases Z:p.2.1∈vK p.1 (if y=p.2.1 then p.2.2.1 else vA p.1 y)
   ·rw[ga<|decide_eq_true Z];obtain⟨mm,m1,m2⟩:=i.ch;refine⟨⟨mm,λk=>by have:=m1 k;have:=i.sz;lia,W,m2⟩,λr P=>h r λz=>gA z P⟩
   ·rw[gc<|by simpa using Z];exact I λ_=>by rw[gc q]at Z;exact Z
noncomputable abbrev QG:gR:=Bu (top 30) 13
abbrev QH:List Str:=["self","low","high"]
def QI:uq ["self","low","high","ring"] QH (ug QG):=by walk_at "sc"
abbrev Zr(q:Cq)(C XC XF XT XR:cr)(k:Nat):=yZ q C "tie" QH (Qv C XC XF XT XR) k
def W9(F:yk q.K "tie" "Field.tie" QG f D)(o:Ah q.K C)(x:NQ q.K C)(b:vX q C XC 4)(d:Aa q C 4)(e:IE q C 4)(g:Xc q.K q.mg "NotFace" XF)(k:Xc q.K q.mg "Tied" XT)(c:XcI q.P q.w q.K q.mg q.base 3 "RingOfArrows" XR "ring"):Gq q 5 f D QH (Qv C XC XF XT XR):=by
 refine' uv (Cb (uJ q0q) (D':=(Bd C true)×Int×Int×(OL Int)×Unit) (ms:=[0]) (j:=1) F QI rfl rfl λG A v s H E l =>
   (ux (vc (uy (vr 0 b (um (ss 1) ui))))
   (ux (vc (uy (vr 0 b (um (ss 2) ui))))
   (ux (uZ (tw_ninT (ss 1) (zY 0 o.cl o.nB (BL l) (pv 0) (vD 2 (pv 2))) (by with_unfolding_all rfl))
   (uj<|Ao rfl g)
   uN)
   (ux (uZ (tw_w (O9 (tw_val (uy (vr 0 d (um (ss 1) ui)))) (JF (tw_val (uy (vr 0 d (um (ss 2) ui)))))))
   (uj<|Ao rfl k)
   uN)
   (ux (uz 3 QI.nd (vr 0 e (um (ss 1) (um (ss 2) ui))))
   (ux (uZ (tw_trueR (vL 3))
   (uj<|WU (i:=3) (α:=Int) rfl c l<|pv 3)
   uN)
   (ux (Gd .ht 0 rfl o.cl x.nH (BL l) (pv 0) (vD 1 (pv 1)) (ss 2))
   (uj (Gd .th 0 rfl o.cl x.nT (BL l) (pv 0) (vD 2 (pv 2)) (ss 1))))))))))) λp I y h=>?_
 walk_at "wl"
 obtain⟨t,h⟩:=h;show if (lk p.1.rk p.2.1).isSome=true then _ else y XC (p.1,#[],#[],());by_cases B:(lk p.1.rk p.2.1).isSome=true
 ·rw[ga B]at h ⊢;show if (lk p.1.rk p.2.2.1).isSome=true then _ else y XC (p.1,#[],#[],());by_cases ht:(lk p.1.rk p.2.2.1).isSome=true
  ·rw[ga ht]at h ⊢;refine#[_,Ap t.ok ht,?_];by_cases u:p.2.1∈vK p.1 p.2.2.1
   ·rw[ga u]at h;rw[gc<|by simp[u]];show if vR p.1 p.2.1=true then _ else _;by_cases m:vR p.1 p.2.1=true
    ·rw[ga<|.inl m]at h;rw[ga m,ga rfl];exact h
    ·rw[gc m];show if vR p.1 p.2.2.1=true then _ else _;by_cases n:vR p.1 p.2.2.1=true
     ·rw[ga<|.inr n]at h;rw[ga n];exact h
     ·rw[gc<|λz=>z.elim m n]at h;rw[gc n];refine#[t,ht,by simpa using m,by simpa using n,λr l=>?_]
      cases r with
      |nil =>
       rw[gc q0o];have z:gk=16777216:=iB;exact#[(by show p.1.ht.length<gk;have:=t.len;lia),(by show p.1.th.length<gk;have:=t.Zq;lia),h.2<|l rfl]
      |cons a r =>
       rw[ga q0o];exact h.1
   ·rw[gc u]at h;rw[ga<|by simp[u]];exact h
  ·rw[gc ht]at h ⊢;exact h
 ·rw[gc B]at h ⊢;exact h
noncomputable abbrev GN:gR:=Bu (top 30) 21
noncomputable abbrev GO:List Str:=["self"]
def wI:uq ["self","tail","unmet","low","high","later","ready","told"] GO (ug GN):=by walk_at "sc"
def Nr:(["tail","unmet"]:List Str).Nodup:=by decide +kernel
abbrev Ub(q:Cq)(C:cr)(k:Nat):=yZ q C "order" GO (LX C) k
def QJ(F:yk q.K "order" "Field.order" GN f fd)(ct:Ah q.K C)(cf:NQ q.K C)(u:QE q C 3)(n:L6 q C 3)(v:L7 q C 3):Gq q 4 f fd GO (LX C):=by
 refine' uv (vU (D':=Unit) (ms:=[0]) (j:=7) F wI rfl rfl λab A aa s H E U =>
   (ux (uz 2 wI.nd (Nj .ht 0 rfl ct.cl cf.nH rfl (pv 0) rfl q0s rfl q0s rfl) (hx:=tX rfl))
   (ux (vY (is:=[]) (mb:=[0]) (D1:=(Bd C true)×Un×(Dc Int)×Int×Int×Un×Un×Un×Unit) (D2:=(Bd C true)×Un×(Dc Int)×Int×Int×Un×Un×Un×Unit) (uJ q0q) yf rfl (vw (uQ (Ie 0 u))) (A6 3 4 (Bw rfl (vN (uw (i:=3) wI.nd) (vN (uw (i:=4) wI.nd) zO))) q0q q0q)
   (uj (vY (is:=[]) (mb:=[0]) (D1:=(Bd C true)×Un×(Dc Int)×Int×Int×Int×Un×Un×Unit) (D2:=(Bd C true)×Un×(Dc Int)×Int×Int×Int×Un×Un×Unit) (uJ q0q) yf rfl (vw (uQ (vr 0 n (um (ss 3) (um (ss 4) ui))))) (uG 5 (uw wI.nd))
   (uj (Iv 2 (BL U) (pv 2) (vD 5 (pv 5)) PB NX)) q0q q0q)) q0q q0q)
   (ux (zX (Ts:=["tail"]) (Fr:=["unmet"]) (idx:=[2]) (k:=1) (mb:=[1]) (is:=[]) (cl:=[("unmet",⇑s+1)]) 6 wI.nd rfl rfl rfl q0q rfl (vw (uQ (Ie 0 v))) P1 rfl (vQ rfl) (λJ L C ex pn=>(uG 0 (uw Nr))) (λJ L C ex pn=>(tws_one (tw_cm An (DL 1 (BL U) (pv 1) (ss 0)) ul))) (λJ L C ex pn=>(ss 0)))
   (ux (uz 7 wI.nd (uE (α:=Int) uD))
   (ux (DG (mb:=[0]) (D2:=(Bd C true)×Int×(Dc Int)×Un×Un×Un×(OL Int)×(OL Int)×Unit) (uJ q0q) yf (tw_trueR (vL 6))
   (ux (uz 1 wI.nd (uX (LQ 6 (pv 6) (Oi lm nZ n6 Ol (pv 6)))))
   (ux (vP 7 (ss 1))
   (uj (vY (is:=[]) (mb:=[0]) (D1:=(Bd C true)×Int×(Dc Int)×Un×Un×Int×(OL Int)×(OL Int)×Unit) (D2:=(Bd C true)×Int×(Dc Int)×Un×Un×Int×(OL Int)×(OL Int)×Unit) (uJ q0q) yf rfl (vw (uQ (vr 0 n (um (ss 1) (um (Gc .ht 0 rfl ct.cl cf.nH (BL U) (pv 0) (vD 1 (pv 1))) ui))))) (uG 5 (uw wI.nd))
   (ux (Iv 2 (BL U) (pv 2) (vD 5 (pv 5)) PB VO)
   (uj (uZ (tw_cm An (DL 2 (BL U) (pv 2) (ss 5)) ul)
   (uj<|vP 6<|ss 5)
   uN))) q0q q0q)))) q0q)
   (uj (xX 7 (pv 7))))))))) λp Kn Ke h=>?_
 walk_at "wl"
 obtain⟨g,h⟩:=h;have sl:gk=16777216:=iB;have W:(vj p.1).length<=63:=by have e:(vj p.1).length=p.1.ht.length:=gm _;have:=g.len;lia
 have N:(AE<|vj p.1).Nodup:=(vO _).nodup_iff.mpr g.nd;refine⟨g.len,g.nd,?_⟩;refine vf (λ(r:List (Int×Int)) (b:B0 C×WL.Un×Dc Int×WL.Un×WL.Un×WL.Un×WL.Un×WL.Un×Unit)=>b.1=p.1/\b.2.2.1.l.map (·.1)=vj p.1/\(∀e∈r,e.1∈vj p.1/\e.2=vA p.1 e.1)/\∀t∈vj p.1,lk b.2.2.1.l t=↑(cnt p.1 (AE<|vj p.1) t-cnt p.1 (r.map (·.1)) t)) _ ?_ ?_ ?_
 ·refine#[rfl,?_,λe he=>?_,λt c=>?_]
  ·show ((List.map (λx=>x.1) p.1.ht).map λk=>(k,(0:Int))).map (·.1)=vj p.1;rw[jR];exact List.map_id' _
  ·obtain⟨l,hl,rfl⟩:=List.mem_map.mp he;exact#[xY.mp hl,rfl]
  ·have e:((AE<|vj p.1).map λl=>(l,vA p.1 l)).map (·.1)=AE (vj p.1):=by rw[jR];exact List.map_id' _
   rw[e,Int.sub_self];exact LZ c
 ·rintro⟨l,hd⟩ r;refine Ey λb1 b2 b3 b4 b5 b6 b7 b8 b9=>?_;rintro _ ⟨rfl,j2,j3,R⟩ K hK;have l1:l∈vj p.1/\hd=vA p.1 l:=j3 (l,hd) gh;have hl:=l1.1;have e2:=l1.2;subst e2;have o:=g.FT hl;refine#[by rw[Ap g.ok o];rfl,g.bl o,?_];refine vf (λ(B:List Int)(b:B0 C×WL.Un×Dc Int×Int×Int×WL.Un×WL.Un×WL.Un×Unit)=>b.1=p.1/\b.2.2.1.l.map (·.1)=vj p.1/\B.Nodup/\(∀t∈B,t∈vj p.1)/\∀t∈vj p.1,lk b.2.2.1.l t=↑(cnt p.1 (AE<|vj p.1) t-cnt p.1 (r.map (·.1)) t-if t∈B then 1 else 0)) _ ?_ ?_ ?_
  ·refine#[rfl,j2,Qz g o,λt c=>(ww.mp c).2.2,λt c=>?_];rw[R t c,gN,cnt_cons,<- Int.sub_sub]
  ·intro G B;refine Ey λc1 c2 O c4 c5 c6 c7 c8 c9=>?_;rintro _ ⟨rfl,D,k3,X,k5⟩ K2 I;have T:=List.nodup_cons.mp k3;have e0:=k5 G<|X G gh;have cl:O.l.length<=63:=by rw[<- gm (f:=(·.1)) (as:=O.l),D];exact W
   refine#[_,e0,by show O.l.length<gk;lia,I _ #[rfl,(L5<|by rw[e0];rfl).trans D,T.2,λt c=>X t<|gl _ c,λt c=>?_]];rw[xu];by_cases q:t=G
   ·rw[ga q,q,ga gh,gc T.1];congr 1;lia
   ·rw[gc q,k5 t c];simp[q]
  ·refine Ey λc1 c2 O c4 c5 c6 c7 c8 c9=>?_;rintro⟨rfl,D,_,_,k5⟩;refine hK _ #[rfl,D,λe he=>j3 e<|gl _ he,λt c=>?_];rw[k5 t c];simp
 ·refine Ey λb1 b2 b3 b4 b5 b6 b7 b8 b9=>?_;rintro⟨rfl,j2,_,R⟩
  have R:∀t∈vj p.1,lk b3.l t=↑(cnt p.1 (vj p.1) t):=λt c=>by rw[R t c,n9,IB<|vO<|vj p.1];unfold cnt;simp
  refine#[g.len,g.nd,?_];refine#[by rw[(vO _).length_eq];lia,?_];refine vi (q:=λt=>decide<|cnt p.1 (vj p.1) t=0) (λt c K hK=>#[_,R t<|xY.mp c,hK]) ?_
  have P:Kh p.1 b3.l ((AE<|vj p.1).filter λt=>decide<|cnt p.1 (vj p.1) t=0) [] []:=by
   have u0:J7 p.1 []=vj p.1:=by unfold J7;simp
   refine#[j2,by rw[mw];exact N.filter _,λt c=>?_,λt c=>?_,λt c _=>?_,λa ha=>gA ha q0o,gU]
   ·rw[mw,iz]at c;exact xY.mp c.1
   ·rw[u0,R t c];simp
   ·rw[u0,iz,xY,hV];simp[c]
  refine#[λm d=>d.1=p.1/\Kh p.1 d.2.2.1.l d.2.2.2.2.2.2.1.l d.2.2.2.2.2.2.2.1.l []/\64<=m+d.2.2.2.2.2.2.2.1.l.length,#[64,rfl,P,q0o],?_];intro m;refine Ey λd1 d2 d3 d4 d5 d6 d7 Q d9=>?_;rintro⟨rfl,M,i2⟩;rcases sx d7.l with e|⟨ys,y,e⟩
  ·rw[gc<|by rw[e];simp];rw[e]at M;exact h _<|M.done g
  ·rw[ga<|by rw[e];simp];rw[sy]at e;rw[e]at M;have yt:y∈vj p.1:=M.st y q0o;have o:=g.FT yt;have ln:=M.len g;refine⟨ys,y,e,by show Q.l.length<gk;lia,_,vS yt,by rw[Ap g.ok o];rfl,g.bl o,?_⟩;have K0:=M.pop g;refine vf (λ(B:List Int)(b:B0 C×Int×Dc Int×WL.Un×WL.Un×WL.Un×OL Int×OL Int×Unit)=>b.1=p.1/\b.2.2.2.2.2.2.2.1.l=Q.l++[y]/\Kh p.1 b.2.2.1.l b.2.2.2.2.2.2.1.l (Q.l++[y]) B/\B.Nodup/\∀t∈B,t∈vj p.1/\t∉Q.l++[y]) _ ?_ ?_ ?_
   ·refine#[rfl,rfl,K0,Qz g o,λt c=>#[(ww.mp c).2.2,λz=>?_]];rcases List.mem_append.mp z with z|z
    ·have yn:y∉Q.l:=λw=>(List.nodup_append.mp M.nd).2.2 y w y q0o rfl;exact M.bk t z y yt yn c
    ·exact(ww.mp c).2.1<|List.mem_singleton.mp z
   ·intro G B;refine Ey λc1 c2 O c4 c5 c6 c7 c8 c9=>?_;rintro _ ⟨rfl,Y,D,k3,X⟩ K2 I;have T:=List.nodup_cons.mp k3;have x1:=X G gh;have hv:=D.ct G x1.1;have S:=D.step x1.1 x1.2 T.1 hv;have ae:=D.len g;refine#[_,hv,by show O.l.length<gk;lia,_,by rw[xu,ga rfl],?_];have Z:∀t∈B,t∈vj p.1/\t∉Q.l++[y]:=λt c=>X t<|gl _ c;by_cases w:(cnt p.1 (J7 p.1<|Q.l++[y]) G+if G∈G::B then 1 else 0)-1=0
    ·rw[ga<|decide_eq_true w];rw[ga w]at S;exact#[by show c7.l.length<gk;lia,I _ #[rfl,Y,S,T.2,Z]]
    ·rw[gc<|by simpa using w];rw[gc w]at S;exact I _ #[rfl,Y,S,T.2,Z]
   ·refine Ey λc1 c2 O c4 c5 c6 c7 c8 c9=>?_;rintro⟨rfl,Y,D,_,_⟩;exact#[m-1,q0a,rfl,by rw[Y];exact D,by rw[Y,gz,gJ];lia]
end
structure Nt(l:List Int):Prop where
 ri:v8 l
 lt:∀c∈l,0<=c/\c<63
def Nt.xr(d:Nt a)(e:Nt b):Nt (xr a b):=#[wD d.ri,λc f=>(F9 (ut e.ri) f).elim (d.lt c)<|e.lt c]
def Nt.mem(b:Nt a):∀k∈a,k∈xS 0 63:=λk c=>yR (b.lt k c).1 (b.lt k c).2
def L8:Wf (List Int×List Int×Unit) (OL Int) (WL.Un×WL.Un×Unit):=λp a _=>Nt p.1/\Nt p.2.1/\a #[xr p.1 p.2.1] (#[],#[],())
section
variable{XS:cr}
def IF(h:v8 row)(k:a () (#[],())):CQ XS (row,()) a b:=#[λ_=>k,λz=>by
 rw[(wY row).mpr h]at z
 cases z]
end
section
variable{C:cr}{x:B0 C}
def z8.Vs(a:z8 x){c:Int}(h:(lk x.rk c).isSome=true):Nt (vK x c):=#[(a.ok.bo c _<|Ap a.ok h).1,(a.ok.bo c _<|Ap a.ok h).2]
def Xa{t h:Int}(d:t∈f h):∀{T:List Int},T.Nodup->(∀a∈T,a≠h->t∉f a)->Sf f t T=decide (h∈T):=by
 intro e
 induction e with
 |nil=>intro _ _;exact rfl
 |cons c T b =>
  intro n k;have n:=List.nodup_cons.mp n;show xor (decide<|t∈f c) (Sf f t T)=_;rw[b n.2 λa m=>k a<|gl _ m];by_cases q:c=h
  ·subst q;simp[d,n.1]
  ·have:=k c gh q;simp[this,Ne.symm q]
def QK(g:z8 x):∀{q T acc:List Int},q.Nodup->(∀t∈q,t∈vj x)->(q.Pairwise λa b=>a∉Bl x b (vA x b))->v8 T->(∀h∈T,∃t∈q,vA x t=h)->(q.foldl (BP x) (uI (vK x) T,acc)).2.Perm (acc++T):=by
 intro N
 induction N with
 |nil =>
  intro T acc _ _ _ _ n
  cases T with
  |nil=>simp
  |cons h r=>obtain⟨t,z,_⟩:=n h gh;cases z
 |cons t q p =>
  intro T acc B D s o n;have B:=List.nodup_cons.mp B;have s:=List.pairwise_cons.mp s;have F:=D t gh;have G:=(g.ht t _<|vS F).2.2.1
  have O:∀a∈vj x,∀b∈vj x,vA x a=vA x b->a=b:=λa P b G e=>by have E:=(g.ht a _<|vS P).2.2.2;have Q:=(g.ht b _<|vS G).2.2.2;rw[e,Q]at E;injection E with E;exact E.symm
  have J:∀c∈T,(vK x c).Nodup:=λc u=>by obtain⟨d,m,e⟩:=n c u;rw[<- e];exact ut (g.Vs<|g.FT<|D d m).ri
  have v:t∈uI (vK x) T↔vA x t∈T:=by
   have:=wE (f:=vK x) (x:=t) (l:=T) J;rw[Xa G (ut o) λR m S z=>?_]at this
   ·exact decide_eq_decide.mp this
   ·obtain⟨d,y,e⟩:=n R m;have L:d≠t:=λw=>S (by rw[<- e,w]);have U:d∈q:=(List.mem_cons.mp y).elim (λw=>gA w L) id;refine s.1 d U<|ww.mpr #[?_,Ne.symm L,F];rw[e];exact z
  rw[lu];unfold BP;by_cases A:vA x t∈T
  ·rw[ga<|v.mpr A];have W:v8 [vA x t]:=jh _ _;have H:=g.Vs (g.FT F)
   have X:uI (vK x) [vA x t]=vK x (vA x t):=zu (vk _ _) H.ri λk=>by rw[wE<|λc u=>by rw[List.mem_singleton.mp u];exact ut H.ri];show xor (decide<|k∈vK x (vA x t)) false=_;rw[mW]
   have M:=zZ (f:=vK x) o W J (λc u=>by rw[List.mem_singleton.mp u];exact ut H.ri);rw[X]at M;rw[<- M]
   have i:∀k,k∈xr T [vA x t]↔k∈T/\k≠vA x t:=λk=>by
    rw[yg q0o,lx];by_cases z:k=vA x t
    ·subst z;simp[A]
    ·simp[z]
   have Y:=p (T:=xr T [vA x t]) (acc:=acc++[vA x t]) B.2 (λk I=>D k<|gl _ I) s.2 (wD o) λh j=>by have j:=(i h).mp j;obtain⟨d,y,e⟩:=n h j.1;refine#[d,(List.mem_cons.mp y).elim (λw=>gA (by rw[<- e,w]) j.2) id,e]
   refine Y.trans ?_;rw[kE];refine nJ acc<|vC (List.nodup_cons.mpr ⟨λz=>((i _).mp z).2 rfl,ut<|wD o⟩) (ut o) λk=>?_;show k∈vA x t::xr T [vA x t]↔_;rw[gO,i];by_cases z:k=vA x t
   ·subst z;simp[A]
   ·simp[z]
  ·rw[gc λz=>A<|v.mp z]
   exact p B.2 (λk I=>D k<|gl _ I) s.2 o λh j=>by obtain⟨d,y,e⟩:=n h j;exact#[d,(List.mem_cons.mp y).elim (λw=>gA j<|by rw[<- e,w];exact A) id,e]
def Fq(h:∀c∈row,c∉vj x):∀{o:List Int},(∀t∈o,t∈vj x)->o.foldl (BP x) (row,a)=(row,a)
 | [],_=>rfl
 |t::o,k=>by
  rw[lu];have:BP x (row,a) t=(row,a):=by unfold BP;rw[gc λz=>h t z<|k t gh]
  rw[this];exact Fq h λt b=>k t<|gl _ b
end
def IG(C d a:cr):Wf (B0 C×List Int×Unit) (OL Int) (B0 C×WL.Un×Unit):=λp b c =>
 z8 p.1/\Nt p.2.1/\if vn p.1 p.2.1=true then (∀o,Ord p.1 o->b #[AE (o.foldl (BP p.1) (p.2.1,[])).2] (p.1,#[],())) else c a (p.1,#[],())
def GP(C a b:cr):Wf (B0 C×Int×Unit) Unit (B0 C×WL.Un×Unit):=λp c d=>vR p.1 p.2.1=false/\Gw C a b p c d
abbrev Uc(q:Cq)(C a b:cr)(k:Nat):=yZ q C "take" zI (GP C a b) k
section
variable{C:cr}{x:B0 C}
def DX{x:Int}(c:v8 b):decide (x∈xr a b)=xor (decide<|x∈a) (decide<|x∈b):=by have e:=yg (l:=a) (x:=x)<|ut c;by_cases p:x∈a<;>by_cases q:x∈b<;>simp[p,q,e]
def Xb(f:v8 a)(d:v8 b)(h:xr a b=[]):a=b:=zu f d λx=>by have e:=DX (a:=a) (x:=x) d;rw[h]at e;generalize decide (x∈a)=p at e ⊢;generalize decide (x∈b)=q at e ⊢;cases p<;>cases q<;>simp at e<;>rfl
/-- the c of a sum -/
structure Fl{C:cr}(x:B0 C)(row h:List Int):Prop where
 ri:v8 h
 hs:∀k∈h,∃t∈vj x,vA x t=k
 nt:∀t∈vj x,t∉xr row (uI (vK x) h)
 od:∃o,Ord x o
def L9(ok:z8 x){h:List Int}(a:∀k∈h,∃t∈vj x,vA x t=k):∀c∈h,(vK x c).Nodup:=λc b=>by obtain⟨t,m,e⟩:=a c b;rw[<- e];exact ut (ok.Vs<|ok.FT m).ri
def Ma(d:z8 x)(f:∃o,Ord x o)(g:v8 h)(i:∀k∈h,∃t∈vj x,vA x t=k)(j:∀t∈vj x,t∉uI (vK x) h):h=[]:=by
 obtain⟨o,a⟩:=f
 have p:=QK d (q:=o) (T:=h) (acc:=[]) (a.pm.nodup_iff.mpr d.nd) (λt b=>a.pm.mem_iff.mp b) a.up g λk l=>by obtain⟨t,m,e⟩:=i k l;exact#[t,a.pm.mem_iff.mpr m,e]
 rw[Fq (λc n z=>j c z n) λt b=>a.pm.mem_iff.mp b]at p;exact(List.nil_perm.mp p).trans rfl
def Zs(c:v8 b)(d:∀k∈a,∃t∈vj x,vA x t=k)(e:∀k∈b,∃t∈vj x,vA x t=k):∀k∈xr a b,∃t∈vj x,vA x t=k:=λk f=>(F9 (ut c) f).elim (d k)<|e k
def Fl.Z6(c:z8 x)(f:Fl x r d)(g:Fl x r e):d=e:=by refine Xb f.ri g.ri<|Ma c f.od (wD f.ri) (Zs g.ri f.hs g.hs) λt h=>qo ?_;have a:=gH<|f.nt t h;have b:=gH<|g.nt t h;rw[DX<|vk _ _]at a b;rw[zZ f.ri g.ri (L9 c f.hs)<|L9 c g.hs,DX<|vk _ _];revert a b;generalize decide (t∈r)=p;generalize decide (t∈uI (vK x) d)=i;generalize decide (t∈uI (vK x) e)=j;cases p<;>cases i<;>cases j<;>simp
def Ud(l:z8 x):∀{q R acc:List Int},q.Nodup->(∀t∈q,t∈vj x)->(q.Pairwise λa b=>a∉Bl x b (vA x b)) ->
  ∃d,(q.foldl (BP x) (R,acc)).2=acc++d/\d.Nodup/\(∀k∈d,∃t∈q,vA x t=k)/\∀t∈q,xor (decide<|t∈R) (Sf (vK x) t d)=false:=by
 intro q
 induction q with
 |nil=>exact λ_ _ _=>#[[],(jP _).symm,lN,(λk z=>by cases z),λt z=>by cases z]
 |cons t q D =>
  intro R acc g E m;have g:=List.nodup_cons.mp g;have m:=List.pairwise_cons.mp m;have n:=E t gh;have f:∀s∈q,s∈vj x:=λs d=>E s<|gl _ d;have G:=(l.ht t _<|vS n).2.2.1;have H:=(l.Vs<|l.FT n).ri
  have F:∀{d:List Int},(∀k∈d,∃s∈q,vA x s=k)->Sf (vK x) t d=false:=λ{d} h=>by
   induction d with
   |nil=>rfl
   |cons k d r =>
    show xor (decide<|t∈vK x k) (Sf (vK x) t d)=false;rw[r λj I=>h j<|gl _ I,mW];obtain⟨s,c,e⟩:=h k gh;refine gH λz=>m.1 s c<|ww.mpr ⟨by rw[e];exact z,λw=>g.1 (by rw[w];exact c),n⟩
  by_cases o:t∈R
  ·have u:BP x (R,acc) t=(xr R<|vK x<|vA x t,acc++[vA x t]):=ga o;rw[lu,u];obtain⟨d,v,y,i,A⟩:=D (R:=xr R<|vK x<|vA x t) (acc:=acc++[vA x t]) g.2 f m.2;refine⟨vA x t::d,by rw[v,kE];rfl,List.nodup_cons.mpr ⟨λz=>?_,y⟩,λk B=>?_,λs c=>?_⟩
   ·obtain⟨s,c,e⟩:=i _ z;have J:=(l.ht t _<|vS n).2.2.2;have p:=(l.ht s _<|vS<|f s c).2.2.2;rw[e,J]at p;injection p with p;exact g.1 (by rw[p];exact c)
   ·rcases List.mem_cons.mp B with z|z
    ·exact#[t,gh,z.symm]
    ·obtain⟨s,c,e⟩:=i k z;exact#[s,gl _ c,e]
   ·show xor (decide<|s∈R) (xor (decide<|s∈vK x (vA x t))<|Sf (vK x) s d)=false;rcases List.mem_cons.mp c with z|z
    ·rw[z,F i,decide_eq_true o,decide_eq_true G];rfl
    ·have:=A s z;rw[DX H,lQ]at this;exact this
  ·have u:BP x (R,acc) t=(R,acc):=gc o;rw[lu,u];obtain⟨d,v,y,i,A⟩:=D (R:=R) (acc:=acc) g.2 f m.2;refine#[d,v,y,λk B=>?_,λs c=>?_]
   ·obtain⟨s,c,e⟩:=i k B;exact#[s,gl _ c,e]
   ·rcases List.mem_cons.mp c with z|z
    ·rw[z,F i,gH o];rfl
    ·exact A s z
def Xd(b:z8 x)(a:Ord x o):Fl x row (AE (o.foldl (BP x) (row,[])).2):=by
 obtain⟨c,g,h,i,j⟩:=Ud b (q:=o) (R:=row) (acc:=[]) (a.pm.nodup_iff.mpr b.nd) (λt d=>a.pm.mem_iff.mp d) a.up;rw[g,mw]
 have f:∀k∈AE c,∃t∈vj x,vA x t=k:=λk l=>by obtain⟨t,m,e⟩:=i k<|xY.mp l;exact#[t,a.pm.mem_iff.mp m,e]
 refine#[Pr (AZ _)<|(vO c).nodup_iff.mpr h,f,λt d=>qo ?_,o,a];rw[DX<|vk _ _,wE<|L9 b f,Gg<|vO c];exact j t<|a.pm.mem_iff.mpr d
end
def w_up(C:cr):Wf (B0 C×List Int×Unit) (OL Int) (B0 C×WL.Un×Unit):=λp a _ =>
 (z8 p.1/\Nt p.2.1/\vn p.1 p.2.1=true/\(∀c∈p.2.1,vR p.1 c=false)/\vn p.1 (uI (vK p.1) p.2.1)=true/\∀c,(lk p.1.rk c).isSome=true->0<=c/\c<63)/\∀h,Fl p.1 (uI (vK p.1) p.2.1) h->a #[xr p.2.1 h] (p.1,#[],())
def Ft(C:cr):Wf (B0 C×List Int×Unit) (OL Int) (B0 C×WL.Un×Unit):=λp a _=>p.2.1.length<=1000/\a #[p.2.1.filter λc=>!vR p.1 c] (p.1,#[],())
def yh(C:cr):Wf (B0 C×List Int×Unit) (OL Int) (B0 C×WL.Un×Unit):=λp a _ =>
 (z8 p.1/\Nt p.2.1/\vn p.1 p.2.1=true/\(∀c∈p.2.1,vR p.1 c=false)/\vn p.1 (uI (vK p.1) p.2.1)=true/\∀c,(lk p.1.rk c).isSome=true->0<=c/\c<63) /\
  ∀h,Fl p.1 (uI (vK p.1) p.2.1) h->(vn p.1 (xr p.2.1 h)=true/\(uI (vK p.1)<|xr p.2.1 h).length<=1000)/\a ⟨(uI (vK p.1)<|xr p.2.1 h).filter λc=>!vR p.1 c⟩ (p.1,#[],())
section
variable{q:Cq}{C XC XS XO XB XP XV W4 XF XT XN XR XL:cr}
noncomputable abbrev GQ:gR:=top 18
noncomputable abbrev GR:List Str:=["one","other"]
def QL:uq ["one","other"] GR (ug GQ):=by walk_at "sc"
abbrev Mb(q:Cq)(k:Nat):=wu q "added" GR L8 k
def QM(F:Cf q "added" GQ f e)(a:wu q "must_be_sum" ["row"] (CQ XS) 2)(B:Bn q.mg):Gq q 3 f e GR L8:=by
 refine' uv (vU (D':=Unit) (ms:=[]) (j:=0) F QL rfl rfl λg A b s H E k =>
   (ux (vc (uy (uB a (um (ss 0) ui))))
   (ux (vc (uy (uB a (um (ss 1) ui))))
   (uj (uC (TB 0 1 rfl rfl B.sorted rfl B.set (pv 0) (pv 1))))))) λp l m h=>?_
 walk_at "wl"
 obtain⟨c,d,i⟩:=h;exact IF c.ri<|IF d.ri #[#[c.ri,d.ri,xS 0 63,by rw[v6];decide,c.mem,d.mem],i]
noncomputable abbrev DY:gR:=top 21
noncomputable abbrev DZ:List Str:=["field","row"]
def xG:uq ["field","row","rest","heads","tail","head"] DZ (ug DY):=by walk_at "sc"
abbrev QN(q:Cq)(C XS XC:cr)(k:Nat):=wu q "filled" DZ (IG C XS XC) k
def Nu(F:Cf q "filled" DY f Q)(ct:Ah q.K C)(g:Mb q 4)(a:xZ q C XS XC 4)(i:Ub q C 4)(c:Nq q C XC 4)(d:Qu q C XC 4)(B:Bn q.mg):Gq q 5 f Q DZ (IG C XS XC):=by
 refine' uv (vU (D':=Unit) (ms:=[0]) (j:=4) F xG rfl rfl λR A y s H E hr =>
   (ux (vc (uy (vr 0 a (um (ss 1) ui))))
   (ux (uz 2 xG.nd (LB rfl B.list (vG (ss 1))))
   (ux (uz 3 xG.nd (uE (α:=Int) uD))
   (ux (vY (is:=[]) (mb:=[0]) (D1:=(Bd C true)×(List Int)×(OL Int)×(OL Int)×Int×Un×Unit) (D2:=(Bd C true)×(List Int)×(OL Int)×(OL Int)×Int×Un×Unit) (uJ q0q) yf rfl (vw (uQ (Ie 0 i))) (uG 4 (uw xG.nd))
   (uj (uZ (tw_cmI Vj (ss 4) (vL 2) (by with_unfolding_all rfl))
   (Ly (D':=(Bd C true)×(List Int)×(OL Int)×(OL Int)×Int×Un×Unit) (ux (uz 5 xG.nd (vr 0 c (um (ss 4) ui)))
   (ux (vP 3 (zo (ss 5)))
   (uj (uz 2 xG.nd (uB g (uY 2 (um (uQ (vr 0 d (um (zo (ss 5)) ui))) ui))))))))
   uN)) q0q q0q)
   (uj (uC (BI rfl B.sorted (vL 3))))))))) λp Kn L h=>?_
 walk_at "wl"
 obtain⟨n,M,h⟩:=h;show if asc p.2.1=true then (if vn p.1 p.2.1=true then _ else L XC (p.1,#[],())) else L XS (p.1,#[],());rw[ga<|(wY p.2.1).mpr M.ri];by_cases N:vn p.1 p.2.1=true
 ·rw[ga N]at h ⊢;refine#[n,λo z=>?_]
  have S:o.length<=63:=by rw[z.pm.length_eq];have e:(vj p.1).length=p.1.ht.length:=gm _;have:=n.len;lia
  refine vf (λ(r:List Int)(b:B0 C×List Int×OL Int×OL Int×WL.Un×WL.Un×Unit)=>b.1=p.1/\Nt b.2.2.1.l/\(∀t∈r,t∈vj p.1)/\b.2.2.2.1.l.length+r.length<=63/\r.foldl (BP p.1) (b.2.2.1.l,b.2.2.2.1.l)=o.foldl (BP p.1) (p.2.1,[])) _ #[rfl,M,λt D=>z.pm.mem_iff.mp D,by simpa using S,rfl] ?_ ?_
  ·intro t r;refine YQ λT U O v W X Y=>?_;rintro _ ⟨rfl,w,G,I,m⟩ K P;have x:=G t gh;have u:∀t∈r,t∈vj p.1:=λt D=>G t<|gl _ D;rw[gK]at I;rw[lu]at m;unfold BP at m;by_cases q:t∈O.l
   ·rw[ga<|decide_eq_true q];rw[ga q]at m;have J:=n.FT x;have Z:(lk p.1.rk t).isSome=true:=(n.ht t _<|vS x).1;have sl:gk=16777216:=iB;show if (lk p.1.rk t).isSome=true then _ else _;rw[ga Z];refine#[_,vS x,by show v.l.length<gk;lia,_,vS x,n.ok,?_];rw[ga J];refine#[w,n.Vs J,P _ #[rfl,w.xr<|n.Vs J,u,?_,m]];rw[gz,gJ];lia
   ·rw[gc<|by simpa using q];rw[gc q]at m;exact P _ #[rfl,w,u,by show v.l.length+r.length<=63;lia,m]
  ·refine YQ λT U O v W X Y=>?_;rintro⟨rfl,w,G,I,m⟩;have k:=h o z;rw[<- m]at k;exact#[by show v.l.length<64;simp at I;lia,k]
 ·rw[gc N]at h ⊢;exact h
noncomputable abbrev Xe:gR:=top 22
abbrev Xf:List Str:=["field","row"]
def Zt:uq ["field","row"] Xf (ug Xe):=by walk_at "sc"
abbrev Zu(q:Cq)(C:cr)(k:Nat):=wu q "up" Xf (w_up C) k
def Zv(F:Cf q "up" Xe f D)(P:Ah q.K C)(l:Mb q 6)(i:QN q C XS XC 6)(b:xZ q C XS XC 6)(a:DU q C 6)(g:zF q C XS XC 6):Gq q 7 f D Xf (w_up C):=by
 refine' uv (vU (D':=Unit) (ms:=[0]) (j:=0) F Zt rfl rfl λG A r s H E w =>
   (ux (vc (uy (vr 0 b (um (ss 1) ui))))
   (ux (vc (uy (vr 0 a (um (ss 1) ui))))
   (uj (uC (uB l (um (ss 1) (um (uQ (uB i (uK 0 (um (uQ (vr 0 g (um (ss 1) ui))) ui)))) ui)))))))) λp Q x h=>?_
 walk_at "wl"
 obtain⟨⟨n,y,u,I,J,w⟩,L⟩:=h;have z:asc p.2.1=true:=(wY p.2.1).mpr y.ri;show if asc p.2.1=true then (if vn p.1 p.2.1=true then _ else x XC (p.1,#[],())) else x XS (p.1,#[],());rw[ga z,ga u];refine#[I,n.ok,?_];rw[ga z,ga u];have B:∀c∈p.2.1,(lk p.1.rk c).isSome=true:=λc M=>List.all_eq_true.mp u c M;refine#[n,#[vk _ _,λd N=>?_],?_]
 ·obtain⟨c,m,q⟩:=yx (λc m=>ut (n.Vs<|B c m).ri) N;exact(n.Vs<|B c m).lt d q
 ·show if vn p.1 (uI (vK p.1) p.2.1)=true then _ else _;rw[ga J];intro o O;have f:=Xd n (row:=uI (vK p.1) p.2.1) O;refine#[y,#[f.ri,λk v=>?_],L _ f];obtain⟨t,m,e⟩:=f.hs k v;rw[<- e];exact w _<|n.FT m
noncomputable abbrev BX:gR:=top 24
abbrev BY:List Str:=["field","row"]
def Kg:uq ["field","row"] BY (ug BX):=by walk_at "sc"
def IH:(["cell","field"]:List Str).Nodup:=by decide +kernel
abbrev Nv(q:Cq)(C:cr)(k:Nat):=wu q "lone_of" BY (Ft C) k
def Ki(F:Cf q "lone_of" BX f m)(v:Ah q.K C)(a:Aa q C 3):Gq q 4 f m BY (Ft C):=by
 refine' uv (vU (D':=Unit) (ms:=[0]) (j:=0) F Kg rfl rfl λn A e s H E o =>
   (uj (uC (v7 (Ts:=["cell"]) (Fr:=["field"]) (idx:=[0]) (k:=1) (mb:=[1]) (is:=[]) (cl:=[("field",⇑s+1)]) rfl (vw (ss 1)) P1 rfl (vQ rfl) (λb d C g l=>(uG 0 (uw (i:=0) IH rfl (lU rfl)) q0q)) (λb d C g l=>(tws_one (tw_not (tw_val (uy (vr 1 a (um (ss 0) ui) (hr:=o) (hx:=YS))))))) (λb d C g l=>(ss 0)))))) λp w x h=>?_
 walk_at "wl"
 obtain⟨r,t⟩:=h;exact#[vd r,vi (q:=λc=>!vR p.1 c) (λk _ K u=>u) t]
noncomputable abbrev yi:gR:=top 23
noncomputable abbrev yj:List Str:=["field","row"]
def D6:uq ["field","row"] yj (ug yi):=by walk_at "sc"
abbrev EF(q:Cq)(C:cr)(k:Nat):=wu q "slim_border" yj (yh C) k
def D7(F:Cf q "slim_border" yi f l)(y:Ah q.K C)(b:Nv q C 8)(c:Zu q C 8)(a:zF q C XS XC 8):Gq q 9 f l yj (yh C):=by
 refine' uv (vU (D':=Unit) (ms:=[0]) (j:=0) F D6 rfl rfl λm A d s H E e =>
   (uj (uC (uB b (uK 0 (um (uQ (vr 0 a (um (uQ (uB c (uK 0 (um (ss 1) ui)))) ui))) ui)))))) λp z g h=>?_
 walk_at "wl"
 obtain⟨⟨i,k,n,o,r,e⟩,t⟩:=h;refine#[#[i,k,n,o,r,e],λh f=>?_];obtain⟨⟨u,v⟩,w⟩:=t h f;have x:asc (xr p.2.1 h)=true:=(wY _).mpr<|wD k.ri;refine#[i.ok,?_];show if asc (xr p.2.1 h)=true then (if vn p.1 (xr p.2.1 h)=true then _ else g XC (p.1,#[],())) else g XS (p.1,#[],());rw[ga x,ga u];exact#[v,w]
end
noncomputable abbrev Kj:gR:=top 34
abbrev xP:=Vk
abbrev RW:=Option<|Int×List Int
noncomputable def rowAt(a:List RW)(k:Int):RW:=if 0<=k then (a[k.toNat]?).join else none
noncomputable def eb(a:List RW)(k:Int):List Int:=((rowAt a k).map (·.2)).getD []
structure Vr(rows:List RW):Prop where
 ok:∀k r e,rowAt rows k=↑(r,e)->0<=r/\r<=12/\v8 e/\(∀c∈e,c<k/\∃e',rowAt rows c=↑(r-1,e'))/\uI (eb rows) e=[]
 ln:rows.length<=60
 sm:∀k r e,rowAt rows k=↑(r,e)->∀c∈e,c<35
def Lp(a:List RW)(q:Int×List Int):Prop:=v8 q.2/\(∀c∈q.2,∃e,rowAt a c=↑(q.1,e))/\uI (eb a) q.2=[]
noncomputable def Ck(a:List RW):List Int:=(xS 0 a.length).filter λk=>(rowAt a k).isSome
noncomputable def Br:List RW:=[↑(0,[]),↑(0,[]),↑(0,[]),↑(0,[]),↑(1,[0,1]),↑(1,[0,2]),↑(1,[0,3]),↑(1,[1,2]),↑(1,[1,3]),↑(1,[2,3]),↑(2,[4,5,7]),↑(2,[4,6,8]),↑(2,[5,6,9]),↑(2,[7,8,9]),↑(3,[10,11,12,13])]
def GS:Wf (Bg×Unit) Int (Bg×Unit):=λp a _=>∀r,0<=r->r<=12->a r (#[],())
def GU:Wf (List Int×List Int×Unit) (OL Int) (WL.Un×WL.Un×Unit):=λp a _=>(p.1.length<=1000/\p.2.1.length<=1000/\(p.1.filter λk=>!decide (k∈p.2.1)).length+(p.2.1.filter λk=>!decide (k∈p.1)).length<64)/\a #[jn p.1 p.2.1] (#[],#[],())
def Kk:Wf (List RW×Unit) (OL Int) (WL.Un×Unit):=λp a _=>p.1.length<1000/\a #[Ck p.1] (#[],())
def Kl:Wf (Bg×List Int×Unit) (OL Int) (Bg×WL.Un×Unit):=λp a _=>p.2.1.length<60/\∀l,v8 l->(∀x∈l,x∈p.2.1)->a #[l] (#[],#[],())
def Km:Wf (List RW×List Int×Unit) (OL Int) (WL.Un×WL.Un×Unit):=λp a _=>Vr p.1/\(∀c∈p.2.1,(rowAt p.1 c).isSome=true)/\a #[uI (eb p.1) p.2.1] (#[],#[],())
def Mc:Wf (Int×Unit) Bool (WL.Un×Unit):=λp a _=>a true (#[],())
def QO:Wf (List Int×Unit) Bool (WL.Un×Unit):=λp a _=>a true (#[],())
def Ko:Wf (List Int×List Int×Unit) Bool (WL.Un×WL.Un×Unit):=λp a _=>a (decide<|p.1=p.2.1) (#[],#[],())
def Md:Wf (Int×Unit) (OL RW) (WL.Un×Unit):=λp a _=>0<=p.1/\a #[Br.take p.1.toNat] (#[],())
def Ab:Wf (OL RW×OL (Int×List Int)×Int×Bg×Unit) (OL Int) (OL RW×OL (Int×List Int)×WL.Un×Bg×Unit):=λp a _ =>
 Vr p.1.l/\p.1.l.length<=34/\p.2.1.l.length<=100/\(∀q∈p.2.1.l,Lp p.1.l q)/\0<=p.2.2.1/\p.2.2.1<=12 /\
 ∀e q,Vr (p.1.l++[↑(p.2.2.1,e)])->(∀u∈p.2.1.l++q,Lp (p.1.l++[↑(p.2.2.1,e)]) u)->q.length<=1->a #[e] (p.1,#[p.2.1.l++q],#[],#[],())
def QP:Wf (Bg×Int×Unit) (OL RW) (Bg×WL.Un×Unit):=λp b _=>(0<=p.2.1/\p.2.1<=20)/\∀a,Vr a->a.length<=35->b #[a] (#[],#[],())
structure yb{C:cr}(x:B0 C)(rows:List RW):Prop where
 up:x.up=rows.length
 rk:∀k,lk x.rk k=(rowAt rows k).map (·.1)
 bd:∀k,lk x.bd k=(rowAt rows k).map (·.2)
 ks:x.rk.map (·.1)=Ck rows
 lb:x.bd.length<=rows.length
def QQ(C:cr):Wf (B0 C×List RW×Unit) (B0 C) (WL.Un×WL.Un×Unit):=λp a _=>p.1=#[[],[],0,[],[]]/\Vr p.2.1/\∀x:B0 C,yb x p.2.1->x.ht=[]->x.th=[]->a x (#[],#[],())
def xQ{b:Type}{l:List b}{i:Int}(c:0<=i)(d:i<(l.length:Int)):∃x,Ep l i=↑x/\l[i.toNat]?=↑x/\x∈l:=by
 have a:i.toNat<l.length:=by lia
 have e:l[i.toNat]?=↑l[i.toNat]:=iU a;have:=Lm e;rw[show ((i.toNat:Nat):Int)=i by lia]at this;exact#[_,this,e,tZ a]
def Me{n k:Int}(h:k∈xS 0 n):0<=k/\k<n:=by
 unfold xS at h;obtain⟨i,a,e⟩:=List.mem_map.mp h;have:=List.mem_range.mp a
 lia
def uF{k:Int}(h:rowAt rows k=↑y):0<=k/\k<(rows.length:Int)/\rows[k.toNat]?=↑(some y)/\Ep rows k=↑(some y):=by
 unfold rowAt at h;by_cases a:0<=k
 ·rw[ga a]at h
  cases e:rows[k.toNat]? with
  |none=>rw[e]at h;cases h
  |some z =>
   rw[e]at h;have h:z=↑y:=h;subst h;have f:=(List.getElem?_eq_some_iff.mp e).1;have b:k<(rows.length:Int):=by omega
   obtain⟨x,d,c,_⟩:=xQ a b;rw[e]at c;cases c;exact#[a,b,rfl,d]
 ·rw[gc a]at h;cases h
def D8{k:Int}(a:0<=k)(e:rows[k.toNat]?=↑z):rowAt rows k=z:=by unfold rowAt;rw[ga a,e];rfl
def Vr.II(v:Vr rows){k:Int}(h:rowAt rows k=↑y):v8 y.2/\∀x∈y.2,x∈xS 0 35:=by obtain⟨_,_,b,c,_⟩:=v.ok k y.1 y.2 h;refine#[b,λx a=>?_];obtain⟨_,f,d⟩:=c x a;obtain⟨e,g,_⟩:=uF d;exact yR e<|v.sm k y.1 y.2 h x a
def wz{k:Int}(h:rowAt rows k=↑y):eb rows k=y.2:=by unfold eb;rw[h];rfl
def Xg(a:List b){n:Int}(h:0<=n):Ew a none ↑n=a.take n.toNat:=by unfold Ew;rw[show ↑n=some ((n.toNat:Nat):Int) by rw[show ((n.toNat:Nat):Int)=n by lia],HT.Lh,HT.HF];simp
def vZ{n:Int}(a:0<n)(b:n<1073741824)(h:∀r,0<=r->r<n->c r (#[],#[],())):xP (g,n,()) c d:=#[a,b,h]
def vp:rowAt (rows++[z]) (rows.length:Int)=z:=by refine D8 q0a ?_;rw[kG,jo<|gg _,pY];rfl
def vH{a:List RW}{k:Int}(h:k≠(a.length:Int)):rowAt (a++[z]) k=rowAt a k:=by
 unfold rowAt;by_cases b:0<=k
 ·rw[ga b,ga b];by_cases c:k.toNat<a.length
  ·rw[kU c]
  ·rw[jL (by rw[gz,gJ];lia),jL q0a]
 ·rw[gc b,gc b]
def GV{a:List RW}{k:Int}(h:k≠(a.length:Int)):eb (a++[z]) k=eb a k:=by unfold eb;rw[vH h]
def xj{k:Int}(h:rowAt rows k=↑y):k≠(rows.length:Int):=λz=>by
 have:=(uF h).2.1
 lia
def GY(v:Vr rows)(p:rows.length<=35)(m:∀r e,z=↑(r,e)->0<=r/\r<=12/\v8 e/\(∀c∈e,∃g,rowAt rows c=↑(r-1,g))/\uI (eb rows) e=[]):Vr (rows++[z]):=by
 refine#[λk r e h=>?_,by rw[gz,gJ];lia,λk r e h c n=>?_]
 rotate_left
 ·by_cases q:k=(rows.length:Int)
  ·rw[q,vp]at h;obtain⟨g,i⟩:=(m r e h).2.2.2.1 c n;have:=(uF i).2.1
   lia
  ·rw[vH q]at h;exact v.sm k r e h c n
 have j:∀{k r e},0<=r/\r<=12/\v8 e/\(∀c∈e,c<k/\∃g,rowAt rows c=↑(r-1,g))/\uI (eb rows) e=[]->0<=r/\r<=12/\v8 e/\(∀c∈e,c<k/\∃g,rowAt (rows++[z]) c=↑(r-1,g))/\uI (eb<|rows++[z]) e=[]:=λ{k r e} ⟨a,b,c,d,f⟩=>by
  refine#[a,b,c,λx l=>?_,?_]
  ·obtain⟨o,g,i⟩:=d x l;exact#[o,g,by rw[vH<|xj i];exact i]
  ·rw[<- f];refine vE λx l=>?_;obtain⟨_,g,i⟩:=d x l;exact GV<|xj i
 by_cases q:k=(rows.length:Int)
 ·rw[q,vp]at h;obtain⟨a,b,c,d,f⟩:=m r e h;refine j #[a,b,c,λx l=>?_,f];obtain⟨g,i⟩:=d x l;exact#[by have:=(uF i).2.1;lia,g,i]
 ·rw[vH q]at h;exact j<|v.ok k r e h
def D9(h:Lp rows u):Lp (rows++[z]) u:=by
 obtain⟨a,b,c⟩:=h;refine#[a,λx d=>?_,?_]
 ·obtain⟨e,q⟩:=b x d;exact#[e,by rw[vH<|xj q];exact q]
 ·rw[<- c];refine vE λx d=>?_;obtain⟨e,q⟩:=b x d;exact GV<|xj q
def QR{r:Int}:Lp (rows++[↑(r,[])]) (r,[(rows.length:Int)]):=by
 refine#[jh _ _,λx a=>#[[],?_],?_]
 ·rw[List.mem_singleton.mp a,vp]
 ·show xr [] (eb (rows++[↑(r,[])]) (rows.length:Int))=[];rw[wz (y:=(r,[])) vp];rfl
def Ue(h:v8 e):xr e e=[]:=CJ (wD h) gU λk=>by rw[yg<|ut h];by_cases q:k∈e<;>simp[q]
def Nx{c:Int}:uI f (l++[c])=xr (uI f l) (f c):=by unfold uI NP;rw[jy,List.foldl_append];rfl
def Ny{r:Int}(v:Vr rows)(p:v8 l)(h:∀c∈l,∃e,rowAt rows c=↑(r,e)) :
  (∀c∈uI (eb rows) l,∃n,rowAt rows c=↑(r-1,n))/\uI (eb rows) (uI (eb rows) l)=[]/\Lp (rows++[↑(r,uI (eb rows) l)]) (r,l++[(rows.length:Int)]):=by
 have m:∀c∈l,v8 (eb rows c)/\(∀d∈eb rows c,∃n,rowAt rows d=↑(r-1,n))/\uI (eb rows) (eb rows c)=[]:=λc i=>by obtain⟨e,j⟩:=h c i;obtain⟨_,_,a,b,f⟩:=v.ok c r e j;rw[wz j];exact#[a,λd k=>(b d k).2,f]
 have s:∀{d q},rowAt rows d=↑q->(eb rows d).Nodup:=λ{d q} k=>by rw[wz k];exact ut (v.II k).1
 refine#[λc i=>?_,Fa λc i=>#[(m c i).1,λd k=>?_,(m c i).2.2],?_,λx o=>?_,?_]
 ·obtain⟨d,k,o⟩:=yx (λc i=>ut (m c i).1) i;exact(m d k).2.1 c o
 ·obtain⟨n,q⟩:=(m c i).2.1 d k;exact s q
 ·refine List.pairwise_append.mpr #[p,jh _ _,λa t b u=>?_];obtain⟨e,j⟩:=h a t;rw[List.mem_singleton.mp u];exact(uF j).2.1
 ·rcases List.mem_append.mp o with z|z
  ·obtain⟨e,j⟩:=h x z;exact#[e,by rw[vH<|xj j];exact j]
  ·rw[List.mem_singleton.mp z];exact#[_,vp]
 ·show uI _ (l++[(rows.length:Int)])=[];rw[Nx,wz (y:=(r,uI (eb rows) l)) vp,vE (g:=eb rows) λc i=>?_]
  ·exact Ue<|vk _ _
  ·obtain⟨e,j⟩:=h c i;exact GV<|xj j
def Lp.sub{a:List RW}(c:a.length<=35)(h:Lp a u):∀x∈u.2,x∈xS 0 35:=λx b=>by obtain⟨e,q⟩:=h.2.1 x b;have:=uF q;exact yR q0a q0a
def yc{k:Int}:k∈Ck rows↔(rowAt rows k).isSome=true:=by unfold Ck;rw[iz];refine#[λh=>h.2,λh=>#[?_,h]];obtain⟨y,a⟩:=Option.isSome_iff_exists.mp h;have:=uF a;exact yR this.1 this.2.1
def wZ(a:List RW):(Ck a).length<=a.length:=by
 have:=gS (λk=>(rowAt a k).isSome)<|xS 0 a.length;rw[v6]at this;unfold Ck
 lia
def Mg(c:List RW):v8 (Ck c):=by
 refine iF _ ?_;unfold xS;rw[List.pairwise_map];refine om ?_<|rO;intro a b h
 lia
def QS(n:Nat):xS 0 ((n+1:Nat):Int)=xS 0 (n:Int)++[(n:Int)]:=by unfold xS;rw[show (((n+1:Nat):Int)-0).toNat=n+1 by lia,show ((n:Int)-0).toNat=n by lia,List.range_succ,jy];simp
def Uf:Ck (rows++[z])=Ck rows++if z.isSome=true then [(rows.length:Int)] else []:=by
 unfold Ck;rw[gz,gJ,QS,List.filter_append];congr 1
 ·refine lP λk a=>?_;rw[vH (by have:=Me a;lia)]
 ·rw[iT,vp];rfl
def QT:Ck (rows++[↑y])=Ck rows++[(rows.length:Int)]:=Uf
def Fv{a:List RW}{k:Int}(h:(a.length:Int)<=k):rowAt a k=none:=by
 cases e:rowAt a k with
 |none=>rfl
 |some y=>have:=(uF e).2.1;omega
def BZ{a:List RW}{j k:Int}(c:0<=j):rowAt (a.set j.toNat none) k=if k=j then none else rowAt a k:=by
 by_cases q:k=j
 ·rw[ga q,q];unfold rowAt;rw[ga c];by_cases d:j.toNat<a.length
  ·rw[n8 d];rfl
  ·rw[jL<|by rw[lq];lia];rfl
 ·rw[gc q];unfold rowAt;by_cases b:0<=k
  ·rw[ga b,ga b,mo q0a]
  ·rw[gc b,gc b]
def QU{a:List RW}{j:Int}(b:0<=j):Ck (a.set j.toNat none)=(Ck a).filter λk=>!decide (k=j):=by unfold Ck;rw[lq,List.filter_filter];refine lP λk _=>?_;rw[BZ b];by_cases q:k=j<;>simp[q]
section
variable{C XC XS XO XB XP XV:cr}{x:B0 C}{rows:List RW}
def yb.lr(c:yb x rows):x.rk.length<=rows.length:=by have:=congrArg ng c.ks;rw[gm]at this;rw[this];exact wZ rows
def yb.okb(c:yb x rows)(v:Vr rows):Qn x:=by
 have l:=v.ln;have g:=c.lr;have i:=c.lb;refine#[λk h=>?_,λk b h=>?_,by rw[c.ks];exact(Mg rows).imp Int.le_of_lt,q0a,q0a]
 ·rw[c.rk,hZ]at h;rw[c.bd,hZ];exact h
 ·rw[c.bd]at h
  cases e:rowAt rows k with
  |none=>rw[e]at h;cases h
  |some y =>
   rw[e]at h;cases h;obtain⟨_,_,a,b,_⟩:=v.ok k y.1 y.2 e;refine#[a,λd f=>?_];obtain⟨j,q⟩:=(b d f).2;have:=uF q;exact#[this.1,by have:=v.sm k y.1 y.2 e d f;lia]
def yb.vK(c:yb x rows)(k:Int):vK x k=eb rows k:=by unfold K7.vK eb;rw[c.bd]
def yb.put(c:yb x rows){r:Int}:yb ({ x with rk:=pk x.rk x.up r,bd:=pk x.bd x.up e,up:=x.up+1}:B0 C) (rows++[↑(r,e)]):=by
 have n:rowAt rows x.up=none:=Fv (by rw[c.up];exact nC _);have a:lk x.rk x.up=none:=by rw[c.rk,n];rfl
 have b:lk x.bd x.up=none:=by rw[c.bd,n];rfl
 have d:=c.lr;have f:=c.lb;refine#[?_,λk=>?_,λk=>?_,?_,?_]
 ·show x.up+1=_;rw[c.up,gz,gJ]
  lia
 ·show lk (pk x.rk x.up r) k=_;rw[yV a,J5 a];by_cases q:k=x.up
  ·rw[ga q,q,c.up,vp];rfl
  ·rw[gc q,vH (by rw[<- c.up];exact q),c.rk]
 ·show lk (pk x.bd x.up e) k=_;rw[yV b,J5 b];by_cases q:k=x.up
  ·rw[ga q,q,c.up,vp];rfl
  ·rw[gc q,vH (by rw[<- c.up];exact q),c.bd]
 ·show (pk x.rk x.up r).map (·.1)=_;rw[yV a,jy,c.ks,QT,<- c.up];rfl
 ·show (pk x.bd x.up e).length<=_;rw[yV b,gz,gz,gJ,gJ]
  lia
def yb.take(c:yb x rows){j:Int}(a:0<=j):yb ({ x with rk:=dk x.rk j,bd:=dk x.bd j}:B0 C) (rows.set j.toNat none):=by
 have d:=c.lr;have b:=c.lb;refine#[by rw[lq];exact c.up,λk=>?_,λk=>?_,?_,?_]
 ·show lk (dk x.rk j) k=_;rw[Bm,BZ a,c.rk];split<;>rfl
 ·show lk (dk x.bd j) k=_;rw[Bm,BZ a,c.bd];split<;>rfl
 ·show (dk x.rk j).map (·.1)=_;rw[QU a,<- c.ks];unfold dk;rw[qu];congr 1;refine lP λe _=>?_;by_cases q:e.1=j<;>simp[q]
 ·rw[lq];exact gW (gS _ _) b
def yb.vn(c:yb x rows)(h:∀k∈row,(rowAt rows k).isSome=true):vn x row=true:=List.all_eq_true.mpr λk a=>by rw[c.rk,hZ];exact h k a
def QV{r:Int}(c:yb x rows)(v:Vr rows)(l:0<=r)(m:r<=12)(i:v8 e)(g:∀d∈e,∃b,rowAt rows d=↑(r-1,b))(j:uI (eb rows) e=[])
 (k:∀a:B0 C,yb a (rows++[↑(r,e)])->a.ht=x.ht->a.th=x.th->h x.up (a,#[],#[],())):Ix C XB XS XC XO XP (x,r,e,()) h o:=by
  have n:rowAt rows x.up=none:=Fv (by rw[c.up];exact nC _)
  refine#[c.okb v,(by show lk x.bd x.up=none;rw[c.bd,n];rfl),?_]
  show if r<0\/12<r then _ else if asc e=true then (if K7.vn x e=true then (if T0 x e (r-1)=true then (if NP (e.map<|K7.vK x)=[] then h x.up _ else _) else _) else _) else _
  rw[gc q0a,ga<|(wY e).mpr i,ga (c.vn λd f=>by obtain⟨b,q⟩:=g d f;rw[q];rfl),ga,ga]
  · exact k _ c.put rfl rfl
  · rw[mC λd _ => c.vK d]
    exact j
  · refine List.all_eq_true.mpr λd f => decide_eq_true ?_
    obtain⟨b,q⟩:=g d f
    rw[c.rk,q]
    rfl
def Mh(c:yb x rows){j h:Int}:h∈W3 x j↔(rowAt rows h).isSome=true/\j∈eb rows h:=by
 unfold W3;rw[iz,hV,c.vK];constructor
 ·rintro⟨a,b⟩;have:=wG a;rw[c.rk,hZ]at this;exact#[this,b]
 ·rintro⟨a,b⟩;exact#[yS (by rw[c.rk,hZ];exact a),b]
def Ug(c:yb x rows){j:Int}:W3 x j=[]↔∀h,j∉eb rows h:=by
 rw[List.eq_nil_iff_forall_not_mem];constructor
 ·intro z h a;refine z h ((Mh c).mpr #[?_,a])
  cases e:rowAt rows h with
  |none=>unfold eb at a;rw[e]at a;cases a
  |some y=>rfl
 ·intro z h a;exact z h ((Mh c).mp a).2
def Uh{j:Int}(c:yb x rows)(v:Vr rows)(b:(rowAt rows j).isSome=true)(e:∀h,j∉eb rows h)(f:vR x j=false)
 (k:∀a:B0 C,yb a (rows.set j.toNat none)->a.ht=x.ht->a.th=x.th->d () (a,#[],())):GP C XC XV (x,j,()) d i:=by
  refine#[f,c.okb v,?_]
  show if (lk x.rk j).isSome=true then (if W3 x j=[] then d () _ else _) else _
  rw[ga (by rw[c.rk,hZ];exact b),ga<|(Ug c).mpr e]
  obtain⟨y,g⟩:=Option.isSome_iff_exists.mp b
  exact k _ (c.take (uF g).1) rfl rfl
end
def wU{a:List RW}{n:Nat}{j:Int}:rowAt (a.take n) j=if j<(n:Int) then rowAt a j else none:=by
 unfold rowAt;by_cases b:0<=j
 ·rw[ga b,ga b,sV];by_cases c:j<(n:Int)
  ·rw[ga c,ga q0d]
  ·rw[gc c,gc q0d];rfl
 ·rw[gc b,gc b];split<;>rfl
def Ui(v:Vr rows)(n:Nat):Vr (rows.take n):=by
 refine#[λk r e h=>?_,gW (List.length_take_le' _ _) v.ln,λk r e h=>?_]
 rotate_left
 ·rw[wU]at h;split at h
  ·exact v.sm k r e h
  ·cases h
 rw[wU]at h;by_cases q:k<(n:Int)
 ·rw[ga q]at h;obtain⟨a,b,c,d,f⟩:=v.ok k r e h;refine#[a,b,c,λx g=>#[(d x g).1,?_],?_]
  ·obtain⟨l,i,j⟩:=d x g;exact#[i,by rw[wU,ga q0a];exact j]
  ·rw[<- f];refine vE λx g=>?_;have:=(d x g).1;unfold eb;rw[wU,ga q0a]
 ·rw[gc q]at h;cases h
noncomputable def Zw(a:List RW)(u:Int×List Int):Bool:=asc u.2&&u.2.all (λc=>decide ((rowAt a c).map (·.1)=↑u.1))&&decide (uI (eb a) u.2=[])
def Mi{c r:Int}(h:(rowAt rows c).map (·.1)=↑r):∃e,rowAt rows c=↑(r,e):=by
 cases e:rowAt rows c with
 |none=>rw[e]at h;cases h
 |some y=>rw[e]at h;cases h;exact#[y.2,rfl]
def QW(h:Zw rows u=true):Lp rows u:=by unfold Zw at h;rw[hJ,hJ]at h;exact#[(wY _).mp h.1.1,λc a=>Mi<|jr<|List.all_eq_true.mp h.1.2 c a,jr h.2]
noncomputable def VrB(rows:List RW):Bool:=decide (rows.length<=27)&&(gL rows.length).all λk=>match rowAt rows (k:Int) with
 |none=>true
 |some (r,e)=>decide (0<=r)&&decide (r<=12)&&asc e&&e.all (λc=>decide (c<(k:Int))&&decide ((rowAt rows c).map (·.1)=↑(r-1)))&&decide (uI (eb rows) e=[])
def QX(h:VrB rows=true):Vr rows:=by
 unfold VrB at h;rw[hJ]at h;have f:=jr h.1
 suffices g:∀k r e,rowAt rows k=↑(r,e)->0<=r/\r<=12/\v8 e/\(∀c∈e,c<k/\∃d,rowAt rows c=↑(r-1,d))/\uI (eb rows) e=[] from#[g,q0d,λk r e a c b=>by
  have:=((g k r e a).2.2.2.1 c b).1;have:=uF a
  omega]
 intro k r e a;have q:=uF a;have z:=List.all_eq_true.mp h.2 k.toNat<|List.mem_range.mpr q0d;rw[show ((k.toNat:Nat):Int)=k by omega,a]at z;simp only[hJ,hV,nP]at z;exact⟨z.1.1.1.1,z.1.1.1.2,(wY _).mp z.1.1.2,λc b=>#[(z.1.2 c b).1,Mi (z.1.2 c b).2],z.2⟩
noncomputable def XQ(n:Nat):List (Int×List Int):=(xS 0 n).filterMap λk=>if decide (k<4)=true then some (0,[k]) else none
noncomputable def lp1:List (Int×List Int):=[(1,[4,5,7]),(1,[4,6,8]),(1,[5,6,9])]
noncomputable def chk(m:Nat):Bool:=VrB (Br.take m)&&(XQ (Br.take m).length).all (Zw<|Br.take m)&&decide ((XQ (Br.take m).length).length<=4)&&decide ((Br.take m).length<=15)&&(decide ((Br.take m).length<=9)||lp1.all (Zw<|Br.take m))
def Uj:(gL 16).all chk=true:=by decide +kernel
def Kq(c:v8 a)(d:v8 b)(f:∀k∈a,k∈xS 0 35)(g:∀k∈b,k∈xS 0 35):a.length<=1000/\b.length<=1000/\(a.filter λk=>!decide (k∈b)).length+(b.filter λk=>!decide (k∈a)).length<64:=by
 have i:=vJ c f;have j:=vJ d g;have h:=SX.yq ((a.filter λk=>!decide (k∈b))++b.filter λk=>!decide (k∈a)) (xS 0 35) (List.nodup_append.mpr #[(ut c).filter _,(ut d).filter _,λx l y m e=>?_]) λk n=>?_
 ·rw[gz]at h;rw[v6]at i j h
  lia
 ·have q:=(List.mem_filter.mp l).2;rw[e]at q;simp[(List.mem_filter.mp m).1]at q
 ·rcases List.mem_append.mp n with z|z
  ·exact f k (List.mem_filter.mp z).1
  ·exact g k (List.mem_filter.mp z).1
def Uk{a b:List Int}(h:a.length+b.length<64):a.length<=1000/\b.length<=1000/\(a.filter λk=>!decide (k∈b)).length+(b.filter λk=>!decide (k∈a)).length<64:=by
 have c:=gS (λk=>!decide (k∈b)) a;have d:=gS (λk=>!decide (k∈a)) b
 lia
def Ul(e:a=b)(k:c true (#[],#[],())):Ko (a,b,()) c d:=by show c (decide<|a=b) _;rw[decide_eq_true e];exact k
def Zx(v:Vr rows)(n:rows.length<=59):Vr (rows++[↑(0,[])]):=by
 refine#[λk r e h=>?_,by rw[gz,gJ];lia,λk r e h c j=>?_]
 ·by_cases q:k=(rows.length:Int)
  ·rw[q,vp]at h;cases h;exact#[nC 0,q0q,gU,(λ_ z=>by cases z),rfl]
  ·rw[vH q]at h;obtain⟨a,b,c,d,f⟩:=v.ok k r e h;refine#[a,b,c,λx i=>?_,?_]
   ·obtain⟨m,l,g⟩:=d x i;exact#[m,l,by rw[vH<|xj g];exact g]
   ·rw[<- f];refine vE λx i=>?_;obtain⟨_,l,g⟩:=d x i;exact GV<|xj g
 ·by_cases q:k=(rows.length:Int)
  ·rw[q,vp]at h;cases h;cases j
  ·rw[vH q]at h;exact v.sm k r e h c j
def Um:yb (#[[],[],0,[],[]]:B0 C) []:=by
 have n:∀k,rowAt [] k=none:=λk=>by unfold rowAt;split<;>rfl
 exact#[rfl,(λk=>by rw[n];rfl),(λk=>by rw[n];rfl),rfl,gg _]
structure Arr{C:cr}(x:B0 C)(a:List (Int×Int)):Prop where
 ok:z8 x
 nt:(x.th.map (·.1)).Nodup
 pm:(a.map (·.1)).Perm (vj x)
 hd:∀e∈a,vA x e.1=e.2
def QY(C:cr):Wf (B0 C×List RW×Bg×Int×Unit) (OL<|Int×Int) (B0 C×WL.Un×Bg×WL.Un×Unit):=λp b _ =>
 yb p.1 p.2.1/\Vr p.2.1/\p.2.1.length<=35/\p.1.ht=[]/\p.1.th=[]/\(0<=p.2.2.2.1/\p.2.2.2.1<=1000)/\∀x a,yb x p.2.1->Arr x a->b #[a] (x,#[],#[],#[],())
def Mj(C:cr):Wf (Bg×Int×Unit) (T3 (B0 C) (OL RW)<|OL<|Int×Int) (Bg×WL.Un×Unit):=λp c _ =>
 (0<=p.2.1/\p.2.1<=20)/\∀x b a,yb x b->Vr b->b.length<=35->Arr x a->c #[x,#[b],#[a]] (#[],#[],())
def GZ:Wf (List (Int×Int)×Unit) (OL Int) (WL.Un×Unit):=λp a _=>p.1.length<64/\a #[AE (p.1.map (·.2))] (#[],())
noncomputable def G0(b:List RW)(a:List (Int×Int)):List Int:=(Ck b).filter λk=>!decide (k∈a.map (·.1)++AE (a.map (·.2)))
def Ea:Wf (List (Int×Int)×Unit) (OL Int) (WL.Un×Unit):=λp a _=>p.1.length<64/\a #[p.1.map (·.1)] (#[],())
def Ks:Wf (List RW×List (Int×Int)×Unit) (OL Int) (WL.Un×WL.Un×Unit):=λp a _=>p.1.length<1000/\p.2.1.length<64/\a #[G0 p.1 p.2.1] (#[],#[],())
def w_sum:Wf (List Int×Unit) Bool (WL.Un×Unit):=λp a _=>v8 p.1/\p.1.length<=1000/\a true (#[],())
def Eb:Wf (List Int×List Int×Unit) (OL Int) (WL.Un×WL.Un×Unit):=λp a _=>p.1.length<=1000/\a #[p.1.filter λk=>decide<|k∈p.2.1] (#[],#[],())
def Xh(h:v8 l){k:Int}(p:1<=k)(c:k<l.length):∃a b,Ep l (k-1)=↑a/\Ep l k=↑b/\a<b:=by obtain⟨a,d,e,_⟩:=xQ (l:=l) (i:=k-1) q0a q0a;obtain⟨b,f,g,_⟩:=xQ (l:=l) (i:=k) q0a c;obtain⟨j,m⟩:=List.getElem?_eq_some_iff.mp e;obtain⟨n,o⟩:=List.getElem?_eq_some_iff.mp g;refine#[a,b,d,f,?_];rw[<- m,<- o];exact(List.pairwise_iff_getElem.mp h) _ _ j n q0a
def Xi(k:a true (#[],())):QO (l,()) a b:=k
def QZ{n k:Int}(h:k∈xS 1 n):1<=k/\k<n:=by unfold xS at h;obtain⟨i,a,e⟩:=List.mem_map.mp h;have:=List.mem_range.mp a;omega
def wL:∀{l:List b} {i:Nat},l[i]?=↑y->(y::l.eraseIdx i).Perm l
 | [],i,h=>by simp at h
 |a::l,0,h=>by
  have h:a=y:=by simpa using h
  rw[h];exact .refl _
 |a::l,i+1,h=>by rw[nL];exact(List.Perm.swap a y _).trans<|(wL<|by simpa using h).cons a
def CT{a:Type}{l:List (Int×a)}{k:Int}:(dk l k).map (·.1)=(l.map (·.1)).filter λj=>decide (j≠k):=by unfold dk;rw[qu];rfl
section
variable{C:cr}{x:B0 C}{rows:List RW}{a:List (Int×Int)}
def z8.Zy(b:z8 x){l:Int}(n:l∈vj x):z8 ({ x with ht:=dk x.ht l,th:=dk x.th (vA x l)}:B0 C):=by
 have o:∀{t:Int},t∈vj ({ x with ht:=dk x.ht l,th:=dk x.th (vA x l)}:B0 C)↔t∈vj x/\t≠l:=λ{t}=>by show t∈(dk x.ht l).map (·.1)↔_;rw[CT,iz,hV];exact Iff.rfl
 refine#[#[b.ok.kb,b.ok.bo,b.ok.ri,b.ok.lr,b.ok.lb],?_,?_,?_,λd f e=>?_,λd f e=>?_,λc h i=>?_,?_]
 ·show ((dk x.ht l).map (·.1)).Nodup;rw[CT];exact b.nd.filter _
 ·exact i8 (gS _ _) b.len
 ·exact i8 (gS _ _) b.Zq
 ·have e:lk (dk x.ht l) d=↑f:=e;rw[Bm]at e;by_cases q:d=l
  ·rw[ga q]at e;cases e
  ·rw[gc q]at e;have g:=b.ht d f e;refine#[g.1,g.2.1,g.2.2.1,?_];show lk (dk x.th<|vA x l) f=some d;rw[Bm,gc λz=>?_]
   ·exact g.2.2.2
   ·have:=(b.ht l _<|vS n).2.2.2;rw[<- z,g.2.2.2]at this;injection this with this;exact q this
 ·have e:lk (dk x.th<|vA x l) f=↑d:=e;rw[Bm]at e;by_cases q:f=vA x l
  ·rw[ga q]at e;cases e
  ·rw[gc q]at e;have g:=b.th d f e;show lk (dk x.ht l) d=↑f;rw[Bm,gc λz=>?_]
   ·exact g
   ·rw[z,vS n]at g;injection g with g;exact q g.symm
 ·have h:(lk (dk x.ht l) c).isSome=true:=h;have i:(lk (dk x.th<|vA x l) c).isSome=true:=i;rw[Bm]at h i;refine b.one c ?_ ?_
  ·by_cases q:c=l
   ·rw[ga q]at h;cases h
   ·rw[gc q]at h;exact h
  ·by_cases q:c=vA x l
   ·rw[ga q]at i;cases i
   ·rw[gc q]at i;exact i
 ·obtain⟨r,p⟩:=b.acy;refine#[r,λk m t j=>?_];have m:=o.mp m
  have s:vA ({ x with ht:=dk x.ht l,th:=dk x.th (vA x l)}:B0 C) k=vA x k:=by unfold vA;show (lk (dk x.ht l) k).getD 0=_;rw[Bm,gc m.2]
  rw[s]at j;have j:=ww.mp j;exact p k m.1 t<|ww.mpr #[j.1,j.2.1,(o.mp j.2.2).1]
def z8.El(d:z8 x){low high:Int}(w:(lk x.rk low).isSome=true)(y:(lk x.rk high).isSome=true)(f:low∈vK x high)(A:vR x low=false)(B:vR x high=false)(D:low≠high)(ac:XM (El x low high))(E:x.ht.length+1<64)(F:x.th.length+1<64):z8 (El x low high):=by
 have p:=Bool.or_eq_false_iff.mp A;have r:=Bool.or_eq_false_iff.mp B;have o:lk x.ht low=none:=by simpa using p.1
 have G:lk x.th low=none:=by simpa using p.2
 have H:lk x.ht high=none:=by simpa using r.1
 have s:lk x.th high=none:=by simpa using r.2
 have t:(K7.El x low high).ht=x.ht++[(low,high)]:=yV o;have I:(K7.El x low high).th=x.th++[(high,low)]:=yV s;have j:∀k,lk (K7.El x low high).ht k=if k=low then some high else lk x.ht k:=λk=>xu;have l:∀k,lk (K7.El x low high).th k=if k=high then some low else lk x.th k:=λk=>xu;refine#[#[d.ok.kb,d.ok.bo,d.ok.ri,d.ok.lr,d.ok.lb],?_,by rw[t];simpa using E,by rw[I];simpa using F,λm n e=>?_,λm n e=>?_,λc h i=>?_,ac]
 ·show ((K7.El x low high).ht.map (·.1)).Nodup;rw[t,jy];refine List.nodup_append.mpr #[d.nd,q0o,λa u b f z=>?_];have f:b=low:=by simpa using f
  rw[z,f]at u;have:=wG u;rw[o]at this;cases this
 ·rw[j]at e;by_cases q:m=low
  ·rw[ga q]at e;injection e with e;subst e;subst q;exact#[w,y,f,by rw[l,ga rfl]]
  ·rw[gc q]at e;have g:=d.ht m n e;refine#[g.1,g.2.1,g.2.2.1,?_];rw[l,gc λz=>?_]
   ·exact g.2.2.2
   ·rw[z,s]at g;cases g.2.2.2
 ·rw[l]at e;by_cases q:n=high
  ·rw[ga q]at e;injection e with e;subst e;subst q;rw[j,ga rfl]
  ·rw[gc q]at e;have g:=d.th m n e;rw[j,gc λz=>?_]
   ·exact g
   ·rw[z,o]at g;cases g
 ·rw[j]at h;rw[l]at i;by_cases q:c=low
  ·rw[gc λz=>D<|q.symm.trans z,q,G]at i;cases i
  ·rw[gc q]at h;by_cases v:c=high
   ·rw[v,H]at h;cases h
   ·rw[gc v]at i;exact d.one c h i
def yb.same(c:yb x rows){y:B0 C}(b:y.rk=x.rk)(d:y.bd=x.bd)(e:y.up=x.up):yb y rows:=by obtain⟨f,g,h,i,j⟩:=c;exact#[e.trans f,by rw[b];exact g,by rw[d];exact h,by rw[b];exact i,by rw[d];exact j]
def Arr.mem(A:Arr x a)(h:e∈a):e.1∈vj x:=A.pm.mem_iff.mp<|List.mem_map.mpr #[e,h,rfl]
def Arr.pop(A:Arr x a){i:Nat}(h:a[i]?=↑y):Arr ({ x with ht:=dk x.ht y.1,th:=dk x.th (vA x y.1)}:B0 C) (a.eraseIdx i):=by
 have b:(y::a.eraseIdx i).Perm a:=wL h;have g:y∈a:=b.mem_iff.mp gh;have j:=A.mem g
 have d:(y.1::(a.eraseIdx i).map (·.1)).Perm (vj x):=by
  have:=(b.map (λe:Int×Int=>e.1)).trans A.pm
  rwa [gN]at this
 have c:=List.nodup_cons.mp<|d.nodup_iff.mpr A.ok.nd;refine⟨A.ok.Zy j,?_,?_,λe f=>?_⟩
 ·show ((dk x.th<|vA x y.1).map (·.1)).Nodup;rw[CT];exact A.nt.filter _
 ·show ((a.eraseIdx i).map (·.1)).Perm ((dk x.ht y.1).map (·.1));rw[CT];refine vC c.2 (A.ok.nd.filter _) λk=>?_;rw[iz,hV];have:=d.mem_iff (a:=k);rw[gO]at this;constructor
  ·exact λz=>#[this.mp<|.inr z,λw=>c.1<|w▸z]
  ·exact λz=>(this.mpr z.1).elim (λw=>gA w z.2) id
 ·have l:e∈a:=b.mem_iff.mp<|gl _ f;have m:e.1≠y.1:=λz=>c.1<|z▸List.mem_map.mpr #[e,f,rfl];show (lk (dk x.ht y.1) e.1).getD 0=e.2;rw[Bm,gc m];exact A.hd e l
def Arr.Uo(A:Arr x a)(c:yb x rows)(v:rows.length<=35):x.ht.length<=35/\x.th.length<=35/\a.length<=35:=by
 have i:=c.lr;have d:(x.rk.map (·.1)).Nodup:=by rw[c.ks];exact ut<|Mg rows
 have g:(vj x).length<=(x.rk.map (·.1)).length:=J8 A.ok.nd d λk b=>yS (A.ok.ht k _<|vS b).1
 have f:(x.th.map (·.1)).length<=(x.rk.map (·.1)).length:=J8 A.nt d λk b=>by obtain⟨l,e⟩:=Option.isSome_iff_exists.mp<|wG b;exact yS (A.ok.ht l k<|A.ok.th l k e).2.1
 have h:=A.pm.length_eq;have e:(vj x).length=x.ht.length:=gm _;rw[gm]at g f h;rw[gm]at f
 lia
def Arr.add(A:Arr x a)(c:yb x rows)(v:rows.length<=35){low high:Int}(k:(lk x.rk low).isSome=true)(l:(lk x.rk high).isSome=true)(d:low∈vK x high)(f:vR x low=false)(g:vR x high=false)(m:low≠high)(ac:XM (El x low high)):Arr (El x low high) (a++[(low,high)]):=by
 have q:=A.Uo c v;have h:lk x.ht low=none:=by simpa using(Bool.or_eq_false_iff.mp f).1
 have i:lk x.th high=none:=by simpa using(Bool.or_eq_false_iff.mp g).2
 have n:(K7.El x low high).ht=x.ht++[(low,high)]:=yV h;have o:(K7.El x low high).th=x.th++[(high,low)]:=yV i;refine#[A.ok.El k l d f g m ac q0a q0a,?_,?_,λe p=>?_]
 ·rw[o,jy];refine List.nodup_append.mpr #[A.nt,q0o,λa j b d z=>?_];have d:b=high:=by simpa using d
  rw[z,d]at j;have:=wG j;rw[i]at this;cases this
 ·show ((a++[(low,high)]).map (·.1)).Perm ((K7.El x low high).ht.map (·.1));rw[n,jy,jy];exact A.pm.append_right _
 ·show (lk (pk x.ht low high) e.1).getD 0=e.2;rw[xu];rcases List.mem_append.mp p with z|z
  ·have:e.1≠low:=λw=>by have:=wG<|A.mem z;rw[w,h]at this;cases this
   rw[gc this];exact A.hd e z
  ·have z:e=(low,high):=by simpa using z
   rw[z,ga rfl];rfl
def Q0(v:Vr rows){k:Int}(d:rowAt rows k=↑y):y.2.length<=95:=by
 have b:=v.ok k y.1 y.2 d
 have:=vJ (U:=Ck rows) b.2.2.1 λc e=>by obtain⟨_,g,f⟩:=b.2.2.2.1 c e;exact yc.mpr (by rw[f];rfl)
 have h:=wZ rows;have i:=v.ln
 lia
def Uq(i:Qn x)(b:x.ht=[])(d:x.th=[]):Arr x []:=by
 have f:vj x=[]:=by unfold vj;rw[b];rfl
 refine#[#[i,by rw[f];exact lN,by rw[b];decide,by rw[d];decide,λl h e=>?_,λl h e=>?_,λc e=>?_,λ_=>0,λl g=>?_],by rw[d];exact lN,by rw[f];exact .refl _,λe j=>by cases j]
 ·rw[b]at e;cases e
 ·rw[d]at e;cases e
 ·rw[b]at e;cases e
 ·rw[f]at g;cases g
def Q1{i:Nat}(A:Arr x a)(c:yb x rows)(h:a[i]?=↑y)(k:∀v (b:B0 C),yb b rows->Arr b (a.eraseIdx i)->d v (b,#[],())):GD C g j (x,y.1,()) d l:=by have f:=A.mem<|jg h;have e:=vS f;refine#[A.ok,?_];show if (lk x.rk y.1).isSome=true then (if (lk x.ht y.1).isSome=true then d (vA x y.1) _ else _) else _;rw[ga (A.ok.ht _ _ e).1,ga<|by rw[e];rfl];exact k _ _ (c.same rfl rfl rfl)<|A.pop h
def Xj{n:cr}{low high:Int}(A:Arr x a)(c:yb x rows)(v:Vr rows)(o:rows.length<=35)(b:rowAt rows high=↑y)(h:low∈y.2)
 (i:∀D∈[d,e],f D (x,#[],#[],()))(k:∀g:B0 C,yb g rows->Arr g (a++[(low,high)])->p () (g,#[],#[],())):Qv C B n d e (x,low,high,()) p f:=by
  have r:=v.ok high y.1 y.2 b
  obtain⟨s,E,u⟩:=r.2.2.2.1 low h
  have j:(lk x.rk low).isSome=true:=by rw[c.rk,u];rfl
  have l:(lk x.rk high).isSome=true:=by rw[c.rk,b];rfl
  have m:low∈K7.vK x high:=by rw[c.vK,wz b];exact h
  refine#[A.ok,?_]
  show if (lk x.rk low).isSome=true then (if (lk x.rk high).isSome=true then (if low∈K7.vK x high then (if vR x low=true\/vR x high=true then f d _ else f e _/\_) else _) else _) else _
  rw[ga j,ga l,ga m]
  by_cases t:vR x low=true\/vR x high=true
  · rw[ga t]; exact i d q0o
  · rw[gc t]
    have w:vR x low=false:=by cases q:vR x low with|true=>exact gA (.inl q) t|false=>rfl
    have z:vR x high=false:=by cases q:vR x high with|true=>exact gA (.inr q) t|false=>rfl
    exact#[i e q0o,λac=>k _ (c.same rfl rfl rfl)<|A.add c o j l m w z (Int.ne_of_lt s) ac]
end
section
variable{q:Cq}{C XC XS XO XB XP XV W4 XF XT XN XR XL:cr}
noncomputable abbrev Kt:gR:=top 36
noncomputable abbrev Ku:List Str:=["_law_bag_here"]
def Ur:uq ["_law_bag_here"] Ku (ug Kt):=by walk_at "sc"
abbrev Xk(q:Cq)(k:Nat):=wu q "_law_rank" Ku GS k
def Us(F:Cf q "_law_rank" Kt f g)(a:wu q "_law_pull" ["_law_bag_here","_law_many"] xP 1):Gq q 2 f g Ku GS:=by
 refine' uv (vU (D':=Unit) (ms:=[0]) (j:=0) F Ur rfl rfl λi A c s H E n =>
   (ux (uZ (tw_cm An (uy (uB a (uK 0 (um ul ui)))) ul)
   (uj<|uC<|uB a<|uK 0<|um ul ui)
   uN)
   (uj (uC (uX (xW (vG (uQ (uE (uo ul (uo ul (uo ul (uo ul (uo ul (uo ul (uo ul (uo ul uD))))))))))) (uy (uB a (uK 0 (um ul ui)))))))))) λp k o h=>?_
 walk_at "wl"
 have h:∀r,0<=r->r<=12->k r (#[],()):=h;refine vZ q0q q0q λr t u=>?_
 try dsimp only
 by_cases q:r=11
 ·rw[ga<|decide_eq_true q];refine vZ q0q q0q λs d b=>h s d ?_;have b:s<13:=b
  lia
 ·rw[gc<|by simpa using q];refine vZ q0q q0q λs d b=>?_;have b:s<8:=b;obtain⟨x,m,_,e⟩:=xQ (l:=[(0:Int),0,1,1,1,2,2,3]) d (by simpa using b);refine#[x,m,h x ?_ ?_]
  ·simp at e;lia
  ·simp at e;lia
noncomputable abbrev Kv:gR:=top 37
noncomputable abbrev Kw:List Str:=["_law_one","_law_other"]
def Ml:uq ["_law_one","_law_other","_law_left"] Kw (ug Kv):=by walk_at "sc"
def Q2:(["_law_x","_law_other"]:List Str).Nodup:=by decide +kernel
def Q3:(["_law_x","_law_one"]:List Str).Nodup:=by decide +kernel
abbrev Kx(q:Cq)(k:Nat):=wu q "_law_join" Kw GU k
def Ut(F:Cf q "_law_join" Kv f i)(B:Bn q.mg):Gq q 2 f i Kw GU:=by
 refine' uv (vU (D':=Unit) (ms:=[]) (j:=1) F Ml rfl rfl λl A e s H E n =>
   (ux (zX (Ts:=["_law_x"]) (Fr:=["_law_other"]) (idx:=[1]) (k:=1) (mb:=[1]) (is:=[]) (cl:=[("_law_other",⇑s+1+1)]) 2 Ml.nd rfl rfl rfl q0q rfl (vw (ss 0)) P1 rfl (vQ rfl) (λa b C c d=>(uG 0 (uw Q2))) (λa b C c d=>(tws_one (tw_cmI Dt (ss 0) (vG (ss 1)) (by with_unfolding_all rfl)))) (λa b C c d=>(ss 0)))
   (uj (uC (BI rfl B.sorted (vG (uQ (AD (vL 2) (vG (uQ (v7 (Ts:=["_law_x"]) (Fr:=["_law_one"]) (idx:=[0]) (k:=1) (mb:=[1]) (is:=[]) (cl:=[("_law_one",⇑s+1)]) rfl (vw (ss 1)) P1 rfl (vQ rfl) (λa b C c d=>(uG 0 (uw Q3))) (λa b C c d=>(tws_one (tw_cmI Dt (ss 0) (vG (ss 1)) (by with_unfolding_all rfl)))) (λa b C c d=>(ss 0))))))))))))) λp o r h=>?_
 walk_at "wl"
 obtain⟨⟨t,u,v⟩,m⟩:=h;refine#[vd q0d,vi (q:=λk=>!decide (k∈p.2.1)) (λk _ K g=>g) ?_];refine#[vd (show p.2.1.length<=1000 by omega),vi (q:=λk=>!decide (k∈p.1)) (λk _ K g=>g) ?_];have w:=gS (λk=>!decide (k∈p.2.1)) p.1;have x:=gS (λk=>!decide (k∈p.1)) p.2.1;refine#[vd ?_,?_,m]
 ·show (p.1.filter λk=>!decide (k∈p.2.1)).length+(p.2.1.filter λk=>!decide (k∈p.1)).length<=1000;omega
 ·rw[gz];show (p.1.filter λk=>!decide (k∈p.2.1)).length+(p.2.1.filter λk=>!decide (k∈p.1)).length<64;omega
noncomputable abbrev Ky:gR:=top 38
noncomputable abbrev Kz:List Str:=["_law_rows_here"]
def Uu:uq ["_law_rows_here"] Kz (ug Ky):=by walk_at "sc"
def Q4:(["_law_k","_law_rows_here"]:List Str).Nodup:=by decide +kernel
abbrev G4(q:Cq)(k:Nat):=wu q "_law_here" Kz Kk k
def Uv(F:Cf q "_law_here" Ky f n)(B:Bn q.mg):Gq q 2 f n Kz Kk:=by
 refine' uv (vU (D':=Unit) (ms:=[]) (j:=0) F Uu rfl rfl λo A c s H E w =>
   (uj (uC (v7 (Ts:=["_law_k"]) (Fr:=["_law_rows_here"]) (idx:=[0]) (k:=1) (mb:=[1]) (is:=[]) (cl:=[("_law_rows_here",⇑s+1)]) rfl (wN rfl B.range (xm rfl B.len (vG (ss 0)))) P1 rfl (vQ rfl) (λa b C g i=>(uG 0 (uw Q4))) (λa b C g i=>(tws_one (tw_cm LC (xW (vG (ss 1)) (ss 0)) JC))) (λa b C g i=>(ss 0)))))) λp z D h=>?_
 walk_at "wl"
 obtain⟨G,r⟩:=h;refine#[#[q0a,q0a],?_,vi (q:=λk=>(rowAt p.1 k).isSome) (λk d K e=>?_) r]
 ·rw[v6];exact vd q0a
 ·obtain⟨m,t⟩:=Me d;obtain⟨x,u,v,_⟩:=xQ (l:=p.1) m t;rw[D8 m v]at e;refine#[x,u,?_]
  cases x with
  |none=>exact e
  |some y=>exact e
noncomputable abbrev KA:gR:=top 39
noncomputable abbrev KC:List Str:=["_law_bag_here","_law_row_here"]
def Ac:uq ["_law_bag_here","_law_row_here","_law_found","_law_count","_law_k"] KC (ug KA):=by walk_at "sc"
abbrev Q5(q:Cq)(k:Nat):=wu q "_law_some" KC Kl k
def Uw(F:Cf q "_law_some" KA f O)(a:wu q "_law_pull" ["_law_bag_here","_law_many"] xP 2)(d:Kx q 2)(B:Bn q.mg):Gq q 3 f O KC Kl:=by
 refine' uv (vU (D':=Unit) (ms:=[0]) (j:=3) F Ac rfl rfl λP A v s H E Q =>
   (ux (uz 2 Ac.nd (uE (α:=Int) uD))
   (ux (uZ (tw_cmL (JE Q.units) (vG (ss 1)) (vG (uQ (uE (α:=Int) uD))))
   (uj<|xX 2<|pv 2)
   uN)
   (ux (uz 3 Ac.nd (uB a (uK 0 (um ul ui))))
   (ux (uZ (tw_cm An (ss 3) ul)
   (uj<|uz 3 Ac.nd<|uX<|OY Ax (uy<|uB a<|uK 0<|um ul ui)<|xm rfl B.len<|vG<|ss 1)
   uN)
   (ux (vY (is:=[]) (mb:=[0]) (D1:=Bg×(List Int)×(OL Int)×Int×Int×Unit) (D2:=Bg×(List Int)×(OL Int)×Int×Int×Unit) (uJ q0q) yf rfl (wN rfl B.range (ss 3)) (uG 4 (uw Ac.nd))
   (uj (uz 2 Ac.nd (uB d (uY 2 (um (uQ (uE (uo (xW (vG (ss 1)) (uy (uB a (uK 0 (um (xm rfl B.len (vG (ss 1))) ui))))) uD))) ui))))) q0q q0q)
   (uj (xX 2 (pv 2))))))))) λp J o h=>?_
 walk_at "wl"
 obtain⟨Y,L⟩:=h;by_cases w:p.2.1=[]
 ·rw[ga<|decide_eq_true w];exact L [] gU λ_ z=>by cases z
 rw[gc<|by simpa using w]
 have D:0<(p.2.1.length:Int):=by
  have:=List.length_pos_iff.mpr w
  lia
 have g:∀(n c:Int),FZ (λ(x:Int)(b:Bg×List Int×OL Int×Int×WL.Un×Unit) G (Z:OL Int->Bg×WL.Un×Unit->Prop) o=>xP (b.1,(b.2.1.length:Int),()) (λx t=>∃k,Ep b.2.1 x=↑k/\GU (b.2.2.1.l,[k],()) (λx m=>G (t.1,b.2.1,x,b.2.2.2.1,#[],b.2.2.2.2.2)) λC m=>o C (t.1,#[],())) λC t=>o C (t.1,#[],()))
   (xS 0 n) (#[],p.2.1,#[[]],c,#[],p.2.2) (λM=>J M.2.2.1 (M.1,#[],())) J o:=by
  intro n c;refine vf (λ(r:List Int)(b:Bg×List Int×OL Int×Int×WL.Un×Unit)=>b.2.1=p.2.1/\v8 b.2.2.1.l/\∀x∈b.2.2.1.l,x∈p.2.1) (xS 0 n) #[rfl,gU,(λ_ z=>by cases z)] ?_ ?_
  ·rintro x r b _ ⟨e,i,g2⟩ K R;rw[e];refine vZ D q0a λr N u=>?_;obtain⟨y,S,_,T⟩:=xQ (l:=p.2.1) N u;have U:=vJ i g2;refine#[y,S,Uk (show b.2.2.1.l.length+1<64 by lia),R _ #[rfl,Gb i<|jh _ _,λz W=>?_]];rcases Ga.mp W with⟨I,_⟩|⟨I,_⟩
   ·exact g2 z I
   ·rw[List.mem_singleton.mp I];exact T
  ·rintro b ⟨_,i,g2⟩;exact L _ i g2
 refine vZ q0q q0q λr N u=>?_
 try dsimp only
 have u:r<7:=u;by_cases q:r=6
 ·rw[ga<|decide_eq_true q];refine vZ q0q q0q λs X i=>?_;have i:s<3:=i
  have b1:s*(p.2.1.length:Int)<=2*60:=by
   have:s*(p.2.1.length:Int)<=2*(p.2.1.length:Int):=Int.mul_le_mul_of_nonneg_right q0a q0a
   lia
  have b0:0<=s*(p.2.1.length:Int):=Int.mul_nonneg X q0a;exact#[.inl #[q0a,q0a],#[q0a,q0a],g _ _]
 ·rw[gc<|by simpa using q];exact#[#[q0a,q0a],g _ _]
noncomputable abbrev KD:gR:=top 40
noncomputable abbrev KG:List Str:=["_law_rows_here","_law_row_here"]
def CU:uq ["_law_rows_here","_law_row_here","_law_found","_law_cell"] KG (ug KD):=by walk_at "sc"
abbrev Q6(q:Cq)(k:Nat):=wu q "_law_edge" KG Km k
def Ux(F:Cf q "_law_edge" KD f o)(a:Kx q 2):Gq q 3 f o KG Km:=by
 refine' uv (vU (D':=Unit) (ms:=[]) (j:=2) F CU rfl rfl λt A i s H E N =>
   (ux (uz 2 CU.nd (uE (α:=Int) uD))
   (ux (vY (is:=[]) (mb:=[]) (D1:=(List RW)×(List Int)×(OL Int)×Int×Unit) (D2:=(List RW)×(List Int)×(OL Int)×Int×Unit) (uJ q0q) yf rfl (vw (ss 1)) (uG 3 (uw CU.nd))
   (uj (uz 2 CU.nd (uB a (uY 2 (um (Dn (zo (xW (vG (ss 0)) (ss 3)))) ui))))) q0q q0q)
   (uj (xX 2 (pv 2)))))) λp u O h=>?_
 walk_at "wl"
 obtain⟨v,w,B⟩:=h;refine vf (λ(r:List Int)(b:List RW×List Int×OL Int×WL.Un×Unit)=>b.1=p.1/\(∀c∈r,(rowAt p.1 c).isSome=true)/\v8 b.2.2.1.l/\(∀x∈b.2.2.1.l,x∈xS 0 35)/\(r.map<|eb p.1).foldl xr b.2.2.1.l=uI (eb p.1) p.2.1) p.2.1 ⟨rfl,w,gU,(λ_ z=>by cases z),rfl⟩ ?_ ?_
 ·rintro c r b _ ⟨e,n,g1,g2,d⟩ K D;obtain⟨y,k⟩:=Option.isSome_iff_exists.mp<|n c gh;obtain⟨_,_,_,G⟩:=uF k;obtain⟨g,m⟩:=v.II k;rw[e];have I:=vJ g1 g2;have J:=vJ g m;rw[v6]at I J;refine⟨_,G,y,rfl,Kq g1 g g2 m,D _ ⟨rfl,λc L=>n c<|gl _ L,Gb g1 g,λx M=>?_,?_⟩⟩
  ·rcases Ga.mp M with⟨z,_⟩|⟨z,_⟩
   ·exact g2 x z
   ·exact m x z
  ·rw[<- d];show (r.map<|eb p.1).foldl xr (jn b.2.2.1.l y.2)=(r.map<|eb p.1).foldl xr (xr b.2.2.1.l<|eb p.1 c);rw[Px g1 g,wz k]
 ·rintro b ⟨_,_,_,_,d⟩;have d:b.2.2.1.l=uI (eb p.1) p.2.1:=d;show u b.2.2.1 _;rw[show b.2.2.1=OL.mk b.2.2.1.l from rfl,d];exact B
noncomputable abbrev G6:gR:=top 49
noncomputable abbrev G7:List Str:=["_law_found"]
def Q7:uq ["_law_found"] G7 (ug G6):=by walk_at "sc"
abbrev Uy(q:Cq)(k:Nat):=wu q "_law_whole" G7 Mc k
def Q8(F:Cf q "_law_whole" G6 f b)(B:Bn q.mg):Gq q 2 f b G7 Mc:=by
 refine' uv (vU (D':=Unit) (ms:=[]) (j:=0) F Q7 rfl rfl λc A a s H E d =>
   (uj (uC (uX (Pa (BK (ty:="int") rfl B.isinstance (Fy (v:=.ty "int") rfl B.int PyProof.Rows.boot_int rfl) (ss 0)) (FY (Wz (BK (ty:="bool") rfl B.isinstance (Fy (v:=.ty "bool") rfl B.bool PyProof.Rows.boot_bool rfl) (ss 0))))))))) λp e g h=>?_
 walk_at "wl"
 exact h
noncomputable abbrev s_row:gR:=top 50
abbrev Q9:List Str:=["_law_found"]
def Rc:uq ["_law_found","_law_one"] Q9 (ug s_row):=by walk_at "sc"
abbrev Vt(q:Cq)(k:Nat):=wu q "_law_row" Q9 QO k
def Xl(F:Cf q "_law_row" s_row f d)(a:Uy q 2)(B:Bn q.mg):Gq q 3 f d Q9 QO:=by
 refine' uv (vU (D':=Unit) (ms:=[]) (j:=1) F Rc rfl rfl λe A c s H E i =>
   (ux (uZ (tw_not (tw_val (BK (ty:="list") rfl B.isinstance (Fy (v:=.ty "list") rfl B.list jU rfl) (ss 0))))
   (uj<|uC<|uX Dm)
   uN)
   (ux (vY (is:=[]) (mb:=[]) (D1:=(List Int)×Int×Unit) (D2:=(List Int)×Int×Unit) (uJ q0q) yf rfl (vw (ss 0)) (uG 1 (uw Rc.nd))
   (uj (uZ (tw_not (tw_val (uy (uB a (um (ss 1) ui)))))
   (uj<|uC<|uX Dm)
   uN)) q0q q0q)
   (uj (uC (uX Dm)))))) λp k l h=>?_
 walk_at "wl"
 rw[gc q0q];exact vf (λ(r:List Int)(b:List Int×WL.Un×Unit)=>True) p.1 trivial (λx r b _ _ K g=>g _ trivial) λ_ _=>h
noncomputable abbrev s_same:gR:=top 53
noncomputable abbrev KH:List Str:=["_law_found","_law_due"]
def Uz:uq ["_law_found","_law_due"] KH (ug s_same):=by walk_at "sc"
abbrev Xm(q:Cq)(k:Nat):=wu q "_law_same" KH Ko k
def UA(F:Cf q "_law_same" s_same f c)(a:Vt q 3):Gq q 4 f c KH Ko:=by
 refine' uv (vU (D':=Unit) (ms:=[]) (j:=0) F Uz rfl rfl λd A b s H E e =>
   (uj (uC (uX (Pa (uy (uB a (um (ss 0) ui))) (FY (Wy (JE e.units) (vG (ss 0)) (vG (ss 1)) (xk _)))))))) λp g i h=>?_
 walk_at "wl"
 exact h
noncomputable abbrev G8:gR:=top 35
noncomputable abbrev G9:List Str:=["_law_many"]
def zN:uq ["_law_many","_law_pairs","_law_threes","_law_rows_here"] G9 (ug G8):=by walk_at "sc"
def Nz:(["_law_k"]:List Str).Nodup:=by decide +kernel
def NA:(["_law_pair"]:List Str).Nodup:=by decide +kernel
def NB:(["_law_three"]:List Str).Nodup:=by decide +kernel
abbrev UB(q:Cq)(k:Nat):=wu q "_law_stock" G9 Md k
def Re(F:Cf q "_law_stock" G8 f i)(B:Bn q.mg):Gq q 2 f i G9 Md:=by
 refine' uv (vU (D':=Unit) (ms:=[]) (j:=3) F zN rfl rfl λl A g s H E o =>
   (ux (uz 1 zN.nd (uE (uo (uQ (uE (uo ul (uo ul uD)))) (uo (uQ (uE (uo ul (uo ul uD)))) (uo (uQ (uE (uo ul (uo ul uD)))) (uo (uQ (uE (uo ul (uo ul uD)))) (uo (uQ (uE (uo ul (uo ul uD)))) (uo (uQ (uE (uo ul (uo ul uD)))) uD))))))))
   (ux (uz 2 zN.nd (uE (uo (uQ (uE (uo ul (uo ul (uo ul uD))))) (uo (uQ (uE (uo ul (uo ul (uo ul uD))))) (uo (uQ (uE (uo ul (uo ul (uo ul uD))))) (uo (uQ (uE (uo ul (uo ul (uo ul uD))))) uD))))))
   (ux (uz 3 zN.nd (AD (vG (uQ (v7 (Ts:=["_law_k"]) (Fr:=[]) (idx:=[]) (k:=1) (mb:=[]) (is:=[]) (cl:=[]) rfl (wN rfl B.range ul) XJ rfl (vQ rfl) (λa b C c d=>(uG 0 (uw Nz))) (λa b C c d=>tws_nil) (λa b C c d=>(yM (v4 ul (uQ (uE (α:=Int) uD)))))))) (vG (uQ (v7 (Ts:=["_law_pair"]) (Fr:=[]) (idx:=[]) (k:=1) (mb:=[]) (is:=[1]) (cl:=[]) rfl (JK 1 (pv 1) q0q) XJ rfl (vQ rfl) (λa b C c d=>(uG 0 (uw NA))) (λa b C c d=>tws_nil) (λa b C c d=>(yM (v4 ul (ss 0)))))))))
   (ux (uz 3 zN.nd (AD (vG (uQ (AD (vL 3) (vG (uQ (v7 (Ts:=["_law_three"]) (Fr:=[]) (idx:=[]) (k:=1) (mb:=[]) (is:=[2]) (cl:=[]) rfl (JK 2 (pv 2) q0q) XJ rfl (vQ rfl) (λa b C c d=>(uG 0 (uw NB))) (λa b C c d=>tws_nil) (λa b C c d=>(yM (v4 ul (ss 0)))))))))) (vG (uQ (uE (uo (yM (v4 ul (uQ (uE (uo ul (uo ul (uo ul (uo ul uD)))))))) uD))))))
   (uj (uC (HY (vL 3) FV (FW (ss 0)))))))))) λp r t h=>?_
 walk_at "wl"
 obtain⟨m,n⟩:=h;refine#[q0q,(by rw[v6];exact vd q0q),vo (f:=λ_=>some<|some (0,[])) (λx _ K e=>e) ?_];refine#[vd q0q,vo (f:=λx=>some<|some (1,x)) (λx _ K e=>e) ?_];refine#[vd q0q,vd q0q,vo (f:=λx=>some<|some (2,x)) (λx _ K e=>e) ?_];refine#[vd q0q,vd q0q,?_];rw[Xg _ m];exact n
noncomputable abbrev B2:gR:=top 41
noncomputable abbrev B3:List Str:=["_law_rows_here","_law_loops","_law_rank_here","_law_bag_here"]
def wm:uq ["_law_rows_here","_law_loops","_law_rank_here","_law_bag_here","_law_number","_law_edge_here","_law_beneath","_law_k","_law_kin","_law_chosen"] B3 (ug B2):=by walk_at "sc"
def Cn:(["_law_at","_law_one","_law_rank_here"]:List Str).Nodup:=by decide +kernel
def IJ:(["_law_k","_law_rank_here","_law_rows_here"]:List Str).Nodup:=by decide +kernel
abbrev NC(q:Cq)(k:Nat):=wu q "_law_edge_by" B3 Ab k
def KI(F:Cf q "_law_edge_by" B2 f fd)(a:wu q "_law_pull" ["_law_bag_here","_law_many"] xP 3)(G:Kx q 3)(I:G4 q 3)(J:Q5 q 3)(L:Q6 q 3)(B:Bn q.mg):Gq q 4 f fd B3 Ab:=by
 refine' uv (vU (D':=Unit) (ms:=[0,1,3]) (j:=6) F wm rfl rfl λae A aa s H E hr =>
   (ux (uz 4 wm.nd (uX (xm rfl B.len (vL 0))))
   (ux (uz 5 wm.nd (uE (α:=Int) uD))
   (ux (uZ (tw_cm An (ss 2) ul)
   (ux (vP 1 (v4 ul (uQ (uE (uo (ss 4) uD)))))
   (uj (xX 5 (pv 5))))
   uN)
   (ux (uZ (tw_cm O6 (uy (uB a (uK 3 (um ul ui)))) ul)
   (ux (zX (Ts:=["_law_at","_law_one"]) (Fr:=["_law_rank_here"]) (idx:=[2]) (k:=2) (mb:=[2]) (is:=[1]) (cl:=[("_law_rank_here",⇑s+1+1)]) 6 wm.nd rfl rfl rfl q0q rfl (JK 1 (pv 1) q0q) P1 rfl (vQ rfl) (λd g C T U=>(A6 0 1 (Bw rfl (vN (uw (i:=0) Cn) (vN (uw (i:=1) Cn) zO))) q0q q0q)) (λd g C T U=>(tws_one (tw_cm An (ss 0) (zS FC (ss 2) ul)))) (λd g C T U=>(ss 1)))
   (ux (vY (is:=[]) (mb:=[0,1,3]) (D1:=(OL RW)×(OL (Int×(List Int)))×Int×Bg×Int×(OL Int)×(OL (List Int))×Int×Un×Un×Unit) (D2:=(OL RW)×(OL (Int×(List Int)))×Int×Bg×Int×(OL Int)×(OL (List Int))×Int×Un×Un×Unit) (uJ q0q) yf rfl (wN rfl B.range (xW (vG (uQ (uE (uo ul (uo ul (uo ul (uo ul (uo ul (uo ul (uo ul (uo ul uD))))))))))) (uy (uB a (uK 3 (um ul ui)))))) (uG 7 (uw wm.nd))
   (uj (uZ (tw_cmL (Ds hr.units) (vL 6) (vG (uQ (uE (α:=(List Int)) uD))))
   (uj<|uz 5 wm.nd<|uB G<|uY 5<|um (xW (vL 6)<|uy<|uB a<|uK 3<|um (xm rfl B.len<|vL 6) ui) ui)
   uN)) q0q q0q)
   (ux (uZ (tw_cmL (JE hr.units) (vL 5) (vG (uQ (uE (α:=Int) uD))))
   (uj<|vP 1<|v4 (ss 2)<|uQ<|uE<|uo (ss 4) uD)
   uN)
   (uj (xX 5 (pv 5))))))
   uN)
   (ux (zX (Ts:=["_law_k"]) (Fr:=["_law_rank_here","_law_rows_here"]) (idx:=[2,0]) (k:=1) (mb:=[1,2]) (is:=[]) (cl:=[("_law_rows_here",⇑s+1),("_law_rank_here",⇑s+1+1)]) 8 wm.nd rfl rfl rfl q0q rfl (vw (uQ (uB I (uY 0 ui)))) bs2 rfl (vQ rfl) (λd g C T U=>(uG 0 (uw IJ))) (λd g C T U=>(tws_one (tw_cm An (JD (zo (xW (vL 2) (ss 0)))) (ss 1)))) (λd g C T U=>(ss 0)))
   (ux (uz 9 wm.nd (uB J (uK 3 (uY 8 ui))))
   (ux (vP 1 (v4 (ss 2) (uQ (AD (vL 9) (vG (uQ (uE (uo (ss 4) uD))))))))
   (uj (uC (uB L (uY 0 (uY 9 ui))))))))))))) λp Kn Ke h=>?_
 walk_at "wl"
 obtain⟨v,hn,hq,W,r0,r1,Y⟩:=h;by_cases h0:p.2.2.1=0
 ·rw[ga<|decide_eq_true h0];refine⟨Bi q0a,?_⟩;refine Y [] [(0,[(p.1.l.length:Int)])] (GY v q0a λr e z=>?_) (λu M=>?_) q0o
  ·cases z;exact#[r0,r1,gU,(λ_ z=>by cases z),rfl]
  ·rcases List.mem_append.mp M with z|z
   ·exact D9<|W u z
   ·rw[List.mem_singleton.mp z];have:=QR (rows:=p.1.l) (r:=p.2.2.1);rw[h0]at this ⊢;exact this
 ·rw[gc<|by simpa using h0];refine vZ q0q q0q λx g0 g1=>?_
  try dsimp only
  by_cases hx:x<3
  ·rw[ga<|decide_eq_true hx];refine⟨vd q0a,vo (f:=λu:Int×List Int=>if decide (u.1=p.2.2.1-1)=true then some u.2 else none) (λu _ K o=>?_) ?_⟩
   ·show if decide (u.1=p.2.2.1-1)=true then K ↑u.2 _ else K none _;by_cases z:decide (u.1=p.2.2.1-1)=true
    ·rw[ga z]at o ⊢;exact o
    ·rw[gc z]at o ⊢;exact o
   ·have ly:(p.2.1.l.filterMap λu:Int×List Int=>if decide (u.1=p.2.2.1-1)=true then some u.2 else none).length<=100:=gW (List.length_filterMap_le _ _) hq
    have X:∀z∈(p.2.1.l.filterMap λu:Int×List Int=>if decide (u.1=p.2.2.1-1)=true then some u.2 else none),Lp p.1.l (p.2.2.1-1,z):=λz hz=>by
     obtain⟨u,M,e⟩:=List.mem_filterMap.mp hz;by_cases q:decide (u.1=p.2.2.1-1)=true
     ·rw[ga q]at e;cases e;rw[<- jr q];exact W u M
     ·rw[gc q]at e;cases e
    generalize (p.2.1.l.filterMap λu:Int×List Int=>if decide (u.1=p.2.2.1-1)=true then some u.2 else none)=ys at ly X;refine vZ q0q q0q λs g2 g3=>?_;obtain⟨m,m1,_,m3⟩:=xQ (l:=[(2:Int),2,2,2,0,1,3,4]) g2 (by simpa using g3);refine#[m,m1,#[by simp at m3;lia,by simp at m3;lia],?_];refine vf (λ(r:List Int) (b:OL RW×OL (Int×List Int)×Int×Bg×Int×OL Int×OL (List Int)×WL.Un×WL.Un×WL.Un×Unit)=>b.1=p.1/\b.2.1=p.2.1/\b.2.2.1=p.2.2.1/\b.2.2.2.2.1=(p.1.l.length:Int)/\b.2.2.2.2.2.2.1.l=ys/\Lp p.1.l (p.2.2.1-1,b.2.2.2.2.2.1.l)) (xS 0 m) #[rfl,rfl,rfl,rfl,rfl,gU,(λ_ z=>by cases z),rfl] ?_ ?_
    ·intro y r;refine YR λb1 b2 b3 b4 b5 N b7 b8=>?_;rintro _ ⟨P,Q,R,S,Z,n⟩ K o;dsimp only at P Q R S Z n ⊢;subst Z;by_cases q:b7.l=[]
     ·rw[gc<|by simp[q]];exact o _ #[P,Q,R,S,rfl,n]
     ·rw[ga<|by simp[q]];have:=List.length_pos_iff.mpr q;refine vZ q0a q0a λt t0 t1=>?_;obtain⟨z,z1,_,z3⟩:=xQ (l:=b7.l) t0 t1;have D:=X z z3;have s1:=vJ n.1<|n.sub q0a;have s2:=vJ D.1<|D.sub q0a;rw[v6]at s1 s2;have s1:N.l.length<=35:=s1;have s2:z.length<=35:=s2;refine⟨z,z1,Kq n.1 D.1 (n.sub q0a)<|D.sub q0a,o _ ⟨P,Q,R,S,rfl,?_⟩⟩;show Lp p.1.l (p.2.2.1-1,jn N.l z);have nn:∀c,(∃e,rowAt p.1.l c=some (p.2.2.1-1,e))->(eb p.1.l c).Nodup:=λc ⟨e,he⟩=>by rw[wz he];exact ut (v.II he).1
      refine#[Gb n.1 D.1,λc O=>?_,?_]
      ·rcases Ga.mp O with⟨w,_⟩|⟨w,_⟩
       ·exact n.2.1 c w
       ·exact D.2.1 c w
      ·show uI (eb p.1.l) (jn N.l z)=[];rw[Px n.1 D.1,zZ n.1 D.1 (λc O=>nn c<|n.2.1 c O)<|λc O=>nn c<|D.2.1 c O,show uI (eb p.1.l) N.l=[] from n.2.2,show uI (eb p.1.l) z=[] from D.2.2];rfl
    ·refine YR λb1 b2 b3 b4 b5 N b7 b8=>?_;rintro⟨P,Q,R,S,Z,n⟩;dsimp only at P Q R S Z n ⊢;subst P Q R S
     have va:Vr (p.1.l++[↑(p.2.2.1,N.l)]):=GY v q0a λr e z=>by
      cases z;exact#[r0,r1,n.1,n.2.1,n.2.2]
     by_cases q:N.l=[]
     ·rw[ga<|decide_eq_true q];refine⟨Bi q0a,Y N.l [(p.2.2.1,[(p.1.l.length:Int)])] va (λu M=>?_) q0o⟩;rcases List.mem_append.mp M with z|z
      ·exact D9<|W u z
      ·rw[List.mem_singleton.mp z,q];exact QR
     ·rw[gc<|by simpa using q];have:=Y N.l [] va (λu M=>D9<|W u<|by simpa using M) q0o;rw[jP]at this;exact this
  ·rw[gc<|by simpa using hx];refine⟨(show p.1.l.length<1000 by lia),vd (by have:=wZ p.1.l;show (Ck p.1.l).length<=1000;lia),vi (q:=λk=>decide ((rowAt p.1.l k).map (·.1)=↑p.2.2.1)) (λk ab K o=>?_) ?_⟩
   ·obtain⟨y,X⟩:=Option.isSome_iff_exists.mp<|yc.mp ab;refine#[_,(uF X).2.2.2,y,rfl,?_];rw[X]at o;show if decide (y.1=p.2.2.1)=true then _ else _;by_cases z:y.1=p.2.2.1
    ·rw[ga<|by simp[z]]at o ⊢;exact o
    ·rw[gc<|by simpa using z]at o ⊢;exact o
   ·have hs:=gS (λk=>decide ((rowAt p.1.l k).map (·.1)=↑p.2.2.1))<|Ck p.1.l;have af:=wZ p.1.l;refine⟨(show ((Ck p.1.l).filter _).length<60 by lia),λl l1 l2=>?_⟩
    have hl:∀c∈l,∃e,rowAt p.1.l c=↑(p.2.2.1,e):=λc O=>by
     have:=(List.mem_filter.mp<|l2 c O).2
     cases e:rowAt p.1.l c with
     |none=>rw[e]at this;simp at this
     |some y =>
      rw[e]at this;have this:y.1=p.2.2.1:=by simpa using this
      exact#[y.2,by rw[<- this]]
    obtain⟨c1,c2,c3⟩:=Ny v l1 hl;have ll:l.length<=((Ck p.1.l).filter λk=>decide ((rowAt p.1.l k).map (·.1)=↑p.2.2.1)).length:=vJ l1 l2;refine#[vd (show l.length+1<=1000 by lia),Bi q0a,v,λc O=>?_,?_]
    ·obtain⟨e,he⟩:=hl c O;show (rowAt p.1.l c).isSome=true;rw[he];rfl
    ·refine Y _ [(p.2.2.1,l++[(p.1.l.length:Int)])] (GY v q0a λr e z=>?_) (λu M=>?_) q0o
     ·cases z;exact#[r0,r1,vk _ _,c1,c2]
     ·rcases List.mem_append.mp M with z|z
      ·exact D9<|W u z
      ·rw[List.mem_singleton.mp z];exact c3
noncomputable abbrev KJ:gR:=top 42
noncomputable abbrev KL:List Str:=["_law_bag_here","_law_most"]
def yW:uq ["_law_bag_here","_law_most","_law_rows_here","_law_k","_law_loops","_law_rank_here"] KL (ug KJ):=by walk_at "sc"
def Rf:(["_law_k"]:List Str).Nodup:=by decide +kernel
abbrev Xn(q:Cq)(k:Nat):=wu q "_law_rows" KL QP k
def UC(F:Cf q "_law_rows" KJ f fd)(i:wu q "_law_pull" ["_law_bag_here","_law_many"] xP 4)(G:UB q 4)(L:Xk q 4)(w:NC q 4)(B:Bn q.mg):Gq q 5 f fd KL QP:=by
 refine' uv (vU (D':=Unit) (ms:=[0]) (j:=4) F yW rfl rfl λaa A X s H E hr =>
   (ux (uz 2 yW.nd (uE (α:=RW) uD))
   (ux (uZ (tw_cm An (uy (uB i (uK 0 (um ul ui)))) ul)
   (uj<|uz 2 yW.nd<|uB G<|um (uy<|uB i<|uK 0<|um ul ui) ui)
   uN)
   (ux (zX (Ts:=["_law_k"]) (Fr:=[]) (idx:=[]) (k:=1) (mb:=[]) (is:=[]) (cl:=[]) 4 yW.nd rfl rfl rfl q0q rfl (wN rfl B.range (xm rfl B.len (vL 2))) XJ rfl (vQ rfl) (λM N C ex pn=>(uG 0 (uw Rf))) (λM N C ex pn=>(tws_one (tw_cm O6 (ss 0) ul))) (λM N C ex pn=>(v4 ul (uQ (uE (uo (ss 0) uD))))))
   (ux (uZ (tw_cm Vi (xm rfl B.len (vL 2)) ul)
   (uj<|uz 4 yW.nd<|AD (vL 4)<|vG<|uQ<|uE<|uo (v4 ul<|uQ<|uE<|uo ul<|uo ul<|uo ul uD)<|uo (v4 ul<|uQ<|uE<|uo ul<|uo ul<|uo ul uD)<|uo (v4 ul<|uQ<|uE<|uo ul<|uo ul<|uo ul uD) uD)
   uN)
   (ux (vY (is:=[]) (mb:=[0]) (D1:=Bg×Int×(OL RW)×Int×(OL (Int×(List Int)))×Un×Unit) (D2:=Bg×Int×(OL RW)×Int×(OL (Int×(List Int)))×Un×Unit) (uJ q0q) yf rfl (wN rfl B.range (uy (uB i (uK 0 (um (zS Aw (ss 1) ul) ui))))) (uG 3 (uw yW.nd))
   (uj (uZ (tw_cm An (uy (uB i (uK 0 (um ul ui)))) ul)
   (uj<|vP 2 SS)
   (Ly (D':=Bg×Int×(OL RW)×Int×(OL (Int×(List Int)))×Un×Unit) (ux (uz 5 yW.nd (uB L (uK 0 ui)))
   (uj (vP 2 (yM (v4 (ss 5) (uQ (uB w (uK 2 (uK 4 (um (ss 5) (uK 0 ui)))))))))))))) q0q q0q)
   (uj (xX 2 (pv 2))))))))) λp W I h=>?_
 walk_at "wl"
 obtain⟨hm,hk⟩:=h
 have S:∀(a:List RW) (o:List (Int×List Int)) (n:Int),n<=20->Vr a->a.length<=15->(∀u∈o,Lp a u)->o.length<=20 ->
   FZ (λ(x:Int) (b:Bg×Int×OL RW×WL.Un×OL (Int×List Int)×WL.Un×Unit) J (Kr:OL RW->Bg×WL.Un×Unit->Prop) I =>
    xP (b.1,9,()) (λx d=>if decide (x=8)=true then b.2.2.1.l.length<gk/\J (d.1,b.2.1,#[b.2.2.1.l++[none]],#[],b.2.2.2.2.1,b.2.2.2.2.2.1,b.2.2.2.2.2.2) else
     GS (d.1,()) (λx d=>Ab (b.2.2.1,b.2.2.2.2.1,x,d.1,()) (λO d=>d.1.l.length<gk/\J (d.2.2.2.1,b.2.1,#[d.1.l++[↑(x,O.l)]],#[],d.2.1,#[],b.2.2.2.2.2.2)) λC d=>I C (d.2.2.2.1,#[],())) λC d=>I C (d.1,#[],())) λC d=>I C (d.1,#[],()))
   (xS 0 n) (#[],p.2.1,#[a],#[],#[o],#[],p.2.2) (λT=>W T.2.2.1 (T.1,#[],())) W I:=by
  intro a o n hn v hl Y ab;refine vf (λ(r:List Int) (b:Bg×Int×OL RW×WL.Un×OL (Int×List Int)×WL.Un×Unit)=>Vr b.2.2.1.l/\(∀u∈b.2.2.2.2.1.l,Lp b.2.2.1.l u)/\b.2.2.1.l.length+r.length<=35/\b.2.2.2.2.1.l.length+r.length<=100) (xS 0 n) #[v,Y,(by rw[v6];show a.length+_<=35;lia),(by rw[v6];show o.length+_<=100;lia)] ?_ ?_
  ·rintro y r b _ ⟨R,g2,g3,g4⟩ K D;rw[gK]at g3 g4;refine vZ q0q q0q λs s0 s1=>?_;dsimp only;by_cases q:s=8
   ·rw[ga<|decide_eq_true q];refine⟨Bi q0a,D _ ⟨GY R q0a (λr e z=>by cases z),λu P=>D9<|g2 u P,?_,?_⟩⟩
    ·show (b.2.2.1.l++[none]).length+r.length<=35;rw[gz,gJ]
     lia
    ·show b.2.2.2.2.1.l.length+r.length<=100
     lia
   ·rw[gc<|by simpa using q];intro t t0 t1;refine⟨R,(show b.2.2.1.l.length<=34 by lia),(show b.2.2.2.2.1.l.length<=100 by lia),g2,t0,t1,λe u v1 v2 v3=>#[Bi (show b.2.2.1.l.length<1000 by lia),D _ #[v1,v2,?_,?_]]⟩
    ·show (b.2.2.1.l++[↑(t,e)]).length+r.length<=35;rw[gz,gJ]
     lia
    ·show (b.2.2.2.2.1.l++u).length+r.length<=100;rw[gz]
     lia
  ·rintro b ⟨R,_,g3,_⟩;exact hk _ R q0a
 have Q:∀(a:List RW) (U:List (Int×List Int)),Vr a->a.length<=15->(∀u∈U,Lp a u)->U.length<=20->∀g:Bg,xP (g,p.2.1+1,()) (λx d=>(-2 ^ 62<=x/\x<2 ^ 62)/\FZ (λ(x:Int) (b:Bg×Int×OL RW×WL.Un×OL (Int×List Int)×WL.Un×Unit) J (Kr:OL RW->Bg×WL.Un×Unit->Prop) I =>
    xP (b.1,9,()) (λx d=>if decide (x=8)=true then b.2.2.1.l.length<gk/\J (d.1,b.2.1,#[b.2.2.1.l++[none]],#[],b.2.2.2.2.1,b.2.2.2.2.2.1,b.2.2.2.2.2.2) else
     GS (d.1,()) (λx d=>Ab (b.2.2.1,b.2.2.2.2.1,x,d.1,()) (λO d=>d.1.l.length<gk/\J (d.2.2.2.1,b.2.1,#[d.1.l++[↑(x,O.l)]],#[],d.2.1,#[],b.2.2.2.2.2.2)) λC d=>I C (d.2.2.2.1,#[],())) λC d=>I C (d.1,#[],())) λC d=>I C (d.1,#[],()))
   (xS 0 x) (d.1,p.2.1,#[a],#[],#[U],#[],p.2.2) (λT=>W T.2.2.1 (T.1,#[],())) W I) (λC d=>I C (d.1,#[],())):=by
  intro a U v l1 Y l2 g;exact vZ q0a q0a λr g0 R=>#[#[q0a,q0a],S a U r q0a v l1 Y l2]
 refine vZ q0q q0q λx g0 R=>?_;dsimp only;by_cases hx:x=1
 ·rw[ga<|decide_eq_true hx];refine vZ q0q q0q λm m0 m1=>#[m0,?_];dsimp only;have c:=List.all_eq_true.mp Uj m.toNat<|List.mem_range.mpr q0a;unfold chk at c;simp only[hJ,Bool.or_eq_true,hV]at c;obtain⟨⟨⟨⟨c1,c2⟩,c3⟩,c4⟩,Z⟩:=c;have v:=QX c1;refine⟨⟨q0a,q0a⟩,(by rw[v6];exact vd q0a),vo (f:=λk:Int=>if decide (k<4)=true then some (0,[k]) else none) (λk _ K D=>?_) ?_⟩
  ·show if decide (k<4)=true then K ↑(0,[k]) _ else K none _;by_cases z:decide (k<4)=true
   ·rw[ga z]at D ⊢;exact D
   ·rw[gc z]at D ⊢;exact D
  ·have l0:∀u∈XQ (Br.take m.toNat).length,Lp (Br.take m.toNat) u:=λu P=>QW<|List.all_eq_true.mp c2 u P;by_cases h9:9<((Br.take m.toNat).length:Int)
   ·rw[ga<|decide_eq_true h9];have Z:lp1.all (Zw<|Br.take m.toNat)=true:=Z.elim (λz=>gA z q0a) id;refine#[vd (show (XQ (Br.take m.toNat).length).length+3<=1000 by lia),Q _ (XQ (Br.take m.toNat).length++lp1) v c4 (λu P=>?_) ?_ _]
    ·rcases List.mem_append.mp P with z|z
     ·exact l0 u z
     ·exact QW<|List.all_eq_true.mp Z u z
    ·rw[gz];show _+3<=20
     lia
   ·rw[gc<|by simpa using h9];exact Q _ (XQ (Br.take m.toNat).length) v c4 l0 q0a _
 ·rw[gc<|by simpa using hx];refine⟨⟨q0q,q0q⟩,vd q0q,vo (f:=λk:Int=>if decide (k<4)=true then some (0,[k]) else none) (λk _ K D=>?_) ?_⟩
  ·show if decide (k<4)=true then K ↑(0,[k]) _ else K none _;by_cases z:decide (k<4)=true
   ·rw[ga z]at D ⊢;exact D
   ·rw[gc z]at D ⊢;exact D
  ·exact Q [] [] (QX rfl) q0q (λu P=>by cases P) q0q _
noncomputable abbrev KN:gR:=top 43
noncomputable abbrev KO:List Str:=["_law_body","_law_rows_here"]
def Hc:uq ["_law_body","_law_rows_here","_law_number","_law_row_here"] KO (ug KN):=by walk_at "sc"
abbrev Xo(q:Cq)(C:cr)(k:Nat):=wu q "_law_fill" KO (QQ C) k
set_option tactic.hygienic true in
def UD(F:Cf q "_law_fill" KN f U)(ct:Ah q.K C)(a:Zp q C XB XS XC XO XP 8)(g:Uc q C XC XV 8)(B:Bn q.mg):Gq q 9 f U KO (QQ C):=by
 refine' uv (vU (D':=Unit) (ms:=[]) (j:=2) F Hc rfl rfl λW A D s H E hr =>
   (ux (vY (is:=[]) (mb:=[]) (D1:=(Bd C true)×(List RW)×Int×RW×Unit) (D2:=(Bd C true)×(List RW)×Int×RW×Unit) (uJ q0q) yf rfl (Tr rfl B.enumerate (ss 1)) (A6 2 3 (Bw rfl (vN (uw (i:=2) Hc.nd) (vN (uw (i:=3) Hc.nd) zO))) q0q q0q)
   (uj (uZ (tw_cm Wx (ss 3) JC)
   (ux (vc (uy (vr 0 a (um ul (um (uQ (uE (α:=Int) uD)) ui)))))
   (uj (vc (uy (vr 0 g (um (ss 2) ui))))))
   (uj (vc (uy (vr 0 a (um (JD (zo (ss 3))) (um (uQ (LB rfl B.list (vG (Dn (zo (ss 3)))))) ui)))))))) q0q q0q)
   (uj (xX 0 (pv 0))))) λp Kn Ke h=>?_
 walk_at "wl"
 obtain⟨X,v,Y⟩:=h;refine vf (λ(r:List (Int×RW)) (b:B0 C×List RW×WL.Un×WL.Un×Unit)=>∃k,r=M9 k (p.2.1.drop k)/\k<=p.2.1.length/\yb b.1 (p.2.1.take k)/\b.1.ht=[]/\b.1.th=[]) (M9 0 p.2.1) #[0,rfl,iu _,?_] ?_ ?_
 ·show yb p.1 []/\p.1.ht=[]/\p.1.th=[];rw[X];exact#[Um,rfl,rfl]
 ·rintro x r b _ ⟨k,e,N,c,m,n⟩ K Z
  have l:k<p.2.1.length:=by
   rcases Nat.lt_or_ge k p.2.1.length with z|z
   ·exact z
   ·rw[List.drop_of_length_le z]at e;cases e
  rw[m7 l]at e;have e1:x=((k:Int),p.2.1[k]):=by cases e;rfl
  have e2:r=M9 (k+1) (p.2.1.drop<|k+1):=by cases e;rfl
  have tk:p.2.1.take (k+1)=p.2.1.take k++[p.2.1[k]]:=(List.take_append_getElem l).symm;have G:(p.2.1.take k).length=k:=List.length_take_of_le N;have I:=Ui v k;have next:∀o:B0 C,yb o (p.2.1.take k++[p.2.1[k]])->o.ht=[]->o.th=[]->K (o,b.2.1,#[],#[],b.2.2.2.2):=λo h m1 m2=>Z _ #[k+1,e2,l,by rw[tk];exact h,m1,m2]
  have O:rowAt p.2.1 (k:Int)=p.2.1[k]:=D8 q0a (by rw[kG];exact iU l);have ln:=v.ln;subst e1;dsimp only
  cases z:p.2.1[k] with
  |none =>
   rw[ga<|show (none:RW).isNone=true from rfl];rw[z]at next
   refine QV c I (nC 0) q0q gU (λ_ q=>by cases q) rfl λP J u w=>?_;have Q:Vr (p.2.1.take k++[↑(0,[])]):=Zx I q0a;refine Uh J Q (by have:=vp (rows:=p.2.1.take k) (z:=↑(0,[]));rw[G]at this;rw[this];rfl) (λh t=>?_) (by unfold vR;rw[u,w,m,n];rfl) λx2 R g3 g4=>next x2 ?_ (g3.trans<|u.trans m)<|g4.trans<|w.trans n
   ·cases q:rowAt (p.2.1.take k++[↑(0,[])]) h with
    |none=>unfold eb at t;rw[q]at t;cases t
    |some y =>
     rw[wz q]at t;have S:=((Q.ok h y.1 y.2 q).2.2.2.1 _ t).1;have L:=(uF q).2.1;rw[gz,gJ,G]at L
     lia
   ·rw[kG,List.set_append_right _ _ q0a,G,pY]at R;exact R
  |some y =>
   rw[gc q0o];rw[z]at next O
   obtain⟨S,L,a3,T,a5⟩:=v.ok k y.1 y.2 O;refine#[y,rfl,y,rfl,QV c I S L a3 (λd M=>?_) ?_ λP J u w=>next P J (u.trans m)<|w.trans n]
   ·obtain⟨q1,e',q2⟩:=T d M;exact#[e',by rw[wU,ga q1];exact q2]
   ·rw[<- a5];refine vE λd M=>?_;unfold eb;rw[wU,ga (T d M).1]
 ·rintro b ⟨k,e,N,c,m,n⟩
  have:k=p.2.1.length:=by
   rcases Nat.lt_or_ge k p.2.1.length with z|z
   ·rw[m7 z]at e;cases e
   ·lia
  rw[this,ue]at c;exact Y _ c m n
noncomputable abbrev KP:gR:=top 44
noncomputable abbrev KQ:List Str:=["_law_field","_law_rows_here","_law_bag_here","_law_tries"]
def yd:uq ["_law_field","_law_rows_here","_law_bag_here","_law_tries","_law_arrows","_law_k","_law_highs","_law_gone","_law_high","_law_low"] KQ (ug KP):=by walk_at "sc"
def Rh:(["_law_k","_law_rows_here"]:List Str).Nodup:=by decide +kernel
abbrev Xp(q:Cq)(C:cr)(k:Nat):=wu q "_law_ties" KQ (QY C) k
def UE(F:Cf q "_law_ties" KP f fd)(ct:Ah q.K C)(m:G4 q 6)(d:wu q "_law_pull" ["_law_bag_here","_law_many"] xP 6)(g:Ua q C XC XN 6)(x:Zr q C XC XF XT XR 6)(a:Zj q XT XR "Tied" "RingOfArrows")(B:Bn q.mg):Gq q 7 f fd KQ (QY C):=by
 refine' uv (vU (D':=Unit) (ms:=[0,2]) (j:=6) F yd rfl rfl λae A Q s H E L =>
   (ux (uz 4 yd.nd (uE (α:=(Int×Int)) uD))
   (ux (zX (Ts:=["_law_k"]) (Fr:=["_law_rows_here"]) (idx:=[1]) (k:=1) (mb:=[1]) (is:=[]) (cl:=[("_law_rows_here",⇑s+1)]) 6 yd.nd rfl rfl rfl q0q rfl (vw (uQ (uB m (um (ss 1) ui)))) P1 rfl (vQ rfl) (λo t C ex pn=>(uG 0 (uw Rh))) (λo t C ex pn=>(tws_one (tw_cmL (Ds L.units) (vG (Dn (zo (xW (vG (ss 1)) (ss 0))))) (vG (uQ (uE (α:=Int) uD)))))) (λo t C ex pn=>(ss 0)))
   (ux (vY (is:=[]) (mb:=[0,2]) (D1:=(Bd C true)×(List RW)×Bg×Int×(OL (Int×Int))×Int×(OL Int)×Un×Un×Un×Unit) (D2:=(Bd C true)×(List RW)×Bg×Int×(OL (Int×Int))×Int×(OL Int)×Un×Un×Un×Unit) (uJ q0q) yf rfl (wN rfl B.range (ss 3)) (uG 5 (uw yd.nd))
   (uj (uZ (tw_w (JG (tw_cmL (Ds L.units) (vL 4) (vG (uQ (uE (α:=(Int×Int)) uD)))) (FX (tw_cm An (uy (uB d (uK 2 (um ul ui)))) ul))))
   (Ly (D':=(Bd C true)×(List RW)×Bg×Int×(OL (Int×Int))×Int×(OL Int)×Un×Un×Un×Unit) (ux (uz 7 yd.nd (uX (Ni 4 (pv 4) (uy (uB d (uK 2 (um (xm rfl B.len (vL 4)) ui)))) (λh=>U5 lm nZ n6 On (pv 4) h))))
   (uj (vc (uy (vr 0 g (um (JD (ss 7)) ui)))))))
   (uj (uZ (tw_cmL (Ds L.units) (vL 6) (vG (uQ (uE (α:=Int) uD))))
   (Ly (D':=(Bd C true)×(List RW)×Bg×Int×(OL (Int×Int))×Int×(OL Int)×Un×Un×Un×Unit) (ux (uz 8 yd.nd (uX (xW (vL 6) (uy (uB d (uK 2 (um (xm rfl B.len (vL 6)) ui)))))))
   (ux (uz 9 yd.nd (uX (xW (vG (Dn (zo (xW (vG (ss 1)) (ss 8))))) (uy (uB d (uK 2 (um (xm rfl B.len (vG (Dn (zo (xW (vG (ss 1)) (ss 8)))))) ui)))))))
   (ux (TL rfl (WR rfl a.m1 rfl a.m2 a.x1 a.x2) (Zi 0 x L ct.cl (λE1 Φ R=>(pv 0)) (λE1 Φ R=>(um (ss 9) (um (ss 8) ui)))) (λx' =>
   (uj (uz 8 yd.nd (uX (WK ul))))))
   (uj (uZ (tw_cm O7 (ss 8) ul)
   (uj<|vP 4<|v4 (ss 9)<|ss 8)
   uN))))))
   uN)))) q0q q0q)
   (uj (uC (JY rfl B.sorted (vL 4)))))))) λp Kn Ke h=>?_
 walk_at "wl"
 obtain⟨c0,v,S,n1,n2,tr,h⟩:=h;have sl:gk=16777216:=iB;refine#[by show p.2.1.length<1000;lia,by show (Ck p.2.1).length<=gk;have:=wZ p.2.1;lia,?_];refine vi (q:=λk=>!decide (eb p.2.1 k=[])) (λk hk K I=>?_) ?_
 ·obtain⟨y,n⟩:=Option.isSome_iff_exists.mp<|yc.mp hk;refine#[_,(uF n).2.2.2,y,rfl,?_];rw[wz n]at I;exact I
 dsimp only;refine#[q0a,?_];refine vf (λ(_:List Int) (b:B0 C×List RW×Bg×Int×OL (Int×Int)×WL.Un×OL Int×WL.Un×WL.Un×WL.Un×Unit)=>b.2.1=p.2.1/\b.2.2.2.2.2.2.1.l=(Ck p.2.1).filter (λk=>!decide (eb p.2.1 k=[]))/\yb b.1 p.2.1/\Arr b.1 b.2.2.2.2.1.l) _ #[rfl,rfl,c0,Uq (c0.okb v) n1 n2] ?_ ?_
 ·intro k r;refine Vm λM b2 b3 b4 J b6 N b8 b9 T U=>?_;rintro _ ⟨rfl,u,c,A⟩ K I;dsimp only at u c A ⊢;have al:=A.Uo c S;refine' cutP (G:=_) (λel=>?_) ?_
  rotate_left
  ·by_cases W:J.l=[]
   ·rw[gc (by simp[W]),gc gw];exact el
   ·rw[ga<|by simp[W]];refine vZ q0q q0q λz z0 z1=>?_;by_cases e8:z=8
    ·rw[ga<|decide_eq_true e8];have p5:0<J.l.length:=List.length_pos_iff.mpr W;refine vZ q0a q0a λi O X=>?_;obtain⟨y,a1,Y,P⟩:=xQ O X;exact#[O,y,Y,q0a,Q1 A c Y λw x' Z A'=>I _ #[rfl,u,Z,A']]
    ·rw[gc<|by simpa using e8];exact el
  ·by_cases q:N.l=[]
   ·rw[gc<|by simp[q]];exact I _ #[rfl,u,c,A]
   ·rw[ga<|by simp[q]];have l7:N.l.length<=35:=by rw[u];have:=gS (λk=>!decide (eb p.2.1 k=[]))<|Ck p.2.1;have:=wZ p.2.1;lia
    have p7:0<N.l.length:=List.length_pos_iff.mpr q;refine vZ q0a q0a λi O X=>?_;obtain⟨hg,a1,Y,P⟩:=xQ O X;rw[u,iz]at P;obtain⟨y,n⟩:=Option.isSome_iff_exists.mp<|yc.mp P.1;have yn:y.2≠[]:=λz=>by have:=P.2;rw[wz n,z]at this;simp at this
    have yl:y.2.length<=95:=by exact Q0 v n
    have py:0<y.2.length:=List.length_pos_iff.mpr yn;refine#[hg,a1,_,(uF n).2.2.2,y,rfl,_,(uF n).2.2.2,y,rfl,vZ q0a q0a λi' aa ab=>?_];obtain⟨lo,l1,l2,l3⟩:=xQ aa ab;refine#[lo,l1,Xj A c v S n l3 (λD hD=>#[hD,?_]) λx' Z A'=>?_]
    ·rw[gc<|λz=>gA (jr z) q0a];exact I _ #[rfl,u,c,A]
    ·rw[ga<|decide_eq_true (uF n).1];exact#[by show J.l.length<gk;lia,I _ #[rfl,u,Z,A']]
 ·refine Vm λM b2 b3 b4 J b6 N b8 b9 T U=>?_;rintro⟨rfl,u,c,A⟩;have c:yb M p.2.1:=c;have A:Arr M J.l:=A;have al:=A.Uo c S;refine#[by show J.l.length<64;lia,λps hp _=>h M ps c #[A.ok,A.nt,(hp.map _).trans A.pm,λe he=>A.hd e<|hp.mem_iff.mp he]]
noncomputable abbrev Hd:gR:=top 45
abbrev He:List Str:=["_law_bag_here","_law_most"]
def Bp:uq ["_law_bag_here","_law_most","_law_rows_here","_law_field","_law_arrows"] He (ug Hd):=by walk_at "sc"
abbrev UF(q:Cq)(C:cr)(k:Nat):=wu q "_law_house" He (Mj C) k
def Ri(F:Cf q "_law_house" Hd f D)(e:Mk q.K C g)(i:uO q.P q.w q.K q.mg q.base (uW q.P q.w) 8 g b ["self"] (CN C))(k:Binds q.K b ["self"] [])(d:q.mg "Field"=↑(.ref C))(l:Xn q 9)(m:Xo q C 9)(o:Xp q C 9)(r:wu q "_law_pull" ["_law_bag_here","_law_many"] xP 9)(B:Bn q.mg):Gq q 10 f D He (Mj C):=by
 refine' uv (vU (D':=Unit) (ms:=[0]) (j:=3) F Bp rfl rfl λG A u s H E I =>
   (ux (uz 2 Bp.nd (uB l (uK 0 (um (ss 1) ui))))
   (ux (uz 3 Bp.nd (uB m (S9 (P0 e i I rfl d k Dk) (uY 2 ui))))
   (ux (uz 4 Bp.nd (uB o (uK 3 (uY 2 (uK 0 (um (uy (uB r (uK 0 (um (zS Aw (OY Ax ul (xm rfl B.len (vL 2))) ul) ui)))) ui))))))
   (uj (TC 3 2 4 (pv 3) (pv 2) (pv 4))))))) λp Q R h=>?_
 walk_at "wl"
 obtain⟨J,h⟩:=h;refine#[J,λt v y=>?_];refine#[rfl,v,λx c L M=>?_];dsimp only;refine#[.inl q0q,vZ (n:=2*(t.length:Int)+1) q0a q0a λz S T=>?_];exact#[c,v,y,L,M,by show 0<=z/\z<=1000;lia,λN a O A=>h N t a O v y A]
noncomputable abbrev Ec:gR:=top 46
noncomputable abbrev Ed:List Str:=["_law_arrows"]
def ND:uq ["_law_arrows"] Ed (ug Ec):=by walk_at "sc"
def Ee:(["_law_low","_law_high"]:List Str).Nodup:=by decide +kernel
abbrev Rj(q:Cq)(k:Nat):=wu q "_law_tails" Ed Ea k
def NE(F:Cf q "_law_tails" Ec f l):Gq q 2 f l Ed Ea:=by
 refine' uv (vU (D':=Unit) (ms:=[]) (j:=0) F ND rfl rfl λm A c s H E o =>
   (uj (uC (v7 (Ts:=["_law_low","_law_high"]) (Fr:=[]) (idx:=[]) (k:=2) (mb:=[]) (is:=[]) (cl:=[]) rfl (vw (ss 0)) XJ rfl (vQ rfl) (λa b C d g=>(A6 0 1 (Bw rfl (vN (uw (i:=0) Ee) (vN (uw (i:=1) Ee) zO))) q0q q0q)) (λa b C d g=>tws_nil) (λa b C d g=>(ss 0)))))) λp r t h=>?_
 walk_at "wl"
 obtain⟨u,h⟩:=h;have v:gk=16777216:=iB;refine#[q0a,?_];refine vo (f:=λ(e:Int×Int)=>↑e.1) (λe w K n=>n) ?_;rw[og];exact h
noncomputable abbrev Hf:gR:=top 47
abbrev Hg:List Str:=["_law_arrows"]
def Rl:uq ["_law_arrows"] Hg (ug Hf):=by walk_at "sc"
def Fw:(["_law_low","_law_high"]:List Str).Nodup:=by decide +kernel
abbrev UG(q:Cq)(k:Nat):=wu q "_law_heads" Hg GZ k
def Rm(F:Cf q "_law_heads" Hf f l)(B:Bn q.mg):Gq q 2 f l Hg GZ:=by
 refine' uv (vU (D':=Unit) (ms:=[]) (j:=0) F Rl rfl rfl λm A c s H E r =>
   (uj (uC (BI rfl B.sorted (vG (uQ (v7 (Ts:=["_law_low","_law_high"]) (Fr:=[]) (idx:=[]) (k:=2) (mb:=[]) (is:=[]) (cl:=[]) rfl (vw (ss 0)) XJ rfl (vQ rfl) (λa b C d g=>(A6 0 1 (Bw rfl (vN (uw (i:=0) Fw) (vN (uw (i:=1) Fw) zO))) q0q q0q)) (λa b C d g=>tws_nil) (λa b C d g=>(ss 1))))))))) λp t u h=>?_
 walk_at "wl"
 obtain⟨n,h⟩:=h;have v:gk=16777216:=iB;refine#[q0a,?_];refine vo (f:=λ(e:Int×Int)=>↑e.2) (λe w K o=>o) ?_;rw[og];exact#[by rw[gm];exact n,h]
noncomputable abbrev KR:gR:=top 48
noncomputable abbrev KS:List Str:=["_law_rows_here","_law_arrows"]
def Mm:uq ["_law_rows_here","_law_arrows","_law_bound"] KS (ug KR):=by walk_at "sc"
def Rn:(["_law_k","_law_bound"]:List Str).Nodup:=by decide +kernel
abbrev Xq(q:Cq)(k:Nat):=wu q "_law_lone" KS Ks k
def UH(F:Cf q "_law_lone" KR f o)(a:Rj q 2)(b:UG q 2)(c:G4 q 2):Gq q 3 f o KS Ks:=by
 refine' uv (vU (D':=Unit) (ms:=[]) (j:=1) F Mm rfl rfl λr A g s H E i =>
   (ux (uz 2 Mm.nd (AD (vG (uQ (uB a (um (ss 1) ui)))) (vG (uQ (uB b (um (ss 1) ui))))) (hx:=tX rfl))
   (uj (uC (v7 (Ts:=["_law_k"]) (Fr:=["_law_bound"]) (idx:=[2]) (k:=1) (mb:=[1]) (is:=[]) (cl:=[("_law_bound",⇑s+1)]) rfl (vw (uQ (uB c (um (ss 0) ui)))) P1 rfl (vQ rfl) (λd e C l m=>(uG 0 (uw Rn))) (λd e C l m=>(tws_one (tw_cmI Dt (ss 0) (vL 1) (by with_unfolding_all rfl)))) (λd e C l m=>(ss 0))))))) λp v w h=>?_
 walk_at "wl"
 obtain⟨i,n,t⟩:=h;have x:gk=16777216:=iB;have y:(p.2.1.map (·.1)).length=p.2.1.length:=gm _;have z:(AE (p.2.1.map (·.2))).length=p.2.1.length:=by rw[(vO _).length_eq,gm]
 have B:=wZ p.1;refine#[n,n,?_];refine#[by show (p.2.1.map (·.1)).length+(AE (p.2.1.map (·.2))).length<=gk;lia,i,?_];exact#[by show (Ck p.1).length<=gk;lia,vi (q:=λk=>!decide (k∈p.2.1.map (·.1)++AE (p.2.1.map (·.2)))) (λk _ K u=>u) t]
noncomputable abbrev Ro:gR:=top 51
abbrev Rp:List Str:=["_law_found"]
def Rq:uq ["_law_found","_law_k"] Rp (ug Ro):=by walk_at "sc"
abbrev Zz(q:Cq)(k:Nat):=wu q "_law_sum" Rp w_sum k
def Xr(F:Cf q "_law_sum" Ro f m)(c:Vt q 3)(B:Bn q.mg):Gq q 4 f m Rp w_sum:=by
 refine' uv (vU (D':=Unit) (ms:=[]) (j:=1) F Rq rfl rfl λn A d s H E i =>
   (ux (uZ (tw_not (tw_val (uy (uB c (um (ss 0) ui)))))
   (uj<|uC<|uX Dm)
   uN)
   (ux (vY (is:=[]) (mb:=[]) (D1:=(List Int)×Int×Unit) (D2:=(List Int)×Int×Unit) (uJ q0q) yf rfl (M5 rfl B.range ul (xm rfl B.len (vG (ss 0))) (λh=>Mw rfl B.range h)) (uG 1 (uw Rq.nd))
   (uj (uZ (tw_cm O7 (xW (vG (ss 0)) (zS FC (ss 1) ul)) (xW (vG (ss 0)) (ss 1)))
   (uj<|uC<|uX Dm)
   uN)) q0q q0q)
   (uj (uC (uX Dm)))))) λp x y h=>?_
 walk_at "wl"
 obtain⟨i,z,e⟩:=h;refine Xi ?_;rw[gc q0q];refine#[#[q0q,q0q,q0a,q0a],?_];refine vf (λ(r:List Int)(b:List Int×WL.Un×Unit)=>b.1=p.1/\∀k∈r,1<=k/\k<p.1.length) (xS 1 p.1.length) #[rfl,λk e=>QZ e] ?_ ?_
 ·rintro k r ⟨D,G⟩ _ ⟨l,g⟩ K o;dsimp only at l ⊢;subst l;obtain⟨a,b,t,u,v⟩:=Xh i (g k gh).1 (g k gh).2;refine#[a,t,b,u,?_];rw[gc<|by simpa using v];exact o _ ⟨rfl,λj w=>g j<|gl _ w⟩
 ·exact λ_ _=>e
noncomputable abbrev Ef:gR:=top 52
noncomputable abbrev Eg:List Str:=["_law_row_here","_law_keep"]
def NF:uq ["_law_row_here","_law_keep"] Eg (ug Ef):=by walk_at "sc"
def KU:(["_law_x","_law_keep"]:List Str).Nodup:=by decide +kernel
abbrev Rr(q:Cq)(k:Nat):=wu q "_law_parted" Eg Eb k
def NG(F:Cf q "_law_parted" Ef f g):Gq q 2 f g Eg Eb:=by
 refine' uv (vU (D':=Unit) (ms:=[]) (j:=0) F NF rfl rfl λi A c s H E o =>
   (uj (uC (v7 (Ts:=["_law_x"]) (Fr:=["_law_keep"]) (idx:=[1]) (k:=1) (mb:=[1]) (is:=[]) (cl:=[("_law_keep",⇑s+1)]) rfl (vw (ss 0)) P1 rfl (vQ rfl) (λa b C d e=>(uG 0 (uw KU))) (λa b C d e=>(tws_one (tw_cmI Vj (ss 0) (vG (ss 1)) (by with_unfolding_all rfl)))) (λa b C d e=>(ss 0)))))) λp r t h=>?_
 walk_at "wl"
 obtain⟨l,m⟩:=h;exact#[vd l,vi (q:=λk=>decide<|k∈p.2.1) (λk _ K n=>n) m]
end
noncomputable abbrev Rs:gR:=top 33
def Xs{K:f9}{p:Y4 K×Unit}{a:Bg->WL.Un×Unit->Prop}{b:cr->WL.Un×Unit->Prop}(k:a #[] (#[],())):PP K p a b:=k
section
variable{C:cr}{x:B0 C}{rows:List RW}{a:List (Int×Int)}
def Arr.tail(A:Arr x a){k:Int}:k∈a.map (·.1)↔k∈vj x:=A.pm.mem_iff
def Arr.hdm(A:Arr x a){k:Int}(h:∃t∈vj x,vA x t=k):k∈a.map (·.2):=by obtain⟨t,m,e⟩:=h;obtain⟨b,c,q⟩:=List.mem_map.mp<|A.tail.mpr m;refine List.mem_map.mpr #[b,c,?_];rw[<- e,<- q];exact(A.hd b c).symm
def Arr.ZA(A:Arr x a){k:Int}(h:k∈a.map (·.2)):∃t∈vj x,vA x t=k:=by obtain⟨e,b,rfl⟩:=List.mem_map.mp h;exact#[e.1,A.mem b,A.hd e b]
def xD(A:Arr x a){k:Int}:k∈G0 rows a↔(rowAt rows k).isSome=true/\k∉vj x/\k∉a.map (·.2):=by unfold G0;rw[iz,yc,tS,decide_eq_false_iff_not,ko,xY,A.tail,oY]
def UI:(G0 rows a).length<=rows.length:=gW (gS _ _)<|wZ rows
def Rt(A:Arr x a){k:Int}(h:k∈G0 rows a):vR x k=false:=by
 have h:=(xD A).mp h;unfold vR;rw[LY h.2.1]
 cases e:lk x.th k with
 |none=>rfl
 |some l =>
  have b:=A.ok.th l k e;exact gA (A.hdm #[l,yS (by rw[b];rfl),by unfold vA;rw[b];rfl]) h.2.2
def NH(A:Arr x a){k:Int}(h:k∈a.map (·.2)):k∉vj x:=λz=>by obtain⟨t,m,e⟩:=A.ZA h;refine A.ok.one k (wG z) ?_;rw[<- e,(A.ok.ht t _<|vS m).2.2.2];rfl
def Eh(A:Arr x a)(c:yb x rows){k:Int}(h:k∈a.map (·.2)):(rowAt rows k).isSome=true:=by obtain⟨t,m,e⟩:=A.ZA h;have:=A.ok.FT m;rw[e,c.rk,hZ]at this;exact this
structure Up{C:cr}(x:B0 C)(rows:List RW)(a:List (Int×Int))(l f:List Int):Prop where
 A:Arr x a
 c:yb x rows
 v:Vr rows
 ln:rows.length<=35
 ri:v8 l
 ll:∀k∈l,k∈G0 rows a
 fl:∃h,f=xr l h/\Fl x (uI (vK x) l) h
def Ru(A:Arr x a)(c:yb x rows)(v:Vr rows)(r:rows.length<=35)(o:v8 l)(n:∀k∈l,k∈G0 rows a)(k:∀f,Up x rows a l f->Kn #[f] (x,#[],())):w_up C (x,l,()) Kn Ke:=by
 have g:∀k∈l,(rowAt rows k).isSome=true:=λk e=>((xD A).mp<|n k e).1
 have p:∀{k:Int},(rowAt rows k).isSome=true->0<=k/\k<63:=λ{k} h=>by obtain⟨y,b⟩:=Option.isSome_iff_exists.mp h;have:=uF b;exact#[this.1,by have:=this.2.1;omega]
 refine#[#[A.ok,#[o,λk e=>p<|g k e],c.vn g,λk e=>Rt A<|n k e,c.vn λd i=>?_,λd i=>p<|by rw[c.rk,hZ]at i;exact i],λh f=>k _ #[A,c,v,r,o,n,h,rfl,f]];obtain⟨j,m,q⟩:=yx (λj m=>by rw[c.vK];obtain⟨y,b⟩:=Option.isSome_iff_exists.mp<|g j m;rw[wz b];exact ut (v.II b).1) i;obtain⟨y,b⟩:=Option.isSome_iff_exists.mp<|g j m;rw[c.vK,wz b]at q;obtain⟨_,t,s⟩:=(v.ok j y.1 y.2 b).2.2.2.1 d q;rw[s];rfl
namespace Up
variable{l f:List Int}(s:Up x rows a l f)
include s
def Z7:v8 f:=by obtain⟨h,e,_⟩:=s.fl;rw[e];exact wD s.ri
def mem{k:Int}(h:k∈f):k∈l\/k∈a.map (·.2):=by obtain⟨b,e,g⟩:=s.fl;rw[e]at h;exact(F9 (ut g.ri) h).imp id λz=>s.A.hdm<|g.hs k z
def st{k:Int}(h:k∈f):(rowAt rows k).isSome=true:=(s.mem h).elim (λz=>((xD s.A).mp<|s.ll k z).1) λz=>Eh s.A s.c z
def nt{k:Int}(h:k∈f):k∉vj x:=(s.mem h).elim (λz=>((xD s.A).mp<|s.ll k z).2.1) λz=>NH s.A z
def low{k:Int}:k∈f/\k∈G0 rows a↔k∈l:=by refine#[λh=>(s.mem h.1).elim id λz=>gA z ((xD s.A).mp h.2).2.2,λh=>#[?_,s.ll k h]];obtain⟨b,e,g⟩:=s.fl;rw[e];exact(yg<|ut g.ri).mpr ⟨λ_ z=>((xD s.A).mp<|s.ll k h).2.2<|s.A.hdm<|g.hs k z,λ_=>h⟩
def len:f.length<=35:=by have:=vJ s.Z7 λk b=>yc.mpr<|s.st b;have:=wZ rows;have:=s.ln;omega
def nf{k:Int}(h:(rowAt rows k).isSome=true):(vK x k).Nodup:=by obtain⟨y,b⟩:=Option.isSome_iff_exists.mp h;rw[s.c.vK,wz b];exact ut (s.v.II b).1
def ed{t:Int}(b:t∈vj x):t∉uI (eb rows) f:=by obtain⟨h,e,g⟩:=s.fl;rw[<- vE λk _=>s.c.vK k,e,zZ s.ri g.ri (λk d=>s.nf ((xD s.A).mp<|s.ll k d).1)<|L9 s.A.ok g.hs];exact g.nt t b
def more(i:v8 m)(j:∀k∈m,k∈a.map (·.2)):(∀t∈vj x,t∉uI (eb rows) (xr f m))↔m=[]:=by refine#[λh=>?_,λh=>by subst h;exact λt d=>s.ed d];obtain⟨n,e,g⟩:=s.fl;refine Ma s.A.ok g.od i (λk b=>s.A.ZA<|j k b) λt d=>qo ?_;have q:=gH<|h t d;rw[<- vE λk _=>s.c.vK k,zZ s.Z7 i (λk b=>s.nf<|s.st b)<|λk b=>s.nf<|Eh s.A s.c<|j k b,DX<|vk _ _,vE λk _=>s.c.vK k,gH<|s.ed d,oS]at q;exact q
def part:(f.filter λk=>decide<|k∈G0 rows a)=l:=CJ (iF _ s.Z7) s.ri λk=>by rw[iz,hV];exact s.low
end Up
def Vu(v:Vr rows)(e:∀k∈g,(rowAt rows k).isSome=true){d:Int}(f:d∈uI (eb rows) g):(rowAt rows d).isSome=true:=by obtain⟨c,m,q⟩:=yx (λc m=>by obtain⟨y,b⟩:=Option.isSome_iff_exists.mp<|e c m;rw[wz b];exact ut (v.II b).1) f;obtain⟨y,b⟩:=Option.isSome_iff_exists.mp<|e c m;rw[wz b]at q;obtain⟨_,i,h⟩:=(v.ok c y.1 y.2 b).2.2.2.1 d q;rw[h];rfl
def Xt(v:Vr rows)(b:∀k∈g,(rowAt rows k).isSome=true):(uI (eb rows) g).length<=rows.length:=gW (vJ (vk _ _) λd c=>yc.mpr<|Vu v b c)<|wZ rows
def Rv(c:rows.length<=35){k:Int}(h:(rowAt rows k).isSome=true):k∈xS 0 35:=by obtain⟨y,b⟩:=Option.isSome_iff_exists.mp h;have:=uF b;exact yR this.1 (by have:=this.2.1;omega)
end
def XU{l k:List Int}(h:∀c∈l,c∉k):(l.filter λc=>decide<|c∈k)=[]:=List.filter_eq_nil_iff.mpr λc a z=>h c a<|jr z
def NI{l k:List Int}(h:∀c∈l,c∈k):(l.filter λc=>decide<|c∈k)=l:=List.filter_eq_self.mpr λc a=>decide_eq_true<|h c a
section
variable{C:cr}{x:B0 C}{rows:List RW}{a:List (Int×Int)}{l g:List Int}{Kb:Bool->WL.Un×Unit->Prop}{K1:OL Int->WL.Un×Unit->Prop}{K2:OL Int->WL.Un×WL.Un×Unit->Prop}{E1:cr->WL.Un×Unit->Prop}{E2:cr->WL.Un×WL.Un×Unit->Prop}
def ZB{c:Bool}{P Q:Prop}(h:c=false)(k:Q):if c=true then P else Q:=by rw[gc<|by rw[h];decide];exact k
def a1y:(!decide (([]:List Int)=[]))=false:=rfl
def ZC:(!decide (l=l))=false:=by rw[decide_eq_true rfl];rfl
def Xu(h:v8 l)(n:l.length<=35)(k:Kb true (#[],())):w_sum (l,()) Kb E1:=#[h,gW n q0q,k]
def UJ(n:l.length<=35)(e:(l.filter λc=>decide<|c∈g)=r)(k:K2 #[r] (#[],#[],())):Eb (l,g,()) K2 E2:=#[gW n q0q,by rw[<- e]at k;exact k]
def Rx(n:rows.length<=35)(k:K1 #[Ck rows] (#[],())):Kk (rows,()) K1 E1:=#[i8 n q0q,k]
def Ry(v:Vr rows)(h:∀c∈l,(rowAt rows c).isSome=true)(k:K2 #[uI (eb rows) l] (#[],#[],())):Km (rows,l,()) K2 E2:=#[v,h,k]
def UK(n:rows.length<=35)(m:a.length<=35)(k:K2 #[G0 rows a] (#[],#[],())):Ks (rows,a,()) K2 E2:=#[i8 n q0q,i8 m q0q,k]
def ZD(m:a.length<=35)(k:K1 #[a.map (·.1)] (#[],())):Ea (a,()) K1 E1:=#[i8 m q0q,k]
def ZE(m:a.length<=35)(k:K1 #[AE (a.map (·.2))] (#[],())):GZ (a,()) K1 E1:=#[i8 m q0q,k]
def Rz{b:Bg}{K2:OL Int->Bg×WL.Un×Unit->Prop}{E2:cr->Bg×WL.Un×Unit->Prop}(n:l.length<=35)(k:∀m,v8 m->(∀x∈m,x∈l)->K2 #[m] (#[],#[],())):Kl (b,l,()) K2 E2:=#[i8 n q0q,k]
def Z8(n:rows.length<=35)(c:v8 l)(d:v8 g)(e:∀k∈l,(rowAt rows k).isSome=true)(f:∀k∈g,(rowAt rows k).isSome=true)(k:K2 #[xr l g] (#[],#[],())):GU (l,g,()) K2 E2 :=
 #[Kq c d (λk b=>Rv n<|e k b)<|λk b=>Rv n<|f k b,by rw[<- Px c d]at k;exact k]
def Z9(m:a.length<=35):(AE (a.map (·.2))).length<=35:=by rw[(vO _).length_eq,gm];exact m
def Arr.len(A:Arr x a)(c:yb x rows)(n:rows.length<=35):a.length<=35:=by have:=A.Uo c n;lia
def KW(v:Vr rows){a:List Int}(i:∀k∈a,(rowAt rows k).isSome=true):(∀k∈uI (eb rows) a,(rowAt rows k).isSome=true)/\uI (eb rows) (uI (eb rows) a)=[]/\∀k∈a,v8 (eb rows k):=by
 have ed:∀k∈a,∃y,rowAt rows k=↑y:=λk e=>Option.isSome_iff_exists.mp<|i k e
 have f:∀k∈a,v8 (eb rows k):=λk e=>by obtain⟨y,b⟩:=ed k e;rw[wz b];exact(v.II b).1
 refine#[λk e=>?_,Fa λk e=>#[f k e,λd hd=>?_,?_],f]
 ·obtain⟨d,hd,h⟩:=yx (λc j=>ut<|f c j) e;obtain⟨y,b⟩:=ed d hd;rw[wz b]at h;obtain⟨m,q⟩:=((v.ok d y.1 y.2 b).2.2.2.1 k h).2;rw[q];rfl
 ·obtain⟨y,b⟩:=ed k e;rw[wz b]at hd;obtain⟨m,q⟩:=((v.ok k y.1 y.2 b).2.2.2.1 d hd).2;rw[wz q];exact ut (v.II q).1
 ·obtain⟨y,b⟩:=ed k e;rw[wz b];exact(v.ok k y.1 y.2 b).2.2.2.2
def Up.Z6(s:Up x rows a l f)(t:Up x rows a l g):f=g:=by obtain⟨h,e,u⟩:=s.fl;obtain⟨d,b,c⟩:=t.fl;rw[e,b,Fl.Z6 s.A.ok u c]
def Up.bst(s:Up x rows a l f){k:Int}(h:k∈uI (eb rows) f):(rowAt rows k).isSome=true:=Vu s.v (λc d=>s.st d) h
/-- the slim b -/
noncomputable def XW(rows:List RW)(a:List (Int×Int))(f:List Int):List Int:=(uI (eb rows) f).filter λk=>decide<|k∈G0 rows a
def Xv(A:Arr x a){k:Int}(h:(rowAt rows k).isSome=true):(!vR x k)=decide (k∈G0 rows a):=by
 by_cases q:k∈G0 rows a
 ·rw[Rt A q,decide_eq_true q];rfl
 ·rw[gH q]
  cases e:vR x k with
  |true=>rfl
  |false =>
   refine gA ((xD A).mpr #[h,λz=>?_,λz=>?_]) q
   ·unfold vR at e;rw[wG z]at e;cases e
   ·obtain⟨t,m,b⟩:=A.ZA z;unfold vR at e;rw[<- b,(A.ok.ht t _<|vS m).2.2.2]at e;simp at e
def UL(A:Arr x a)(c:yb x rows)(v:Vr rows)(j:rows.length<=35)(m:v8 l)(n:∀k∈l,k∈G0 rows a)(k:∀f,Up x rows a l f->i #[XW rows a f] (x,#[],())):yh C (x,l,()) i q:=by
 have u:=Ru (Kn:=λf p=>Up x rows a l f.l) (Ke:=λ_ _=>True) A c v j m n λf s=>s;refine#[u.1,λh o=>?_];have s:Up x rows a l (xr l h):=u.2 h o;have e:uI (vK x) (xr l h)=uI (eb rows) (xr l h):=vE λk _=>c.vK k;refine#[#[c.vn λk d=>s.st d,?_],?_]
 ·have:=Xt v (g:=xr l h) λk d=>s.st d;show (uI (vK x)<|xr l h).length<=1000;rw[e];omega
 ·show i #[(uI (vK x)<|xr l h).filter λk=>!vR x k] (x,#[],());rw[e,lP λk d=>Xv A<|s.bst d];exact k _ s
/-- up of the slim b is the b of up -/
def Up.slim(s:Up x rows a l f)(t:Up x rows a (XW rows a f) g):g=uI (eb rows) f:=by
 have st:∀k∈f,(rowAt rows k).isSome=true:=λk b=>s.st b;have bs:=KW s.v st
 let hd:=(uI (eb rows) f).filter λk=>!decide (k∈G0 rows a)
 have h:v8 (XW rows a f):=iF _<|vk _ _;have d:v8 hd:=iF _<|vk _ _
 have e:xr (XW rows a f) hd=uI (eb rows) f:=zu (wD h) (vk _ _) λk=>by rw[DX d];show xor (decide<|k∈(uI (eb rows) f).filter λk=>decide<|k∈G0 rows a) (decide<|k∈(uI (eb rows) f).filter λk=>!decide (k∈G0 rows a))=_;by_cases p:k∈uI (eb rows) f<;>by_cases q:k∈G0 rows a<;>simp[iz,p,q]
 have i:∀k∈hd,k∈a.map (·.2):=λk b=>by
  have b:=List.mem_filter.mp b;have nl:k∉G0 rows a:=λz=>by have:=b.2;rw[decide_eq_true z]at this;cases this
  refine Decidable.byContradiction λz=>nl<|(xD s.A).mpr ⟨s.bst b.1,λy=>s.ed y b.1,z⟩
 obtain⟨n,j,u⟩:=t.fl;have m:∀k∈XW rows a f,(rowAt rows k).isSome=true:=λk b=>s.bst (List.mem_filter.mp b).1
 have F:Fl x (uI (vK x) (XW rows a f)) hd:=#[d,λk b=>s.A.ZA (i k b),λy o=>by
  rw[<- zZ h d (λk b=>s.nf<|m k b) (λk b=>s.nf<|Eh s.A s.c<|i k b),e,vE λk _=>s.c.vK k,bs.2.1]
  exact iv,u.od]
 rw[j,Fl.Z6 s.A.ok u F,e]
end
section
variable{q:Cq}{C XC XS XO XB XP XV W4 XF XT XN XR XL:cr}
noncomputable abbrev Bq:gR:=top 54
def AG:uq ["_law_script","_law_bag_here","_law_field","_law_rows_here","_law_arrows","_law_row_here","_law_raised"] ["_law_script"] (ug Bq):=by walk_at "sc"
def Xw{f:cr}{J:hO}(F:Cf q "law" Bq f J)(z:wu q "_law_bag" ["_law_script"] (PP q.K) 10)(m:UF q C 10)(n:Q5 q 10)(o:Xq q 10)(y:Zu q C 10)(B:Zz q 10)(e:Rr q 10)(r:G4 q 10)(u:Xm q 10)(b:EF q C 10)(w:Q6 q 10):Gq q 11 f J ["_law_script"] (Vo q.K):=by
  refine' uv (vU (D':=Unit) (ms:=[]) (j:=6) F AG rfl rfl λP A G s H E Q =>
      (ux (uz 1 AG.nd (uB z (um (ss 0) ui)))
      (ux (TF 2 3 4 (Bw rfl (vN (uw (i:=2) AG.nd rfl (lU rfl)) (vN (uw (i:=3) AG.nd rfl (lU rfl)) (vN (uw (i:=4) AG.nd rfl (lU rfl)) zO)))) q0q q0q q0q (uB m (uK 1 (um ul ui))))
      (ux (uz 5 AG.nd (uB n (uK 1 (um (uQ (uB o (uY 3 (uY 4 ui)))) ui))))
      (ux (uz 6 AG.nd (uB y (uK 2 (uY 5 ui))))
      (ux (uZ (tw_w (O9 (tw_not (tw_val (uy (uB B (uY 6 ui))))) (JF (tw_cmL (Ds Q.units) (vG (uQ (uB e (uY 6 (um (uQ (uB r (uY 3 ui))) ui))))) (vL 6) (xk _)))))
      (uj<|uC<|uX Dm)
      uN)
      (Tu (w':=λ(d:(Y4 q.K)×Bg×(Bd C true)×(OL (Option (Int×(List Int))))×(OL (Int×Int))×(OL Int)×(OL Int)×Unit) (_:Unit->Prop) (L:Bool->Un×Unit->Prop) (_:cr->Un×Unit->Prop)=>Up d.2.2.1 d.2.2.2.1.l d.2.2.2.2.1.l d.2.2.2.2.2.1.l d.2.2.2.2.2.2.1.l/\L true (#[],())) (uj (uC (uB u (um (uQ (uB y (uK 2 (um (uQ (uB b (uK 2 (uY 5 ui)))) ui)))) (um (uQ (uB w (uY 3 (uY 6 ui)))) ui))))) (by
   intro d M L R h
   walk_at "wl"
   obtain⟨s,k⟩:=h
   refine UL s.A s.c s.v s.ln s.ri s.ll λf N=>?_
   refine Ru s.A s.c s.v s.ln (iF _<|vk _ _) (λk S=>jr (List.mem_filter.mp S).2) λg t=>?_
   refine Ry s.v (λc I=>s.st I)<|Ul ?_ k
   rw[N.slim t,N.Z6 s]
)))))))) λp M R h=>?_
  walk_at "wl"
  have h:M true (#[],()):=h
  refine Xs ?_
  refine#[#[q0q,q0q],λx O a c v D A=>?_]
  have T:=A.len c D
  exact UK D T<|Rz (gW UI D) λl U W=>Ru A c v D U W λf s=>Xu s.Z7 s.len<|ZB rfl<|Rx D<|UJ s.len (NI λc I=>yc.mpr<|s.st I)<|ZB ZC #[s,h]
end
section
variable{P:gV}{w:ii}{K:f9}{mg:Str->Option ci}{base:hX}
def RA:uq ["_law_bag_here","_law_many","_law_seed","_law_mixed","_law_drawn"] ["_law_bag_here","_law_many"] (ug Kj):=#[rfl,rfl,rfl,q0s,rfl,q0s,q0s]
def UM(F:yk K "_law_pull" "_law_pull" Kj f I)(c:mg "len"=none):uO P w K mg base Oz 1 f I ["_law_bag_here","_law_many"] WL.Pm:=by
 refine F.ok RA (λJ H Q E h=>?_)<|λL A p s H J Q E N h=>?_
 ·obtain⟨g,q,m,i,z,s,e,rfl,_⟩:=h;rfl
 ·obtain⟨g,q,m,i,z,j,e,rfl,B,d,v,k⟩:=h;have l:=RA.nd
  refine#[_,vB (K9 (wW UZ (xq v0 (pv 0) uH (λ_ _=>rfl)) uH (xk _))
    (vB (RT (pv 0) uH OJ uH NX set_list)
    (vB (zd (i:=2) l rfl (lU rfl) (xq v0 (pv 0) uH (λ_ _=>rfl)))
    (vB (K9 (wW UZ (xq v0 (pv 0) uH (λ_ _=>rfl)) (wj xv (by rfl) c mO (ur (xq v0 (pv 0) uH (λ_ _=>rfl)) uA)) (xk _))
     (wV (zd (i:=2) l rfl (lU rfl) (xq v0 (xq v0 (pv 0) uH (λ_ _=>rfl)) (wg FC (xq v0 (pv 0) uH (λ_ _=>rfl)) uH) (λ_ _=>rfl)))) yG)
    (vB (K9 (UT (wW U0 (xq v0 (pv 0) uH (λ_ _=>rfl)) (wj xv (by rfl) c mO (ur (xq v0 (pv 0) uH (λ_ _=>rfl)) uA)) (xk _)) (NT (wW UY (pv 2) (wg VU uH uH) (xk _)))).pt
     (vB (zd (i:=3) l rfl (lU rfl) (wg Bx (wg Aw (wg Aw (wg Ax (pv 2) uH) (wg Ax (xq v0 (pv 0) uH (λ_ _=>rfl)) uH)) uH) uH))
     (vB (zd (i:=3) l rfl (lU rfl) (wg Bx (wg Ax (pv 3) (pv 3)) uH))
     (wV (Bv (wg Bx (wg La (wg Bx (wg Ax (wg Aw (pv 3) (xq v0 (pv 0) uH (λ_ _=>rfl))) uH) uH) uH) (pv 1)))))) yG)
    (wV (IV (pv 2) (NW (pv 0) uH set_list))))))) yG)
   (vB (zd (i:=4) l rfl (lU rfl) (wg Bx (xq v0 (pv 0) uH (λ_ _=>rfl)) (pv 1)))
   (vB (IV (wg La (xq v0 (pv 0) uH (λ_ _=>rfl)) (pv 1)) (NW (pv 0) uH set_list))
   (wV (Bv (pv 4))))),?_]
  refine#[_,rfl,g,_,_,_,rfl,rfl,vF.of B.ob,Pl _ _ _ _,_,_,rfl,rfl,_,rfl,?_];refine Sk (λ_=>?_)<|λ_=>?_
  ·-- r[1] += 1;x=r[3]
   refine#[_,rfl,g,_,_,_,rfl,rfl,B.ob,q0q,rfl,_,_,rfl,rfl,g,_,_,1,rfl,rfl,B.ob,rfl,?_];have a:Ce (upd H g<|.lst<|Ex q (i+1) z j) g q m (i+1) z j:=B.put (by have:=B.i0;lia);refine⟨_,rfl,g,_,_,_,rfl,rfl,vF.of a.ob,a1b _ _ _ _,?_⟩;refine⟨_,rfl,g,_,_,_,rfl,rfl,vF.of a.ob,Pk _ _ _ _,_,rfl,g,_,_,_,rfl,rfl,vF.of a.ob,WI _ _ _ _,q,_,rfl,.inl<|vF.of a.sc,_,_,rfl,rfl,_,rfl,?_⟩;have b:=a;refine' cutG (α:=Int) (G:=_) (λy=>Sk (λC=>?_)<|λC=>?_) ?_
   rotate_left
   ·have t:i+1<=((m.map V.int).length:Int):=jr C;rw[gm]at t;obtain⟨n,M⟩:=S8 (ns:=m) (i:=i+1-1) (by have:=B.i0;lia) q0a;refine#[_,rfl,g,_,_,_,rfl,rfl,vF.of a.ob,WI _ _ _ _,_,rfl,g,_,_,_,rfl,rfl,vF.of a.ob,Pk _ _ _ _,_,_,rfl,rfl,q,_,_,_,rfl,rfl,vF.of a.sc,M,?_];exact y n
   ·exact y j
   ·intro n;refine#[_,rfl,g,_,_,_,rfl,rfl,vF.of a.ob,Pk _ _ _ _,_,rfl,g,_,_,_,rfl,rfl,vF.of a.ob,WI _ _ _ _,q,_,rfl,.inl<|vF.of a.sc,_,_,rfl,rfl,_,rfl,?_];refine' cutP (G:=_) (λD=>Sk (λ_=>a0K D)<|λ_=>?_) ?_
    ·refine#[_,rfl,_,_,rfl,rfl,#[q0q,q0q,q0q],_,_,rfl,rfl,_,rfl,?_];refine Sk (λ_=>D)<|λ_=>?_;refine#[_,rfl,_,rfl,g,_,_,2,rfl,rfl,a.ob,rfl,?_];have b:=a.put (z':=n) a.i0;have u:=(Kp.at (g:=g) (H:=H) (o:=.lst<|Ex q (i+1) z j)).trans<|Kp.at (o:=.lst<|Ex q (i+1) n j);refine#[_,rfl,g,_,_,_,rfl,rfl,vF.of b.ob,Pl _ _ _ _,_,rfl,_,_,rfl,rfl,d,?_];refine#[_,rfl,g,_,_,_,rfl,rfl,vF.of b.ob,Pl _ _ _ _,_,rfl,_,_,rfl,rfl,#[d,v],_,rfl,g,_,_,2,rfl,rfl,b.ob,rfl,?_];exact#[_,rfl,k _ _ _ _ (u.trans Kp.at) (b.put b.i0) (qH _ q0a)<|pK _ d]
    ·refine#[_,rfl,_,_,rfl,rfl,.inr #[q0q,q0q],_,rfl,g,_,_,_,rfl,rfl,vF.of a.ob,Pk _ _ _ _,_,_,rfl,rfl,.inr #[q0q,q0q],_,_,rfl,rfl,_,_,rfl,rfl,_,_,rfl,rfl,(by show (0:Int)<2147483647;decide),?_];refine#[_,rfl,_,rfl,_,_,rfl,rfl,.inl<|YO _,_,_,rfl,rfl,(by show (0:Int)<2147483629;decide),?_];refine#[_,rfl,_,rfl,g,_,_,_,rfl,rfl,vF.of a.ob,Pk _ _ _ _,_,_,rfl,rfl,_,_,rfl,rfl,.inr #[q0q,q0q],_,_,rfl,rfl,(by show (0:Int)<998244353;decide),_,_,rfl,rfl,#[q0q,q0q],_,rfl,_,_,rfl,rfl,d,?_];exact k _ _ _ _ Kp.at a (qH _ q0a)<|pK _ d
  ·have b:=B;have u:=Kp.refl g H;refine#[_,rfl,g,_,_,_,rfl,rfl,vF.of b.ob,Pl _ _ _ _,_,rfl,_,_,rfl,rfl,d,?_];refine#[_,rfl,g,_,_,_,rfl,rfl,vF.of b.ob,Pl _ _ _ _,_,rfl,_,_,rfl,rfl,#[d,v],_,rfl,g,_,_,2,rfl,rfl,b.ob,rfl,?_];exact#[_,rfl,k _ _ _ _ (u.trans Kp.at) (b.put b.i0) (qH _ q0a)<|pK _ d]
def Mn:uq ["_law_script","_law_salt","_law_one"] ["_law_script"] (ug Rs):=#[rfl,rfl,rfl,q0s,rfl,q0s,q0s]
def a1A(a:List Int)(b c:Option Int):∃d:List Int,C6 (a.map V.int) b c=d.map V.int:=by unfold C6;exact#[_,by rw[<- List.map_drop,<- List.map_take]]
def Xx(F:yk K "_law_bag" "_law_bag" Rs f U)(m:mg "len"=none)(g:mg "list"=none):uO P w K mg base Oz 1 f U ["_law_script"] (WL.Vn K):=by
 refine F.ok Mn (λX H Q E h=>?_)<|λY A B s H X Q E hr h=>?_
 ·obtain⟨a,N,rfl,_⟩:=h;rfl
 ·obtain⟨a,N,rfl,C,k⟩:=h
  refine#[_,vB (zd (i:=1) Mn.nd rfl (lU rfl) (wj xv (by rfl) m mO (ur (zh CB (pv 0) Cz (CA uH)) uA)))
   (vB (N0 PassesOwn.never rfl (FA (zh CB (pv 0) Cz (CA uH))) (uw (i:=2) Mn.nd)
    (wV (zd (i:=1) Mn.nd rfl (lU rfl) (wg Bx (wg Aw (wg Ax (pv 1) uH) (pv 2)) uH))))
   (wV (Bv (N9 (ur (wK xy rfl g jU (ur (zh CB (pv 0) Cz (CA uH)) uA)) (ur uH (ur uH (ur (pv 1) uA)))))))),?_]
  obtain⟨b,j⟩:=a1A N none<|some 63;refine⟨_,rfl,63,rfl,a,_,rfl,C,λp Z=>?_⟩;rw[j];have O:Cu H (upd H p<|.lst<|b.map V.int):=zq Z;refine⟨p,_,rfl,.inl<|vF.of uk,?_⟩;refine⟨_,rfl,63,rfl,a,_,rfl,O.seq C,λn D=>?_⟩;rw[j];have s2:Cu (upd H p<|.lst<|b.map V.int) (upd (upd H p<|.lst<|b.map V.int) n<|.lst<|b.map V.int):=zq D;have c:=O.trans s2;generalize G:upd (upd H p<|.lst<|b.map V.int) n (.lst<|b.map V.int)=H2 at c;have q:H2 n=↑(.lst<|b.map V.int):=by rw[<- G];exact uk
  refine#[n,rfl,#[_,vF.of q],N3 (K:=K) (a:=n) (xs:=b.map V.int) (λi u x=>x=H2/\∃(r:Int)(v:Option V),u=[some<|.ref a,some<|.int r,v]) ⟨rfl,_,none,rfl⟩ (λi u x _ z9=>e0a2 z9 λe _=>by rw[e];exact vF.of q) ?_ ?_]
  ·rintro i y u x d ⟨rfl,r,v,rfl⟩
   obtain⟨z,rfl⟩:∃z,y=V.int z:=by
    rw[ja]at d
    cases e:b[i]? with
    |none=>rw[e]at d;cases d
    |some z=>rw[e]at d;exact#[z,(il d).symm]
   exact#[_,rfl,_,_,rfl,rfl,.inr #[q0q,q0q],_,rfl,_,_,rfl,rfl,_,_,rfl,rfl,(by show (0:Int)<1000003;decide),rfl,_,_,rfl]
  ·rintro u x ⟨rfl,r,v,rfl⟩;refine#[_,rfl,63,rfl,a,_,rfl,c.seq C,λp3 I=>?_];rw[j];refine#[p3,_,rfl,.inl<|vF.of uk,λJ t=>#[_,rfl,(by decide:4<=gk),λR l=>?_]];have L:=zq (o:=.lst<|b.map V.int) I;have S:=zq (o:=.lst<|b.map V.int) t;have T:=zq (o:=.lst<|Ex J 0 0 r) l;have M:J≠R:=uu uk l;refine k _ R J b r (((c.trans L).trans S).trans T) #[uk,T _ _ uk,nC _,M] ?_ ?_
   ·exact(((c.trans L).trans S).free l)
   ·exact((c.trans L).free t)
end
section
variable{q:Cq}{C XC XS XO XB XP XV W4 XF XT XN XR XL:cr}
noncomputable abbrev KY:gR:=Bu (top 30) 1
def UN:xM Cg Cg (ug KY):=by walk_at "ss"
noncomputable abbrev Ei:gR:=Bu (top 30) 4
def NJ:xM x9 x9 (ug Ei):=by walk_at "ss"
noncomputable abbrev Hh:gR:=Bu (top 30) 8
def RB:xM zH zH (ug Hh):=by walk_at "ss"
noncomputable abbrev yX:gR:=Bu (top 30) 9
def EG:xM vV vV (ug yX):=by walk_at "ss"
noncomputable abbrev B4:gR:=Bu (top 30) 7
def KZ:xM xi xi (ug B4):=by walk_at "ss"
noncomputable abbrev Hi:gR:=Bu (top 30) 2
def IK:xM zI zI (ug Hi):=by walk_at "ss"
def UO{f:cr}{fd:hO}{k:Nat}(F:DJ q.P q.K C "put" "Field.put" KY f fd)(G:Fs q.P q.w q.K q.mg q.base C "put" Cg (xR q.T<|Ix C XB XS XC XO XP) k):Gq q (k+1) f fd Cg (Ix C XB XS XC XO XP) :=
 zv (m:="put") (ta:=(B7 (uR 1)<|B7 (uR 2) Cr)) F UN rfl rfl (λ_=>#[_,rfl]) G (λyB cc A outer s H E=>(ur (pv 1)<|ur (pv 2) uA)) (λa r H Q hl h=>by obtain⟨u1,u2,rfl⟩:=lx2 r<|mr hl;exact⟨u1,rfl,u2,rfl,h⟩) (λf2 env h=>cw_cons h)
def NK{f:cr}{fd:hO}{k:Nat}(F:DJ q.P q.K C "cells" "Field.cells" Ei f fd)(G:Fs q.P q.w q.K q.mg q.base C "cells" x9 (xR q.T<|CS C) k):Gq q (k+1) f fd x9 (CS C) :=
 zv (m:="cells") (ta:=Cr) F NJ rfl rfl (λ_=>#[_,rfl]) G (λyB cc A outer s H E=>uA) (λa r H Q hl h=>by obtain rfl:=lx0 r<|mr hl;exact h) (λf2 env h=>cw_nil h)
def RC{f:cr}{fd:hO}{k:Nat}(F:DJ q.P q.K C "over" "Field.over" Hh f fd)(G:Fs q.P q.w q.K q.mg q.base C "over" zH (xR q.T<|Gv C XC) k):Gq q (k+1) f fd zH (Gv C XC) :=
 zv (m:="over") (ta:=(B7 (uR 1) Cr)) F RB rfl rfl (λ_=>#[_,rfl]) G (λyB cc A outer s H E=>(ur (pv 1) uA)) (λa r H Q hl h=>by obtain⟨u1,rfl⟩:=lx1 r<|mr hl;exact⟨u1,rfl,h⟩) (λf2 env h=>cw_cons h)
def EH{f:cr}{fd:hO}{k:Nat}(F:DJ q.P q.K C "border_of" "Field.border_of" yX f fd)(G:Fs q.P q.w q.K q.mg q.base C "border_of" vV (xR q.T<|xh C XS XC) k):Gq q (k+1) f fd vV (xh C XS XC) :=
 zv (m:="border_of") (ta:=(B7 (uR 1) Cr)) F EG rfl rfl (λ_=>#[_,rfl]) G (λyB cc A outer s H E=>(ur (pv 1) uA)) (λa r H Q hl h=>by obtain⟨u1,rfl⟩:=lx1 r<|mr hl;exact⟨u1,rfl,h⟩) (λf2 env h=>cw_cons h)
def K3{f:cr}{fd:hO}{k:Nat}(F:DJ q.P q.K C "border" "Field.border" B4 f fd)(G:Fs q.P q.w q.K q.mg q.base C "border" xi (xR q.T<|Bh C XC) k):Gq q (k+1) f fd xi (Bh C XC) :=
 zv (m:="border") (ta:=(B7 (uR 1) Cr)) F KZ rfl rfl (λ_=>#[_,rfl]) G (λyB cc A outer s H E=>(ur (pv 1) uA)) (λa r H Q hl h=>by obtain⟨u1,rfl⟩:=lx1 r<|mr hl;exact⟨u1,rfl,h⟩) (λf2 env h=>cw_cons h)
def RD{f:cr}{fd:hO}(F:DJ q.P q.K C "take" "Field.take" Hi f fd)(ct:Ah q.K C)(wH:vX q C XC 7)(NL:Aa q C 7)(G:Fs q.P q.w q.K q.mg q.base C "take" zI (xR q.T<|Gw C XC XV) 7):Gq q 8 f fd zI (GP C XC XV):=by
 refine' uv (Zc (A:=B0 C×Int×Unit) (PO:=B0 C×WL.Un×Unit) (ms:=[0]) (uJ q0q) F IK rfl λyB cc A outer s H E D hr =>
  Vp (vc<|uy<|vr 0 wH (um (ss 1) ui) (hx:=PR))
   (Vp (uZ (tw_val (uy (vr 0 NL (um (ss 1) ui) (hx:=PR)))) OZ uN)
    (Tz (m:="take") (ta:=B7 (uR 1) Cr) D IK rfl (λ_=>#[_,rfl]) G hr (ur (pv 1) uA) (λa r H Q hl h=>by obtain⟨u,rfl⟩:=lx1 r hl;exact#[u,rfl,h]) (λf2 env h=>cw_cons h)))) λp Kn Ke h=>?_
 walk_at "wl"
 obtain⟨t,ok,h⟩:=h;show if (lk p.1.rk p.2.1).isSome=true then (if vR p.1 p.2.1=true then False else Gw C XC XV (p.1,p.2) (λx p=>Kn () p) Ke) else Ke XC (p.1,#[],());by_cases hs:(lk p.1.rk p.2.1).isSome=true
 ·rw[ga hs,gc<|by simp[t]];exact#[ok,h]
 ·rw[gc hs]at h ⊢;exact h
noncomputable abbrev Hj:gR:=Bu (top 30) 0
def RE:xM ["self"] ["self"] (ug Hj):=by walk_at "ss"
def RF{k:Nat}(F:DJ q.P q.K C "__init__" "Field.__init__" Hj f b)(c:Ah q.K C)(d:NQ q.K C)(G:Fs q.P q.w q.K q.mg q.base C "__init__" ["self"] (Ge C) k):uO q.P q.w q.K q.mg q.base (uW q.P q.w) (k+1) f b ["self"] (CN C) :=
 PZ (p3:=#[0,0,0,0]) (p4:=#[0,0,0,0]) F RE c d (λ_=>#[_,rfl]) rfl G (λ_=>rfl) λe g A a s H E=>vB (By (pv 0) AS rfl)<|wV<|By (pv 0) AS rfl
end
end K7
namespace K7
open PySem L2 WL
open WL.Rep (rp)
open WL.Ow (sl)
open WL.Sls (rel)
abbrev K4:List ci:=[.type "ValueError",.type "Exception",.type "BaseException",.type "object"]
abbrev yY:gR:=Bu (top 13) 0
abbrev K5:gR:=Bu (top 28) 0
def UP:uq ["self"] ["self"] (ug K5):=#[rfl,rfl,rfl,q0s,rfl,q0s,q0s]
def RG:xM ["self","ring"] ["self","ring"] (ug yY):=#[rfl,rfl,rfl,q0s,rfl,q0s,q0s,q0s,rfl,rfl]
def UQ[L2.GX]{K:f9}(F:yk K "__init__" "Body.__init__" K5 f fd)(ct:Ah K C):uO P w K mg base (uW P w) 1 f fd ["self"] (Ge C) :=
 Tt F UP ct λb A a s H E=>vB (By (pv 0) AS rfl)<|vB (By (pv 0) AS rfl)<|wV<|By (pv 0) uH rfl
def gx0:L2.GX:=#[λ_ _ _=>True]
section
variable{P:gV}{K:f9}{C:cr}
/-- a method Zd calls super(),as it lies behind the top -/
structure Mx(P:gV)(K:f9)(C:cr)(m q:Str)(st:gR):Prop where
 ex:∃f fd,Meth K C m f/\∃(oc:ci)(od:Option cr)(kV doc pm:ci)(an:Option cr)(yB cc:cr)(ct:ci) (ML:Array (Option ci)) (ocD:ci) (odD:Option cr) (vsD:Array ci) (slD:Array (Option ci)) (file:Str) (tf:Tok) (occ:ci) (odc:Option cr) (slc:Array (Option ci)),
  fd=jO m q (vm st) (uM st) (ug st) [("__class__",cc)] .none kV doc pm an (.ref yB) ct/\K.lookup f=some #[oc,od,.func fd,ML]/\iR K (.ref yB) q=true/\iI K (.ref f)=true/\K.lookup yB=some #[ocD,odD,.fields vsD,slD]/\vsD[2]?=↑(.str file tf)/\((P.main.file:Str)==file)=true/\K.lookup cc=some #[occ,odc,.cell<|some<|.ref C,slc]
def ZF{st:gR}{g:ci}(a:gQ K (.ref C) m=↑(some<|.ref f))(i:nI K (.ref f)=true)
 (l:K.lookup f=some #[z,od,.func<|jO m q (vm st) (uM st) (ug st) [("__class__",h)] .none g j pm A (.ref b) ct,n])(c:iR K (.ref b) q=true)(k:iI K (.ref f)=true)(o:K.lookup b=some #[p,r,.fields d,s])(t:d[2]?=↑(.str file B))(u:((P.main.file:Str)==file)=true)(v:K.lookup h=some #[w,x,.cell<|some<|.ref C,y]):Mx P K C m q st :=
  #[_,_,#[a,i,k],_,_,_,_,_,_,_,_,_,_,_,_,_,_,_,_,_,_,_,rfl,l,c,k,o,t,u,v]
/-- the method of the class above Zd super() e -/
structure Sx(K:f9)(C:cr)(m q:Str)(st:gR):Prop where
 ex:∃f fd,Sm K C m f/\yk K m q st f fd
def ZG{st:gR}{d:ci}(a:jq K C C m=↑(some<|.ref f))(ty:oi K (.ref f)=↑(.type "function"))(fn:lG K f=true)
 (l:K.lookup f=some #[h,od,.func<|i7 m q (vm st) (uM st) (ug st) .none d e pm i b ct,g])(c:iR K b q=true)(k:iI K (.ref f)=true):Sx K C m q st:=#[_,_,#[a,ty,fn],Dd l c k]
def Mx.fx{st:gR}(M:Mx P K C m q st)(cl:∃s,lX K C=↑s)(sub:kf K C (.ref C)=↑true)(g:gE K qD "thirdparty.any"=↑none)(top:(P.main.scope.names.lookup ("super":Str)).isSome=false)(h:((vm st).posonlyargs++(vm st).args).head?=↑p)(hs:p.arg="self")(ps:List Str)
 (b:∀(i d j:ci)(n:Option cr)(e o:cr)(ct:ci)(us:List ci),us.length=ps.length->rW (jO m q (vm st) (uM st) (ug st) [("__class__",o)] .none i d j n (.ref e) ct) #[us,[]]=pure (ps.zip us)):∃f fd,Meth K C m f/\DJ P K C m q st f fd/\Binds K fd ps []:=by
  obtain⟨f,fd,t,H,I,i,d,j,n,e,o,ct,u,v,w,x,y,r,J,z,A,B,rfl,l,c,k,D,E,F,G⟩:=M.ex
  exact#[f,_,t,#[#[_,_,_,_,_,_,_,_,_,_,rfl,l,c,#[#[_,_,_,_,p,l,h,hs],#[_,_,_,_,_,_,D,E,F],#[_,_,_,G],cl,sub,g,top]],k],.all<|b i d j n e o ct]
end
set_option tactic.hygienic true in
def UR{K:f9}(X:K.In h)(e:tV K N=true)(q:gE K N x=↑(some v)):h.nsMap N x=↑v:=by
 obtain⟨o,k,l,b,f,_,g⟩:=Heap.Ns.of_isNs<|o5 X e;unfold gE at q;split at q
 ·rename_i c d i m n z
  have a:=X _ _ z;rw[b]at a;cases a;cases f;split at q
  ·rename_i p j
   cases q;rw[<- g];unfold nsFind findBy;rw[<- sJ,j];rfl
  ·split at q<;>cases q
 ·cases q
def all_mk{l:pW}{K:f9}{XF XL:cr}{eL:Nat}{ey:List ci}{eM:Bool}(X:K.In h)(G:h.Ns gC mg)(eN:mg "law"=↑(.ref fa))
 (a1:gE K gC "is_sum"=↑(some<|.ref f1))
 (l1:K.lookup f1=some #[fp,ft,.func<|i7 "is_sum" "is_sum" (vm wq) (uM wq) (ug wq) .none fv fw fy fz (.ref c) fA,fB])
 (c1:iR K (.ref c) "is_sum"=true)
 (k1:iI K (.ref f1)=true)
 (lc:K.lookup c=some #[fC,fE,.fields eO,fF])
 (ev:eO[11]?=↑(.ref cs))
 (eP:K.lookup cs=none)
 (aL:gE K gC "law"=↑(some<|.ref fL))
 (lL:K.lookup fL=some #[fG,fH,.func<|i7 "law" "law" (vm Bq) (uM Bq) (ug Bq) .none eQ eR eS eT eE eU,fJ])
 (cL:iR K eE "law"=true)
 (kL:iI K (.ref fL)=true)
 (Q:Dq K "must_be_sum" DR)
 (cu:Dq K "total" Gu)
 (D:Dq K "row_from_first" wS)
 (cv:Dq K "added" GQ)
 (b0:Dq K "filled" DY)
 (ez:Dq K "up" Xe)
 (a7:Dq K "lone_of" BX)
 (R:Dq K "slim_border" yi)
 (d1:Dq K "_law_bag" Rs)
 (di:Dq K "_law_pull" Kj)
 (dj:Dq K "_law_rank" Kt)
 (dm:Dq K "_law_join" Kv)
 (dq:Dq K "_law_here" Ky)
 (dr:Dq K "_law_some" KA)
 (ds:Dq K "_law_edge" KD)
 (cw:Dq K "_law_whole" G6)
 (d2:Dq K "_law_row" s_row)
 (dt:Dq K "_law_same" s_same)
 (cx:Dq K "_law_stock" G8)
 (a8:Dq K "_law_edge_by" B2)
 (du:Dq K "_law_rows" KJ)
 (dv:Dq K "_law_fill" KN)
 (dw:Dq K "_law_ties" KP)
 (cy:Dq K "_law_house" Hd)
 (b1:Dq K "_law_tails" Ec)
 (cz:Dq K "_law_heads" Hf)
 (dx:Dq K "_law_lone" KR)
 (d3:Dq K "_law_sum" Ro)
 (b2:Dq K "_law_parted" Ef)
 (aC:gE K gC "Field"=↑(some<|.ref C))
 (ae:Mq K C "must_stand" "Body.must_stand" yT)
 (aB:Mq K C "must_hold" "Body.must_hold" zB)
 (E:Mq K C "must_have_rank" "Body.must_have_rank" wQ)
 (a9:Mq K C "is_tied" "Field.is_tied" BQ)
 (N:Mq K C "must_be_lone" "Field.must_be_lone" xN)
 (cA:Mq K C "steps" "Field.steps" GF)
 (cB:Mq K C "tails" "Field.tails" GH)
 (b3:Mq K C "arrows" "Field.arrows" DV)
 (ba:Mq K C "head_of" "Field.head_of" BS)
 (cC:Mq K C "untie" "Field.untie" GJ)
 (aD:Mq K C "ring_with" "Field.ring_with" zL)
 (d4:Mq K C "tie" "Field.tie" QG)
 (cD:Mq K C "order" "Field.order" GN)
 (d5:Mx l.prog K C "put" "Field.put" KY)
 (d6:Sx K C "put" "Body.put" Qs)
 (cE:Mx l.prog K C "cells" "Field.cells" Ei)
 (cF:Sx K C "cells" "Body.cells" GB)
 (dy:Mx l.prog K C "over" "Field.over" Hh)
 (dz:Sx K C "over" "Body.over" J3)
 (aE:Mx l.prog K C "border_of" "Field.border_of" yX)
 (aF:Sx K C "border_of" "Body.border_of" zD)
 (b4:Mx l.prog K C "border" "Field.border" B4)
 (b5:Sx K C "border" "Body.border" DT)
 (dA:Mx l.prog K C "take" "Field.take" Hi)
 (dB:Sx K C "take" "Body.take" J4)
 (aK:Mx l.prog K C "__init__" "Field.__init__" Hj)
 (aM:Sx K C "__init__" "Body.__init__" K5)
 (pg:lR K C Str.empty=true)
 (hd:mQ K C=true)
 (po:ph K C=true)
 (sa:gQ K (.ref C) "__setattr__"=↑(some<|.builtin "object.__setattr__"))
 (mk:pS K C=true)
 (kc:iI K (.ref C)=true)
 (nR:gQ K (.ref C) "ranks"=↑none)
 (nB:gQ K (.ref C) "borders"=↑none)
 (nU:gQ K (.ref C) "upcoming"=↑none)
 (nH:gQ K (.ref C) "head_by_tail"=↑none)
 (nT:gQ K (.ref C) "tail_by_head"=↑none)
 (dg:lX K C=↑fK)
 (dh:kf K C (.ref C)=↑true)
 (c8:gE K qD "thirdparty.any"=↑none)
 (c9:(l.prog.main.scope.names.lookup ("super":Str)).isSome=false)
 (bb:gE K gC "NotASum"=↑(some<|.ref XS))
 (bc:iL K XS K4 "ValueError.__new__"=true)
 (b6:gE K gC "NoCell"=↑(some<|.ref XC))
 (b7:iL K XC K4 "ValueError.__new__"=true)
 (aG:gE K gC "OtherRank"=↑(some<|.ref XO))
 (aH:iL K XO K4 "ValueError.__new__"=true)
 (be:gE K gC "BadRank"=↑(some<|.ref XB))
 (bf:iL K XB K4 "ValueError.__new__"=true)
 (af:gE K gC "OpenBorder"=↑(some<|.ref XP))
 (ag:iL K XP K4 "ValueError.__new__"=true)
 (dC:gE K gC "Full"=↑(some<|.ref eF))
 (dD:iL K eF K4 "ValueError.__new__"=true)
 (bg:gE K gC "Covered"=↑(some<|.ref XV))
 (bh:iL K XV K4 "ValueError.__new__"=true)
 (bi:gE K gC "NotFace"=↑(some<|.ref XF))
 (bj:iL K XF K4 "ValueError.__new__"=true)
 (bL:gE K gC "Tied"=↑(some<|.ref XT))
 (dE:iL K XT K4 "ValueError.__new__"=true)
 (bm:gE K gC "NotTied"=↑(some<|.ref XN))
 (bp:iL K XN K4 "ValueError.__new__"=true)
 (bq:gE K gC "NotLone"=↑(some<|.ref XL))
 (br:iL K XL K4 "ValueError.__new__"=true)
 (ah:gE K gC "MOST_CELLS"=↑(some<|.int 120 c3))
 (aN:gE K gC "TOP_RANK"=↑(some<|.int 12 dU))
 (eG:gE K gC "RingOfArrows"=↑(some<|.ref XR))
 (fM:gE K gC "BodyError"=↑(some<|.ref XE))
 (lB:K.lookup XR=↑(i9 fN qB XR eh fO (.ref XE::K4) true fP ey eM fh fQ fR fS fT fU fV "ValueError.__new__"))
 (eV:gE K eh "__init__"=↑(some<|.ref fI))
 (eH:tV K eh=true)
 (eW:PySem.W.tailIn K K4 (.ref XE::K4)=true)
 (lI:K.lookup fI=some #[.type "function",fW,.func<|jO "__init__" "RingOfArrows.__init__" (vm yY) (uM yY) (ug yY) [("__class__",cc)] (.ref TD) eX eY eZ e0 (.ref ei) e1,fX])
 (cI:iR K (.ref ei) "RingOfArrows.__init__"=true)
 (lD:K.lookup ei=some #[fY,fZ,.fields e2,f0])
 (fD:e2[2]?=↑(.str d7 f3))
 (pD:((l.prog.main.file:Str)==d7)=true)
 (e3:K.lookup cc=some #[fi,fj,.cell<|some<|.ref XR,fo])
 (e4:lX K XR=↑f4)
 (e5:kf K XR (.ref XR)=↑true)
 (e6:jq K XR XR "__init__"=↑(some<|.builtin "ValueError.__init__"))
 (e7:kf K XR (.type "ValueError")=↑true)
 (sB:gQ K (.ref XR) "__setattr__"=↑(some<|.builtin "object.__setattr__"))
 (e8:gQ K (.ref XR) "ring"=↑none)
 (lT:K.lookup TD=some #[f5,f6,.seq #v[dT] eL,f7])
 (e9:kF K (.ref XT) [.ref XT,.ref XR]=↑true)
 (fb:kF K (.ref XR) [.ref XT,.ref XR]=↑true)
 (fe:gE K gC "super"=↑none)
 (zz:Bz K) :
    ∃(c cs:cr)(fd:hO),m4 K "is_sum"=↑(c,cs)/\K.lookup cs=none/\(∀(s:gn)(v:ci),rK s fd #[[v],[]] [("_law_script",v)])/\∀base:hX,K.In base->base.Ns gC mg->HS mg base c cs->uO l.prog w K mg base Oz 11 fa fd ["_law_script"] (LL K cs):=by
  letI:L2.GX:=gx0
  have e:=eN.symm.trans<|ic X G aL
  cases e
  have ht:m4 K "is_sum"=↑(c,cs):=by
    unfold m4
    rw[a1]
    dsimp only
    rw[l1]
    dsimp only[i7]
    rw[lc]
    dsimp only
    rw[ev]
  have p:=Dd (st:=wq) l1 c1 k1
  have ar:Fn K mg "is_sum" wq ["row"] f1 _:=#[p,ic X G a1,p.binds (ps:=["row"])<|λ_ _ _ _ _ _=>us1 λ_=>rfl]
  have d8:=Dd (st:=Bq) lL cL kL
  have b:=Q.fn X G ["row"]<|λ_ _ _ _ _ _=>us1 λ_=>rfl
  have aQ:=cu.fn X G ["rows"]<|λ_ _ _ _ _ _=>us1 λ_=>rfl
  have f:=D.fn X G ["earlier","last"]<|λ_ _ _ _ _ _=>us2 λ_ _=>rfl
  have aR:=cv.fn X G ["one","other"]<|λ_ _ _ _ _ _=>us2 λ_ _=>rfl
  have au:=b0.fn X G ["field","row"]<|λ_ _ _ _ _ _=>us2 λ_ _=>rfl
  have dZ:=ez.fn X G ["field","row"]<|λ_ _ _ _ _ _=>us2 λ_ _=>rfl
  have S:=a7.fn X G ["field","row"]<|λ_ _ _ _ _ _=>us2 λ_ _=>rfl
  have n:=R.fn X G ["field","row"]<|λ_ _ _ _ _ _=>us2 λ_ _=>rfl
  have db:=d1.fn X G ["_law_script"]<|λ_ _ _ _ _ _=>us1 λ_=>rfl
  have bM:=di.fn X G ["_law_bag_here","_law_many"]<|λ_ _ _ _ _ _=>us2 λ_ _=>rfl
  have bN:=dj.fn X G ["_law_bag_here"]<|λ_ _ _ _ _ _=>us1 λ_=>rfl
  have bO:=dm.fn X G ["_law_one","_law_other"]<|λ_ _ _ _ _ _=>us2 λ_ _=>rfl
  have bP:=dq.fn X G ["_law_rows_here"]<|λ_ _ _ _ _ _=>us1 λ_=>rfl
  have bQ:=dr.fn X G ["_law_bag_here","_law_row_here"]<|λ_ _ _ _ _ _=>us2 λ_ _=>rfl
  have bR:=ds.fn X G ["_law_rows_here","_law_row_here"]<|λ_ _ _ _ _ _=>us2 λ_ _=>rfl
  have aS:=cw.fn X G ["_law_found"]<|λ_ _ _ _ _ _=>us1 λ_=>rfl
  have dc:=d2.fn X G ["_law_found"]<|λ_ _ _ _ _ _=>us1 λ_=>rfl
  have bS:=dt.fn X G ["_law_found","_law_due"]<|λ_ _ _ _ _ _=>us2 λ_ _=>rfl
  have aT:=cx.fn X G ["_law_many"]<|λ_ _ _ _ _ _=>us1 λ_=>rfl
  have T:=a8.fn X G ["_law_rows_here","_law_loops","_law_rank_here","_law_bag_here"]<|λ_ _ _ _ _ _=>us4 λ_ _ _ _=>rfl
  have bT:=du.fn X G ["_law_bag_here","_law_most"]<|λ_ _ _ _ _ _=>us2 λ_ _=>rfl
  have bU:=dv.fn X G ["_law_body","_law_rows_here"]<|λ_ _ _ _ _ _=>us2 λ_ _=>rfl
  have bV:=dw.fn X G ["_law_field","_law_rows_here","_law_bag_here","_law_tries"]<|λ_ _ _ _ _ _=>us4 λ_ _ _ _=>rfl
  have aU:=cy.fn X G ["_law_bag_here","_law_most"]<|λ_ _ _ _ _ _=>us2 λ_ _=>rfl
  have av:=b1.fn X G ["_law_arrows"]<|λ_ _ _ _ _ _=>us1 λ_=>rfl
  have aV:=cz.fn X G ["_law_arrows"]<|λ_ _ _ _ _ _=>us1 λ_=>rfl
  have bW:=dx.fn X G ["_law_rows_here","_law_arrows"]<|λ_ _ _ _ _ _=>us2 λ_ _=>rfl
  have dd:=d3.fn X G ["_law_found"]<|λ_ _ _ _ _ _=>us1 λ_=>rfl
  have aw:=b2.fn X G ["_law_row_here","_law_keep"]<|λ_ _ _ _ _ _=>us2 λ_ _=>rfl
  have u:=ae.fn ["self","cell"]<|λ_ _ _ _ _ _=>us2 λ_ _=>rfl
  have H:=aB.fn ["self","row"]<|λ_ _ _ _ _ _=>us2 λ_ _=>rfl
  have g:=E.fn ["self","row","rank"]<|λ_ _ _ _ _ _=>us3 λ_ _ _=>rfl
  have U:=a9.fn ["self","cell"]<|λ_ _ _ _ _ _=>us2 λ_ _=>rfl
  have m:=N.fn ["self","row"]<|λ_ _ _ _ _ _=>us2 λ_ _=>rfl
  have aW:=cA.fn ["self","low","high"]<|λ_ _ _ _ _ _=>us3 λ_ _ _=>rfl
  have aX:=cB.fn ["self"]<|λ_ _ _ _ _ _=>us1 λ_=>rfl
  have ax:=b3.fn ["self"]<|λ_ _ _ _ _ _=>us1 λ_=>rfl
  have Y:=ba.fn ["self","cell"]<|λ_ _ _ _ _ _=>us2 λ_ _=>rfl
  have aY:=cC.fn ["self","low"]<|λ_ _ _ _ _ _=>us2 λ_ _=>rfl
  have I:=aD.fn ["self","low","high"]<|λ_ _ _ _ _ _=>us3 λ_ _ _=>rfl
  have de:=d4.fn ["self","low","high"]<|λ_ _ _ _ _ _=>us3 λ_ _ _=>rfl
  have aZ:=cD.fn ["self"]<|λ_ _ _ _ _ _=>us1 λ_=>rfl
  obtain⟨eA,eB,dF,dG,dH⟩:=d5.fx #[_,dg] dh c8 c9 rfl rfl Cg<|λ_ _ _ _ _ _ _=>us3 λ_ _ _=>rfl
  obtain⟨eC,eD,dI,bX⟩:=d6.ex
  obtain⟨ec,ee,b8,b9,ca⟩:=cE.fx #[_,dg] dh c8 c9 rfl rfl x9<|λ_ _ _ _ _ _ _=>us1 λ_=>rfl
  obtain⟨ef,eg,cb,ay⟩:=cF.ex
  obtain⟨ej,ek,cG,cH,cJ⟩:=dy.fx #[_,dg] dh c8 c9 rfl rfl zH<|λ_ _ _ _ _ _ _=>us2 λ_ _=>rfl
  obtain⟨el,em,cK,a0⟩:=dz.ex
  obtain⟨c4,c5,ai,aj,ak⟩:=aE.fx #[_,dg] dh c8 c9 rfl rfl vV<|λ_ _ _ _ _ _ _=>us2 λ_ _=>rfl
  obtain⟨c6,c7,al,y⟩:=aF.ex
  obtain⟨dV,dW,bt,bu,bv⟩:=b4.fx #[_,dg] dh c8 c9 rfl rfl xi<|λ_ _ _ _ _ _ _=>us2 λ_ _=>rfl
  obtain⟨dX,dY,bA,ab⟩:=b5.ex
  obtain⟨en,eo,cM,cN,cO⟩:=dA.fx #[_,dg] dh c8 c9 rfl rfl zI<|λ_ _ _ _ _ _ _=>us2 λ_ _=>rfl
  obtain⟨ep,er,cP,a2⟩:=dB.ex
  obtain⟨es,et,a3,cQ,cR⟩:=aK.fx #[_,dg] dh c8 c9 rfl rfl ["self"]<|λ_ _ _ _ _ _ _=>us1 λ_=>rfl
  obtain⟨eu,ew,cS,a4⟩:=aM.ex
  have B:=zz.bn X G
  have da:=sv X G fe
  have an:=ic X G ah
  have aO:=ic X G aN
  have bB:Xc K mg "NotASum" XS:=#[#[_,_,_,_,ic X G bb,bc,gM],λ_=>trivial]
  have cd:Xc K mg "NoCell" XC:=#[#[_,_,_,_,ic X G b6,b7,gM],λ_=>trivial]
  have aI:Xc K mg "OtherRank" XO:=#[#[_,_,_,_,ic X G aG,aH,gM],λ_=>trivial]
  have bC:Xc K mg "BadRank" XB:=#[#[_,_,_,_,ic X G be,bf,gM],λ_=>trivial]
  have ao:Xc K mg "OpenBorder" XP:=#[#[_,_,_,_,ic X G af,ag,gM],λ_=>trivial]
  have dJ:Xc K mg "Full" eF:=#[#[_,_,_,_,ic X G dC,dD,gM],λ_=>trivial]
  have bD:Xc K mg "Covered" XV:=#[#[_,_,_,_,ic X G bg,bh,gM],λ_=>trivial]
  have bE:Xc K mg "NotFace" XF:=#[#[_,_,_,_,ic X G bi,bj,gM],λ_=>trivial]
  have dL:Xc K mg "Tied" XT:=#[#[_,_,_,_,ic X G bL,dE,gM],λ_=>trivial]
  have bF:Xc K mg "NotTied" XN:=#[#[_,_,_,_,ic X G bm,bp,gM],λ_=>trivial]
  have bG:Xc K mg "NotLone" XL:=#[#[_,_,_,_,ic X G bq,br,gM],λ_=>trivial]
  have L:Ah K C:=#[#[pg,hd,po,sa],nR,nB,nU]
  have cf:NQ K C:=#[nH,nT]
  have cT:=ic X G aC
  refine#[c,cs,i7 "law" "law" (vm Bq) (uM Bq) (ug Bq) .none eQ eR eS eT eE eU,ht,eP,λs v=>.of_eq rfl,λbase _ _ Bt=>?_]
  let q:Cq:=#[l.prog,w,K,mg,base,cs]
  have SD:L2.JQ l.prog K XR fI ei cc "self":=#[#[_,_,_,_,_,lI,rfl,rfl],#[_,_,_,_,_,_,lD,fD,pD],#[_,_,_,e3],#[_,e4],e5,c8,c9]
  have cg:uO l.prog w K mg base (uW l.prog w) 3 fI _ ["self","ring"] (WT K XR "ring"):=TR (P:=l.prog) (w:=w) (mg:=mg) (base:=base) (k:=2) (r:="ring") (fl:="ring") lI cI rfl RG SD (λ_=>#[_,rfl]) da B.list rfl lB e6 e7 rfl (λx=>by rw[PySem.refuseLoop_ref];exact PySem.F.store_ValueError.passes _) sB e8 q0q q0q
  have ff:∀h:hX,K.In h->∃mN,h.Ns eh mN/\mN "__init__"=↑(.ref fI):=λh Z=>#[_,.of_isNs<|o5 Z eH,UR Z eH eV]
  have hB:Binds K (jO "__init__" "RingOfArrows.__init__" (vm yY) (uM yY) (ug yY) [("__class__",cc)] (.ref TD) eX eY eZ e0 (.ref ei) e1) ["self","ring"] []:=λs us Z hl=>by
    have hl:us.length=2:=by simpa using hl
    obtain⟨u1,u2,rfl⟩:=lx2 us hl
    exact PySem.W.binds_K Z rfl lT rfl rfl rfl
  have O:XcI l.prog w K mg base 3 "RingOfArrows" XR "ring":=#[#[fI,eh,_,_,_,_,_,_,K4,_,_,_,_,_,_,_,_,_,_,_,_,_,_,_,ic X G eG,lB,ff,λh Z=>su Z eW,lI,rfl,gM,rfl,cg,hB],λ_ _ _ _ _ _=>trivial]
  have o:Zj q XT XR "Tied" "RingOfArrows":=#[ic X G bL,ic X G eG,e9,fb]
  obtain⟨bx,f8,bz,bw,eI,eJ,eK⟩:=bB.ex
  have cU:=Qk b.fn ar (J1 (P:=l.prog) (w:=w) p rfl Bt B.all B.zip) eI eJ eK λ_=>trivial
  have cV:=Ql b.fn ar (J2 (P:=l.prog) (w:=w) p rfl Bt B.all B.zip) eI eJ eK λ_=>trivial
  have dM:=RF (q:=q) cQ L cf #[#[_,_,cS,UQ (P:=l.prog) (w:=w) (mg:=mg) (base:=base) a4 L,a4.binds<|λ_ _ _ _ _ _=>us1 λ_=>rfl,da]]
  have a5:wu q _ _ _ _:=b.fk cU
  have cW:wu q _ _ _ _:=aQ.fk<|Qm aQ.fn b cV B.set B.sorted
  have a:yZ q C _ _ _ _:=u.fm<|EC (q:=q) u.fn L cd
  have d:yZ q C _ _ _ _:=H.fm<|Gx (q:=q) H.fn L (a5.up q0q)<|a.up q0q
  have A:yZ q C _ _ _ _:=g.fm<|Bk (q:=q) g.fn L aI
  have j:yZ q C _ _ _ _:=#[_,_,EH (q:=q) aj #[#[_,_,al,(Gz (q:=q) y L (cW.up q0q)<|d.up q0q),y.binds<|λ_ _ _ _ _ _=>us2 λ_ _=>rfl,da]],ai,ak]
  have cj:yZ q C _ _ _ _:=#[_,_,NK (q:=q) b9 #[#[_,_,cb,(Qq (q:=q) ay L B),ay.binds<|λ_ _ _ _ _ _=>us1 λ_=>rfl,da]],b8,ca]
  have cX:yZ q C _ _ _ _:=#[_,_,RC (q:=q) cH #[#[_,_,cK,(T5 (q:=q) a0 L (a.up q0q)<|cj.up q0q),a0.binds<|λ_ _ _ _ _ _=>us2 λ_ _=>rfl,da]],cG,cJ]
  have dN:yZ q C _ _ _ _:=#[_,_,UO (q:=q) dG #[#[_,_,dI,(W6 (q:=q) bX L (d.up q0q) (A.up q0q) (j.up q0q) bC dJ ao an aO B),bX.binds<|λ_ _ _ _ _ _=>us3 λ_ _ _=>rfl,da]],dF,dH]
  have bH:yZ q C _ _ _ _:=#[_,_,K3 (q:=q) bu #[#[_,_,bA,(Nm (q:=q) ab L (a.up q0q) B),ab.binds<|λ_ _ _ _ _ _=>us2 λ_ _=>rfl,da]],bt,bv]
  have i:yZ q C _ _ _ _:=U.fm<|Ka (q:=q) U.fn L cf
  have cY:yZ q C _ _ _ _:=#[_,_,RD (q:=q) cN L (a.up q0q) (i.up q0q) #[#[_,_,cP,((T7 (q:=q) a2 L (cX.up q0q) bD)).mono q0q,a2.binds<|λ_ _ _ _ _ _=>us2 λ_ _=>rfl,da]],cM,cO]
  have M:yZ q C _ _ _ _:=m.fm<|Cy (q:=q) m.fn L (i.up q0q) bG
  have az:yZ q C _ _ _ _:=aW.fm<|QB (q:=q) aW.fn L cf
  have aA:yZ q C _ _ _ _:=aX.fm<|QD (q:=q) aX.fn L cf B
  have bI:yZ q C _ _ _ _:=ax.fm<|Np (q:=q) ax.fn L cf<|aA.up q0q
  have aP:yZ q C _ _ _ _:=Y.fm<|Kf (q:=q) Y.fn L cf<|a.up q0q
  have ck:yZ q C _ _ _ _:=aY.fm<|QF (q:=q) aY.fn L cf (a.up q0q) bF
  have J:wu q _ _ _ _:=f.fk<|Bo (q:=q) f.fn
  have aq:yZ q C _ _ _ _:=I.fm<|GL (q:=q) I.fn L cf (J.up q0q)<|az.up q0q
  have dO:yZ q C _ _ _ _:=de.fm<|W9 (q:=q) de.fn L cf (a.up q0q) (i.up q0q) (aq.up q0q) bE dL O
  have cm:yZ q C _ _ _ _:=aZ.fm<|QJ (q:=q) aZ.fn L cf (bI.up q0q) (az.up q0q)<|aA.up q0q
  have a6:wu q _ _ _ _:=aR.fk<|QM (q:=q) aR.fn (a5.up q0q) B
  have cn:wu q _ _ _ _:=au.fk<|Nu (q:=q) au.fn L (a6.up q0q) (d.up q0q) (cm.up q0q) (aP.up q0q) (bH.up q0q) B
  have d0:wu q _ _ _ _:=dZ.fk<|Zv (q:=q) dZ.fn L (a6.up q0q) (cn.up q0q) (d.up q0q) (M.up q0q)<|j.up q0q
  have bJ:wu q _ _ _ _:=S.fk<|Ki (q:=q) S.fn L<|i.up q0q
  have aa:wu q _ _ _ _:=n.fk<|D7 (q:=q) n.fn L (bJ.up q0q) (d0.up q0q)<|j.up q0q
  have d9:wu q _ _ _ _:=db.fk<|Y5<|Xx db.fn B.len B.list
  have t:wu q _ _ _ _:=bM.fk<|WJ<|UM bM.fn B.len
  have dP:wu q _ _ _ _:=bN.fk<|Us (q:=q) bN.fn<|t.up q0q
  have aJ:wu q _ _ _ _:=bO.fk<|Ut (q:=q) bO.fn B
  have k_here:wu q _ _ _ _:=bP.fk<|Uv (q:=q) bP.fn B
  have bY:wu q _ _ _ _:=bQ.fk<|Uw (q:=q) bQ.fn (t.up q0q) (aJ.up q0q) B
  have bZ:wu q _ _ _ _:=bR.fk<|Ux (q:=q) bR.fn<|aJ.up q0q
  have k_whole:wu q _ _ _ _:=aS.fk<|Q8 (q:=q) aS.fn B
  have df:wu q _ _ _ _:=dc.fk<|Xl (q:=q) dc.fn (k_whole.up q0q) B
  have k_same:wu q _ _ _ _:=bS.fk<|UA (q:=q) bS.fn<|df.up q0q
  have cZ:wu q _ _ _ _:=aT.fk<|Re (q:=q) aT.fn B
  have bK:wu q _ _ _ _:=T.fk<|KI (q:=q) T.fn (t.up q0q) (aJ.up q0q) (k_here.up q0q) (bY.up q0q) (bZ.up q0q) B
  have dQ:wu q _ _ _ _:=bT.fk<|UC (q:=q) bT.fn (t.up q0q) (cZ.up q0q) (dP.up q0q) (bK.up q0q) B
  have k_fill:wu q _ _ _ _:=bU.fk<|UD (q:=q) bU.fn L (dN.up q0q) (cY.up q0q) B
  have dR:wu q _ _ _ _:=bV.fk<|UE (q:=q) bV.fn L (k_here.up q0q) (t.up q0q) (ck.up q0q) (dO.up q0q) o B
  have c0:wu q _ _ _ _:=aU.fk<|Ri (q:=q) aU.fn #[mk,a3.at_,a3.fn,kc] (dM.mono q0q) cR cT (dQ.up q0q) (k_fill.up q0q) (dR.up q0q) (t.up q0q) B
  have cp:wu q _ _ _ _:=av.fk<|NE (q:=q) av.fn
  have c2:wu q _ _ _ _:=aV.fk<|Rm (q:=q) aV.fn B
  have dS:wu q _ _ _ _:=bW.fk<|UH (q:=q) bW.fn (cp.up q0q) (c2.up q0q)<|k_here.up q0q
  have ea:wu q _ _ _ _:=dd.fk<|Xr (q:=q) dd.fn (df.up q0q) B
  have cq:wu q _ _ _ _:=aw.fk<|NG (q:=q) aw.fn
  exact Y7 (Y6<|Xw (q:=q) d8 (d9.up q0q) (c0.up q0q) (bY.up q0q) (dS.up q0q) (d0.up q0q) (ea.up q0q) (cq.up q0q) (k_here.up q0q) (k_same.up q0q) (aa.up q0q)<|bZ.up q0q) λ_ _ _ _ z=>z
def walk{l:pW}{q:gV}{loose:List Str}{XP:(Str->Option ci)->hX->Prop}{YP:ii->hX->Prop}{d:DefRec}{K:Params->f9}{dx:DefRec}(hn:l.most=↑63)(hdf:d.params.defaults=[])
  (hY:∀(w:ii)(h:hX),YP w h->(K w.params).In h) (a1B:(PyProof.Rows.recsOf q).find? (λe=>e.name==("is_sum":Str))=↑dx)
  (F:∀(w:ii)(mg:Str->Option ci)(fa:cr)(h:hX),(K w.params).In h->h.Ns gC mg->mg d.name=↑(.ref fa) ->
   ∃(c tab:cr)(fd:hO),m4 (K w.params) "is_sum"=↑(c,tab)/\(K w.params).lookup tab=none/\(∀(s:gn)(u:ci),rK s fd #[[u],[]] [("_law_script",u)]) /\
    ∀base:hX,(K w.params).In base->base.Ns gC mg->HS mg base c tab->uO l.prog w (K w.params) mg base Oz 11 fa fd ["_law_script"] (LL (K w.params) tab)) :
  t7 q loose XP YP l.row.toRowW d [] (λf vs=>sN f vs) :=
 L2.OO (n:=63) (k:=11) (x:="_law_script") (tx:="is_sum") (CX:=Oz) (sp:=λ_ K tab=>LL K tab) hn q0q hdf #[rfl,q0q,q0q] hY a1B F (λ_ K H a tab ns _ hS hH=>#[a,ns,rfl,hS,#[#v[],hH,trivial],λ_=>rfl]) λ_ _ _ _ z=>z
end K7
open WL
open K7
set_option tactic.hygienic true
set_option hygiene true
namespace PySem.W.Fast
def tw4901196263706294467:=0
def tw49780947621439499:=0
def tw10245694340363664530:=0
def tw12716234227453878147:=0
def tw5082601162410984443:=0
def tw4692247307553248480:=0
def tw4002583592546431377:=0
def tw4570065099735316685:=0
def tw10582108604043471071:=0
def tw18225628323450686557:=0
def tw12703045846930288165:=0
def tw8107812153560450462:=0
def tw7114752278845008096:=0
def tw208180646457744831:=0
def tw1362310964287496960:=0
def tw17646081260386802720:=0
def tw11841890515459258692:=0
def tw12147923344173884456:=0
def tw9746448581840829533:=0
def tw17647412031721220652:=0
def tw11498419177182782374:=0
def tw16648058500367988249:=0
def tw4903775788640619776:=0
def tw9381734821920492341:=0
def tw561259195553657609:=0
def tw12372785011451581638:=0
def tw5953162084482186736:=0
def tw8921626885779698430:=0
def tw5651649887067187713:=0
def tw14389753213054360010:=0
def tw4596475749963194558:=0
def tw18328892413474287126:=0
def tw10800815085983996866:=0
def tw5328920883233750227:=0
def tw1701543386940740341:=0
def tw6497663391143091278:=0
def tw9602438005758163482:=0
def tw4632000288082846370:=0
def tw14544160426377177597:=0
def tw13460542052337083398:=0
def tw80384305147750562:=0
def tw10894780124285435789:=0
def tw1366921067504075647:=0
def tw8592650555859981813:=0
def tw14876302360900506820:=0
def tw13446011347805351816:=0
def tw11343653990954353663:=0
def tw2438425566040939680:=0
def tw16947655862139894791:=0
def tw4821753388507855819:=0
def tw5448524911270385201:=0
def tw4098883520972599579:=0
def tw10911286921465696393:=0
def tw4641232970814641348:=0
def tw10271130006421659735:=0
def tw11985408304840487429:=0
def tw13494703065353557993:=0
def tw9477289270447473210:=0
def tw13484649086694278670:=0
def tw14047301891084852739:=0
def tw12678056302154041670:=0
def tw8280759390744353250:=0
def tw14391666333881893067:=0
def tw14625200738770284574:=0
def tw9312874810010991765:=0
def tw18290720214048450009:=0
def tw8930293524485104668:=0
def tw10517762252297009896:=0
def tw10773832780205399838:=0
def tw2934672548749516595:=0
def tw15921573869800252263:=0
def tw1986941132729189351:=0
def tw16821674477885264244:=0
def tw1002381293280742199:=0
def tw11395870640575868820:=0
def tw6248253989820362582:=0
def tw17209432800572774542:=0
def tw11451440283818766278:=0
def tw1820249527395883250:=0
def tw17271633717482767232:=0
def tw15920784448370711950:=0
def tw6692125837798134564:=0
def tw108934022455894338:=0
def tw12963067572212594079:=0
def tw15617310872303862966:=0
def tw7266767848553690740:=0
def tw5267363054218983277:=0
def tw5100872525827307068:=0
def tw5158059048462450513:=0
def tw18441615208228742795:=0
def tw8825947753554854857:=0
def tw13566212302872944516:=0
def tw8819888060779946921:=0
def tw1679752790307008289:=0
def tw8927210558399180635:=0
def tw4967329961896353680:=0
def tw5787173426681150837:=0
def tw10865415323819213024:=0
def tw4245844368607701482:=0
def tw5405802559010505441:=0
def tw8197273724498196434:=0
def tw5722904417865144214:=0
def tw10546975079179276041:=0
def tw16868051404547756014:=0
def tw604494385147932164:=0
def tw16107721510659576100:=0
def tw12635519521465367772:=0
def tw690512244711120777:=0
def tw1467796160642558695:=0
def tw232739140027659717:=0
def tw860661994339235290:=0
def tw1745901421250114806:=0
def tw6657327897488773588:=0
def tw11438461351070150924:=0
def tw14558548721486806377:=0
def tw2269411253782144626:=0
def tw14562557182266568530:=0
def tw15893929625455118296:=0
def tw1000078702718646816:=0
def tw7113603300552318758:=0
def tw667822399974604418:=0
def tw18147396054663151613:=0
def tw3030709575858908821:=0
def tw4591617034675080363:=0
def tw3709150634859509958:=0
def tw13429250089436973833:=0
def tw9779044926512713207:=0
def tw14721235968034559692:=0
def tw11036782676350673235:=0
def tw9722940773934997057:=0
def tw8973833592524993195:=0
def tw4255714576070836256:=0
def tw1276508357714483521:=0
def tw1040873071322307905:=0
def tw9945021339729958593:=0
def tw12257754476538931178:=0
def tw6146486834897820018:=0
def tw2372866170541223662:=0
def tw16724512780115135770:=0
def tw5559215374377204572:=0
def tw14357403647896347218:=0
def tw18382160872609104627:=0
def tw15026255389073155326:=0
def tw12580068138231058677:=0
def tw9231376878816546081:=0
def tw3550781220952845033:=0
def tw8001123473705189535:=0
def tw20986691499717440:=0
def tw1070422887687376156:=0
def tw6999217700467941697:=0
def tw13660506039500993653:=0
def tw6441286402022324543:=0
def tw1996371606794048170:=0
def tw11905655305381433602:=0
def tw17045486563343588711:=0
def tw1438037032512269011:=0
def tw6205324775111991030:=0
def tw15339284892129934592:=0
def tw3997434110161887985:=0
def tw2352230385590821745:=0
def tw1923440499842524208:=0
def tw529787863933176843:=0
def tw9274230269909370617:=0
def tw16617914653843242684:=0
def tw9720575193707020423:=0
def tw653962696186127894:=0
def tw2431896350887476298:=0
def tw9964527459673811039:=0
def tw3670308474750834864:=0
def tw11660079263981876955:=0
def tw138548019331631172:=0
def tw14560152629601200351:=0
def tw11607257197542042833:=0
def tw1357918832330866252:=0
def tw6850331867012484400:=0
def tw4980858040024965475:=0
def tw9185508865504093361:=0
def tw9279960698862635300:=0
def tw8681560892049154867:=0
def tw14249850771067841294:=0
def tw14562613810285503641:=0
def tw11098259713545795573:=0
def tw16884888269196434044:=0
def tw7984022296052420808:=0
def tw17182654629188353717:=0
def tw1163231037163348105:=0
def tw11375121435069841736:=0
def tw12257286885304586473:=0
def tw2999533951795821884:=0
def tw1315825104284313216:=0
def tw10859879740080831714:=0
def tw463972924969662182:=0
def tw16528358531681747784:=0
def tw14813915376112677910:=0
def tw10630417545789216143:=0
def tw16411418803301041523:=0
def tw5619028621885250644:=0
def tw12926718090061531924:=0
def tw8203704380263234653:=0
def tw1564722008257462401:=0
def tw8614133909421813107:=0
def tw12170422284132875209:=0
def tw4970156758586919259:=0
def tw5375134105859970304:=0
def tw9659330096219458027:=0
def tw7387788098397914926:=0
def tw6774727084438109138:=0
def tw6340782690810483045:=0
def tw2252274763197451068:=0
def tw16195935658081259828:=0
def tw14575750682341867342:=0
def tw14090822274645464658:=0
def tw13678445915962564799:=0
def tw13292347979661043355:=0
def tw3903674143378770656:=0
def tw14199068441440388564:=0
def tw11058573117037696437:=0
def tw17295528027310976796:=0
def tw1770848921490595229:=0
def tw5721980249978554435:=0
def tw17666486719089940249:=0
def tw14519703345484876498:=0
def tw11117484024728495102:=0
def tw10777133509109293247:=0
def tw1723740346293192902:=0
def tw14905804042214359714:=0
def tw796223895360231344:=0
def tw365196095372104293:=0
def tw9832973026651546517:=0
def tw7887953431454501715:=0
def tw12747587341844085683:=0
def tw798325560703218631:=0
def tw4827516942672914981:=0
def tw475214148549785045:=0
def tw18056406402020197952:=0
def tw16474265043226237035:=0
def tw12120502693280201814:=0
def tw11109335493769233914:=0
def tw2695554335691302853:=0
def tw16396782693873528666:=0
def tw17775119700192359026:=0
def tw6957820115111455532:=0
def tw10232813834331061595:=0
def tw2633374455952288774:=0
def tw1470003107250978933:=0
def tw15255308079902690398:=0
def tw12934716157857688797:=0
def tw9801786633269988411:=0
def tw8055201892338530798:=0
def tw4280927358734993620:=0
def tw3626668877847730155:=0
def tw17296763135429230133:=0
def tw16534324916038550522:=0
def tw11953344383314570187:=0
def tw5670456226971876104:=0
def tw6535004236624574107:=0
def tw6193572559193170515:=0
def tw5709704817466535049:=0
def tw386070803258726701:=0
def tw14943392634863142249:=0
def tw10798149711034733062:=0
def tw10590748961210332808:=0
def tw10369130449917166705:=0
def tw3150298492173642175:=0
def tw2502238093097635940:=0
def tw12515074317725835595:=0
def tw2649908097912448222:=0
def tw12376381629041352429:=0
def tw10638214981958390794:=0
def tw9113476919015552110:=0
def tw6803449968848208201:=0
def tw2964463731780224528:=0
def tw11348889700986180727:=0
def tw13096093570190682088:=0
def tw783860176228323661:=0
def tw16119551293661154805:=0
def tw12620420187487122065:=0
def tw7684623893719180959:=0
def tw10060079655578935623:=0
def tw6275209529380503741:=0
def tw4598365937477999804:=0
def tw2299323045525011188:=0
def tw4796094869114879301:=0
def tw16560148185758333750:=0
def tw13132005731601884393:=0
def tw12550483845050341549:=0
def tw10448045576685876067:=0
def tw10243554204632066552:=0
def tw17905753480230973869:=0
def tw4192603341598360942:=0
def tw18381746736090892017:=0
def tw6224235059244910104:=0
def tw5255992643800705944:=0
def tw16075936516643105493:=0
def tw16694272740418435959:=0
def tw1552740473859470776:=0
def tw14743950371856437089:=0
def tw4087230013447518927:=0
def tw11244298357801342137:=0
def tw16842633711477396851:=0
def tw7495532296934802848:=0
def tw12173136494783097267:=0
def tw5490897432940884865:=0
def tw4067036404359376482:=0
def tw6933252697258233769:=0
def tw9133788722946598493:=0
def tw9051729261630151656:=0
def tw854136111758615537:=0
def tw828178252000684929:=0
def tw7439809225937365660:=0
def tw7088602017629060351:=0
def tw703554687679640797:=0
def tw6965404712538036659:=0
def tw539219952883673025:=0
def tw4514489724838802272:=0
def tw440008807266237755:=0
def tw4134034443337913951:=0
def tw3870801797727243879:=0
def tw3182835853149478514:=0
def tw262574552570880142:=0
def tw1882150992255412470:=0
def tw18006380526440395778:=0
def tw17120413435515794989:=0
def tw16717828528900871177:=0
def tw15022522444339203697:=0
def tw1488542639586332048:=0
def tw12051290015109568132:=0
def tw10554100879278930271:=0
def tw10436414571233159759:=0
def tw8106346788421807058:=0
def tw574747048697400617:=0
def tw2962759328977453207:=0
def tw10982422153920274455:=0
def tw10442849135723891327:=0
def tw6720468772814597897:=0
def tw428200630359625241:=0
def tw12080810476835922739:=0
def tw10085354993413403920:=0
def tw4933339955099246250:=0
def tw17016913671858133838:=0
def tw3028722501623000221:=0
def tw16038353672628696218:=0
def tw8910606555228376527:=0
def tw18444150744672385914:=0
def tw747926239067103048:=0
def tw17765554208645118267:=0
def tw15957118742731302058:=0
def tw13502105890645281388:=0
def tw9357881129006894551:=0
def tw690766589694234128:=0
def tw5221479218361931221:=0
def tw4935426163524528808:=0
def tw17269576249470576754:=0
def tw8079991669753867406:=0
def tw7928633289805882299:=0
def tw7411135798589363433:=0
def tw7364588637636390403:=0
def tw7111502049950627181:=0
def tw6704631646576225811:=0
def tw608916894182090123:=0
def tw5665894901796138160:=0
def tw4419993179712261667:=0
def tw2644639957594201732:=0
def tw2022679038256605890:=0
def tw1719171770610585463:=0
def tw17159426400015733255:=0
def tw17019722464964646575:=0
def tw16741584221209631954:=0
def tw16112307686834044646:=0
def tw15073284069989818312:=0
def tw14918421172779739173:=0
def tw14908888793521494560:=0
def tw1487952065773117307:=0
def tw14810822412158345012:=0
def tw14485510203990477509:=0
def tw14358804590662485940:=0
def tw13177430059941135356:=0
def tw11748899117972824021:=0
def tw11636117652258662350:=0
def tw10797156095073856317:=0
def tw1051519887202451383:=0
def tw10424451950798949042:=0
def tw1027433726019803459:=0
def tw10197701144221454111:=0
def tw14036029883592906962:=0
def tw918523711444847935:=0
def tw1693064426821787317:=0
def tw15509356723392621370:=0
def tw12840221651105321093:=0
def tw6192537624417722901:=0
def tw15579432862491847705:=0
def tw11204643265646614862:=0
def tw9596048892889527003:=0
def tw8788603500701581525:=0
def tw8479266609143976209:=0
def tw7136128689150334077:=0
def tw6447296029901523219:=0
def tw608572380593553561:=0
def tw4927018092933766927:=0
def tw4481904495232182382:=0
def tw4385287146248874567:=0
def tw356785710638548159:=0
def tw2806292120636133762:=0
def tw17223694305882485847:=0
def tw17144451391834096349:=0
def tw16886565638481436425:=0
def tw16876109520202347066:=0
def tw16041892588776779980:=0
def tw1586350463858992992:=0
def tw156418934542031888:=0
def tw13844942584876381962:=0
def tw12164459820603565152:=0
def tw5090452824161659085:=0
def tw17918903727041138251:=0
def tw3185363808909475632:=0
def tw17112776925020889478:=0
def tw9014371411345012501:=0
def tw7102987363754994212:=0
def tw3213052469016245827:=0
def tw2855963054745839884:=0
def tw2337022062197295809:=0
def tw12082975432637029923:=0
def tw12267907832290118368:=0
def tw1295660107348087833:=0
end PySem.W.Fast
open PySem PySem.W PyProof.Rows
set_option maxHeartbeats 0 in
theorem PySem.Challenge.cw_slimbody_k31_whole_up_goes_with_borders_holds : PySem.Challenge.rw_slimbody_k31_whole_up_goes_with_borders.Holds := by
  w_on; o_law; k_head; (case hw => w_witness2)
  k_fill
  refine K7.walk (l := PySem.Challenge.rw_slimbody_k31_whole_up_goes_with_borders) rfl rfl (fun w h Y => PySem.W.kIn_of Y) (by rfl) ?j0a
  case j0a =>
    intro w mg fa h KX G hmg
    refine' K7.all_mk KX G hmg ?_ ?_ ?_ ?_ ?_ ?_ ?_ ?_ ?_ ?_ ?_ ?_ ?_ ?_ ?_ ?_ ?_ ?_ ?_ ?_ ?_ ?_ ?_ ?_ ?_ ?_ ?_ ?_ ?_ ?_ ?_ ?_ ?_ ?_ ?_ ?_ ?_ ?_ ?_ ?_ ?_ ?_ ?_ ?_ ?_ ?_ ?_ ?_ ?_ ?_ ?_ ?_ ?_ ?_ ?_ ?_ ?_ ?_ ?_ ?_ ?_ ?_ ?_ ?_ ?_ ?_ ?_ ?_ ?_ ?_ ?_ ?_ ?_ ?_ ?_ ?_ ?_ ?_ ?_ ?_ ?_ ?_ ?_ ?_ ?_ ?_ ?_ ?_ ?_ ?_ ?_ ?_ ?_ ?_ ?_ ?_ ?_ ?_ ?_ ?_ ?_ ?_ ?_ ?_ ?_ ?_ ?_ ?_ ?_ ?_ ?_ ?_ ?_ ?_ ?_ ?_ ?_ ?_ ?_ ?_ ?_ ?_ ?_ ?_ ?_ ?_ ?_ ?_ ?_ ?_
    all_goals try first | k_is | k_exc | exact Y8 (by k_is) (by k_is) (by k_is) (by k_is) | exact Y9 (by k_is) (by k_is) (by k_is) (by k_is) (by k_is) | exact ZF (by k_is) (by k_is) (by k_is) (by k_is) (by k_is) (by k_is) (by rfl) (by rfl) (by k_is) | exact ZG (by rfl) (by k_is) (by k_is) (by k_is) (by k_is) (by k_is) | rfl | kernel_rfl
    constructor <;> k_is
