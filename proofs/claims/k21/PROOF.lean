import PyProof.Rows.All
import Wide.All
import OpenK.AllK
import Wide.FinOn
import Lean
import PyProof.EqAt
import PyProof.EqKinds
import PyProof.TupleCall
import PyProof.Rows.SetFrom
import PyProof.Rows.SortWalkRead
import PyProof.Rows.EqDataRows
import PyProof.CompFree
import PyProof.ZipIter
import PyProof.Rows.ZipGen
import PyProof.GenCompD
import PyProof.CodeObjX
import KE.KNest
import PyProof.DictWalks
import PyProof.AutoListH
import PyProof.WalksMore
import PyProof.Draws
import PyProof.EnumFor
import PyProof.EnumMake
import PyProof.EnumStmt
import PyProof.Rows.EnumRows
import KE.KSuper
import PyProof.WalkInts
import KE.KTryMore
import PyProof.ExcClass2
import PyProof.ExcInit
import PyProof.InstStore
import PyProof.ExcBaseAll.ValueError
import PyProof.InstStoreFacts
import KE.KSortTup
import PyProof.Rows.SortShellK
import PyProof.DictCompW
import KE.KRevSl
import PySem.Challenge.RW_slimbody_k21_carriers_of_sums_added
set_option Elab.async false
set_option linter.all false
set_option tactic.hygienic false
set_option compiler.extract_closed false
set_option hygiene false
set_option genSizeOf false
set_option genInjectivity false
set_option maxRecDepth 100000
local macro_rules|`(#[$a,*])=>`(⟨$a,*⟩)
local macro_rules|`(#v[$a,*])=>`(List.toArray [$a,*])
local macro_rules|`(↑$a)=>`(some $a)
local macro_rules|`(⇑$a)=>`(($a).heap.objs.size)
set_option maxHeartbeats 4000000
noncomputable section
local macro_rules | `(tactic| walk_at "sc") => `(tactic| exact #[rfl, rfl, rfl, by decide +kernel, rfl, by decide +kernel, by decide +kernel])
local macro_rules | `(tactic| walk_at "ss") => `(tactic| exact #[rfl, rfl, rfl, by decide +kernel, rfl, by decide +kernel, by decide +kernel, by decide +kernel, rfl, rfl])
local macro_rules | `(tactic| walk_at "wl") => `(tactic| dsimp only [At.get, At.hole, Pt.put, Ent.ent, Pj.pj, Fg.fg, Sel.sel, Sel.rest, Sel.mrg, Pre.pre, Pre.suf, at0, atS, pt0, ptS, ent0, entS, entC, pjNil, pjUn, pjCons, fgId, fgUn, fgCons, selNil, selCons, pre0, preS, stepC, id, ID.get, ID.set, wSq])
def e0a2 {p0:Prop}{p1:Prop}{G:Prop}(h:p0/\p1)(k:p0->p1->G):G:=by obtain ⟨h0,h1⟩:=h;exact k h0 h1
def e0a3 {p0:Prop}{p1:Prop}{p2:Prop}{G:Prop}(h:p0/\p1/\p2)(k:p0->p1->p2->G):G:=by obtain ⟨h0,h1,h2⟩:=h;exact k h0 h1 h2
def e0a4 {p0:Prop}{p1:Prop}{p2:Prop}{p3:Prop}{G:Prop}(h:p0/\p1/\p2/\p3)(k:p0->p1->p2->p3->G):G:=by obtain ⟨h0,h1,h2,h3⟩:=h;exact k h0 h1 h2 h3
def e0a6 {p0:Prop}{p1:Prop}{p2:Prop}{p3:Prop}{p4:Prop}{p5:Prop}{G:Prop}(h:p0/\p1/\p2/\p3/\p4/\p5)(k:p0->p1->p2->p3->p4->p5->G):G:=by obtain ⟨h0,h1,h2,h3,h4,h5⟩:=h;exact k h0 h1 h2 h3 h4 h5
def e1a1 {u4:Sort _}{p0:u4->Prop}{G:Prop}(h:∃ x0:u4,p0 x0)(k:∀ x0:u4,p0 x0->G):G:=by obtain ⟨x0,h0⟩:=h;exact k x0 h0
def e1a2 {u4:Sort _}{p0:u4->Prop}{p1:u4->Prop}{G:Prop}(h:∃ x0:u4,p0 x0/\p1 x0)(k:∀ x0:u4,p0 x0->p1 x0->G):G:=by obtain ⟨x0,h0,h1⟩:=h;exact k x0 h0 h1
def e1a3 {u4:Sort _}{p0:u4->Prop}{p1:u4->Prop}{p2:u4->Prop}{G:Prop}(h:∃ x0:u4,p0 x0/\p1 x0/\p2 x0)(k:∀ x0:u4,p0 x0->p1 x0->p2 x0->G):G:=by obtain ⟨x0,h0,h1,h2⟩:=h;exact k x0 h0 h1 h2
def e1a4 {u4:Sort _}{p0:u4->Prop}{p1:u4->Prop}{p2:u4->Prop}{p3:u4->Prop}{G:Prop}(h:∃ x0:u4,p0 x0/\p1 x0/\p2 x0/\p3 x0)(k:∀ x0:u4,p0 x0->p1 x0->p2 x0->p3 x0->G):G:=by obtain ⟨x0,h0,h1,h2,h3⟩:=h;exact k x0 h0 h1 h2 h3
def e2a2 {u4:Sort _}{vy:Sort _}{p0:u4->vy->Prop}{p1:u4->vy->Prop}{G:Prop}(h:∃ x0:u4,∃ x1:vy,p0 x0 x1/\p1 x0 x1)(k:∀ x0:u4,∀ x1:vy,p0 x0 x1->p1 x0 x1->G):G:=by obtain ⟨x0,x1,h0,h1⟩:=h;exact k x0 x1 h0 h1
def e2a3 {u4:Sort _}{vy:Sort _}{p0:u4->vy->Prop}{p1:u4->vy->Prop}{p2:u4->vy->Prop}{G:Prop}(h:∃ x0:u4,∃ x1:vy,p0 x0 x1/\p1 x0 x1/\p2 x0 x1)(k:∀ x0:u4,∀ x1:vy,p0 x0 x1->p1 x0 x1->p2 x0 x1->G):G:=by obtain ⟨x0,x1,h0,h1,h2⟩:=h;exact k x0 x1 h0 h1 h2
def e2a4 {u4:Sort _}{vy:Sort _}{p0:u4->vy->Prop}{p1:u4->vy->Prop}{p2:u4->vy->Prop}{p3:u4->vy->Prop}{G:Prop}(h:∃ x0:u4,∃ x1:vy,p0 x0 x1/\p1 x0 x1/\p2 x0 x1/\p3 x0 x1)(k:∀ x0:u4,∀ x1:vy,p0 x0 x1->p1 x0 x1->p2 x0 x1->p3 x0 x1->G):G:=by obtain ⟨x0,x1,h0,h1,h2,h3⟩:=h;exact k x0 x1 h0 h1 h2 h3
def e2a5 {u4:Sort _}{vy:Sort _}{p0:u4->vy->Prop}{p1:u4->vy->Prop}{p2:u4->vy->Prop}{p3:u4->vy->Prop}{p4:u4->vy->Prop}{G:Prop}(h:∃ x0:u4,∃ x1:vy,p0 x0 x1/\p1 x0 x1/\p2 x0 x1/\p3 x0 x1/\p4 x0 x1)(k:∀ x0:u4,∀ x1:vy,p0 x0 x1->p1 x0 x1->p2 x0 x1->p3 x0 x1->p4 x0 x1->G):G:=by obtain ⟨x0,x1,h0,h1,h2,h3,h4⟩:=h;exact k x0 x1 h0 h1 h2 h3 h4
def e3a2 {u4:Sort _}{vy:Sort _}{wd:Sort _}{p0:u4->vy->wd->Prop}{p1:u4->vy->wd->Prop}{G:Prop}(h:∃ x0:u4,∃ x1:vy,∃ x2:wd,p0 x0 x1 x2/\p1 x0 x1 x2)(k:∀ x0:u4,∀ x1:vy,∀ x2:wd,p0 x0 x1 x2->p1 x0 x1 x2->G):G:=by obtain ⟨x0,x1,x2,h0,h1⟩:=h;exact k x0 x1 x2 h0 h1
def e3a3 {u4:Sort _}{vy:Sort _}{wd:Sort _}{p0:u4->vy->wd->Prop}{p1:u4->vy->wd->Prop}{p2:u4->vy->wd->Prop}{G:Prop}(h:∃ x0:u4,∃ x1:vy,∃ x2:wd,p0 x0 x1 x2/\p1 x0 x1 x2/\p2 x0 x1 x2)(k:∀ x0:u4,∀ x1:vy,∀ x2:wd,p0 x0 x1 x2->p1 x0 x1 x2->p2 x0 x1 x2->G):G:=by obtain ⟨x0,x1,x2,h0,h1,h2⟩:=h;exact k x0 x1 x2 h0 h1 h2
def e3a4 {u4:Sort _}{vy:Sort _}{wd:Sort _}{p0:u4->vy->wd->Prop}{p1:u4->vy->wd->Prop}{p2:u4->vy->wd->Prop}{p3:u4->vy->wd->Prop}{G:Prop}(h:∃ x0:u4,∃ x1:vy,∃ x2:wd,p0 x0 x1 x2/\p1 x0 x1 x2/\p2 x0 x1 x2/\p3 x0 x1 x2)(k:∀ x0:u4,∀ x1:vy,∀ x2:wd,p0 x0 x1 x2->p1 x0 x1 x2->p2 x0 x1 x2->p3 x0 x1 x2->G):G:=by obtain ⟨x0,x1,x2,h0,h1,h2,h3⟩:=h;exact k x0 x1 x2 h0 h1 h2 h3
def e3a5 {u4:Sort _}{vy:Sort _}{wd:Sort _}{p0:u4->vy->wd->Prop}{p1:u4->vy->wd->Prop}{p2:u4->vy->wd->Prop}{p3:u4->vy->wd->Prop}{p4:u4->vy->wd->Prop}{G:Prop}(h:∃ x0:u4,∃ x1:vy,∃ x2:wd,p0 x0 x1 x2/\p1 x0 x1 x2/\p2 x0 x1 x2/\p3 x0 x1 x2/\p4 x0 x1 x2)(k:∀ x0:u4,∀ x1:vy,∀ x2:wd,p0 x0 x1 x2->p1 x0 x1 x2->p2 x0 x1 x2->p3 x0 x1 x2->p4 x0 x1 x2->G):G:=by obtain ⟨x0,x1,x2,h0,h1,h2,h3,h4⟩:=h;exact k x0 x1 x2 h0 h1 h2 h3 h4
def e4a4 {u4:Sort _}{vy:Sort _}{wd:Sort _}{xL:Sort _}{p0:u4->vy->wd->xL->Prop}{p1:u4->vy->wd->xL->Prop}{p2:u4->vy->wd->xL->Prop}{p3:u4->vy->wd->xL->Prop}{G:Prop}(h:∃ x0:u4,∃ x1:vy,∃ x2:wd,∃ x3:xL,p0 x0 x1 x2 x3/\p1 x0 x1 x2 x3/\p2 x0 x1 x2 x3/\p3 x0 x1 x2 x3)(k:∀ x0:u4,∀ x1:vy,∀ x2:wd,∀ x3:xL,p0 x0 x1 x2 x3->p1 x0 x1 x2 x3->p2 x0 x1 x2 x3->p3 x0 x1 x2 x3->G):G:=by obtain ⟨x0,x1,x2,x3,h0,h1,h2,h3⟩:=h;exact k x0 x1 x2 x3 h0 h1 h2 h3
def e4a6 {u4:Sort _}{vy:Sort _}{wd:Sort _}{xL:Sort _}{p0:u4->vy->wd->xL->Prop}{p1:u4->vy->wd->xL->Prop}{p2:u4->vy->wd->xL->Prop}{p3:u4->vy->wd->xL->Prop}{p4:u4->vy->wd->xL->Prop}{p5:u4->vy->wd->xL->Prop}{G:Prop}(h:∃ x0:u4,∃ x1:vy,∃ x2:wd,∃ x3:xL,p0 x0 x1 x2 x3/\p1 x0 x1 x2 x3/\p2 x0 x1 x2 x3/\p3 x0 x1 x2 x3/\p4 x0 x1 x2 x3/\p5 x0 x1 x2 x3)(k:∀ x0:u4,∀ x1:vy,∀ x2:wd,∀ x3:xL,p0 x0 x1 x2 x3->p1 x0 x1 x2 x3->p2 x0 x1 x2 x3->p3 x0 x1 x2 x3->p4 x0 x1 x2 x3->p5 x0 x1 x2 x3->G):G:=by obtain ⟨x0,x1,x2,x3,h0,h1,h2,h3,h4,h5⟩:=h;exact k x0 x1 x2 x3 h0 h1 h2 h3 h4 h5
def e5a3 {u4:Sort _}{vy:Sort _}{wd:Sort _}{xL:Sort _}{Ax:Sort _}{p0:u4->vy->wd->xL->Ax->Prop}{p1:u4->vy->wd->xL->Ax->Prop}{p2:u4->vy->wd->xL->Ax->Prop}{G:Prop}(h:∃ x0:u4,∃ x1:vy,∃ x2:wd,∃ x3:xL,∃ x4:Ax,p0 x0 x1 x2 x3 x4/\p1 x0 x1 x2 x3 x4/\p2 x0 x1 x2 x3 x4)(k:∀ x0:u4,∀ x1:vy,∀ x2:wd,∀ x3:xL,∀ x4:Ax,p0 x0 x1 x2 x3 x4->p1 x0 x1 x2 x3 x4->p2 x0 x1 x2 x3 x4->G):G:=by obtain ⟨x0,x1,x2,x3,x4,h0,h1,h2⟩:=h;exact k x0 x1 x2 x3 x4 h0 h1 h2
def e5a4 {u4:Sort _}{vy:Sort _}{wd:Sort _}{xL:Sort _}{Ax:Sort _}{p0:u4->vy->wd->xL->Ax->Prop}{p1:u4->vy->wd->xL->Ax->Prop}{p2:u4->vy->wd->xL->Ax->Prop}{p3:u4->vy->wd->xL->Ax->Prop}{G:Prop}(h:∃ x0:u4,∃ x1:vy,∃ x2:wd,∃ x3:xL,∃ x4:Ax,p0 x0 x1 x2 x3 x4/\p1 x0 x1 x2 x3 x4/\p2 x0 x1 x2 x3 x4/\p3 x0 x1 x2 x3 x4)(k:∀ x0:u4,∀ x1:vy,∀ x2:wd,∀ x3:xL,∀ x4:Ax,p0 x0 x1 x2 x3 x4->p1 x0 x1 x2 x3 x4->p2 x0 x1 x2 x3 x4->p3 x0 x1 x2 x3 x4->G):G:=by obtain ⟨x0,x1,x2,x3,x4,h0,h1,h2,h3⟩:=h;exact k x0 x1 x2 x3 x4 h0 h1 h2 h3
def e5a6 {u4:Sort _}{vy:Sort _}{wd:Sort _}{xL:Sort _}{Ax:Sort _}{p0:u4->vy->wd->xL->Ax->Prop}{p1:u4->vy->wd->xL->Ax->Prop}{p2:u4->vy->wd->xL->Ax->Prop}{p3:u4->vy->wd->xL->Ax->Prop}{p4:u4->vy->wd->xL->Ax->Prop}{p5:u4->vy->wd->xL->Ax->Prop}{G:Prop}(h:∃ x0:u4,∃ x1:vy,∃ x2:wd,∃ x3:xL,∃ x4:Ax,p0 x0 x1 x2 x3 x4/\p1 x0 x1 x2 x3 x4/\p2 x0 x1 x2 x3 x4/\p3 x0 x1 x2 x3 x4/\p4 x0 x1 x2 x3 x4/\p5 x0 x1 x2 x3 x4)(k:∀ x0:u4,∀ x1:vy,∀ x2:wd,∀ x3:xL,∀ x4:Ax,p0 x0 x1 x2 x3 x4->p1 x0 x1 x2 x3 x4->p2 x0 x1 x2 x3 x4->p3 x0 x1 x2 x3 x4->p4 x0 x1 x2 x3 x4->p5 x0 x1 x2 x3 x4->G):G:=by obtain ⟨x0,x1,x2,x3,x4,h0,h1,h2,h3,h4,h5⟩:=h;exact k x0 x1 x2 x3 x4 h0 h1 h2 h3 h4 h5
def e6a2 {u4:Sort _}{vy:Sort _}{wd:Sort _}{xL:Sort _}{Ax:Sort _}{RY:Sort _}{p0:u4->vy->wd->xL->Ax->RY->Prop}{p1:u4->vy->wd->xL->Ax->RY->Prop}{G:Prop}(h:∃ x0:u4,∃ x1:vy,∃ x2:wd,∃ x3:xL,∃ x4:Ax,∃ x5:RY,p0 x0 x1 x2 x3 x4 x5/\p1 x0 x1 x2 x3 x4 x5)(k:∀ x0:u4,∀ x1:vy,∀ x2:wd,∀ x3:xL,∀ x4:Ax,∀ x5:RY,p0 x0 x1 x2 x3 x4 x5->p1 x0 x1 x2 x3 x4 x5->G):G:=by obtain ⟨x0,x1,x2,x3,x4,x5,h0,h1⟩:=h;exact k x0 x1 x2 x3 x4 x5 h0 h1
def e7a2 {u4:Sort _}{vy:Sort _}{wd:Sort _}{xL:Sort _}{Ax:Sort _}{RY:Sort _}{ZQ:Sort _}{p0:u4->vy->wd->xL->Ax->RY->ZQ->Prop}{p1:u4->vy->wd->xL->Ax->RY->ZQ->Prop}{G:Prop}(h:∃ x0:u4,∃ x1:vy,∃ x2:wd,∃ x3:xL,∃ x4:Ax,∃ x5:RY,∃ x6:ZQ,p0 x0 x1 x2 x3 x4 x5 x6/\p1 x0 x1 x2 x3 x4 x5 x6)(k:∀ x0:u4,∀ x1:vy,∀ x2:wd,∀ x3:xL,∀ x4:Ax,∀ x5:RY,∀ x6:ZQ,p0 x0 x1 x2 x3 x4 x5 x6->p1 x0 x1 x2 x3 x4 x5 x6->G):G:=by obtain ⟨x0,x1,x2,x3,x4,x5,x6,h0,h1⟩:=h;exact k x0 x1 x2 x3 x4 x5 x6 h0 h1
def us0 {α:Type}{P:List α->Prop}(h:P [])(us:List α)(e:us.length=0):P us:=by
 cases us with
 |nil=>exact h
 |cons=>cases e
def us1 {α:Type}{P:List α->Prop}(h:∀ a,P [a])(us:List α)(e:us.length=1):P us:=by
 cases us with
 |nil=>cases e
 |cons a t=>exact us0 (P:=fun t=>P (a :: t)) (h a) t (Nat.succ.inj e)
def us2 {α:Type}{P:List α->Prop}(h:∀ a b,P [a,b])(us:List α)(e:us.length=2):P us:=by
 cases us with
 |nil=>cases e
 |cons a t=>exact us1 (P:=fun t=>P (a :: t)) (h a) t (Nat.succ.inj e)
def us3 {α:Type}{P:List α->Prop}(h:∀ a b c,P [a,b,c])(us:List α)(e:us.length=3):P us:=by
 cases us with
 |nil=>cases e
 |cons a t=>exact us2 (P:=fun t=>P (a :: t)) (h a) t (Nat.succ.inj e)
def us4 {α:Type}{P:List α->Prop}(h:∀ a b c d,P [a,b,c,d])(us:List α)(e:us.length=4):P us:=by
 cases us with
 |nil=>cases e
 |cons a t=>exact us3 (P:=fun t=>P (a :: t)) (h a) t (Nat.succ.inj e)
def cutG {α:Sort _}{G:α->Prop}{P:Prop}(k:(∀ a,G a)->P)(h:∀ a,G a):P:=k h
def cutP {G P:Prop}(k:G->P)(h:G):P:=k h
def lx0 {α:Type}(us:List α)(e:us.length=0):us=[]:=us0 (P:=fun us=>us=[]) rfl us e
def lx1 {α:Type}(us:List α)(e:us.length=1):∃ a,us=[a]:=us1 (P:=fun us=>∃ a,us=[a]) (fun a=>#[a,rfl]) us e
def lx2 {α:Type}(us:List α)(e:us.length=2):∃ a b,us=[a,b]:=us2 (P:=fun us=>∃ a b,us=[a,b]) (fun a b=>#[a,b,rfl]) us e
open PySem renaming wpAny_bind->am,wpAny_pure->ap,Addr->ci,Value->cr,starEach->gf,sizeLine->gh,Shared->gn,wpAny->gu,model->gv,mainGlobals->gC,Stmt->gV,Program->gY,wpAny_holding->g8,attributeBase->hJ,FuncData->hV,wpAny_newObj_type->hW,Expr->hZ,Heap->h8,World->il,wpAny_call_entry->im,wpAny_mono->iA,behindInMarks->iB,sizeLine_eq->iC,wpAny_field->iD,wpAny_setState_of->iF,backTo->iN,Around->iW,compareOp->iX,excClassObj->i9,wpAny_askSetting->jb,SetTable->jd,wpAny_loadPart_at->jf,codeAny_builtin->ji,wpAny_setField_rec->jl,codeAny_mono->jp,swapsWith->js,mem_of_lookup->jz,wpAny_truthy_bool->jC,foldedSetIterable->jD,intKind->jI,ExcBaseFacts->jK,wpAny_Call_Name_kw->jQ,cLine->jS,wpAny_loadName_local->jX,holding->jY,keywordEach->jZ,wpAny_typeOf->j0,sysModules->j7,plainId_quiet->j9,wpAny_seqItems->ki,unsupported->kA,tupleKind_room_in1->kC,wpAny_passesOwn->kK,rawInt->kP,builtinLookup_eq_fast->kR,Scope->lh,wpAny_rule->lj,wpAny_isInstance->lw,binaryOp->lK,codeAny->lO,codeAny_of_tree->lQ,wpAny_call->lU,getMethod->lW,wpAny_of_eq->lX,bootBuiltins->md,standAt->mf,backToKw->mh,wpAny_setField->ml,typeLookup->mB,hashInt->mD,wpAny_standAt->mG,callWith->mH,sliceBounds->mI,codeAny_call_builtin->mM,boot_len->mO,wpAny_execs_nil->mX,typeLookup_type->mZ,getItem->nc,call_meetsIn->nj,builtinsNs->nE,closureFor->nK,relabel->og,wpAny_attempt->ot,wpAny_comprehension_free->ou,wpAny_onRaise->oy,tupleKind->oA,GenState->oC,wpAny_Name->oU,assignEach->oV,Keyword->oX,intKind_is->o4,sub_set_self->o5,wpAny_specialOf->o7,wpAny_updateSeq->pc,IsPart->pE,firstArgMember->pG,IsPair->pJ,wpAny_updateSeq_pair->pK,valueAt->pN,wpAny_loadName_free->pR,wpAny_setEntries_of->pW,Obj->pY,wpAny_isSubtype_exc->qa,isTrue->qd,wpAny_load->qe,wpAny_pyIter_tuple->qf,CmpOp->qx,wpAny_Call_method->qy,callerA->qz,cStatics->qD,ks_wpAt_mono->qE,plainObj_wpAny_Assign_Attribute->qI,wpAny_eqBool_int->qN,PassesOwn->qO,argsOk->qQ,subscripted->qY,IsZip->rj,wpAny_letGo->rn,Within->ro,wpAny_AugAssign_SubscriptAny->rs,letOwnedTupleGo->rA,wpAny_tests_nil->rD,setItem->rH,BindsTo->rK,OwnTail->rP,wpAny_Compare1->rR,assign->rS,recursionLimit->rV,bindArgs->rW,atKey->r8,relayAll->se,storeSet->sf,entryFor->sg,entryFor_alias->sh,wpAny_runValue->si,isSubtype_type->sj,compEnvC->sr,refuseLoop->sw,evalPart_none->sL,wpAny_getItem_list_slice->sM,call->sN,wpAny_newList->sP,wpAt->sR,table->sY,pickOrder->sZ,TriplesOk->tm,noteFrame->tq,field->ts,spliced->tH,truthy->tJ,leaving->tK,seqIndex_neg->tM,wpAny_Call_method_late->tO,wpAny_isTrue_Compare1->tW,weight_type_call_type->t6
open PySem.Heap renaming get?_push_of_some->ce,lt_size->gp,get?_push_size->gx,get?_update_other->g9,get?_update_self->ii,SameBut->iu,size_push->i4,FlyingW->kT,get?_none_of_le->mo,get?_push_at->nw,size_update->nP,get?_update_ne->pf,IsTuple->pP,MadeExcOf->qM
open PySem.W renaming Frag->ga,nsIn->gE,findIn->gR,mg_of->ig,envX->io,keepIn->iI,excIn->iL,codeIn->iR,fnOf->i7,kia_one->jc,Looks->jj,emptyDict->jk,ks_superIn->jq,instObj->jM,fnX->jO,mroIn->kf,exmAny->kG,hideAll->kZ,methodObj->lF,fnIn->lJ,plainGet->lS,clsIn->lY,kas_rev_size->mn,of_hideAll->mz,hasDictIn->mQ,tabIn->m4,isFn->nI,methodCall_KW->nV,lookIn->oi,typeIn->oj,looks_findIn->ol,hideAll_get->oB,plainGet_of->oE,looks_clsIn->oF,callWith_of->oN,looks_mroIn->oO,ks_superObj->oP,callWith_K->oW,isNs_of_in->o6,plainOver->pi,takerIn->pS,makesIn->pT,OpenLaw->pX,kitOne->qg,CodeHd->qk,tabObj->qm,ks_loadName_global->qo,MethP->qF,kas_rev->qG,cellsFrom_some->qP,funFrames_hide->qR,hideAll_none->rq,looks_opaque->rG,callWith_K0->rL,codeRec_of->rY,tail_of_in->su,mg_none_of->sv,kitx_list->sC,kitx_dict->sD,handedIn->sK,kat_cons->sS,keeps_M->tz,alongIn->tD,kas_place->tF,kat_yes->tG,kat_go->tT,kat_no->tU,nsOkIn->tV,WalkO->t7
open Nat renaming le_refl->gg,ne_of_lt->gB,lt_of_lt_of_le->gG,le_trans->gW,zero_le->iz,ne_of_gt->iK,lt_succ_self->iV,lt_of_le_of_lt->i8,lt_irrefl->jm,le_of_lt_succ->jx,le_succ->kQ,le_of_lt->kU,lt_trans->mJ,succ_pos->mK,mod_lt->mY,lt_succ_of_lt->nA,le_add_right->nW,le_of_eq->pU,sub_self->pZ,le_of_not_lt->qh,zero_add->sd,div_lt_of_lt_mul->sO,lt_trichotomy->tY
open List renaming mem_cons_self->gk,mem_cons_of_mem->gl,length_map->gm,size_toArray->gy,length_append->gz,mem_append_right->gI,length_singleton->gJ,length_cons->gK,range->gL,map_cons->gN,mem_cons->gO,not_mem_nil->gP,length_filter_le->gX,lookup_cons->hI,find?_cons->ij,mem_filter->ik,mem_append_left->iw,getD_eq_getElem?_getD->iO,take_of_length_le->iQ,filter_cons->iT,getElem?_eq_getElem->iU,getElem?_map->ja,mem_of_getElem?->jg,pairwise_singleton->jh,getElem?_append_right->jo,map_append->jy,lookup->jF,getElem?_eq_none->jL,append_nil->jP,map_map->jR,filterMap_cons->jW,replicate->j4,mem_append->ko,length_range->kD,append_assoc->kE,filter_congr->kF,getElem?_of_mem->kM,length_take->kS,getElem?_append_left->kW,length_set->lu,foldl_cons->lv,mem_singleton->lA,nodup_nil->lP,perm_append_comm->lZ,length_drop->l8,getElem?_set_ne->mq,take_append_of_le_length->mr,length_nil->mu,nil_append->mw,map_congr_left->mC,drop_eq_getElem_cons->m7,length->ng,reverse_cons->ni,any_cons->ny,eraseIdx_cons_succ->nM,all_eq_true->nQ,getElem?_set_self->n9,map_nil->oa,filterMap_eq_map'->oh,of_mem_zip->om,all_cons->pr,ext_getElem?->pO,eraseIdxIfInBounds_toArray->pV,filter_map->qu,getElem?_take_of_lt->qX,findIdx?->rc,getElem?_replicate->rB,getElem?_cons_succ->rF,pairwise_lt_range->rO,length_replicate->rX,take_append_drop->r9,eq_nil_or_concat->sx,concat_eq_append->sy,getElem?_range->sQ,filterMap_map->sU,getElem?_take->sV,getElem?_drop->sW,map_filterMap->sX,contains_cons->tE,take_sublist->tL,getElem_mem->tZ,any_eq_true->t9,drop_length->uc,zipIdx_cons->ud,take_length->ue,getElem_map->uf
open Array renaming length_toList->gr,getElem?_toList->hO,getElem?_eq_getElem->iP,getD_eq_getD_getElem?->ku,size_map->lM,toList_extract->mj,toList_append->oY,append_assoc->ph,toList_push->pF,toList->rr,getElem?_eq_none->rE,find?_toList->sJ
open Bool renaming false_ne_true->gw,and_eq_true->hR,false_eq_true->kh,eq_iff_iff->lq,xor_assoc->lR,xor_false->mW,false_xor->oT,and_self->pA,or_false->rf,not_eq_true'->tS
open PySem.SetTable renaming below->gD,sizeAbove->ie,eraseAt->iv,runEnd->iG,insertAt->iH,bits->iJ,leap->jA,fresh->jE,has->jN,turns->jT,fill->kd,Probe->ky,advance->kI,grown->lx,laid->mS,freeSlot->o8,layClean->o9,probe->qb,slot->qr,roomFor->sG,fits->tQ,road->tR
open PySem.Value renaming ref->gF,type->jw,int->kO,isInt->l9,bool->qv,float->rQ
open PySem.F renaming excBase_ValueError->gM,slot_dict_get->jG,slot_tuple_iterator_next->kY,plainAttrs_list->lp,entry_dict_get->lG,plainAttrs_dict->nq,plain_list_iadd->nO,slot_list_pop->n6,type_list_pop->n8,plain_set_new->oR,slot_zip_next->oS,plain_extend_loop->pH,slot_dict_delitem->qq,args_dict_get_2->qJ,args_dict_get_3->qK,args_tuple_iterator_next_1->qS,slot_dict_pop->qZ,type_dict_get->q7,entry_tuple_iterator_next->rh,entry_proto_collect->td,plain_proto_collect->tj
open Sum renaming inl->gQ,inr->pQ
open List.Pairwise renaming nil->gS,filter->gU,imp->oo
open False renaming elim->gZ
open Option renaming isSome_map->ic,getD_none->pM,map->sE
open Option.some renaming inj->iq
open PySem.SetTable.layClean renaming free->iE
open PySem.Builtin.SmallTypes renaming nextOf->iM,ownedTupleIsFree->ju,ownedTupleHandOut->mV
open PySem.Around renaming under_plainId->iY,under->qW,frames_deeper->rM,under_plain->sI
open PySem.Calls renaming evalArgs_plain->iZ,spliced_cons->jt,callWith_builtin->jB,spliced_nil->kq,loadGlobal_builtin->m9,Name_function_global->qw,call_function_entry->qL
open PySem.SetTable.probe renaming go->je
open PyProof.Rows renaming callWith_type1->jv,boot_sorted->jH,slot_tuple_getitem->jJ,boot_list->jU,IntsAre->kg,seqObj->lH,AllBare->mE,boot_set->m8,envOfC->nS,callWith_builtin1->oQ,Subscript_->rZ,size_push'->sk,listUpdate_at->sT,subscriptTail_builtinR->tN
open PySem.Spec renaming sameAll->jV,same->j5
open PySem.Builtin.Slice renaming slicePlaces->kj,sliceAdjust->pB
open PySem.Builtin.Tuple renaming tupleExact->kB,tupleItemsOf->pq
open Int renaming toNat_natCast->kH,le_refl->nC,emod_lt_of_pos->pL,emod_nonneg->qH
open PySem.Builtin.List renaming listSameRef->kJ,listExtendWith->pw
open PySem.W.KasT renaming kasWp->kN,kasWp_bind->my
open PySem.Str renaming ofString->kX
open PySem.Heap.SameBut renaming refl->k8,update->nN
open PySem.Shared renaming TypeIs->k9
open Nat.succ renaming inj->lE
open PySem.SeqAt renaming noMixAll->lN,noMix->oJ,shaped->rC
open Or renaming inl->lV,inr->tX
open ForInStep renaming yield->l6
open PySem.SetTable.below renaming go->mi
open Sum.inl renaming inj->mP
open PySem.Code renaming quiet_builtin->mU,isFrame->rJ
open PySem.PyData renaming canLayAll0->m6,depthAll->nY,canLay0->oz,depth->rg
open List.Perm renaming append_left->nJ,cons->nX,refl->nZ,of_eq->sF
open PyProof.Rows.F renaming plain_set_update_loop->oq,entry_set_update_loop->sH
open PySem.Builtin.Frozenset renaming newClass->oH,oneOther->oK
open String renaming splitOnAux->pC,splitOn->qt
open PySem.Heap.UpToSlots renaming of_keeps->pI
open Classical renaming byContradiction->qc
open PyProof.Rows.IntsAre renaming int_at->qi,length->qj
open PySem.Heap.IsSliceOf renaming new->qp
open PySem.pickOrder renaming go->qA
open PySem.W.Looks renaming ld->qT
open PySem.SeqAt.EqAt renaming int_str->qU,str_int->qV
open PySem.Heap.DictOf renaming new->rN
open PySem.Heap.Ns1 renaming of_empty->rT
open PySem.Data renaming fields->sA
open Function renaming comp->tP
abbrev f9:=@if_pos
abbrev gc:=@if_neg
abbrev gA:=@absurd
abbrev gH:=@decide_eq_false
abbrev hX:=@decide_eq_true_eq
abbrev jr:=@of_decide_eq_true
abbrev lm:=@or_false
abbrev nL:=@of_decide_eq_false
abbrev oG:=@if_false
abbrev oM:=@beq_self_eq_true
abbrev oZ:=@not_or
abbrev qC:=@bne_self_eq_false
def q0q{p:Prop}(h:p:=by decide):p:=h
def q0d{p:Prop}(h:p:=by omega):p:=h
def q0o{p:Prop}(h:p:=by simp):p:=h
def q0s{p:Prop}(h:p:=by decide +kernel):p:=h
def q0a{p:Prop}(h:p:=by lia):p:=h
namespace L2
open PySem PySem.Spec PyProof.Rows
abbrev Key:=Sum Int Str
noncomputable def zi:Key->cr->Bool
 | .inl k,v=>l9 k v
 | .inr x,v=>Value.isStrOf x v
noncomputable def a0k(w:il):Key->Int
 | .inl k=>mD k
 | .inr x=>hashStr w x
def vB:∀{k:Key} {v:cr},zi k v=true->(∃i t,k=gQ i/\v=kO i t)\/(∃x t,k=pQ x/\v=Value.str x t)
 | .inl i,v,h=>by
  obtain⟨t,e⟩:=Value.isInt_shape (k:=i) (v:=v) h;exact .inl #[i,t,rfl,e]
 | .inr x,v,h=>by obtain⟨t,e⟩:=Value.isStrOf_shape (x:=x) (v:=v) h;exact .inr #[x,t,rfl,e]
def MO(i:Int)(t:Tok):zi (.inl i) (.int i t)=true:=by simp[zi,l9]
def MP(x:Str)(t:Tok):zi (.inr x) (.str x t)=true:=by simp[zi,Value.isStrOf]
def VD(a b:Int):decide ((gQ a:Key)=gQ b)=(a==b):=by
 by_cases e:a=b
 ·subst e;simp
 ·have h:¬(gQ a:Key)=gQ b:=λq=>e<|mP q;rw[gH h];exact(beq_eq_false_iff_ne.mpr e).symm
def VE(a b:Str):decide ((pQ a:Key)=pQ b)=decide (a=b):=by
 by_cases e:a=b
 ·subst e;simp
 ·have h:¬(pQ a:Key)=pQ b:=λq=>e<|Sum.inr.inj q;rw[gH h,gH e]
def VF(a:Int)(b:Str):decide ((gQ a:Key)=pQ b)=false:=gH<|λq=>nomatch q
def VG(a:Str)(b:Int):decide ((pQ a:Key)=gQ b)=false:=gH<|λq=>nomatch q
noncomputable def uO(prog:gY)(w:il):PySem.KeyKind prog w Key where
 is:=zi
 hash:=a0k w
 inj:=λv a b ha hb=>by
  rcases vB ha with⟨i,t,rfl,rfl⟩|⟨x,t,rfl,rfl⟩
  ·rcases vB hb with⟨j,u,rfl,e⟩|⟨y,u,rfl,e⟩
   ·injection e with e1 _;rw[e1]
   ·exact nomatch e
  ·rcases vB hb with⟨j,u,rfl,e⟩|⟨y,u,rfl,e⟩
   ·exact nomatch e
   ·injection e with e1 _;rw[e1]
 byValue:=λk v h=>by rcases vB h with⟨i,t,rfl,rfl⟩|⟨x,t,rfl,rfl⟩<;>rfl
 pyHash:=λhv h=>by
  rcases vB hv with⟨i,t,rfl,rfl⟩|⟨x,t,rfl,rfl⟩
  ·exact wpAny_pyHash_int h
  ·exact wpAny_pyHash_str h
 eqBool:=λhu hv h=>by
  rcases vB hu with⟨i,t,rfl,rfl⟩|⟨x,t,rfl,rfl⟩
  ·rcases vB hv with⟨j,u,rfl,rfl⟩|⟨y,u,rfl,rfl⟩
   ·rw[VD]at h;exact qN h
   ·rw[VF]at h;exact qU i t y u _ _ _ _ h
  ·rcases vB hv with⟨j,u,rfl,rfl⟩|⟨y,u,rfl,rfl⟩
   ·rw[VG]at h;exact qV x t j u _ _ _ _ h
   ·rw[VE]at h;exact wpAny_eqBool_str h
 «strs»:=λk x t v h=>by
  rcases vB h with⟨i,u,rfl,e⟩|⟨y,u,rfl,e⟩
  ·exact nomatch e
  ·injection e with e1 _;subst e1;cases v<;>rfl
def HD(a:gY)(w:il)(i:Int)(t:Tok):(uO a w).is (.inl i) (.int i t)=true:=MO i t
def HE(a:gY)(w:il)(x:Str)(t:Tok):(uO a w).is (.inr x) (.str x t)=true:=MP x t
set_option genInjectivity true in
inductive V where
 | vU|bl (b:Bool)|int (i:Int)|str (x:Str)|Ly (b:Array UInt8)|VH (b:UInt64)|ref (a:ci)|ty (n:String)
 deriving DecidableEq
def RelV:V->cr->Prop
 | .vU,u=>u=Value.none
 | .bl b,u=>u=qv b
 | .int i,u=>∃t,u=kO i t
 | .str x,u=>∃t,u=Value.str x t
 | .Ly b,u=>∃t,u=Value.bytes b t
 | .VH b,u=>∃t,u=rQ b t
 | .ref a,u=>u=gF a
 | .ty n,u=>u=jw n
abbrev Vals:List V->List cr->Prop:=Paired RelV
def Vals.length{xs:List V}{us:List cr}(r:Vals xs us):xs.length=us.length:=Paired.length r
def Vals.get:∀{a:List V} {b:List cr} {i:Nat} {x:V},Vals a b->a[i]?=↑x->∃u,b[i]?=↑u/\RelV x u:=by
 intro _ _ i x z
 induction z generalizing i with
 |nil=>intro e;simp at e
 |cons r t c =>
  intro e
  cases i with
  |zero=>simp at e;subst e;exact#[_,rfl,r]
  |succ i=>exact e1a2 (c<|by simpa using e) λu d f=>#[u,by simpa using d,f]
def Vals.set(r:RelV x u):∀{a:List V} {b:List cr} (i:Nat),Vals a b->Vals (a.set i x) (b.set i u)
 |_,_,_,.nil=>.nil
 |_,_,0,.cons _ t=>.cons r t
 |_,_,i+1,.cons q t=>.cons q<|Vals.set r i t
def Vals.append:∀{a b:List V} {c d:List cr},Vals a c->Vals b d->Vals (a++b) (c++d):=by
 intro _ _ _ _ z s
 induction z with
 |nil=>exact s
 |cons h t e=>exact .cons h e
def Vals.take:∀{a:List V} {b:List cr} (n:Nat),Vals a b->Vals (a.take n) (b.take n)
 |_,_,0,_=>.nil
 |_,_,_+1,.nil=>.nil
 |_,_,n+1,.cons r t=>.cons r<|Vals.take n t
def Vals.drop:∀{a:List V} {b:List cr} (n:Nat),Vals a b->Vals (a.drop n) (b.drop n)
 |_,_,0,r=>r
 |_,_,_+1,.nil=>.nil
 |_,_,n+1,.cons _ t=>Vals.drop n t
def yF:Option V->Option cr->Prop
 |some v,some u=>RelV v u
 |none,none=>True
 |_,_=>False
def KV{a:Type}:List (a×V)->List (a×cr)->Prop:=Paired λ(p:a×V)(q:a×cr)=>p.1=q.1/\RelV p.2 q.2
noncomputable def kV:Key->V
 | .inl i=>.int i
 | .inr x=>.str x
inductive HO where
 | lst (xs:List V)
 | tup (xs:List V)
 | dK (wE:List (Key×V))|dT (wE:List (List Key×V))
 | set (S:Int->Bool) (n:Nat)
 | ins (C dx:ci) (fs:List (Str×V))
 | own (x:ci)
 | xd (fs:List (Str×V))
 | met (f x:ci)
 | xY (lo hi:Int)
 | Jg (o:Obj) (u:HO)
 | Ew (ps:Array cr)
 | ext (φ:h8->Prop)
abbrev Hp:=ci->Option HO
noncomputable def upd(H:Hp)(a:ci)(o:HO):Hp:=λb=>if b=a then some o else H b
def ul:upd H a o a=↑o:=by unfold upd;rw[f9 rfl]
def ui(h:b≠a):upd H a o b=H b:=by unfold upd;rw[gc h]
def RZ:upd (upd H a o) a u=upd H a u:=by funext b;unfold upd;split<;>rfl
def X7{H:Hp}{a b:ci}{o u:HO}(h:H a=↑o)(c:H b=↑u)(d:o≠u):a≠b:=by intro e;subst e;rw[h]at c;exact d<|iq c
def uu{H:Hp}{a b:ci}{o:HO}(h:H a=↑o)(c:H b=none):a≠b:=by intro e;subst e;rw[h]at c;cases c
section
variable(P:gY)(w:il)
def vv(H:Hp)(h:h8)(a:ci):HO->Prop
 | .lst xs=>xs.length<=gh/\∃(zg:List cr)(n:Nat),Vals xs zg/\h.get? a=some { cls:=.type "list",data:=.seq zg.toArray n}
 | .tup xs=>xs.length<=gh/\∃zg:List cr,Vals xs zg/\IsTup h a zg.toArray
 | .dK wE=>wE.length<=gh/\(a==j7)=false/\∃vs,KV wE vs/\h.DictOf (uO P w) a vs
 | .dT wE=>wE.length<=gh/\(a==j7)=false/\∃xs:List (List Key×ci×cr),
   Paired (λ(p:List Key×V)(q:List Key×ci×cr)=>p.1=q.1/\H q.2.1=↑(.tup<|p.1.map kV)/\RelV p.2 q.2.2) wE xs /\
   ∃o es ep,h.get? a=↑o/\o.ExactDict/\o.data=.dict es ep/\es.toList=xs.map (entryOfKey<|oA<|uO P w)/\(xs.map (·.1)).Nodup
 | .set S n=>h.SetOf (jI P w) a S n
 | .ins C dx fs=>H dx=↑(.own a)/\fs.length<=1000/\dx≠a/\h.get? a=↑(jM C dx) /\
   ∃mA,h.Ns1 dx mA/\(∀f,yF (fs.lookup f)<|mA f)/\ro mA (fs.map (·.1))
 | .own _=>∃o,h.get? a=↑o
 | .xd fs=>∃mA,h.Ns1 a mA/\∀f,yF (fs.lookup f)<|mA f
 | .xY lo hi=>∃t u v,h.get? a=some { cls:=.type "range",data:=.fields #v[.int lo t,.int hi u,.int 1 v]}
 | .Jg o u=>h.get? a=↑o/\vv H h a u
 | .Ew ps=>h.get? a=some { cls:=.none,data:=.fields ps}
 | .met f x=>h.get? a=↑(lF (.ref f)<|.ref x)
 | .ext φ=>φ h/\(∃o,h.get? a=↑o)/\∀h1 h2:h8,φ h1->(∀o,h1.get? a=↑o->h2.get? a=↑o)->φ h2
def xf(H:Hp)(h:h8):Prop:=∀a o,H a=↑o->vv P w H h a o
end
def vv.lt(x:vv P w H h a o):a<h.objs.size:=by
 cases o with
 |lst c=>obtain⟨_,_,_,_,e⟩:=x;exact gp e
 |tup c=>obtain⟨_,_,_,p⟩:=x;exact p.lt
 |dK b=>obtain⟨_,_,_,_,o,_,_,e,_⟩:=x;exact gp e
 |dT b=>obtain⟨_,_,_,_,o,_,_,e,_⟩:=x;exact gp e
 |set S n=>obtain⟨o,_,_,_,e,_⟩:=x;exact gp e
 |ins C d fs=>obtain⟨_,_,_,e,_⟩:=x;exact gp e
 |own y=>obtain⟨_,e⟩:=x;exact gp e
 |xd fs=>obtain⟨_,⟨_,_,_,e,_⟩,_⟩:=x;exact gp e
 |xY lo g=>obtain⟨_,_,_,e⟩:=x;exact gp e
 |Jg i u=>obtain⟨e,_⟩:=x;exact gp e
 |Ew j=>exact gp<|show h.get? a=some _ from x
 |met f y=>exact gp<|show h.get? a=some _ from x
 |ext k=>obtain⟨_,⟨_,e⟩,_⟩:=x;exact gp e
def Paired.VI:∀{c:List g} {d:List i},Paired F c d->(∀a b,F a b->G a b)->Paired G c d:=by
 intro _ _ z f
 induction z with
 |nil=>exact .nil
 |cons h t e=>exact .cons (f _ _ h) e
def vv.CC(x:vv P w H h a o)(k:∀b u,(b=a\/H b=↑(.own a))->h.get? b=↑u->F.get? b=↑u)
 (G:∀b,H b=↑(.own a)->D b=↑(.own a))(I:∀b m,H b=↑(.tup m)->D b=↑(.tup m)):vv P w D F a o:=by
  induction o with
  |lst m=>obtain⟨z,l,n,r,e⟩:=x;exact#[z,l,n,r,k _ _ (.inl rfl) e]
  |tup m=>obtain⟨z,l,r,g,e,c⟩:=x;exact#[z,l,r,g,k _ _ (.inl rfl) e,c]
  |dK s=>obtain⟨z,y,J,r,g,i,j,e,c⟩:=x;exact#[z,y,J,r,g,i,j,k _ _ (.inl rfl) e,c]
  |dT s =>
    obtain⟨z,y,m,r,g,i,j,e,c⟩:=x
    exact#[z,y,m,Paired.VI r λp q z=>#[z.1,I _ _ z.2.1,z.2.2],g,i,j,k _ _ (.inl rfl) e,c]
  |set S n=>obtain⟨g,i,j,t,e,c⟩:=x;exact#[g,i,j,t,k _ _ (.inl rfl) e,c]
  |ins C Q fs =>
    obtain⟨d,z,L,e,A,⟨B,i,j,M,c⟩,r⟩:=x
    exact#[G _ d,z,L,k _ _ (.inl rfl) e,A,#[B,i,j,k _ _ (.inr d) M,c],r]
  |own y=>obtain⟨g,e⟩:=x;exact#[g,k _ _ (.inl rfl) e]
  |xd fs=>obtain⟨A,⟨B,i,j,e,c⟩,r⟩:=x;exact#[A,#[B,i,j,k _ _ (.inl rfl) e,c],r]
  |xY lo R=>obtain⟨t,u,v,e⟩:=x;exact#[t,u,v,k _ _ (.inl rfl) e]
  |Jg g u N=>obtain⟨e,q⟩:=x;exact#[k _ _ (.inl rfl) e,N q]
  |Ew O =>
    have e:h.get? a=some { cls:=.none,data:=.fields O}:=x
    exact k a _ (.inl rfl) e
  |met f y =>
    have e:h.get? a=↑(lF (.ref f)<|.ref y):=x
    exact k a _ (.inl rfl) e
  |ext T=>obtain⟨p,⟨o,e⟩,E⟩:=x;exact#[E _ _ p λo q=>k _ _ (.inl rfl) q,#[o,k _ _ (.inl rfl) e],E]
def xf.lt(x:xf P w H h)(e:H a=↑o):a<h.objs.size:=(x a o e).lt
def xf.fresh(x:xf P w H h)(e:h.objs.size<=a):H a=none:=by
 cases q:H a with
 |none=>rfl
 |some u=>exact gA (gG (x.lt q) e)<|jm _
def xf.kept(x:xf P w H h)(k:∀b u,h.get? b=↑u->c.get? b=↑u):xf P w H c:=λa o e =>
 (x a o e).CC (λb u _ q=>k b u q) (λ_ q=>q) λ_ _ q=>q
def xf.laid(x:xf P w H h)(k:∀b u,h.get? b=↑u->h'.get? b=↑u)(i:h.objs.size<=a)(d:vv P w (upd H a o) h' a o):xf P w (upd H a o) h':=λb u e=>by
 have f:=x.fresh i;by_cases g:b=a
 ·subst g;rw[ul]at e;cases e;exact d
 ·rw[ui g]at e;exact(x b u e).CC (λc v _ q=>k c v q) (λc q=>by rw[ui<|uu q f];exact q) λc j q=>by rw[ui<|uu q f];exact q
def Rd(H:Hp)(a:ci)(u:HO):Prop:=H a=↑u\/∃o,H a=↑(.Jg o u)
def Rd.of(h:H a=↑u):Rd H a u:=.inl h
def Rd.ok(r:Rd H a u)(x:xf P w H h):vv P w H h a u:=by
 rcases r with r|⟨o,r⟩
 ·exact x a u r
 ·obtain⟨_,q⟩:=x a _ r;exact q
def X8:Option HO->Prop
 |some (.lst _)=>True
 |some (.dK _)=>True
 |some (.dT _)=>True
 |some (.set _ _)=>True
 |some (.ins _ _ _)=>True
 |some (.ext _)=>True
 |_=>False
def xf.write(t:xf P w H h)(g:X8 (H x))(o:e=x\/H e=↑(.own x))(k:∀b u,b≠e->h.get? b=↑u->h'.get? b=↑u)(m:∃u,h'.get? e=↑u)
 (n:vv P w (upd H x p) h' x p):xf P w (upd H x p) h':=λb u q=>by
  have d:∀c y,H c=↑(.own y)->c≠x:=λc y r z=>by subst z;rw[r]at g;exact g
  have f:∀c i,H c=↑(.tup i)->c≠x:=λc i r z=>by subst z;rw[r]at g;exact g
  by_cases j:b=x
  · subst j; rw[ul]at q; cases q; exact n
  · rw[ui j]at q
    by_cases a:b=e
    · have s : H b = some (.own x) := by
        rcases o with z|z
        · exact gA (a.trans z) j
        · rw[a]; exact z
      rw[q]at s;cases s
      obtain⟨v,A⟩:=m
      exact#[v,by rw[a];exact A]
    · refine(t b u q).CC (λc v l r => k c v ?_ r) (λc r => by rw[ui<|d c b r]; exact r) λc i r => by rw[ui<|f c i r]; exact r
      rcases l with rfl|l
      · exact a
      · rintro rfl
        rcases o with z|z
        · exact d c b l z
        · rw[l]at z; cases z; exact j rfl
structure Un(fs ex:List ci)(H H':Hp)(h h':h8):Prop where
 keep:∀b o,h.get? b=↑o->H b=none->b∉fs->b∉ex->h'.get? b=↑o
 slot:∀b o,h.get? b=↑o->H b=none->b∈fs->b∉ex->∃sl,h'.get? b=some { o with slots:=sl}
 free:∀b o,h.get? b=↑o->H b=none->b∉ex->H' b=none
 there:∀b o,h.get? b=↑o->b∉ex->∃o',h'.get? b=↑o'
 AO:∀b xs,H b=↑(.tup xs)->H' b=↑(.tup xs)
 Ay:∀b o u,H b=↑(.Jg o u)->H' b=↑(.Jg o u)
 Az:∀b ps,H b=↑(.Ew ps)->∃more,H' b=↑(.Ew<|ps++more)
def Un.any(u:Un fs e H H1 h f)(q:h.get? b=↑a)(n:H b=none)(c:b∉e):∃g,f.get? b=some { a with slots:=g}:=by
 by_cases d:b∈fs
 ·exact u.slot b a q n d c
 ·exact#[a.slots,u.keep b a q n d c]
def Un.trans(a:Un fs ex H H1 h h1)(b:Un fs ex H1 H2 h1 h2):Un fs ex H H2 h h2 where
 keep:=λc ob q n hc hx=>b.keep c ob (a.keep c ob q n hc hx) (a.free c ob q n hx) hc hx
 slot:=λc ob q n hc hx=>by obtain⟨sl,e1⟩:=a.slot c ob q n hc hx;obtain⟨sl',e2⟩:=b.slot c _ e1 (a.free c ob q n hx) hc hx;exact#[sl',e2]
 free:=λc ob q n hx=>by obtain⟨o',e1⟩:=a.there c ob q hx;exact b.free c o' e1 (a.free c ob q n hx) hx
 there:=λc ob q hx=>by obtain⟨o',e1⟩:=a.there c ob q hx;exact b.there c o' e1 hx
 AO:=λc xs q=>b.AO c xs<|a.AO c xs q
 Ay:=λc ob xs q=>b.Ay c ob xs<|a.Ay c ob xs q
 Az:=λc ps q=>by obtain⟨m1,e1⟩:=a.Az c ps q;obtain⟨m2,e2⟩:=b.Az c _ e1;exact#[m1++m2,by rw[e2,ph]]
def Un.kept(k:∀b u,h.get? b=↑u->c.get? b=↑u):Un fs d H H h c :=
 #[λb a q _ _ _=>k b a q,λb a q _ _ _=>#[a.slots,k b a q],λ_ _ _ n _=>n,λb a q _=>#[a,k b a q],λ_ _ q=>q,λ_ _ _ q=>q,λ_ e q=>#[#v[],by rw[q];simp]]
def Un.refl:Un fs a H H h h:=Un.kept λ_ _ q=>q
def Un.laid(k:∀b u,h.get? b=↑u->h'.get? b=↑u)(hp:h.objs.size<=a)(hn:H a=none):Un fs ex H (upd H a o) h h' where
 keep:=λb u q _ _ _=>k b u q
 slot:=λb u q _ _ _=>#[u.slots,k b u q]
 free:=λb u q n _=>by rw[ui<|gB<|gG (gp q) hp];exact n
 there:=λb u q _=>#[u,k b u q]
 AO:=λb xs q=>by rw[ui<|uu q hn];exact q
 Ay:=λb u xs q=>by rw[ui<|uu q hn];exact q
 Az:=λb ps q=>#[#v[],by rw[ui<|uu q hn,q];simp]
def Un.write(c:X8 (H x))(j:e=x\/H e=↑(.own x))(k:∀b u,b≠e->h.get? b=↑u->h'.get? b=↑u)(d:∃u,h'.get? e=↑u):Un fs p H (upd H x o) h h':=by
 have g:∀b,H b=none->b≠x:=λb n z=>by subst z;rw[n]at c;exact c
 have i:∀b,H b=none->b≠e:=λb n z=>by
  subst z;rcases j with r|r
  ·exact g b n r
  ·rw[n]at r;cases r
 have f:∀b u,H b=↑u->¬X8 ↑u->b≠x:=λb u q l z=>by subst z;rw[q]at c;exact l c
 refine#[λb u q n _ _=>k b u (i b n) q,λb u q n _ _=>#[u.slots,k b u (i b n) q],λb u q n _=>by rw[ui (g b n)];exact n,λb u q _=>?_,
  λb m q=>by rw[ui (f b _ q λz=>z)];exact q,λb u m q=>by rw[ui (f b _ q λz=>z)];exact q,λb s q=>#[#v[],by rw[ui (f b _ q λz=>z),q];simp]]
 by_cases a:b=e
 ·subst a;exact d
 ·exact#[u,k b u a q]
noncomputable def ZR(h:h8)(H:Hp):List ci:=(gL h.objs.size).filter λa=>(H a).isSome
noncomputable def HF(h:h8)(H:Hp):h8:=kZ h<|ZR h H
def MQ(h:h8)(H:Hp):(HF h H).objs.size=h.objs.size:=PySem.W.hideAll_size _ _
def Dh{h:h8}(e:h.get? b=↑o)(n:H b=none):(HF h H).get? b=↑o :=
 oB _ e λa=>by have q:(H b).isSome=true:=(List.mem_filter.mp a).2;rw[n]at q;simp at q
def R6(e:(HF h H).get? b=↑o):h.get? b=↑o/\H b=none:=by
 have a:h.get? b=↑o:=mz (ZR h H) e;refine#[a,?_]
 cases q:H b with
 |none=>rfl
 |some x =>
  have c:b∈ZR h H:=List.mem_filter.mpr #[List.mem_range.mpr<|gp a,by simp[q]];have z:(HF h H).get? b=none:=rq (ZR h H) c;rw[z]at e;cases e
noncomputable def R7(g h:h8)(L:ci):List (ci×Obj):=(gL h.objs.size).filterMap λa=>if a=L\/(g.get? a).isSome=true then none else (h.get? a).map λo=>(a,o)
noncomputable def rest(g h:h8)(L d:ci):List (ci×Obj):=(R7 g h L).filter λp=>decide<|p.1≠d
structure Mod(K:ga)(mg:Str->Option cr)(base:h8):Prop where
 AN:K.In base
 glob:base.Ns gC mg
 blt:∃mb,base.Ns nE mb/\∀x:Str,x≠"__name__"->mb x=md x
 nolimit:base.NoLimit
structure Cx where
 prog:gY
 w:il
 K:ga
 mg:Str->Option cr
 base:h8
 A:iW
 N:List Str
 s₀:gn
 H₀:Hp
 env:Env
 outer:List Env
 stack:List Env
 ex:List ci
 fn:Str->Bool
 calm:Bool
 pn:List (ci×Obj)
 xe:cr->gn->Prop
noncomputable def yC(l:List Env):List ci:=l.filterMap (·.frame)
noncomputable abbrev Cx.fs(X:Cx):List ci:=yC X.outer
def Vis(a:lh)(x:Str):Prop:=a.names.lookup x=some .local\/a.names.lookup x=some .cell\/a.names.lookup x=some .free
def Loc(a:lh)(x:Str):Prop:=a.names.lookup x=some .local\/a.names.lookup x=some .cell
def Look(a:Env)(h:h8)(m:Str->Option cr)(x:Str)(u:cr):Prop :=
 (a.kindOf x=some .local/\m x=↑u)\/((a.kindOf x=some .cell\/a.kindOf x=some .free)/\∃c,a.cells.lookup x=↑c/\h.IsCell c ↑u)
structure Cx.Ok(X:Cx):Prop where
 mod:Mod X.K X.mg X.base
 kind:X.env.scope.kind=.function
 glob:X.env.globals=gC
 blt:X.env.builtins=nE
 above:X.s₀.heap.objs.size<=X.env.locals
 inj:∀x y c,X.env.cells.lookup x=↑c->X.env.cells.lookup y=↑c->x=y
 has:∀x,(X.env.kindOf x=some .cell\/X.env.kindOf x=some .free)->∃c,X.env.cells.lookup x=↑c
 N7:∀x c,X.fn x=true->X.env.cells.lookup x=↑c->X.s₀.heap.objs.size<=c
 hd:X.calm=true->X.A.handled=none
 frames:X.A.frames=↑X.stack
 BE:X.stack=X.outer\/(X.stack=X.env::X.outer/\X.env.frame=↑X.env.locals)
 R8:∀b∈X.ex,b≠X.env.locals/\∀x c,X.env.cells.lookup x=↑c->c≠b
 bs:∀b o,X.base.get? b=↑o->X.s₀.heap.get? b=↑o/\X.H₀ b=none
 HG:X.base.objs.size<=X.s₀.heap.objs.size
 CD:∀b o,X.base.get? b=↑o->b∉X.ex
 Di:∀b∈X.ex,b∉X.fs
 xM:X.s₀.heap.FunFrames X.base X.outer
 Jc:∀b∈X.fs,X.H₀ b=none
structure Inv(X:Cx)(pins:List (ci×Obj))(σ:List (Option V))(H:Hp)(s:gn):Prop where
 ok:X.Ok
 os:s.os=X.s₀.os
 bare:mE s.gens
 base:Un X.fs X.ex X.H₀ H X.s₀.heap s.heap
 loc:∃m,s.heap.Ns X.env.locals m/\∀(i:Nat)(x:Str)(v:V),X.N[i]?=↑x->σ[i]?=↑(some v)->Vis X.env.scope x->∃u,RelV v u/\Look X.env s.heap m x u
 cell:∀x c,X.env.cells.lookup x=↑c->∃v,s.heap.IsCell c v
 free:H X.env.locals=none
 xu:∀x c,X.env.cells.lookup x=↑c->H c=none
 pin:∀p∈X.pn++pins,s.heap.get? p.1=↑p.2/\H p.1=none/\p.1≠X.env.locals/\p.1∉X.fs/\∀v,p.2.data≠.cell v
 vc:xf X.prog X.w H s.heap
 len:σ.length=X.N.length
section
variable{X:Cx}{pins:List (ci×Obj)}{σ:List (Option V)}{H H':Hp}{s:gn}
def Cx.Ok.a0n(a:X.Ok)(e:X.base.get? b=↑o):b∉X.fs:=λc=>by have:=(a.xM.mem c).1;rw[e]at this;cases this
def Inv.bs(I:Inv X pins σ H s):∀b o,X.base.get? b=↑o->s.heap.get? b=↑o/\H b=none:=λb o e =>
 #[I.base.keep b o (I.ok.bs b o e).1 (I.ok.bs b o e).2 (I.ok.a0n e)<|I.ok.CD b o e,I.base.free b o (I.ok.bs b o e).1 (I.ok.bs b o e).2<|I.ok.CD b o e]
def Inv.bk(I:Inv X pins σ H s):∀b o,X.base.get? b=↑o->s.heap.get? b=↑o:=λb o e=>(I.bs b o e).1
def Inv.mod(I:Inv X pins σ H s):Mod X.K X.mg X.base:=I.ok.mod
def Inv.xX(I:Inv X pins σ H s):X.K.In s.heap:=I.ok.mod.AN.keeps I.bk
def Inv.nolimit(I:Inv X pins σ H s):s.heap.NoLimit:=I.ok.mod.nolimit.keeps I.bk
def Inv.lt(I:Inv X pins σ H s):X.env.locals<⇑s:=e1a2 I.loc λ_ a _=> a.lt
def Inv.sz(I:Inv X pins σ H s):X.s₀.heap.objs.size<=⇑s:=gW I.ok.above<|kU I.lt
def Inv.a0o(I:Inv X pins σ H s)(h:⇑s<=a):a∉X.fs:=λb=>by obtain⟨_,o,c,_⟩:=I.ok.xM.mem b;exact gA (gG (gp c)<|gW I.sz h)<|jm _
def Inv.cne(I:Inv X pins σ H s):∀x c,X.env.cells.lookup x=↑c->c≠X.env.locals:=λx c e z=>by refine e2a2 (I.cell x c e) λv o d f=>?_;obtain⟨m,⟨g,h,i,a,b,_⟩,_⟩:=I.loc;rw[z,a]at d;cases d;rw[b]at f;cases f
def Inv.xM(I:Inv X pins σ H s):s.heap.FunFrames X.base X.outer:=by
 have a:∀(l:List Env),(∀b∈yC l,b∈X.fs)->X.s₀.heap.FunFrames X.base l->s.heap.FunFrames X.base l:=by
  intro l
  induction l with
  |nil=>intro _ _;trivial
  |cons h r i =>
   intro g j;obtain⟨k,⟨L,o,c,m,n,p⟩,q⟩:=j;have d:L∈X.fs:=g L (by unfold yC;rw[jW,c];exact gk);obtain⟨t,e⟩:=I.base.slot L o n (I.ok.Jc L d) d λz=>I.ok.Di L z d;exact#[k,#[L,_,c,m,e,p],i (λb f=>g b<|by unfold yC;rw[jW,c];exact gl _ f) q]
 exact a X.outer (λ_ f=>f) I.ok.xM
def Inv.stack(I:Inv X pins σ H s):s.heap.FunFrames X.base X.stack:=by
 rcases I.ok.BE with e|⟨e,a⟩
 ·rw[e];exact I.xM
 ·rw[e];refine e1a2 I.loc λm b _=>?_;refine .cons (by rw[I.ok.kind];decide) a b ?_ I.xM;exact mo<|gW I.ok.HG I.ok.above
def Inv.Dj(I:Inv X pins σ H s):∀b∈yC X.stack,b∈X.env.locals::X.fs:=λb a=>by
 rcases I.ok.BE with e|⟨e,c⟩
 ·rw[e]at a;exact gl _ a
 ·rw[e]at a;unfold yC at a;rw[jW,c]at a;exact a
def Inv.Lz(I:Inv X pins σ H s):∀b∈yC X.stack,H b=none:=λb a=>by
 rcases List.mem_cons.mp (I.Dj b a) with e|a
 ·rw[e];exact I.free
 ·obtain⟨_,o,c,_⟩:=I.ok.xM.mem a;exact I.base.free b o c (I.ok.Jc b a) λz=>I.ok.Di b z a
def Inv.step{g':Array oC}{t':Nat}{ch:List ci}(I:Inv X pins σ H s)
 (g:∀b∈ch,(b∈X.ex\/X.s₀.heap.objs.size<=b)/\b≠X.env.locals/\(∀x c,X.env.cells.lookup x=↑c->c≠b)/\∀p∈X.pn++pins,p.1≠b)
 (h:∀b o,b≠X.env.locals->b∉X.fs->b∉ch->s.heap.get? b=↑o->H b=none->h'.get? b=↑o)
 (B:∀b o,b≠X.env.locals->b∈X.fs->b∉ch->s.heap.get? b=↑o->H b=none->∃R,h'.get? b=some { o with slots:=R}) (f:∀b o,b∉ch->s.heap.get? b=↑o->H b=none->H' b=none)
 (D:∀b o,b∉ch->s.heap.get? b=↑o->∃G,h'.get? b=↑G)
 (J:∀b C,H b=↑(.tup C)->H' b=↑(.tup C)) (L:∀b o u,H b=↑(.Jg o u)->H' b=↑(.Jg o u)) (M:∀b Q,H b=↑(.Ew Q)->∃N,H' b=↑(.Ew<|Q++N))
 (ns:∀m,s.heap.Ns X.env.locals m->h'.Ns X.env.locals m) (S:xf X.prog X.w H' h') (hg:mE g') :
    Inv X pins σ H' { s with heap:=h',gens:=g',drawn:=d',toks:=t'}:=by
  have O:∀b o,X.s₀.heap.get? b=↑o->b≠X.env.locals:=λb o e=>gB<|gG (gp e) I.ok.above
  have y:∀b o,X.s₀.heap.get? b=↑o->b∉X.ex->b∉ch:=λb o e a E=>by
    rcases(g b E).1 with z|z
    · exact a z
    · exact gA (gG (gp e) z)<|jm _
  have j:∀x c,X.env.cells.lookup x=↑c->∀v,s.heap.IsCell c v->h'.IsCell c v:=λx c e v z9=>e1a2 z9 λo F T=>by
    have t:c∉ch:=λz=>(g c z).2.2.1 x c e rfl
    by_cases W:c∈X.fs
    · obtain⟨R, q⟩ := B c o (I.cne x c e) W t F (I.xu x c e)
      exact#[_,q,T]
    · exact#[o, h c o (I.cne x c e) W t F<|I.xu x c e, T]
  refine#[I.ok,I.os,hg,#[λb o e n E a=>?_,λb o e n E a=>?_,λb o e n a=>?_,λb o e a=>?_,λb C e=>J b C<|I.base.AO b C e,λb o C e=>L b o C<|I.base.Ay b o C e,λb Q e=>?_],?_,λx c e=>?_,?_,λx c e=>?_,λp Y=>?_,S,I.len]
  · exact h b o (O b o e) E (y b o e a) (I.base.keep b o e n E a)<|I.base.free b o e n a
  · obtain⟨R, A⟩ := I.base.slot b o e n E a
    obtain⟨U,P⟩:=B b _ (O b o e) E (y b o e a) A<|I.base.free b o e n a
    exact#[U,P]
  · obtain⟨G, A⟩ := I.base.there b o e a
    exact f b G (y b o e a) A<|I.base.free b o e n a
  · obtain⟨G, A⟩ := I.base.there b o e a
    exact D b G (y b o e a) A
  · obtain⟨m1, A⟩ := I.base.Az b Q e
    obtain⟨m2,P⟩:=M b _ A
    exact#[m1++m2,by rw[P,ph]]
  · refine e1a2 I.loc λm hn hl => ?_
    refine#[m,ns m hn,λi x v A P e3=>?_]
    refine e1a2 (hl i x v A P e3) λu r l=>?_
    refine#[u,r,?_]
    rcases l with l|⟨k,c,e,z⟩
    · exact .inl l
    · exact .inr #[k, c, e, j x c e _ z]
  · obtain⟨v, z⟩ := I.cell x c e
    exact#[v,j x c e v z]
  · obtain⟨m, ⟨o, _, _, F, _⟩, _⟩ := I.loc
    exact f _ o (λz=>(g _ z).2.1 rfl) F I.free
  · refine e2a2 (I.cell x c e) λv o F T => ?_
    exact f c o (λz=>(g c z).2.2.1 x c e rfl) F<|I.xu x c e
  · obtain⟨e, n, Z, nf, d⟩ := I.pin p Y
    have t:p.1∉ch:=λz=>(g p.1 z).2.2.2 p Y rfl
    exact#[h p.1 p.2 Z nf t e n,f p.1 p.2 t e n,Z,nf,d]
def Inv.un{t':Nat}(I:Inv X pins σ H s)(u:Un X.fs [] H H' s.heap h')(c:xf X.prog X.w H' h'):Inv X pins σ H' { s with heap:=h',toks:=t'}:=by
 obtain⟨m,⟨o,l,p,h,r⟩,_⟩:=id I.loc;obtain⟨q,i⟩:=u.any h I.free q0o
 exact I.step (g':=s.gens) (d':=s.drawn) (ch:=[]) (λ_ z=>nomatch z) (λb o _ d _ e n=>u.keep b o e n d q0o) (λb o _ d _ e n=>u.slot b o e n d q0o) (λb o _ e n=>u.free b o e n q0o) (λb o _ e=>u.there b o e q0o) u.AO u.Ay u.Az (λt j=>by
  refine e3a2 j λv f g a k=>?_;rw[h]at a;cases a
  exact#[_,f,g,i,k]) c I.bare
def Inv.call{g':Array oC}{t':Nat}{ch:List ci}(I:Inv X pins σ H s)(u:Un (yC X.stack) ch H H' s.heap h')(g:xf X.prog X.w H' h')(l:mE g')
 (d:∀b∈ch,(b∈X.ex\/X.s₀.heap.objs.size<=b)/\b≠X.env.locals/\(∀x c,X.env.cells.lookup x=↑c->c≠b)/\∀p∈X.pn++pins,p.1≠b) :
    Inv X pins σ H' { s with heap:=h',gens:=g',drawn:=d',toks:=t'}:=by
  obtain⟨m,⟨o,y,A,k,r⟩,_⟩:=id I.loc
  obtain⟨B,h⟩:=u.any k I.free λz=>(d _ z).2.1 rfl
  exact I.step (ch:=ch) d (λb o h q a e n=>u.keep b o e n (λz=>(List.mem_cons.mp (I.Dj b z)).elim h q) a) (λb o _ _ a e n=>u.any e n a) (λb o a e n=>u.free b o e n a) (λb o a e=>u.there b o e a) u.AO u.Ay u.Az (λC t=>by
    refine e3a2 t λD i j f v=>?_
    rw[k]at f;cases f
    exact#[_,i,j,h,v]) g l
def Inv.turned{t':Nat}(I:Inv X pins σ H s)(k:∀b o,b≠a->s.heap.get? b=↑o->h.get? b=↑o)(i:H a=none)(g:a≠X.env.locals)
 (j:a∈X.ex\/X.s₀.heap.objs.size<=a)(l:∀x c,X.env.cells.lookup x=↑c->c≠a)(t:∀p∈X.pn++pins,p.1≠a):Inv X pins σ H { s with heap:=h,toks:=t'}:=by
  have f:∀b u,H b=↑u->b≠a:=λb u e z=>by rw[z,i]at e;cases e
  refine I.step (g':=s.gens) (d':=s.drawn) (ch:=[a]) (λb w=>?_) (λb o _ _ d e _=>k b o (λz=>d<|by simp[z]) e) (λb o _ _ d e _=>#[o.slots,k b o (λz=>d<|by simp[z]) e]) (λ_ _ _ _ n=>n)
    (λb o d e=>#[o,k b o (λz=>d<|by simp[z]) e]) (λ_ _ e=>e) (λ_ _ _ e=>e) (λb D e=>#[#v[],by rw[e];simp]) (λm y=>?_) (λb u e=>?_) I.bare
  · have e : b = a := by simpa using w
    subst e
    exact#[j,g,l,t]
  · refine e3a2 y λo A B C r => ?_
    exact#[o,A,B,k _ o (Ne.symm g) C,r]
  · refine(I.vc b u e).CC (λc v d q => k c v ?_ q) (λ_ q => q) λ_ _ q => q
    rcases d with z|z
    · rw[z]; exact f b u e
    · exact f c _ z
def Inv.tok(I:Inv X pins σ H s)(t:Nat):Inv X pins σ H { s with toks:=t}:=I.un (h':=s.heap) (t':=t) Un.refl I.vc
def Inv.kept{t':Nat}(I:Inv X pins σ H s)(k:∀b u,s.heap.get? b=↑u->a.get? b=↑u):Inv X pins σ H { s with heap:=a,toks:=t'}:=I.un (Un.kept k)<|I.vc.kept k
def Inv.laid{t':Nat}(I:Inv X pins σ H s)(k:∀b u,s.heap.get? b=↑u->h'.get? b=↑u)(c:⇑s<=a)(d:vv X.prog X.w (upd H a o) h' a o) :
  Inv X pins σ (upd H a o) { s with heap:=h',toks:=t'}:=I.un (Un.laid k c<|I.vc.fresh c)<|I.vc.laid k c d
def Inv.write{t':Nat}(I:Inv X pins σ H s)(d:X8 (H x))(f:e=x\/H e=↑(.own x))(k:∀b u,b≠e->s.heap.get? b=↑u->h'.get? b=↑u)(a:∃u,h'.get? e=↑u)
 (c:vv X.prog X.w (upd H x o) h' x o):Inv X pins σ (upd H x o) { s with heap:=h',toks:=t'}:=I.un (Un.write d f k a)<|I.vc.write d f k a c
def Inv.yG(I:Inv X pins σ H s)(h:∀p∈pins',s.heap.get? p.1=↑p.2/\H p.1=none/\p.1≠X.env.locals/\p.1∉X.fs/\∀v,p.2.data≠.cell v):Inv X pins' σ H s :=
 #[I.ok,I.os,I.bare,I.base,I.loc,I.cell,I.free,I.xu,λp a=>(List.mem_append.mp a).elim (λz=>I.pin p<|iw _ z)<|h p,I.vc,I.len]
def HH{N:List Str}(c:N.Nodup){i j:Nat}(a:N[i]?=↑x)(b:N[j]?=↑x):i=j:=by obtain⟨f,d⟩:=List.getElem?_eq_some_iff.mp a;obtain⟨g,e⟩:=List.getElem?_eq_some_iff.mp b;exact(List.getElem_inj c).mp<|d.trans e.symm
def EX{E:cr->gn->Prop}{i:Nat}{Q:Unit->gn->Prop}(I:Inv X pins σ H s)(hN:X.N.Nodup)(S:X.N[i]?=↑x)(B:Loc X.env.scope x)(r:RelV v u)
 (h:∀s',Inv X pins (σ.set i<|↑v) H s'->(∃a,iu a s.heap s'.heap/\(a=X.env.locals\/X.env.cells.lookup x=↑a))->Q () s')(hf:X.fn x=true\/X.env.scope.names.lookup x=some .local:=by first|exact .inl rfl|exact .inr rfl|assumption):gu M A (storeName X.env x u) Q E s:=by
  refine e1a2 (id I.loc) λm hn hl=>?_
  have T:(X.env.scope.kind==.class||(X.env.scope.kind==.module&&X.env.locals != X.env.globals))=false:=by rw[I.ok.kind];rfl
  have F:i<σ.length:=by rw[I.len];exact(List.getElem?_eq_some_iff.mp S).1
  have J:=I.cne
  have g:∀{a:ci} {R:h8},(∃o,s.heap.get? a=↑o/\H a=none)->iu a s.heap R->xf X.prog X.w H R:=λ{a R} ha f b ob e=>by
    refine e1a2 ha λ_ _ C=>?_
    refine(I.vc b ob e).CC (λc w' t q=>(f.2 c ?_).trans q) (λ_ q=>q) λ_ _ q=>q
    rintro rfl
    rcases t with rfl|t
    · rw[C]at e; cases e
    · rw[C]at t; cases t
  rcases B with G|G
  · refine wpAny_storeName_local G hn (λR aa f => ?_) T
    refine e3a2 (id hn) λoL _ _ ab _=>?_
    refine h _ #[I.ok,I.os,I.bare,#[λb o e n L B=>?_,λb o e n L B=>?_,I.base.free,λb o e B=>?_,I.base.AO,I.base.Ay,I.base.Az],#[_,aa,λj y v' l D e3=>?_],λy c e=>?_,I.free,I.xu,λp hp=>?_,g #[oL,ab,I.free] f,by simpa using I.len] #[_,f,.inl rfl]
    · exact(f.2 b<|gB<|gG (gp e) I.ok.above).trans<|I.base.keep b o e n L B
    · obtain⟨sl, l⟩ := I.base.slot b o e n L B
      exact#[sl,(f.2 b<|gB<|gG (gp e) I.ok.above).trans l]
    · obtain⟨o', l⟩ := I.base.there b o e B
      exact#[o',(f.2 b<|gB<|gG (gp e) I.ok.above).trans l]
    · by_cases O : j = i
      · subst O
        rw[S]at l;cases l
        rw[n9 F]at D
        cases D
        exact#[u,r,.inl #[G,q0o]]
      · rw[mq<|Ne.symm O]at D
        refine e1a2 (hl j y v' l D e3) λu' r' q=>?_
        refine#[u',r',?_]
        rcases q with⟨k,e⟩|⟨k,c,e,z⟩
        · refine .inl #[k, ?_]
          have:y≠x:=λe=>O<|HH hN l<|e▸S
          simp[this,e]
        · exact .inr #[k, c, e, z.sameBut f<|J y c e]
    · obtain⟨w', z⟩ := I.cell y c e
      exact#[w',z.sameBut f<|J y c e]
    · obtain⟨e, n, ne, nf, d⟩ := I.pin p hp
      exact#[(f.2 p.1 ne).trans e,n,ne,nf,d]
  · have P : X.fn x = true := by
      rcases hf with z|z
      · exact z
      · rw[z]at G; cases G
    obtain⟨c,t⟩:=I.ok.has x<|.inl G
    obtain⟨w',z⟩:=I.cell x c t
    refine wpAny_storeName_cell I.ok.kind G t z<|λR U f=>?_
    refine e1a2 (id z) λoc W Y=>?_
    refine h { s with heap:=R} #[I.ok,I.os,I.bare,#[λb o e n L B=>?_,λb o e n L B=>?_,I.base.free,λb o e B=>?_,I.base.AO,I.base.Ay,I.base.Az],#[m,hn.sameBut f<|Ne.symm<|J x c t,λj y v' l D e3=>?_],λy c' e=>?_,I.free,I.xu,λp hp=>?_,g #[oc,W,I.xu x c t] f,by simpa using I.len] #[c,f,.inr t]
    · exact(f.2 b<|gB<|gG (gp e)<|I.ok.N7 x c P t).trans<|I.base.keep b o e n L B
    · obtain⟨sl, l⟩ := I.base.slot b o e n L B
      exact#[sl,(f.2 b<|gB<|gG (gp e)<|I.ok.N7 x c P t).trans l]
    · obtain⟨o', l⟩ := I.base.there b o e B
      exact#[o',(f.2 b<|gB<|gG (gp e)<|I.ok.N7 x c P t).trans l]
    · by_cases O : j = i
      · subst O
        rw[S]at l;cases l
        rw[n9 F]at D
        cases D
        exact#[u,r,.inr #[.inl G,c,t,U]]
      · rw[mq<|Ne.symm O]at D
        refine e1a2 (hl j y v' l D e3) λu' r' q=>?_
        refine#[u',r',?_]
        rcases q with q|⟨k,c',e,z'⟩
        · exact .inl q
        · refine .inr #[k, c', e, z'.sameBut f ?_]
          rintro rfl
          exact O<|HH hN l<|I.ok.inj _ _ _ e t▸S
    · by_cases Z : c' = c
      · subst Z; exact#[_, U]
      · obtain⟨w2, z2⟩ := I.cell y c' e
        exact#[w2,z2.sameBut f Z]
    · obtain⟨e, n, ne, nf, d⟩ := I.pin p hp
      refine#[(f.2 p.1 ?_).trans e,n,ne,nf,d]
      intro q
      rw[q,W]at e
      have q':oc=p.2:=iq e
      exact d w' (by rw[<- q'];exact Y)
def HI{i:Nat}(I:Inv X pins σ H s)(b:X.N.Nodup)(c:X.N[i]?=↑x)(d:Loc X.env.scope x)(r:RelV v u)
 (h:∀a,Inv X pins (σ.set i<|↑v) H a->Q () a)(e:X.fn x=true\/X.env.scope.names.lookup x=some .local:=by first|exact .inl rfl|exact .inr rfl|assumption):gu M A (storeName X.env x u) Q E s :=
  EX I b c d r (λa f _=>h a f) e
def Inv.U0{a:gn}(I:Inv X pins σ H s)(g:a.os=s.os)(u:Un (yC X.stack) ch H H' s.heap a.heap)(d:xf X.prog X.w H' a.heap)(h:mE a.gens)
 (f:∀b∈ch,(b∈X.ex\/X.s₀.heap.objs.size<=b)/\b≠X.env.locals/\(∀x c,X.env.cells.lookup x=↑c->c≠b)/\∀p∈X.pn++pins,p.1≠b):Inv X pins σ H' a:=by
  obtain⟨m,i,j,k,l⟩:=a
  have e:l=s.os:=g
  subst e
  exact I.call (g':=i) (t':=k) (d':=j) u d h f
end
abbrev XK:=cr->Option ci->Hp->Prop
abbrev St:=List<|Option V
abbrev VK:=V->Hp->Prop
abbrev TE:=St->Hp->VK->Prop
abbrev TT:=St->Hp->(Bool->Hp->Prop)->Prop
abbrev TA:=St->Hp->(List V->Hp->Prop)->Prop
structure Ends where
 nx:St->Hp->Prop
 rt:VK
 bk:St->Hp->Prop:=λ_ _=>False
 ct:St->Hp->Prop:=λ_ _=>False
abbrev TS:=Ends->St->Hp->Prop
def EP(X:Cx)(a:List (ci×Obj))(c:St)(Q:VK)(u:cr)(d:gn):Prop:=∃v b,Inv X a c b d/\RelV v u/\Q v b
def TP(X:Cx)(a:List (ci×Obj))(d:St)(Q:Bool->Hp->Prop)(b:Bool)(e:gn):Prop:=∃c,Inv X a d c e/\Q b c
def AP(X:Cx)(a:List (ci×Obj))(d:St)(Q:List V->Hp->Prop)(e:List cr)(f:gn):Prop:=∃b c,Inv X a d c f/\Vals b e/\Q b c
def SP(X:Cx)(b:List (ci×Obj))(D:Ends)(f:Flow)(d:gn):Prop :=
 match f with
 | .next=>∃a c,Inv X b a c d/\D.nx a c
 | .brk=>∃a c,Inv X b a c d/\D.bk a c
 | .cont=>∃a c,Inv X b a c d/\D.ct a c
 | .ret u=>∃v a c,Inv X b a c d/\RelV v u/\D.rt v c
def PE(X:Cx)(e:hZ)(t:TE):Prop :=
 ∀(a:List (ci×Obj)) (s:gn) (b:St) (H:Hp) (Q:VK),Inv X a b H s->t b H Q->gu (gv X.prog X.w) X.A (eval e X.env) (EP X a b Q) X.xe s
def PT(X:Cx)(e:hZ)(t:TT):Prop :=
 ∀(a:List (ci×Obj)) (s:gn) (b:St) (H:Hp) (Q:Bool->Hp->Prop),Inv X a b H s->t b H Q->gu (gv X.prog X.w) X.A (qd e X.env<|eval e X.env) (TP X a b Q) X.xe s
def PW(X:Cx)(e:hZ)(t:TT):Prop :=
 ∀(b:Sem cr) (a:List (ci×Obj)) (s:gn) (c:St) (H:Hp) (Q:Bool->Hp->Prop),Inv X a c H s->t c H Q->gu (gv X.prog X.w) X.A (qd e X.env b) (TP X a c Q) X.xe s
def PW.pt(h:PW X e t):PT X e t:=h _
def PA(X:Cx)(d:List hZ)(t:TA):Prop :=
 ∀(b:Pos) (a:List (ci×Obj)) (s:gn) (c:St) (H:Hp) (Q:List V->Hp->Prop),Inv X a c H s->t c H Q->gu (gv X.prog X.w) X.A (tH<|iN b<|gf d X.env) (AP X a c Q) X.xe s
def PS(X:Cx)(c:gV)(t:TS):Prop :=
 ∀(a:List (ci×Obj)) (s:gn) (b:St) (H:Hp) (D:Ends),Inv X a b H s->t D b H->gu (gv X.prog X.w) X.A (exec c X.env) (SP X a D) X.xe s
def Ez(X:Cx)(c:List gV)(t:TS):Prop :=
 ∀(a:List (ci×Obj)) (s:gn) (b:St) (H:Hp) (D:Ends),Inv X a b H s->t D b H->gu (gv X.prog X.w) X.A (execs c X.env) (SP X a D) X.xe s
def uY{b:Type}{t:Sem b}{Q c:b->gn->Prop}{M:Model}{A:iW}{E:cr->gn->Prop}{s:gn}(h:gu M A t Q E s)(d:∀a s,Q a s->c a s):gu M A t c E s:=iA h d λ_ _ x=>x
section
variable{X:Cx}
def uT(i:Nat):TE:=λa H Q=>∃v,a[i]?=↑(some v)/\Q v H
def tC(v:V):TE:=λ_ H Q=>Q v H
def Jh{i:Nat}(n:X.N[i]?=↑x)(o:Vis X.env.scope x)(g:(x==("__debug__":Str))=false:=by decide)(j:(x==("__classdict__":Str))=false:=by decide):PE X (.Name x pos) (uT i):=by
 intro f s p H Q I h;refine e1a2 h λv e h=>?_;refine e1a2 I.loc λm q t=>?_;refine e1a2 (t i x v n e o) λu r l=>?_;have b:EP X f p Q u s:=#[v,H,I,r,h];rcases l with⟨d,w⟩|⟨d,c,k,a⟩
 ·exact oU (jX I.ok.kind d q w b) g
 ·rcases d with d|d
  ·exact oU (wpAny_loadName_cell I.ok.kind d k a b) g
  ·exact oU (pR I.ok.kind d k a b j) g
def uK{i j pos}:PE X (.Constant (.int i) j pos) (tC<|.int i):=λ_ _ _ H _ I h=>wpAny_Constant_int #[.int i,H,I.tok _,#[_,rfl],h]
def X9{b j pos}:PE X (.Constant (.bool b) j pos) (tC<|.bl b):=λ_ _ _ H _ I h=>Constant_bool #[.bl b,H,I,rfl,h]
def Ji{j pos}:PE X (.Constant .none j pos) (tC .vU):=λ_ _ _ H _ I h=>Constant_none #[.vU,H,I,rfl,h]
def FL{x j pos}:PE X (.Constant (.str x) j pos) (tC<|.str x):=λ_ _ _ H _ I h=>Calls.Constant_str #[.str x,H,I.tok _,#[_,rfl],h]
def Gl(X:Cx)(x:Str):Prop:=X.env.kindOf x=some .globalImplicit
def yH(I:Inv X a e H s)(b:Gl X x)(c:X.mg x=↑u)(h:Q u s)
 (d:(x==("__debug__":Str))=false:=by decide):gu (gv X.prog X.w) X.A (eval (.Name x pos) X.env) Q E s :=
  qw I.ok.kind b (Calls.loadGlobal_global (by rw[I.ok.glob];exact I.mod.glob.keeps I.bk) c h) d
def yI(I:Inv X a j H s)(b:Gl X x)(c:X.mg x=none)(d:md x=↑u)(h:Q u s)
 (e:x≠"__name__":=by decide)(f:(x==("__debug__":Str))=false:=by decide):gu (gv X.prog X.w) X.A (eval (.Name x pos) X.env) Q E s:=by
  refine e1a2 I.mod.blt λk g i=>?_
  exact qw I.ok.kind b (m9 (by rw[I.ok.glob];exact I.mod.glob.keeps I.bk) c (by rw[I.ok.blt];exact g.keeps I.bk) ((i x e).trans d) h) f
def R9(a:Gl X x)(b:X.mg x=↑u)(r:RelV v u)(c:(x==("__debug__":Str))=false:=by decide):PE X (.Name x pos) (tC v) :=
 λ_ _ _ H _ I h=>yH I a b #[v,H,I,r,h] c
def FM(a:Gl X x)(b:X.mg x=none)(c:md x=↑u)(r:RelV v u)(d:x≠"__name__":=by decide)(e:(x==("__debug__":Str))=false:=by decide):PE X (.Name x pos) (tC v) :=
 λ_ _ _ H _ I h=>yI I a b c #[v,H,I,r,h] d e
variable{a b:hZ}{ta tb:TE}{pos:Pos}
def PC(X:Cx)(g:qx)(a b:hZ)(t:TE):Prop :=
 ∀(c:List (ci×Obj)) (s:gn) (f:St) (H:Hp) (Q:VK),Inv X c f H s->t f H Q ->
  gu (gv X.prog X.w) X.A (eval a X.env) (λv d=>gu (gv X.prog X.w) X.A (eval b X.env) (λu e=>gu (gv X.prog X.w) X.A (iX g v u) (EP X c f Q) X.xe e) X.xe d) X.xe s
def HJ(b:hZ)(h:op≠.In)(c:op≠.NotIn):iB op b=false:=by
 have d:(op==CmpOp.In)=false:=by cases op<;>first|rfl|exact gA rfl h
 have e:(op==CmpOp.NotIn)=false:=by cases op<;>first|rfl|exact gA rfl c
 cases b<;>simp[iB,d,e]
def tB(t:TE):TT:=λd H Q=>t d H λx e=>∃c,x=.bl c/\Q c e
def Od(h:PC X op a b t)(d:iB op b=false:=by first|exact HJ _ q0q q0q|rfl):PE X (.Compare a [op] [b] pos) t:=λc s e H Q I f=>rR (h c s e H Q I f) d
def Jj{f:qx}{t:TE}(h:PC X f a b t)(g:iB f b=false:=by first|exact HJ _ q0q q0q|rfl):PT X (.Compare a [f] [b] pos) (tB t):=by intro e s i H Q I j;refine tW (uY (h e s i H _ I j) λv r g=>uY g λu w k=>uY k λc y l=>e2a3 l λx m n o p=>?_) g;obtain⟨d,rfl,q⟩:=p;cases o;exact jC #[m,n,q]
def VJ{e:hZ}{t:TE}(h:PE X e t)(g:∀c,qd e X.env c=(do let v <- c;mf e.pos;jY [v] (tJ v)):=by intro _;rfl):PT X e (tB t):=by intro f s i H Q I j;refine isTrue_plain (uY (h f s i H _ I j) λv p k=>e2a3 k λx l m n o=>?_)<|g _;obtain⟨d,rfl,q⟩:=o;cases n;exact jC #[l,m,q]
variable{tA ZS:TT}{rest:List hZ}
def a0q(t u:TT):TT:=λd H Q=>t d H λc e=>if c=true then u d e Q else Q false e
def tOr(t u:TT):TT:=λd H Q=>t d H λc e=>if c=true then Q true e else u d e Q
def a0r(t:TT):TT:=λd H Q=>t d H λc e=>Q (!c) e
def Sc(f:PT X a tA):PW X (.BoolOp .And [a] pos) tA:=by
 intro i d s g H Q I h;refine isTrue_and<|uY (f d s g H Q I h) λc j e=>?_
 cases c with
 |true=>exact isTrue_and_nil e
 |false=>exact e
def Oe(f:PT X a tA):PW X (.BoolOp .Or [a] pos) tA:=by
 intro i d s g H Q I h;refine isTrue_or<|uY (f d s g H Q I h) λc j e=>?_
 cases c with
 |false=>exact isTrue_or_nil e
 |true=>exact e
def VL(j:PT X a tA)(k:PW X (.BoolOp .And (b::rest) pos) ZS):PW X (.BoolOp .And (a::b::rest) pos) (a0q tA ZS):=by
 intro l d s e H Q I h;refine isTrue_and<|uY (j d s e H _ I h) λc m n=>e1a2 n λf g i=>?_
 cases c with
 |true=>exact k l d m e f Q g i
 |false=>exact#[f,g,i]
def U1(j:PT X a tA)(k:PW X (.BoolOp .Or (b::rest) pos) ZS):PW X (.BoolOp .Or (a::b::rest) pos) (tOr tA ZS):=by
 intro l d s e H Q I h;refine isTrue_or<|uY (j d s e H _ I h) λc m n=>e1a2 n λf g i=>?_
 cases c with
 |true=>exact#[f,g,i]
 |false=>exact k l d m e f Q g i
def VM(e:PT X a tA):PT X (.UnaryOp .Not a pos) (a0r tA):=by intro d s f H Q I h;exact isTrue_not<|e d s f H (λc g=>Q (!c) g) I h
def Ya(ta tb:TE):TE:=λd H Q=>ta d H λx e=>∃c,x=.bl c/\if c=true then tb d e Q else Q (.bl false) e
def a0s(ta tb:TE):TE:=λd H Q=>ta d H λx e=>∃c,x=.bl c/\if c=true then Q (.bl true) e else tb d e Q
def Yb(ta:TE):TE:=λd H Q=>ta d H λx e=>∃c,x=.bl c/\Q (.bl<|!c) e
def VN{op}(h:PE X a t):PE X (.BoolOp op [a] pos) t:=λc s d H Q I e=>BoolOp_one<|h c s d H Q I e
def VO(j:PE X a ta)(k:PE X (.BoolOp .And (b::rest) pos) tb):PE X (.BoolOp .And (a::b::rest) pos) (Ya ta tb):=by
 intro d s f H Q I h;refine BoolOp_and<|uY (j d s f H _ I h) λv l m=>e2a3 m λx g i n e=>?_;obtain⟨c,rfl,e⟩:=e;cases n;refine jC ?_
 cases c with
 |true=>exact k d l f g Q i e
 |false=>exact#[.bl false,g,i,rfl,e]
def Yc(j:PE X a ta)(k:PE X (.BoolOp .Or (b::rest) pos) tb):PE X (.BoolOp .Or (a::b::rest) pos) (a0s ta tb):=by
 intro d s f H Q I h;refine BoolOp_or<|uY (j d s f H _ I h) λv l m=>e2a3 m λx g i n e=>?_;obtain⟨c,rfl,e⟩:=e;cases n;refine jC ?_
 cases c with
 |false=>exact k d l f g Q i e
 |true=>exact#[.bl true,g,i,rfl,e]
def VP(f:PE X a ta):PE X (.UnaryOp .Not a pos) (Yb ta):=by intro d s g H Q I h;refine UnaryOp_<|uY (f d s g H _ I h) λv m i=>e2a3 i λx j k l e=>?_;obtain⟨c,rfl,e⟩:=e;cases l;exact not_of<|jC #[.bl<|!c,j,k,rfl,e]
end
def vJ(K:ga)(H:Hp)(a:ci)(c:List V):Prop :=
 Rd H a (.lst c) \/
  ∃(o:Obj)(b:Array cr)(n:Nat),K.lookup a=↑o/\o.cls=.type "list"/\o.dict=none/\o.data=.seq b n/\b.size<=gh/\Vals c b.toList
def yD(K:ga)(H:Hp)(a:ci)(c:List V):Prop :=
 Rd H a (.tup c) \/
  ∃(o:Obj)(b:Array cr)(n:Nat),K.lookup a=↑o/\o.cls=.type "tuple"/\o.data=.seq b n/\b.size<=gh/\Vals c b.toList
noncomputable def a0t:cr->Option V
 | .none=>some .vU
 | .bool b=>some<|.bl b
 | .int i _=>some<|.int i
 | .str x _=>some<|.str x
 | .bytes b _=>some<|.Ly b
 | .float b _=>some<|.VH b
 | .ref a=>some<|.ref a
 | .type n=>some<|.ty n
 |_=>none
def RelV.abs(r:RelV x u):a0t u=↑x:=by
 cases x with
 |vU=>cases r;rfl
 |bl _=>cases r;rfl
 |int _=>obtain⟨t,rfl⟩:=r;rfl
 |str _=>obtain⟨t,rfl⟩:=r;rfl
 |Ly _=>obtain⟨t,rfl⟩:=r;rfl
 |VH _=>obtain⟨t,rfl⟩:=r;rfl
 |ref _=>cases r;rfl
 |ty _=>cases r;rfl
def RelV.inj(r:RelV x u)(q:RelV y u):x=y:=iq<|r.abs.symm.trans q.abs
def Vals.inj:∀{d c:List V} {e:List cr},Vals d e->Vals c e->d=c:=by
 intro _ c _ z
 induction z generalizing c with
 |nil=>intro q;cases q;rfl
 |cons h t f=>intro q;cases q with|cons a b=>rw[h.inj a,f b]
def vJ.of{K:ga}(h:H a=↑(.lst b)):vJ K H a b:=.inl<|.inl h
def yD.of{K:ga}(h:H a=↑(.tup b)):yD K H a b:=.inl<|.inl h
def Inv.list(I:Inv X c j H s)(h:vJ X.K H a d):∃b:List cr,Vals d b/\PlainL s.heap a b.toArray/\d.length<=gh:=by
 rcases h with h|⟨o,b,n,f,g,hd,i,k,r⟩
 ·obtain⟨z,b,n,r,e⟩:=h.ok I.vc;exact#[b,r,#[_,n,e,rfl,rfl,rfl],z]
 ·refine#[b.toList,r,#[o,n,I.xX a o f,g,hd,by simpa using i],?_];have e:=r.length;simp only[gr]at e
  lia
def Inv.tuple(I:Inv X c j H s)(h:yD X.K H a d):∃b:List cr,Vals d b/\IsTup s.heap a b.toArray/\d.length<=gh:=by
 rcases h with h|⟨o,b,n,f,g,i,k,r⟩
 ·obtain⟨z,b,r,p⟩:=h.ok I.vc;exact#[b,r,p,z]
 ·refine#[b.toList,r,#[o,I.xX a o f,g,n,by simpa using i],?_];have e:=r.length;simp only[gr]at e
  lia
def Inv.HK(I:Inv X f q H s)(h:vJ X.K H a j)(k:vJ X.K H a l):j=l:=by
 obtain⟨c,r,⟨o,n,e,_,_,d⟩,_⟩:=I.list h;obtain⟨b,m,⟨t,u,g,_,_,i⟩,_⟩:=I.list k;rw[e]at g;cases g;rw[d]at i;injection i with p _;have:c=b:=by simpa using congrArg rr p
 subst this;exact r.inj m
def Inv.MR(I:Inv X f q H s)(h:yD X.K H a j)(k:yD X.K H a l):j=l:=by
 obtain⟨c,r,⟨o,e,_,n,d⟩,_⟩:=I.tuple h;obtain⟨b,m,⟨t,g,_,u,i⟩,_⟩:=I.tuple k;rw[e]at g;cases g;rw[d]at i;injection i with p _;have:c=b:=by simpa using congrArg rr p
 subst this;exact r.inj m
noncomputable abbrev Cx.EA(X:Cx)(E:cr->gn->Prop):Cx:={ X with xe:=E}
noncomputable abbrev Cx.ZU(X:Cx):Cx:=X.EA λ_ _=>False
def Cx.Ok.EA{X:Cx}(a:X.Ok)(E:cr->gn->Prop):(X.EA E).Ok :=
 #[a.mod,a.kind,a.glob,a.blt,a.above,a.inj,a.has,a.N7,a.hd,a.frames,a.BE,a.R8,a.bs,a.HG,a.CD,a.Di,a.xM,a.Jc]
def Cx.Ok.zj{X:Cx}{E:cr->gn->Prop}(a:(X.EA E).Ok):X.Ok :=
 #[a.mod,a.kind,a.glob,a.blt,a.above,a.inj,a.has,a.N7,a.hd,a.frames,a.BE,a.R8,a.bs,a.HG,a.CD,a.Di,a.xM,a.Jc]
def Inv.EA(I:Inv X a b H s)(E:cr->gn->Prop):Inv (X.EA E) a b H s:=#[I.ok.EA E,I.os,I.bare,I.base,I.loc,I.cell,I.free,I.xu,I.pin,I.vc,I.len]
def Inv.zj(I:Inv (X.EA E) a b H s):Inv X a b H s:=#[I.ok.zj,I.os,I.bare,I.base,I.loc,I.cell,I.free,I.xu,I.pin,I.vc,I.len]
def SP.zj(h:SP (X.EA E) c D f d):SP X c D f d:=by
 cases f with
 |next=>obtain⟨a,b,I,q⟩:=h;exact#[a,b,I.zj,q]
 |brk=>obtain⟨a,b,I,q⟩:=h;exact#[a,b,I.zj,q]
 |cont=>obtain⟨a,b,I,q⟩:=h;exact#[a,b,I.zj,q]
 |ret u=>obtain⟨v,a,b,I,r,q⟩:=h;exact#[v,a,b,I.zj,r,q]
def Ez.ZU{b:List gV}(h:Ez X.ZU b t):Ez X b t:=λa s c H D I d =>
 iA (h a s c H D (I.EA _) d) (λ_ _ q=>q.zj) λ_ _ z=>gZ z
section
variable{X:Cx}{st:gV}{rest:List gV}{t u:TS}
def U4:TS:=λD a H=>D.nx a H
def Jk(t u:TS):TS:=λD a H=>t { D with nx:=u D} a H
def yJ:Ez X [] U4:=λ_ _ a H _ I h=>mX #[a,H,I,h]
def vF(c:PS X st t)(d:Ez X rest u):Ez X (st::rest) (Jk t u):=by
 intro a s e H D I h;refine wpAny_execs_cons<|uY (c a s e H { D with nx:=u D} I h) λf g q=>?_
 cases f with
 |next =>
  refine e2a2 q λb i j q=>?_;exact d a g b i D j q
 |ret v=>exact q
 |brk=>exact q
 |cont=>exact q
def w4(b:PS X st t):Ez X [st] t:=by
 intro a s c H D I h;refine wpAny_execs_cons<|uY (b a s c H D I h) λf d q=>?_
 cases f with
 |next=>exact mX q
 |ret v=>exact q
 |brk=>exact q
 |cont=>exact q
def Inv.quiet(I:Inv X a b H s):interactive X.env=false:=by simp[interactive,I.ok.kind]
def HL(b:TE):TS:=λD a H=>b a H λ_ c=>D.nx a c
def AQ(c:PE X e d)(f:js e none pos.line X.env=pure false:=by rfl):PS X (.Expr e pos) (HL d):=by intro a s b H D I h;exact wpAny_Expr_any (uY (c a s b H _ I h) λv l g=>e2a3 g λx i j m k=>#[b,i,j,k]) I.quiet f
def VQ(a:TE):TS:=λD b H=>a b H D.rt
def BG(c:PE X e d):PS X (.Return ↑e pos) (VQ d):=by intro a s b H D I h;exact wpAny_Return_some<|uY (c a s b H _ I h) λv l f=>e2a3 f λx g i j k=>#[x,b,g,i,j,k]
def a0u(c:TT)(t u:TS):TS:=λD a H=>c a H λb d=>if b=true then t D a d else u D a d
def LA{c:hZ}{a b:List gV}{g:TT}(m:PT X c g)(n:Ez X a t)(o:Ez X b u):PS X (.If c a b pos) (a0u g t u):=by
 intro e s f H D I h;refine wpAny_If<|uY (m e s f H _ I h) λd i p=>e1a2 p λj k l=>?_
 cases d with
 |true=>exact n e i f j D k l
 |false=>exact o e i f j D k l
def VR:TS:=λ_ _ _=>False
def MS:Ez X a VR:=λ_ _ _ _ _ _ h=>h.elim
end
abbrev TG:=V->St->Hp->(St->Hp->Prop)->Prop
abbrev XJ:=List V->St->Hp->(St->Hp->Prop)->Prop
def PG(X:Cx)(a:hZ)(t:TG):Prop :=
 ∀(b:List (ci×Obj)) (s:gn) (d:St) (H:Hp) (v:V) (u:cr) (Q:St->Hp->Prop),Inv X b d H s->RelV v u->t v d H Q ->
  gu (gv X.prog X.w) X.A (rS a X.env u) (λ_ f=>∃c e,Inv X b c e f/\Q c e) X.xe s
def ZV(X:Cx)(g:List hZ)(t:XJ):Prop :=
 ∀(a:List (ci×Obj)) (s:gn) (c:St) (H:Hp) (d:List V) (e:List cr) (Q:St->Hp->Prop),Inv X a c H s->Vals d e->t d c H Q ->
  gu (gv X.prog X.w) X.A (assignInOrder ((oV g X.env).map (·.2)) e) (λ_ h=>∃b f,Inv X a b f h/\Q b f) X.xe s
abbrev Of:=V->V->V->Hp->(Hp->Prop)->Prop
def VS(X:Cx)(t:Of):Prop :=
 ∀(a:List (ci×Obj)) (s:gn) (b:St) (H:Hp) (o i v:V) (c d u:cr) (Q:Hp->Prop),Inv X a b H s->RelV o c->RelV i d->RelV v u->t o i v H Q ->
  gu (gv X.prog X.w) X.A (rH c d u) (λ_ f=>∃e,Inv X a b e f/\Q e) X.xe s
abbrev ZW:=V->V->Hp->VK->Prop
def PIp(X:Cx)(c:Operator)(t:ZW):Prop :=
 ∀(a:List (ci×Obj)) (s:gn) (b:St) (H:Hp) (x y:V) (v u:cr) (Q:VK),Inv X a b H s->RelV x v->RelV y u->t x y H Q ->
  gu (gv X.prog X.w) X.A (inplaceOp c v u) (EP X a b Q) X.xe s
def Cf(i:Nat):TG:=λv a H Q=>Q (a.set i<|↑v) H
def uy{i:Nat}(b:X.N.Nodup)(c:X.N[i]?=↑x:=by rfl)(d:Loc X.env.scope x:=by exact lV rfl)(e:X.fn x=true\/X.env.scope.names.lookup x=some .local:=by first|exact .inl rfl|exact .inr rfl|assumption):PG X (.Name x pos) (Cf i):=by intro a s g H v u Q I r h;exact wpAny_assign_Name<|HI I b c d r (λj f=>#[_,H,f,h]) e
def VT:XJ:=λa b H Q=>a=[]/\Q b H
def EY(t:TG)(u:XJ):XJ:=λb c H Q=>∃v r,b=v::r/\t v c H λa d=>u r a d Q
def zU:ZV X [] VT:=by intro a s b H c d Q I r h;obtain⟨e,h⟩:=h;subst e;cases r;exact assignInOrder_nil #[b,H,I,h]
def vP{e:hZ}{b:List hZ}{t:TG}{u:XJ}(d:PG X e t)(f:ZV X b u)
  (g:(oV (e::b) X.env).map (·.2)=rS e X.env::(oV b X.env).map (·.2):=by rfl):ZV X (e::b) (EY t u):=by
 intro a s i H q w Q I r h;obtain⟨v,x,j,h⟩:=h;subst j
 cases r with
 |cons r k =>
  rw[g];refine assignInOrder_cons<|uY (d a s i H _ _ _ I r h) λ_ l m=>e2a2 m λc n o p=>?_;exact f a l c n _ _ Q o k p
def VU(K:ga)(n:Nat)(t:XJ):TG:=λv c H Q=>∃a b,v=.ref a/\yD K H a b/\b.length=n/\t b c H Q
def BH{k:Nat}{n:Nat}(l:X.calm=true)(h:ZV X d t)
 (m:(oV d X.env).length=n:=by rfl)(f:(oV d X.env).findIdx? (·.1)=none:=by rfl):PG X (.Tuple d k pos) (VU X.K n t):=by
  intro c s i H v u Q I r g
  obtain⟨a,p,q,w,x,g⟩:=g
  subst q
  cases r
  obtain⟨y,j,z,D⟩:=I.tuple w
  refine assign_Tuple_tuple (I.ok.hd l) z (by simp[m,<- x,j.length]) f λA B=>?_
  have C:Inv X c i H { s with heap:=A}:=I.kept (t':=s.toks) λb o e=>B b o (gB<|gp e) e
  exact h c _ i H p _ Q C (by simpa using j) g
def a0w(b c:TE)(t:Of):TG:=λv a H Q=>b a H λo d=>c a d λi e=>t o i v e λf=>Q a f
def Og{o i:hZ}{f g:TE}{t:Of}(j:PE X o f)(k:PE X i g)(l:VS X t)
  (m:∀v,rS (.Subscript o i pos) X.env v=(do
   let b <- jY [v] (eval o X.env)
   let c <- jY [v,b] (eval i X.env)
   mf pos
   jY [v,b,c] (rH b c v)
   release [v,b,c] []):=by intro _;rfl):PG X (.Subscript o i pos) (a0w f g t):=by
 intro a s e H v u Q I r h;rw[m];refine am<|g8<|uY (j a s e H _ I h) λb n d=>e2a3 d λx p q w z=>?_;refine am<|g8<|uY (k a n e p _ q z) λc A d=>e2a3 d λy B C D E=>?_;refine am<|mG<|am<|g8<|uY (l a A e B x y v b c u _ C w D r E) λ_ L d=>e1a2 d λF G J=>?_;exact wpAny_release #[e,F,G,J]
def VW(b:TE)(g:TG):TS:=λD a H=>b a H λx c=>g x a c D.nx
def Jl{b e:hZ}{c:TE}{g:TG}(f:PE X e c)(i:PG X b g)(j:swapsWithSole [b] e pos.line X.env=pure false:=by rfl)(hw:swappedStores [b] e X.env=pure none:=by rfl)
  (k:(oV [b] X.env).map (·.2)=[rS b X.env]:=by rfl):PS X (.Assign [b] e pos) (VW c g):=by
 intro a s d H D I h;refine wpAny_Assign_stores (uY (f a s d H _ I h) λv l m=>e2a3 m λx n o p r=>?_) j hw;rw[k];exact uY (i a l d n x v _ o p r) λ_ t q=>q
def zk{i:Nat}{x:Str}{e:hZ}{c:TE}{a:Pos}(d:X.N.Nodup)(f:X.N[i]?=↑x)(g:Loc X.env.scope x)(j:PE X e c)(k:js e (some<|.Name x a) pos.line X.env=pure false:=by rfl)(l:X.fn x=true\/X.env.scope.names.lookup x=some .local:=by first|exact .inl rfl|exact .inr rfl|assumption) :
  PS X (.Assign [.Name x a] e pos) (VW c<|Cf i):=by
 intro b s m H D I h;refine wpAny_Assign_Name (uY (j b s m H _ I h) λv u n=>e2a3 n λy o p q r=>?_) k;exact HI p d f g q (λw t=>#[_,o,t,r]) l
def Yd(e f g:TE)(a:V->V->Hp->VK->Prop)(d:ZW)(b:Of):TS:=λD c H=>e c H λo h=>f c h λi j=>a o i j λx k=>g c k λy l=>d x y l λz m=>b o i z m λn=>D.nx c n
def Ye(X:Cx)(t:V->V->Hp->VK->Prop):Prop :=
 ∀(a:List (ci×Obj)) (s:gn) (b:St) (H:Hp) (o i:V) (c d:cr) (Q:VK),Inv X a b H s->RelV o c->RelV i d->t o i H Q ->
  gu (gv X.prog X.w) X.A (nc c d) (EP X a b Q) X.xe s
def Sd{o i e:hZ}{p q r:TE}{d:V->V->Hp->VK->Prop}{l:ZW}{f:Of}{t:Operator}{m:Pos}(z:PE X o p)(A:PE X i q)(B:Ye X d)(C:PE X e r)(E:PIp X t l)(F:VS X f)
  (G:∀g j b,augStore i g j b=(do jY [b,g,j] (rH g j b);release [b,g,j] [];pure .next):=by intros;rfl):PS X (.AugAssign (.Subscript o i m) t e pos) (Yd p q r d l f):=by
 intro a s k H D I h;refine rs (uY (z a s k H _ I h) λg J c=>e2a3 c λu L M w N=>?_) G;refine uY (A a J k L _ M N) λj O c=>e2a3 c λx P Q y R=>?_;refine uY (B a O k P u x g j _ Q w y R) λn S c=>e2a3 c λT U W Y Z=>?_;refine uY (C a S k U _ W Z) λv s4 c=>e2a3 c λx4 H4 I4 r4 q4=>?_;refine uY (E a s4 k H4 T x4 n v _ I4 Y r4 q4) λb s5 c=>e2a3 c λx5 H5 I5 r5 q5=>?_;exact uY (F a s5 k H5 u x x5 g j b _ I5 w y r5 q5) λ_ s6 c=>e1a2 c λH6 I6 q6=>#[k,H6,I6,q6]
def ipI(f:Int->Int->Int):ZW:=λx y H Q=>∃i j,x=.int i/\y=.int j/\Q (.int<|f i j) H
def Oh:PIp X .Add (ipI λi j=>i+j):=by intro a s f H x y v u Q I b c h;obtain⟨i,j,d,e,q⟩:=h;subst d;subst e;obtain⟨t,rfl⟩:=b;obtain⟨g,rfl⟩:=c;exact iadd_int #[.int _,H,I.tok _,#[_,rfl],q]
def VX:PIp X .Sub (ipI λi j=>i-j):=by intro a s f H x y v u Q I b c h;obtain⟨i,j,d,e,q⟩:=h;subst d;subst e;obtain⟨t,rfl⟩:=b;obtain⟨g,rfl⟩:=c;exact isub_int #[.int _,H,I.tok _,#[_,rfl],q]
def VY(c:TT)(h:TS):TS:=λD a H=>∃W:Nat->St->Hp->Prop,(∃m,W m a H)/\∀m a H,W m a H ->
 c a H λb e=>if b=true then ∃N:St->Hp->Prop,(∀d f,N d f->∃g,g<m/\W g d f)/\h { D with nx:=N,ct:=N,bk:=D.nx} a e else D.nx a e
def Oi{c:hZ}{g:List gV}{u:TT}{x:TS}(y:qO (gv X.prog X.w) X.A X.env X.xe)(F:PT X c u)(G:Ez X g x):PS X (.While c g [] pos) (VY u x):=by
 intro a s J H D I h;obtain⟨W,⟨L,M⟩,i⟩:=h;refine wpAny_While<|codeAny_whileLoop (λn O=>∃j z,Inv X a j z O/\W n j z) ?_ L #[J,H,I,M];rintro n P ⟨e,H1,Q,R⟩;refine kK y<|uY (F a P e H1 _ Q<|i n e H1 R) λb S T=>e1a2 T λB C l=>?_
 cases b with
 |true =>
  refine e1a2 l λN E l=>?_;rw[f9 rfl];refine kK y<|uY (G a S e B _ C l) λf U m=>?_
  cases f with
  |next =>
   refine e2a2 m λd k o p=>?_;refine e1a2 (E d k p) λq r t=>?_;exact#[q,r,d,k,o,t]
  |cont =>
   refine e2a2 m λd k o p=>?_;refine e1a2 (E d k p) λq r t=>?_;exact#[q,r,d,k,o,t]
  |brk=>exact m
  |ret v=>exact m
 |false =>
  rw[gc gw];exact mX #[e,B,C,l]
structure It where
 go:Nat->Hp->Prop
 HA:Nat->Hp->V->Hp->Prop
 stop:Nat->Hp->Prop
def AA(X:Cx)(a:List (ci×Obj))(H:Hp)(b:ci):Prop :=
 H b=none/\b≠X.env.locals/\b∉X.fs/\(b∈X.ex\/X.s₀.heap.objs.size<=b)/\(∀x c,X.env.cells.lookup x=↑c->c≠b)/\∀p∈X.pn++a,p.1≠b
def Inv.FN(I:Inv X a i H s)(d:⇑s<=b)(f:g b=none):AA X a g b:=by
 refine#[f,iK<|gG I.lt d,I.a0o d,.inr<|gW I.sz d,λx c e z=>?_,λp h z=>?_]
 ·obtain⟨v,q⟩:=I.cell x c e;exact gA (gG q.lt<|by rw[z];exact d)<|jm _
 ·exact gA (gG (gp (I.pin p h).1)<|by rw[z];exact d)<|jm _
structure Turn(P:gY)(w:il)(K:ga)(tg:hZ)(J:It)(fp:List ci)(it:ci)(tn:Nat->h8->Prop):Prop where
 mem:it∈fp
 obj:∀i h,tn i h->∀b∈fp,∃o,h.get? b=↑o/\∀v,o.data≠.cell v
 keep:∀i h h',tn i h->(∀b∈fp,∀o,h.get? b=↑o->h'.get? b=↑o)->tn i h'
 item:∀(X:Cx),X.prog=P->X.w=w->X.K=K->X.calm=true->∀(i:Nat) (pins:List (ci×Obj)) (s:gn) (σ:St) (H:Hp) (E:cr->gn->Prop),Inv X pins σ H s->(∀b∈fp,AA X pins H b)->tn i s.heap->J.go i H ->
  gu (gv P w) X.A (pyNext (.ref it)) (λr s1=>∃u,r=↑u /\
   gu (gv P w) X.A (rA tg (.ref it) u) (λ_ s2=>∃x H',Inv X pins σ H' s2/\RelV x u/\J.HA i H x H'/\tn (i+1) s2.heap/\∀b∈fp,H' b=none) E s1) E s
 done:∀(X:Cx),X.prog=P->X.w=w->X.K=K->X.calm=true->∀(i:Nat) (pins:List (ci×Obj)) (s:gn) (σ:St) (H:Hp) (E:cr->gn->Prop),Inv X pins σ H s->(∀b∈fp,AA X pins H b)->tn i s.heap->J.stop i H ->
  gu (gv P w) X.A (pyNext<|.ref it) (λr s1=>r=none/\Inv X pins σ H s1) E s
 self:∀(A:iW)(i:Nat)(s:gn)(Q:cr->gn->Prop)(E:cr->gn->Prop),tn i s.heap->Q (.ref it) s->gu (gv P w) A (pyIter<|.ref it) Q E s
abbrev TI:=St->Hp->(It->Hp->Prop)->Prop
def PIE(X:Cx)(a:List (ci×Obj))(i:St)(j:hZ)(R:It->Hp->Prop)(c:cr)(e:gn):Prop :=
 ∃(f:ci)(g:List ci)(h:Nat->h8->Prop)(J:It)(d:Hp),c=.ref f/\Inv X a i d e/\Turn X.prog X.w X.K j J g f h/\h 0 e.heap/\(∀b∈g,AA X a d b)/\R J d
def PI(X:Cx)(d b:hZ)(e:TI):Prop :=
 ∀(a:List (ci×Obj)) (s:gn) (c:St) (H:Hp) (R:It->Hp->Prop),Inv X a c H s->e c H R ->
  gu (gv X.prog X.w) X.A (eval b X.env) (λv f=>gu (gv X.prog X.w) X.A (pyIter v) (PIE X a c d R) X.xe f) X.xe s
def Oj{s:gn}(b:s.heap.get? c=↑o)(d:o.cls=.type n)(e:o.data=.fields f)
 (g:["enumerate","zip","dict_itemiterator","dict_reverseitemiterator","odict_iterator","itertools.zip_longest","itertools.pairwise"].contains n=false)(a:Q () s):gu M A (rA i (.ref c) u) Q E s:=by
  cases i<;>first
    | exact ap a
    | (cases u<;>first
        | exact ap a
        | (refine am (qe b ?_)
           rw[d,e]
           show gu M A (if (["enumerate","zip","dict_itemiterator","dict_reverseitemiterator","odict_iterator","itertools.zip_longest","itertools.pairwise"].contains n&&f[0]?==↑(kP _))=true then _ else _) Q E s
           rw[gc<|by intro h;rw[g,Bool.false_and]at h;cases h]
           exact ap a))
noncomputable def XM(K:ga)(a:ci):It :=
 #[λi H=>∃b x,vJ K H a b/\b[i]?=↑x,λi H x c=>c=H/\∀b,vJ K H a b->b[i]?=↑x,λi H=>∃b,vJ K H a b/\b.length<=i]
noncomputable def Itt(K:ga)(a:ci):It :=
 #[λi H=>∃b x,yD K H a b/\b[i]?=↑x,λi H x c=>c=H/\∀b,yD K H a b->b[i]?=↑x,λi H=>∃b,yD K H a b/\b.length<=i]
noncomputable def VZ(a:Int)(n:Nat):It:=#[λi _=>i<n,λi H x b=>b=H/\x=.int (a+i),λi _=>n<=i]
def MT{P:gY}{w:il}{K:ga}{tg:hZ}(a it:ci):Turn P w K tg (XM K a) [it] it (λi h=>h.IsListIter it a i) where
 mem:=by simp
 obj:=λi h st b hb=>by
  have e:b=it:=by simpa using hb
  subst e;refine e1a3 st λo e c d=>?_;exact#[o,e,λv z=>by rw[d]at z;cases z]
 keep:=λi h h' st k=>st.at λo e=>k it q0o o e
 item:=by intro X hP hw hK hc i pins s σ H E I hf st hg;subst hP hw hK;refine e2a2 hg λxs x hq hx=>?_;refine e1a3 (I.list hq) λzg rv p hz=>?_;refine e1a2 (rv.get hx) λu hu ru=>?_;refine e0a6 (hf it q0o) λf0 f1 f2 f3 f4 f5=>?_;refine wpAny_pyNext_list_item st p.isList (x:=u) (by simpa using hu) λh' U5 sb=>?_;have I1:Inv X pins σ H { s with heap:=h'}:=I.turned (t':=s.toks) (λb o hb e=>(sb.2 b hb).trans e) f0 f1 f3 f4 f5;refine e1a3 (id U5) λo e c d=>?_;exact#[u,rfl,Oj (s:={ s with heap:=h'}) e c d q0q #[x,H,I1,ru,#[rfl,λys hy=>by rw[I.HK hy hq];exact hx],U5,λb hb=>(hf b hb).1]]
 done:=by intro X hP hw hK hc i pins s σ H E I hf st hg;subst hP hw hK;refine e1a2 hg λxs hq hx=>?_;refine e1a3 (I.list hq) λzg rv p hz=>?_;refine e0a6 (hf it q0o) λf0 f1 f2 f3 f4 f5=>?_;have hl:=rv.length;exact wpAny_pyNext_list_end (I.ok.hd hc) st p.isList (by simp;lia) λh' eb=>#[rfl,I.turned (t':=s.toks) (λb o hb e=>eb b o hb e) f0 f1 f3 f4 f5]
 self:=λ_ _ _ _ _ st h=>wpAny_pyIter_listiter st h
def Jm{P:gY}{w:il}{K:ga}{tg:hZ}(a it:ci):Turn P w K tg (Itt K a) [it] it (λi h=>h.IsTupleIter it a i) where
 mem:=by simp
 obj:=λi h st b hb=>by
  have e:b=it:=by simpa using hb
  subst e;refine e1a3 st λo e c d=>?_;exact#[o,e,λv z=>by rw[d]at z;cases z]
 keep:=λi h h' st k=>st.at λo e=>k it q0o o e
 item:=by intro X hP hw hK hc i pins s σ H E I hf st hg;subst hP hw hK;refine e2a2 hg λxs x hq hx=>?_;refine e1a3 (I.tuple hq) λzg rv p hz=>?_;refine e1a2 (rv.get hx) λu hu ru=>?_;refine e0a6 (hf it q0o) λf0 f1 f2 f3 f4 f5=>?_;refine wpAny_pyNext_tuple_item st (show s.heap.IsTuple a zg.toArray from p) (x:=u) (by simpa using hu) λh' U5 sb=>?_;have I1:Inv X pins σ H { s with heap:=h'}:=I.turned (t':=s.toks) (λb o hb e=>(sb.2 b hb).trans e) f0 f1 f3 f4 f5;refine e1a3 (id U5) λo e c d=>?_;exact#[u,rfl,Oj (s:={ s with heap:=h'}) e c d q0q #[x,H,I1,ru,#[rfl,λys hy=>by rw[I.MR hy hq];exact hx],U5,λb hb=>(hf b hb).1]]
 done:=by intro X hP hw hK hc i pins s σ H E I hf st hg;subst hP hw hK;refine e1a2 hg λxs hq hx=>?_;refine e1a3 (I.tuple hq) λzg rv p hz=>?_;refine e0a6 (hf it q0o) λf0 f1 f2 f3 f4 f5=>?_;have hl:=rv.length;exact wpAny_pyNext_tuple_end (I.ok.hd hc) st (show s.heap.IsTuple a zg.toArray from p) (by simp;lia) λh' eb=>#[rfl,I.turned (t':=s.toks) (λb o hb e=>eb b o hb e) f0 f1 f3 f4 f5]
 self:=λ_ _ _ _ _ st h=>wpAny_pyIter_tupleiter st h
def Jn{P:gY}{w:il}{K:ga}{tg:hZ}(it:ci)(lo:Int)(n:Nat):Turn P w K tg (VZ lo n) [it] it (λi h=>IsRangeIter h it (lo+(i:Nat)*1) ((n:Int)-(i:Nat)) 1) where
 mem:=by simp
 obj:=λi h st b hb=>by
  have e:b=it:=by simpa using hb
  subst e
  exact#[_,st,λv z=>by
   have z':sA _=Data.cell v:=z
   cases z']
 keep:=λi h h' st k=>k it q0o _ st
 item:=by intro X hP hw hK hc i pins s σ H E I hf st hg;subst hP hw hK;refine e0a6 (hf it q0o) λf0 f1 f2 f3 f4 f5=>?_;have W:=Walks.range (prog:=X.prog) (w:=X.w) (I.ok.hd hc) it lo 1 n;refine W.item i s _ _ hg st λv h' tk hv U5 kk=>?_;obtain⟨t,rfl⟩:=hv;have I1:Inv X pins σ H { s with heap:=h',toks:=tk}:=I.turned (λb o hb e=>kk b o (by simpa using hb) e) f0 f1 f3 f4 f5;refine#[_,rfl,Oj (s:={ s with heap:=h',toks:=tk}) (n:="range_iterator") U5 rfl rfl q0q #[.int<|lo+i,H,I1,⟨t,?_⟩,⟨rfl,rfl⟩,U5,λb hb=>(hf b hb).1]];rw[Int.mul_one]
 done:=by intro X hP hw hK hc i pins s σ H E I hf st hg;refine e0a6 (hf it q0o) λf0 f1 f2 f3 f4 f5=>?_;exact wpAny_pyNext_range_end (I.ok.hd hc) st (by have:n<=i:=hg;lia) λh' eb=>#[rfl,I.turned (t':=s.toks) (λb o hb e=>eb b o hb e) f0 f1 f3 f4 f5]
 self:=λ_ _ _ _ _ st h=>wpAny_pyIter_rangeiter st h
def Yf(K:ga)(c:TE):TI:=λd H R=>c d H λx b=>∃a,x=.ref a/\(∃e,vJ K b a e)/\R (XM K a) b
def a0z(K:ga)(c:TE):TI:=λd H R=>c d H λx b=>∃a,x=.ref a/\(∃e,yD K b a e)/\R (Itt K a) b
def FO{l:hZ}{g:TE}(i:PE X l g):PI X y l (Yf X.K g):=by
 intro c s j H R I h;refine uY (i c s j H _ I h) λv d k=>e2a3 k λx m f n r=>?_;obtain⟨a,e,⟨z,t⟩,q⟩:=r;subst e;cases n;refine e1a3 (f.list t) λu A p B=>?_;refine wpAny_pyIter_list p.isList ?_;refine#[⇑d,[⇑d],_,_,m,rfl,f.kept (t':=d.toks) λb o e=>ce _ e,MT a _,#[_,gx _ rfl,rfl,rfl],λb w=>?_,q];have e:b=⇑d:=by simpa using w
 subst e;exact f.FN (gg _)<|f.vc.fresh<|gg _
def V0{l:hZ}{i:TE}(j:PE X l i):PI X y l (a0z X.K i):=by
 intro c s k H R I h;refine uY (j c s k H _ I h) λv d m=>e2a3 m λx n f r t=>?_;obtain⟨a,e,⟨z,u⟩,q⟩:=t;subst e;cases r;refine e1a3 (f.tuple u) λg A p B=>?_;refine qf (show d.heap.IsTuple a g.toArray from p) ?_;refine#[⇑d,[⇑d],_,_,n,rfl,f.kept (t':=d.toks) λb o e=>ce _ e,Jm a _,#[_,gx _ rfl,rfl,rfl],λb w=>?_,q];have e:b=⇑d:=by simpa using w
 subst e;exact f.FN (gg _)<|f.vc.fresh<|gg _
def HM{a c:Int}{f:Nat}(I:Inv X d h H s)(i:-(2 ^ 62)<=a)(j:a<2 ^ 62)(k:-(2 ^ 62)<=c)(l:c<2 ^ 62)
 (q:R (VZ a (c-a).toNat) H):gu (gv X.prog X.w) X.A (pyIter<|.ref ⇑s) (PIE X d h r R) E { s with heap:=s.heap.push { cls:=.type "range",data:=.fields #v[.int a t,.int c u,.int 1 v]},toks:=f}:=by
  refine wpAny_pyIter_range (IsRange.new ..) (small_one i j k l) ?_
  have g:Inv X d h H { s with heap:=s.heap.push { cls:=.type "range",data:=.fields #v[.int a t,.int c u,.int 1 v]},toks:=f}:=I.kept λb o e=>ce _ e
  refine#[(s.heap.push { cls:=.type "range",data:=.fields #v[.int a t,.int c u,.int 1 v]}).objs.size,[(s.heap.push { cls:=.type "range",data:=.fields #v[.int a t,.int c u,.int 1 v]}).objs.size],_,_,H,rfl,
    g.kept (t':=f) λb o e=>ce _ e,Jn _ a (c-a).toNat,?_,λb m=>?_,q]
  · have n : a+((0 : Nat) : Int)*1 = a := by simp
    have p:(((c-a).toNat:Nat):Int)-((0:Nat):Int)=Builtin.Range.rangeSize a c 1:=by rw[rangeSize_one];split<;>lia
    rw[n,p]
    exact gx _ rfl
  · have e : b = (s.heap.push { cls := .type "range", data := .fields #v[.int a t, .int c u, .int 1 v] }).objs.size := by simpa using m
    subst e
    exact g.FN (gg _)<|g.vc.fresh<|gg _
def Yg(a:TA):TI:=λb H R=>a b H λc d=>∃j:Int,c=[.int j]/\-(2 ^ 62)<=j/\j<2 ^ 62/\R (VZ 0 j.toNat) d
def U6(a:TA):TI:=λb H R=>a b H λc d=>∃i j:Int,c=[.int i,.int j]/\(-(2 ^ 62)<=i/\i<2 ^ 62/\-(2 ^ 62)<=j/\j<2 ^ 62)/\R (VZ i (j-i).toNat) d
def MU{a:hZ}{f:TA}{p b:Pos}(g:Gl X "range")(i:X.mg "range"=none)(k:PA X [a] f)(l:gf [a] X.env=[(false,eval a X.env)]:=by rfl):PI X x (.Call (.Name "range" p) [a] [] b) (Yg f):=by
 intro c s m H R I h;refine Call_<|yI I g i boot_range<|jv (uY (k b c s m H _ I h) λy z n=>e2a3 n λA B o u d=>?_) l rfl;obtain⟨j,e,d,v,q⟩:=d;subst e
 cases u with
 |cons r w =>
  cases w;obtain⟨t,rfl⟩:=r;exact call_range_1<|HM o q0a q0a d v (by simpa using q)
def XQ{a b:hZ}{l:TA}{p c:Pos}(m:Gl X "range")(n:X.mg "range"=none)(o:PA X [a,b] l)(u:gf [a,b] X.env=[(false,eval a X.env),(false,eval b X.env)]:=by rfl)(d:gf [b] X.env=[(false,eval b X.env)]:=by rfl) :
  PI X C (.Call (.Name "range" p) [a,b] [] c) (U6 l):=by
 intro f s v H R I h;refine Call_<|yI I m n boot_range<|jv (uY (o c f s v H _ I h) λD E ⟨F,H1,w,x,g⟩=>?_) (by rw[u,d]) (by rw[d];rfl);obtain⟨i,j,e,⟨g,y,z,A⟩,q⟩:=g;subst e
 cases x with
 |cons r k =>
  cases k with
  |cons B k =>
   cases k;obtain⟨t,rfl⟩:=r;obtain⟨G,rfl⟩:=B;exact call_range_2<|HM w g y z A q
def a0A(f:TI)(g:TG)(h:TS):TS:=λD a H=>f a H λJ j=>∃W:Nat->Nat->St->Hp->Prop,(∃m,W 0 m a j)/\∀i m a H,W i m a H ->
 (J.stop i H/\D.nx a H)\/(J.go i H/\∃N:St->Hp->Prop,(∀b c,N b c->∃e,e<m/\W (i+1) e b c)/\∀x c,J.HA i H x c->g x a c λd k=>h { D with nx:=N,ct:=N,bk:=D.nx} d k)
noncomputable def Dk(a:List ci)(h:h8):List (ci×Obj):=a.filterMap λb=>(h.get? b).map λo=>(b,o)
def wO{h:h8}(a:b∈c)(e:h.get? b=↑o):(b,o)∈Dk c h:=List.mem_filterMap.mpr #[b,a,by rw[e];rfl]
def MV(a:p∈Dk c h):p.1∈c/\h.get? p.1=↑p.2:=by
 refine e1a2 (List.mem_filterMap.mp a) λb d e=>?_
 cases q:h.get? b with
 |none=>rw[q]at e;cases e
 |some o =>
  rw[q]at e;have f:(b,o)=p:=iq e;subst f;exact#[d,q]
def Inv.pinned(I:Inv X a g H s)(h:∀b∈fp,AA X a H b)(i:∀b∈fp,∃o,s.heap.get? b=↑o/\∀v,o.data≠.cell v):Inv X (a++Dk fp s.heap) g H s :=
 I.yG λp j=>(List.mem_append.mp j).elim (λz=>I.pin p<|gI _ z) λz=>by obtain⟨c,e⟩:=MV z;obtain⟨k,l,m,_⟩:=h p.1 c;refine e1a2 (i p.1 c) λo f d=>?_;rw[e]at f;cases f;exact#[e,k,l,m,d]
def Inv.zl(I:Inv X (a++d) b H s):Inv X a b H s:=I.yG λp c=>I.pin p<|gI _<|iw _ c
def Ol{j:hZ}{C:List gV}{wi:TI}{g:TG}{tb:TS}{Y:Pos}(M:qO (gv X.prog X.w) X.A X.env X.xe)(hc:X.calm=true)(hi:PI X tg j wi)(hg:PG X tg g)(k:Ez X C tb)
  (hs:∀x,jD j X.env x=pure x:=by intro _;rfl):PS X (.For tg j C [] Y) (a0A wi g tb):=by
 intro a s σ H D I h;refine wpAny_For (uY (hi a s σ H _ I h) λv s1 h1=>uY h1 λai s2 h2=>?_) hs;obtain⟨it,O,tn,J,H2,e,I2,T,Z,f2,W,⟨m0,w0⟩,P⟩:=h2;subst e
 -- ag aa true of the E Q through the ah
 have l:∀{B:Hp},(∀b∈O,B b=none)->∀b∈O,AA X a B b:=λhn b k=>#[hn b k,(f2 b k).2];refine codeAny_forLoop_any (λn s'=>∃i p B,Inv X a p B s'/\tn i s'.heap/\(∀b∈O,B b=none)/\W i n p B) ?_ m0 #[0,σ,H2,I2,Z,λb k=>(f2 b k).1,w0];rintro n s3 ⟨i,q,H3,I3,R,S,w3⟩;rcases P i n q H3 w3 with⟨stop,qn⟩|⟨go,N,hN,step⟩
 ·refine kK M<|uY (T.done X rfl rfl rfl hc i a s3 q H3 X.xe I3 (l S) R stop) λr s4 G=>e0a2 G λhr I4=>?_;subst hr;exact mX #[q,H3,I4,qn]
 ·refine kK M<|uY (T.item X rfl rfl rfl hc i a s3 q H3 X.xe I3 (l S) R go) λr s4 G=>e1a2 G λu hr h4=>?_;subst hr;refine kK M<|uY h4 λ_ s5 G=>e2a5 G λx H5 I5 r5 y5 L ab=>?_;have ae:=I5.pinned (l ab)<|T.obj _ _ L;refine kK M<|uY (hg _ s5 q H5 x u _ ae r5<|step x H5 y5) λ_ s6 G=>e2a2 G λaf H6 I6 q6=>?_;refine kK M (uY (k _ s6 af H6 _ I6 q6) λf s7 F=>?_)
  have t:∀{c:St} {y:Hp},Inv X (a++Dk O s5.heap) c y s7->N c y->∃m,m<n/\∃i p B,Inv X a p B s7/\tn i s7.heap/\(∀b∈O,B b=none)/\W i m p B:=λ{c y} z U=>by refine e1a2 (hN c y U) λm' hm w7=>?_;refine#[m',hm,i+1,c,y,z.zl,T.keep _ _ _ L λb k o e=>(z.pin (b,o)<|gI _<|gI _<|wO k e).1,λb k=>?_,w7];refine e1a2 (T.obj _ _ L b k) λo e d=>?_;exact(z.pin (b,o)<|gI _<|gI _<|wO k e).2.1
  cases f with
  |next=>obtain⟨c,y,z,U⟩:=F;exact t z U
  |cont=>obtain⟨c,y,z,U⟩:=F;exact t z U
  |brk=>obtain⟨c,y,z,F⟩:=F;exact#[c,y,z.zl,F]
  |ret v=>obtain⟨x7,c,y,z,r7,F⟩:=F;exact#[x7,c,y,z.zl,r7,F]
def Om{K:ga}{a:ci}{xs:List V}{g:TG}{l:TS}{D:Ends}{b:St}{H:Hp}(c:Nat->St->Hp->Prop)(o:c 0 b H)(r:∀i b H,i<=xs.length->c i b H->vJ K H a xs)
  (s:∀i x b H,xs[i]?=↑x->c i b H->g x b H λd k=>l { D with nx:=c<|i+1,ct:=c<|i+1,bk:=D.nx} d k) (t:∀b H,c xs.length b H->D.nx b H) :
  ∃W:Nat->Nat->St->Hp->Prop,(∃m,W 0 m b H)/\∀i m b H,W i m b H ->
   ((XM K a).stop i H/\D.nx b H)\/((XM K a).go i H/\∃N:St->Hp->Prop,(∀f h,N f h->∃n,n<m/\W (i+1) n f h)/\∀x h,(XM K a).HA i H x h->g x b h λd k=>l { D with nx:=N,ct:=N,bk:=D.nx} d k):=by
 refine#[λi m b H=>m=xs.length-i/\i<=xs.length/\c i b H,#[xs.length,q0o,iz _,o],?_];rintro i m b H ⟨rfl,u,p⟩;have q:=r i b H u p;by_cases j:i<xs.length
 ·refine .inr #[#[xs,xs[i],q,by simp[j]],c<|i+1,λf h v=>#[xs.length-(i+1),q0d,rfl,j,v],λx h y=>?_];obtain⟨e,y⟩:=y;subst e;exact s i x b _ (y xs q) p
 ·have e:i=xs.length:=by omega
  subst e;exact .inl #[#[xs,q,gg _],t b H p]
abbrev R2:=V->V->Hp->VK->Prop
def Ai(X:Cx)(f:cr->cr->Sem cr)(r:R2):Prop :=
 ∀(a:List (ci×Obj)) (s:gn) (b:St) (H:Hp) (x y:V) (v u:cr) (Q:VK),Inv X a b H s->RelV x v->RelV y u->r x y H Q ->
  gu (gv X.prog X.w) X.A (f v u) (EP X a b Q) X.xe s
def UnR(X:Cx)(f:cr->Sem cr)(r:V->Hp->VK->Prop):Prop :=
 ∀(a:List (ci×Obj)) (s:gn) (b:St) (H:Hp) (x:V) (v:cr) (Q:VK),Inv X a b H s->RelV x v->r x H Q ->
  gu (gv X.prog X.w) X.A (f v) (EP X a b Q) X.xe s
def xZ(X:Cx)(f:cr)(r:List V->Hp->VK->Prop):Prop :=
 ∀(a:List (ci×Obj)) (s:gn) (b:St) (H:Hp) (c:List V) (d:List cr) (Q:VK),Inv X a b H s->Vals c d->r c H Q ->
  gu (gv X.prog X.w) X.A (call f d) (EP X a b Q) X.xe s
def a0C(X:Cx)(r:V->Hp->(Bool->Hp->Prop)->Prop):Prop :=
 ∀(a:List (ci×Obj)) (s:gn) (b:St) (H:Hp) (x:V) (v:cr) (Q:Bool->Hp->Prop),Inv X a b H s->RelV x v->r x H Q ->
  gu (gv X.prog X.w) X.A (tJ v) (TP X a b Q) X.xe s
def XU(r:R2)(b c:TE):TE:=λa H Q=>b a H λx d=>c a d λy e=>r x y e Q
def tUn(r:V->Hp->VK->Prop)(a:TE):TE:=λb H Q=>a b H λx c=>r x c Q
def rI(C:Int->Int->Prop)(g:Int->Int->V):R2:=λx y H Q=>∃i j,x=.int i/\y=.int j/\C i j/\Q (g i j) H
def RQ(g:Int->Int->V):R2:=λx y H Q=>∃i j,x=.int i/\y=.int j/\Q (g i j) H
def rU(g:Int->V):V->Hp->VK->Prop:=λx H Q=>∃i,x=.int i/\Q (g i) H
def V1(m:PE X a n)(o:PE X b p){c:List (ci×Obj)}{s:gn}{d:St}{H:Hp}{R:V->V->Hp->Prop}(I:Inv X c d H s)
  (h:n d H λx k=>p d k λy e=>R x y e) {Q:cr->gn->Prop} {f:cr->cr->Sem cr}
  (q:∀v u j x y e,Inv X c d e j->RelV x v->RelV y u->R x y e->gu (gv X.prog X.w) X.A (f v u) Q X.xe j) :
  gu (gv X.prog X.w) X.A (eval a X.env) (λv g=>gu (gv X.prog X.w) X.A (eval b X.env) (λu i=>gu (gv X.prog X.w) X.A (f v u) Q X.xe i) X.xe g) X.xe s:=by
 refine uY (m c s d H _ I h) λv r l=>e2a3 l λx k t z B=>?_;refine uY (o c r d k _ t B) λu j l=>e2a3 l λy e C D E=>?_;exact q v u j x y e C z D E
def wg(d:Ai X (lK op) r)(e:PE X a f)(g:PE X b i):PE X (.BinOp a op b pos) (XU r f i):=by intro c s j H Q I h;exact wpAny_BinOp<|V1 e g I h λv u k x y l m n o q=>d c k j l x y v u Q m n o q
def U7{c:UnaryOp}{r:V->Hp->VK->Prop}(e:UnR X (unaryOp c) r)(f:PE X a g):PE X (.UnaryOp c a pos) (tUn r g):=by intro b s d H Q I h;exact UnaryOp_<|uY (f b s d H _ I h) λv i j=>e2a3 j λx k l m n=>e b i d k x v Q l m n
def ZX{f:cr->cr->Sem cr}{C:Int->Int->Prop}{g:Int->Int->Int}
 (a:∀(i j:Int)(t u:Tok)(s:gn)(Q:cr->gn->Prop)(E:cr->gn->Prop),C i j->Q (.int (g i j) s.toks) { s with toks:=s.toks+1}->gu (gv X.prog X.w) X.A (f (.int i t)<|.int j u) Q E s) :
    Ai X f (rI C λi j=>.int<|g i j):=by
  intro b s l H x y v u Q I c d h
  obtain⟨i,j,rfl,rfl,e,q⟩:=h
  obtain⟨t,rfl⟩:=c
  obtain⟨k,rfl⟩:=d
  exact a i j t k s _ _ e #[.int<|g i j,H,I.tok _,#[_,rfl],q]
def Yh{f:cr->cr->Sem cr}{g:Int->Int->Int}
 (a:∀(i j:Int)(t u:Tok)(s:gn)(Q:cr->gn->Prop)(E:cr->gn->Prop),Q (.int (g i j) s.toks) { s with toks:=s.toks+1}->gu (gv X.prog X.w) X.A (f (.int i t)<|.int j u) Q E s) :
    Ai X f (RQ λi j=>.int<|g i j):=by
  intro b s k H x y v u Q I c d h
  obtain⟨i,j,rfl,rfl,q⟩:=h
  obtain⟨t,rfl⟩:=c
  obtain⟨e,rfl⟩:=d
  exact a i j t e s _ _ #[.int<|g i j,H,I.tok _,#[_,rfl],q]
def Sg{f:cr->cr->Sem cr}{g:Int->Int->Bool}
 (a:∀(i j:Int)(t u:Tok)(s:gn)(Q:cr->gn->Prop)(E:cr->gn->Prop),Q (.bool<|g i j) s->gu (gv X.prog X.w) X.A (f (.int i t)<|.int j u) Q E s) :
    Ai X f (RQ λi j=>.bl<|g i j):=by
  intro b s k H x y v u Q I c d h
  obtain⟨i,j,rfl,rfl,q⟩:=h
  obtain⟨t,rfl⟩:=c
  obtain⟨e,rfl⟩:=d
  exact a i j t e s _ _ #[.bl<|g i j,H,I,rfl,q]
def a0D(i j:Int):Prop:=0<j/\j<1073741824
def a0E(i j:Int):Prop:=0<=j/\j<=1000000/\i.natAbs<2 ^ 64
def V2(i j:Int):Prop:=(-(2 ^ 64)<i/\i<2 ^ 64)\/(-(2 ^ 64)<j/\j<2 ^ 64)
def V2.ok{i j:Int}(h:V2 i j):IntMulOk i j:=by
 rcases h with⟨a,b⟩|⟨a,b⟩
 ·exact .of_left<|intBits_le_64 a b
 ·exact .of_right<|intBits_le_64 a b
def AB:Ai X (lK .Add) (RQ λi j=>.int<|i+j):=Yh λ_ _ _ _ _ _ _ q=>add_int q
def Jo:Ai X (lK .Sub) (RQ λi j=>.int<|i-j):=Yh λ_ _ _ _ _ _ _ q=>sub_int q
def AC:Ai X (lK .Mult) (rI V2 λi j=>.int<|i*j):=ZX λ_ _ _ _ _ _ _ a q=>mul_int q a.ok
def LB:Ai X (lK .FloorDiv) (rI a0D λi j=>.int<|i / j):=ZX λi j _ _ _ _ _ a q=>by have b:(0:Int)<j:=a.1;have c:j<1073741824:=a.2;exact floordiv_int q0d (by rw[Int.fdiv_eq_ediv_of_nonneg i q0d];exact q)<|.inl<|PyProof.noPylong_small q0d
def BI:Ai X (lK .Mod) (rI (λ_ j=>0<j) λi j=>.int<|i%j):=ZX λi j _ _ _ _ _ a q=>by exact mod_int' q0a (by rw[Int.fmod_eq_emod_of_nonneg i q0a];exact q)
def V3:Ai X (lK .Pow) (rI a0E λi j=>.int<|i ^ j.toNat):=ZX λ_ _ _ _ _ _ _ a q=>pow_int_small a.1 a.2.1 a.2.2 q
def unI{f:cr->Sem cr}{g:Int->Int}
 (a:∀(i:Int)(t:Tok)(s:gn)(Q:cr->gn->Prop)(E:cr->gn->Prop),Q (.int (g i) s.toks) { s with toks:=s.toks+1}->gu (gv X.prog X.w) X.A (f<|.int i t) Q E s) :
    UnR X f (rU λi=>.int<|g i):=by
  intro b s d H x v Q I c h
  obtain⟨i,rfl,q⟩:=h
  obtain⟨t,rfl⟩:=c
  exact a i t s _ _ #[.int<|g i,H,I.tok _,#[_,rfl],q]
def On:UnR X (unaryOp .USub) (rU λi=>.int (-i)):=unI λ_ _ _ _ _ q=>neg_int q
noncomputable def V4:V->V->Bool
 | .vU,.vU=>true|.vU,.int _=>true|.int _,.vU=>true|.vU,.bl _=>true|.bl _,.vU=>true|.vU,.str _=>true|.str _,.vU=>true
 | .int _,.int _=>true|.bl _,.bl _=>true|.str _,.str _=>true|.Ly _,.Ly _=>true
 | .int _,.str _=>true|.str _,.int _=>true|.bl _,.str _=>true|.str _,.bl _=>true
 |_,_=>false
def rEq:R2:=λx y H Q=>V4 x y=true/\Q (.bl<|decide<|x=y) H
def rNe:R2:=λx y H Q=>V4 x y=true/\Q (.bl<|!decide (x=y)) H
def LC{i j:Int}:decide (V.int i=V.int j)=(i==j):=by rw[lq];simp
def Oo{i j:Bool}:decide (V.bl i=V.bl j)=(i==j):=by rw[lq];simp
def LD:decide (V.str i=V.str j)=(i==j):=by rw[lq];simp
def LF:decide (V.Ly i=V.Ly j)=(i.toList==j.toList):=by rw[lq];cases i;cases j;simp
def uU{k b:Bool}(I:Inv X a c H s)(q:Q (.bl k) H)(e:k=b):EP X a c Q (.bool b) s:=by subst e;exact#[.bl k,H,I,rfl,q]
def Yi:Ai X (iX .Eq) rEq:=by
 intro e s f H x y v u Q I d a h;obtain⟨c,q⟩:=h
 cases x with
 |vU =>
  cases d
  cases y with
  |vU=>cases a;exact PySem.EqNone.eq_none_none<|uU I q q0o
  |bl j=>cases a;exact PySem.EqNone.eq_none_bool<|uU I q q0o
  |int j=>obtain⟨b,rfl⟩:=a;exact PySem.EqNone.eq_none_int<|uU I q q0o
  |str j=>obtain⟨b,rfl⟩:=a;exact PySem.EqNone.eq_none_str<|uU I q q0o
  |_=>exact gA (show false=true from c) gw
 |bl i =>
  cases d
  cases y with
  |vU=>cases a;exact PySem.EqNone.eq_bool_none<|uU I q q0o
  |bl j=>cases a;exact eq_bool<|uU I q Oo
  |str j=>obtain⟨b,rfl⟩:=a;exact PySem.EqMixed.eq_bool_str<|uU I q q0o
  |_=>exact gA (show false=true from c) gw
 |int i =>
  obtain⟨t,rfl⟩:=d
  cases y with
  |vU=>cases a;exact PySem.EqNone.eq_int_none<|uU I q q0o
  |int j=>obtain⟨b,rfl⟩:=a;exact eq_int<|uU I q LC
  |str j=>obtain⟨b,rfl⟩:=a;exact PySem.EqMixed.eq_int_str<|uU I q q0o
  |_=>exact gA (show false=true from c) gw
 |str i =>
  obtain⟨t,rfl⟩:=d
  cases y with
  |vU=>cases a;exact PySem.EqNone.eq_str_none<|uU I q q0o
  |bl j=>cases a;exact PySem.EqMixed.eq_str_bool<|uU I q q0o
  |int j=>obtain⟨b,rfl⟩:=a;exact PySem.EqMixed.eq_str_int<|uU I q q0o
  |str j=>obtain⟨b,rfl⟩:=a;exact eq_str<|uU I q LD
  |_=>exact gA (show false=true from c) gw
 |Ly i =>
  obtain⟨t,rfl⟩:=d
  cases y with
  |Ly j=>obtain⟨b,rfl⟩:=a;exact PySem.W.eq_bytes<|uU I q LF
  |_=>exact gA (show false=true from c) gw
 |_=>cases y<;>exact gA (show false=true from c) gw
def Yj:Ai X (iX .NotEq) rNe:=by
 intro e s f H x y v u Q I d a h;obtain⟨c,q⟩:=h
 cases x with
 |vU =>
  cases d
  cases y with
  |vU=>cases a;exact PySem.EqNone.ne_none_none<|uU I q q0o
  |bl j=>cases a;exact PySem.EqNone.ne_none_bool<|uU I q q0o
  |int j=>obtain⟨b,rfl⟩:=a;exact PySem.EqNone.ne_none_int<|uU I q q0o
  |str j=>obtain⟨b,rfl⟩:=a;exact PySem.EqNone.ne_none_str<|uU I q q0o
  |_=>exact gA (show false=true from c) gw
 |bl i =>
  cases d
  cases y with
  |vU=>cases a;exact PySem.EqNone.ne_bool_none<|uU I q q0o
  |bl j=>cases a;exact ne_bool<|uU I q<|congrArg not Oo
  |str j=>obtain⟨b,rfl⟩:=a;exact PySem.EqMixed.ne_bool_str<|uU I q q0o
  |_=>exact gA (show false=true from c) gw
 |int i =>
  obtain⟨t,rfl⟩:=d
  cases y with
  |vU=>cases a;exact PySem.EqNone.ne_int_none<|uU I q q0o
  |int j=>obtain⟨b,rfl⟩:=a;exact ne_int<|uU I q<|congrArg not LC
  |str j=>obtain⟨b,rfl⟩:=a;exact PySem.EqMixed.ne_int_str<|uU I q q0o
  |_=>exact gA (show false=true from c) gw
 |str i =>
  obtain⟨t,rfl⟩:=d
  cases y with
  |vU=>cases a;exact PySem.EqNone.ne_str_none<|uU I q q0o
  |bl j=>cases a;exact PySem.EqMixed.ne_str_bool<|uU I q q0o
  |int j=>obtain⟨b,rfl⟩:=a;exact PySem.EqMixed.ne_str_int<|uU I q q0o
  |str j=>obtain⟨b,rfl⟩:=a;exact ne_str<|uU I q<|congrArg not LD
  |_=>exact gA (show false=true from c) gw
 |Ly i =>
  obtain⟨t,rfl⟩:=d
  cases y with
  |Ly j=>obtain⟨b,rfl⟩:=a;exact PySem.W.ne_bytes<|uU I q<|congrArg not LF
  |_=>exact gA (show false=true from c) gw
 |_=>cases y<;>exact gA (show false=true from c) gw
def U8:Ai X (iX .Lt) (RQ λi j=>.bl<|decide<|i<j):=Sg λ_ _ _ _ _ _ _ q=>lt_int q
def U9:Ai X (iX .LtE) (RQ λi j=>.bl<|decide<|i<=j):=Sg λ_ _ _ _ _ _ _ q=>le_int q
def Va:Ai X (iX .Gt) (RQ λi j=>.bl<|decide<|j<i):=Sg λ_ _ _ _ _ _ _ q=>gt_int q
def Yk:Ai X (iX .GtE) (RQ λi j=>.bl<|decide<|j<=i):=Sg λ_ _ _ _ _ _ _ q=>ge_int q
def V5:Ai X (iX .Is) (λx y H Q=>y=.vU/\Q (.bl<|decide<|x=.vU) H):=by
 intro a s d H x y v u Q I b c h;obtain⟨rfl,q⟩:=h;cases c;refine is_none_gen<|uU I q ?_
 cases x<;>first
  | (cases b;rfl)
  | (obtain⟨t,rfl⟩:=b;rfl)
def Sh:Ai X (iX .IsNot) (λx y H Q=>y=.vU/\Q (.bl<|!decide (x=.vU)) H):=by
 intro a s d H x y v u Q I b c h;obtain⟨rfl,q⟩:=h;cases c;refine isnot_none_gen<|uU I q ?_
 cases x<;>first
  | (cases b;rfl)
  | (obtain⟨t,rfl⟩:=b;rfl)
def wB(b:hZ)(h:op≠.In:=by decide)(a:op≠.NotIn:=by decide):iB op b=false:=by
 have c:(op==CmpOp.In)=false:=by cases op<;>first|rfl|exact gA rfl h
 have d:(op==CmpOp.NotIn)=false:=by cases op<;>first|rfl|exact gA rfl a
 cases b<;>simp[iB,c,d]
def LG(d:Ai X (iX op) r)(e:PE X a f)(g:PE X b i)(j:iB op b=false):PE X (.Compare a [op] [b] pos) (XU r f i):=by intro c s k H Q I h;exact rR (V1 e g I h λv u l x y m n o p q=>d c l k m x y v u Q n o p q) j
def Yl(t:TE):TT:=λa H Q=>t a H λx b=>∃k,x=.bl k/\Q k b
def w6{g:qx}{r:R2}(l:Ai X (iX g) r)(m:PE X a n)(o:PE X b p)(q:iB g b=false):PT X (.Compare a [g] [b] pos) (Yl<|XU r n p):=by
 intro d s i H Q I h
 refine tW (uY (m d s i H _ I h) λv t f=>e2a3 f λx w A B C=>uY (o d t i w _ A C) λu D f=>e2a3 f λy E F G J =>
  uY (l d D i E x y v u _ F B G J) λc P f=>e2a3 f λz L M N j=>e1a2 j λk e O=>?_) q
 subst e;cases N;exact jC #[L,M,O]
def Ym(K:ga)(x:V)(H:Hp)(k:Bool):Prop :=
 match x with
 | .vU=>k=false
 | .bl b=>k=b
 | .int i=>k=(i != 0)
 | .str y=>y.length<=gh/\k=((y.length:Int) != 0)
 | .Ly y=>y.size<=gh/\k=((y.size:Int) != 0)
 | .ref p=>(∃a,vJ K H p a/\k=!a.isEmpty)\/(∃a,yD K H p a/\k=!a.isEmpty)\/∃c,H p=↑(.dK c)/\k=!c.isEmpty
 |_=>False
def Jq(r:KV a b):(!b.isEmpty)=!a.isEmpty:=by
 cases r<;>rfl
def Dl(r:Vals b a):(!a.toArray.isEmpty)=!b.isEmpty:=by
 cases r<;>simp
def Dm:(gh:Nat)<2 ^ 63:=by rw[iC];decide
def V6:a0C X (λx H Q=>∃k,Ym X.K x H k/\Q k H):=by
 intro u s C H x v Q I g h;refine e1a2 h λk e q=>?_;have D:gh=16777216:=iC
 cases x with
 |vU =>
  cases g;have a:k=false:=e;subst a;exact truthy_none #[H,I,q]
 |bl b =>
  cases g;have a:k=b:=e;subst a;exact jC #[H,I,q]
 |int i =>
  obtain⟨t,rfl⟩:=g;have a:k=(i != 0):=e;subst a;exact PySem.P.truthy_int #[H,I,q]
 |str y =>
  obtain⟨t,rfl⟩:=g;obtain⟨A,a⟩:y.length<=gh/\k=((y.length:Int) != 0):=e;subst a;exact PySem.P.truthy_str q0a #[H,I.tok _,q]
 |Ly y =>
  obtain⟨t,rfl⟩:=g;obtain⟨A,a⟩:y.size<=gh/\k=((y.size:Int) != 0):=e;subst a;exact PySem.W.truthy_bytes q0a #[H,I.tok _,q]
 |ref p =>
  cases g;have a:(∃f,vJ X.K H p f/\k=!f.isEmpty)\/(∃f,yD X.K H p f/\k=!f.isEmpty)\/∃c,H p=↑(.dK c)/\k=!c.isEmpty:=e;rcases a with⟨f,j,a⟩|⟨f,j,a⟩|⟨c,j,a⟩
  ·subst a;refine e1a3 (I.list j) λn r o z=>?_;have d:=r.length;exact wpAny_truthy_list o.isList (by simp only[gy];lia) #[H,I.tok _,by rw[Dl r];exact q]
  ·subst a;refine e1a3 (I.tuple j) λn r o z=>?_;have d:=r.length;exact truthy_tuple o (by simp only[gy];lia) #[H,I.tok _,by rw[Dl r];exact q]
  ·subst a;obtain⟨z,B,l,r,m⟩:c.length<=gh/\(p==j7)=false/\∃l,KV c l/\s.heap.DictOf (uO X.prog X.w) p l:=I.vc p _ j;have d:c.length=l.length:=Paired.length r;exact wpAny_truthy_dict B m q0a #[H,I.tok _,by rw[Jq r];exact q]
 |_=>exact(show False from e).elim
def HN(f:PE X a g)(i:∀b,qd a X.env b=(do let v <- b;mf a.pos;jY [v] (tJ v))) :
  PT X a (λd H Q=>g d H λx e=>∃k,Ym X.K x e k/\Q k e):=by
 intro c s d H Q I h;exact isTrue_plain (uY (f c s d H _ I h) λv j l=>e2a3 l λx m n o p=>V6 c j d m x v Q n o p)<|i _
def vals1(r:Vals [x] a):∃u,a=[u]/\RelV x u:=by
 cases r with
 |cons b c=>cases c;exact#[_,rfl,b]
def vals2(r:Vals [x,y] b):∃u a,b=[u,a]/\RelV x u/\RelV y a:=by
 cases r with
 |cons c d =>
  cases d with
  |cons e f=>cases f;exact#[_,_,rfl,c,e]
structure Jr(h:h8)(x dx C:ci)(mA:Str->Option cr):Prop where
 obj:h.get? x=↑(jM C dx)
 ns:h.Ns1 dx mA
 ne:dx≠x
set_option tactic.hygienic true in
def MW{h:h8}{c:ci}{d:Str->Option cr}(n:h.Ns1 c d):∃f,h.get? c=↑f/\∀name,oi name f=↑(d name):=by
 obtain⟨o,g,r,i,j,k,_,l⟩:=n;refine#[o,i,λname=>?_];have e:=l name;unfold nsFind findBy at e;rw[<- sJ]at e;unfold oi;rw[j];dsimp only;split
 ·rename_i y q
  rw[q]at e;exact congrArg some e
 ·rename_i q
  rw[q]at e
  have a:g.toList.any (·.refKey)=false:=by rw[List.any_eq_false];intro y m;obtain⟨z,t,b⟩:=k y<|Array.mem_toList_iff.mp m;simp[DictEntry.refKey,b]
  have p:¬g.toList.any (·.refKey)=true:=by rw[a];exact gw
  rw[gc p];exact congrArg some e
def Jr.look(I:Jr h x b C c):∃a,PySem.W.InstAt h x (jM C b) C ↑a/\∀name,oi name a=↑(c name) :=
 e1a2 (MW I.ns) λa d e =>
 #[a,#[I.obj,rfl,rfl,d],e]
section
variable{prog:gY}{w:il}{A:iW}{E:cr->gn->Prop}{s:gn}{K:ga}{x dx C f:ci}{mA:Str->Option cr}{name:Str}{v:cr}
def get_map{a:Bool}(X:K.In s.heap)(I:Jr s.heap x dx C mA)(c:lS K C name=true)(d:mQ K C=true)
 (e:gR K (.ref C) name=↑none) (g:mA name=↑v) (b:sK v=true) (h:Q v { s with toks:=s.toks+1}) :
    gu (gv prog w) A (getAttr (.ref x) name a) Q E s:=by
  refine e1a2 I.look λj J i=>?_
  exact PySem.W.get_value X J (oE c).1 (PySem.W.findObj_own d e rfl<|by rw[i,g]) b h
def Op(X:K.In s.heap)(I:Jr s.heap x dx C mA)(a:lS K C name=true)
 (b:gR K (.ref C) name=↑(some<|.ref f)) (c:nI K (.ref f)=true) (d:mA name=none) (h:Q (.ref f,[.ref x]) s) :
    gu (gv prog w) A (lW (.ref x) name i) Q E s:=by
  refine e1a2 I.look λe J g=>?_
  exact PySem.W.method_fn X J (oE a).1 (oE a).2 b (beq_iff_eq.mp c) (by show (oi name e).map (·.isSome)=↑false;rw[g,d];rfl) h
def Si(X:K.In s.heap)(I:Jr s.heap x dx C mA)
 (l:gR K (.ref C) "__setattr__"=↑(some<|.builtin "object.__setattr__")) (m:pi K C=true) (n:pS K C name=↑none) (o:mQ K C=true)
 (hw:ro mA p) (q:p.length<=gh)
 (h:∀e,Jr e x dx C (λy=>if y=name then some v else mA y)->iu dx s.heap e->Q () { s with heap:=e,toks:=s.toks+2}) :
    gu (gv prog w) A (setAttr (.ref x) name v) Q E s:=by
  refine e1a2 I.look λD J F=>?_
  refine PySem.W.set_plain X J l<|PySem.W.osa_open (s:={ s with toks:=s.toks+1}) (r:=none) X J m n λb=>?_
  refine e1a2 (PySem.W.any_some o) λG t g=>?_
  have u:s.heap.get? x=some #[.ref C,↑dx,.plain,#v[]]:=I.obj
  refine am<|ap<|am<|am<|wpAny_loadPart u<|am<|PySem.W.Looks.here (s:={ s with toks:=s.toks+1}) (oF X t) ?_
  rw[g]
  refine ap (a:=↑dx)<|am<|ap<|am ?_
  refine wpAny_nsSet1 (s:={ s with toks:=s.toks+1}) I.ns λe c d=>?_
  obtain⟨H,z,B,i,j,k⟩:=c.count<|PySem.Within.cons name v hw
  refine am<|wpAny_lookBehind i (by rw[j];exact pastItsLine_dict<|gW k<|by rw[gK];lia) ?_
  exact ap<|h _ #[(d.2 _<|Ne.symm I.ne).trans I.obj,c,I.ne] d
def Oq(X:K.In s.heap)(c:pT K C=true)
 (e:gR K (.ref C) "__init__"=↑(some<|.ref f)) (i:oj K (.ref f)=↑(.type "function"))
 (h:lO (gv prog w) (A.under (.builtin "type.__call__" #[.ref C::a,b])) (.call (.ref f) #[.ref (⇑s+1)::a,b]) (PySem.W.InitBack (⇑s+1) R)
 { s with heap:=(s.heap.push jk).push (jM C ⇑s)}) :
    lO (gv prog w) A (.call (.ref C) #[a,b]) R s:=by
  obtain⟨j,g,d,t,k⟩:=s
  exact PySem.W.make_core (PySem.W.makes_of X c) (ol X e) (λself=>PySem.W.bind_fn X self i) (.inl rfl) h
end
noncomputable def zm(f:Str)(v:V):List (Str×V)->List (Str×V)
 | []=>[(f,v)]
 | (g,x)::r=>if g=f then (g,v)::r else (g,x)::zm f v r
def HP(f g:Str)(v:V):∀d:List (Str×V),(zm f v d).lookup g=if g=f then some v else d.lookup g:=by
 intro i
 induction i with
 |nil =>
  show jF g [(f,v)]=_;by_cases h:g=f
  ·have a:(g==f)=true:=beq_iff_eq.mpr h;simp only[jF,a,f9 h]
  ·have a:(g==f)=false:=beq_eq_false_iff_ne.mpr h;simp only[jF,a,gc h]
 |cons j r c =>
  obtain⟨k,x⟩:=j;have l:=c;rw[show zm f v ((k,x)::r)=(if k=f then (k,v)::r else (k,x)::zm f v r) from rfl];by_cases b:k=f
  ·rw[f9 b];by_cases h:g=k
   ·have a:(g==k)=true:=beq_iff_eq.mpr h;simp only[jF,a,f9<|h.trans b]
   ·have a:(g==k)=false:=beq_eq_false_iff_ne.mpr h;simp only[jF,a,gc (λe:g=f=>h<|e.trans b.symm)]
  ·rw[gc b];by_cases h:g=k
   ·have a:(g==k)=true:=beq_iff_eq.mpr h;simp only[jF,a,gc (λe:g=f=>b<|h.symm.trans e)]
   ·have a:(g==k)=false:=beq_eq_false_iff_ne.mpr h;simp only[jF,a];exact l
def EZ(f:Str)(v:V):∀a:List (Str×V),f∈(zm f v a).map (·.1)/\∀g,g∈a.map (·.1)->g∈(zm f v a).map (·.1):=by
 intro d
 induction d with
 |nil=>exact#[by simp[zm],λg h=>by simp at h]
 |cons i r b =>
  obtain⟨k,x⟩:=i;obtain⟨j,l⟩:=b;rw[show zm f v ((k,x)::r)=(if k=f then (k,v)::r else (k,x)::zm f v r) from rfl];by_cases c:k=f
  ·rw[f9 c];subst c;exact#[q0o,λg h=>by simpa using h]
  ·rw[gc c];refine#[?_,λg h=>?_]
   ·rw[gN];exact gl _ j
   ·rw[gN]at h ⊢;rcases List.mem_cons.mp h with e|e
    ·exact List.mem_cons.mpr<|.inl e
    ·exact gl _<|l g e
def Cg(f:Str)(v:V):∀a:List (Str×V),(zm f v a).length<=a.length+1
 | []=>by simp[zm]
 | (k,x)::r=>by
  have c:=Cg f v r;rw[show zm f v ((k,x)::r)=(if k=f then (k,v)::r else (k,x)::zm f v r) from rfl];by_cases b:k=f
  ·rw[f9 b,gK,gK];lia
  ·rw[gc b,gK,gK];lia
def yF.some_of(r:yF ↑v o):∃u,o=↑u/\RelV v u:=by
 cases o with
 |none=>exact(show False from r).elim
 |some u=>exact#[u,rfl,r]
def yF.none_of(r:yF none o):o=none:=by
 cases o with
 |none=>rfl
 |some u=>exact(show False from r).elim
def MX(r:RelV v u):sK u=true:=by
 cases v with
 |vU=>cases (show u=Value.none from r);rfl
 |bl b=>cases (show u=qv b from r);rfl
 |int i=>obtain⟨t,e⟩:=(show ∃t,u=kO i t from r);cases e;rfl
 |str x=>obtain⟨t,e⟩:=(show ∃t,u=Value.str x t from r);cases e;rfl
 |Ly b=>obtain⟨t,e⟩:=(show ∃t,u=Value.bytes b t from r);cases e;rfl
 |VH b=>obtain⟨t,e⟩:=(show ∃t,u=rQ b t from r);cases e;rfl
 |ref a=>cases (show u=gF a from r);rfl
 |ty n=>cases (show u=jw n from r);rfl
def AR(c:xf P w H h)(e:H a=↑(.ins C g fs)):∃b,Jr h a g C b/\(∀f,yF (fs.lookup f)<|b f)/\ro b (fs.map (·.1))/\fs.length<=1000/\H g=↑(.own a):=by obtain⟨d,z,i,j,b,n,r,q⟩:=(show vv P w H h a (.ins C g fs) from c a _ e);exact#[b,#[j,n,i],r,q,z,d]
structure Aj(K:ga)(C:ci):Prop where
 pg:lS K C Str.empty=true
 hd:mQ K C=true
 po:pi K C=true
 sa:gR K (.ref C) "__setattr__"=↑(some<|.builtin "object.__setattr__")
def Aj.get{K:ga}{C:ci}(c:Aj K C)(f:Str):lS K C f=true:=c.pg
def vh(K:ga)(C:ci)(f:Str):Prop:=gR K (.ref C) f=↑none
def vh.Yn{K:ga}{C:ci}{f:Str}(n:vh K C f):pS K C f=↑none:=by unfold pS;rw[show gR K (.ref C) f=some none from n];rfl
structure Meth(K:ga)(C:ci)(m:Str)(f:ci):Prop where
 at_:gR K (.ref C) m=↑(some<|.ref f)
 fn:nI K (.ref f)=true
 kp:iI K (.ref f)=true
def Js{b:Bool}(I:Inv X d j H s)(e:H a=↑(.ins C p fs))(c:Aj X.K C)(n:vh X.K C f)(l:fs.lookup f=↑v)
 (h:∀u g,Inv X d j H g->RelV v u->Q u g):gu (gv X.prog X.w) A (getAttr (.ref a) f b) Q E s:=by
  obtain⟨k,O,r,_,_,_⟩:=AR I.vc e
  obtain⟨u,m,i⟩:=yF.some_of (v:=v) (o:=k f) (by rw[<- l];exact r f)
  exact get_map I.xX O (c.get f) c.hd n m (MX i)<|h u _ (I.tok _) i
def AD(I:Inv X b i H s)(e:H a=↑(.ins C j fs))(c:Aj X.K C)(k:Meth X.K C m g)(l:fs.lookup m=none)
 (h:Q (.ref g,[.ref a]) s):gu (gv X.prog X.w) A (lW (.ref a) m n) Q E s:=by
  obtain⟨d,O,r,_,_,_⟩:=AR I.vc e
  have f:d m=none:=yF.none_of (by rw[<- l];exact r m)
  exact Op I.xX O (c.get m) k.at_ k.fn f h
def Ju(I:Inv X d t H s)(e:H a=↑(.ins C i fs))(c:Aj X.K C)(n:vh X.K C f)(N:fs.length<1000)(v:RelV y u)
 (h:∀k,Inv X d t (upd H a<|.ins C i<|zm f y fs) k->Q () k):gu (gv X.prog X.w) A (setAttr (.ref a) f u) Q E s:=by
  obtain⟨l,O,r,m,_,p⟩:=AR I.vc e
  have B:(fs.map (·.1)).length<=gh:=by rw[gm,iC];lia
  refine Si I.xX O c.sa c.po n.Yn c.hd m B λD j F=>h _ ?_
  have G:∃o,D.get? i=↑o:=e3a2 j.ns λo _ _ J _=> #[o,J]
  refine I.write (x:=a) (e:=i) (by rw[e];exact True.intro) (.inr p) (λb q L z=>(F.2 b L).trans z) G ?_
  refine#[by rw[ui O.ne];exact p,?_,O.ne,j.obj,_,j.ns,λg=>?_,λg M=>?_]
  · have := Cg f y fs; lia
  · show yF ((zm f y fs).lookup g) (if g = f then some u else l g)
    rw[HP]
    by_cases q:g=f
    · rw[f9 q, f9 q]; exact v
    · rw[gc q, gc q]; exact r g
  · by_cases q : g = f
    · rw[q]; exact(EZ f y fs).1
    · refine(EZ f y fs).2 g (m g λz => M ?_)
      show (if g=f then some u else l g)=none
      rw[gc q];exact z
def Inv.made(I:Inv X c g H s):Inv X c g (upd (upd H ⇑s<|.own<|⇑s+1) (⇑s+1)<|.ins C ⇑s [])
  { s with heap:=(s.heap.push jk).push (jM C ⇑s)}:=by
 have d:(s.heap.push jk).get? ⇑s=↑jk:=gx s.heap rfl
 have h:((s.heap.push jk).push<|jM C ⇑s).get? (⇑s+1)=↑(jM C ⇑s):=by
  have:=gx (s.heap.push jk) (o:=jM C ⇑s) rfl
  rwa [i4]at this
 have i:(s.heap.push jk).Ns ⇑s (λ_=>none):=#[jk,#v[],_,d,rfl,(λe j=>gA j q0o),λ_=>rfl];have k:=I.laid (a:=⇑s) (o:=.own<|⇑s+1) (h':=s.heap.push jk) (t':=s.toks) (λb u q=>ce _ q) (gg _) #[_,d];refine k.laid (a:=⇑s+1) (o:=.ins C ⇑s []) (t':=s.toks) (λb u q=>ce _ q) (pU<|i4 _ _) ?_;have f:⇑s≠⇑s+1:=gB<|iV _;refine⟨by rw[ui f,ul],iz _,f,h,λ_=>none,(rT i).at λo q=>ce _ q,λ_=>True.intro,λy l=>gA rfl l⟩
def Sj(d:hJ e f a (eval e a)=eval e a)
 (h:gu (gv b w) A (eval e a) (λo c=>gu (gv b w) A (getAttr o f true) Q E c) E s):gu (gv b w) A (eval (.Attribute e f pos) a) Q E s :=
  Attribute_any_ h (by rw[arm_eval_Attribute,d])
def V7(K:ga)(d:TE)(f:Str):TE:=λe H Q=>d e H λx b=>∃a C g c v,x=.ref a/\b a=↑(.ins C g c)/\Aj K C/\vh K C f/\c.lookup f=↑v/\Q v b
def MY(K:ga)(g h:TE)(f:Str):TS:=λD b H=>h b H λy i=>g b i λx d=>∃a C e c,x=.ref a/\d a=↑(.ins C e c)/\Aj K C/\vh K C f/\c.length<1000 /\
 D.nx b (upd d a<|.ins C e<|zm f y c)
def Yo(X:Cx)(c:Operator)(d:V->V->Hp->VK->Prop):Prop :=
 ∀(a:List (ci×Obj)) (s:gn) (b:St) (H:Hp) (x y:V) (u v:cr) (Q:VK),Inv X a b H s->RelV x u->RelV y v->d x y H Q->gu (gv X.prog X.w) X.A (inplaceOp c u v) (EP X a b Q) X.xe s
def wh(g:PE X e i)(j:hJ e f X.env (eval e X.env)=eval e X.env):PE X (.Attribute e f pos) (V7 X.K i f):=by intro b s k H Q I h;refine Sj j<|uY (g b s k H _ I h) λu z m=>e2a3 m λx H1 o p d=>e5a6 d λa C A fs v r t c n l q=>?_;subst r;obtain rfl:u=gF a:=p;exact Js o t c n l λB D w y=>#[v,H1,w,y,q]
def BJ(j:PE X o k)(m:PE X value p)(r:js value (some<|.Attribute o f d) pos.line X.env=pure false):PS X (.Assign [.Attribute o f d] value pos) (MY X.K k p f):=by intro b s g H D I h;refine qI (uY (m b s g H _ I h) λu t i=>e2a3 i λy H1 v w q=>uY (j b t g H1 _ v q) λz L i=>e2a3 i λx H2 A B e=>e4a6 e λa C M fs E F c n l G=>?_) r;subst E;obtain rfl:z=gF a:=B;exact Ju A F c n l w λN J=>#[g,_,J,G]
inductive zn(K:ga)(H:Hp):V->cr->Prop where
 | vU:zn K H .vU (.type "NoneType")
 | bl (x:Bool):zn K H (.bl x) (.type "bool")
 | int (i:Int):zn K H (.int i) (.type "int")
 | str (x:Str):zn K H (.str x) (.type "str")
 | VH (x:UInt64):zn K H (.VH x) (.type "float")
 | lst {a:ci} {xs:List V} (e:H a=↑(.lst xs)):zn K H (.ref a) (.type "list")
 | Jg {a:ci} {o:Obj} {xs:List V} (e:H a=↑(.Jg o<|.lst xs)):zn K H (.ref a) (.type "list")
 | tup {a:ci} {xs:List V} (e:H a=↑(.tup xs)):zn K H (.ref a) (.type "tuple")
 | dK {a:ci} {wE:List (Key×V)} (e:H a=↑(.dK wE)):zn K H (.ref a) (.type "dict")
 | dT {a:ci} {wE:List (List Key×V)} (e:H a=↑(.dT wE)):zn K H (.ref a) (.type "dict")
 | ins {a C dx:ci} {fs:List (Str×V)} (e:H a=↑(.ins C dx fs)) (cl:Aj K C) (ha:gR K (.ref C) "__class__"=↑(some<|.builtin "object.__class__"))
   (hn:PySem.W.specialIn K (.builtin "object.__class__") "__get__"=↑(some<|.builtin "getset_descriptor.__get__")) (htk:PySem.W.takesIn K (.builtin "object.__class__")=↑true)
   (hm:kf K C (.type "object")=↑true):zn K H (.ref a) (.ref C)
def MZ(I:Inv X r R H s)(d:RelV x u)(B:zn X.K H x t)(e:qg X.K t c=↑b)(h:∀D,Q (.bool b) { s with toks:=D}) :
  gu (gv X.prog X.w) A (call (.builtin "isinstance") [u,c]) Q E s:=by
 cases B with
 |vU=>cases (show u=Value.none from d);exact jc PySem.W.kitx_none I.xX True.intro e (λz=>nomatch z) h
 |bl y=>cases (show u=qv y from d);exact jc PySem.W.kitx_bool I.xX True.intro e (λz=>nomatch z) h
 |int i=>obtain⟨t,q⟩:=(show ∃t,u=kO i t from d);cases q;exact jc PySem.W.kitx_int I.xX True.intro e (λz=>nomatch z) h
 |str y=>obtain⟨t,q⟩:=(show ∃t,u=Value.str y t from d);cases q;exact jc PySem.W.kitx_str I.xX True.intro e (λz=>nomatch z) h
 |VH y=>obtain⟨t,q⟩:=(show ∃t,u=rQ y t from d);cases q;exact jc PySem.W.kitx_float I.xX True.intro e (λz=>nomatch z) h
 | @lst a k f =>
  cases (show u=gF a from d);obtain⟨_,_,n,_,g⟩:=(show vv X.prog X.w H s.heap a (.lst k) from I.vc a _ f);exact jc sC I.xX #[_,g,rfl] e (λz=>nomatch z) h
 | @Jg a F k f =>
  cases (show u=gF a from d);obtain⟨_,_,_,n,_,g⟩:=(show vv X.prog X.w H s.heap a (.Jg F<|.lst k) from I.vc a _ f);exact jc sC I.xX ⟨_,g,rfl⟩ e (λz=>nomatch z) h
 | @tup a k f =>
  cases (show u=gF a from d);obtain⟨_,_,_,p⟩:=(show vv X.prog X.w H s.heap a (.tup k) from I.vc a _ f);refine e1a3 p λo g l _=>?_;exact jc PySem.W.kitx_tuple I.xX #[o,g,l] e (λz=>nomatch z) h
 | @dK a j f =>
  cases (show u=gF a from d);obtain⟨_,_,S,_,p⟩:=(show vv X.prog X.w H s.heap a (.dK j) from I.vc a _ f);obtain⟨o,G,L,g,l,_⟩:=p;exact jc sD I.xX #[o,g,l.1] e (λz=>nomatch z) h
 | @dT a j f =>
  cases (show u=gF a from d);obtain⟨_,_,k,_,o,G,L,g,l,_⟩:=(show vv X.prog X.w H s.heap a (.dT j) from I.vc a _ f);exact jc sD I.xX #[o,g,l.1] e (λz=>nomatch z) h
 | @ins a C T fs f v M N m P =>
  cases (show u=gF a from d);refine e1a2 (AR I.vc f) λU O _=>?_;refine e1a2 O.look λY J _=>?_;exact jc (PySem.W.kitx_own (v.get _) v.hd M N m P) I.xX J e (λz=>nomatch z) h
structure vM(k:Nat)(A:iW):Prop where
 hd:A.handled=none
 dp:A.depth+3*k+5<rV
 un:A.units+16*k+200<jS
def vM.mono{j k:Nat}(r:vM k A)(h:j<=k):vM j A:=#[r.hd,by have:=r.dp;lia,by have:=r.un;lia]
def vM.deeper{k:Nat}(r:vM (k+1) A)(a:Env):vM k (A.deeper a) :=
 #[r.hd,by have:=r.dp;show A.depth+1+3*k+5<_;lia,by have:=r.un;show A.units+3+16*k+200<_;lia]
def Jv{A:iW}{C:ci}{a:List cr}{b:List (Str×cr)}:(A.under<|.builtin "type.__call__" #[.ref C::a,b]).depth=A.depth+1:=by
 first|rfl|simp[qW,Code.weight,Code.isCreation,Code.isGuard,Code.isCaller,Code.frames,rJ,guardIds]
def Jw{A:iW}{C:ci}{a:List cr}{b:List (Str×cr)}:(A.under<|.builtin "type.__call__" #[.ref C::a,b]).units=A.units+1:=by
 first|rfl|simp[qW,Code.cUnits,Code.frames,rJ]
def vM.make{k:Nat}(r:vM (k+1) A)(C:ci)(a:List cr)(b:List (Str×cr)):vM k (A.under<|.builtin "type.__call__" #[.ref C::a,b]) :=
 #[r.hd,by have:=r.dp;rw[Jv];lia,by have:=r.un;rw[Jw];lia]
def vM.depth{k:Nat}(r:vM k A):A.depth<rV:=by have:=r.dp;lia
def vM.units{k:Nat}(r:vM k A):A.units+64<jS:=by have:=r.un;lia
def CF:TA:=λ_ H Q=>Q [] H
def Ci(b:TE)(c:TA):TA:=λa H Q=>b a H λx d=>c a d λe f=>Q (x::e) f
def uI:PA X [] CF:=λ_ _ _ _ H Q I h=>kq #[[],H,I,.nil,h]
def ut(g:PE X e i)(j:PA X b t)(k:gf (e::b) X.env=(false,eval e X.env)::gf b X.env:=by rfl):PA X (e::b) (Ci i t):=by intro c a s f H Q I h;rw[k];refine jt<|uY (g a s f H _ I h) λu l d=>e2a3 d λx m n o p=>?_;exact uY (j c a l f m _ n p) λz A d=>e2a3 d λq r v w y=>#[x::q,r,v,.cons o w,y]
def a0F(t:TA):TE:=λc H Q=>t c H λa b=>a.length<=gh/\∀p,b p=none->Q (.ref p) (upd b p<|.tup a)
def a0G(t:TA):TE:=λc H Q=>t c H λa b=>a.length<=gh/\∀p,b p=none->Q (.ref p) (upd b p<|.lst a)
def Ot{g}(h:PA X i t):PE X (.Tuple i g pos) (a0F t):=by intro a s j H Q I k;refine wpAny_Tuple_spliced<|uY (h pos a s j H _ I k) λl c m=>e2a4 m λn d f r z q=>#[by rw[<- r.length];exact z,?_];have o:d ⇑c=none:=f.vc.fresh<|gg _;refine⟨.ref ⇑c,upd d ⇑c<|.tup n,f.laid (t':=c.toks) (λb u e=>ce _ e) (gg _) ?_,rfl,q _ o⟩;exact#[z,l,r,#[_,gx _ rfl,rfl,_,rfl]]
def Ou(h:PA X g t):PE X (.List g pos) (a0G t):=by intro a s i H Q I j;refine wpAny_List_spliced<|uY (h pos a s i H _ I j) λk c l=>e2a4 l λm d f r z q=>#[by rw[<- r.length];exact z,?_];have n:d ⇑c=none:=f.vc.fresh<|gg _;refine⟨.ref ⇑c,upd d ⇑c<|.lst m,f.laid (t':=c.toks) (λb u e=>ce _ e) (gg _) ?_,rfl,q _ n⟩;exact#[z,k,0,r,gx _ rfl]
abbrev Sp:=List V->Hp->VK->XK->Prop
abbrev Ov:=List Env->Hp->gn->XK->cr->gn->Prop
structure HQ(P:gY)(w:il)(K:ga)(mg:Str->Option cr)(base:h8)(A:iW)(outer:List Env)(s:gn)(H:Hp):Prop where
 frames:A.frames=↑outer
 mod:Mod K mg base
 bs:∀b o,base.get? b=↑o->s.heap.get? b=↑o/\H b=none
 HG:base.objs.size<=⇑s
 xM:s.heap.FunFrames base outer
 Jc:∀b∈yC outer,H b=none
 vc:xf P w H s.heap
 bare:mE s.gens
def CE(a:List Env)(P:gY)(w:il)(H:Hp)(s:gn)(Q:VK)(u:cr)(b:gn):Prop :=
 ∃v c,b.os=s.os/\mE b.gens/\Un (yC a) [] H c s.heap b.heap/\xf P w c b.heap/\RelV v u/\Q v c
def CR(c:Ov)(a:List Env)(P:gY)(w:il)(H:Hp)(s:gn)(Q:VK)(E:XK)(r:Result)(b:gn):Prop :=
 match r with
 | .ok (.ret u)=>CE a P w H s Q u b
 | .ok _=>False
 | .error e=>c a H s E e b
structure uR(P:gY)(w:il)(K:ga)(mg:Str->Option cr)(base:h8)(CX:Ov)(k:Nat)(f:ci)(fd:hV)(ps:List Str)(sp:Sp):Prop where
 len:∀vs H Q E,sp vs H Q E->vs.length=ps.length
 run:∀(A:iW)(outer:List Env)(s:gn)(H:Hp)(args:Args)(us:List cr)(vs:List V)(Q:VK)(E:XK),vM k A->HQ P w K mg base A outer s H->rK s fd args (ps.zip us)->Vals vs us->sp vs H Q E ->
  lO (gv P w) A (.call (.ref f) args) (CR CX outer P w H s Q E) s
def uR.mono{P:gY}{w:il}{K:ga}{c:Str->Option cr}{a:h8}{d:Ov}{j k:Nat}{f:ci}{e:hV}{g:List Str}{i:Sp}(F:uR P w K c a d j f e g i)(h:j<=k) :
  uR P w K c a d k f e g i:=#[F.len,λA b s H args l m Q E n=>F.run A b s H args l m Q E<|n.mono h]
def uR.imp{P:gY}{w:il}{K:ga}{e:Str->Option cr}{a:h8}{g:Ov}{k:Nat}{f:ci}{i:hV}{j:List Str}{l d:Sp}(F:uR P w K e a g k f i j l)
  (h:∀c H Q E,d c H Q E->l c H Q E):uR P w K e a g k f i j d :=
 #[λc H Q E q=>F.len c H Q E<|h _ _ _ _ q,λA b s H args m c Q E n o p r t=>F.run A b s H args m c Q E n o p r<|h _ _ _ _ t]
def HQ.make{P:gY}{w:il}{K:ga}{c:Str->Option cr}{b:h8}{A:iW}{a:List Env}{s:gn}{H:Hp}(e:HQ P w K c b A a s H)(C:ci)(d:List cr)(f:List (Str×cr)) :
  HQ P w K c b (A.under<|.builtin "type.__call__" #[.ref C::d,f]) a s H:=#[by first|exact e.frames|(simpa[qW,Code.envs,rJ,pushEnvs] using e.frames),e.mod,e.bs,e.HG,e.xM,e.Jc,e.vc,e.bare]
def Inv.HR(I:Inv X a b H s):HQ X.prog X.w X.K X.mg X.base X.A X.stack s H :=
 #[I.ok.frames,I.ok.mod,I.bs,gW I.ok.HG I.sz,I.stack,I.Lz,I.vc,I.bare]
def Inv.after(I:Inv X a j H s)(h:CE X.stack X.prog X.w H s Q u i):EP X a j Q u i:=by obtain⟨v,k,l,c,m,e,r,q⟩:=h;obtain⟨n,g,d,t,f⟩:=i;obtain rfl:f=s.os:=l;exact#[v,k,I.call (h':=n) (g':=g) (d':=d) (t':=t) (ch:=[]) m e c<|λb z=>gA z q0o,r,q]
def Yp(b:Sp)(a:List V)(E:XK)(t:TA):TE:=λc H Q=>t c H λd e=>b (d++a) e Q E
def E4(C:ci)(m:Str)(f:Sp)(b:List V)(E:XK)(g:TE)(t:TA):TE:=λc H Q=>g c H λx d=>∃a h e,x=.ref a/\d a=↑(.ins C h e)/\e.lookup m=none /\
 t c d λi j=>f (x::(i++b)) j Q E
def Yq(C:ci)(d:Sp)(b:List V)(E:XK)(t:TA):TE:=λe H Q=>t e H λf c=>∀x a,c x=none->c a=none->a≠x ->
 d (.ref x::(f++b)) (upd (upd c a<|.own x) x<|.ins C a []) (λv g=>v=.vU/\Q (.ref x) g) E
def Binds(K:ga)(d:hV)(b:List Str)(c:List cr):Prop :=
 ∀(s:gn)(a:List cr),K.In s.heap->(a++c).length=b.length->rK s d #[a,[]] (b.zip<|a++c)
def Binds.all{K:ga}{b:List Str}(h:∀a:List cr,a.length=b.length->rW d #[a,[]]=pure (b.zip a)):Binds K d b []:=λs a _ c=>by rw[jP]at c ⊢;exact .of_eq<|h a c
def Passes(c:Ov)(X:Cx)(E:XK):Prop:=∀(a:List (ci×Obj)) (d:St) (H:Hp) (s:gn) (e:cr) (b:gn),Inv X a d H s->c X.stack H s E e b->X.xe e b
def Jx(F:uR X.prog X.w X.K X.mg X.base l k f m g n)(o:vM k X.A)(p:Binds X.K m g d)(q:Vals b d)(t:Passes l X E)
 (I:Inv X a i H s)(r:Vals vs us)(h:n (vs++b) H Q E):gu (gv X.prog X.w) X.A (call (.ref f) us) (EP X a i Q) X.xe s:=by
  have j:Vals (vs++b) (us++d):=r.append q
  have v:(us++d).length=g.length:=by rw[<- j.length];exact F.len _ _ _ _ h
  refine lU<|jp (F.run X.A X.stack s H ⟨us,[]⟩ (us++d) (vs++b) Q E o I.HR (p s us I.xX v) j h) λr x c=>?_
  cases r with
  |error e=>exact t a i H s e x I c
  |ok y =>
    cases y with
    |ret u=>exact I.after c
    |next=>exact gZ c
    |brk=>exact gZ c
    |cont=>exact gZ c
def Sk(F:uR X.prog X.w X.K X.mg X.base j k f l m n)(o:vM k X.A)(u:Gl X x)(v:X.mg x=↑(.ref f))(y:iI X.K (.ref f)=true)(z:Binds X.K l m B)(C:Vals c B)(D:Passes j X E)
 (G:PA X (e::b) t) (d:(x==("__debug__":Str))=false:=by decide) (J:gf (e::b) X.env=(false,eval e X.env)::gf b X.env:=by rfl) (g:(iN pos<|gf b X.env).any (·.1)=false:=by rfl) :
    PE X (.Call (.Name x p) (e::b) [] pos) (Yp n c E t):=by
  intro a s L H Q I h
  refine jQ<|yH I u v ?_ d
  refine oW (h₀:=X.base) I.ok.mod.AN y (uY (G pos a s L H _ I h) λN O M=>e2a3 M λP R i r q=>#[i.xX,?_]) J g
  exact Jx F o z C D i r q
def Sl{v:Sem Bool}(J:PE X o L)(c:Aj X.K C)(y:Meth X.K C m f)(F:uR X.prog X.w X.K X.mg X.base M k f N O P)(R:vM k X.A)(S:Binds X.K N O T)(hd:Vals i T)(U:Passes M X E)(Y:PA X (e::d) t)
  (j:gf (e::d) X.env=(false,eval e X.env)::gf d X.env:=by rfl) (n:(iN pos<|gf d X.env).any (·.1)=false:=by rfl)
  (ht:eval (.Call (.Attribute o m apos) (e::d) [] pos) X.env=(do
   let z <- eval o X.env
   mf apos.atName
   let (f,first) <- jY [z] (lW z m v)
   mH pos f first (iN pos (gf (e::d) X.env)) (mh pos (jZ [] X.env))):=by rfl) :
  PE X (.Call (.Attribute o m apos) (e::d) [] pos) (E4 C m P i E L t):=by
 intro b s B H Q I h;refine nV (pl:=v) (uY (J b s B H _ I h) λu Z p=>e2a3 p λx H1 D rx g=>e3a4 g λa dx fs ex ea l q=>?_) ht;subst ex;obtain rfl:u=gF a:=rx;refine AD D ea c y l ?_;refine oW (first:=[.ref a]) (h₀:=X.base) I.ok.mod.AN y.kp (uY (Y pos b Z B H1 _ D q) λus s2 p=>e2a3 p λvs H2 G r q2=>#[G.xX,?_]) j n
 exact Jx (us:=.ref a::us) (vs:=.ref a::vs) F R S hd U G (.cons rfl r) q2
def Ox(n:PE X o p)(c:Aj X.K C)(i:Meth X.K C m f)(F:uR X.prog X.w X.K X.mg X.base r k f t v y)(z:vM k X.A)(B:Binds X.K t v D)(hd:Vals e D)(G:Passes r X E)
 (ht:eval (.Call (.Attribute o m apos) [] [] pos) X.env=(do
 let j <- eval o X.env
 mf apos.atName
 let (f,first) <- jY [j] (lW j m J)
 mH pos f first (iN pos (gf [] X.env)) (mh pos (jZ [] X.env))):=by rfl) :
    PE X (.Call (.Attribute o m apos) [] [] pos) (E4 C m y e E p CF):=by
  intro b s L H Q I h
  refine nV (pl:=J) (uY (n b s L H _ I h) λu R M=>e2a3 M λx H1 g N d=>e3a4 d λa S fs O P l q=>?_) ht
  subst O
  obtain rfl:u=gF a:=N
  refine AD g P c i l ?_
  exact rL (first:=[.ref a]) g.xX i.kp<|Jx (us:=[.ref a]) (vs:=[.ref a]) F z B hd G g (.cons rfl .nil) q
structure Mk(K:ga)(C f:ci):Prop where
 makes:pT K C=true
 init:gR K (.ref C) "__init__"=↑(some<|.ref f)
 fn:nI K (.ref f)=true
 kp:iI K (.ref C)=true
def Oy(M:Mk X.K C f)(F:uR X.prog X.w X.K X.mg X.base p k f q j t)(y:vM (k+1) X.A)(z:Binds X.K q j d)(B:Vals c d)
 (D:Passes p X E) (I:Inv X b l H s) (r:Vals m us)
 (h:∀x g,H x=none->H g=none->g≠x->t (.ref x::(m++c)) (upd (upd H g<|.own x) x<|.ins C g []) (λv G=>v=.vU/\Q (.ref x) G) E) :
    gu (gv X.prog X.w) X.A (call (.ref C) us) (EP X b l Q) X.xe s:=by
  have n:=h (⇑s+1) ⇑s (I.vc.fresh<|kQ _) (I.vc.fresh<|gg _)<|gB<|iV _
  have i:=Inv.made (C:=C) I
  have o:Vals (V.ref (⇑s+1)::(m++c)) (gF (⇑s+1)::(us++d)):=.cons rfl<|r.append B
  have J:(gF (⇑s+1)::us++d).length=j.length:=by
    have e:=o.length
    rw[F.len _ _ _ _ n]at e
    exact e.symm
  refine lU (Oq (f:=f) I.xX M.makes M.init (beq_iff_eq.mp M.fn) (jp (F.run _ X.stack _ _ #[gF (⇑s+1)::us,[]] (gF (⇑s+1)::(us++d)) _ _ E (y.make C us [])
    (i.HR.make C us []) (z _ (gF (⇑s+1)::us) i.xX J) o n) λr L a=>?_))
  cases r with
  |error e=>exact D b l _ _ e L i a
  |ok N =>
    cases N with
    |ret u =>
      refine e2a4 (i.after a) λv O P R S T=>?_
      subst S
      exact#[R,#[V.ref<|⇑s+1,O,P,rfl,T]]
    |next=>exact gZ a
    |brk=>exact gZ a
    |cont=>exact gZ a
def Oz(M:Mk X.K C f)(F:uR X.prog X.w X.K X.mg X.base d k f e g i)(j:vM (k+1) X.A)(l:Gl X x)(m:X.mg x=↑(.ref C))(n:Binds X.K e g o)(q:Vals a o)(r:Passes d X E)
 (b:(x==("__debug__":Str))=false:=by decide):PE X (.Call (.Name x p) [] [] pos) (Yq C i a E CF):=by
  intro c s t H Q I h
  refine jQ<|yH I l m ?_ b
  exact rL I.xX M.kp<|Oy (us:=[]) M F j n q r I .nil h
def PK(X:Cx)(b:List oX)(t:TA):Prop :=
 ∀(c:Pos) (a:List (ci×Obj)) (s:gn) (d:St) (H:Hp) (Q:List V->Hp->Prop),Inv X a d H s->t d H Q->gu (gv X.prog X.w) X.A (evalAll ((mh c<|jZ b X.env).map (·.2))) (AP X a d Q) X.xe s
structure uq(N P:List Str)(sc:lh):Prop where
 kind:sc.kind=.function
 co:sc.isCoroutine=false
 gen:sc.isGenerator=false
 nd:N.Nodup
 pre:N.take P.length=P
 par:∀x∈P,sc.names.lookup x=some .local\/sc.names.lookup x=some .cell
 V8:∀y∈sc.names,y.2≠.free
def E5{b:Str->Option NameKind}:∀{a:List (Str×cr)} {m:Str->Option cr},(∀v,(x,v)∉a)->bindL b a m x=m x
 | [],_,_=>rfl
 | (n,v)::r,m,h=>by
  unfold bindL;rw[E5 λw c=>h w<|gl _ c];split
  ·have:x≠n:=by rintro rfl;exact h v gk
   simp[this]
  ·rfl
def E6{b:Str->Option NameKind}:∀{a:List (Str×cr)} {m:Str->Option cr},(∀v,(x,v)∉a)->bindC b a m x=m x
 | [],_,_=>rfl
 | (n,v)::r,m,h=>by
  unfold bindC;rw[E6 λw c=>h w<|gl _ c];split
  ·rfl
  ·have:x≠n:=by rintro rfl;exact h v gk
   simp[this]
def M0{a:Str->Option NameKind}:∀{P:List Str} {b:List cr} {i:Nat} {m:Str->Option cr},P.Nodup->P[i]?=↑x->b[i]?=↑v->a x=some .local ->
  bindL a (P.zip b) m x=↑v:=by
 intro P
 induction P with
 |nil=>intro _ _ _ _ h;simp at h
 |cons p P g =>
  intro b i m e d c f
  cases b with
  |nil=>simp at c
  |cons w b =>
  cases i with
  |zero =>
   simp at d c;subst d;subst c;show bindL a ((p,w)::P.zip b) m p=_;unfold bindL;rw[E5 λv j=>(List.nodup_cons.mp e).1 (om j).1,f9 f];simp
  |succ i =>
   exact g (i:=i) (List.nodup_cons.mp e).2 (by simpa using d) (by simpa using c) f
def M3{a:Str->Option NameKind}:∀{P:List Str} {b:List cr} {i:Nat} {m:Str->Option cr},P.Nodup->P[i]?=↑x->b[i]?=↑v->a x≠some .local ->
  bindC a (P.zip b) m x=↑v:=by
 intro P
 induction P with
 |nil=>intro _ _ _ _ h;simp at h
 |cons p P g =>
  intro b i m e d c f
  cases b with
  |nil=>simp at c
  |cons w b =>
  cases i with
  |zero =>
   simp at d c;subst d;subst c;show bindC a ((p,w)::P.zip b) m p=_;unfold bindC;rw[E6 λv j=>(List.nodup_cons.mp e).1 (om j).1,gc f];simp
  |succ i =>
   exact g (i:=i) (List.nodup_cons.mp e).2 (by simpa using d) (by simpa using c) f
noncomputable def start(N:List Str)(a:List V):St:=a.map some++j4 (N.length-a.length) none
noncomputable def vg(CX:Ov)(P:gY)(w:il)(K:ga)(mg:Str->Option cr)(base:h8)(N:List Str)(qual:Str)(scope:lh)(f:ci)(cd:cr)(A:iW)(outer:List Env)(s:gn)(H:Hp)(E:XK):Cx where
 prog:=P
 w:=w
 K:=K
 mg:=mg
 base:=base
 A:=A.deeper<|nS qual scope ⇑s f cd
 N:=N
 s₀:=s
 H₀:=H
 env:=nS qual scope ⇑s f cd
 outer:=outer
 stack:=nS qual scope ⇑s f cd::outer
 ex:=[]
 calm:=true
 fn:=λ_=>true
 pn:=[]
 xe:=λe s'=>gu (gv P w) (A.deeper<|nS qual scope ⇑s f cd) (tK (nS qual scope ⇑s f cd) e) (λ_ Sn=>CX outer H s E e Sn) (λe' Sn=>CX outer H s E e' Sn) s'
def HS{a:lh}{n:Nat}(h:a.names.lookup x=some .cell):∃c,(cellsFrom n a.names []).lookup x=↑c:=by have q:=qP a.names n []<|.inl h;exact Option.isSome_iff_exists.mp q
def M4{K:ga}{A:iW}{o:List V}
 (S:uq N C d) (R:A.handled=none) (m:HQ P w K L base A j s H) (hl:o.length=C.length) (r:Vals o M)
 (x:InCallC s ⇑s (bindL (nS l d ⇑s f J).kindOf (C.zip M) λ_=>none) (cellsFrom (⇑s+1) d.names []) (bindC (nS l d ⇑s f J).kindOf (C.zip M) λ_=>none) T) :
    Inv (vg U P w K L base N l d f J A j s H E) [] (start N o) H T:=by
  have X:C.length<=N.length:=by have:=congrArg ng S.pre;rw[kS]at this;lia
  obtain⟨G,tk,rfl,O⟩:=x.done
  have t:∀b:ci,b∉(vg U P w K L base N l d f J A j s H E).ex:=λb z=>gA (show b∈([]:List ci) from z) q0o
  refine#[#[m.mod,S.kind,rfl,rfl,gg _,λy z c G g=>?_,λy B=>?_,λy c _ h=>?_,λ_=>R,rM m.frames,.inr #[rfl,rfl],λb z=>gA z (t b),m.bs,m.HG,λb _ _=>t b,λb z=>gA z (t b),m.xM,m.Jc],
    rfl,m.bare,Un.kept O,#[_,x.toInCall.ns,λi y v G g h3=>?_],λy c h=>#[_,x.cell y c h],m.vc.fresh (gg _),λy c h=>?_,λp D=>gA (show p∈([]:List (ci×Obj)) from D) q0o,m.vc.kept O,?_]
  · exact name_of_addr x.apart (jz G)<|jz g
  · have B : d.names.lookup y = some .cell \/ d.names.lookup y = some .free := B
    rcases B with B|B
    · exact HS B
    · exact gA rfl<|S.V8 _<|jz B
  · exact kU<|x.above y c<|jz h
  · have I : i<o.length := by
      unfold start at g
      by_cases I:i<o.length
      · exact I
      · rw[jo<|by simpa using I]at g
        rw[rB]at g
        split at g<;>cases g
    have Y:o[i]?=↑v:=by
      unfold start at g
      rw[kW (by simpa using I),ja]at g
      cases e:o[i]? with
      |none=>rw[e]at g;cases g
      |some a=>rw[e]at g;cases g;rfl
    refine e1a2 (r.get Y) λu Q Z=>?_
    have D:C[i]?=↑y:=by
      rw[<- S.pre,qX q0a];exact G
    have F:C.Nodup:=by rw[<- S.pre];exact S.nd.sublist<|tL _ _
    refine#[u,Z,?_]
    rcases S.par y (jg D) with k|k
    · exact .inl #[k, M0 F D Q k]
    · obtain⟨c, e⟩ := HS (n := ⇑s+1) k
      refine .inr #[.inl k,c,e,?_]
      have q:=x.cell y c e
      rw[M3 F D Q<|by show d.names.lookup y≠_;rw[k];decide]at q
      exact q
  · exact m.vc.fresh<|kU<|x.above y c<|jz h
  · unfold start
    show _=N.length
    rw[gz,gm,rX]
    lia
def HU{K:ga}{k:Nat}{Z:cr} 
 (lk:K.lookup f=some #[oc,od,.func<|i7 name d h body a dV Z G pm an g ct,aa]) (L:iR K g d=true) (S:uq N M a)
 (B:∀i H Q E,sp i H Q E->i.length=M.length)
 (m:∀(A:iW)(c:List Env)(s:gn)(H:Hp)(i:List V)(Q:VK)(E:XK),vM k (A.deeper (nS d a ⇑s f g))->sp i H Q E ->
 ∃t,Ez (vg O P w K R base N d a f g A c s H E) body t/\t { nx:=λ_ l=>Q .vU l,rt:=Q} (start N i) H) :
    uR P w K R base O (k+1) f (i7 name d h body a dV Z G pm an g ct) M sp:=by
  refine#[B,λA c s H args us i Q E T C hb r D=>?_]
  have hl:=B _ _ _ _ D
  have KX:K.In s.heap:=C.mod.AN.keeps λb o e=>(C.bs b o e).1
  have U:s.heap.NoLimit:=C.mod.nolimit.keeps λb o e=>(C.bs b o e).1
  have p:∀y∈M.zip us,a.names.lookup y.1=some .local\/(a.names.lookup y.1=some .cell/\((cellsFrom (⇑s+1) a.names []).lookup y.1).isSome=true):=λ⟨n,v⟩ hy=>by
    rcases S.par n (om hy).1 with q|q
    · exact .inl q
    · exact .inr #[q, qP _ _ _<|.inl q]
  refine codeAny_call_function T.depth (KX _ _ lk) rfl S.co S.gen rfl (rY KX L)<|hb _ _ _ _ ?_
  refine wpAny_newFunctionEnv_cells S.kind p λab he s1 x=>?_
  subst he
  refine#[U.keeps x.toInCall.keep,codeAny_func ?_]
  refine e1a2 (m A c s H i Q E (T.deeper _) D) λt ht hq=>?_
  have I:Inv (vg O P w K R base N d a f g A c s H E) [] (start N i) H s1:=M4 S T.hd C hl r x
  refine iA (ht [] s1 (start N i) H _ I hq) (λfl X z=>?_) λe X z=>z
  have F:∀{j:St} {l:Hp} {v:V} {u:cr},Inv (vg O P w K R base N d a f g A c s H E) [] j l X->RelV v u->Q v l->CE c P w H s Q u X :=
    λ{j l v u} J Y q=>#[v,l,J.os,J.bare,J.base,J.vc,Y,q]
  cases fl with
  |ret u =>
    obtain⟨v,j,l,J,Y,q⟩:=z
    exact F J Y q
  |next =>
    refine e2a2 z λj l J q=>?_
    exact F (v:=V.vU) (u:=Value.none) J rfl q
  |brk =>
    refine e2a2 z λ_ _ _ q=>?_
    exact gZ q
  |cont =>
    refine e2a2 z λ_ _ _ q=>?_
    exact gZ q
section
variable{X:Cx}{x:Str}{p pos:Pos}{e:hZ}{es:List hZ}{t:TA}{id T:String}{r:List V->Hp->VK->Prop}
def tCB(r:List V->Hp->VK->Prop)(t:TA):TE:=λa H Q=>t a H λb c=>r b c Q
def wj(d:xZ X (.builtin id) r)(f:Gl X x)(g:X.mg x=none)(i:md x=↑(.builtin id))(j:PA X (e::es) t)(k:x≠"__name__":=by decide)(b:(x==("__debug__":Str))=false:=by decide)
 (he:gf (e::es) X.env=(false,eval e X.env)::gf es X.env:=by rfl) (hpl:(iN pos<|gf es X.env).any (·.1)=false:=by rfl):PE X (.Call (.Name x p) (e::es) [] pos) (tCB r t):=by
  intro a s c H Q I h
  refine jQ<|yI I f g i ?_ k b
  exact oQ (uY (j pos a s c H _ I h) λl m n=>e2a3 n λo q u v w=>d a m c q o l Q u v w) he hpl
def wP(f:xZ X (.type T) r)(g:Gl X x)(i:X.mg x=none)(j:md x=↑(.type T))(k:PA X (e::es) t)(l:x≠"__name__":=by decide)(b:(x==("__debug__":Str))=false:=by decide)
 (he:gf (e::es) X.env=(false,eval e X.env)::gf es X.env:=by rfl) (c:(iN pos<|gf es X.env).any (·.1)=false:=by rfl):PE X (.Call (.Name x p) (e::es) [] pos) (tCB r t):=by
  intro a s d H Q I h
  refine jQ<|yI I g i j ?_ l b
  exact jv (uY (k pos a s d H _ I h) λm n o=>e2a3 o λq u v w y=>f a n d u q m Q v w y) he c
def Jy(c:xZ X (.type T) r)(d:Gl X x)(f:X.mg x=none)(g:md x=↑(.type T))(i:x≠"__name__":=by decide)(b:(x==("__debug__":Str))=false:=by decide) :
  PE X (.Call (.Name x p) [] [] pos) (tCB r CF):=by
 intro a s j H Q I h;refine jQ<|yI I d f g ?_ i b;exact PyProof.Rows.callWith_type0<|c a s j H [] [] Q I .nil h
end
end L2
namespace HT
open PySem PyProof.Rows
noncomputable def wu(n d:Nat):Option Int->Nat
 |none=>d
 |some v=>if v<0 then (v+(n:Int)).toNat else min v.toNat n
def HV(n d:Nat):wu n d none=d:=rfl
def LH(n d k:Nat):wu n d ↑(k:Int)=min k n:=by show (if (k:Int)<0 then ((k:Int)+(n:Int)).toNat else min (k:Int).toNat n)=min k n;rw[gc q0a,kH]
def a0I(n d:Nat)(b:d<=n)(o:Option Int):wu n d o<=n:=by
 cases o with
 |none=>exact b
 |some v =>
  show (if v<0 then (v+(n:Int)).toNat else min v.toNat n)<=n;by_cases a:v<0
  ·rw[f9 a];lia
  ·rw[gc a];exact Nat.min_le_right _ _
def LI(v:Int)(n d:Nat):(if v<0 then max (v+(n:Int)) 0 else min v (n:Int))=((wu n d ↑v:Nat):Int):=by
 show (if v<0 then max (v+(n:Int)) 0 else min v (n:Int))=(((if v<0 then (v+(n:Int)).toNat else min v.toNat n):Nat):Int);by_cases a:v<0
 ·simp only[f9 a];lia
 ·simp only[gc a];lia
def Jz(lo a:Option Int)(n:Nat):pB lo a 1 (n:Int)=(((wu n 0 lo:Nat):Int),((wu n n a:Nat):Int)):=by
 refine Prod.ext ?_ ?_
 ·cases lo with
  |none=>rfl
  |some v=>exact LI v n 0
 ·cases a with
  |none=>rfl
  |some v=>exact LI v n n
def JA(i j:Nat):kj (i:Int) (j:Int) 1=j-i:=by unfold kj;split<;>lia
def Dn(p:pE v o)(h:Q o s):gu (gv a w) A (Builtin.Slice.slicePartIndex v) Q E s:=by
 cases p with
 |none=>exact slicePart_none h
 |int i t=>exact slicePart_int h
def yp{lo:Option Int}{n:Nat}(g:s.heap.IsSliceOf i d e .none)(j:pE d lo)(k:pE e c)
 (h:Q (((wu n 0 lo:Nat):Int),1,wu n n c-wu n 0 lo) s):gu (gv f w) A (Builtin.Slice.sliceApplied (.ref i)<|pure (n:Int)) Q E s:=by
  refine e1a3 (id g) λos a l b=>?_
  refine am<|am<|iD a b (x:=d) rfl<|am<|iD a b (x:=e) rfl<|am<|iD a b (x:=.none) rfl<|ap ?_
  refine am<|slicePart_none ?_
  rw[gc q0q]
  refine am<|Dn j<|am<|Dn k<|am<|ap ?_
  show gu _ _ (match pB lo c 1 (n:Int) with|(lo,c)=>pure (lo,(1:Int),kj lo c 1)) _ _ s
  rw[Jz lo c n]
  show gu _ _ (pure (((wu n 0 lo:Nat):Int),(1:Int),kj ((wu n 0 lo:Nat):Int) ((wu n n c:Nat):Int) 1)) _ _ s
  rw[JA]
  exact ap h
def OA(a:Array cr)(i k:Nat):((gL k).filterMap λ(m:Nat)=>a[((i:Int)+(m:Int)*1).toNat]?).toArray=((a.toList.drop i).take k).toArray:=by
 have e:(λ(m:Nat)=>a[((i:Int)+(m:Int)*1).toNat]?)=λm=>a[i+m]?:=by
  funext m
  have:((i:Int)+(m:Int)*1).toNat=i+m:=by lia
  rw[this]
 rw[e];have:=pick_run a i k;rw[sU]at this;have b:((λx=>a[x]?)∘λx=>i+x)=λm=>a[i+m]?:=rfl;rw[b]at this;rw[this]
def AS{t sl:ci}{items:Array cr}{vl vu:cr}{lo hi:Option Int}{Q:cr->gn->Prop}(ht:IsTup s.heap t items)(hs:s.heap.IsSliceOf sl vl vu .none)(pl:pE vl lo)(pu:pE vu hi)
  (hw:¬(wu items.size 0 lo=0/\wu items.size items.size hi=items.size))
  (h:Q (.ref ⇑s) { s with heap:=s.heap.push { cls:=.type "tuple",data:=.seq ((items.toList.drop<|wu items.size 0 lo).take<|wu items.size items.size hi-wu items.size 0 lo).toArray}})
  (hsz:items.size<=gh):gu (gv prog w) A (nc (.ref t)<|.ref sl) Q E s:=by
 have LJ:sizeOk (.seq ((items.toList.drop<|wu items.size 0 lo).take<|wu items.size items.size hi-wu items.size 0 lo).toArray):=by show ((items.toList.drop<|wu items.size 0 lo).take<|wu items.size items.size hi-wu items.size 0 lo).toArray.size<=gh;rw[gy,kS,l8,gr];omega
 refine e1a3 (id hs) λos hos hcs hds=>?_;have hTs:s.TypeIs (.ref sl) "slice":=#[os,hos,hcs];unfold nc
 try with_reducible refine g8 ?_
 first|refine am (ap ?_)|skip
 refine am<|wpAny_sequenceKey ht.typeIs q0q ?_
 refine am (wpAny_callSpecial?_slot (name:=kX "__getitem__") ht.typeIs jJ
  (im jJ ht.typeIs entry_tuple_getitem ?_ (args_tuple_getitem _ _)))
 show gu _ _ (pq (.ref t) >>= _) _ _ s;refine am<|tupleItemsOf_ ht ?_;refine am<|j0 hTs ?_;rw[f9 q0q];refine am<|yp hs pl pu ?_
 have hno:¬((((wu items.size 0 lo:Nat):Int)==0&&(1:Int)==1&&(wu items.size items.size hi-wu items.size 0 lo)==items.size)=true):=by intro q;rw[hR,hR]at q;have q1:((wu items.size 0 lo:Nat):Int)=0:=eq_of_beq q.1.1;have q2:wu items.size items.size hi-wu items.size 0 lo=items.size:=eq_of_beq q.2;exact hw #[q0d,q0d]
 show gu _ _ (if (((wu items.size 0 lo:Nat):Int)==0&&(1:Int)==1&&(wu items.size items.size hi-wu items.size 0 lo)==items.size)=true then _ else _) _ _ s;rw[gc hno,OA]
 first
  | exact am (m:=kB _)<|hW (ap #[_,rfl,ap h]) LJ
  | exact am (m:=kB _)<|hW (am<|ap<|ap #[_,rfl,ap h]) LJ
  | exact am<|am (m:=kB _)<|hW (ap<|ap #[_,rfl,ap h]) LJ
  | exact am<|am (m:=kB _)<|hW (ap #[_,rfl,ap h]) LJ
end HT
namespace L2
open PySem PySem.Spec PyProof.Rows
abbrev TO:=St->Hp->(Option Int->Hp->Prop)->Prop
def PO(X:Cx)(e:Option hZ)(t:TO):Prop :=
 ∀(a:List (ci×Obj)) (s:gn) (b:St) (H:Hp) (Q:Option Int->Hp->Prop),Inv X a b H s->t b H Q ->
  gu (gv X.prog X.w) X.A (evalPart e X.env) (λu d=>∃o c,Inv X a b c d/\pE u o/\Q o c) X.xe s
def So:TO:=λ_ H Q=>Q none H
def Yr(t:TE):TO:=λa H Q=>t a H λx b=>∃i,x=.int i/\Q ↑i b
def intsAre_of{a:List Int}:∀{b:List cr},Vals (a.map V.int) b->kg b a:=by
 induction a with
 |nil=>intro b r;rw[oa]at r;cases r;exact .nil
 |cons n a c =>
  intro b r;rw[gN]at r
  cases r with
  |cons d f =>
   obtain⟨t,e⟩:=d;subst e;exact .cons n t<|c f
section
variable{X:Cx}{e:hZ}{te:TE}{lo hi:Option hZ}{tl th:TO}{pos p2:Pos}
def CL:PO X none So:=by intro a s b H Q I h;rw[sL];exact ap #[none,H,I,.none,h]
def CM(h:PE X e te):PO X ↑e (Yr te):=by intro a s b H Q I c;rw[evalPart_some];refine uY (h a s b H _ I c) λu l d=>e2a3 d λx f g j k=>?_;obtain⟨i,rfl,q⟩:=k;obtain⟨t,rfl⟩:=j;exact#[↑i,f,g,.int i t,q]
def Vb(X:Cx)(r:V->Option Int->Option Int->Hp->VK->Prop):Prop :=
 ∀(a:List (ci×Obj)) (s:gn) (b:St) (H:Hp) (x:V) (v c d:cr) (lo hi:Option Int) (f:ci) (Q:VK),Inv X a b H s->RelV x v->s.heap.IsSliceOf f c d .none->pE c lo->pE d hi->r x lo hi H Q ->
  ∃T g,mB (.type T) "__getitem__"=pure (some<|.builtin g)/\s.TypeIs v T/\gu (gv X.prog X.w) X.A (nc v<|.ref f) (EP X a b Q) X.xe s
def Vb.or(h:Vb X r)(l:Vb X m):Vb X (λx lo hi H Q=>r x lo hi H Q\/m x lo hi H Q):=by
 intro a s b H x v c d lo hi f Q I g i j k q;rcases q with q|q
 ·exact h a s b H x v c d lo hi f Q I g i j k q
 ·exact l a s b H x v c d lo hi f Q I g i j k q
def tSl(r:V->Option Int->Option Int->Hp->VK->Prop)(te:TE)(tl th:TO):TE:=λa H Q=>te a H λx b=>tl a b λl c=>th a c λu d=>r x l u d Q
def zo(k:Vb X r)(m:PE X e te)(n:PO X lo tl)(o:PO X hi th):PE X (.Subscript e (.Slice lo hi none p2) pos) (tSl r te tl th):=by intro a s d H Q I h;refine rZ<|uY (m a s d H _ I h) λv p f=>e2a3 f λx t w y z=>?_;refine wpAny_Slice<|uY (n a p d t _ w z) λg A f=>e2a3 f λl B C D E=>uY (o a A d B _ C E) λi c f=>e2a3 f λu j F G J=>?_;rw[sL];refine ap ?_;have L:Inv X a d j { c with heap:=c.heap.push { cls:=.type "slice",data:=.fields #v[g,i,.none]}}:=F.kept (t':=c.toks) λb P q=>ce _ q;obtain⟨T,R,M,N,O⟩:=k a { c with heap:=c.heap.push { cls:=.type "slice",data:=.fields #v[g,i,.none]}} d j x v g i l u ⇑c Q L y (qp ..) D G J;exact tail_any (ops:=[.ref ⇑c,v]) N M O (by with_unfolding_all rfl)
noncomputable def Do(a:List V)(lo hi:Option Int):List V:=(a.drop<|HT.wu a.length 0 lo).take<|HT.wu a.length a.length hi-HT.wu a.length 0 lo
def Cj(a:List V)(lo hi:Option Int):(Do a lo hi).length<=a.length:=by unfold Do;rw[kS,l8];omega
def a0J(K:ga):V->Option Int->Option Int->Hp->VK->Prop:=λx lo hi H Q=>∃a b,x=.ref a/\yD K H a b /\
 ¬(HT.wu b.length 0 lo=0/\HT.wu b.length b.length hi=b.length)/\∀p,H p=none->Q (.ref p) (upd H p<|.tup<|Do b lo hi)
def V9:Vb X (a0J X.K):=by
 intro g s u H x v w y lo hi z Q I k l m n h;obtain⟨a,d,rfl,p,t,q⟩:=h;cases k;refine e1a3 (I.tuple p) λf r i j=>?_;have c:f.toArray.size=d.length:=by rw[gy];exact r.length.symm
 refine#["tuple",_,PyProof.Rows.slot_tuple_getitem.lookup,i.typeIs,?_];refine HT.AS i l m n (by rw[c];exact t) ?_ (by rw[c];exact j);rw[c];refine#[.ref ⇑s,_,I.laid (t':=s.toks) (o:=.tup<|Do d lo hi) (λb A q=>ce _ q) (gg _) ?_,rfl,q _<|I.vc.fresh<|gg _];exact#[gW (Cj d lo hi) j,_,(r.drop<|HT.wu d.length 0 lo).take<|HT.wu d.length d.length hi-HT.wu d.length 0 lo,IsTup.new _ _]
end
noncomputable def Vc(n:Nat)(i:Int):Option Nat:=if 0<=i then (if i<n then some i.toNat else none) else if -(n:Int)<=i then some (i+n).toNat else none
noncomputable def EB{a:Type}(b:List a)(i:Int):Option a:=(Vc b.length i).bind λj=>b[j]?
def LK{n:Nat}{i:Int}{j:Nat}(h:Vc n i=↑j):seqIndex? i n=↑j/\j<n/\-(n:Int)<=i/\i<n:=by
 unfold Vc at h;by_cases b:0<=i
 ·rw[f9 b]at h;by_cases a:i<n
  ·rw[f9 a]at h;have e:i.toNat=j:=iq h;exact#[by rw[seqIndex_of b a,e],q0a,q0a,a]
  ·rw[gc a]at h;cases h
 ·rw[gc b]at h;by_cases a:-(n:Int)<=i
  ·rw[f9 a]at h;have e:(i+n).toNat=j:=iq h;exact#[by rw[tM q0a a,e],q0a,a,q0a]
  ·rw[gc a]at h;cases h
def LL{α:Type}{xs:List α}{i:Int}{v:α}(h:EB xs i=↑v):∃j,seqIndex? i xs.length=↑j/\xs[j]?=↑v/\j<xs.length/\-(xs.length:Int)<=i/\i<xs.length:=by
 unfold EB at h
 cases e:Vc xs.length i with
 |none=>rw[e]at h;cases h
 |some j =>
  rw[e]at h;obtain⟨h1,h2,h3,h4⟩:=LK e;exact#[j,h1,h,h2,h3,h4]
def LM{α:Type}{xs:List α}{j:Nat}{v:α}(h:xs[j]?=↑v):EB xs (j:Int)=↑v:=by
 have hj:j<xs.length:=(List.getElem?_eq_some_iff.mp h).1
 have e:Vc xs.length (j:Int)=↑j:=by unfold Vc;rw[f9 q0a,f9 q0a];simp
 unfold EB;rw[e];exact h
def LN(b:hZ):Prop:=∀o i,qY b false o i=operate [o,i] (nc o i)
def IxR(X:Cx)(r:R2):Prop :=
 ∀(c a:hZ) (b:List (ci×Obj)) (s:gn) (d:St) (H:Hp) (x y:V) (v u:cr) (Q:VK),Inv X b d H s->RelV x v->RelV y u->r x y H Q ->
  qY a false v u=operate [v,u] (nc v u)->gu (gv X.prog X.w) X.A (subscriptTail c a v u) (EP X b d Q) X.xe s
def MtR(X:Cx)(e:String)(r:V->List V->Hp->VK->Prop):Prop :=
 ∀(a:List (ci×Obj)) (s:gn) (b:St) (H:Hp) (x:V) (c:List V) (v:cr) (d:List cr) (Q:VK),Inv X a b H s->RelV x v->Vals c d->r x c H Q ->
  gu (gv X.prog X.w) X.A (call (.builtin e) (v::d)) (EP X a b Q) X.xe s
section
variable{X:Cx}
def xv(d:IxR X r)(e:PE X a f)(g:PE X b i)(j:LN b):PE X (.Subscript a b pos) (XU r f i):=by intro c s k H Q I h;exact rZ<|V1 e g I h λv u l x y m n o p q=>d a b c l k m x y v u Q n o p q<|j _ _
def a0L(K:ga):R2:=λx y H Q=>∃p a i v,x=.ref p/\y=.int i/\vJ K H p a/\EB a i=↑v/\Q v H
def a0M(K:ga):R2:=λx y H Q=>∃p a i v,x=.ref p/\y=.int i/\yD K H p a/\EB a i=↑v/\Q v H
def v4:IxR X (a0L X.K):=by
 intro value slice a s g H x y v u Q I n o h k;obtain⟨p,J,i,z,rfl,rfl,A,B,q⟩:=h;cases n;obtain⟨t,rfl⟩:=o;refine e1a3 (I.list A) λc r d L=>?_;obtain⟨j,b,C,M,D,E⟩:=LL B;refine e1a2 (r.get C) λw l e=>?_;have F:=r.length;have N:=Dm;have fin:EP X a g Q w s:=#[z,H,I,e,q];by_cases m:0<=i
 ·have f:i.toNat=j:=by rw[seqIndex_of m E]at b;exact iq b
  exact item_listR d.isList m q0a (by rw[f];simpa using l) fin k
 ·have f:(i+(c.toArray.size:Int)).toNat=j:=by rw[tM q0a D]at b;rw[gy,<- F];exact iq b
  exact tN (x:=w) d.isList.typeIs slot_list_getitem.lookup
   (wpAny_getItem_list_neg (Q:=λr G=>r=w/\EP X a g Q r G) d.isList q0a (by rw[gy]<;>lia) q0a (by rw[f];simpa using l) #[rfl,fin]) k
def OB:IxR X (a0M X.K):=by
 intro value slice a s c H x y v u Q I e f h g;obtain⟨p,D,i,z,rfl,rfl,k,l,q⟩:=h;cases e;obtain⟨t,rfl⟩:=f;refine e1a3 (I.tuple k) λm r d E=>?_;obtain⟨j,n,o,F,G,J⟩:=LL l;refine e1a2 (r.get o) λw A b=>?_;have B:=r.length;have L:=Dm;have fin:EP X a c Q w s:=#[z,H,I,b,q]
 exact tN (x:=w) d.typeIs slot_tuple_getitem.lookup
  (getItem_tuple (j:=j) (Q:=λr C=>r=w/\EP X a c Q r C) d q0a q0a (by rw[gy,<- B];exact n) (by simpa using A) #[rfl,fin]) g
def JB(a:List cr)(n j:Nat)(u:cr):Obj.mapSeq (·.setIfInBounds j u) { cls:=.type "list",data:=.seq a.toArray n}={ cls:=.type "list",data:=.seq (a.set j u).toArray n}:=by simp[Obj.mapSeq]
def Inv.lst(I:Inv X b d H s)(h:H p=↑(.lst c)) :
  ∃(a:List cr)(n:Nat),Vals c a/\s.heap.get? p=some { cls:=.type "list",data:=.seq a.toArray n}/\c.length<=gh:=by
 obtain⟨z,a,n,r,e⟩:=I.vc p _ h;exact#[a,n,r,e,z]
def Inv.Wa{c a:List cr}{n g:Nat}(I:Inv X d k H s)(h:H p=↑(.lst v))
 (l:s.heap.get? p=some { cls:=.type "list",data:=.seq c.toArray n}) (i:f { cls:=.type "list",data:=.seq c.toArray n}={ cls:=.type "list",data:=.seq a.toArray g}) (r:Vals j a) (m:j.length<=gh) (t:Nat) :
    Inv X d k (upd H p<|.lst j) { s with heap:=s.heap.update p f,toks:=t}:=by
  have e:(s.heap.update p f).get? p=some { cls:=.type "list",data:=.seq a.toArray g}:=by
    rw[ii f l (by rw[i]<;>rfl),i]
  refine I.write (x:=p) (e:=p) (by rw[h];trivial) (.inl rfl) (λb u o q=>(g9 _ _<|Ne.symm o).trans q) #[_,e] ?_
  exact#[m,a,g,r,e]
def Ys:V->V->V->Hp->(Hp->Prop)->Prop:=λo i v H Q=>∃p a k j,o=.ref p/\i=.int k/\H p=↑(.lst a)/\Vc a.length k=↑j/\Q (upd H p<|.lst<|a.set j v)
def set_list:VS X Ys:=by
 intro a s y H o i v F G u Q I z A B h;obtain⟨p,C,k,j,rfl,rfl,g,D,q⟩:=h;cases z;obtain⟨t,rfl⟩:=A;obtain⟨b,n,r,d,E⟩:=I.lst g;obtain⟨c,J,l,m⟩:=LK D;have e:=r.length;have L:=Dm
 have w:Inv X a y (upd H p<|.lst<|C.set j v) { s with heap:=s.heap.update p (Obj.mapSeq (·.setIfInBounds j u))} :=
  I.Wa g d (JB b n j u) (r.set B j) (by rw[lu];exact E) s.toks
 by_cases x:0<=k
 ·have f:k.toNat=j:=by rw[seqIndex_of x m]at c;exact iq c
  exact PySem.W.ki_setAt d x q0a (by rw[gy,<- e];exact m) (by rw[f];exact#[_,w,q])
 ·have f:(k+(b.toArray.size:Int)).toNat=j:=by rw[tM q0a l]at c;rw[gy,<- e];exact iq c
  exact PySem.W.ki_setBack d q0a (by rw[gy,<- e];exact l) q0a (by rw[f];exact#[_,w,q])
def FP(a b:Option Int)(n:Nat):(mI a b none n).1=((HT.wu n 0 a:Nat):Int)/\(mI a b none n).2.1=((HT.wu n n b:Nat):Int)/\(mI a b none n).2.2=1:=by
 refine#[?_,?_,rfl]
 ·cases a with
  |none=>simp[mI,HT.wu]
  |some i =>
   simp only[mI,HT.wu,pM,show (1:Int)>0 by decide,if_true];by_cases h:i<0
   ·simp only[h,if_true]<;>lia
   ·simp only[h,oG]<;>lia
 ·cases b with
  |none=>simp[mI,HT.wu]
  |some i =>
   simp only[mI,HT.wu,pM,show (1:Int)>0 by decide,if_true];by_cases h:i<0
   ·simp only[h,if_true]<;>lia
   ·simp only[h,oG]<;>lia
def EC(a:List cr)(b c:Option Int):slicePick a.toArray b c none=((a.drop<|HT.wu a.length 0 b).take<|HT.wu a.length a.length c-HT.wu a.length 0 b).toArray:=by refine e0a3 (FP b c a.toArray.size) λd e f=>?_;unfold slicePick;rw[d,e,f];simp only[sliceRange_one,pick_run,gy]<;>rfl
def a0N(K:ga):V->Option Int->Option Int->Hp->VK->Prop:=λx c d H Q=>∃a b,x=.ref a/\vJ K H a b/\∀p,H p=none->Q (.ref p) (upd H p<|.lst<|Do b c d)
def CN:Vb X (a0N X.K):=by intro g s u H x v w y e f z Q I j k l m h;obtain⟨a,c,rfl,n,q⟩:=h;cases j;refine e1a3 (I.list n) λp r i t=>?_;have d:=r.length;refine#["list",_,slot_list_getitem.lookup,i.isList.typeIs,?_];refine sM i.isList k l m .none q0o ?_ (by rw[gy]<;>lia);rw[EC,<- d];refine#[.ref ⇑s,_,I.laid (t':=s.toks) (o:=.lst<|Do c e f) (λb A q=>ce _ q) (gg _) ?_,rfl,q _<|I.vc.fresh<|gg _];exact#[gW (Cj c e f) t,_,0,(r.drop<|HT.wu c.length 0 e).take<|HT.wu c.length c.length f-HT.wu c.length 0 e,gx _ rfl]
noncomputable def AT:V->Bool
 | .vU=>true
 | .bl _=>true
 | .int _=>true
 | .str _=>true
 |_=>false
noncomputable def RS:V->V->Bool
 | .vU,.vU=>true
 | .bl a,.bl b=>a==b
 | .bl a,.int b=>(if a then 1 else 0)==b
 | .int a,.bl b=>a==(if b then 1 else 0)
 | .int a,.int b=>a==b
 | .str a,.str b=>a==b
 |_,_=>false
def Wb(e:RelV y u)(c:RelV x v)(g:AT y=true)(f:AT x=true):SeqAt.EqAt A s u v (RS y x):=by
 cases y with
 |vU =>
  cases e
  cases x with
  |vU=>cases c;exact SeqAt.EqAt.same _
  |bl b=>cases c;exact SeqAt.EqAt.none_bool b
  |int b=>obtain⟨t,rfl⟩:=c;exact SeqAt.EqAt.none_int b t
  |str b=>obtain⟨t,rfl⟩:=c;exact SeqAt.EqAt.none_str b t
  |_=>exact gA (show false=true from f) gw
 |bl a =>
  cases e
  cases x with
  |vU=>cases c;exact SeqAt.EqAt.bool_none a
  |bl b=>cases c;exact SeqAt.EqAt.bool_bool a b
  |int b=>obtain⟨t,rfl⟩:=c;exact SeqAt.EqAt.bool_int a b t
  |str b=>obtain⟨t,rfl⟩:=c;exact SeqAt.EqAt.bool_str a b t
  |_=>exact gA (show false=true from f) gw
 |int a =>
  obtain⟨d,rfl⟩:=e
  cases x with
  |vU=>cases c;exact SeqAt.EqAt.int_none a d
  |bl b=>cases c;exact SeqAt.EqAt.int_bool a d b
  |int b=>obtain⟨t,rfl⟩:=c;exact SeqAt.EqAt.int_int a d b t
  |str b=>obtain⟨t,rfl⟩:=c;exact qU a d b t
  |_=>exact gA (show false=true from f) gw
 |str a =>
  obtain⟨d,rfl⟩:=e
  cases x with
  |vU=>cases c;exact SeqAt.EqAt.str_none a d
  |bl b=>cases c;exact SeqAt.EqAt.str_bool a d b
  |int b=>obtain⟨t,rfl⟩:=c;exact qV a d b t
  |str b=>obtain⟨t,rfl⟩:=c;exact SeqAt.EqAt.str_str a d b t
  |_=>exact gA (show false=true from f) gw
 |_=>exact gA (show false=true from g) gw
noncomputable def JC(x:V)(u:cr):Bool:=match u with
 | .none=>RS .vU x
 | .bool b=>RS (.bl b) x
 | .int i _=>RS (.int i) x
 | .str z _=>RS (.str z) x
 |_=>false
def OC(r:RelV y u)(f:AT y=true):JC x u=RS y x:=by
 cases y with
 |vU=>cases r;rfl
 |bl b=>cases r;rfl
 |int i=>obtain⟨t,rfl⟩:=r;rfl
 |str z=>obtain⟨t,rfl⟩:=r;rfl
 |_=>exact gA (show false=true from f) gw
def CO:∀{a:List V} {b:List cr},Vals a b->a.all AT=true->b.any (JC x)=a.any λy=>RS y x:=by
 intro _ _ z f
 induction z with
 |nil=>rfl
 |cons h t c =>
  rw[pr,hR]at f;rw[ny,ny,OC h f.1,c f.2]
def zp(d:RelV x v)(e:AT x=true):∀{b:List V} {c:List cr},Vals b c->b.all AT=true->∀u∈c,SeqAt.EqAt A s u v (JC x u)
 |_,_,.nil,_=>λu a=>by cases a
 |y::b,u::c,.cons r t,f=>λg a=>by
  rw[pr,hR]at f;rcases List.mem_cons.mp a with rfl|a
  ·rw[OC r f.1];exact Wb r d f.1 e
  ·exact zp d e t f.2 g a
noncomputable def ZY(x:V)(a:List V):Bool:=a.any λy=>RS y x
def rIn(K:ga)(b:Bool):R2:=λx y H Q=>∃p a,y=.ref p/\(vJ K H p a\/yD K H p a)/\AT x=true/\a.all AT=true/\Q (.bl<|if b then !ZY x a else ZY x a) H
def E7:Ai X (iX .In) (rIn X.K false):=by
 intro f s l H x y v u Q I g j h;obtain⟨p,m,rfl,b,i,c,q⟩:=h;cases j;rcases b with b|b
 ·refine e1a3 (I.list b) λa r d k=>?_;refine SeqAt.in_listAt (JC x) d.isList (λw e=>zp g i r c w<|by simpa using e) #[.bl _,H,I,rfl,?_];rw[show a.toArray.any (JC x)=a.any (JC x) by simp,CO r c];exact q
 ·refine e1a3 (I.tuple b) λa r d k=>?_;refine SeqAt.in_tupleAt (JC x) d (λw e=>zp g i r c w<|by simpa using e) #[.bl _,H,I,rfl,?_];rw[show a.toArray.any (JC x)=a.any (JC x) by simp,CO r c];exact q
def AU:Ai X (iX .NotIn) (rIn X.K true):=by
 intro f s l H x y v u Q I g j h;obtain⟨p,m,rfl,b,i,c,q⟩:=h;cases j;rcases b with b|b
 ·refine e1a3 (I.list b) λa r d k=>?_;refine SeqAt.notIn_listAt (JC x) d.isList (λw e=>zp g i r c w<|by simpa using e) #[.bl _,H,I,rfl,?_];rw[show a.toArray.any (JC x)=a.any (JC x) by simp,CO r c];exact q
 ·refine e1a3 (I.tuple b) λa r d k=>?_;refine SeqAt.notIn_tupleAt (JC x) d (λw e=>zp g i r c w<|by simpa using e) #[.bl _,H,I,rfl,?_];rw[show a.toArray.any (JC x)=a.any (JC x) by simp,CO r c];exact q
def xB:xZ X (.builtin "len") (λg H Q=>∃p b,g=[.ref p]/\(vJ X.K H p b\/yD X.K H p b)/\Q (.int b.length) H):=by
 intro i s l H g m Q I r h;obtain⟨p,b,rfl,c,q⟩:=h;obtain⟨u,rfl,j⟩:=vals1 r;cases j;have n:=Dm;rcases c with c|c
 ·refine e1a3 (I.list c) λd e f k=>?_;have a:=e.length;exact Calls.call_len_list f.isList (by simp only[gy]<;>lia) #[.int b.length,H,I.tok _,#[s.toks+1,by rw[gy,a]],q]
 ·refine e1a3 (I.tuple c) λd e f k=>?_;have a:=e.length;exact len_tuple f (by simp only[gy]<;>lia) #[.int b.length,H,I.tok _,#[s.toks+1,by rw[gy,a]],q]
def xC:xZ X (.type "list") (λB H Q=>∃p d,B=[.ref p]/\(vJ X.K H p d\/yD X.K H p d)/\∀l,H l=none->Q (.ref l) (upd H l<|.lst d)):=by
 intro i s D H B F Q I r h;obtain⟨p,d,rfl,j,q⟩:=h;obtain⟨u,rfl,E⟩:=vals1 r;cases E
 have k:∀(a:List cr),Vals d a->d.length<=gh->∀(c:h8)(f:Nat),(∀b C,s.heap.get? b=↑C->c.get? b=↑C) ->
   c.get? ⇑s=some { cls:=.type "list",dict:=none,data:=.seq a.toArray f,slots:=#v[]}->EP X i D Q (.ref ⇑s) { s with heap:=c}:=λa g m c f t e =>
  #[.ref ⇑s,_,I.laid (t':=s.toks) t (gg _)<|show vv X.prog X.w _ c _ (.lst d) from#[m,a,f,g,e],rfl,q _<|I.vc.fresh<|gg _]
 rcases j with j|j
 ·refine e1a3 (I.list j) λa g x m=>?_;have v:=g.length;obtain⟨o,y,z,n,A⟩:=x.isList;exact call_list_seq p (.inl rfl) y z A (λc f t e=>k a g m c f t e) (by simp only[gy]<;>lia)
 ·refine e1a3 (I.tuple j) λa g x m=>?_;have v:=g.length;obtain⟨o,y,z,n,A⟩:=x;exact call_list_seq p (.inr rfl) y z A (λc f t e=>k a g m c f t e) (by simp only[gy]<;>lia)
def ED:xZ X (.type "tuple") (λk H Q=>∃p d,k=[.ref p]/\((vJ X.K H p d/\∀l,H l=none->Q (.ref l) (upd H l<|.tup d))\/(yD X.K H p d/\Q (.ref p) H))):=by
 intro a s m H k A Q I r h;obtain⟨p,d,rfl,h⟩:=h;obtain⟨u,rfl,x⟩:=vals1 r;cases x;rcases h with⟨g,q⟩|⟨g,q⟩
 ·refine e1a3 (I.list g) λc i j n=>?_;have t:=i.length;refine call_tuple_list j.isList (λf y=>?_) (by simp only[gy]<;>lia);have v:Inv X a m H { s with heap:=f}:=I.kept (t':=s.toks) y
  have z:Inv X a m (upd H f.objs.size<|.tup d) { s with heap:=f.push { cls:=.type "tuple",data:=.seq c.toArray}} :=
   v.laid (t':=s.toks) (λb o e=>ce _ e) (gg _) (show vv X.prog X.w _ _ _ (.tup d) from#[n,c,i,IsTup.new _ _])
  exact#[.ref f.objs.size,_,z,rfl,q _<|v.vc.fresh<|gg _]
 ·refine e1a3 (I.tuple g) λc i j n=>?_;exact call_tuple_same j #[.ref p,H,I,rfl,q]
def tyV(K:ga)(T:String)(x:V)(H:Hp):Prop:=match x with
 | .str _=>T="str"
 | .int _=>T="int"
 | .ref p=>(T="list"/\∃xs,vJ K H p xs)\/(T="tuple"/\∃o,K.lookup p=↑o/\o.cls=.type "tuple"/\o.dict=none) \/
   (T="dict"/\((∃wE,H p=↑(.dK wE))\/∃wE,H p=↑(.dT wE)))\/(T="set"/\∃S n,H p=↑(.set S n))
 |_=>False
def OD(I:Inv X k y H s)(r:RelV x v)(f:tyV X.K T x H) :
  s.TypeIs v T/\∀a,v=.ref a->∃l,s.heap.get? a=↑l/\l.dict=none:=by
 cases x with
 |str z =>
  obtain⟨t,rfl⟩:=r;cases (show T="str" from f);exact#[typeIs_str s z t,λ_ e=>nomatch e]
 |int i =>
  obtain⟨t,rfl⟩:=r;cases (show T="int" from f);exact#[typeIs_int s i t,λ_ e=>nomatch e]
 |ref p =>
  cases r;rcases f with⟨rfl,A,q⟩|⟨rfl,o,b,u,g⟩|⟨rfl,b⟩|⟨rfl,S,n,b⟩
  ·refine e1a3 (I.list q) λw _ m _=>?_;refine#[m.isList.typeIs,λa e=>?_];cases e;refine e2a4 m λo n e c g _=>?_;exact#[o,e,g]
  ·refine#[#[o,I.xX p o b,u],λa e=>?_];cases e;exact#[o,I.xX _ o b,g]
  ·have z:∃o,s.heap.get? p=↑o/\o.ExactDict:=by
    rcases b with⟨h,b⟩|⟨h,b⟩
    ·obtain⟨_,_,_,_,o,_,_,e,d,_⟩:=I.vc p _ b;exact#[o,e,d]
    ·obtain⟨_,_,_,_,o,_,_,e,d,_⟩:=I.vc p _ b;exact#[o,e,d]
   refine e1a2 z λo e d=>?_;refine#[#[o,e,d.1],λa j=>?_];cases j;exact#[o,e,d.2.1]
  ·obtain⟨o,_,_,_,e,d,_⟩:=I.vc p _ b;refine#[#[o,e,d.1],λa j=>?_];cases j;exact#[o,e,d.2.1]
 |_=>exact gZ f
def Yt(K:ga)(T:String)(r:V->List V->Hp->VK->Prop)(b:TE):TE:=λc H Q=>b c H λx a=>tyV K T x a/\r x [] a Q
def tBM(K:ga)(T:String)(r:V->List V->Hp->VK->Prop)(c:TE)(t:TA):TE:=λa H Q=>c a H λx b=>tyV K T x b/\t a b λd e=>r x d e Q
variable{o e:hZ}{es:List hZ}{to:TE}{t:TA}{name:Str}{apos cpos:Pos}{T id:String}{r:V->List V->Hp->VK->Prop}
def OE(k:PlainAttrs T)(d:Slot T name id)(f:typeOf (.builtin id)=pure (.type "method_descriptor"))(l:MtR X id r)(m:PE X o to)
 (b:hJ o name X.env (eval o X.env)=eval o X.env:=by rfl)(c:(apos.endLine==cpos.line)=true:=by rfl):PE X (.Call (.Attribute o name apos) [] [] cpos) (Yt X.K T r to):=by
  intro a s g H Q I h
  refine wpAny_Call_method0_late b c<|uY (m a s g H _ I h) λv n p=>e2a4 p λx q i j u w=>?_
  obtain⟨y,z⟩:=OD i j u
  exact#[T,id,k,d,f,y,z,jB rfl<|PySem.evalArgs_none<|l a n g q x [] v [] Q i j .nil w]
def Vd(p:PlainAttrs T)(f:Slot T name id)(i:typeOf (.builtin id)=pure (.type "method_descriptor"))(q:MtR X id r)(u:PE X o to)(w:PA X (e::es) t)
 (c:hJ o name X.env (eval o X.env)=eval o X.env:=by rfl)
 (g:((iN cpos (gf (e::es) X.env)).all (λx=>!x.1)&&(mh cpos (jZ [] X.env)).all (λx=>x.1.isSome)
&&decide ((e::es).length+([]:List oX).length+(if ([]:List oX).isEmpty then 0 else 1)<30))=true:=by rfl)
 (d:(apos.endLine==cpos.line)=true:=by rfl) (y:gf (e::es) X.env=(false,eval e X.env)::gf es X.env:=by rfl) (b:(iN cpos<|gf es X.env).any (·.1)=false:=by rfl) :
    PE X (.Call (.Attribute o name apos) (e::es) [] cpos) (tBM X.K T r to t):=by
  intro a s j H Q I h
  refine tO c g d rfl<|uY (u a s j H _ I h) λv z k=>e2a4 k λx A l m B C=>?_
  obtain⟨D,E⟩:=OD l m B
  refine#[T,id,p,f,i,D,E,?_]
  have n:=w cpos a z j A _ l C
  rw[y]at n ⊢
  refine jB (by show (false||(iN cpos<|gf es X.env).any (·.1))=false;rw[b]<;>rfl)<|iZ ?_
  exact uY n λF G k=>e2a3 k λJ L M N O=>q a G j L x J v F Q M m N O
end
def XW(X:Cx)(e:String)(r:V->List V->Hp->VK->Prop):Prop :=
 ∀(a:List (ci×Obj)) (s:gn) (b:St) (H:Hp) (x:V) (c:List V) (v:cr) (d:List cr) (Q:VK),Inv X a b H s->RelV x v->Vals c d->r x c H Q ->
  gu (gv X.prog X.w) X.A (call (.builtin e) (v::d)) (EP X a b Q) X.xe s
def Vals.one:∀{x:V} {a:List cr},Vals [x] a->∃u,a=[u]/\RelV x u:=by intro _ _ z;cases z with|cons h t=>cases t;exact#[_,rfl,h]
def Vals.zero:∀{a:List cr},Vals [] a->a=[]
 |_,.nil=>rfl
def Vals.dropLast(h:Vals a b):Vals a.dropLast b.dropLast:=by
 induction h with
 |nil=>exact .nil
 |cons r t c =>
  cases t with
  |nil=>exact .nil
  |cons q d=>exact .cons r c
def Vals.eraseIdx:∀{a:List V} {b:List cr} (i:Nat),Vals a b->Vals (a.eraseIdx i) (b.eraseIdx i)
 |_,_,_,.nil=>.nil
 |_,_,0,.cons _ t=>t
 |_,_,i+1,.cons r t=>.cons r<|Vals.eraseIdx i t
def Vals.reverse(h:Vals a b):Vals a.reverse b.reverse:=by
 induction h with
 |nil=>exact .nil
 |cons r t c=>rw[ni,ni];exact Vals.append c<|.cons r .nil
def JD(l:List d):l.eraseIdx (l.length-1)=l.dropLast:=by
 induction l with
 |nil=>rfl
 |cons a r c =>
  cases r with
  |nil=>rfl
  |cons b r =>
   have e:(a::b::r).length-1=((b::r).length-1)+1:=by
    have f:(a::b::r).length=r.length+2:=rfl;have g:(b::r).length=r.length+1:=rfl
    lia
   rw[e,nM,c]
   all_goals rfl
def E8:∀(l:List a)(i:Nat),(l.eraseIdx i).length<=l.length
 | [],_=>gg _
 |_::_,0=>kQ _
 |_::r,i+1=>Nat.succ_le_succ<|E8 r i
def Inv.Wc{a its':List cr}{n:Nat}{d:Nat}(I:Inv X b g H s)(h:H l=↑(.lst p))
 (e:s.heap.get? l=some { cls:=.type "list",data:=.seq a.toArray n}) (i:f a.toArray=its'.toArray) (j:Vals c its') (k:c.length<=gh) :
    Inv X b g (upd H l<|.lst c) { s with heap:=s.heap.update l<|Obj.mapSeq f,toks:=d}:=by
  have q:=PySem.IsL.update e f
  rw[i]at q
  refine I.write (x:=l) (e:=l) (by rw[h];exact trivial) (.inl rfl) (λr u m o=>(g9 s.heap (Obj.mapSeq f)<|Ne.symm m).trans o) #[_,q] ?_
  exact#[k,its',_,j,q]
def Inv.a0Q{t':Nat}(I:Inv X a d H s)(e:Vals c b)(f:c.length<=gh) :
  Inv X a d (upd H ⇑s<|.lst c) { s with heap:=s.heap.push { cls:=.type "list",data:=.seq b.toArray},toks:=t'} :=
 I.laid (λ_ _ q=>ce _ q) (gg _) #[f,b,0,e,gx _ rfl]
def Inv.fresh(I:Inv X a b H s):H ⇑s=none:=I.vc.fresh<|gg _
def Inv.OF(I:Inv X c f H s)(d:H l=↑(.lst b)):b.length<=gh/\∃(a:List cr)(n:Nat),Vals b a/\b.length=a.length/\s.heap.get? l=some { cls:=.type "list",data:=.seq a.toArray n}:=by obtain⟨z,a,n,r,e⟩:=I.vc l _ d;exact#[z,a,n,r,r.length,e]
def LO:V->List V->Hp->VK->Prop:=λx b H Q=>∃l a y,x=.ref l/\b=[y]/\H l=↑(.lst a)/\a.length<gh/\Q .vU (upd H l<|.lst<|a++[y])
def M5:XW X "list.append" LO:=by
 intro b s i H x j v k Q I d f h;obtain⟨l,m,y,rfl,rfl,c,o,q⟩:=h;cases d;obtain⟨u,rfl,g⟩:=f.one;obtain⟨z,a,n,r,p,e⟩:=I.OF c;refine call_meets F.slot_list_append #[_,e,rfl] F.entry_list_append (F.args_list_append_2 _ _) (PySem.list_append l a.toArray n u<|by rw[gy];lia) #[e,?_];refine#[.vU,_,I.Wc (its':=a++[u]) c e q0o (r.append<|.cons g .nil) ?_,rfl,q];rw[gz,gJ]
 lia
def Yu:V->List V->Hp->VK->Prop:=λx b H Q=>∃l a y,x=.ref l/\b=[]/\H l=↑(.lst a)/\a[a.length-1]?=↑y/\Q y (upd H l<|.lst a.dropLast)
def OG:XW X "list.pop" Yu:=by
 intro d s p H x t v w Q I g i h;obtain⟨l,A,y,rfl,rfl,f,j,q⟩:=h;cases g;have b:=i.zero;subst b;obtain⟨z,a,n,r,k,e⟩:=I.OF f;refine e1a2 (r.get j) λu m o=>?_
 have c:a.toArray[a.toArray.size-1]?=↑u:=by show a.toArray[a.length-1]?=↑u;rw[<- hO,<- k];exact m
 refine call_meets n6 #[_,e,rfl] F.entry_list_pop (F.args_list_pop_1 _) (MeetsSeq.list_pop_last l a.toArray n u c<|by rw[gy];omega) #[e,?_];refine#[y,_,I.Wc (its':=a.dropLast) f e ?_ r.dropLast ?_,o,q]
 ·show a.toArray.eraseIdxIfInBounds (a.toArray.size-1)=a.dropLast.toArray;rw[gy,pV,JD]
 ·rw[List.length_dropLast];omega
def OH:V->List V->Hp->VK->Prop:=λx b H Q=>∃l a i k y,x=.ref l/\b=[.int i]/\H l=↑(.lst a)/\-(2 ^ 63)<=i/\i<2 ^ 63/\seqIndex? i a.length=↑k/\a[k]?=↑y/\Q y (upd H l<|.lst<|a.eraseIdx k)
def OI:XW X "list.pop" OH:=by
 intro c s E H x G v J Q I f g h;obtain⟨l,j,i,k,y,rfl,rfl,d,m,o,p,A,q⟩:=h;cases f;obtain⟨u,rfl,B⟩:=g.one;obtain⟨t,rfl⟩:=B;obtain⟨z,a,n,r,C,e⟩:=I.OF d;refine e1a2 (r.get A) λw D b=>?_
 refine call_meets n6 #[_,e,rfl] F.entry_list_pop (F.args_list_pop_2 _ _)
  (MeetsSeq.list_pop_at l a.toArray n i t k w (fitsIndex_both m o) (by rw[gy,<- C];exact p) (by rw[<- hO];exact D)<|by rw[gy];lia) #[e,?_]
 refine#[y,_,I.Wc (its':=a.eraseIdx k) d e ?_ (r.eraseIdx k) ?_,b,q]
 ·show a.toArray.eraseIdxIfInBounds k=(a.eraseIdx k).toArray;rw[pV]
 ·have:=E8 j k
  lia
def a0R:R2:=λx y H Q=>∃l b a c,x=.ref l/\y=.ref b/\H l=↑(.lst a)/\H b=↑(.lst c)/\a.length+c.length<=gh/\∀p,H p=none->Q (.ref p) (upd H p<|.lst<|a++c)
def Wd:Ai X (lK .Add) a0R:=by
 intro d s t H x y v u Q I f g h;obtain⟨l,b,w,A,rfl,rfl,i,j,B,q⟩:=h;cases f;cases g;obtain⟨z,c,n,r,C,e⟩:=I.OF i;obtain⟨D,a,E,k,m,o⟩:=I.OF j;refine PySem.P.add_list e o ?_ (by rw[gy,gy];lia);have p:c.toArray++a.toArray=(c++a).toArray:=by simp
 rw[p];exact#[.ref _,_,I.a0Q (t':=s.toks) (r.append k) (by rw[gz];lia),rfl,q _ I.fresh]
section
variable{κ:Type}[DecidableEq κ]
noncomputable def xD(wE:List (κ×V))(k:κ):Option V:=(wE.find? λkv=>decide<|kv.1=k).map (·.2)
noncomputable def putK(wE:List (κ×V))(k:κ)(v:V):List (κ×V) :=
 if (wE.any λkv=>decide<|kv.1=k)=true then wE.map (λkv=>if kv.1=k then (kv.1,v) else kv) else wE++[(k,v)]
noncomputable def zq(a:List (κ×V))(k:κ):List (κ×V):=a.filter λb=>decide<|b.1≠k
def yq{p:κ×V}{r:List (κ×V)}(e:p.1=k):xD (p::r) k=↑p.2:=by simp[xD,ij,e]
def yr{p:κ×V}{r:List (κ×V)}(e:¬p.1=k):xD (p::r) k=xD r k:=by simp[xD,ij,e]
def zr(k:κ):∀a:List (κ×V),(a.any λb=>decide<|b.1=k)=(xD a k).isSome
 | []=>rfl
 |p::r=>by
  rw[ny];by_cases e:p.1=k
  ·simp only[yq e,decide_eq_true e,Bool.true_or,Option.isSome_some]
  ·rw[yr e,gH e,Bool.false_or];exact zr k r
def zt(a:List (κ×V))(k:κ)(v:V):(putK a k v).length<=a.length+1:=by
 unfold putK;split
 ·rw[gm];lia
 ·rw[gz,gK,mu];lia
def OJ{a:List (κ×V)}(v:V)(h:xD a k=none):putK a k v=a++[(k,v)]:=by unfold putK;rw[zr,h];exact gc q0q
def yF.xH(r:yF o u):o.isSome=u.isSome:=by
 cases o with
 |none=>cases u with
  |none=>rfl
  |some _=>exact(show False from r).elim
 |some _=>cases u with
  |none=>exact(show False from r).elim
  |some _=>rfl
def yF.getD(r:yF o u)(a:RelV d b):RelV (o.getD d) (u.getD b):=by
 cases o with
 |none=>cases u with
  |none=>exact a
  |some _=>exact(show False from r).elim
 |some _=>cases u with
  |none=>exact(show False from r).elim
  |some _=>exact r
def KV.val(r:KV a g)(k:κ):yF (xD a k) (pN g k):=by
 induction r with
 |nil=>exact True.intro
 | @cons p q l c h t i =>
  obtain⟨f,j⟩:=h;by_cases e:p.1=k
  ·have d:q.1=k:=f.symm.trans e;have b:pN (q::c) k=↑q.2:=by simp[pN,ij,d]
   rw[yq e,b];exact j
  ·have d:¬q.1=k:=λz=>e<|f.trans z;have b:pN (q::c) k=pN c k:=by simp[pN,ij,d]
   rw[yr e,b];exact i
def KV.any(r:KV a c)(k:κ):(a.any λb=>decide<|b.1=k)=c.any λb=>decide (b.1=k):=by
 induction r with
 |nil=>rfl
 |cons h t d=>rw[ny,ny,d,h.1]
def KV.We(r:KV c d)(k:κ)(f:RelV y u) :
  KV (c.map λa=>if a.1=k then (a.1,y) else a) (d.map λa=>if a.1=k then (a.1,u) else a):=by
 induction r with
 |nil=>exact .nil
 | @cons p q j l h t g =>
  rw[gN,gN];refine .cons ?_ g;obtain⟨b,i⟩:=h;by_cases e:p.1=k
  ·rw[f9 e,f9<|b.symm.trans e];exact#[b,f]
  ·rw[gc e,gc<|λz=>e<|b.trans z];exact#[b,i]
def KV.put(r:KV a b)(k:κ)(c:RelV y u):KV (putK a k y) (stored b k u):=by
 unfold putK stored;rw[r.any k];by_cases e:(b.any λd=>decide<|d.1=k)=true
 ·rw[f9 e,f9 e];exact r.We k c
 ·rw[gc e,gc e];exact Paired.snoc r #[rfl,c]
def KV.drop(r:KV c g)(k:κ):KV (zq c k) (without g k):=by
 unfold zq without
 induction r with
 |nil=>exact .nil
 | @cons p q l m h t f =>
  obtain⟨d,i⟩:=h;rw[iT,iT];by_cases e:p.1=k
  ·have a:¬decide (p.1≠k)=true:=by simp[e]
   have b:¬decide (q.1≠k)=true:=by simp[d.symm.trans e]
   rw[gc a,gc b];exact f
  ·have j:¬q.1=k:=λz=>e<|d.trans z;have a:decide (p.1≠k)=true:=by simp[e]
   have b:decide (q.1≠k)=true:=by simp[j]
   rw[f9 a,f9 b];exact .cons #[d,i] f
def KV.length{wE:List (κ×V)}{vs:List (κ×cr)}(r:KV wE vs):wE.length=vs.length:=Paired.length r
def HW(a:List (κ×V))(k:κ):(zq a k).length<=a.length:=gX _ _
end
def An(r:RelV (kV k) u):(uO P w).is k u=true:=by
 cases k with
 |inl i=>obtain⟨t,e⟩:=(show ∃t,u=kO i t from r);subst e;exact HD P w i t
 |inr x=>obtain⟨t,e⟩:=(show ∃t,u=Value.str x t from r);subst e;exact HE P w x t
def M6:∀{a:List Key} {c:List cr},Vals (a.map kV) c->ItemsAre (uO P w) a c:=by
 intro d
 induction d with
 |nil=>intro _ r;rw[oa]at r;cases r;exact .nil
 |cons k a b =>
  intro _ r;rw[gN]at r
  cases r with
  |cons h t=>exact .cons (An h)<|b t
abbrev KT(H:Hp):List (List Key×V)->List (List Key×ci×cr)->Prop:=Paired λp q=>p.1=q.1/\H q.2.1=↑(.tup<|p.1.map kV)/\RelV p.2 q.2.2
def KT.val(r:KT H a g)(k:List Key):yF (xD a k) ((r8 g k).map (·.2)):=by
 induction r with
 |nil=>exact True.intro
 | @cons p q l c h t i =>
  refine e0a3 h λf _ j=>?_;by_cases e:p.1=k
  ·have d:q.1=k:=f.symm.trans e;have b:r8 (q::c) k=↑q.2:=by simp[r8,ij,d]
   rw[yq e,b];exact j
  ·have d:¬q.1=k:=λz=>e<|f.trans z;have b:r8 (q::c) k=r8 c k:=by simp[r8,ij,d]
   rw[yr e,b];exact i
def KT.We(r:KT H b f)(k:List Key)(g:RelV y u) :
  KT H (b.map λc=>if c.1=k then (c.1,y) else c) (f.map<|putAt k u):=by
 induction r with
 |nil=>exact .nil
 | @cons p q l m h t i =>
  rw[gN,gN];refine .cons ?_ i;refine e0a3 h λa d j=>?_;unfold putAt;by_cases e:p.1=k
  ·rw[f9 e,f9<|a.symm.trans e];exact#[a,d,g]
  ·rw[gc e,gc<|λz=>e<|a.trans z];exact#[a,d,j]
def KT.put(r:KT H a c)(k:List Key)(f:H b=↑(.tup<|k.map kV))(d:RelV y u) :
  KT H (putK a k y) (storedH c k b u):=by
 have e:(a.any λg=>decide<|g.1=k)=(r8 c k).isSome:=by rw[zr,(r.val k).xH,ic]
 unfold putK storedH;rw[e];by_cases q:(r8 c k).isSome=true
 ·rw[f9 q,f9 q];exact r.We k d
 ·rw[gc q,gc q];exact Paired.snoc r #[rfl,f,d]
def KT.keeps(r:KT H a d)(e:∀b c,H b=↑(.tup c)->f b=↑(.tup c)):KT f a d :=
 Paired.VI r λ_ _ z=>#[z.1,e _ _ z.2.1,z.2.2]
def Ve(b:xf P w H h)(e:Rd H a u):vv P w H h a u:=e.ok b
def AV(d:xf P w H h)(e:Rd H a (.dK b)):b.length<=gh/\(a==j7)=false/\∃c,KV b c/\h.DictOf (uO P w) a c :=
 show vv P w H h a (.dK b) from Ve d e
def LP(d:xf P w H h)(e:H a=↑(.dK b)):b.length<=gh/\(a==j7)=false/\∃c,KV b c/\h.DictOf (uO P w) a c:=AV d<|.inl e
def AE{b:List Key}(d:xf P w H h)(e:H a=↑(.tup<|b.map kV)):(oA<|uO P w).is h b a:=by obtain⟨_,c,r,o,f,g,n,i⟩:=(show vv P w H h a (.tup<|b.map kV) from d a _ e);exact#[o,c.toArray,n,f,g,i,by simpa using M6 r]
def Ck(g:xf P w H h)(e:Rd H a (.dT b)):b.length<=gh/\(a==j7)=false /\
  ∃d,KT H b d/\h.DictOfH (oA<|uO P w) a d:=by
 obtain⟨z,y,d,r,o,j,k,n,s,u,v,A⟩:=(show vv P w H h a (.dT b) from Ve g e);refine#[z,y,d,r,o,j,k,n,s,u,v,λx c=>?_,A]
 have f:∀{l:List (List Key×V)} {m:List (List Key×ci×cr)},KT H l m->∀x∈m,(oA<|uO P w).is h x.1 x.2.1:=by
  intro l m q
  induction q with
  |nil=>intro x c;exact nomatch c
  | @cons p q C D i t B =>
   intro x c;rcases List.mem_cons.mp c with e|c
   ·subst e;exact AE g (by rw[<- i.1];exact i.2.1)
   ·exact B x c
 exact f r x c
def Yv(d:xf P w H h)(e:H a=↑(.dT b)):b.length<=gh/\(a==j7)=false /\
  ∃c,KT H b c/\h.DictOfH (oA<|uO P w) a c:=Ck d<|.inl e
def xo(H:Hp)(a:ci)(y:V)(r:Option V):Prop :=
 (∃wE k,Rd H a (.dK wE)/\y=kV k/\r=xD wE k)\/∃wE k b,Rd H a (.dT wE)/\y=.ref b/\H b=↑(.tup<|k.map kV)/\r=xD wE k
def FQ(H:Hp)(a:ci)(y v:V)(H':Hp):Prop :=
 (∃wE k,H a=↑(.dK wE)/\y=kV k/\wE.length<gh/\H'=upd H a (.dK<|putK wE k v)) \/
 ∃wE k b,H a=↑(.dT wE)/\y=.ref b/\H b=↑(.tup<|k.map kV)/\wE.length<gh/\H'=upd H a (.dT<|putK wE k v)
def xo.k{H:Hp}{a:ci}{wE:List (Key×V)}{k:Key}(e:H a=↑(.dK wE)):xo H a (kV k) (xD wE k):=.inl #[wE,k,.inl e,rfl,rfl]
def FQ.k{H:Hp}{a:ci}{wE:List (Key×V)}{k:Key}{v:V}(e:H a=↑(.dK wE))(hl:wE.length<gh):FQ H a (kV k) v (upd H a<|.dK<|putK wE k v):=.inl #[wE,k,e,rfl,hl,rfl]
def Inv.big(I:Inv X a b H s):j7<⇑s:=by have h:gC<⇑s:=(I.mod.glob.keeps I.bk).lt;exact mJ q0q h
def E9(B:A.units+1<jS)(I:Inv X i C H s)(g:xo H a y ↑v)(t:RelV y u)(h:∀f x,Inv X i C H x->RelV v f->Q f x) :
  gu (gv X.prog X.w) A (nc (.ref a) u) Q E s:=by
 rcases g with⟨j,k,e,m,l⟩|⟨j,k,b,e,m,eb,l⟩
 ·subst m;obtain⟨z,D,F,c,n⟩:=AV I.vc e;obtain⟨f,q,d⟩:=yF.some_of (v:=v) (o:=pN F k) (by rw[l];exact c.val k);exact wpAny_getItem_of (An t) n.mapOf q<|h f _ (I.tok _) d
 ·subst m;cases (show u=gF b from t);obtain⟨z,D,G,c,n⟩:=Ck I.vc e;obtain⟨f,q,d⟩:=yF.some_of (v:=v) (o:=(r8 G k).map (·.2)) (by rw[l];exact c.val k);refine e1a2 (Option.map_eq_some_iff.mp q) λp J r=>?_;refine wpAny_getItem_heap (kC B) (AE I.vc eb) n J ?_;rw[r];exact h f _ (I.tok _) d
def a0S(r:A.units+1<jS)(I:Inv X d t H s)(g:xo H a y o)(n:RelV y u)(h:∀p,Inv X d t H p->Q (.bool o.isSome) p) :
  gu (gv X.prog X.w) A (iX .In u<|.ref a) Q E s:=by
 rcases g with⟨f,k,e,i,l⟩|⟨f,k,b,e,i,eb,l⟩
 ·subst i;obtain⟨z,j,v,c,m⟩:=AV I.vc e;refine wpAny_in_of (An n) j m.mapOf ?_;rw[<- (c.val k).xH,<- l];exact h _<|I.tok _
 ·subst i;cases (show u=gF b from n);obtain⟨z,j,x,c,m⟩:=Ck I.vc e;refine wpAny_in_heap (kC r) (AE I.vc eb) j m ?_;have q:=(c.val k).xH;rw[ic]at q;rw[<- q,<- l];exact h _<|I.tok _
def Sq(r:A.units+1<jS)(I:Inv X d t H s)(g:xo H a y o)(n:RelV y u)(h:∀p,Inv X d t H p->Q (.bool<|!o.isSome) p) :
  gu (gv X.prog X.w) A (iX .NotIn u<|.ref a) Q E s:=by
 rcases g with⟨f,k,e,i,l⟩|⟨f,k,b,e,i,eb,l⟩
 ·subst i;obtain⟨z,j,v,c,m⟩:=AV I.vc e;refine wpAny_notIn_of (An n) j m.mapOf ?_;rw[<- (c.val k).xH,<- l];exact h _<|I.tok _
 ·subst i;cases (show u=gF b from n);obtain⟨z,j,x,c,m⟩:=Ck I.vc e;refine wpAny_notIn_heap (kC r) (AE I.vc eb) j m ?_;have q:=(c.val k).xH;rw[ic]at q;rw[<- q,<- l];exact h _<|I.tok _
def AW{h:Nat}(I:Inv X c i H s)(j:X8 (H a))(k:iu a s.heap d)(l:∃q,d.get? a=↑q)(f:vv X.prog X.w (upd H a g) d a g) :
  Inv X c i (upd H a g) { s with heap:=d,toks:=h} :=
 I.write (x:=a) (e:=a) j (.inl rfl) (λb q m z=>(k.2 b m).trans z) l f
def Dr{d:h8}{b:List (Key×V)}(z:b.length<=gh)(f:(a==j7)=false)(c:KV b e)(g:d.DictOf (uO P w) a e) :
  vv P w h d a (.dK b):=#[z,f,e,c,g]
def Fa(M:A.units+1<jS)(I:Inv X j N H s)(g:FQ H a y v O)(D:RelV y u)(F:RelV v r)(h:∀G,Inv X j N O G->Q () G) :
  gu (gv X.prog X.w) A (rH (.ref a) u r) Q E s:=by
 rcases g with⟨d,k,e,n,l,o⟩|⟨d,k,b,e,n,eb,l,o⟩
 ·subst n o;obtain⟨z,p,P,f,t⟩:=LP I.vc e;have x:P.length<=gh:=by rw[<- f.length];exact z
  have B:(putK d k v).length<=gh:=by have:=zt d k v;lia
  refine wpAny_setItem_pairs (hsz:=x) (An D) t λJ i C=>h _ ?_;have R:∃q,J.get? a=↑q:=e3a2 i λq _ _ m _=> #[q,m];exact AW I (by rw[e];exact True.intro) C R<|Dr B p (f.put k F) i
 ·subst n o;cases (show u=gF b from D);obtain⟨z,p,S,f,t⟩:=Yv I.vc e;have x:S.length<=gh:=by rw[<- Paired.length f];exact z
  have B:(putK d k v).length<=gh:=by have:=zt d k v;lia
  refine wpAny_setItem_heap (hsz:=x) (kC M) (AE I.vc eb) t λJ i C=>h _ ?_;obtain⟨q,T,U,m,W,Y,Z,_,h5⟩:=i;refine AW I (by rw[e];exact True.intro) C #[q,m] #[B,p,_,(f.put k eb F).keeps λc ys L=>?_,q,T,U,m,W,Y,Z,h5];rw[ui<|X7 L e<|λz=>nomatch z];exact L
def M7(I:Inv X d j H s)(e:H a=↑(.dK b))(m:RelV (kV k) u)(l:(xD b k).isSome=true)(h:∀i,Inv X d j (upd H a<|.dK<|zq b k) i->Q () i) :
  gu (gv X.prog X.w) A (delItem (.ref a) u) Q E s:=by
 obtain⟨z,n,o,c,g⟩:=LP I.vc e
 refine wpAny_delItem_slot g.typeIs q0q qq
  (nj qq g.typeIs PySem.F.entry_dict_delitem (PySem.F.args_dict_delitem_2 _ _) (meets_dict_delitem_pairs (uO X.prog X.w) a<|An m) ⟨o,g,by rw[<- c.length];exact z,by rw[<- (c.val k).xH];exact l,λp f r=>h _ ?_⟩)
 have t:∃q,p.get? a=↑q:=e3a2 f λq _ _ v _=> #[q,v];exact AW I (by rw[e];exact True.intro) r t<|Dr (gW (HW b k) z) n (c.drop k) f
def Yw{b:List cr}(I:Inv X f C H s)(e:H a=↑(.dK c))(m:RelV (kV k) u)(l:xD c k=↑v)(p:b=[]\/∃x,b=[x])
 (h:∀g r,Inv X f C (upd H a<|.dK<|zq c k) r->RelV v g->Q g r):gu (gv X.prog X.w) A (call (.builtin "dict.pop") (.ref a::u::b)) Q E s:=by
  obtain⟨z,D,y,d,B⟩:=LP I.vc e
  obtain⟨g,G,n⟩:=yF.some_of (v:=v) (o:=pN y k) (by rw[<- l];exact d.val k)
  have J:(keyPart u).isSome=true:=by
    cases k with
    |inl i=>obtain⟨t,q⟩:=(show ∃t,u=kO i t from m);subst q;rfl
    |inr x=>obtain⟨t,q⟩:=(show ∃t,u=Value.str x t from m);subst q;rfl
  have L:qQ "dict.pop" #[.ref a::u::b,[]]:=by
    rcases p with q|⟨x,q⟩
    · subst q; exact PySem.F.args_dict_pop_2 _ _
    · subst q; exact PySem.F.args_dict_pop_3 _ _ _
  refine nj qZ B.typeIs PySem.F.entry_dict_pop L (meets_dict_pop_there (uO X.prog X.w) a (An m) b p J)
    #[y,g,B,by rw[<- d.length];exact z,G,λM j N=>h g _ ?_ n]
  have O:∃q,M.get? a=↑q:=e3a2 j λq _ _ P _=> #[q,P]
  exact AW I (by rw[e];exact True.intro) N O<|Dr (gW (HW c k) z) D (d.drop k) j
def Yx(I:Inv X b g H s)(e:Rd H a (.dK d))(h:∀t f,Inv X b g H f->Q (.int d.length t) f):gu (gv X.prog X.w) A (call (.builtin "len") [.ref a]) Q E s:=by obtain⟨z,i,k,c,j⟩:=AV I.vc e;refine call_len_dict i j (by rw[<- c.length];rw[iC]at z;lia) ?_;rw[<- c.length];exact h _ _<|I.tok _
def OK(i:hZ):Prop:=∀a b,qY i false a b=operate [a,b] (nc a b)
def Sr{m:String} 
 (n:mB (.type T) "__getitem__"=pure (some<|.builtin m)) (p:OK slice)
 (h:gu (gv a w) A (eval value g) (λo d=>gu (gv a w) A (eval slice g) (λi b=>b.TypeIs o T/\gu (gv a w) A (nc o i) Q E b) E d) E s) :
    gu (gv a w) A (eval (.Subscript value slice pos) g) Q E s:=by
  refine rZ<|iA h (λo d j=>iA j (λi b c=>?_) λ_ _ x=>x) λ_ _ x=>x
  obtain⟨l,c⟩:=c
  refine am ?_
  rw[getitemInPython_of_ne l.not_modules]
  refine am<|o7 l n ?_
  have f:gu (gv a w) A (qY slice false o i) (λr e=>gu (gv a w) A (letTemporaryGo value o r >>= λ_=>pure r) Q E e) E b:=by
    rw[p o i]
    exact wpAny_operating<|iA c (λr e k=>am<|wpAny_letTemporaryGo<|ap k) λ_ _ x=>x
  first
    | exact ap<|am f
    | exact am<|ap<|am f
    | exact am f
def HX(I:Inv X f h H s)(g:xo H a y o):s.TypeIs (.ref a) "dict":=by
 rcases g with⟨c,k,e,_,_⟩|⟨c,k,b,e,_,_,_⟩
 ·obtain⟨_,_,i,_,d⟩:=AV I.vc e;exact d.typeIs
 ·obtain⟨_,_,j,_,d⟩:=Ck I.vc e;exact d.typeIs
def Yy(d e:TE):TE:=λb H Q=>d b H λx f=>e b f λy c=>∃a v,x=.ref a/\xo c a y ↑v/\Q v c
def a0T(d e:TE):TE:=λb H Q=>d b H λy f=>e b f λx c=>∃a o,x=.ref a/\xo c a y o/\Q (.bl o.isSome) c
def Ss(d e:TE):TE:=λb H Q=>d b H λy f=>e b f λx c=>∃a o,x=.ref a/\xo c a y o/\Q (.bl<|!o.isSome) c
def Yz(d e f:TE):TS:=λD b H=>f b H λv g=>d b g λx h=>e b h λy i=>∃a c,x=.ref a/\FQ i a y v c/\D.nx b c
def YA(e f g:TE)(h:V->V->Hp->VK->Prop):TS:=λD b H=>e b H λx i=>f b i λy c=>∃a v,x=.ref a/\xo c a y ↑v /\
 g b c λj k=>h v j k λz l=>∃d,FQ l a y z d/\D.nx b d
def OM(e f:TE):TS:=λD c H=>e c H λx g=>f c g λy d=>∃a b k,x=.ref a/\d a=↑(.dK b)/\y=kV k/\(xD b k).isSome=true/\D.nx c (upd d a<|.dK<|zq b k)
def FR(k:X.A.units+1<jS)(l:PE X o m)(n:PE X i ty)(p:OK i):PE X (.Subscript o i pos) (Yy m ty):=by intro b s f H Q I h;refine Sr PySem.F.slot_dict_getitem.lookup p<|uY (l b s f H _ I h) λu q c=>e2a3 c λx H1 r t w=>uY (n b q f H1 _ r w) λE G c=>e2a3 c λy H2 j z d=>e2a3 d λa v B g C=>?_;subst B;obtain rfl:u=gF a:=t;exact#[HX j g,E9 k j g z λJ L D e=>#[v,H2,D,e,C]]
def ON(f:X.A.units+1<jS)(j:PE X i ty)(k:PE X o l):PC X .In i o (a0T ty l):=by intro b s e H Q I h;refine uY (j b s e H _ I h) λC m c=>e2a3 c λy H1 n p q=>uY (k b m e H1 _ n q) λu D c=>e2a3 c λx H2 r t d=>e2a3 d λa v w g z=>?_;subst w;obtain rfl:u=gF a:=t;exact a0S f r g p λE B=>#[.bl v.isSome,H2,B,rfl,z]
def BK(f:X.A.units+1<jS)(j:PE X i ty)(k:PE X o l):PC X .NotIn i o (Ss ty l):=by intro b s e H Q I h;refine uY (j b s e H _ I h) λC m c=>e2a3 c λy H1 n p q=>uY (k b m e H1 _ n q) λu D c=>e2a3 c λx H2 r t d=>e2a3 d λa v w g z=>?_;subst w;obtain rfl:u=gF a:=t;exact Sq f r g p λE B=>#[.bl<|!v.isSome,H2,B,rfl,z]
def FS(j:X.A.units+1<jS)(k:PE X o l)(m:PE X i ty)(n:PE X value p)(q:js value (some<|.Subscript o i c) pos.line X.env=pure false) :
  PS X (.Assign [.Subscript o i c] value pos) (Yz l ty p):=by
 intro b s e H D I h;refine wpAny_Assign_Subscript (uY (n b s e H _ I h) λr t d=>e2a3 d λv H1 w z B=>uY (k b t e H1 _ w B) λu C d=>e2a3 d λx H2 E F G=>uY (m b C e H2 _ E G) λP Q d=>e2a3 d λy H3 J L f=>e2a3 f λa H4 M g N=>?_) q;subst M;obtain rfl:u=gF a:=F;exact Fa j J g L z λR O=>#[e,H4,O,N]
def Su(p:X.A.units+1<jS)(t:PE X o w)(B:PE X i ty)(C:PE X value E)(j:Yo X op F)
 (G:∀f d new,augStore i f d new=(do jY [new,f,d] (rH f d new);release [new,f,d] [];pure .next)):PS X (.AugAssign (.Subscript o i q) op value pos) (YA w ty E F):=by
  intro b s e H D I h
  refine rs (uY (t b s e H _ I h) λu J c=>e2a3 c λx H1 L M N=>uY (B b J e H1 _ L N) λd s2 c=>e2a3 c λy H2 O r k=>e2a3 k λa v P g Q=>?_) G
  subst P
  obtain rfl:u=gF a:=M
  refine E9 p O g r λR S T l=>uY (C b S e H2 _ T Q) λU W c=>e2a3 c λY H3 Z m q3=>uY (j b W e H3 v Y R U _ Z l m q3) λw3 s5 c=>e2a3 c λz H4 I5 rz n=>e1a2 n λH5 g5 q4=>?_
  exact Fa p I5 g5 r rz λs6 I6=>#[e,H5,I6,q4]
def FT(j:PE X o m)(n:PE X i ty):PS X (.Delete [.Subscript o i g] pos) (OM m ty):=by intro b s d H D I h;refine wpAny_Delete<|wpAny_deleteEach_cons<|wpAny_delete_Subscript<|uY (j b s d H _ I h) λu p f=>e2a3 f λx H1 q r t=>uY (n b p d H1 _ q t) λF G f=>e2a3 f λy H2 v w c=>e3a5 c λa z k A e B l C=>?_;subst A B;obtain rfl:u=gF a:=r;exact M7 v e w l λJ E=>wpAny_deleteEach_nil #[d,_,E,C]
def HY(h:h8)(a:j7<h.objs.size):vv P w H (h.push { cls:=.type "dict",data:=.dict #v[]}) h.objs.size (.dK []) :=
 #[iz _,beq_eq_false_iff_ne.mpr<|Ne.symm<|gB a,[],.nil,rN h]
def Ds:TE:=λ_ H Q=>∀p,H p=none->Q (.ref p) (upd H p<|.dK [])
def AX:PE X (.Dict [] [] pos) Ds:=λb s c H Q I h =>
 wpAny_Dict_empty #[.ref ⇑s,_,I.laid (a:=⇑s) (o:=.dK []) (t':=s.toks) (λ_ _ q=>ce _ q) (gg _)<|HY s.heap I.big,rfl,h _<|I.vc.fresh<|gg _]
def JE:List (TE×TE)->St->Hp->(List (V×V)->Hp->Prop)->Prop
 | [],_,H,Q=>Q [] H
 | (tk,tv)::r,σ,H,Q=>tk σ H λx H1=>tv σ H1 λy H2=>JE r σ H2 λps H3=>Q ((x,y)::ps) H3
abbrev VV:List (V×V)->List (cr×cr)->Prop:=Paired λp q=>RelV p.1 q.1/\RelV p.2 q.2
def ZZ(X:Cx)(d:Pos)(c:List (Option hZ))(a:List hZ)(e:List (TE×TE)):Prop :=
 ∀(b:List (ci×Obj)) (s:gn) (f:St) (H:Hp) (Q:List (V×V)->Hp->Prop),Inv X b f H s->JE e f H Q ->
  gu (gv X.prog X.w) X.A (evalPairs<|pairTrees c a X.env d) (λi j=>∃g h,Inv X b f h j/\VV g i/\Q g h) X.xe s
def Sv:ZZ X pos [] [] []:=λa s b H Q I h=>pairTrees_nil_walk #[[],H,I,.nil,h]
def OO(e:PE X k f)(g:PE X v i)(j:ZZ X pos l m c) :
  ZZ X pos (↑k::l) (v::m) ((f,i)::c):=λa s d H Q I h =>
 pairTrees_cons_walk (uY (e a s d H _ I h) λu n b=>e2a3 b λx H1 o p q=>uY (g a n d H1 _ o q) λD r b=>e2a3 b λy H2 t w z =>
  uY (j a r d H2 _ t z) λE F b=>e2a3 b λA H3 B rel C=>#[(x,y)::A,H3,B,.cons #[p,w] rel,C])
noncomputable def Dt(b a:List (Key×V)):List (Key×V):=a.foldl (λc d=>putK c d.1 d.2) b
def KV.merge:∀{a:List (Key×V)} {d:List (Key×cr)} {b:List (Key×V)} {c:List (Key×cr)},KV a d->KV b c->KV (Dt b a) (merged c d):=by
 intro a d b c r
 induction r generalizing b c with
 |nil=>intro q;exact q
 | @cons p q i j h t f =>
  intro g
  have e:KV (putK b p.1 p.2) (stored c q.1 q.2):=by have:=g.put p.1 h.2;rw[<- h.1];exact this
  exact f e
def Ao:∀(b a:List (Key×V)),(Dt a b).length<=a.length+b.length
 | [],a=>by show a.length<=a.length+0;lia
 |p::r,a=>by have c:=Ao r<|putK a p.1 p.2;have d:=zt a p.1 p.2;show (Dt (putK a p.1 p.2) r).length<=_;rw[gK];lia
def JF:∀{d:List (Key×V)} {g:List (cr×cr)},VV (d.map λi=>(kV i.1,i.2)) g->∃e,Carries (uO P w) g e/\KV d e:=by
 intro j
 induction j with
 |nil=>intro _ r;rw[oa]at r;cases r;exact#[[],True.intro,.nil]
 |cons p d f =>
  intro _ r;rw[gN]at r
  cases r with
  | @cons a b as bs h t =>
   refine e1a2 (f t) λe c q=>?_;obtain⟨l,k⟩:=b;exact#[(p.1,k)::e,#[An h.1,rfl,c],.cons #[rfl,h.2] q]
def YB(b:List (TE×TE)):TE:=λe H Q=>∀p,H p=none->JE b e (upd H p<|.dK []) λf c=>c p=↑(.dK [])/\∃a:List (Key×V),f=a.map (λd=>(kV d.1,d.2))/\a.length<=15/\Q (.ref p) (upd c p<|.dK<|Dt [] a)
def Sw(h:ZZ X pos keys values i)(b:keys.all (·.isSome)=true)(n:keys.length=values.length)(p:keys≠[])
 (j:keys.length<=15):PE X (.Dict keys values pos) (YB i):=by
  intro d s r H Q I q
  have t:=I.vc.fresh<|gg ⇑s
  have u:=I.laid (a:=⇑s) (o:=.dK []) (h':=s.heap.push { cls:=.type "dict",data:=.dict #v[]}) (t':=s.toks) (λ_ _ q=>ce _ q) (gg _)<|HY s.heap I.big
  refine wpAny_Dict_walk (knd:=uO X.prog X.w) b n p j<|uY (h d _ r _ _ u<|q _ t) λR S v=>e2a4 v λT U m k e l=>e1a3 l λf x lk y=>?_
  subst x
  refine e1a2 (JF (P:=X.prog) (w:=X.w) k) λA c B=>?_
  obtain⟨z,C,D,E,F⟩:=LP m.vc e
  cases E
  refine#[A,c,F,λG g J=>#[.ref ⇑s,_,?_,rfl,y]]
  have L:(Dt [] f).length<=gh:=by
    have M:=Ao f []
    rw[mu]at M
    rw[iC];lia
  have N:∃q,G.get? ⇑s=↑q:=e3a2 g λq _ _ O _=> #[q,O]
  exact AW m (by rw[e];exact True.intro) J N<|Dr L C (B.merge .nil) g
structure M1(X:Cx)(o:hZ)(m:Str)(apos:Pos)(e:hZ)(cpos:Pos):Prop where
 base:hJ o m X.env (eval o X.env)=eval o X.env
 Z0:((iN cpos (gf [e] X.env)).all (λx=>!x.1)&&(mh cpos (jZ [] X.env)).all (λx=>x.1.isSome)
  && decide (([e]:List hZ).length+([]:List oX).length+(if ([]:List oX).isEmpty then 0 else 1)<30))=true
 line:(apos.endLine==cpos.line)=true
 trees:iN cpos (gf [e] X.env)=[(false,eval e X.env)]
structure M2(X:Cx)(o:hZ)(m:Str)(apos:Pos)(e f:hZ)(cpos:Pos):Prop where
 base:hJ o m X.env (eval o X.env)=eval o X.env
 Z0:((iN cpos (gf [e,f] X.env)).all (λx=>!x.1)&&(mh cpos (jZ [] X.env)).all (λx=>x.1.isSome)
  && decide (([e,f]:List hZ).length+([]:List oX).length+(if ([]:List oX).isEmpty then 0 else 1)<30))=true
 line:(apos.endLine==cpos.line)=true
 trees:iN cpos (gf [e,f] X.env)=[(false,eval e X.env),(false,eval f X.env)]
def Z1(H:Hp)(a:ci):Prop:=(∃b,Rd H a<|.dK b)\/∃b,Rd H a<|.dT b
def JG(I:Inv X k l H s)(d:Z1 H a) :
  s.TypeIs (.ref a) "dict"/\(∀b,gF a=.ref b->∃c,s.heap.get? b=↑c/\c.dict=none)/\(a==j7)=false:=by
 rcases d with⟨g,e⟩|⟨g,e⟩
 ·obtain⟨_,h,m,_,f⟩:=AV I.vc e;refine#[f.typeIs,λb q=>?_,h];cases q;obtain⟨c,_,_,i,j,_⟩:=f;exact#[c,i,j.2.1]
 ·obtain⟨_,h,n,_,f⟩:=Ck I.vc e;refine#[f.typeIs,λb q=>?_,h];cases q;obtain⟨c,_,_,i,j,_⟩:=f;exact#[c,i,j.2.1]
def Wg(r:A.units+1<jS)(I:Inv X d t H s)(g:xo H a y o)(n:RelV y u)(h:∀p q,Inv X d t H q->RelV (o.getD .vU) p->Q p q) :
  gu (gv X.prog X.w) A (call (.builtin "dict.get") [.ref a,u]) Q E s:=by
 rcases g with⟨i,k,e,j,l⟩|⟨i,k,b,e,j,eb,l⟩
 ·subst j;obtain⟨z,m,x,c,f⟩:=AV I.vc e;refine nj jG f.typeIs lG (qJ _ _) (meets_dict_get (uO X.prog X.w) a (An n) m) #[_,f.mapOf,h _ _ (I.tok _) ?_];rw[l];exact(c.val k).getD rfl
 ·subst j;cases (show u=gF b from n);obtain⟨z,m,v,c,f⟩:=Ck I.vc e;refine nj jG f.typeIs lG (qJ _ _) (meetsH_dict_get (oA<|uO X.prog X.w) a b m) #[kC r,k,v,AE I.vc eb,f,h _ _ (I.tok _) ?_];rw[l];exact(c.val k).getD rfl
def Wh(x:A.units+1<jS)(I:Inv X f B H s)(g:xo H a y o)(p:RelV y u)(q:RelV d r)(h:∀t v,Inv X f B H v->RelV (o.getD d) t->Q t v) :
  gu (gv X.prog X.w) A (call (.builtin "dict.get") [.ref a,u,r]) Q E s:=by
 rcases g with⟨j,k,e,m,l⟩|⟨j,k,b,e,m,eb,l⟩
 ·subst m;obtain⟨z,n,D,c,i⟩:=AV I.vc e;refine nj jG i.typeIs lG (qK _ _ _) (meets_dict_get_default (uO X.prog X.w) a (An p) n r) #[_,i.mapOf,h _ _ (I.tok _) ?_];rw[l];exact(c.val k).getD q
 ·subst m;cases (show u=gF b from p);obtain⟨z,n,C,c,i⟩:=Ck I.vc e;refine nj jG i.typeIs lG (qK _ _ _) (meetsH_dict_get_default (oA<|uO X.prog X.w) a b n r) #[kC x,k,C,AE I.vc eb,i,h _ _ (I.tok _) ?_];rw[l];exact(c.val k).getD q
def Wi(e f:TE):TE:=λb H Q=>e b H λx c=>∃a,x=.ref a/\Z1 c a/\f b c λy d=>∃o,xo d a y o/\Q (o.getD .vU) d
def Wj(e f g:TE):TE:=λb H Q=>e b H λx c=>∃a,x=.ref a/\Z1 c a/\f b c λy h=>g b h λz d=>∃o,xo d a y o/\Q (o.getD z) d
def Wk(f g:TE):TE:=λc H Q=>f c H λx d=>∃a,x=.ref a/\Z1 d a/\g c d λy e=>∃b k v,e a=↑(.dK b)/\y=kV k/\xD b k=↑v/\Q v (upd e a<|.dK<|zq b k)
def OP(p:X.A.units+1<jS)(q:PE X o r)(t:PE X e ty)(m:M1 X o "get" apos e c):PE X (.Call (.Attribute o "get" apos) [e] [] c) (Wi r ty):=by intro b s l H Q I h;refine qy m.base m.Z0 m.line nq jG q7<|uY (q b s l H _ I h) λu v f=>e2a3 f λx H1 n w i=>e1a3 i λa z d B=>?_;subst z;obtain rfl:u=gF a:=w;refine e0a3 (JG n d) λC D _=>?_;refine#[C,D,?_];rw[m.trees];refine jB rfl<|iZ<|jt<|uY (t b v l H1 _ n B) λM N f=>e2a3 f λy H2 E G j=>e1a2 j λO g J=>kq ?_;exact Wg p E g G λP R L k=>#[_,H2,L,k,J]
def OQ(q:X.A.units+1<jS)(r:PE X o t)(v:PE X e ty)(w:PE X f B)(m:M2 X o "get" apos e f c):PE X (.Call (.Attribute o "get" apos) [e,f] [] c) (Wj t ty B):=by
 intro b s j H Q I h;refine qy m.base m.Z0 m.line nq jG q7<|uY (r b s j H _ I h) λu C i=>e2a3 i λx H1 p D k=>e1a3 k λa E d G=>?_;subst E;obtain rfl:u=gF a:=D;refine e0a3 (JG p d) λJ L _=>?_;refine#[J,L,?_];rw[m.trees]
 refine jB rfl (iZ (jt (uY (v b C j H1 _ p G) λW M i=>e2a3 i λy H2 N O P =>
  jt (uY (w b M j H2 _ N P) λY Z i=>e2a3 i λz H3 R S l=>e1a2 l λov g T=>kq ?_))))
 exact Wh q R g O S λw' s4 U n=>#[_,H3,U,n,T]
def OR(q:PE X o r)(t:PE X e ty)(m:M1 X o "pop" apos e c):PE X (.Call (.Attribute o "pop" apos) [e] [] c) (Wk r ty):=by intro b s n H Q I h;refine qy m.base m.Z0 m.line nq qZ PySem.F.type_dict_pop<|uY (q b s n H _ I h) λu w g=>e2a3 g λx H1 p z i=>e1a3 i λa A d B=>?_;subst A;obtain rfl:u=gF a:=z;refine e0a3 (JG p d) λC D _=>?_;refine#[C,D,?_];rw[m.trees];refine jB rfl<|iZ<|jt<|uY (t b w n H1 _ p B) λP R g=>e2a3 g λy H2 E G f=>e3a4 f λJ k v L M l N=>kq ?_;subst M;exact Yw E L G l (.inl rfl) λS T O j=>#[v,_,O,j,N]
end L2
namespace Att
open PySem PySem.W PySem.Calls PyProof.Rows
def CG:∀(c:List Int)(d:List cr),WellAll P h d (c.map WData.int)->kg d c:=by
 intro c
 induction c with
 |nil =>
  intro d w;rw[oa]at w;cases w;exact .nil
 |cons n c e =>
  intro d w;rw[gN]at w
  cases w with
  |cons a b =>
   cases a;exact .cons _ _<|e _ b
def M8{l:pX}{n:Nat}(o:l.most=↑n) 
 (b:l.row.toRowW.claim.pre args=true) (j:WellAll P h vals args) :
    ∃a m c,vals=[gF a]/\args=[WData.list<|c.map WData.int]/\h.get? a=some { cls:=.type "list",data:=.seq m.toArray}/\kg m c/\c.length<=n:=by
  have k:WShape.hasAll [] args [.list .int]=true:=(pre_splitW b).1
  have p:l.pre.holds [] { args:=args}=true:=(pre_splitW b).2
  obtain⟨d,r,rfl,s,t⟩:=hasAllW_cons k
  obtain rfl:=hasAllW_nil t
  obtain⟨y,rfl,u⟩:=hasW_list s
  obtain⟨c,rfl⟩:=items_int u
  have e:c.length<=n:=by
    have g:(WTm.not<|.lt (.lit<|.int (n:Int))<|.len<|.arg 0).holds [] { args:=[.list<|c.map .int]}=true:=by
      have g:=(holds_andW p).1
      rw[o]at g
      exact g
    have i:=condW_of g<|w_not<|w_lt w_lit<|w_len_list<|w_arg rfl
    rw[gm]at i
    refine qh λq=>?_
    first
      | (rw[decide_eq_true z]at i;exact gA i q0q)
      | (simp at i;omega)
  cases j with
  |cons v w =>
    cases w
    cases v with
    |list x f=>exact#[_,_,c,rfl,rfl,x,CG c _ f,e]
def M9(l:pX)(args:List WData):l.row.toRowW.claim.post args (.bool true) args=true :=
 postW_of (r:=l.row.toRowW) (X:=(true==true))
  (show WShape.has [] (.bool true) .bool=true by first|rfl|decide|simp[WShape.has,WShape.arms,WShape.armsAll])
  (show (WTm.eq .res<|.lit<|.bool true).value [] { args:=args,res:=some<|.bool true,after:=args}=some (.bool<|true==true) from w_eq_bool (w_res rfl) w_lit) rfl
def HZ{l:pX}{n:Nat}{d:DefRec}
 (E:l.most=↑n) (x:d.params.defaults=[])
 (call:∀(w:il)(c b:gn)(s y:Str->Option cr)(j:ci)(o:Obj)(pm t e:cr)(a:ci)(i:List cr)(u:List Int),
 Ground q g [] F w c s y b.heap->H w b.heap ->
 b.heap.get? j=↑o->o.data=.func (docDef d.name d.params d.body d.scope pm t e)->b.heap.CodeRec t d.name->s d.name=↑(.ref j) ->
 b.heap.get? a=some { cls:=.type "list",data:=.seq i.toArray}->kg i u->u.length<=n->b.gens=#v[] ->
 lO (gv l.prog w) qz (.call (.ref j) #[[.ref a],[]]) (λr v=>r=.ok (.ret (.bool true))/\OldK b.heap v.heap/\v.os=b.os/\mE v.gens) b) :
    t7 q g F H l.row.toRowW d [] (λf i=>sN f i):=by
  intro w c b s y G Y j o pm t e I kV J hd z C A L args vals as k D M B N
  obtain rfl:I=.none:=Dflts.none C x
  obtain rfl:kV=.none:=Dflts.noKw C
  obtain⟨a,i,u,rfl,rfl,m,h,p⟩:=M8 E k B
  refine enter_call<|jp (call w c b s y j o pm t e a i u G Y J (fd_plain hd) z A m h p L) λr v O=>?_
  obtain⟨rfl,P,Q,R⟩:=O
  exact#[.inl #[.bool true,.bool true,[],rfl,λ_=>rfl,.bool true,M9 l _,λ_=>#[gS,λ_ S=>(nomatch S)]],P,Q,R]
end Att
namespace L2
open PySem PySem.Spec PyProof.Rows
def Fb:∀{a:List cr} {b:List Int},kg a b->Vals (b.map V.int) a:=by
 intro _ _ z
 induction z with
 |nil=>exact .nil
 |cons n t h c=>exact .cons #[t,rfl] c
noncomputable def vn(s:gV):Arguments:=match s with
 | .FunctionDef _ a _ _ _ _ _ _ _ _=>a
 |_=>{ posonlyargs:=[],args:=[],vararg:=none,kwonlyargs:=[],kw_defaults:=[],kwarg:=none,defaults:=[]}
noncomputable def uP(s:gV):List gV:=match s with
 | .FunctionDef _ _ b _ _ _ _ _ _ _=>b
 |_=>[]
noncomputable def uh(s:gV):lh:=match s with
 | .FunctionDef _ _ _ _ _ _ sc _ _ _=>sc
 |_=>{ kind:=.function,names:=[],isGenerator:=false,isCoroutine:=false}
abbrev OS:Ov:=λ_ _ _ _ _ _=>False
abbrev E0:XK:=λ_ _ _=>False
structure yo(K:ga)(x qual:Str)(st:gV)(f:ci)(fd:hV):Prop where
 ex:∃(oc:cr)(od:Option ci)(kV doc pm:cr)(an:Option ci)(Sy ct:cr) (Na:Array (Option cr)),
  fd=i7 x qual (vn st) (uP st) (uh st) .none kV doc pm an Sy ct/\K.lookup f=some #[oc,od,.func fd,Na]/\iR K Sy qual=true
 kp:iI K (.ref f)=true
section
variable{P:gY}{w:il}{K:ga}{mg:Str->Option cr}{base:h8}
def yo.ok{g:gV}{k:Nat}(F:yo K x c g f o)(S:uq N m (uh g))(i:∀d H Q E,n d H Q E->d.length=m.length)
 (e:∀(b:cr)(A:iW)(a:List Env)(s:gn)(H:Hp)(d:List V)(Q:VK)(E:XK),vM k (A.deeper (nS c (uh g) ⇑s f b))->n d H Q E ->
 ∃t,Ez (vg OS P w K mg base N c (uh g) f b A a s H E).ZU (uP g) t/\t { nx:=λ_ p=>Q .vU p,rt:=Q} (start N d) H):uR P w K mg base OS (k+1) f o m n:=by
  obtain⟨y,z,B,r,C,D,b,G,u,rfl,lk,j⟩:=F.ex
  refine HU lk j S i λA a s H d Q E v l=>?_
  refine e1a2 (e b A a s H d Q E v l) λt h q=>?_
  exact#[t,h.ZU,q]
def yo.binds{d:gV}{ps:List Str}(F:yo K x c d f l)
 (h:∀(e a g:cr)(i:Option ci)(b j:cr)(k:List cr),k.length=ps.length->rW (i7 x c (vn d) (uP d) (uh d) .none e a g i b j) #[k,[]]=pure (ps.zip k)):Binds K l ps []:=by
  obtain⟨o,p,e,a,g,i,b,j,m,rfl,lk,n⟩:=F.ex
  exact .all<|h e a g i b j
def Du{st:gV}{e:cr}(l:K.lookup f=some #[j,m,.func<|i7 x a (vn st) (uP st) (uh st) .none e d pm h b i,g])
 (c:iR K b a=true)(k:iI K (.ref f)=true):yo K x a st f (i7 x a (vn st) (uP st) (uh st) .none e d pm h b i):=#[#[j,m,e,d,pm,h,b,i,g,rfl,l,c],k]
end
def Nb{n:Nat}(h:n<=1000):n<gh:=i8 h q0q
def pv(i:Nat)(b:X.N[i]?=↑x:=by rfl)(c:Vis X.env.scope x:=by first|exact lV rfl|exact tX (lV rfl)|exact tX<|tX rfl)(d:(x==("__debug__":Str))=false:=by decide)
 (a:(x==("__classdict__":Str))=false:=by decide):PE X (.Name x pos) (uT i):=Jh b c d a
def Nc:xZ X (.builtin "len") (λc H Q=>∃a b,c=[V.ref a]/\H a=↑(.dK b)/\Q (.int b.length) H):=by intro d s i H c j Q I r h;obtain⟨a,b,rfl,e,q⟩:=h;obtain⟨u,rfl,f⟩:=vals1 r;cases f;exact Yx I (.inl e) λt k g=>#[.int b.length,H,g,#[t,rfl],q]
def a0U{A B:Prop}(h:A):if true=true then A else B:=by rw[f9 rfl];exact h
def Sz{c A B:Prop}[Decidable c](a:c->A)(b:¬c->B):if c then A else B:=by
 by_cases h:c
 ·rw[f9 h];exact a h
 ·rw[gc h];exact b h
def CH(H a:Hp):Prop:=∀b o,H b=↑o->a b=↑o
def CH.trans{d e:Hp}(a:CH H d)(b:CH d e):CH H e:=λc o h=>b c o<|a c o h
def CH.free(e:CH H a)(h:a l=Option.none):H l=Option.none:=by
 cases q:H l with
 |none=>rfl
 |some o =>
  rw[e l o q]at h;cases h
def CH.seq{K:ga}(e:CH H b)(h:vJ K H a c):vJ K b a c:=by
 rcases h with(h|⟨o,h⟩)|h
 ·exact .inl<|.inl<|e _ _ h
 ·exact .inl<|.inr #[o,e _ _ h]
 ·exact .inr h
end L2
namespace SX
open PySem
def zf(a:Array Nat):Prop:=a.toList.Pairwise (· < ·)
def CP(r:zf c){i j a b:Nat}(d:c.toList[i]?=↑a)(e:c.toList[j]?=↑b)(h:i<j):a<b:=by obtain⟨f,g⟩:=List.getElem?_eq_some_iff.mp d;obtain⟨k,l⟩:=List.getElem?_eq_some_iff.mp e;have:=List.pairwise_iff_getElem.mp r i j f k h;rw[g,l]at this;exact this
def SA(f:Array Nat)(j:Nat)(r:zf f):∀(b d c:Nat),d<=c->c<=f.size->c-d<=b ->
  (∀i a,i<d->f.toList[i]?=↑a->a<j)->(∀i a,c<=i->f.toList[i]?=↑a->j<=a) ->
  mi f j b d c<=f.size/\(∀i a,i<mi f j b d c->f.toList[i]?=↑a->a<j) /\
   (∀i a,mi f j b d c<=i->f.toList[i]?=↑a->j<=a):=by
 intro b
 induction b with
 |zero =>
  intro d c t k u l m;have e:d=c:=by omega
  subst e;exact#[k,l,m]
 |succ b s =>
  intro d c t k u l m;unfold mi;by_cases h:d<c
  ·rw[f9 h];have n:(d+c) / 2<f.size:=by omega
   have g:f.toList[(d+c) / 2]?=↑(f.getD ((d+c) / 2) j):=by rw[hO,ku];rw[iP n];rfl
   by_cases o:f.getD ((d+c) / 2) j<j
   ·rw[f9 o];refine s _ _ q0d k q0d (λi a p e=>?_) m;by_cases q:i=(d+c) / 2
    ·subst q;rw[g]at e;cases e;exact o
    ·have:=CP r e g q0d;omega
   ·rw[gc o];refine s _ _ q0d q0d q0d l<|λi a p e=>?_;by_cases q:i=(d+c) / 2
    ·subst q;rw[g]at e;cases e;omega
    ·have:=CP r g e q0d;omega
  ·rw[gc h];have e:d=c:=by omega
   subst e;exact#[k,l,m]
def yK(r:zf b)(j:Nat):gD b j<=b.size/\(∀i a,i<gD b j->b.toList[i]?=↑a->a<j) /\
  (∀i a,gD b j<=i->b.toList[i]?=↑a->j<=a):=by
 refine SA b j r b.size 0 b.size (iz _) (gg _) q0a (λi a h=>by lia)<|λi a h e=>?_;have:=(List.getElem?_eq_some_iff.mp e).1;rw[gr]at this
 lia
def below_at(r:zf b){i j:Nat}(h:b.toList[i]?=↑j):gD b j=i:=by
 obtain⟨f,c,d⟩:=yK r j;rcases tY (gD b j) i with q|q|q
 ·cases e:b.toList[gD b j]? with
  |none =>
   have:=List.getElem?_eq_none_iff.mp e;have:=(List.getElem?_eq_some_iff.mp h).1
   lia
  |some a =>
   have:=CP r e h q;have:=d _ a (gg _) e
   lia
 ·exact q
 ·have:=c i j q h
  lia
def JH(r:zf b){i j:Nat}(h:b.toList[i]?=↑j):gD b (j+1)=i+1:=by
 obtain⟨f,c,d⟩:=yK r<|j+1;rcases tY (gD b<|j+1) (i+1) with q|q|q
 ·have:=d i j q0a h
  lia
 ·exact q
 ·cases e:b.toList[i+1]? with
  |none =>
   have:=List.getElem?_eq_none_iff.mp e;rw[gr]at this
   lia
  |some a =>
   have:=CP r h e q0a;have:=c (i+1) a q e
   lia
def JI(r:zf b):gD b 0=0:=by
 obtain⟨f,d,g⟩:=yK r 0
 cases e:gD b 0 with
 |zero=>rfl
 |succ k =>
  cases c:b.toList[0]? with
  |none =>
   have:=List.getElem?_eq_none_iff.mp c;rw[gr]at this
   lia
  |some a =>
   have:=d 0 a q0a c
   lia
def toList_erase(a:Array b)(p:Nat):(iv a p).toList=a.toList.take p++a.toList.drop (p+1):=by unfold iv;rw[oY,mj,mj];simp[iQ]
def Dv(a:Array b)(p:Nat)(x:b):(iH a p x).toList=a.toList.take p++x::a.toList.drop p:=by unfold iH;rw[oY,pF,mj,mj];simp[iQ]
def JJ(r:zf a)(p:Nat):zf (iv a p):=by
 unfold zf;rw[toList_erase];refine List.Pairwise.sublist ?_ r
 conv=>rhs;rw[<- r9 p a.toList]
 exact List.Sublist.append (List.Sublist.refl _)<|List.drop_sublist_drop_left _<|kQ p
def OT(r:zf c){j:Nat}(f:j∉c.toList):zf (iH c (gD c j) j):=by
 obtain⟨t,g,h⟩:=yK r j;unfold zf;rw[Dv];have k:(c.toList.take (gD c j)++c.toList.drop (gD c j)).Pairwise (· < ·):=by rw[r9];exact r
 obtain⟨l,m,n⟩:=List.pairwise_append.mp k
 have o:∀a∈c.toList.take (gD c j),a<j:=λa d=>by
  obtain⟨i,e⟩:=kM d;rw[sV]at e;split at e
  ·exact g i a (by assumption) e
  ·cases e
 have p:∀a∈c.toList.drop (gD c j),j<a:=λa d=>by
  obtain⟨i,e⟩:=kM d;rw[sW]at e;have:=h _ a (nW _ i) e;have:j≠a:=λq=>f (by rw[q];exact List.mem_of_mem_drop d)
  lia
 refine List.pairwise_append.mpr #[l,List.pairwise_cons.mpr #[p,m],λa d b s=>?_];rcases List.mem_cons.mp s with q|q
 ·rw[q];exact o a d
 ·exact n a d b q
def Nd{t:jd}(r:zf t.place){j:Nat}(h:∀i,t.slot j≠.live i):j∉t.place.toList:=λa=>by obtain⟨i,e⟩:=kM a;have b:=below_at r e;refine h (gD t.place j) ?_;unfold qr;rw[f9];rw[b,<- hO,e];simp
def JK{t:jd}{h:Int}:∀(b:Nat)(p:ky),(∀d,p.dummy=↑d->∀i,t.slot d≠.live i) ->
  ∀j c,je t o h b p=↑(.empty j c)->∀i,t.slot (c.getD j)≠.live i:=by
 intro b
 induction b with
 |zero=>intro p _ j c e;cases e
 |succ b f =>
  intro p g j c e;unfold je at e
  cases q:t.slot p.j with
  |empty =>
   rw[q]at e;injection e with e;injection e with l m;subst l m
   cases n:p.dummy with
   |none=>intro i z;rw[pM,q]at z;cases z
   |some d=>exact g d n
  |dummy =>
   rw[q]at e;refine f _ (λd a i z=>?_) j c e
   have:d=p.j:=by
    unfold kI at a;split at a
    ·injection a with a;exact a.symm
    ·injection a with a;exact a.symm
   rw[this,q]at z;cases z
  |live k =>
   rw[q]at e;dsimp only at e;split at e
   ·cases e
   ·refine f _ (λd a=>?_) j c e
    have:p.dummy=↑d:=by unfold kI at a;split at a<;>exact a
    exact g d this
set_option tactic.hygienic true in
def H0{t:jd}{h:Int}{j:Nat}{b:Bool}(r:zf t.place)(e:t.freeSlot h=↑(j,b)):j∉t.place.toList:=by
 refine Nd r ?_;unfold o8 qb at e;split at e
 ·rename_i a c f
  injection e with e;injection e with g i;subst g;exact JK _ _ (λd q=>by cases q) a c f
 ·cases e
def BL{c k l:Nat}{d i:Bool}(e:mS c k l d i m=↑(t,n)) :
  zf t.place/\t.led=d/\t.plain=i/\t.mask=c/\t.dummies=#v[]/\t.place.size=n.size:=by
 unfold mS at e
 cases q:o9 c m with
 |none=>rw[q]at e;cases e
 |some j =>
  rw[q]at e;injection e with e;injection e with o p;subst o p;refine#[?_,rfl,rfl,rfl,rfl,q0o];unfold zf;rw[sX];rw[List.pairwise_filterMap];refine oo ?_ rO;intro a b f x r y s
  have g:x=a:=by revert r;cases (j.getD a none)<;>simp;intro z;exact z.symm
  have h:y=b:=by revert s;cases (j.getD b none)<;>simp;intro z;exact z.symm
  subst g h;exact f
noncomputable def N8(m i:Nat):Nat:=(i*5+1)%(m+1)
noncomputable def OU(m:Nat):Nat->Nat->Nat
 | 0,i=>i
 |n+1,i=>OU m n<|N8 m i
noncomputable def orb(m:Nat):Nat->Nat->List Nat
 | 0,_=>[]
 |n+1,i=>i::orb m n (N8 m i)
def FU(m a b i:Nat):OU m (a+b) i=OU m b (OU m a i):=by
 induction a generalizing i with
 |zero=>rw[sd];rfl
 |succ a c=>rw[Nat.succ_add];exact c _
def SE(m:Nat):∀(n i k:Nat),k∈orb m n i->∃a,a<n/\OU m a i=k:=by
 intro n
 induction n with
 |zero=>intro i k h;cases h
 |succ n b =>
  intro i k h;rcases List.mem_cons.mp h with q|q
  ·exact#[0,q0a,q.symm]
  ·obtain⟨a,c,e⟩:=b _ _ q;exact#[a+1,q0a,e]
noncomputable def FV(m:Nat):Bool:=OU m (m+1) 0==0&&(gL<|m+1).all λk=>(orb m (m+1) 0).contains k
def Fc{m:Nat}(h:FV m=true):∀i k,i<=m->k<=m->∃n,n<=m/\OU m n i=k:=by
 obtain⟨d,j⟩:=Bool.and_eq_true_iff.mp h;have d:OU m (m+1) 0=0:=by simpa using d
 have c:∀k,k<=m->∃a,a<m+1/\OU m a 0=k:=λk e=>by have:=List.all_eq_true.mp j k<|List.mem_range.mpr q0d;exact SE m _ _ _ (by simpa using this)
 intro i k l e;obtain⟨a,p,f⟩:=c i l;obtain⟨b,q,g⟩:=c k e;by_cases o:a<=b
 ·refine#[b-a,q0d,?_];rw[<- f,<- FU,show a+(b-a)=b by omega,g]
 ·refine#[m+1-a+b,q0d,?_];rw[<- f,<- FU,show a+(m+1-a+b)=(m+1)+b by omega,FU,d,g]
def Fd{m i:Nat}(h:i<=m):iG m i<=m/\i<=iG m i:=by unfold iG;split<;>lia
set_option tactic.hygienic true in
def SF{m:Nat}:∀(a i p:Nat),i<=m->∀j,iE m c a i p=↑j->j<=m/\c.getD j ↑0=none:=by
 intro a
 induction a with
 |zero=>intro i p _ j e;cases e
 |succ a d =>
  intro i p f j e;unfold iE at e;split at e
  ·rename_i k b
   injection e with e;subst e;have g:=List.find?_some b;have h:=List.mem_range.mp<|List.mem_of_find?_eq_some b;have:=Fd f;refine#[q0d,?_];simpa[Option.isNone_iff_eq_none] using g
  ·dsimp only at e;refine d _ _ ?_ j e;have:=mY (i*5+1+p / 32)<|mK m;exact jx this
set_option tactic.hygienic true in
def JL{m:Nat}{b:Array (Option Nat)}{k:Nat}(d:b.getD k ↑0=none):∀(n a i:Nat),i<=m->n<a->OU m n i=k->∃j,iE m b a i 0=↑j:=by
 intro n
 induction n with
 |zero =>
  intro a i c g e;obtain⟨a,rfl⟩:∃f,a=f+1:=#[a-1,q0a];have e:i=k:=e;subst e;unfold iE;split
  ·exact#[_,rfl]
  ·rename_i q
   have:=List.find?_eq_none.mp q 0<|List.mem_range.mpr (by have:=(Fd c).2;lia);rw[Nat.add_zero,d]at this;exact gA rfl this
 |succ n h =>
  intro a i c g e;obtain⟨a,rfl⟩:∃f,a=f+1:=#[a-1,q0a];unfold iE;split
  ·exact#[_,rfl]
  ·dsimp only
   have l:jA m i 0=(N8 m i,0):=by unfold jA N8;simp
   rw[l];exact h a (N8 m i) (jx<|mY _<|mK m) q0a e
def Nf{m:Nat}{h:Array (Option Nat)}(l:FV m=true){k:Nat}(d:k<=m)(o:h.getD k ↑0=none):∀(c a i p:Nat),i<=m->p<32 ^ c->c+m+1<=a->∃j,iE m h a i p=↑j:=by
 intro c
 induction c with
 |zero =>
  intro a i p g b q;have:p=0:=by rw[Nat.pow_zero]at b;lia
  subst this;obtain⟨n,s,e⟩:=Fc l i k g d;exact JL o n a i g q0a e
 |succ c r =>
  intro a i p g b q;obtain⟨a,rfl⟩:∃f,a=f+1:=#[a-1,q0a];unfold iE;split
  ·exact#[_,rfl]
  ·dsimp only;refine r a _ (p / 32) (jx<|mY _<|mK m) ?_ q0a;rw[Nat.pow_succ]at b;exact sO (by rw[Nat.mul_comm];exact b)
def OV(x:Nat):∀(l:List (Option Nat)) (j:Nat),l[j]?=↑none->((l.set j<|↑x).filterMap id).Perm (x::l.filterMap id):=by
 intro l
 induction l with
 |nil=>intro j h;simp at h
 |cons a l b =>
  intro j h
  cases j with
  |zero =>
   have:a=none:=by simpa using h
   subst this;simp
  |succ j =>
   have c:l[j]?=↑none:=by simpa using h
   cases a with
   |none=>simpa using b j c
   |some y =>
    have:=b j c;exact(nX y this).trans<|List.Perm.swap x y _
def has_none:∀(l:List (Option Nat)),(l.filterMap id).length<l.length->∃j:Nat,l[j]?=↑none:=by
 intro l
 induction l with
 |nil=>intro h;simp at h
 |cons a l b =>
  intro h
  cases a with
  |none=>exact#[0,rfl]
  |some y =>
   obtain⟨j,e⟩:=b (by simpa using h);exact#[j+1,by simpa using e]
def LQ(h:Int):iJ h<32 ^ 13:=by
 have a:(h%(2 ^ 64:Int)).toNat<2 ^ 64:=by lia
 exact gG a q0q
def OX{m:Nat}(w:FV m=true):∀(c:List Int) (a:Array (Option Nat)) (k:Nat),a.size=m+1->(a.toList.filterMap id).Perm (gL k)->k+c.length<=m ->
  ∃b,(c.foldl (init:=↑(a,k)) λi h=>do
   let (owner,k) <- i
   let j <- iE m owner (jT m) (iJ h%(m+1)) (iJ h)
   pure (owner.setIfInBounds j ↑k,k+1))=↑(b,k+c.length)/\b.size=m+1/\(b.toList.filterMap id).Perm (gL (k+c.length)):=by
 intro c
 induction c with
 |nil=>intro a k d g r;exact#[a,rfl,d,g]
 |cons h c x =>
  intro a k d g r
  have e:(a.toList.filterMap id).length<a.toList.length:=by
   rw[g.length_eq,kD,gr,d]
   lia
  obtain⟨s,t⟩:=has_none _ e
  have l:s<m+1:=by have:=(List.getElem?_eq_some_iff.mp t).1;rw[gr,d]at this;exact this
  have n:a.getD s ↑0=none:=by rw[ku,<- hO,t];rfl
  have u:iJ h%(m+1)<=m:=jx<|mY _<|mK m;obtain⟨j,v⟩:=Nf w (jx l) n 13 (jT m) (iJ h%(m+1)) (iJ h) u (LQ h) (by unfold jT;lia);obtain⟨y,f⟩:=SF _ _ _ u j v
  have o:a.toList[j]?=↑none:=by
   rw[ku]at f;rw[hO]
   cases q:a[j]? with
   |none=>rw[q]at f;cases f
   |some z=>rw[q]at f;have p:z=none:=f;rw[p]
  obtain⟨b,A,B,C⟩:=x (a.setIfInBounds j ↑k) (k+1) (by rw[Array.size_setIfInBounds];exact d) (by
   rw[Array.toList_setIfInBounds];refine(OV k _ _ o).trans<|(nX k g).trans ?_;rw[List.range_succ]
   exact(lZ (l₁:=[k]) (l₂:=gL k))) (by simp at r;lia)
  refine#[b,?_,B,?_]
  ·rw[lv]
   have:(do
     let (owner,k) <- some (a,k)
     let j <- iE m owner (jT m) (iJ h%(m+1)) (iJ h)
     pure (owner.setIfInBounds j ↑k,k+1))=↑(a.setIfInBounds j (some k),k+1):=by
    show (iE m a (jT m) (iJ h%(m+1))<|iJ h).bind _=_;rw[v];rfl
   rw[this,A];simp only[gK];congr 2
   lia
  ·rw[gK,show k+(c.length+1)=k+1+c.length by lia];exact C
def Ng(l:List (Option Nat)):(gL l.length).map (λj=>l.getD j none)=l:=by
 apply pO;intro i;by_cases h:i<l.length
 ·simp[iO,h]
 ·rw[List.getElem?_eq_none_iff.mpr (by simpa using qh h),List.getElem?_eq_none_iff.mpr<|qh h]
def BM{m fg mv:Nat}{led pl:Bool}{hs:Array Int}(c:FV m=true)(d:hs.size<=m):∃t b,mS m fg mv led pl hs=↑(t,b)/\b.toList.Perm (gL hs.size):=by
 obtain⟨a,e,s,p⟩:=OX c hs.toList (Array.replicate (m+1) none) 0 q0o q0o (by simpa using d)
 have f:o9 m hs=↑a:=by unfold o9;rw[<- Array.foldl_toList];exact congrArg (sE Prod.fst) e
 refine#[_,_,by unfold mS;rw[f];rfl,?_];rw[sX]
 have q:(gL<|m+1).filterMap (λj=>sE (λx:Nat×Nat=>x.2)<|sE (λx=>(j,x))<|a.getD j none)=a.toList.filterMap id:=by
  conv=>rhs;rw[<- Ng a.toList]
  rw[sU,gr,s];congr 1
  funext j
  simp only[tP,id,Option.map_map];rw[ku,iO,hO];cases (a[j]?.getD none)<;>rfl
 refine List.Perm.trans (sF q) ?_;simpa using p
def picked{es:Array (Int×cr)}{a:Array Nat}(h:a.toList.Perm (gL es.size)):(a.filterMap (es[·]?)).toList.Perm es.toList:=by
 rw[Array.toList_filterMap];refine(List.Perm.filterMap _ h).trans<|sF ?_;apply pO;intro i
 have:(gL es.size).filterMap (λx=>es[x]?)=es.toList:=by
  have e:(gL es.size).filterMap (λx=>es[x]?)=(gL es.toList.length).filterMap (λx=>es.toList[x]?):=by simp
  rw[e];exact List.filterMap_getElem?_range_length es.toList
 rw[this]
def a0W:FV 7=true:=by decide +kernel
def YC:FV 15=true:=by decide +kernel
def YD:FV 31=true:=by decide +kernel
def YE:FV 63=true:=by decide +kernel
def Wl:FV 127=true:=by decide +kernel
def Wm:FV 255=true:=by decide +kernel
def Wn:FV 511=true:=by decide +kernel
def RT(t:jd)(h:Int)(a:Nat)(p:ky):Prop:=∃j d,je t (λ_=>h+1) h a p=↑(.empty j d)
noncomputable def begin_(m i a:Nat)(b:Option Nat):ky:={ j:=i,more:=iG m i-i,i:=i,perturb:=a,dummy:=b}
def LR{h:Int}:∀(k a:Nat)(p:ky),p.more=k->(∀b,RT t h a<|begin_ t.mask (jA t.mask p.i p.perturb).1 (jA t.mask p.i p.perturb).2 b)->RT t h (a+k+1) p:=by
 intro k
 induction k with
 |zero =>
  intro a p g d
  have c:∀b,t.advance { p with dummy:=b}=begin_ t.mask (jA t.mask p.i p.perturb).1 (jA t.mask p.i p.perturb).2 b:=λb=>by unfold kI;rw[gc<|by show ¬p.more>0;lia];rfl
  unfold RT je
  cases q:t.slot p.j with
  |empty=>exact#[_,_,rfl]
  |dummy=>dsimp only;rw[c];exact d _
  |live i =>
   dsimp only;rw[gc<|by simp;lia];have:=c p.dummy;have e:({ p with dummy:=p.dummy}:ky)=p:=rfl;rw[e]at this;rw[this];exact d _
 |succ k l =>
  intro a p g d
  have f:∀b,RT t h (a+k+1) (t.advance { p with dummy:=b}):=λb=>by
   have e:t.advance { p with dummy:=b}={ p with j:=p.j+1,more:=p.more-1,dummy:=b}:=by unfold kI;rw[f9<|by show p.more>0;lia]
   rw[e];exact l a _ (by show p.more-1=k;lia) d
  unfold RT je
  cases q:t.slot p.j with
  |empty=>exact#[_,_,rfl]
  |dummy=>exact f _
  |live i =>
   dsimp only;rw[gc<|by simp;lia];exact f p.dummy
def SG{t:jd}{h:Int}{p:ky}(e:t.slot p.j=.empty)(a:Nat):RT t h (a+1) p:=by unfold RT je;rw[e];exact#[_,_,rfl]
def LS(m i:Nat):iG m i-i<=9:=by unfold iG;split<;>lia
def a0X{t:jd}{h:Int}{k:Nat}(d:t.slot k=.empty):∀(n i a:Nat),OU t.mask n i=k->10*(n+1)<=a->∀c,RT t h a (begin_ t.mask i 0 c):=by
 intro n
 induction n with
 |zero =>
  intro i a e g c;obtain⟨f,rfl⟩:∃f,a=f+1:=#[a-1,q0a];subst e;exact SG d f
 |succ n j =>
  intro i a e g c;have m:=LS t.mask i
  have z:=LR (t:=t) (h:=h) (iG t.mask i-i) (a-(iG t.mask i-i)-1) (begin_ t.mask i 0 c) rfl (λb=>by
   have l:jA t.mask i 0=(N8 t.mask i,0):=by unfold jA N8;simp
   show RT t h _ (begin_ t.mask (jA t.mask i 0).1 (jA t.mask i 0).2 b);rw[l]
   exact j (N8 t.mask i) _ e q0a b)
  rw[show a-(iG t.mask i-i)-1+(iG t.mask i-i)+1=a by lia]at z;exact z
def a0Y{t:jd}{h:Int}{k:Nat}(m:FV t.mask=true)(g:k<=t.mask)(o:t.slot k=.empty):∀(c i b a:Nat),i<=t.mask->b<32 ^ c->10*(c+t.mask+1)<=a->∀d,RT t h a (begin_ t.mask i b d):=by
 intro c
 induction c with
 |zero =>
  intro i b a l f p d;have:b=0:=by rw[Nat.pow_zero]at f;lia
  subst this;obtain⟨n,r,e⟩:=Fc m i k l g;exact a0X o n i a e q0a d
 |succ c q =>
  intro i b a l f p d;have s:=LS t.mask i
  have z:=LR (t:=t) (h:=h) (iG t.mask i-i) (a-(iG t.mask i-i)-1) (begin_ t.mask i b d) rfl (λj=>by
   refine q _ _ _ (jx<|mY _<|mK _) ?_ q0a j;rw[Nat.pow_succ]at f
   exact sO (by rw[Nat.mul_comm];exact f))
  rw[show a-(iG t.mask i-i)-1+(iG t.mask i-i)+1=a by lia]at z;exact z
def yu[DecidableEq d]:∀(l m:List d),l.Nodup->(∀x∈l,x∈m)->l.length<=m.length:=by
 intro l
 induction l with
 |nil=>intro m _ _;exact iz _
 |cons x r e =>
  intro m f b;obtain⟨g,h⟩:=List.nodup_cons.mp f;have a:=b x gk;have i:=e (m.erase x) h λy c=>(List.mem_erase_of_ne<|λ(z:y=x)=>g<|by rw[<- z];exact c).mpr<|b y<|gl _ c;rw[List.length_erase_of_mem a]at i;have:0<m.length:=List.length_pos_of_mem a;rw[gK];omega
def Ia(l:List Nat)(m:Nat)(h:l.length<=m):∃j,j<=m/\j∉l:=by
 refine qc λb=>?_;have a:∀j,j<=m->j∈l:=λj c=>qc λq=>b #[j,c,q];have:=yu (gL<|m+1) l List.nodup_range λx d=>a x<|jx<|List.mem_range.mp d;rw[kD]at this
 lia
def JM{t:jd}{n:Nat}(e:t.fits n=true):∃j,j<=t.mask/\t.slot j=.empty:=by
 have c:t.place.size+t.dummies.size<=t.mask:=by simp only[tQ,hR,hX]at e;exact e.2
 obtain⟨j,f,d⟩:=Ia (t.place.toList++t.dummies.toList) t.mask (by simpa using c);refine#[j,f,?_];rw[ko,oZ]at d
 have b:∀(a:Array Nat),j∉a.toList->(a[gD a j]?==↑j)=false:=λa g=>by
  cases q:a[gD a j]? with
  |none=>rfl
  |some x =>
   have h:x∈a.toList:=by rw[<- hO]at q;exact jg q
   have:x≠j:=λz=>g<|z▸h;simp[this]
 unfold qr;dsimp only;rw[b _ d.1];unfold jN;rw[b _ d.2];rfl
def EE{t:jd}{n:Nat}(c:FV t.mask=true)(f:t.fits n=true)(h:Int):∃j b,t.freeSlot h=↑(j,b):=by obtain⟨k,a,g⟩:=JM f;obtain⟨j,d,e⟩:=a0Y (h:=h) c a g 13 (iJ h%(t.mask+1)) (iJ h) (10*jT t.mask) (jx<|mY _<|mK _) (LQ h) (by unfold jT;lia) none;refine⟨d.getD j,d.isSome,?_⟩;unfold o8 qb SetTable.probeStart;have l:je t (λ_=>h+1) h (10*jT t.mask) { j:=iJ h%(t.mask+1),more:=iG t.mask (iJ h%(t.mask+1))-iJ h%(t.mask+1),i:=iJ h%(t.mask+1),perturb:=iJ h,dummy:=none}=↑(.empty j d):=e;rw[l]
def Ib{t:jd}{h:Int}:∀(b:Nat)(p:ky),(∀d,p.dummy=↑d->jN t.dummies d=true) ->
  ∀j d,je t l h b p=↑(.empty j<|some d)->jN t.dummies d=true:=by
 intro b
 induction b with
 |zero=>intro p _ j d e;cases e
 |succ b f =>
  intro p g j d e;unfold je at e
  cases q:t.slot p.j with
  |empty =>
   rw[q]at e;injection e with e;injection e with m i;exact g d i
  |dummy =>
   rw[q]at e;refine f _ (λc a=>?_) j d e
   have:c=p.j:=by
    unfold kI at a;split at a
    ·injection a with a;exact a.symm
    ·injection a with a;exact a.symm
   rw[this];unfold qr at q;dsimp only at q;split at q
   ·cases q
   ·split at q
    ·assumption
    ·cases q
  |live k =>
   rw[q]at e;dsimp only at e;split at e
   ·cases e
   ·refine f _ (λc a=>?_) j d e
    have:p.dummy=↑c:=by unfold kI at a;split at a<;>exact a
    exact g c this
set_option tactic.hygienic true in
def Dw{t:jd}{h:Int}{j:Nat}(e:t.freeSlot h=↑(j,true)):jN t.dummies j=true:=by
 unfold o8 qb at e;split at e
 ·rename_i a b c
  injection e with e;injection e with f g
  cases b with
  |none=>cases g
  |some d =>
   subst f;exact Ib _ _ (λd q=>by cases q) a d c
 ·cases e
def OY{j:Nat}(h:jN a j=true):gD a j<a.size:=by
 unfold jN at h;have b:a[gD a j]?=↑j:=by simpa using h
 exact(Array.getElem?_eq_some_iff.mp b).1
def AF(a:Array b)(p:Nat)(h:p<a.size):(iv a p).size=a.size-1:=by
 rw[<- gr,toList_erase,gz,kS,l8,gr]
 lia
def yw(a:Array b)(p:Nat)(x:b):(iH a p x).size=a.size+1:=by rw[<- gr,Dv,gz,gK,kS,l8,gr];omega
def xg{t:jd}{n:Nat}:t.fits n=true↔t.place.size=n/\t.place.size+t.dummies.size<=t.mask:=by unfold tQ kd;simp
def Good(m:Nat):Prop:=m=7\/m=15\/m=31\/m=63\/m=127\/m=255\/m=511
def Good.FV{m:Nat}(h:Good m):FV m=true:=by
 rcases h with q|q|q|q|q|q|q<;>rw[q]
 ·exact a0W
 ·exact YC
 ·exact YD
 ·exact YE
 ·exact Wl
 ·exact Wm
 ·exact Wn
def Dx{n:Nat}(h:n<=511):Good (ie n-1)/\n<ie n:=by
 have q:((gL 512).all λn=>[8,16,32,64,128,256,512].contains (ie n)&&decide (n<ie n))=true:=by decide +kernel
 have q:=List.all_eq_true.mp q n<|List.mem_range.mpr q0a;obtain⟨q1,q2⟩:=Bool.and_eq_true_iff.mp q;refine#[?_,by simpa using q2];have q1:ie n=8\/ie n=16\/ie n=32\/ie n=64\/ie n=128\/ie n=256\/ie n=512:=by simpa using q1
 rcases q1 with e|e|e|e|e|e|e<;>rw[e]<;>unfold Good<;>decide
structure YF(t:jd)(n:Nat):Prop where
 fits:t.fits n=true
 rise:zf t.place
 plain:t.plain=true
 good:Good t.mask
 room:t.fill*5<t.mask*3
set_option tactic.hygienic true in
def SH{t:jd}{c:Array (Int×cr)}{h:Int}{x:cr}(k:YF t c.size)(q:c.size<=126) :
  ∃d g,layNew t c h x=(iH c (gD t.place ((t.freeSlot h).getD (0,false)).1) (h,x),d,g,false)/\d.led=t.led/\d.plain=true/\d.fits (c.size+1)=true/\zf d.place/\Good d.mask/\(g=true->d.fill*5<d.mask*3):=by
 obtain⟨j,b,e⟩:=EE k.good.FV k.fits h;obtain⟨n,r⟩:=xg.mp k.fits;have f:=k.room;unfold kd at f
 have l:(if jN t.dummies j=true then iv t.dummies (gD t.dummies j) else t.dummies).size<=t.dummies.size/\(b=true->(if jN t.dummies j=true then iv t.dummies (gD t.dummies j) else t.dummies).size+1<=t.dummies.size):=by
  split
  ·rename_i i
   rw[AF _ _<|OY i];have:=OY i;exact⟨q0a,λ_=>by lia⟩
  ·rename_i i
   refine#[gg _,λm=>?_];subst m;exact gA (Dw e) i
 have a:(t.put j).1.fits (c.size+1)=true:=by
  refine xg.mpr #[?_,?_]
  ·show (iH t.place (gD t.place j) j).size=_;rw[yw,n]
  ·show (iH t.place (gD t.place j) j).size+(if jN t.dummies j=true then iv t.dummies (gD t.dummies j) else t.dummies).size<=t.mask;rw[yw]
   lia
 refine#[(t.put j).1,b,?_,rfl,k.plain,a,OT k.rise<|H0 k.rise e,k.good,λm=>?_]
 ·unfold layNew;rw[e];dsimp only;have o:(t.put j).2=gD t.place j:=rfl;have p:(iH c (gD t.place j) (h,x)).size=c.size+1:=yw _ _ _;rw[o,p];unfold SetTable.orStandIn;rw[f9 a,a];rfl
 ·have:=l.2 m;show ((iH t.place (gD t.place j) j).size+(if jN t.dummies j=true then iv t.dummies (gD t.dummies j) else t.dummies).size)*5<t.mask*3;rw[yw]
  lia
def Nh{t:jd}{es:Array (Int×cr)}(v:1<=es.size)(h:es.size<=127)(m:t.plain=true):∃a c,se t es (lx es.size)=(a,c,false)/\a.toList.Perm es.toList/\YF c a.size/\c.led=t.led:=by
 have o:lx es.size=es.size*4:=by unfold lx;rw[gc q0a]
 obtain⟨j,w⟩:=Dx (n:=es.size*4) q0a;obtain⟨c,f,e,p⟩:=BM (fg:=t.finger) (mv:=t.movedTo<|ie (es.size*4)-1) (led:=t.led) (pl:=t.plain) (hs:=es.map (·.1)) j.FV (by rw[lM];lia);obtain⟨q,r,s,g,k,i⟩:=BL e;rw[lM]at p;have l:=picked p;have u:(f.filterMap (es[·]?)).size=es.size:=by rw[<- gr,l.length_eq,gr]
 have b:f.size=es.size:=by rw[<- gr,p.length_eq,kD]
 have d:c.fits (f.filterMap (es[·]?)).size=true:=by
  refine xg.mpr #[by rw[i,u,b],?_];rw[i,k,b,g];show es.size+0<=_
  lia
 refine#[f.filterMap (es[·]?),c,?_,l,#[d,q,s.trans m,by rw[g];exact j,?_],r]
 ·unfold se;rw[o];unfold SetTable.relaid;rw[e];dsimp only;rw[f9];rw[d,Bool.and_true];exact List.isPerm_iff.mpr p
 ·unfold kd;rw[i,k,b,g];show (es.size+0)*5<_
  lia
open PyProof.Rows
def x8(e:Int×cr)(k:Int):Prop:=e.1=mD k/\∃t,e.2=kO k t
noncomputable abbrev wF(a:Array (Int×cr))(b:Nat)(t:jd):Obj:={ cls:=.type "set",dict:=none,data:=.set a b t,slots:=#v[]}
structure Vf(w:il)(es:Array (Int×cr))(t:jd)(ks:List Int):Prop where
 ent:Paired x8 es.toList ks
 nd:ks.Nodup
 small:es.size<=127
 tab:YF t es.size
 led:w.params.followText "set-order"=true\/t.led=true
def yL{n:Nat}(h:n<=127):n<scanBound:=by have e:scanBound=4096:=rfl;rw[e];lia
def xN{n:Nat}(h:n<=127):n<=gh:=fits_of_scanBound<|yL h
def vi(w:il)(a:ci)(c:List Int)(h:h8):Prop:=∃b d t,h.get? a=↑(wF b d t)/\Vf w b t c
def xh{k n:Type}{F:k->n->Prop}{l o:List k}(p:l.Perm o):∀{m:List n},Paired F l m->∃e,m.Perm e/\Paired F o e:=by
 induction p with
 |nil=>intro m h;exact#[m,.refl _,h]
 |cons x _ q =>
  intro m h
  cases h with
  |cons a b =>
   refine e1a2 (q b) λe f g=>?_;exact#[_,.cons _ f,.cons a g]
 |swap x y l =>
  intro m h
  cases h with
  |cons a b =>
   cases b with
   |cons c d=>exact#[_,.swap _ _ _,.cons c<|.cons a d]
 |trans _ _ i j =>
  intro m h;refine e1a2 (i h) λu f g=>?_;refine e1a2 (j g) λr s t=>?_;exact#[r,f.trans s,t]
def FW:∀{g:List (Int×cr)} {h:List Int},Paired x8 g h->∀k,(k∈h↔∃e∈g,l9 k e.2=true):=by
 intro o p l
 induction l with
 |nil=>intro k;simp
 | @cons e j _ _ m r b =>
  intro k;have n:=b k;obtain⟨_,t,c⟩:=m
  have i:l9 k e.2=true↔k=j:=by rw[c];simp[l9];exact eq_comm
  rw[gO,n];constructor
  ·rintro(z|⟨d,f,a⟩)
   ·exact#[e,gk,i.mpr z]
   ·exact#[d,gl _ f,a]
  ·rintro⟨d,f,a⟩;rcases List.mem_cons.mp f with z|z
   ·rw[z]at a;exact .inl<|i.mp a
   ·exact .inr #[d,z,a]
def BN{a:gY}{w:il}:∀{d:List (Int×cr)} {g:List Int},Paired x8 d g->ElemsOf (jI a w) d:=by
 intro l m h
 induction h with
 |nil=>exact λe b=>by cases b
 | @cons x j _ _ i r c =>
  intro e b;rcases List.mem_cons.mp b with z|z
  ·subst z;obtain⟨k,t,f⟩:=i;refine#[#[j,?_,k],?_]
   ·rw[f];exact o4 _ _ _ _
   ·rw[f];rfl
  ·exact c e z
def LU(h:Paired x8 a b):a.length=b.length:=Paired.length h
def Vf.size{w:il}{a:Array (Int×cr)}{t:jd}{b:List Int}(h:Vf w a t b):a.size=b.length:=by rw[<- gr];exact LU h.ent
def vi.nodup(x:vi w a b h):b.Nodup:=by refine e3a2 x λc d t e k=>?_;exact k.nd
def vi.of{b:gY}{w:il}{a:ci}{c:List Int}{h:h8}(x:vi w a c h):h.SetOf (jI b w) a (λk=>decide<|k∈c) c.length:=by refine e3a2 x λd f t e k=>?_;exact#[_,d,f,t,e,#[rfl,rfl,rfl],rfl,BN k.ent,λj=>by rw[hX];exact FW k.ent j,yL k.small,k.tab.fits,k.size]
def vi.keep{b:h8}(x:vi w a c h)(k:∀o,h.get? a=↑o->b.get? a=↑o):vi w a c b:=by refine e3a2 x λd f t e r=>?_;exact#[d,f,t,k _ e,r]
def vi.lt(x:vi w a b h):a<h.objs.size:=by refine e3a2 x λc d t e r=>?_;exact gp e
def vi.typeIs{w:il}{a:ci}{b:List Int}{s:gn}(x:vi w a b s.heap):s.TypeIs (.ref a) "set":=by refine e3a2 x λc d t e r=>?_;exact#[_,e,rfl]
def SJ{h:h8}{a:ci}{f b:Array (Int×cr)}{d:Nat}{t c:jd}(e:h.get? a=↑(wF f d t)):(h.update a<|Obj.putSet b c).get? a=↑(wF b (d+1) c):=by have z:=ii (Obj.putSet b c) e (by rw[putSet_of b c rfl];rfl);rw[putSet_of b c rfl]at z;exact z
def zV{i b:Array (Int×cr)}{d:Nat}{t f:jd}{Q:Unit->gn->Prop}(e:s.heap.get? a=↑(wF i d t))(j:b.size<=gh)
  (h:∀c,iu a s.heap c->c.get? a=↑(wF b (d+1) f)->Q () { s with heap:=c}):gu (gv g w) A (sf a b f) Q E s :=
 wpAny_storeSet_of e rfl (h _ (nN ..)<|SJ e) j
set_option tactic.hygienic true in
def Vg{k:Int}{u:Tok}{Q:Bool->gn->Prop}(S:vi w a i s.heap)(room:i.length+1<=127)
  (h:∀l C,iu a s.heap l->vi w a C l->C.Perm (if k∈i then i else k::i)->Q (!decide (k∈i)) { s with heap:=l}) :
  gu (gv b w) A (setAddHashed a (.int k u)<|mD k) Q E s:=by
 refine e3a2 S λm ep t e K=>?_;have el:ElemsOf (jI b w) m.toList:=BN K.ent;have hk:(jI b w).is k (.int k u)=true:=o4 _ _ _ _;have D:(jI b w).hash k=mD k:=rfl;refine g8<|am<|iF e rfl K.tab.fits ?_;dsimp only;rw[byScan_of (knd:=jI b w) rfl (yL K.small) el,f9 rfl];refine am<|am<|lj<|am ?_;rw[<- D];refine wpAny_setScan_of (knd:=jI b w) hk e rfl K.tab.fits el ?_;have F:=FW K.ent k
 cases hr:rc (λe=>(jI b w).is k e.2) m.toList with
 |some j =>
  refine e1a2 (List.findIdx?_eq_some_iff_getElem.mp hr) λhj hp _=>?_;have G:k∈i:=F.mpr #[_,tZ hj,hp];have z:=h s.heap i (k8 a s.heap) #[m,ep,t,e,K] (by rw[f9 G]);rw[decide_eq_true G]at z;exact ap<|ap z
 |none =>
  have f:k∉i:=λq=>by refine e1a2 (F.mp q) λx hx P=>?_;have:=List.findIdx?_eq_none_iff.mp hr x hx;rw[show (jI b w).is k x.2=true from P]at this;cases this
  have R:m.size<=126:=by rw[K.size];lia
  obtain⟨o,H,le,ll,I,lf,lr,lg,ld⟩:=SH (h:=mD k) (x:=.int k u) K.tab R;have J:=layNew_perm t m (mD k)<|.int k u;rw[D];rw[le]at J ⊢;generalize iH m (gD t.place ((t.freeSlot<|mD k).getD (0,false)).1) (mD k,kO k u)=c at J ⊢;rw[pF]at J;have p1:Paired x8 ((mD k,kO k u)::m.toList) (k::i):=.cons ⟨rfl,u,rfl⟩ K.ent;refine e1a2 (xh (J.trans lZ).symm p1) λT pk pe=>?_;have U:c.size=m.size+1:=by rw[<- gr,J.length_eq];simp
  rw[<- U]at lf;have p:c.size<=127:=by lia
  have W:T.Nodup:=pk.nodup_iff.mp<|List.nodup_cons.mpr #[f,K.nd];have g:c.size<=gh:=xN p
  -- ab the end wants,for any sY of X entries
  have L:∀(l:h8) (d:Array (Int×cr)) (v:Nat) (B:jd),iu a s.heap l->l.get? a=↑(wF d v B)->d.toList.Perm c.toList->YF B d.size->B.led=t.led->Q true { s with heap:=l}:=by
   intro l d v B sb Y pp f2 l2;refine e1a2 (xh pp.symm pe) λZ q1 q2=>?_;have hs:d.size=c.size:=by rw[<- gr,pp.length_eq,gr]
   have z:=h l Z sb #[d,v,B,Y,q2,q1.nodup_iff.mp W,by rw[hs];exact p,f2,by rw[l2];exact K.led] (by rw[gc f];exact q1.symm.trans pk.symm);rw[gH f]at z;exact z
  refine am<|ap ?_
  have n:gu (gv b w) A (do
    sf a c o
    if (!H&&o.tooFull)=true then do
      (match (se o c<|lx c.size).2.2 with|true=>rule "set.scan.the-table-gave-way" |false=>pure ())
      sf a (se o c<|lx c.size).1 (se o c<|lx c.size).2.1
      pure ↑true
     else pure ↑true) (λr M=>gu (gv b w) A (match r with|some y=>pure y|none=>setAddHashedIn a (.int k u) (mD k) 99999) Q E M) E s:=by
   refine am<|zV e g λh1 N o1=>?_;split
   ·refine e2a4 (Nh (t:=o) (es:=c) q0a p I) λd B re rp rt rl=>?_;rw[re];refine am<|ap<|am<|zV (s:={ s with heap:=h1}) o1 ?_ λh2 aa Y=>ap<|ap<|L h2 _ _ _ (N.trans aa) Y rp rt<|rl.trans ll;have:d.size=c.size:=by rw[<- gr,rp.length_eq,gr]
    rw[this];exact g
   ·rename_i O
    refine ap<|ap<|L h1 _ _ _ N o1 (.refl _) #[lf,lr,I,lg,?_] ll
    cases H with
    |true=>exact ld rfl
    |false =>
     have:o.tooFull=false:=by simpa using O
     unfold SetTable.tooFull at this;simpa using this
  split
  ·rw[hashByValue_scannable 8 rfl];exact am<|ap n
  ·exact am<|ap n
def Vh{k:Int}(S:vi w a c s.heap)(room:c.length+1<=127)
 (h:∀d b f,iu a s.heap d->vi w a b d->b.Perm (if k∈c then c else k::c)->s.toks<=f->Q (!decide (k∈c)) { s with heap:=d,toks:=f}) :
    gu (gv e w) A (setAdd a<|.int k u) Q E s:=by
  refine g8<|am<|(jI e w).pyHash (k:=k) (o4 _ _ _ _) ?_
  exact Vg (s:={ s with toks:=s.toks+1}) S room λd b g i p=>h d b _ g i p<|kQ _
def OZ{a:Array (Int×cr)}{k:Int}:∀{b:List Int},Paired x8 a.toList b->b.Nodup->∀{j:Nat},rc (λe=>(jI prog w).is k e.2) a.toList=↑j->b[j]?=↑k:=by
 intro b P _ j f;refine e1a2 (List.findIdx?_eq_some_iff_getElem.mp f) λg h _=>?_
 have:∀{a:List (Int×cr)} {b:List Int},Paired x8 a b->∀(j:Nat)(e:Int×cr),a[j]?=↑e->∃d,b[j]?=↑d/\x8 e d:=by
  intro a b P
  induction P with
  |nil=>intro j e z;simp at z
  |cons x _ i =>
   intro j e z
   cases j with
   |zero =>
    have l:=iq z;subst l;exact#[_,rfl,x]
   |succ j=>exact i j e (by simpa using z)
 obtain⟨d,m,_,u,n⟩:=this P j a.toList[j] (by simp[g]);have c:l9 k a.toList[j].2=true:=h;rw[n]at c;have:d=k:=by simpa[l9] using c
 rw[<- this];exact m
def yM:∀{l:List b} {m:List c},Paired F l m->∀i,Paired F (l.take i++l.drop (i+1)) (m.take i++m.drop (i+1)):=by
 intro _ _ z
 induction z with
 |nil=>intro i;simpa using Paired.nil
 |cons x r a =>
  intro i
  cases i with
  |zero=>simpa using r
  |succ i=>simpa using Paired.cons x (a i)
def wQ{k:Int}:∀{ks:List Int} {j:Nat},ks[j]?=↑k->ks.Perm (k::(ks.take j++ks.drop (j+1)))
 | [],j,e=>by simp at e
 |x::r,0,e=>by
  have:x=k:=by simpa using e
  subst this;simp
 |x::r,j+1,e=>by have:=wQ (ks:=r) (j:=j) (by simpa using e);simpa using(nX x this).trans (List.Perm.swap k x _)
def Fe{k:Int}{Q:Bool->gn->Prop}(S:vi w a c s.heap)
 (h:∀p g,iu a s.heap p->vi w a g p->(if k∈c then c.Perm (k::g) else g=c)->Q (decide<|k∈c) { s with heap:=p}) :
    gu (gv b w) A (setDiscardHashed a (.int k u)<|mD k) Q E s:=by
  refine e3a2 S λd J t e K=>?_
  have F:ElemsOf (jI b w) d.toList:=BN K.ent
  have L:(jI b w).is k (.int k u)=true:=o4 _ _ _ _
  refine am<|am<|iF e rfl K.tab.fits ?_
  dsimp only
  rw[byScan_of (knd:=jI b w) rfl (yL K.small) F,f9 rfl]
  refine am<|lj<|am ?_
  rw[show mD k=(jI b w).hash k from rfl]
  refine wpAny_setScan_of (knd:=jI b w) L e rfl K.tab.fits F ?_
  have r:=FW K.ent k
  cases v:rc (λe=>(jI b w).is k e.2) d.toList with
  |none =>
    have f:k∉c:=λq=>by
      refine e1a2 (r.mp q) λx M y=>?_
      have:=List.findIdx?_eq_none_iff.mp v x M
      rw[show (jI b w).is k x.2=true from y]at this
      cases this
    have z:=h s.heap c (k8 a s.heap) #[d,J,t,e,K] (by rw[gc f])
    rw[gH f]at z
    exact ap<|ap z
  |some j =>
    dsimp only
    have i:=OZ (prog:=b) (w:=w) K.ent K.nd v
    have n:k∈c:=jg i
    have B:j<d.size:=by
      have:=(List.findIdx?_eq_some_iff_getElem.mp v).1
      rwa [gr]at this
    rw[sd]
    refine ap<|am<|iF e rfl K.tab.fits ?_
    have G:=xg.mp K.tab.fits
    have C:t.place[j]?=↑t.place[j]!:=by
      rw[iP q0a,getElem!_pos]
    have H:t.drop j={ t with place:=iv t.place j,dummies:=iH t.dummies (gD t.dummies t.place[j]!) t.place[j]!}:=by
      unfold SetTable.drop
      rw[C]
    have o:(iv d j).size=d.size-1:=AF _ _ B
    have l:(iv t.place j).size=d.size-1:=by rw[AF _ _ q0a];lia
    have I:Vf w (iv d j) (t.drop j) (c.take j++c.drop (j+1)):=by
      refine#[by rw[toList_erase];exact yM K.ent j,?_,by rw[o];have:=K.small;lia,?_,?_]
      · have := (wQ i).nodup_iff.mp K.nd
        exact(List.nodup_cons.mp this).2
      · have m := K.tab.room
        unfold kd at m
        rw[H]
        refine#[xg.mpr #[?_,?_],JJ K.tab.rise j,K.tab.plain,K.tab.good,?_]
        · show (iv t.place j).size = _
          rw[l,o]
        · show (iv t.place j).size+(iH t.dummies _ _).size <= t.mask
          rw[l,yw]
          lia
        · show ((iv t.place j).size+(iH t.dummies _ _).size)*5<t.mask*3
          rw[l,yw]
          lia
      · rw[H]; exact K.led
    refine am<|zV e (xN I.small) λN D O=>?_
    refine am<|wpAny_point ?_
    have z:=h N _ D #[_,_,_,O,I] (by rw[f9 n];exact wQ i)
    rw[decide_eq_true n]at z
    exact ap z
def Dy:∀(l:List a)(i:Nat)(x:a),l[i]?=↑x->(x::l.eraseIdx i).Perm l
 | [],i,x,e=>by simp at e
 |y::r,0,x,e=>by
  have:y=x:=by simpa using e
  subst this;simp
 |y::r,i+1,x,e=>by have:=Dy r i x (by simpa using e);rw[nM];exact(List.Perm.swap y x _).trans<|nX y this
set_option tactic.hygienic true in
def SK(c:Nat->Nat):∀(a k:Nat)(left:List d)(b:Array d),left.length<=a->(qA c a k left b).toList.Perm (b.toList++left):=by
 intro a
 induction a with
 |zero =>
  intro k left b h;have:left=[]:=List.length_eq_zero_iff.mp q0a;subst this;simp[qA]
 |succ a f =>
  intro k left b h;unfold qA;split
  ·rename_i x e
   have g:=(List.getElem?_eq_some_iff.mp e).1;refine(f _ _ _<|by rw[List.length_eraseIdx];split<;>lia).trans ?_;rw[pF,kE];refine nJ _ ?_;exact Dy _ _ _ e
  ·rename_i e
   cases left with
   |nil=>simp
   |cons y r =>
    have:=List.getElem?_eq_none_iff.mp e;have i:=mY (c k) (show 0<(y::r).length by simp)
    lia
def BO(b:Nat->Nat)(a:Array c):(sZ b a).toList.Perm a.toList:=by unfold sZ;have:=SK b a.size 0 a.toList #v[] q0o;simpa using this
set_option tactic.hygienic true in
def Wp(S:vi w a f s.heap)(h:∀(c:Array (Int×cr)) (b:List Int),Paired x8 c.toList b->b.Perm f->Q c s):gu (gv g w) A (setWalk a) Q E s:=by
 refine e3a2 S λd k t e K=>?_;refine am<|iF e rfl K.tab.fits<|am<|am<|jb<|ap ?_;split
 ·refine am<|jb<|ap ?_;obtain⟨b,p,q⟩:=xh (BO _ d).symm K.ent;exact h _ b q p.symm
 ·rename_i i
  rw[gc<|by show ¬((!t.plain&&decide (d.size>1))=true);rw[K.tab.plain];simp]
  have j:t.led=true:=by
   rcases K.led with z|z
   ·exact gA z i
   ·exact z
  refine am<|show gu _ A (if (!t.led&&decide (d.size>1))=true then kA "set:maker-not-led" else pure ()) _ _ _ from ?_;rw[j,gc q0o];exact ap<|ap<|h d f K.ent<|.refl _
def O0(S:vi w a i s.heap)(h:∀(b:Array (Int×cr)) (c:List Int),Paired x8 b.toList c->c.Perm i->Q b s) :
  gu (gv d w) A (setWalkUnseen a f g) Q E s:=by
 refine e3a2 (id S) λk l t e K=>?_;refine am<|iF e rfl K.tab.fits<|am<|am<|jb<|ap ?_
 rw[f9 (by
  rcases K.led with z|z
  ·have j:(gv d w).w.params.followText "set-order"=true:=z;rw[j];simp
  ·rw[z,K.tab.plain];simp)]
 exact Wp S h
def CQ{b:Nat}{n:Nat}(e:s.heap.get? a=↑(wF d b t))(k:t.fits d.size=true)(h:Q b s):gu (gv c w) A (setEpoch a) Q E s :=
 wpAny_setEpoch_of e rfl k h
def Vi{es:Array (Int×cr)}{b:Array Nat}{Q:Array (Int×cr)×jd->gn->Prop}(p:b.toList.Perm (gL es.size))(h:Q (b.filterMap (es[·]?),d) s) :
  gu (gv c w) A (do
   let some (t,order):=↑(d,b)|kA "internal:set-table-without-room"
   let a:=order.filterMap (es[·]?)
   if a.size != es.size then kA "internal:set-table-lost-an-element"
   pure (a,t)) Q E s:=by
 have e:(b.filterMap (es[·]?)).size=es.size:=by rw[<- gr,(picked p).length_eq,gr]
 dsimp only;rw[gc<|by rw[e];simp];exact ap h
def Cn(w:il)(r:ci)(h:h8):Prop:=∃b a,h.get? r=↑(wF #v[] b<|jE 0 0 a)/\(w.params.followText "set-order"=true\/a=true)
def BP(a:Bool):YF (jE 0 0 a) 0:=#[rfl,gS,rfl,.inl rfl,by show 0*5<7*3;decide]
def Cn.set(x:Cn w r h):vi w r [] h:=by refine e2a2 x λb a e l=>?_;exact#[#v[],b,_,e,.nil,lP,q0q,BP a,l]
set_option tactic.hygienic true in
def SM{m:Sem Unit}{Q:Unit->gn->Prop}(F:Cn w r s.heap)(S:vi w a X s.heap)(ne:r≠a)
 (h:∀Y l,iu r s.heap Y->vi w r l Y->l.Perm X->Q () { s with heap:=Y}):gu (gv I w) A (setMerge r a m) Q E s:=by
  refine e2a2 (id F) λZ c P lr=>?_
  refine e3a2 (id S) λb ep t e K=>?_
  unfold setMerge
  rw[gc<|by simpa using ne]
  refine am<|iF e rfl K.tab.fits ?_
  dsimp only
  by_cases R:b.isEmpty=true
  · rw[f9 R]
    have aa:b=#v[]:=by simpa using R
    subst aa
    have:X=[]:=by
      have:=K.ent
      cases this
      rfl
    subst this
    exact ap<|h s.heap [] (k8 _ _) F.set<|.refl _
  · rw[gc R]
    have af:1<=b.size:=by
      have:b.size≠0:=λz=>R (by simpa using Array.size_eq_zero_iff.mp z)
      lia
    have T:=K.small
    -- the room
    have go:∀(o:h8)(J:Nat)(d:jd),iu r s.heap o->o.get? r=↑(wF #v[] J d)->d.place=#v[]->d.dummies=#v[]->d.plain=true->d.led=c->Good d.mask->b.size*5<d.mask*3 ->
        gu (gv I w) A (setState r >>= λx=>match x with
          | (_,_,k)=>match k.road t with
            | .slotForSlot=>sf r b { t with finger:=k.finger,led:=k.led&&t.led,moves:=k.moves,plain:=k.plain&&t.plain}
            | .clean=>do
              let (b,t) <- (do
                let some (t,order):=(mS k.mask k.finger k.moves (led:=k.led&&t.led) (plain:=k.plain&&t.plain) (b.map (·.1)))|kA "internal:set-table-without-room"
                let L:=order.filterMap (b[·]?)
                if L.size != b.size then kA "internal:set-table-lost-an-element"
                pure (L,t))
              sf r b t
            | .oneByOne=>do
              for (h,x) in <- setWalkUnseen a [r] ↑r do
                let _ <- jY [x] (setAddHashed r x h)
                m
                if (<- setState a).2.1 != ep then kA "set.changed-during-merge") Q E { s with heap:=o}:=by
      intro o J d sb o1 p1 d1 M l1 C rm
      have f1:d.fits (#v[]:Array (Int×cr)).size=true:=xg.mpr #[by rw[p1];rfl,by rw[p1,d1];exact iz _]
      refine am<|iF (s:={ s with heap:=o}) o1 rfl f1 ?_
      dsimp only
      have u:w.params.followText "set-order"=true\/(d.led&&t.led)=true:=by
        rcases lr with z|z
        · exact .inl z
        · rcases K.led with y|y
          · exact .inl y
          · exact .inr (by rw[l1, z, y]; rfl)
      have v:d.road t=.slotForSlot\/d.road t=.clean:=by
        unfold tR kd
        rw[p1,d1]
        simp only[gy,mu,Nat.add_zero,qC,kh,oG]
        split
        · exact .inl rfl
        · exact .inr rfl
      have ab:d.road t=.slotForSlot->t.dummies.isEmpty=true:=λz=>by
        unfold tR at z
        split at z
        · cases z
        · split at z
          · rename_i q
            exact(Bool.and_eq_true_iff.mp q).2
          · cases z
      have up:∀f,iu r o f->iu r s.heap f:=λf q=>sb.trans q
      rcases v with z|z
      · have hd := ab z
        rw[z]
        refine zV (s:={ s with heap:=o}) o1 (xN T) λf g D=>?_
        refine h f X (up f g) #[b,_,_,D,K.ent,K.nd,T,#[K.tab.fits,K.tab.rise,?_,K.tab.good,K.tab.room],u]<|.refl _
        rw[M,K.tab.plain];rfl
      · rw[z]
        have i:b.size<=d.mask:=by lia
        obtain⟨t2,B,N,p⟩:=BM (fg:=d.finger) (mv:=d.moves) (led:=d.led&&t.led) (pl:=d.plain&&t.plain) (hs:=b.map (·.1)) C.FV (by rw[lM];exact i)
        refine e0a6 (BL N) λr1 r2 r3 G U O=>?_
        rw[N]
        rw[lM]at p
        have W:=picked p
        have H:(B.filterMap (b[·]?)).size=b.size:=by rw[<- gr,W.length_eq,gr]
        have j:B.size=b.size:=by rw[<- gr,p.length_eq,kD]
        refine am<|Vi p ?_
        refine zV (s:={ s with heap:=o}) o1 (by rw[H];exact xN T) λf g D=>?_
        refine e1a2 (xh W.symm K.ent) λl q1 q2=>?_
        refine h f l (up f g) #[_,_,_,D,q2,q1.nodup_iff.mp K.nd,by rw[H];exact T,#[xg.mpr #[by rw[O,H,j],?_],r1,?_,by rw[G];exact C,?_],by rw[r2];exact u] q1.symm
        · rw[O, U, j, G]; exact i
        · rw[r3, M, K.tab.plain]; rfl
        · unfold kd
          rw[O,U,j,G]
          exact rm
    refine am<|am<|iF P rfl (BP c).fits ?_
    by_cases hr:b.size*5>=7*3
    · have e1 : (jE 0 0 c).roomFor b.size = some (b.size*2) := by
        unfold sG kd jE
        rw[f9<|by simpa using hr]
        simp
      rw[e1]
      obtain⟨C,g2⟩:=Dx (n:=b.size*2) q0a
      obtain⟨t2,B,N,p⟩:=BM (fg:=0) (mv:=(jE 0 0 c).movedTo<|ie (b.size*2)-1) (led:=c) (pl:=true) (hs:=(#v[]:Array (Int×cr)).map (·.1)) C.FV (by rw[lM];exact iz _)
      refine e0a6 (BL N) λr1 r2 r3 G U O=>?_
      have ae:(jE 0 0 c).relaid ((#v[]:Array (Int×cr)).map (·.1)) (b.size*2)=↑(t2,B):=N
      refine am<|iF P rfl (BP c).fits ?_
      dsimp only
      rw[gc (by
        have:ie (b.size*2)<=512:=by rcases C with q|q|q|q|q|q|q<;>lia
        have e3:(512:Nat)<=gh:=by rw[iC];decide
        lia),ae]
      rw[lM]at p
      have W:=picked (es:=#v[]) p
      have H:(B.filterMap ((#v[]:Array (Int×cr))[·]?)).size=0:=by rw[<- gr,W.length_eq];rfl
      have j:B.size=0:=by rw[<- gr,p.length_eq];rfl
      refine am<|Vi (es:=#v[]) p ?_
      refine zV P (by rw[H];exact iz _) λf g D=>?_
      have o3:B.filterMap ((#v[]:Array (Int×cr))[·]?)=#v[]:=Array.size_eq_zero_iff.mp H
      rw[o3]at D
      refine go f _ t2 g D (Array.size_eq_zero_iff.mp<|by rw[O,j]) U r3 r2 (by rw[G];exact C) (by rw[G];lia)
    · have e1 : (jE 0 0 c).roomFor b.size = none := by
        unfold sG kd jE
        rw[gc<|by simpa using hr]
      rw[e1]
      refine ap ?_
      exact go s.heap Z (jE 0 0 c) (k8 _ _) P rfl rfl rfl rfl (.inl rfl) (by show b.size*5<7*3;lia)
def Ni:sg sY "set.__xor__"=↑Builtin.«frozenset.__xor__» :=
 sh (id':="frozenset.__xor__") (by kernel_rfl) (by first|rfl|decide +kernel|(unfold qt;simp +decide [pC])) q0s (by kernel_rfl)
def O3(h:∀a,Cn w ⇑s a->(∀c o,s.heap.get? c=↑o->a.get? c=↑o)->Q (.ref ⇑s) { s with heap:=a}):gu (gv b w) A (newSet<|.type "set") Q E s:=by
 refine am<|am<|jb<|ap ?_;refine am<|wpAny_alloc<|ap<|h _ ⟨0,_,gx _ rfl,?_⟩ λc o e=>ce _ e
 cases q:w.params.followText "set-order" with
 |true=>exact .inl rfl
 |false=>exact .inr (by show (!(w.params.followText "set-order"))=true;rw[q];rfl)
def AY(S:vi w a c s.heap)(h:Q true s):gu (gv b w) A (Builtin.Frozenset.isAnySet<|.ref a) Q E s:=by refine am<|lw S.typeIs o5<|ap ?_;exact h
def Nj{m:String}{Q:cr->gn->Prop}(S:vi w a j s.heap)
  (h:∀f b,vi w ⇑s b f->b.Perm j->(∀c o,s.heap.get? c=↑o->f.get? c=↑o)->Q (.ref ⇑s) { s with heap:=f}) :
  gu (gv k w) A (Builtin.Frozenset.newFrom m (.type "set")<|.ref a) Q E s:=by
 refine am<|O3 λd r l=>?_;have g:vi w a j d:=S.keep λo e=>l a o e;have u:⇑s≠a:=iK S.lt;refine am<|ap<|am<|g8 ?_;refine am<|AY (s:={ s with heap:=d}) g ?_;rw[f9 rfl];refine am<|ap ?_;have i:=g;refine e3a2 i λz B t e K=>?_;refine am<|CQ (n:=0) (s:={ s with heap:=d}) e K.tab.fits ?_;refine SM (s:={ s with heap:=d}) r g u λv b x y p=>?_;exact ap<|h v b y p λc o q=>x.extBut c o (gB<|gp q)<|l c o q
set_option tactic.hygienic true in
def YG{Q:cr->gn->Prop}(Sa:vi w a ka s.heap)(Sb:vi w b kb s.heap)(hl:ka.length+kb.length<=126)
  (h:∀h' ks,vi w ⇑s ks h'->(∀k,k∈ks↔((k∈kb/\k∉ka)\/(k∉kb/\k∈ka)))->(∀c o,s.heap.get? c=↑o->h'.get? c=↑o)->Q (.ref ⇑s) { s with heap:=h'}) :
  gu (gv prog w) A (lK .BitXor (.ref a)<|.ref b) Q E s:=by
 refine wpAny_binaryOp_same (op:=.BitXor) (T:="set") Sa.typeIs Sb.typeIs F.fills_set_xor F.slot_set_xor ?_;refine im F.slot_set_xor Sa.typeIs Ni ?_<|F.args_set_xor_2 _ _;refine am<|am<|ap<|ap ?_;dsimp only;rw[gc gw];refine am<|am<|AY Sa<|AY Sb ?_;rw[gc q0o];refine am<|ap<|am ?_
 wp_delta
 refine am<|am<|lw Sa.typeIs o5<|ap ?_;rw[f9 rfl];refine am<|Nj Sb λh1 SN S1 p1 k1=>?_;have Z2:vi w a ka h1:=Sa.keep λo e=>k1 a o e;have ne:⇑s≠a:=iK Sa.lt;refine am<|ap<|am<|g8 ?_;unfold Builtin.Frozenset.symmetricDifferenceUpdate;rw[gc<|by simpa using Ne.symm ne];dsimp only;refine am<|j0 (s:={ s with heap:=h1}) (vi.typeIs (s:={ s with heap:=h1}) Z2) ?_;rw[gc q0q];refine am<|AY (s:={ s with heap:=h1}) Z2 ?_;rw[f9 rfl];refine am<|ap<|am<|ap ?_;have a0Z:=Z2;refine e3a2 a0Z λes ep t e K=>?_;refine am<|CQ (n:=0) (s:={ s with heap:=h1}) e K.tab.fits ?_;refine g8<|am<|O0 (s:={ s with heap:=h1}) Z2 λes' YH P' p'=>?_;have nd':YH.Nodup:=p'.nodup_iff.mpr Sa.nodup;have a2t:=p'.length_eq;have a2u:=p1.length_eq
 refine am (wpAny_forIn_array' _ (λrest _ s2=>∃dn kr h2 k2,YH=dn++kr/\Paired x8 rest kr/\s2={ s with heap:=h2}/\iu ⇑s h1 h2/\vi w ⇑s k2 h2/\k2.length<=SN.length+dn.length /\
   ∀k,k∈k2↔((k∈SN/\k∉dn)\/(k∉SN/\k∈dn))) _ ?turn ?fin es' _ #[[],YH,h1,SN,rfl,P',rfl,k8 _ _,S1,gg _,λk=>by simp])
 case fin =>
  rintro _ s2 ⟨dn,kr,h2,k2,e0,P,rfl,sb,S2,_,m⟩;cases P;rw[jP]at e0;subst e0;refine ap<|ap<|ap ⟨_,rfl,q0o,?_⟩;refine h h2 k2 S2 (λk=>?_) λc o q=>sb.extBut c o (gB<|gp q)<|k1 c o q;rw[m k,p1.mem_iff,p'.mem_iff]
 case turn =>
  rintro x rest _ s2 ⟨dn,kr,h2,k2,e0,P,rfl,sb,S2,l2,m⟩
  cases P with
  |cons hx hr =>
   rename_i k kr
   obtain⟨hx1,u,hx2⟩:=hx;rw[hx1,hx2];have nd2:=nd';rw[e0]at nd2
   have hkd:k∉dn:=λq=>by have:=(List.nodup_append.mp nd2).2.2 k q k gk;exact this rfl
   have a2y:dn.length+(kr.length+1)=YH.length:=by rw[e0,gz,gK]
   have ea:∀h3,iu ⇑s h2 h3->h3.get? a=↑(wF es ep t):=λh3 q=>q.extBut a _ (Ne.symm ne)<|sb.extBut a _ (Ne.symm ne) e
   have Vj:∀(R:ForInStep PUnit->gn->Prop) h3 k3,iu ⇑s h2 h3->vi w ⇑s k3 h3->k3.length<=k2.length+1->(∀j,j∈k3↔((j∈k2/\j≠k)\/(j∉k2/\j=k))) ->
     (∀s':gn,(∃dn kr h2 k2,YH=dn++kr/\Paired x8 rest kr/\s'={ s with heap:=h2}/\iu ⇑s h1 h2/\vi w ⇑s k2 h2/\k2.length<=SN.length+dn.length/\∀k,k∈k2↔((k∈SN/\k∉dn)\/(k∉SN/\k∈dn)))->R (.yield #[]) s') ->
     gu (gv prog w) A.in1 (Builtin.Frozenset.unchanged (toString "frozenset."++toString "__xor__") a ep >>= λ_=>pure<|l6 PUnit.unit) R E { s with heap:=h3}:=by
    intro R h3 k3 YI S3 l3 m3 fin;refine am<|am<|CQ (n:=0) (s:={ s with heap:=h3}) (ea h3 YI) K.tab.fits ?_;rw[gc q0o];refine ap<|ap<|fin _ ⟨dn++[k],kr,h3,k3,by rw[e0];simp,hr,rfl,sb.trans YI,S3,by rw[gz];simp;lia,λj=>?_⟩;rw[m3 j,m j,ko,lA];by_cases q2:j=k
    ·subst q2;by_cases q1:j∈SN<;>simp[q1,hkd]
    ·by_cases q1:j∈SN<;>by_cases q3:j∈dn<;>simp[q1,q2,q3]
   refine am<|g8<|am ?_;refine Fe (s:={ s with heap:=h2}) S2 λh3 k3 YI S3 p3=>?_;by_cases XX:k∈k2
   ·rw[decide_eq_true XX,gc q0o];rw[f9 XX]at p3;have nd3:=p3.nodup_iff.mp S2.nodup;refine ap<|Vj _ h3 k3 YI S3 (by have:=p3.length_eq;rw[gK]at this;lia) (λj=>?_) λ_ z=>z;have q:=p3.mem_iff (a:=j);rw[gO]at q;rw[q];have hk1:=(List.nodup_cons.mp nd3).1;by_cases q2:j=k
    ·subst q2;simp[hk1]
    ·simp[q2]
   ·rw[gH XX,f9 q0o];rw[gc XX]at p3;subst p3;refine am<|Vg (s:={ s with heap:=h3}) S3 q0a λh4 k4 Z3 S4 p4=>?_;rw[gc XX]at p4;refine ap<|Vj _ h4 k4 (YI.trans Z3) S4 (by have:=p4.length_eq;rw[gK]at this;lia) (λj=>?_) λ_ z=>z;rw[p4.mem_iff,gO];by_cases q2:j=k
    ·subst q2;simp[XX]
    ·simp[q2]
section
variable{prog:gY}{w:il}{A:iW}{R:Result->gn->Prop}{I:ci}{fp wr:List ci}{G:Array oC->Array oC->Prop}{n:Nat}{P:Nat->cr->Prop}{St:Nat->gn->Prop}
set_option tactic.hygienic true in
def Wq(W:WalksS prog w A.in1 I fp wr G n P St)(r:ci)(O:r∉fp)(a:Nat->Int)(g:∀i v,P i v->∃t,v=.int (a i) t)(hb:n<=126) :
  ∀(m i:Nat)(s:gn)(b:List Int),i+m=n->St i s->vi w r b s.heap->(∀k,k∈b↔∃j,j<i/\a j=k)->b.length<=i ->
   (∀h l,Moved (r::wr) G s h->vi w r l h.heap->(∀k,k∈l↔∃j,j<n/\a j=k)->R (.ok<|.ret .none) h) ->
   lO (gv prog w) A (.builtin "set.update.loop" #[[.ref r,.ref I],[]]) R s:=by
 have Q:r∉wr:=λq=>O<|W.sub _ q;have x:∀c∈wr,c∈r::wr:=λc B=>gl _ B;intro m
 induction m with
 |zero =>
  intro i s b X H S d Y f;obtain rfl:i=n:=by lia
  refine ji sH ?_;rw[iY oq _];refine am<|W.done s _ _ H λh C=>?_;exact ap<|f h b (C.mono x) (S.keep λo e=>C.heap r o Q e) d
 |succ m Z =>
  intro i s b X H S d Y f;refine ji sH ?_;rw[iY oq _];refine am<|W.item i s _ _ q0a H λv T hP J C=>?_;obtain⟨u,rfl⟩:=g i v hP;have S1:vi w r b T.heap:=S.keep λo e=>C.heap r o Q e;refine am<|g8<|Vh S1 q0a λh2 D tk U S2 p E=>?_
  have l2:D.length<=i+1:=by
   have:=p.length_eq;split at this
   ·lia
   ·rw[gK]at this;lia
  refine ap #[j9 oq _,Z (i+1) _ D q0a (W.frame _ T _ _ J E λc B o e=>?_) S2 (λk=>?_) l2 λs3 L M S3 m3=>?_]
  ·rw[U.2 c (λz:c=r=>O<|by rw[<- z];exact B)];exact e
  ·rw[p.mem_iff]
   have q:(k∈if a i∈b then b else a i::b)↔(k=a i\/k∈b):=by
    split
    ·rename_i z
     constructor
     ·exact .inr
     ·rintro(y|y)
      ·rw[y];exact z
      ·exact y
    ·exact gO
   rw[q,d k];constructor
   ·rintro(z|⟨j,hj,e⟩)
    ·exact#[i,q0a,z.symm]
    ·exact#[j,q0a,e]
   ·rintro⟨j,hj,e⟩;by_cases N:j=i
    ·subst N;exact .inl e.symm
    ·exact .inr #[j,q0a,e]
  ·refine f s3 L (Moved.trans W.gtrans ((C.mono x).then_heap E λc o B e=>?_) M) S3 m3;rw[U.2 c (λz:c=r=>B<|by rw[z];exact gk)];exact e
end
def Nk(x:cr)(h:∀a,Cn w ⇑s a->(∀c o,s.heap.get? c=↑o->a.get? c=↑o)->Q (.ref ⇑s) { s with heap:=a}) :
  lO (gv b w) A (.call (.builtin "set.__new__") #[[.type "set",x],[]]) (wants Q E) s:=by
 refine lQ ?_;refine am<|lX (F.newCall_set_1 x)<|ap #[j9 oR _,ji F.entry_set_new ?_];rw[iY oR _];unfold Builtin.«set.__new__» oH;have g:=o5;obtain⟨i,j,k,l,m⟩:=s;dsimp only;generalize d:newSet=n
 wp_walk
 subst d;refine O3 λa e f=>?_;exact ap<|h a e f
def JN(hh:A.handled=none)(hl:s.heap.IsList l b)(hi:kg b.toList x)(hb:b.size<=126)
 (h:∀f G g,vi w ⇑s g f->(∀k,k∈g↔k∈x)->(∀c o,s.heap.get? c=↑o->f.get? c=↑o)->Q (.ref ⇑s) { s with heap:=f,toks:=G}) :
    gu (gv aa w) A (call (.type "set") [.ref l]) Q E s:=by
  obtain⟨c0,tl,ab⟩:=F.called_set.mro
  have J:=F.called_set.made
  have ae:=F.called_set.sub
  refine lU<|lQ ?_
  refine ap #[mU _ q0s,ji F.entry_type_call ?_]
  rw[sI (t6 "set" [.ref l] []) rfl]
  have ag:=F.called_set.notType
  have ah:=F.called_set.canCreate
  have ai:=F.typeCall_set_1<|.ref l
  repeat (any_goals (first|assumption|wp_step))
  refine jp (Nk (.ref l) (E:=E) (Q:=λy z=>y=.ref ⇑s/\∃a,z={ s with heap:=a}/\Cn w ⇑s a/\∀c o,s.heap.get? c=↑o->a.get? c=↑o) λa H u=>#[rfl,a,rfl,H,u]) λr1 s1 m=>?_
  cases r1 with
  |error e=>exact m
  |ok f1 =>
    cases f1 with
    |ret y =>
      obtain⟨rfl,a,rfl,H,u⟩:=m
      have L:vi w ⇑s [] a:=H.set
      have hT:k9 { s with heap:=a} (.ref ⇑s) "set":=vi.typeIs (s:={ s with heap:=a}) L
      have aj:=F.called_set.init.lookup
      have ak:=F.called_set.init.bind<|.ref ⇑s
      repeat (any_goals (first|assumption|wp_step))
      refine jp (mM (R:=wants (λr B=>r=.none/\∃f G g,B={ s with heap:=f,toks:=G}/\vi w ⇑s g f/\(∀k,k∈g↔k∈x)/\∀c o,s.heap.get? c=↑o->f.get? c=↑o) E) F.called_set.init.plain F.entry_set_init<|check_set_init_1 hT ?_) λr2 s2 n=>?_
      · obtain⟨M, p, N, nl, O⟩ := id hl
        have q:a.IsList l b:=#[M,u l M p,N,nl,O]
        have al:k9 { s with heap:=a} (.ref l) "list":=q.typeIs
        have q1:=F.sub_list_set
        have q2:=F.sub_list_frozenset
        have q3:(jw "list" == jw "dict")=false:=by decide
        refine e2a2 (id H) λan af e1 l1=>?_
        unfold Builtin.«set.__init__» noKeywords Builtin.Frozenset.updateFrom
        generalize P:pyIter=PI
        wp_walk
        subst P
        refine wpAny_pyIter_list q<|am<|si ?_
        have S:l<a.objs.size:=gp<|u l M p
        have T:⇑s<a.objs.size:=L.lt
        have U:A.in1.in1.in1.handled=none:=by simp[hh]
        have nr:⇑s∉[a.objs.size,l]:=by
          simp only[gO,gP,lm,oZ]
          exact#[gB T,iK<|gp p]
        have C:∀(i:Nat)(v:cr),b[i]?=↑v->∃t,v=.int ((λi=>x.getD i 0) i) t:=λi v hv=>qi hi i v (by rw[hO];exact hv)
        have d:∀c o,a.get? c=↑o->(a.push { cls:=.type "list_iterator",data:=.fields #v[.ref l,.int 0 0]}).get? c=↑o:=λc o e=>ce _ e
        have D:=qj hi
        rw[gr]at D
        refine Wq ((Walks.list U _ l (gB S) b).toS) ⇑s nr (λi=>x.getD i 0) C hb b.size 0 _ [] q0a #[#[_,gx _ rfl,rfl,rfl],q.push _] (L.keep λo e=>d _ o e) (λk=>by simp) (iz _) λs2 W I S2 m2=>?_
        obtain⟨h2,g2,d2,X,Y⟩:=s2
        have eg:g2=s.gens:=I.gens
        have ed:d2=s.drawn:=I.drawn
        have eo:Y=s.os:=I.os
        subst eg ed eo
        refine ap<|ap ⟨rfl,h2,X,W,rfl,S2,λk=>?_,λc o e=>?_⟩
        · rw[m2 k]
          constructor
          · rintro⟨j, Z, e⟩
            rw[<- e]
            have:j<x.length:=by lia
            simp[iO,this]
          · intro hk
            obtain⟨j,Z⟩:=kM hk
            refine#[j,by have:=(List.getElem?_eq_some_iff.mp Z).1;lia,?_]
            simp[iO,Z]
        · refine I.heap c o ?_ (d c o<|u c o e)
          simp only[gO,gP,lm,oZ]
          exact#[gB<|gp e,gB<|gp<|u c o e]
      · cases r2 with
        |error e=>exact n
        |ok f2 =>
          cases f2 with
          |ret r =>
            obtain⟨rfl,f,G,g,rfl,S',m',k'⟩:=n
            repeat (any_goals (first|assumption|wp_step))
            exact h _ _ g S' m' k'
          |_=>exact n.elim
    |_=>exact m.elim
def wo:Slot "set_iterator" "__next__" "set_iterator.__next__" :=
 .of (owner:="set_iterator") (n:="__next__") (by rw[mZ,kR];kernel_rfl) q0s q0s q0s (by first|exact .inl q0s|exact .inr q0s) (by rw[sj];kernel_rfl)
def O5:Manifest.owners.lookup (String.ofList ['r','o','t','a','r','e','t','i','_','t','e','s'].reverse)=↑Manifest.sig_set_iterator:=by kernel_rfl
def AZ(a:cr):qQ "set_iterator.__next__" #[[a],[]]:=by unfold qQ;rw[signature?_of (id:="set_iterator.__next__") (n:=['_','_','t','x','e','n','_','_']) (o:=['r','o','t','a','r','e','t','i','_','t','e','s']) (by kernel_rfl) O5];kernel_rfl
def Ap:sg sY "set_iterator.__next__"=↑Builtin.«set_iterator.__next__»:=entryFor_of_tree (by kernel_rfl)
def A1:Slot "set_iterator" "__iter__" "set_iterator.__iter__" :=
 .of (owner:="set_iterator") (n:="__iter__") (by rw[mZ,kR];kernel_rfl) q0s q0s q0s (by first|exact .inl q0s|exact .inr q0s) (by rw[sj];kernel_rfl)
def FX(a:cr):qQ "set_iterator.__iter__" #[[a],[]]:=by unfold qQ;rw[signature?_of (id:="set_iterator.__iter__") (n:=['_','_','r','e','t','i','_','_']) (o:=['r','o','t','a','r','e','t','i','_','t','e','s']) (by kernel_rfl) O5];kernel_rfl
def EF:sg sY "set_iterator.__iter__"=↑Builtin.«dict_keyiterator.__iter__» :=
 sh (id':="dict_keyiterator.__iter__") (by kernel_rfl) (by first|rfl|decide +kernel|(unfold qt;simp +decide [pC])) q0s (by kernel_rfl)
def Dz:sg sY "set.__iter__"=↑Builtin.«frozenset.__iter__» :=
 sh (id':="frozenset.__iter__") (by kernel_rfl) (by first|rfl|decide +kernel|(unfold qt;simp +decide [pC])) q0s (by kernel_rfl)
noncomputable abbrev YJ(b i n c:Nat)(a:ci):Obj:={ cls:=.type "set_iterator",dict:=none,data:=.fields #v[kP b,kP i,.ref a,kP n,kP c],slots:=#v[]}
noncomputable def JO(w:il)(a:ci)(b:Array (Int×cr))(c:Nat):Array (Int×cr):=if w.params.followText "set-order"=true then sZ (w.params.setOrder a c) b else b
def BQ(w:il)(a:ci)(b:Array (Int×cr))(c:Nat):(JO w a b c).toList.Perm b.toList:=by
 unfold JO;split
 ·exact BO _ b
 ·exact .refl _
def SIt(w:il)(e a:ci)(c:Array (Int×cr))(d:Nat)(t:jd)(i:Nat)(h:h8):Prop :=
 ∃b,(w.params.followText "set-order"=false->gD t.place b=i)/\h.get? e=↑(YJ b i c.size d a)/\h.get? a=↑(wF c d t)
def Ic(e:s.heap.get? b=some { cls:=cls,dict:=none,data:=.fields c,slots:=#v[]})(h:Q c s):gu (gv a w) A (fieldsOf<|.ref b) Q E s:=by exact am<|qe e<|ap h
set_option tactic.hygienic true in
def Nl{c i:Nat}(e:s.heap.get? a=↑(wF g k t))(K:Vf w g t p)(n:w.params.followText "set-order"=false->gD t.place c=i)
 (d:(JO w a g k)[i]?=↑x)(h:∀l,(w.params.followText "set-order"=false->gD t.place l=i+1)->Q ↑(x.2,l) s):gu (gv f w) A (setNext a c i k) Q E s:=by
  have q:=xg.mp K.tab.fits
  refine am<|iF e rfl K.tab.fits<|am<|am<|jb<|ap ?_
  dsimp only
  unfold JO at d
  split
  · rename_i j
    have b:w.params.followText "set-order"=true:=j
    rw[f9 b]at d
    rw[gc q0o]
    refine am<|am<|iF e rfl K.tab.fits<|am<|am<|jb<|ap ?_
    rw[f9 j]
    refine am<|jb<|ap<|ap ?_
    rw[show (gv f w).w=w from rfl,d]
    exact h c λz=>by rw[b]at z;cases z
  · rename_i j
    have b:w.params.followText "set-order"=false:=Bool.eq_false_iff.mpr j
    rw[gc<|by rw[b];simp]at d
    rw[gc<|by show ¬((!t.plain&&decide (g.size>1))=true);rw[K.tab.plain];simp]
    have o:t.led=true:=by
      rcases K.led with z|z
      · rw[b]at z; cases z
      · exact z
    refine am<|show gu _ A (if (!t.led&&!g.isEmpty)=true then kA "set:maker-not-led" else pure ()) _ _ _ from ?_
    rw[o,gc q0o]
    have r:=(Array.getElem?_eq_some_iff.mp d).1
    rw[n b,d]
    have m:t.place[i]?=↑t.place[i]!:=by rw[iP q0a,getElem!_pos]
    rw[m]
    refine ap<|ap<|h _ λ_=>?_
    exact JH K.tab.rise (by rw[hO];exact m)
set_option tactic.hygienic true in
def Nm{c:Nat}(e:s.heap.get? a=↑(wF b i t))(K:Vf w b t l)(j:w.params.followText "set-order"=false->gD t.place c=b.size)(h:Q none s):gu (gv d w) A (setNext a c b.size i) Q E s:=by
 refine am<|iF e rfl K.tab.fits<|am<|am<|jb<|ap ?_;dsimp only;split
 ·rename_i g
  rw[gc q0o];refine am<|am<|iF e rfl K.tab.fits<|am<|am<|jb<|ap ?_;rw[f9 g];refine am<|jb<|ap<|ap ?_
  have:(sZ ((gv d w).w.params.setOrder a i) b)[b.size]?=none:=by rw[Array.getElem?_eq_none_iff,<- gr,(BO _ b).length_eq,gr];exact gg _
  rw[this];exact h
 ·rename_i g
  have f:w.params.followText "set-order"=false:=Bool.eq_false_iff.mpr g;rw[gc<|by show ¬((!t.plain&&decide (b.size>1))=true);rw[K.tab.plain];simp]
  have k:t.led=true:=by
   rcases K.led with z|z
   ·rw[f]at z;cases z
   ·exact z
  refine am<|show gu _ A (if (!t.led&&!b.isEmpty)=true then kA "set:maker-not-led" else pure ()) _ _ _ from ?_;rw[k,gc q0o,j f];rw[show b[b.size]?=none from by simp];exact ap<|ap h
def Nn(hh:A.handled=none)(K:Vf w es t ks)(ne:a≠it):Walks prog w A it [it,a] [it] es.size (λi v=>∃x,(JO w a es ep)[i]?=↑x/\v=x.2) (SIt w it a es ep t) where
 sub:=λb hb=>by simp at hb;simp[hb]
 frame:=λi h h' z9=>e1a3 z9 λsl z e1 e2 k=>#[sl,z,k it q0o _ e1,k a q0o _ e2]
 item:=by
  rintro i s Q E hi ⟨sl,z,e1,e2⟩ hQ;have hT:s.TypeIs (.ref it) "set_iterator":=#[_,e1,rfl];refine am<|ot<|wpAny_callSpecial?_slot (name:=kX "__next__") hT wo<|im wo hT Ap ?_<|AZ _;refine am<|ap<|am<|Ic e1 ?_;refine am<|pW e2 rfl K.tab.fits ?_;rw[gc q0o]
  obtain⟨x,hx⟩:∃x,(JO w a es ep)[i]?=some x:=by
   have hl:i<(JO w a es ep).size:=by rw[<- gr,(BQ w a es ep).length_eq,gr];exact hi
   exact#[_,iP hl]
  refine am<|Nl e2 K z hx λsl' z'=>?_;refine am<|jl e1 q0o λh1 o1 sb1=>am<|jl (s:={ s with heap:=h1}) o1 q0o λh2 o2 sb2=>ap #[_,rfl,ap ?_];have sb:=sb1.trans sb2;exact hQ _ h2 _ #[x,hx,rfl] #[sl',z',o2,sb.extBut a _ ne e2] λb o hb q=>sb.extBut b o (by simpa using hb) q
 done:=by
  rintro s Q E ⟨sl,z,e1,e2⟩ hQ;have hT:s.TypeIs (.ref it) "set_iterator":=#[_,e1,rfl];refine am<|ot<|wpAny_callSpecial?_slot (name:=kX "__next__") hT wo<|im wo hT Ap ?_<|AZ _;refine am<|ap<|am<|Ic e1 ?_;refine am<|pW e2 rfl K.tab.fits ?_;rw[gc q0o];refine am<|Nm e2 K z ?_;refine am<|jl e1 q0o λh1 o1 sb1=>am ?_;refine am<|hW ?_ (by size_fits);refine am (m:=pG _ _)<|lX (a:=Value.none) (by first|rfl|(simp only[pG];rfl))<|hW ?_ (by size_fits)
  refine wpAny_raiseNew_none hh<|am<|lw (T:="StopIteration") (b:=true) ⟨_,gx _ rfl,rfl⟩ isSubtype_stop<|ap ?_;exact hQ _ _ λb o hb q=>ce _<|ce _<|sb1.extBut b o (by simpa using hb) q
 self:=by rintro i s Q E ⟨sl,z,e1,e2⟩ hQ;have hT:s.TypeIs (.ref it) "set_iterator":=#[_,e1,rfl];refine wpAny_pyIter_slot hT A1<|im A1 hT EF ?_<|FX _;exact ap #[_,rfl,"set_iterator",_,hT,wo.lookup,hQ]
def Wr(e:s.heap.get? a=↑(wF f i t))(K:Vf w f t j)
 (h:∀d,SIt w ⇑s a f i t 0 d->(∀c o,s.heap.get? c=↑o->d.get? c=↑o)->d.objs.size=⇑s+1->Q (.ref ⇑s) { s with heap:=d}):gu (gv b w) A (pyIter<|.ref a) Q E s:=by
  have g:s.TypeIs (.ref a) "set":=#[_,e,rfl]
  refine wpAny_pyIter_slot g F.slot_set_iter<|im F.slot_set_iter g Dz ?_<|F.args_set_iter_1 _
  refine am<|am<|ap<|ap<|am<|am<|pW e rfl K.tab.fits<|ap ?_
  refine am<|am<|iF e rfl K.tab.fits<|am<|am<|jb<|ap<|ap ?_
  rw[gc<|by show ¬((!(gv b w).w.params.followText "set-order"&&(!t.plain&&decide (f.size>1)))=true);rw[K.tab.plain];simp]
  refine am<|ap<|am<|CQ (n:=0) e K.tab.fits ?_
  refine am<|hW ?_ (by size_fits)
  refine ap #[_,rfl,"set_iterator",_,#[_,gx _ rfl,rfl],wo.lookup,?_]
  exact h _ #[0,λ_=>JI K.tab.rise,gx _ rfl,ce _ e] (λc o q=>ce _ q)<|i4 _ _
def FY:mB (.type "set") "__len__"=pure (some<|.builtin "set.__len__"):=by rw[mZ,kR];kernel_rfl
def SO(P:Paired x8 a b):∀(j:Nat)(e:Int×cr),a[j]?=↑e->∃k,b[j]?=↑k/\x8 e k:=by
 induction P with
 |nil=>intro j e z;simp at z
 |cons x _ c =>
  intro j e z
  cases j with
  |zero =>
   have d:=iq z;subst d;exact#[_,rfl,x]
  |succ j=>exact c j e (by simpa using z)
def zu:∀{a:List cr} {b:List Int},a.length=b.length->(∀(i:Nat)(v:cr),a[i]?=↑v->∃k u,b[i]?=↑k/\v=kO k u)->kg a b
 | [],[],_,_=>.nil
 | [],_::_,h,_=>by simp at h
 |_::_,[],h,_=>by simp at h
 |v::a,n::b,h,k=>by
  refine e2a2 (k 0 v rfl) λc u d f=>?_;have:n=c:=by simpa using d
  subst this;subst f
  exact .cons _ _ (zu (by simpa using h) λi g e=>by
   refine e2a2 (k (i+1) g<|by simpa using e) λj l m o=>?_
   exact#[j,l,by simpa using m,o])
def No(hh:A.handled=none)(S:vi w a ks s.heap)
 (h:∀N tk vs H,kg vs H->H.Perm ks->(∀c o,s.heap.get? c=↑o->N.get? c=↑o)->⇑s<=N.objs.size->Q vs { s with heap:=N,toks:=tk}):gu (gv r w) A (collect<|.ref a) Q E s:=by
  refine e3a2 (id S) λI J t e K=>?_
  have d:a<⇑s:=gp e
  refine am<|si<|ji td ?_
  rw[iY tj _]
  refine am (m:=newList [])<|hW<|ap #[j9 nO _,ji F.entry_list_iadd ?_]
  rw[iY nO _]
  have l:∀c o,s.heap.get? c=↑o->(s.heap.push { cls:=.type "list",data:=.seq ([]:List cr).toArray}).get? c=↑o:=λc o q=>ce _ q
  have oL:(s.heap.push { cls:=.type "list",data:=.seq ([]:List cr).toArray}).get? ⇑s=some { cls:=.type "list",data:=.seq ([]:List cr).toArray}:=gx _ rfl
  have f:(s.heap.push { cls:=.type "list",data:=.seq ([]:List cr).toArray}).objs.size=⇑s+1:=i4 _ _
  generalize s.heap.push { cls:=.type "list",data:=.seq ([]:List cr).toArray}=n at l oL f ⊢
  show gu _ A.in1 (pw (.ref ⇑s) (.ref a)<|.ref ⇑s) _ _ { s with heap:=n}
  have hT:k9 { s with heap:=n} (.ref a) "set":=#[_,l a _ e,rfl]
  refine am<|j0 hT ?_
  have n1:kJ (.ref ⇑s) (.ref a)=false:=by simp[kJ,iK d]
  have n2:(jw "set" == jw "list")=false:=by decide
  have n3:(jw "set" == jw "tuple")=false:=by decide
  simp only[n1,n2,n3,rf,kh,oG]
  refine am<|Wr (s:={ s with heap:=n}) (l a _ e) K λp I2 O ae=>?_
  have j:k9 { s with heap:=p} (.ref a) "set":=#[_,O a _<|l a _ e,rfl]
  refine am<|g8 ?_
  refine am<|o7 j FY ?_
  generalize y:("set.__len__":String)=P
  dsimp only
  rw[show splitId P=some ("set","__len__") from by subst y;decide +kernel]
  subst y
  refine am<|lw (b:=true) j o5 ?_
  rw[gc q0o]
  rw[f9 q0s]
  refine am<|j0 j<|ap ?_
  rw[f9 q0s]
  refine am<|lj<|am ?_
  have B:=O _ _ oL
  have R:A.in1.handled=none:=by simp[hh]
  have ne:a≠n.objs.size:=gB<|mJ d (by rw[f];exact iV _)
  have W:=(Nn (prog:=r) (A:=A.in1) (ep:=J) R K ne).toS
  refine am<|pc B rfl ?_
  have C:=ii (Obj.mapSeq (·.push Value.none)) B rfl
  refine pc C rfl ?_
  have D:=ii (Obj.mapSeq (·.pop)) C rfl
  have L:∀c o,c≠⇑s->p.get? c=↑o->((p.update ⇑s (Obj.mapSeq (·.push Value.none))).update ⇑s (Obj.mapSeq (·.pop))).get? c=↑o :=
    λc o hc q=>(g9 _ _<|Ne.symm hc).trans<|(g9 _ _<|Ne.symm hc).trans q
  have T:((p.update ⇑s (Obj.mapSeq (·.push Value.none))).update ⇑s (Obj.mapSeq (·.pop))).objs.size=p.objs.size:=by rw[nP,nP]
  have U:⇑s∉[n.objs.size,a]:=by
    simp only[gO,gP,lm,oZ]
    exact#[by rw[f];exact gB<|iV _,iK d]
  generalize (p.update ⇑s (Obj.mapSeq (·.push Value.none))).update ⇑s (Obj.mapSeq (·.pop))=h4 at D L T ⊢
  refine e1a3 I2 λsl z i1 i2=>?_
  have I4:SIt w n.objs.size a I J t 0 h4:=#[sl,z,L _ _ (by rw[f];exact iK<|iV _) i1,L _ _ (gB d) i2]
  refine ap #[j9 pH _,codeAny_extend_loopS W (xN K.small) _ U _ I.size 0 _ _ _ rfl (iz _) I4 D (ItemsOf.nil _) λs5 X c5 M G g=>?_]
  refine am<|qe G<|ap ?_
  obtain⟨h5,g5,d5,Y,Z⟩:=s5
  have eg:g5=s.gens:=M.gens
  have ed:d5=s.drawn:=M.drawn
  have eo:Z=s.os:=M.os
  subst eg ed eo
  -- aa ab
  refine e1a2 (xh (BQ w a I J).symm K.ent) λH pp pe=>?_
  have k5:∀c o,s.heap.get? c=↑o->h5.get? c=↑o:=λc o q=>M.heap c o (by
    simp only[gO,gP,lm,oZ]
    exact#[gB (gp q),gB (gp (l c o q))]) (L c o (gB (gp q)) (O c o (l c o q)))
  refine h h5 Y X.toList H (zu ?_ λi v hv=>?_) pp.symm k5<|kU<|gp G
  · rw[gr, g.1, <- LU pe, gr, <- gr, <- gr, (BQ w a I J).length_eq]
  · obtain⟨x, hx, rfl⟩ := g.2 i v (by rw[<- hO]; exact hv)
    obtain⟨k,hk,_,u,hu⟩:=SO pe i x (by rw[hO];exact hx)
    exact#[k,u,hk,hu]
def BR 
 (C:∀(u:List cr->gn->Prop),(∀b e a d,kg a d->d.Perm x->(∀c o,s.heap.get? c=↑o->b.get? c=↑o)->⇑s<=b.objs.size->u a { s with heap:=b,toks:=e})->gu (gv f w) A.in1 (collect v) u E s)
 (k:x.length<64) (h:∀b e r a d,⇑s<=r->kg a d->d.Perm x->d.Pairwise (·<=·)->(∃n,b.get? r=some { cls:=.type "list",data:=.seq a.toArray n})->(∀c o,s.heap.get? c=↑o->b.get? c=↑o)->Q (.ref r) { s with heap:=b,toks:=e}) :
    gu (gv f w) A (call (.builtin "sorted") [v]) Q E s:=by
  refine qL kind_sorted plain_sorted entry_sorted (args_sorted1 _) ?_
  refine am (m:=checkCount "sorted" 1 1 _)<|ap ?_
  refine am<|C _ λl e a d y z B D=>?_
  have g:a.length<64:=by rw[qj y,z.length_eq];exact k
  refine am<|sP ?_
  have p:(l.push<|lH "list" a.toArray 0).get? l.objs.size=↑(lH "list" a.toArray 0):=gx _ rfl
  refine am<|g8<|im slot_list_sort ⟨_,p,rfl⟩ entry_list_sort (list_sort_tree p y g λi t F G H=>#[_,rfl,?_])<|args_list_sort _
  obtain⟨I,J⟩:=sortedHeap_at (out:=i) p
  refine ap #[_,rfl,h _ e l.objs.size i.toList t D F (G.trans z) H #[I,by simpa using J] λc o q=>?_]
  have j:=gp<|B c o q
  rw[sortedHeap_old (gB j)<|by rw[sk];exact nA j]
  exact ce _<|B c o q
def FZ(j:A.handled=none)(S:vi w a f s.heap)(b:f.length<64)
 (h:∀d l r g e,⇑s<=r->kg g e->e.Perm f->e.Pairwise (·<=·)->(∃n,d.get? r=some { cls:=.type "list",data:=.seq g.toArray n})->(∀c o,s.heap.get? c=↑o->d.get? c=↑o)->Q (.ref r) { s with heap:=d,toks:=l}) :
    gu (gv i w) A (call (.builtin "sorted") [.ref a]) Q E s :=
  BR (λ_ k=>No (by simp[j]) S k) b h
def EG{a:List cr}(p:s.heap.IsList l a.toArray)(b:kg a i)(d:i.length<64)
 (h:∀f t r j g,⇑s<=r->kg j g->g.Perm i->g.Pairwise (·<=·)->(∃n,f.get? r=some { cls:=.type "list",data:=.seq j.toArray n})->(∀c o,s.heap.get? c=↑o->f.get? c=↑o)->Q (.ref r) { s with heap:=f,toks:=t}) :
    gu (gv m w) A (call (.builtin "sorted") [.ref l]) Q E s :=
  BR (λ_ k=>collect_list p (k _ s.toks _ _ b (.refl _) (λc o q=>(g9 _ _ (iK (gp q))).trans (ce _ q)) (by rw[nP,sk];exact kQ _)) (by
    have:=qj b
    have e:(64:Nat)<=gh:=by rw[iC];decide
    lia)) d h
end SX
namespace L2
open PySem PySem.Spec PyProof.Rows SX
def zW{a:List Int}(h:Vals (a.map V.int) b):kg b a:=intsAre_of h
def SQ(h:kg a b):Vals (b.map V.int) a:=Fb h
noncomputable def wC(w:il)(p:ci)(a:List Int):HO:=.ext<|vi w p a
def yN(I:Inv X a c H s)(h:H p=↑(wC X.w p b)):vi X.w p b s.heap:=(I.vc p _ h).1
def F7(x:vi w p a h):vv P w H h p (wC w p a) :=
 #[x,(e3a2 x λ_ _ _ e _=> #[_,e]),λ_ _ q k=>q.keep k]
def Ie(i:X.calm=true):xZ X (.type "set") (λe H Q=>∃(a:ci)(c:List Int),e=[.ref a]/\vJ X.K H a (c.map V.int)/\c.length<=126/\∀(p:ci)(b:List Int),H p=none->b.Nodup->b.length<=c.length->(∀k,k∈b↔k∈c)->Q (.ref p) (upd H p<|wC X.w p b)):=by intro f s z H e A Q I r h;obtain⟨a,c,rfl,j,B,q⟩:=h;obtain⟨u,rfl,l⟩:=vals1 r;cases l;refine e1a3 (I.list j) λn g o C=>?_;have t:=zW g;have d:=g.length;rw[gm]at d;refine JN (I.ok.hd i) o.isList (by simpa using t) (by rw[gy];lia) λD v b S m k=>?_;refine#[.ref ⇑s,_,I.laid (t':=v) k (gg _)<|F7 S,rfl,q _ b (I.vc.fresh<|gg _) S.nodup (yu _ _ S.nodup λx y=>(m x).mp y) m]
def SR:Ai X (lK .BitXor) (λx y H Q=>∃(a b:ci)(c d:List Int),x=.ref a/\y=.ref b/\H a=↑(wC X.w a c)/\H b=↑(wC X.w b d)/\c.length+d.length<=126 /\
  ∀(p:ci)(e:List Int),H p=none->e.Nodup->(∀k,k∈e↔((k∈d/\k∉c)\/(k∉d/\k∈c)))->Q (.ref p) (upd H p (wC X.w p e))):=by
 intro f s o H x y v u Q I g i h;obtain⟨a,b,c,d,rfl,rfl,j,l,n,q⟩:=h;cases g;cases i;refine YG (yN I j) (yN I l) n λr e S m k=>?_;exact#[.ref ⇑s,_,I.laid (t':=s.toks) k (gg _)<|F7 S,rfl,q _ e (I.vc.fresh<|gg _) S.nodup m]
def AG{g:List Int}(I:Inv X b k H s)(l:g.length<64)(q:∀(p:ci)(a:List Int),H p=none->a.Perm g->a.Pairwise (·<=·)->Q (.ref p) (upd H p<|.lst<|a.map V.int)) :
  ∀(d:h8)(h:Nat)(r:ci)(f:List cr)(a:List Int),⇑s<=r->kg f a->a.Perm g->a.Pairwise (·<=·)->(∃n,d.get? r=some { cls:=.type "list",data:=.seq f.toArray n})->(∀c o,s.heap.get? c=↑o->d.get? c=↑o)->EP X b k Q (.ref r) { s with heap:=d,toks:=h}:=by
 intro d h r f a i m j t u v;obtain⟨n,e⟩:=u;have w:(64:Nat)<=gh:=by rw[iC];decide
 exact#[.ref r,_,I.laid (t':=h) (o:=.lst<|a.map V.int) v i #[by rw[gm,j.length_eq];lia,f,n,SQ m,e],rfl,q r a (I.vc.fresh i) j t]
def A4(g:X.calm=true):xZ X (.builtin "sorted") (λe H Q=>∃(a:ci)(c:List Int),e=[.ref a]/\H a=↑(wC X.w a c)/\c.length<64/\∀(p:ci)(d:List Int),H p=none->d.Perm c->d.Pairwise (·<=·)->Q (.ref p) (upd H p<|.lst<|d.map V.int)):=by intro f s k H e l Q I r h;obtain⟨a,c,rfl,i,b,q⟩:=h;obtain⟨u,rfl,j⟩:=vals1 r;cases j;exact FZ (I.ok.hd g) (yN I i) b<|AG I b q
def F8:xZ X (.builtin "sorted") (λe H Q=>∃(a:ci)(c:List Int),e=[.ref a]/\vJ X.K H a (c.map V.int)/\c.length<64/\∀(p:ci)(d:List Int),H p=none->d.Perm c->d.Pairwise (·<=·)->Q (.ref p) (upd H p<|.lst<|d.map V.int)):=by intro f s m H e n Q I r h;obtain⟨a,c,rfl,g,b,q⟩:=h;obtain⟨u,rfl,i⟩:=vals1 r;cases i;refine e1a3 (I.list g) λj k l o=>?_;exact EG l.isList (zW k) b<|AG I b q
def Ff(X:Cx)(H:Hp)(x:V)(d:PyData):Prop:=∀(a:List (ci×Obj)) (b:St) (s:gn) (u:cr),Inv X a b H s->RelV x u->∃c,Reads s.heap u d c
def Ff.int(i:Int):Ff X H (.int i) (.int i):=λ_ _ _ _ _ r=>by obtain⟨t,rfl⟩:=r;exact#[_,Reads.int i t]
def Fh(I:Inv X a e H s):∀{c:List V} {d:List cr} {b:List PyData},Vals c d->Paired (Ff X H) c b->∃f,ReadsAll s.heap d b f:=by
 intro _ _ b z
 induction z generalizing b with
 |nil=>intro w;cases w;exact#[_,.nil]
 |cons r t g=>intro w;cases w with|cons q p =>
  obtain⟨j,h⟩:=q a e s _ I r;obtain⟨k,i⟩:=g p;exact#[_,.cons h i]
def Ff.lst(h:vJ X.K H a c)(p:Paired (Ff X H) c d):Ff X H (.ref a) (.list d):=λb m s u I r=>by
 cases r;refine e1a3 (I.list h) λe f g _=>?_;obtain⟨q,i⟩:=Fh I f p;obtain⟨o,j,k,n,l⟩:=g.isList;exact#[_,Reads.list j k l<|by simpa using i]
def YK(X:Cx)(a:Bool):R2:=λx y H Q=>∃d e,Ff X H x d/\Ff X H y e/\rC d=true/\rC e=true/\oJ d e=true/\Q (.bl<|if a then !PySem.Spec.same d e else j5 d e) H
def Ws(c:X.A.units+64<jS):Ai X (iX .Eq) (YK X false):=by intro a s b H x y v u Q I f g h;obtain⟨d,e,i,j,k,l,m,q⟩:=h;obtain⟨p,n⟩:=i a b s v I f;obtain⟨r,o⟩:=j a b s u I g;exact eq_dataH_same n o k l c m #[.bl _,H,I,rfl,q]
def Wt(c:X.A.units+64<jS):Ai X (iX .NotEq) (YK X true):=by intro a s b H x y v u Q I f g h;obtain⟨d,e,i,j,k,l,m,q⟩:=h;obtain⟨p,n⟩:=i a b s v I f;obtain⟨r,o⟩:=j a b s u I g;exact ne_dataH_same n o k l c m #[.bl _,H,I,rfl,q]
def Ig:xZ X (.builtin "isinstance") (λa H Q=>∃(x:V)(T:String)(t:cr)(b:Bool),a=[x,.ty T]/\zn X.K H x t/\qg X.K t (.type T)=↑b/\Q (.bl b) H):=by intro c s j H a k Q I r h;obtain⟨x,T,t,b,rfl,d,e,q⟩:=h;obtain⟨u,v,rfl,f,g⟩:=vals2 r;cases g;exact MZ I f d e λi=>#[.bl b,H,I.tok i,rfl,q]
def YL:V->V->Hp->VK->Prop:=λo i H Q=>∃(p:ci)(a:List V)(k:Int)(v:V),o=.ref p/\i=.int k/\H p=↑(.lst a)/\0<=k/\a[k.toNat]?=↑v/\Q v H
def O6:Ye X YL:=by intro a s w H o i x y Q I c d h;obtain⟨p,z,k,v,rfl,rfl,e,f,b,q⟩:=h;cases c;obtain⟨t,rfl⟩:=d;refine e1a3 (I.list<|vJ.of (K:=X.K) e) λg r j A=>?_;refine e1a2 (r.get b) λu l m=>?_;have B:=Dm;have n:=(List.getElem?_eq_some_iff.mp b).1;exact wpAny_getItem_list j.isList f q0a (by simpa using l) #[v,H,I,m,q]
noncomputable abbrev Ex(X:Cx)(a:lh)(d:List (Str×ci))(e:List Str)(b:gn)(c:Hp)(C:ci)(f:List ci)(g:List (ci×Obj)):Cx :=
 { X with N:=e,s₀:=b,H₀:=c,env:=sr a d C X.env,outer:=X.stack,stack:=X.stack,ex:=f,fn:=λ_=>false,pn:=g,xe:=λ_ _=>False}
structure yh(X:Cx)(scope:lh)(cl:List (Str×ci))(T Fr:List Str)(idx:List Nat):Prop where
 kind:scope.kind=.function
 YM:nK scope X.env=pure cl
 AH:∀y∈scope.names,y.2≠.cell
 names:∀y∈scope.names,y.2=.local->scope.names.lookup y.1=some .local
 sub:∀x c,cl.lookup x=↑c->X.env.cells.lookup x=↑c
 frl:∀y∈scope.names,y.2=.free->∃c,cl.lookup y.1=↑c
 fr:∀(j:Nat)(x:Str),Fr[j]?=↑x->∃i c,idx[j]?=↑i/\X.N[i]?=↑x/\(X.env.kindOf x=some .cell\/X.env.kindOf x=some .free)/\cl.lookup x=↑c/\((og scope X.env).names.lookup x=some .cell\/(og scope X.env).names.lookup x=some .free)
 len:idx.length=Fr.length
noncomputable def wG(T:List Str)(a:List Nat)(b:St):St:=T.map (λ_=>none)++a.map λi=>b[i]?.join
def lookup_mem{β:Type}:∀{l:List (Str×β)} {x:Str} {v:β},l.lookup x=↑v->(x,v)∈l:=by
 intro l
 induction l with
 |nil=>intro _ _ h;cases h
 |cons p r ih =>
  intro x v h;obtain⟨y,z⟩:=p;rw[hI]at h
  cases q:x==y with
  |true =>
   rw[q]at h;cases h;rw[eq_of_beq q];exact gk
  |false =>
   rw[q]at h;exact gl _<|ih h
def yh.has{l:List Str}(B:yh X a m T l idx)(h:(og a X.env).names.lookup x=some .cell\/(og a X.env).names.lookup x=some .free):∃c,m.lookup x=↑c:=by
 have d:∃k,(x,k)∈(og a X.env).names/\(k=.cell\/k=.free):=by
  rcases h with h|h
  ·exact#[_,lookup_mem h,.inl rfl]
  ·exact#[_,lookup_mem h,.inr rfl]
 obtain⟨k,d,o⟩:=d;obtain⟨⟨n,f⟩,i,e⟩:=List.mem_map.mp d;dsimp only at e
 have:n=x/\f=.free:=by
  by_cases b:(f==NameKind.free&&X.env.scope.kind==ScopeKind.function&&X.env.kindOf n==↑NameKind.cell)=true
  ·rw[f9 b]at e;have g:n=x:=congrArg Prod.fst e;simp only[hR,beq_iff_eq]at b;exact#[g,b.1.1]
  ·rw[gc b]at e;have g:n=x:=congrArg Prod.fst e;have j:f=k:=congrArg Prod.snd e;rcases o with q|q
   ·exact gA (j.trans q)<|B.AH _ i
   ·exact#[g,j.trans q]
 obtain⟨rfl,rfl⟩:=this;exact B.frl _ i rfl
def xf.Vk(x:xf P w H h)(f:H a=none)(d:vv P w (upd H a o) h a o):xf P w (upd H a o) h:=λb u e=>by
 by_cases g:b=a
 ·subst g;rw[ul]at e;cases e;exact d
 ·rw[ui g]at e;exact(x b u e).CC (λ_ _ _ q=>q) (λc q=>by rw[ui<|uu q f];exact q) λc i q=>by rw[ui<|uu q f];exact q
section
variable{X:Cx}{elt iter tg:hZ}{scope:lh}{cl:List (Str×ci)}{T Fr:List Str}{idx:List Nat}{wi:TI}{g:TG}{tt:TT}{te:TE}{pos:Pos}{ifs:List hZ}
def Wu(X:Cx)(ifs:List hZ)(tt:TT):Prop:=∀(a:List (ci×Obj)) (s:gn) (b:St) (H:Hp) (Q:Bool->Hp->Prop),Inv X a b H s->tt b H Q ->
 gu (gv X.prog X.w) X.A (forIn ifs true λc r=>if r=true then do let ok <- qd c X.env (eval c X.env);pure (l6 ok) else pure (l6 r)) (TP X a b Q) X.xe s
def SS:Wu X [] (λ_ H Q=>Q true H):=λ_ _ _ H _ I h=>rD #[H,I,h]
def SU(h:PT X c b):Wu X [c] b:=λa s d H Q I q=>wpAny_tests_one<|h a s d H Q I q
def O7(u:Nat->gn->Prop)
 (y:∀n s,u n s->gu (gv a w) A (pyNext H) (λr b=>match r with
 |none=>R (.ok .next) b
 |some v=>gu (gv a w) A (rA target H v) (λ_ f=>gu (gv a w) A (rS target e v) (λ_ i =>
 gu (gv a w) A (forIn ifs true λc r=>if r=true then do let z <- qd c e (eval c e);pure (l6 z) else pure (l6 r)) (λz d =>
 if z=true then gu (gv a w) A (eval elt e) (λx j=>gu (gv a w) A (call (.builtin "list.append") [G,x]) (λ_ k=>∃m,m<n/\u m k) (λ_ _=>False) j) (λ_ _=>False) d
 else ∃m,m<n/\u m d) (λ_ _=>False) i) (λ_ _=>False) f) (λ_ _=>False) b) (λ_ _=>False) s)
 (n:Nat) (h:u n s):lO (gv a w) A (.compLoop (.ListComp elt [#[target,iter,ifs,0]] scope pos) 0 H G e) R s:=by
  refine codeAny_loop rfl u (λn s J=>?_) n h
  refine wpAny_noted ?_
  rw[compTurn_list]
  have l:∀{I:Type} {t:Sem I} {Q:I->gn->Prop} {E:cr->gn->Prop} {s:gn},gu (gv a w) A t Q (λ_ _=>False) s->gu (gv a w) A t Q E s:=λh=>iA h (λ_ _ q=>q) λ_ _ q=>q.elim
  refine am<|mG<|am<|l<|uY (y n s J) λr b o=>?_
  cases r with
  |none=>exact l<|ap o
  |some v =>
    refine am<|l<|uY o λ_ f B=>am<|l<|uY B λ_ i C=>am<|l<|uY C λz d p=>?_
    cases z with
    |false=>exact l<|ap #[rfl,p]
    |true=>exact am<|am<|l<|uY p λx j D=>am<|l<|uY D λ_ k F=>ap<|ap #[rfl,F]
end
structure Wv(X:Cx)(c P:ci):Prop where
 code:X.env.code=.ref c
 hd:qk X.base c P
 blt:∃bm ob,X.mg "__builtins__"=↑(.ref bm)/\bm≠nE/\X.base.get? bm=↑ob/\ob.cls=.type "module"/\ob.dict=↑nE/\ob.data=.plain
def TabAt(H:Hp)(P:ci):Prop:=∃a,H P=↑(.Ew a)/\tm a.toList
def A5{a b:Int}:∀(l:List cr),tm l->tm (l++[.int a 0,.int b 0,c])
 | [],_=>trivial
 | .int _ _::.int _ _::_::r,h=>A5 r h
noncomputable def yO(a b:List Int):Bool:=(a.zip b).all λp=>decide<|p.1<p.2
def SV(a b:List Int):(gL<|min a.length b.length).all (λj=>decide<|a.getD j 0<b.getD j 0)=yO a b:=by
 unfold yO;rw[lq,nQ,nQ];constructor
 ·intro h p f;obtain⟨j,c⟩:=kM f;obtain⟨d,e⟩:=List.getElem?_zip_eq_some.mp c;have l:=(List.getElem?_eq_some_iff.mp d).1;have m:=(List.getElem?_eq_some_iff.mp e).1;have:=h j<|List.mem_range.mpr q0a;rw[iO,iO,d,e]at this;exact this
 ·intro h j c;have c:=List.mem_range.mp c;have g:a[j]?=↑(a.getD j 0):=by rw[iO,iU q0a];rfl
  have i:b[j]?=↑(b.getD j 0):=by rw[iO,iU q0a];rfl
  have k:(a.zip b)[j]?=↑(a.getD j 0,b.getD j 0):=List.getElem?_zip_eq_some.mpr #[g,i];exact h _<|jg k
def JP(S:Hp->ci->List V->Prop)(P:ci)(g:TA):TE:=λh H Q=>g h H λi c=>∃(a b:ci)(e f:List Int),i=[.ref a,.ref b]/\S c a (e.map V.int)/\S c b (f.map V.int)/\TabAt c P /\
 ∀d,(∀b o,b≠P->c b=↑o->d b=↑o)->(∀b,b≠P->c b=none->d b=none)->TabAt d P->Q (.bl<|yO e f) d
abbrev YN(K:ga)(P:ci)(a:TA):TE:=JP (vJ K) P a
abbrev Ww(K:ga)(P:ci)(a:TA):TE:=JP (yD K) P a
structure O8(X:Cx)(S:Hp->ci->List V->Prop)(P:ci):Prop where
 go:∀{pins:List (ci×Obj)} {σ:St} {H1:Hp} {s1:gn} {a b:ci} {us vs:List V} {ps:Array cr},Inv X pins σ H1 s1->X.A.handled=none->S H1 a us->S H1 b vs->H1 P=↑(.Ew ps) ->
  ∃ia ib:List cr,Vals us ia/\Vals vs ib/\a<⇑s1/\b<⇑s1/\a≠P/\b≠P/\∀(Q:cr->gn->Prop)(E:cr->gn->Prop),
   (∀h2 St Mid,(∀A':iW,A'.handled=none->WalksU X.prog X.w A' (⇑s1+4) [⇑s1+4,⇑s1+2,⇑s1+3,⇑s1,⇑s1+1,a,b] [⇑s1+4,⇑s1+3,⇑s1,⇑s1+1] (min ia.toArray.size ib.toArray.size) (λi vals=>∃x y,ia.toArray[i]?=↑x/\ib.toArray[i]?=↑y/\vals=#v[x,y]) St Mid) ->
    St 0 h2->h2.objs.size=⇑s1+5->(∀c o,s1.heap.get? c=↑o->h2.get? c=↑o)->Q (.ref (⇑s1+4)) { s1 with heap:=h2})->gu (gv X.prog X.w) X.A (call (.type "zip") [.ref a,.ref b]) Q E s1
def Inv.tabled{s':gn}{a:Array cr}(I:Inv X g m H s)(i:H P=↑(.Ew l))(p:s'.os=s.os)(r:mE s'.gens)
 (k:∀b o,b≠P->s.heap.get? b=↑o->s'.heap.get? b=↑o)(e:s'.heap.get? P=some { cls:=.none,data:=.fields (l++a)}):Inv X g m (upd H P<|.Ew<|l++a) s':=by
  have j:∀b,H b=none->b≠P:=λb n z=>by rw[z,i]at n;cases n
  have h:∀b u,H b=↑u->(∀q,u≠.Ew q)->b≠P:=λb u n f z=>by rw[z,i]at n;cases n;exact f _ rfl
  refine I.U0 (ch:=[]) p #[λb o q n _ _=>k b o (j b n) q,λb o q n _ _=>#[o.slots,k b o (j b n) q],λb o q n _=>by rw[ui<|j b n];exact n,λb o q _=>?_,λb t q=>by rw[ui<|h b _ q<|λ_ z=>nomatch z];exact q,λb o u q=>by rw[ui<|h b _ q<|λ_ z=>nomatch z];exact q,λb A q=>?_] (λb u q=>?_) r λb d=>by cases d
  · by_cases d : b = P
    · rw[d]; exact#[_, e]
    · exact#[o, k b o d q]
  · by_cases d : b = P
    · subst d
      rw[i]at q
      cases q
      exact#[a,ul]
    · exact#[#v[], by rw[ui d, q]; simp]
  · by_cases d : b = P
    · subst d
      rw[ul]at q
      cases q
      exact e
    · rw[ui d]at q
      refine(I.vc b u q).CC (λc v w z=>k c v ?_ z) (λc z=>by rw[ui<|h c _ z<|λ_ y=>nomatch y];exact z) λc t z=>by rw[ui<|h c _ z<|λ_ y=>nomatch y];exact z
      rcases w with y|y
      · rw[y]; exact d
      · exact h c _ y<|λ_ x => nomatch x
def O9{s:gn}{a:Env}{i j:Int}(d:a.scope.kind=.function)(g:a.kindOf b=some .local)(k:a.kindOf c=some .local)(e:s.heap.Ns a.locals m)
 (l:m b=↑(.int i t))(n:m c=↑(.int j u))(o:(b==("__debug__":Str))=false)(p:(c==("__debug__":Str))=false)(h:Q (.bool<|decide<|i<j) s):gu (gv f w) A (eval (.Compare (.Name b q) [.Lt] [.Name c r] v) a) Q E s:=by
  refine rR (oU (jX d g e l<|oU (jX d k e n<|lt_int h) p) o)<|wB _
def Ih(Z:O8 X S P)(aC:X.calm=true)(G:Wv X c P)(ae:X.A.depth<rV)(aD:Gl X "all")(aj:X.mg "all"=none)(aE:Gl X "zip")(aF:X.mg "zip"=none)(af:PA X [e1,e2] ta)
 (hk:n.kind=.function) (aG:n.isCoroutine=false) (ag:nK n X.env=pure []) (ah:∀y∈n.names,y.2≠.cell) (h0:n.names.lookup (".0":Str)=↑NameKind.local) (ao:n.names.lookup xa=some .local) (aq:n.names.lookup xb=some .local) (aH:xa≠xb)
 (da:(xa==("__debug__":Str))=false) (db:(xb==("__debug__":Str))=false)
 (aI:gf [e1,e2] X.env=(false,eval e1 X.env)::gf [e2] X.env:=by rfl) (aJ:(iN p3<|gf [e2] X.env).any (·.1)=false:=by rfl) :
    PE X (.Call (.Name "all" p1) [.GeneratorExp (.Compare (.Name xa q1) [.Lt] [.Name xb q2] q3) [#[.Tuple [.Name xa pa,.Name xb pb] kt pt,.Call (.Name "zip" p2) [e1,e2] [] p3,[],0]] n E] [] p4) (JP S P ta):=by
  intro p s σ H Q I h
  have hh:X.A.handled=none:=I.ok.hd aC
  refine jQ<|yI I aD aj boot_all<|oQ ?_ rfl rfl
  refine jt<|wpAny_GeneratorExp_walksQTD hh aG ag ah h0 ao aq aH hk ae (jQ<|yI I aE aF boot_zip<|jv (uY (af p3 p s σ H _ I h) λus m z9=>e2a3 z9 λvs H1 I1 r1 q1=>?_) aI aJ)<|λ_=>rfl
  obtain⟨a,b,ns,ms,rfl,ha,f,⟨U,hP,tr⟩,q⟩:=q1
  obtain⟨ua,ub,rfl,ra,rb⟩:=vals2 r1
  cases ra
  cases rb
  obtain⟨ia,ib,va,vb,aK,aL,aP,bP,aM⟩:=Z.go I1 hh ha f hP
  have B:m.heap.get? P=↑(qm U):=I1.vc P _ hP
  have ar:P<⇑m:=gp B
  refine aM _ _ λh2 St au W av aN k2=>?_
  refine(W X.A hh).self 0 { m with heap:=h2} _ _ av ?_
  have I2:Inv X p σ H1 { m with heap:=h2}:=I1.kept (t':=m.toks) k2
  refine#[I2.nolimit,?_]
  have aw:qk h2 c P:=G.hd.keeps λb o e=>I2.bk b o e
  have ax:=aw.code (k2 P _ B) tr
  have aO:=aw.tab<|k2 P _ B
  obtain⟨bm,ob,b1,b2,b3,b4,b5,b6⟩:=G.blt
  -- an the J: the sY is U++l,all else is kept
  have Y:∀(J:cr)(D:h8)(R:Nat)(l:Array cr),(∀b o,b≠P->h2.get? b=↑o->D.get? b=↑o)->h2.objs.size<=D.objs.size->D.get? P=some { cls:=.none,data:=.fields (U++l)}->tm (U++l).toList ->
      gu (gv X.prog X.w) X.A (builtinsFor X.env.globals X.env.builtins) (λbi d=>∃I fp wr r Pt L au pz F,gF (⇑m+4)=.ref I/\(∀A':iW,A'.handled=none->WalksU X.prog X.w A' I fp wr r Pt L au)/\(∀i M,Pt i M->∃va vb,M=#v[va,vb])/\L 0 d.heap/\(∀b∈fp,b<⇑d)/\d.heap.NoLimit/\qD∉wr /\
          (∀N:h8,(∀b o,d.heap.get? b=↑o->N.get? b=↑o) ->
            QuietGenTD X.prog X.w (genEnv n [] ⇑d J bi X.env) xa xb [] (.Compare (.Name xa q1) [.Lt] [.Name xb q2] q3) (gL ⇑d) wr Pt pz F N (X.A.depth+1) (X.A.units+8)) /\
          (∀a C R gs,gs.bare=true->⇑d<a->C.objs.size=a+1->(∀b o,d.heap.get? b=↑o->C.get? b=↑o) ->
            WalksS X.prog X.w X.A.in4 a (a::⇑d::gL ⇑d) (⇑d::wr) (GenOnlyQ d.gens.size) (passing pz r 0).length
              (λj y=>∃i,(passing pz r 0)[j]?=↑i/\F i y) (GenAt X.prog X.w X.A.in4 a d.gens.size ⇑d (gL ⇑d) wr pz r F) ->
            GenAt X.prog X.w X.A.in4 a d.gens.size ⇑d (gL ⇑d) wr pz r F 0 { d with gens:=d.gens.push gs,toks:=R,heap:=C} ->
            gu (gv X.prog X.w) X.A (tH []) (λus ak=>gu (gv X.prog X.w) X.A (call (.builtin "all") (.ref a::us)) (EP X p σ Q) X.xe ak) X.xe { d with gens:=d.gens.push gs,toks:=R,heap:=C})) X.xe { m with heap:=D,toks:=R}:=by
    intro J D R l k3 aQ e3 aR
    have I3:Inv X p σ (upd H1 P<|.Ew<|U++l) { m with heap:=D,toks:=R}:=Inv.tabled (s:={ m with heap:=h2}) (s':={ m with heap:=D,toks:=R}) I2 hP rfl I2.bare k3 e3
    have ay:=I3.bk
    refine wpAny_builtinsFor (by rw[I3.ok.glob];exact I3.mod.glob.keeps ay) b1 b2 (ay _ _ b3) b4 b5 b6 ?_
    have nz:∀k,⇑m+k≠P:=λk=>iK<|gG ar<|nW _ _
    have aS:qD<⇑m:=by obtain⟨mc,hn,_⟩:=I1.nolimit;exact hn.lt
    have aa:=va.length
    have ab:=vb.length
    rw[gm]at aa ab
    have aT:∀(i:Nat)(x:cr),ia.toArray[i]?=↑x->∃t,x=.int (ns.getD i 0) t:=λi x hx=>qi (zW va) i x (by simpa using hx)
    have aU:∀(i:Nat)(x:cr),ib.toArray[i]?=↑x->∃t,x=.int (ms.getD i 0) t:=λi x hx=>qi (zW vb) i x (by simpa using hx)
    have u:∀k,k<5->⇑m+k<D.objs.size:=λk hk=>gG (Nat.add_lt_add_left hk _)<|gW (pU aN.symm) aQ
    refine#[_,_,_,_,_,_,_,(λ_=>true),(λi y=>y=.bool (decide<|ns.getD i 0<ms.getD i 0)),rfl,W,λi M z9=>e2a3 z9 λx y _ _ e=>#[x,y,e],(W X.A hh).frame _ _ _ av λb f o e=>k3 b o ?_ e,λb f=>?_,I3.nolimit,?_,λN a1=>?_,λg h5 aV gs gb g1 g2 k5 WS GA=>?_]
    · simp only[gO, gP, lm]at f
      rcases f with z|z|z|z|z|z|z<;>rw[z]
      · exact nz 4
      · exact nz 2
      · exact nz 3
      · exact nz 0
      · exact nz 1
      · exact aP
      · exact bP
    · simp only[gO, gP, lm]at f
      rcases f with z|z|z|z|z|z|z<;>rw[z]
      · exact u 4 q0q
      · exact u 2 q0q
      · exact u 3 q0q
      · exact u 0 q0q
      · exact u 1 q0q
      · exact mJ aK<|u 0 q0q
      · exact mJ aL<|u 0 q0q
    · intro f
      simp only[gO,gP,lm]at f
      have T:∀k,qD≠⇑m+k:=λk=>gB<|gG aS<|nW _ _
      rcases f with z|z|z|z
      · exact T 4 z
      · exact T 3 z
      · exact T 0 z
      · exact T 1 z
    · refine#[λA' E' i az aA s2 m2 _ _ _ _ _ _ _ _ => rD #[rfl, s2.heap, s2.toks, rfl, λ_ _ e => e], λA' E' i az aA s2 m2 hA _ _ aW _ hn aj aX _ => ?_]
      obtain⟨x,y,hx,hy,e⟩:=aW
      obtain⟨ex,ey⟩:az=x/\aA=y:=by simpa using congrArg rr e
      subst ex ey
      obtain⟨t1,rfl⟩:=aT i _ hx
      obtain⟨t2,rfl⟩:=aU i _ hy
      exact O9 hk ao aq hn aj aX da db #[rfl,s2.heap,s2.toks,rfl,λ_ _ e=>e]
    · have ai : passing (λ_ => true) (min ia.toArray.size ib.toArray.size) 0 = gL (min ia.toArray.size ib.toArray.size) := by
        unfold passing
        simp
      rw[ai]at WS
      have W1:=WS.in4_1
      refine kq<|call_all_walkS<|W1.self 0 _ _ _ GA ⟨g,_,_,_,_,_,_,(λj=>decide<|ns.getD j 0<ms.getD j 0),rfl,W1,GA,λj v s7 Q' E' hv hq=>?_,λs7 mv=>?_⟩
      · obtain⟨i, hi, rfl⟩ := hv
        have:i=j:=by
          obtain⟨hl,he⟩:=List.getElem?_eq_some_iff.mp hi
          rw[List.getElem_range]at he
          exact he.symm
        subst this
        exact jC hq
      · have k7 : ∀b o, b<D.objs.size -> (∀k, b ≠ ⇑m+k) -> D.get? b = some o -> s7.heap.get? b = some o := λb o f hn e => mv.heap b o (by
          simp only[gO,gP,lm,oZ]
          exact#[gB f,hn 4,hn 3,hn 0,hn 1]) (k5 b o e)
        have O:∀b,b<⇑m->∀k,b≠⇑m+k:=λb f k=>gB<|gG f<|nW _ _
        have e7:s7.heap.get? P=some { cls:=.none,data:=.fields (U++l)}:=k7 P _ (gp e3) (O P ar) e3
        have I7:Inv X p σ (upd H1 P<|.Ew<|U++l) s7:=Inv.tabled I1 hP mv.os (AllBare.movedS (s:={ m with heap:=h5,gens:=m.gens.push gs,toks:=aV}) (I1.bare.push gb) mv) (λb o f e=>k7 b o (gp<|k3 b o f<|k2 b o e) (O b<|gp e)<|k3 b o f<|k2 b o e) e7
        refine#[.bl _,_,I7,rfl,?_]
        have al:(gL (gL<|min ia.toArray.size ib.toArray.size).length).all (λj=>decide<|ns.getD j 0<ms.getD j 0)=yO ns ms:=by
          rw[kD,gy,gy,<- aa,<- ab]
          exact SV ns ms
        rw[al]
        exact q _ (λb o f e=>by rw[ui f];exact e) (λb f e=>by rw[ui f];exact e) #[_,ul,aR]
  cases aB:codeAmong E U.toList with
  |none =>
    refine wpAny_genexprCodeX G.code ax aO aB λc' D R hx aY aZ _ _ a0 _=>?_
    refine Y (.ref c') D R #v[kP E.line,kP E.col,.ref c'] (λb o f e=>hx b o f e) (gW aY<|kU aZ) a0.2 ?_
    rw[oY]
    exact A5 _ tr
  |some cv =>
    refine wpAny_genexprCode_hit G.code ax aB ?_
    have:=Y cv h2 m.toks #v[] (λb o _ e=>e) (gg _) (by simpa using k2 P _ B) (by simpa using tr)
    exact this
def a02:O8 X (vJ X.K) P:=#[λ{v M H1 j a b N O A} m R B C D=>by
 refine e1a3 (m.list B) λx F d S=>?_;refine e1a3 (m.list C) λy G f T=>?_;have i:j.heap.get? P=↑(qm A):=m.vc P _ D
 have h:∀(l:ci)(g:Array cr),j.heap.IsList l g->l≠P:=λl g n=>e1a3 n λo e c _ z=>by rw[z,i]at e;cases e;cases c
 have k:∀(l:ci)(g:Array cr),j.heap.IsList l g->l<⇑j:=λl g n=>e1a2 n λo e _=>gp e;refine#[x,y,F,G,k _ _ d.isList,k _ _ f.isList,h _ _ d.isList,h _ _ f.isList,λQ E H=>call_zip_2 d.isList f.isList λI J p q r s t u=>?_]
 exact H I _ _ (λU L=>(WalksT.zip2 (prog:=X.prog) (w:=X.w) L _ _ _ _ _ _ _ (zipApart_new (k _ _ d.isList) (k _ _ f.isList)) x.toArray y.toArray).toU) #[J,p,#[_,_,q],r,s,d.isList.at λo e=>u _ o e,f.isList.at λo e=>u _ o e] t u]
def Np{K:ga}{k:Nat}{f:gn}{C:List cr} 
 (KX:K.In f.heap) (I:f.heap.Ns gC U) (hb:f.heap.Ns nE mb) (ab:∀x:Str,x≠"__name__"->mb x=md x) (J:f.heap.NoLimit) (hg:f.gens=#v[])
 (D:f.heap.get? a=some { cls:=.type "list",data:=.seq C.toArray}) (hi:kg C X) (hl:X.length<=gh) (hr:vM k qz)
 (hT:f.heap.TableAt c tab #v[]) (ae:K.lookup tab=none)
 (F:∀base:h8,K.In base->base.Ns gC U->(∀b o,f.heap.get? b=↑o->o.cls≠.type "list"->o.cls≠.none->base.get? b=↑o)->uR P w K U base CX k fa fd [x] sp) (E:∀(s:gn)(u:cr),rK s fd #[[u],[]] [(x,u)])
 (af:∀H:Hp,vJ K H a (X.map V.int)->H tab=↑(.Ew #v[])->sp [.ref a] H (λv _=>v=.bl true) λ_ _ _=>False)
 (ag:∀H e j,CX [] H f (λ_ _ _=>False) e j->False) :
    lO (gv P w) qz (.call (.ref fa) #[[.ref a],[]]) (λr j=>r=.ok (.ret<|.bool true)/\OldK f.heap j.heap/\j.os=f.os/\mE j.gens) f:=by
  have rv:=Fb hi
  have L:=hi.length
  have l:f.heap.get? tab=some { cls:=.none,data:=.fields #v[]}:=hT.2
  have nat:a≠tab:=λz=>by rw[z,l]at D;cases D
  -- from an abstract ah in aa nothing ai the Y and the sY aj be M
  have core:∀H:Hp,(∀b,H b=none\/(b=a/\∃o xs,H b=↑(.Jg o<|.lst xs))\/(b=tab/\H b=↑(.Ew #v[])))->vJ K H a (X.map V.int)->H tab=↑(.Ew #v[])->xf P w H f.heap->(H a≠none->K.lookup a=none) ->
      lO (gv P w) qz (.call (.ref fa) #[[.ref a],[]]) (λr j=>r=.ok (.ret<|.bool true)/\OldK f.heap j.heap/\j.os=f.os/\mE j.gens) f:=by
    intro H Z hS N O hK
    have freeOf:∀{b:ci} {o:Obj},f.heap.get? b=↑o->o.cls≠.type "list"->o.cls≠.none->H b=none:=λ{b o} e c1 c2=>by
      rcases Z b with z|⟨z,_⟩|⟨z,_⟩
      · exact z
      · rw[z, D]at e; cases e; exact gA rfl c1
      · rw[z, l]at e; cases e; exact gA rfl c2
    have y:∀{b:ci} {m:Str->Option cr},f.heap.Ns b m->(HF f.heap H).Ns b m:=λ{b m} z9=>e3a3 z9 λo es ep e d r=>by
      refine#[o,es,ep,Dh e ?_,d,r]
      rcases Z b with z|⟨z,_⟩|⟨z,_⟩
      · exact z
      · rw[z, D]at e; cases e; have d' : Data.seq C.toArray _ = Data.dict es ep := d; cases d'
      · rw[z, l]at e; cases e; have d' : sA #v[] = Data.dict es ep := d; cases d'
    have Q:K.In (HF f.heap H):=λb o e=>Dh (KX b o e) (by
      rcases Z b with z|⟨z,_,_,z2⟩|⟨z,_⟩
      · exact z
      · rw[z]at e z2; rw[hK<|by rw[z2]; simp]at e; cases e
      · rw[z, ae]at e; cases e)
    have hM:Mod K U (HF f.heap H):=#[Q,y I,#[mb,y hb,ab],e1a2 J λmc h1 h2=> #[mc,y h1,h2]]
    have e0:HQ P w K U (HF f.heap H) qz [] f H:=#[rfl,hM,λb o e=>R6 e,pU<|MQ _ _,trivial,λb hb=>gA (show b∈([]:List ci) from hb) q0o,O,.of_eq hg]
    refine jp ((F _ Q (y I) λb o e c1 c2=>Dh e<|freeOf e c1 c2).run qz [] f H ⟨[.ref a],[]⟩ [.ref a] [.ref a] _ _ hr e0 (E f<|.ref a) (.cons rfl .nil)<|af H hS N) λr j h=>?_
    cases r with
    |error e=>exact(ag H e j h).elim
    |ok fl =>
      cases fl with
      |next=>exact gZ h
      |brk=>exact gZ h
      |cont=>exact gZ h
      |ret u =>
        obtain⟨v,H',os,R,un,B,r',q⟩:=h
        have q':v=.bl true:=q
        subst q'
        obtain rfl:u=qv true:=r'
        have G:∀b o,f.heap.get? b=↑o->H b=none->j.heap.get? b=↑o:=λb o e n=>un.keep b o e n (by intro z;exact gA (show b∈([]:List ci) from z) q0o) q0o
        obtain⟨more,hm⟩:=un.Az tab _ N
        have S:j.heap.get? tab=some { cls:=.none,data:=.fields (#v[]++more)}:=B tab _ hm
        have p:∀b o,f.heap.get? b=↑o->b≠tab->j.heap.get? b=↑o:=λb o e n=>by
          rcases Z b with z|⟨_,ob,xs,z⟩|⟨z,_⟩
          · exact G b o e z
          · have z2 := un.Ay b ob _ z
            obtain⟨e1,_⟩:=O b _ z
            obtain⟨e2,_⟩:=B b _ z2
            rw[e]at e1;cases e1
            exact e2
          · exact gA z n
        refine#[rfl,#[λb o e=>?_,λb o e=>?_],os,R]
        · by_cases t : b = tab
          · subst t
            rw[l]at e
            cases e
            exact .inr<|.inl #[hT.isCodeTable,rfl,#v[],more,rfl,S]
          · exact .inl<|p b o e t
        · by_cases t : b = tab
          · rw[t]; exact#[_, S]
          · exact#[o, p b o e t]
  have T:∀H:Hp,vv P w H f.heap tab (.Ew #v[]):=λH=>l
  cases hk:K.lookup a with
  |some o =>
    have e:=KX a o hk
    rw[D]at e
    cases e
    refine core (λb=>if b=tab then some (.Ew #v[]) else none) (λb=>?_) (.inr #[_,C.toArray,_,hk,rfl,rfl,rfl,by rw[gy,L];exact hl,by simpa using rv]) (f9 rfl) (λb u z=>?_) λz=>gA (gc nat) z
    · by_cases g : b = tab
      · exact .inr<|.inr #[g, f9 g]
      · exact .inl<|gc g
    · by_cases g : b = tab
      · have A := (f9 g).symm.trans z
        cases A
        rw[g]
        exact T _
      · have A := (gc g).symm.trans z
        cases A
  |none =>
    refine core (λb=>if b=tab then some (.Ew #v[]) else if b=a then some (.Jg { cls:=.type "list",data:=.seq C.toArray} (.lst<|X.map V.int)) else none) (λb=>?_) (.inl<|.inr ⟨{ cls:=.type "list",data:=.seq C.toArray},(gc nat).trans<|f9 rfl⟩) (f9 rfl) (λb u z=>?_) λ_=>hk
    · by_cases g : b = tab
      · exact .inr<|.inr #[g, f9 g]
      · by_cases i : b = a
        · exact .inr<|.inl #[i, _, _, (gc g).trans<|f9 i]
        · exact .inl<|(gc g).trans<|gc i
    · by_cases g : b = tab
      · have A := (f9 g).symm.trans z
        cases A
        rw[g]
        exact T _
      · by_cases i : b = a
        · have A := ((gc g).trans<|f9 i).symm.trans z
          cases A
          subst i
          exact#[D,by rw[gm];exact hl,C,_,rv,D]
        · have A := ((gc g).trans<|gc i).symm.trans z
          cases A
structure Ii(mg:Str->Option cr)(base:h8)(c tab:ci):Prop where
 hd:qk base c tab
 blt:∃bm ob,mg "__builtins__"=↑(.ref bm)/\bm≠nE/\base.get? bm=↑ob/\ob.cls=.type "module"/\ob.dict=↑nE/\ob.data=.plain
def Pa{l:pX}{n k:Nat}{p:List Str}{XP:(Str->Option cr)->h8->Prop}{YP:il->h8->Prop}{d:DefRec}{K:Params->ga}{sp:il->ga->ci->Sp} 
 (hn:l.most=↑n) (L:n<=gh) (M:d.params.defaults=[]) (hr:vM k qz)
 (hY:∀(w:il)(h:h8),YP w h->(K w.params).In h) (z:(recsOf q).find? (λe=>e.name==tx)=↑dx)
 (F:∀(w:il)(r:Str->Option cr)(I:ci)(h:h8),(K w.params).In h->h.Ns gC r->r d.name=↑(.ref I) ->
 ∃(c j:ci)(N:hV),m4 (K w.params) tx=↑(c,j)/\(K w.params).lookup j=none/\(∀(s:gn)(u:cr),rK s N #[[u],[]] [(x,u)]) /\
 ∀i:h8,(K w.params).In i->i.Ns gC r->Ii r i c j->uR l.prog w (K w.params) r i CX k I N [x] (sp w (K w.params) j))
 (O:∀(w:il)(K:ga)(H:Hp)(a j:ci)(J:List Int),J.length<=n->vJ K H a (J.map V.int)->H j=↑(.Ew #v[])->sp w K j [.ref a] H (λv _=>v=.bl true) λ_ _ _=>False)
 (P:∀(H:Hp)(s:gn)(e:cr)(Q:gn),CX [] H s (λ_ _ _=>False) e Q->False) :
    t7 q p XP YP l.row.toRowW d [] (λf vs=>sN f vs):=by
  refine Att.HZ hn M λw ab A r mb I o pm cd ae a vs J G Y ho hd af R B t m hg=>?_
  have S:=hY w _ Y
  obtain⟨c,j,N,ht,U,hb,hF⟩:=F w r I _ S G.T.g R
  obtain⟨C,hP⟩:=PySem.W.tab_of G.T S z ht
  obtain⟨bm,ob,b1,b2,b3,X,b5,b6⟩:=G.T.bmain
  refine Np S G.T.g G.T.b G.T.builtins G.T.nolimit hg B t (gW m L) hr (C.tab hP) U (λi kb nb bk=>hF i kb nb #[?_,bm,ob,b1,b2,bk _ _ b3 (by rw[X];simp) (by rw[X];simp),X,b5,b6]) hb (λH hS hH=>O w _ H a j J m hS hH) λH e Q=>P H A e Q
  obtain⟨o,Z,D,tf,y,tg,aa,E,tt,e1,r1,r2⟩:=C
  exact#[o,Z,D,tf,y,tg,aa,E,tt,bk _ _ e1 (by rw[r1];simp) (by rw[r1];simp),r1,r2]
end L2
namespace SX
open PySem PyProof.Rows
def a03{k:Int}(S:vi w a c s.heap)(h:Q (.bool<|decide<|k∈c) { s with toks:=s.toks+1}):gu (gv b w) A (iX .In (.int k u)<|.ref a) Q E s :=
 wpAny_inSet_of (knd:=jI b w) (k:=k) (o4 _ _ _ _) rfl S.of h
def Wx{k:Int}(S:vi w a d s.heap)(room:d.length+1<=127)
 (h:∀c b e,iu a s.heap c->vi w a b c->b.Perm (if k∈d then d else k::d)->Q .none { s with heap:=c,toks:=e}) :
    gu (gv f w) A (call (.builtin "set.add") [.ref a,.int k u]) Q E s:=by
  refine im F.slot_set_add S.typeIs F.entry_set_add ?_<|F.args_set_add_2 _ _
  show gu _ _ (oK "add" #[[.ref a,.int k u],[]] >>= _) _ _ _
  refine am<|am<|ap<|ap<|am ?_
  refine Vh S room λc b e g i p _=>ap #[_,rfl,h c b e g i p]
def SY{k:Int}(S:vi w a e s.heap)
 (h:∀c b f,iu a s.heap c->vi w a b c->(if k∈e then e.Perm (k::b) else b=e)->Q .none { s with heap:=c,toks:=f}) :
    gu (gv d w) A (call (.builtin "set.discard") [.ref a,.int k u]) Q E s:=by
  refine im F.slot_set_discard S.typeIs F.entry_set_discard ?_<|F.args_set_discard_2 _ _
  show gu _ _ (oK "discard" #[[.ref a,.int k u],[]] >>= _) _ _ _
  refine am<|am<|ap<|ap<|am ?_
  unfold Builtin.Frozenset.withSetAsKey setDiscard
  refine wpAny_tryCatch ?_
  refine g8<|am<|(jI d w).pyHash (k:=k) (o4 _ _ _ _) ?_
  exact Fe (s:={ s with toks:=s.toks+1}) S λc b g i p=>ap #[_,rfl,h c b _ g i p]
def JQ(h:∀a,Cn w ⇑s a->(∀c o,s.heap.get? c=↑o->a.get? c=↑o)->Q (.ref ⇑s) { s with heap:=a}) :
  lO (gv b w) A (.call (.builtin "set.__new__") #[[.type "set"],[]]) (wants Q E) s:=by
 refine lQ<|am<|lX F.newCall_set_0<|ap #[j9 oR _,ji F.entry_set_new ?_];rw[iY oR _];unfold Builtin.«set.__new__» oH;have g:=o5;obtain⟨i,j,k,l,m⟩:=s;dsimp only;generalize d:newSet=n
 wp_walk
 subst d;refine O3 λa e f=>?_;exact ap<|h a e f
def Ij(h:∀k,vi w ⇑s [] k->(∀c o,s.heap.get? c=↑o->k.get? c=↑o)->Q (.ref ⇑s) { s with heap:=k}):gu (gv n w) A (call (.type "set") []) Q E s:=by
 obtain⟨I,J,p⟩:=F.called_set.mro;have l:=F.called_set.made;have q:=F.called_set.sub;refine lU<|lQ<|ap #[mU _ q0s,ji F.entry_type_call ?_];rw[sI (t6 "set" [] []) rfl];have v:=F.called_set.notType;have x:=F.called_set.canCreate;have y:=F.typeCall_set_0
 repeat (any_goals (first|assumption|wp_step))
 refine jp (JQ (E:=E) (Q:=λf g=>f=.ref ⇑s/\∃a,g={ s with heap:=a}/\Cn w ⇑s a/\∀c o,s.heap.get? c=↑o->a.get? c=↑o) λa j m=>#[rfl,a,rfl,j,m]) λz L b=>?_
 cases z with
 |error e=>exact b
 |ok f1 =>
  cases f1 with
  |ret f =>
   obtain⟨rfl,a,rfl,j,m⟩:=b;have t:vi w ⇑s [] a:=j.set;have B:k9 { s with heap:=a} (.ref ⇑s) "set":=vi.typeIs (s:={ s with heap:=a}) t;have C:=F.called_set.init.lookup;have D:=F.called_set.init.bind<|.ref ⇑s
   repeat (any_goals (first|assumption|wp_step))
   refine jp (mM (R:=wants (λr i=>r=.none/\i={ s with heap:=a}) E) F.called_set.init.plain F.entry_set_init<|check_set_init B ?_) λG M d=>?_
   ·obtain⟨H,u,N,O⟩:=id j;unfold Builtin.«set.__init__» noKeywords
    wp_walk
    exact#[rfl,rfl]
   ·cases G with
    |error e=>exact d
    |ok f2 =>
     cases f2 with
     |ret r =>
      obtain⟨rfl,rfl⟩:=d
      repeat (any_goals (first|assumption|wp_step))
      exact h _ t m
     |_=>exact d.elim
  |_=>exact b.elim
end SX
namespace L2
open PySem PySem.Spec PyProof.Rows SX
section
variable{X:Cx}
def Nq:xZ X (.type "set") (λa H Q=>a=[]/\∀p:ci,H p=none->Q (.ref p) (upd H p<|wC X.w p [])):=by intro b s c H a d Q I r h;obtain⟨rfl,q⟩:=h;cases r;exact Ij λe S k=>#[.ref ⇑s,_,I.laid (t':=s.toks) k (gg _)<|F7 S,rfl,q _<|I.vc.fresh<|gg _]
def a04(w:il):R2:=λx y H Q=>∃(k:Int)(a:ci)(b:List Int),x=.int k/\y=.ref a/\H a=↑(wC w a b)/\Q (.bl<|decide<|k∈b) H
def Wy:Ai X (iX .In) (a04 X.w):=by intro b s f H x y v u Q I c d h;obtain⟨k,a,g,rfl,rfl,e,q⟩:=h;obtain⟨t,rfl⟩:=c;cases d;exact a03 (yN I e) #[.bl _,H,I.tok _,rfl,q]
def Inv.sset{f:Nat}(I:Inv X c h H s)(i:H a=↑(wC X.w a k))(j:iu a s.heap g)(S:vi X.w a d g) :
  Inv X c h (upd H a<|wC X.w a d) { s with heap:=g,toks:=f} :=
 I.write (t':=f) (by rw[i];trivial) (.inl rfl) (λb u n e=>j.extBut b u n e) (e3a2 S λ_ _ _ e _=> #[_,e]) (F7 S)
def S6:XW X "set.add" (λx d H Q=>∃(a:ci)(c:List Int)(k:Int),x=.ref a/\d=[.int k]/\H a=↑(wC X.w a c)/\c.length+1<=127/\∀b:List Int,b.Nodup->b.Perm (if k∈c then c else k::c)->Q .vU (upd H a<|wC X.w a b)):=by intro e s m H x d v n Q I g i h;obtain⟨a,c,k,rfl,rfl,f,j,q⟩:=h;cases g;obtain⟨u,rfl,t,rfl⟩:=i.one;exact Wx (yN I f) j λo b r l S p=>#[.vU,_,I.sset f l S,rfl,q b S.nodup p]
def Pb:XW X "set.discard" (λx d H Q=>∃(a:ci)(c:List Int)(k:Int),x=.ref a/\d=[.int k]/\H a=↑(wC X.w a c)/\∀b:List Int,b.Nodup->(if k∈c then c.Perm (k::b) else b=c)->Q .vU (upd H a<|wC X.w a b)):=by intro e s l H x d v m Q I g i h;obtain⟨a,c,k,rfl,rfl,f,q⟩:=h;cases g;obtain⟨u,rfl,t,rfl⟩:=i.one;exact SY (yN I f) λn b o j S p=>#[.vU,_,I.sset f j S,rfl,q b S.nodup p]
def Wz(w:il)(r:V->List V->Hp->VK->Prop)(d:TE)(t:TA):TE:=λb H Q=>d b H λx c=>(∃(a:ci)(e:List Int),x=.ref a/\c a=↑(wC w a e))/\t b c λf g=>r x f g Q
variable{o e:hZ}{es:List hZ}{to:TE}{t:TA}{name:Str}{apos cpos:Pos}{id:String}{r:V->List V->Hp->VK->Prop}
def Pc(i:Slot "set" name id)(k:typeOf (.builtin id)=pure (.type "method_descriptor"))(q:XW X id r)(u:PE X o to)(y:PA X (e::es) t)
 (f:hJ o name X.env (eval o X.env)=eval o X.env:=by rfl)
 (j:((iN cpos<|gf (e::es) X.env).all (λx=>!x.1)&&(mh cpos<|jZ [] X.env).all (λx=>x.1.isSome)&&decide ((e::es).length+([]:List oX).length+(if ([]:List oX).isEmpty then 0 else 1)<30))=true:=by rfl)
 (g:(apos.endLine==cpos.line)=true:=by rfl) (z:gf (e::es) X.env=(false,eval e X.env)::gf es X.env:=by rfl) (d:(iN cpos<|gf es X.env).any (·.1)=false:=by rfl) :
    PE X (.Call (.Attribute o name apos) (e::es) [] cpos) (Wz X.w r to t):=by
  intro c s l H Q I h
  refine tO f j g rfl<|uY (u c s l H _ I h) λv A m=>e2a4 m λx B n C D E=>?_
  obtain⟨a,W,rfl,G⟩:=D
  cases C
  have S:=yN n G
  refine#["set",id,F.plainAttrs_set,i,k,S.typeIs,λb J=>?_,?_]
  · cases J
    refine e3a2 S λ_ _ _ L _=>?_
    exact#[_,L,rfl]
  have p:=y cpos c A l B _ n E
  rw[z]at p ⊢
  refine jB (by show (false||(iN cpos<|gf es X.env).any (·.1))=false;rw[d]<;>rfl)<|iZ ?_
  exact uY p λM N m=>e2a3 m λO P R T U=>q c N l P (.ref a) O (.ref a) M Q R rfl T U
end
def DK(e:ci)(d:Option ci)(h:h8):Prop:=∃o,h.get? e=↑o/\o.dict=d
def S7(o:Obj)(f:Array cr->Array cr):(o.mapFields f).dict=o.dict:=by obtain⟨c,d,a,b⟩:=o;cases a<;>rfl
section
variable{M:Model}{A:iW}{E:cr->gn->Prop}{s:gn}{base:h8}{env:Env}{outer:List Env}{L e:ci}{oe:Obj}{vs:Array cr}{a0 cls:cr}{d:Option ci}
def Vl{c:Bool}(m:A.frames=↑(env::outer))(k:s.heap.FunFrames base (env::outer))(I:env.frame=↑L)(n:s.heap.get? e=↑oe)(p:base.StaysIn s.heap)(r:base.get? e=none)(g:oe.data=.fields vs)(i:1<vs.size)(J:vs[0]?=↑a0)
 (h:∀t,Heap.NotedW base (env::outer) e oe.cls a0 (kP L) s.heap t->DK e oe.dict t->Q () { s with heap:=t}) :
    gu M A (do setField (.ref e) 1 (<- EntryCells.newEntry head (<- frameOf env) .none (kP L) .none (<- entryPlaceOf L c))) Q E s:=by
  have N:e∉(env::outer).filterMap (·.frame):=λz=>by
    obtain⟨_,o,w,O⟩:=k.mem z
    rw[n]at w;cases w;exact O _ g
  refine am<|wpAny_frameOf_fun m k I λa l=>am<|wpAny_entryPlaceOf λx j=>?_
  have B:a.get? e=↑oe:=(l.2.1 e N).trans n
  have C:base.StaysIn a:=λb o q=>(l.2.1 b λz=>by rw[(k.mem z).1]at q;cases q).trans<|p b o q
  refine am<|hW ?_<|j.sizeOk5 _ _ _ _ _
  have P:∃f:Array cr,(([head,.ref L,.none,kP L,.none]++(if x.isEmpty then j4 6 Value.none else x)).toArray=f)/\f[3]?=↑(kP L):=#[_,rfl,by first|(simp;done)|(rcases j with rfl|⟨_,_,_,_,_,_,_,rfl⟩<;>simp)]
  obtain⟨f,R,S⟩:=P
  rw[R]
  have u:=ce (h:=a) { cls:=.type "traceback",dict:=none,data:=.fields f} B
  have D:a.objs.size≠e:=iK<|gp B
  refine ml u g i<|h _ ?_ ?_
  · have F := Obj.data_mapFields g (·.setIfInBounds 1 (gF a.objs.size))
    have T:=ii (Obj.mapFields (·.setIfInBounds 1 (gF a.objs.size))) u<|Obj.isFreed_of_fields F
    have U:=(g9 (a.push { cls:=.type "traceback",dict:=none,data:=.fields f}) (Obj.mapFields (·.setIfInBounds 1 (gF a.objs.size)))<|Ne.symm D).trans<|gx a rfl
    have v:∀b o,b≠e->a.get? b=↑o->((a.push { cls:=.type "traceback",dict:=none,data:=.fields f}).update e (Obj.mapFields (·.setIfInBounds 1 (gF a.objs.size)))).get? b=↑o:=λb o z q =>
      (g9 _ _<|Ne.symm z).trans (ce _ q)
    have G:∀b o,s.heap.get? b=↑o->(∀vs,o.data≠.fields vs)->b≠e:=λb o q z y=>by rw[y,n]at q;cases q;exact z _ g
    refine#[λb o q=>v b o (λz=>by rw[z,r]at q;cases q)<|C b o q,k.of_keeps λb o q z=>?_,?_,λb o q z=>?_]
    · obtain⟨H, y⟩ := l.2.2 b o q
      exact#[_,v b _ (G b o q z) y,rfl]
    · exact#[_, _, a.objs.size, _, _, T, #[Obj.cls_mapFields _ _, by rw[Array.getElem?_setIfInBounds_ne q0q]; exact J], F, by simp[i], C.fresh, D, U, rfl, S]
    · obtain⟨H, y⟩ := l.2.2 b o q
      exact#[H,v b _ (G b o q z) y]
  · exact#[_, ii _ u<|Obj.isFreed_of_fields<|Obj.data_mapFields g _, S7 _ _]
def S8(c:A.frames=↑(env::outer))(l:s.heap.FunFrames base (env::outer))(g:env.frame=↑L)(i:s.heap.get? e=↑oe)(f:base.StaysIn s.heap)(b:base.get? e=none)(j:oe.data=.fields vs)(k:vs[1]?=some .none)(m:vs[0]?=↑a0)
 (h:∀a,Heap.HeldW base (env::outer) e oe.cls a0 L a->s.heap.UpToSlots a->DK e oe.dict a->Q () { s with heap:=a}):gu M A (tq (.ref e) env) Q E s:=by
  unfold tq
  simp only[g]
  refine am<|iD i j k ?_
  rw[gc q0q]
  exact Vl c l g i f b j (Array.getElem?_eq_some_iff.mp k).1 m λa n=>e0a4 n λo p q r y=>h a #[o,b,p,q] r y
def S9(h:A.frames=↑(env::outer))(p:env.frame=↑L)(i:kT base (env::outer) e cls a0 s.heap)(x:DK e d s.heap)
 (B:∀f,Heap.HeldW base (env::outer) e cls a0 L f->s.heap.UpToSlots f->DK e d f->Q () { s with heap:=f}):gu M A (tq (.ref e) env) Q E s:=by
  obtain⟨j,g,C,oe,vs,T,N,O,k,⟨rfl,D⟩,r,t,l,m,n,c,u⟩:=i
  obtain⟨P,v,rfl⟩:=x
  rw[k]at v;cases v
  unfold tq
  simp only[p]
  refine am<|iD k r t ?_
  rw[f9<|show (gF T != Value.none)=true from by simp]
  refine am<|iD n c u ?_
  rw[gc<|show ¬((Value.none==kP L)=true) from by simp[kP]]
  refine am<|ml n c (Array.getElem?_eq_some_iff.mp u).1 ?_
  have a:∀b,b≠T->(s.heap.update T (Obj.mapFields (·.setIfInBounds 3 Value.none))).get? b=s.heap.get? b:=λb z=>g9 _ _<|Ne.symm z
  have w:∀b o,s.heap.get? b=↑o->(∀vs,o.data≠.fields vs)->b≠T:=λb o q z y=>by rw[y,n]at q;cases q;exact z _ c
  refine Vl h (C.of_keeps λb o q z=>#[o,(a b<|w b o q z).trans q,rfl]) p ((a e<|Ne.symm m).trans k) (λb o q=>(a b λz=>by rw[z,l]at q;cases q).trans<|j b o q) g r (Array.getElem?_eq_some_iff.mp t).1 D
    λf F=>e0a4 F λG H I J y=>B f #[G,g,H,I] (λb o q z=>J b o ((a b<|w b o q z).trans q) z) y
def YO(n:base.StaysIn s.heap)(p:base.get? e=none)(C:s.heap.FunFrames base l)(D:s.heap.TracedAtW base e cls a0 H)(F:DK e d s.heap)
 (h:∀m,kT base l e cls a0 m->s.heap.UpToSlots m->DK e d m->Q () { s with heap:=m}):gu M A (setFlight (.ref e) none) Q E s:=by
  obtain⟨oe,vs,T,I,J,r,g,u,v,i,j,t,a,G⟩:=D
  obtain⟨N,w,rfl⟩:=F
  rw[r]at w;cases w
  have k:=(Array.getElem?_eq_some_iff.mp G).1
  have c:∀b,b≠T->(s.heap.update T (Obj.mapFields (·.setIfInBounds 3 ((none:Option ci).elim Value.none λf=>kP f)))).get? b=s.heap.get? b:=λb z=>g9 _ _<|Ne.symm z
  have x:∀b o,s.heap.get? b=↑o->(∀vs,o.data≠.fields vs)->b≠T:=λb o q z y=>by rw[y,t]at q;cases q;exact z _ a
  have B:=(c e<|Ne.symm j).trans r
  refine am<|iD r u v ?_
  rw[f9<|show (gF T != Value.none)=true from by simp]
  refine ml t a k<|h _ ⟨λb o q=>(c b λz=>by rw[z,i]at q;cases q).trans<|n b o q,p,C.of_keeps λb o q z=>#[o,(c b<|x b o q z).trans q,rfl],?_⟩ (λb o q z=>#[o.slots,(c b<|x b o q z).trans q]) #[_,B,rfl]
  exact#[oe,vs,T,_,_,B,g,u,v,i,j,ii _ t<|Obj.isFreed_of_fields<|Obj.data_mapFields a _,Obj.data_mapFields a _,by simp[k]]
def Aq(b:A.frames=↑(env::outer))(k:s.heap.FunFrames base (env::outer))(l:env.frame=↑L)(m:s.heap.get? e=↑oe)(c:base.StaysIn s.heap)(f:base.get? e=none)(n:oe.data=.fields vs)(o:vs[1]?=some .none)(p:vs[0]?=↑a0)
 (h:∀a,kT base outer e oe.cls a0 a->s.heap.UpToSlots a->DK e oe.dict a->Q () { s with heap:=a}):gu M A (tK env<|.ref e) Q E s:=by
  refine am<|S8 b k l m c f n o p λq g=>e0a4 g λr t u v w x=>YO (s:={ s with heap:=q}) r t u v x λy g=>e0a4 g λz B ⟨_,_,C⟩ D i j=>?_
  exact h y #[z,B,C,D] (w.trans i) j
def Pd(b:A.frames=↑(env::outer))(j:env.frame=↑L)(c:kT base (env::outer) e cls a0 s.heap)(k:DK e d s.heap)
 (l:∀a,kT base outer e cls a0 a->s.heap.UpToSlots a->DK e d a->Q () { s with heap:=a}):gu M A (tK env<|.ref e) Q E s:=by
  refine am<|S9 b j c k λm f=>e0a4 f λn o p q r g=>YO (s:={ s with heap:=m}) n o p q g λt f=>e0a4 f λu v ⟨_,_,w⟩ x h i=>?_
  exact l t #[u,v,w,x] (r.trans h) i
end
class GX where
 g:ci->Option ci->Hp->Prop
variable[GX]
structure DA(P:gY)(w:il)(outer:List Env)(H:Hp)(s:gn)(H':Hp)(C x:ci)(s':gn):Prop where
 os:s'.os=s.os
 bare:mE s'.gens
 un:Un (yC outer) [] H H' s.heap s'.heap
 vc:xf P w H' s'.heap
 dct:∃d,DK x d s'.heap/\GX.g C d H'
 fly:∃(B:h8)(a0:cr),kT B outer x (.ref C) a0 s'.heap/\∀b o,s'.heap.get? b=↑o->(H' b≠none\/∃o0,s.heap.get? b=↑o0)->b∉yC outer->B.get? b=↑o
def vd(P:gY)(w:il):Ov:=λa H s E e c=>∃(C x:ci)(b:Hp),e=.ref x/\DA P w a H s b C x c/\E (.ref C) ↑x b
def zX(x:xf P w H h)(e:H a=↑o):∃u,h.get? a=↑u:=by
 have d:∀o:HO,vv P w H h a o->∃u,h.get? a=↑u:=by
  intro o q
  cases o with
  |lst i=>obtain⟨_,_,_,_,z⟩:=q;exact#[_,z]
  |tup i=>obtain⟨_,_,_,c,z,_⟩:=q;exact#[_,z]
  |dK g=>obtain⟨_,_,_,_,c,_,_,z,_⟩:=q;exact#[_,z]
  |dT g=>obtain⟨_,_,_,_,c,_,_,z,_⟩:=q;exact#[_,z]
  |set S n=>obtain⟨c,_,_,_,z,_⟩:=q;exact#[_,z]
  |ins C j fs=>obtain⟨_,_,_,z,_⟩:=q;exact#[_,z]
  |own b=>exact q
  |xd fs=>obtain⟨k,⟨c,_,_,z,_⟩,_⟩:=q;exact#[_,z]
  |xY lo l=>obtain⟨_,_,_,z⟩:=q;exact#[_,z]
  |Jg c u=>exact#[_,q.1]
  |Ew m=>exact#[_,q]
  |met f y=>exact#[_,q]
  |ext p=>exact q.2.1
 exact d o<|x a o e
section
variable{P:gY}{w:il}{l:List Env}{H H':Hp}{s s2:gn}{B h':h8}
def Pe(u:Un (yC l) [] H H' s.heap s2.heap)(m:xf P w H' s2.heap)(g:∀b o,s2.heap.get? b=↑o->(H' b≠none\/∃D,s.heap.get? b=↑D)->b∉yC l->B.get? b=↑o)
 (i:∀b∈yC l,H' b=none/\∃o,s2.heap.get? b=↑o/\∀E,o.data≠.fields E)(p:B.StaysIn h')(F:s2.heap.UpToSlots h'):Un (yC l) [] H H' s.heap h'/\xf P w H' h':=by
  have d:∀b o,s2.heap.get? b=↑o->b∈yC l->∃r,h'.get? b=some { o with slots:=r}:=λb o e G=>by
    obtain⟨_,t,C,n⟩:=i b G
    rw[e]at C
    cases C
    exact F b o e n
  refine#[#[λb o e n f h=>?_,λb o e n f h=>?_,λb o e n h=>u.free b o e n h,λb o e h=>?_,u.AO,u.Ay,u.Az],λa o e=>?_]
  · exact p b o<|g b o (u.keep b o e n f h) (.inr #[o, e]) f
  · obtain⟨r, k⟩ := u.slot b o e n f h
    obtain⟨x,y⟩:=d b _ k f
    exact#[x,y]
  · obtain⟨t, k⟩ := u.there b o e h
    by_cases f:b∈yC l
    · obtain⟨r, y⟩ := d b _ k f
      exact#[_,y]
    · exact#[_, p b t<|g b t k (.inr #[o, e]) f]
  · have I : ∀c, H' c ≠ none -> c ∉ yC l := λc A f => A (i c f).1
    refine(m a o e).CC (λc v A q=>?_) (λ_ q=>q) λ_ _ q=>q
    have j:H' c≠none:=by
      rcases A with z|z
      · rw[z, e]; simp
      · rw[z]; simp
    exact p c v<|g c v q (.inl j)<|I c j
end
section
variable{X:Cx}{pins:List (ci×Obj)}{σ:St}{H1 H':Hp}{s1 s2:gn}{C x:ci}{B h':h8}{a0:cr}
def xi(I:Inv X pins σ H1 s1)(a:X.stack=X.env::X.outer):X.env.frame=↑X.env.locals:=by
 rcases I.ok.BE with z|z
 ·rw[a]at z;have:=congrArg ng z;simp at this
 ·exact z.2
def Nr(I:Inv X pins σ H1 s1)(a:X.stack=X.env::X.outer):yC X.stack=X.env.locals::yC X.outer:=by rw[a];unfold yC;rw[jW,xi I a]
def JR(I:Inv X pins σ H1 s1)(D:X.stack=X.env::X.outer)(hex:X.ex=[])(os:s2.os=s1.os)(m:mE s2.gens)(u:Un (yC X.stack) [] H1 H' s1.heap s2.heap)(p:xf X.prog X.w H' s2.heap)
 (r:∀b o,s2.heap.get? b=↑o->(H' b≠none\/∃k,s1.heap.get? b=↑k)->b∉yC X.stack->B.get? b=↑o) (YQ:∀b∈yC X.stack,H' b=none/\∃o,s2.heap.get? b=↑o/\∀R,o.data≠.fields R)
 (up:s2.heap.UpToSlots h')(E:kT B X.outer x (.ref C) a0 h')(F:∃d,DK x d h'/\GX.g C d H'):DA X.prog X.w X.outer X.H₀ X.s₀ H' C x { s2 with heap:=h'}:=by
  obtain⟨i,s⟩:=Pe u p r YQ E.1 up
  have t:=Nr I D
  have base:Un (yC X.outer) [] X.H₀ H1 X.s₀.heap s1.heap:=by have:=I.base;rw[hex]at this;exact this
  have L:∀b:ci,b∉([]:List ci):=λb z=>by cases z
  have old:∀b o,X.s₀.heap.get? b=↑o->b≠X.env.locals:=λb o e z=>by
    have S:=gp e
    have M:=I.ok.above
    rw[<- z]at M
    exact gA (gG S M)<|jm _
  have y:∀b o,X.s₀.heap.get? b=↑o->b∉yC X.outer->b∉yC X.stack:=λb o e n z=>by
    rw[t]at z
    rcases List.mem_cons.mp z with q|q
    · exact old b o e q
    · exact n q
  refine#[os.trans I.os,m,#[λb o e n j a=>?_,λb o e n j a=>?_,λb o e n a=>?_,λb o e a=>?_,λb N e=>?_,λb o v e=>?_,λb T e=>?_],s,F,B,a0,E,λb o e A j=>?_]
  · exact i.keep b o (base.keep b o e n j a) (base.free b o e n a) (y b o e j) a
  · obtain⟨sl, c⟩ := base.slot b o e n j a
    obtain⟨G,f⟩:=i.slot b _ c (base.free b o e n a) (by rw[t];exact gl _ j) a
    exact#[G,f]
  · obtain⟨l, c⟩ := base.there b o e a
    exact i.free b l c (base.free b o e n a) a
  · obtain⟨l, c⟩ := base.there b o e a
    exact i.there b l c a
  · exact i.AO b N<|base.AO b N e
  · exact i.Ay b o v<|base.Ay b o v e
  · obtain⟨U, c⟩ := base.Az b T e
    obtain⟨W,f⟩:=i.Az b _ c
    exact#[U++W,by rw[f,ph]]
  · have fin : ∀h, s2.heap.get? b = some h -> (H' b ≠ none \/ ∃k, s1.heap.get? b = some k) -> b ∉ yC X.stack -> B.get? b = some o := λh f H J => by
      have q:=r b h f H J
      have O:=E.1 b h q
      have Y:h'.get? b=↑o:=e
      rw[Y]at O
      cases O
      exact q
    rcases A with A|⟨k,P⟩
    · obtain⟨Q, Z⟩ : ∃Q, H' b = some Q := by
        cases z:H' b with
        |none=>exact gA z A
        |some v=>exact#[v,rfl]
      obtain⟨h,f⟩:=zX p Z
      exact fin h f (.inl A) λz=>A (YQ b z).1
    · obtain⟨l, c⟩ := base.there b k P (L b)
      obtain⟨h,f⟩:=u.there b l c<|L b
      exact fin h f (.inr #[l,c])<|y b k P j
def DA.YQ(F:DA P w l H s H' C x s2)(c:∀b∈yC l,H b=none/\∃o,s.heap.get? b=↑o):∀b∈yC l,H' b=none/\∃o,s2.heap.get? b=↑o/\∀d,o.data≠.fields d:=λb a=>by refine e2a2 F.fly λB a0 f _=>?_;obtain⟨n,o,e⟩:=c b a;exact#[F.un.free b o e n q0o,(f.2.2.1.mem a).2]
def Inv.Z4(I:Inv X pins σ H1 s1):∀b∈yC X.stack,H1 b=none/\∃o,s1.heap.get? b=↑o:=λb a=>by have c:=I.HR;exact#[c.Jc b a,e1a2 ((c.xM.mem a).2) λo e _=> #[o,e]]
def Pf(I:Inv X pins σ H1 s1)(a:X.stack=X.env::X.outer)(b:X.ex=[])(F:DA X.prog X.w X.stack H1 s1 H' C x s2) :
  gu (gv X.prog X.w) X.A (tK X.env<|.ref x) (λ_ c=>DA X.prog X.w X.outer X.H₀ X.s₀ H' C x c) E s2:=by
 have i:=F.YQ I.Z4;refine e2a2 F.fly λB a0 h e=>?_;rw[a]at h;refine e1a2 F.dct λd j k=>?_;refine Pd (by rw[I.ok.frames,a]) (xi I a) h j λh' f l g=>?_;exact JR I a b F.os F.bare F.un F.vc e i l f #[d,g,k]
end
section
variable{P:gY}{w:il}{K:ga}{mg:Str->Option cr}{base:h8}{N:List Str}{qual:Str}{scope:lh}{f:ci}{cd:cr}{A:iW}{outer:List Env}{s:gn}{H:Hp}{E:XK}
def DB:Passes (vd P w) (vg (vd P w) P w K mg base N qual scope f cd A outer s H E) E:=by intro a i j k e l I h;obtain⟨C,x,b,rfl,F,c⟩:=h;exact iA (Pf I rfl rfl F) (λ_ d g=>#[C,x,b,rfl,g,c]) λ_ _ z=>z
def yx:qO (gv P w) (vg (vd P w) P w K mg base N qual scope f cd A outer s H E).A (vg (vd P w) P w K mg base N qual scope f cd A outer s H E).env (vg (vd P w) P w K mg base N qual scope f cd A outer s H E).xe:=PassesOwn.leaving
end
variable[L2.GX]
set_option tactic.hygienic true in
def Ta{K:ga}(Z:K.In h)(y:iL K C d b=true) :
  ∃j N t q u c v e w f x z A B E F k,h.get? C=↑(i9 t q C N u j c v e w f x z A B E F b)/\h.Ns N k/\k "__init__"=none/\rP h d j:=by
 unfold iL at y;split at y
 ·rename_i G H l a
  split at y
  ·rename_i D I m n o p g r J L
   simp only[hR,beq_iff_eq,tS]at y;obtain⟨⟨⟨⟨⟨M,O⟩,P⟩,Q⟩,s⟩,R⟩:=y;subst M;subst O;obtain⟨S,T,u3,U,X,Y,u7,u8,u9,i,aa⟩:=H;subst J;subst P
   have e3:l=#v[m,n,o,p,some<|.builtin g,r]:=by obtain⟨li⟩:=l;exact congrArg Array.mk L
   rw[e3]at a;exact#[I,U,S,X,T,Y,u7,u8,u9,i,G,m,n,o,p,r,_,Z _ _ a,.of_isNs<|o6 Z s,PySem.W.nsMap_none_of_in Z s R,su Z Q]
  ·cases y
 ·cases y
def Pg(C:ci)(E:XK)(a:TA):TS:=λ_ b H=>a b H λc d=>c.length<=gh/\∀x:ci,E (.ref C) ↑x d
section
variable{P:gY}{w:il}{K:ga}{mg:Str->Option cr}{base:h8}{N:List Str}{qual:Str}{scope:lh}{f:ci}{cd:cr}{A:iW}{outer:List Env}{s:gn}{H:Hp}{E:XK}
def DC(hg:Gl (vg (vd P w) P w K mg base N qual scope f cd A outer s H E) x)(hm:mg x=↑(.ref C))(O:iL K C v i=true)
 (Y:jK B i n v) (g0:∀H',GX.g C none H') (ha:PA (vg (vd P w) P w K mg base N qual scope f cd A outer s H E) (y::p) ta) (F:(x==("__debug__":Str))=false:=by decide)
 (r:gf (y::p) (vg (vd P w) P w K mg base N qual scope f cd A outer s H E).env=(false,eval y (vg (vd P w) P w K mg base N qual scope f cd A outer s H E).env)::gf p (vg (vd P w) P w K mg base N qual scope f cd A outer s H E).env:=by rfl)
 (G:(iN d<|gf p (vg (vd P w) P w K mg base N qual scope f cd A outer s H E).env).any (·.1)=false:=by rfl) :
    PS (vg (vd P w) P w K mg base N qual scope f cd A outer s H E) (.Raise (some<|.Call (.Name x np) (y::p) [] d) none pos) (Pg C E ta):=by
  intro k s1 σ H1 D I h
  obtain⟨bm,N',nm,q,bs,l,sn,J,ab,L,dd,k0,k1,k2,k3,k5,mN,hC,hN,M,T⟩:=Ta I.mod.AN O
  have Z:=ha d k s1 σ H1 _ I h
  refine wpAny_Raise_call_subT (prog:=P) (w:=w) (C:=C) (nm:=nm) (q:=q) (N:=N') (bs:=bs) (bm:=bm) (hdct:=l) (sn:=sn) (sub:=J) (ab:=ab) (col:=L) (dd:=dd) (k0:=k0) (k1:=k1) (k2:=k2) (k3:=k3) (k5:=k5)
    Y (mN:=mN) (T.hasType Y.hasBase) (I.ok.hd rfl) (by rw[r];exact(Bool.false_or _).trans G) M (yH I hg hm #[rfl,?_] F)
  rw[r]at Z ⊢
  refine iZ<|iA Z (λus u q2=>?_) λ_ _ z=>z
  refine e2a4 q2 λvs H2 c r2 hl hE=>?_
  refine#[rfl,by show us.length<=gh;rw[<- r2.length];exact hl,c.bk _ _ hC,hN.keeps c.bk,T.keeps c.bk,λh' e a=>?_]
  have m:(vg (vd P w) P w K mg base N qual scope f cd A outer s H E).stack=(vg (vd P w) P w K mg base N qual scope f cd A outer s H E).env::(vg (vd P w) P w K mg base N qual scope f cd A outer s H E).outer:=rfl
  have fu:=c.HR.xM
  refine e1a3 a.there λt R _ _=>?_
  have S:(kZ u.heap<|yC (vg (vd P w) P w K mg base N qual scope f cd A outer s H E).stack).get? e=none:=by
    cases q:(kZ u.heap<|yC (vg (vd P w) P w K mg base N qual scope f cd A outer s H E).stack).get? e with
    |none=>rfl
    |some o=>have z:=mz _ q;rw[a.new]at z;cases z
  refine iA (Aq (base:=kZ u.heap (yC (vg (vd P w) P w K mg base N qual scope f cd A outer s H E).stack)) (a0:=.ref t) c.ok.frames
    ((qR fu λU r b j=>List.mem_filterMap.mpr #[U,r,j]).of_keeps λb o j _=>#[o,a.keeps b o j,rfl]) (xi c m) R (λb o z=>a.keeps b o (mz _ z)) S rfl rfl rfl (Q:=λ_ X=>vd P w outer H s E (.ref e) X) λaa fl up dk=>?_) (λ_ _ z=>z) λ_ _ z=>z
  refine#[C,e,H2,rfl,?_,hE e]
  refine JR (s2:=u) c m rfl rfl c.bare Un.refl c.vc (λb o z _ nf=>oB _ z nf) (λb j=>?_) ((pI a.keeps).trans up) fl #[_,dk,g0 _]
  exact#[(c.Z4 b j).1,(fu.mem j).2]
end
noncomputable abbrev hand(X:Cx)(x:ci):Cx:={ X with A:=X.A.mark<|some<|.ref x,calm:=false,xe:=λ_ _=>False}
def Inv.a06(I:Inv { X with pn:=X.pn++a} b c H s):Inv X a c H s :=
 #[#[I.ok.mod,I.ok.kind,I.ok.glob,I.ok.blt,I.ok.above,I.ok.inj,I.ok.has,I.ok.N7,I.ok.hd,I.ok.frames,I.ok.BE,I.ok.R8,I.ok.bs,I.ok.HG,I.ok.CD,I.ok.Di,I.ok.xM,I.ok.Jc],I.os,I.bare,I.base,I.loc,I.cell,I.free,I.xu,λp d=>I.pin p<|iw _ d,I.vc,I.len]
def Inv.Ph(I:Inv X a b H s):Inv (hand X x) a b H s :=
 #[#[I.ok.mod,I.ok.kind,I.ok.glob,I.ok.blt,I.ok.above,I.ok.inj,I.ok.has,I.ok.N7,(λz=>by cases z),I.ok.frames,I.ok.BE,I.ok.R8,I.ok.bs,I.ok.HG,I.ok.CD,I.ok.Di,I.ok.xM,I.ok.Jc],I.os,I.bare,I.base,I.loc,I.cell,I.free,I.xu,I.pin,I.vc,I.len]
def Inv.F9(b:X.calm=true->X.A.handled=none)(I:Inv (hand X x) a c H s):Inv X a c H s :=
 #[#[I.ok.mod,I.ok.kind,I.ok.glob,I.ok.blt,I.ok.above,I.ok.inj,I.ok.has,I.ok.N7,b,I.ok.frames,I.ok.BE,I.ok.R8,I.ok.bs,I.ok.HG,I.ok.CD,I.ok.Di,I.ok.xM,I.ok.Jc],I.os,I.bare,I.base,I.loc,I.cell,I.free,I.xu,I.pin,I.vc,I.len]
end L2
namespace SX
open PySem PyProof.Rows
def Ik:mB (.type "dict") "__len__"=pure (some<|.builtin "dict.__len__"):=by rw[mZ,kR];kernel_rfl
section
variable{prog:gY}{w:il}{K:Type}[DecidableEq K]{knd:KeyKind prog w K}{A:iW}{E:cr->gn->Prop}{s:gn}{a:ci}{ks:List Int}{wE:List (K×cr)}{ep:Nat}
def Nt(hh:A.handled=none)(G:(a==j7)=false)(D:s.heap.DictAt knd a wE ep)(hl:wE.length<=gh)(S:wE.length=ks.length)
 (hk:∀(i:Nat)(k:K)(x:cr)(v:cr),wE[i]?=↑(k,x)->knd.is k v=true->∃j u,ks[i]?=↑j/\v=.int j u)
 (h:∀T tk vs,kg vs ks->(∀c o,s.heap.get? c=↑o->T.get? c=↑o)->⇑s<=T.objs.size->Q vs { s with heap:=T,toks:=tk}):gu (gv prog w) A (collect<|.ref a) Q E s:=by
  have f:a<⇑s:=D.lt_size
  obtain⟨o0,aj,H,l,ak,al⟩:=id D
  refine am<|si<|ji td ?_
  rw[iY tj _]
  refine am (m:=newList [])<|hW<|ap #[j9 nO _,ji F.entry_list_iadd ?_]
  rw[iY nO _]
  have z:∀c o,s.heap.get? c=↑o->(s.heap.push { cls:=.type "list",data:=.seq ([]:List cr).toArray}).get? c=↑o:=λc o q=>ce _ q
  have oL:(s.heap.push { cls:=.type "list",data:=.seq ([]:List cr).toArray}).get? ⇑s=some { cls:=.type "list",data:=.seq ([]:List cr).toArray}:=gx _ rfl
  have g:(s.heap.push { cls:=.type "list",data:=.seq ([]:List cr).toArray}).objs.size=⇑s+1:=i4 _ _
  generalize s.heap.push { cls:=.type "list",data:=.seq ([]:List cr).toArray}=d at z oL g ⊢
  have D1:d.DictAt knd a wE ep:=D.at' λo q=>z a o q
  show gu _ A.in1 (pw (.ref ⇑s) (.ref a)<|.ref ⇑s) _ _ { s with heap:=d}
  have hT:k9 { s with heap:=d} (.ref a) "dict":=#[_,z a _ H,l.1]
  refine am<|j0 hT ?_
  have n1:kJ (.ref ⇑s) (.ref a)=false:=by simp[kJ,iK f]
  have n2:(jw "dict" == jw "list")=false:=by decide
  have n3:(jw "dict" == jw "tuple")=false:=by decide
  simp only[n1,n2,n3,rf,kh,oG]
  refine am<|wpAny_pyIter_dict (s:={ s with heap:=d}) G D1 ?_
  have I:∀c o,d.get? c=↑o->(d.push { cls:=.type "dict_keyiterator",data:=.fields #v[.ref a,.int 0 0,.int wE.length 0,.int ep 0]}).get? c=↑o:=λc o q=>ce _ q
  have i2:(d.push { cls:=.type "dict_keyiterator",data:=.fields #v[.ref a,.int 0 0,.int wE.length 0,.int ep 0]}).get? d.objs.size=some { cls:=.type "dict_keyiterator",data:=.fields #v[.ref a,.int 0 0,.int wE.length 0,.int ep 0]}:=gx _ rfl
  generalize d.push { cls:=.type "dict_keyiterator",data:=.fields #v[.ref a,.int 0 0,.int wE.length 0,.int ep 0]}=U at I i2 ⊢
  have p:k9 { s with heap:=U} (.ref a) "dict":=#[_,I a _<|z a _ H,l.1]
  refine am<|g8 ?_
  refine am<|o7 p Ik ?_
  generalize J:("dict.__len__":String)=X
  dsimp only
  rw[show splitId X=some ("dict","__len__") from by subst J;decide +kernel]
  subst J
  refine am<|lw (b:=true) p F.sub_dict_dict ?_
  rw[gc q0o]
  rw[f9 q0s]
  refine am<|j0 p<|ap ?_
  have Y:A.in1.handled=none:=by simp[hh]
  have ne:a≠d.objs.size:=gB<|mJ f (by rw[g];exact iV _)
  have W:=(Walks.dictKeys (knd:=knd) (A:=A.in1) Y d.objs.size a ne wE ep).toS
  have Z:⇑s∉[d.objs.size,a]:=by
    simp only[gO,gP,lm,oZ]
    exact#[by rw[g];exact gB<|iV _,iK f]
  have t:=I _ _ oL
  -- the ai,B an L aa of it
  have M:∀(C:h8)(N:Nat),C.get? ⇑s=some { cls:=.type "list",data:=.seq ([]:List cr).toArray N}->(∀c o,c≠⇑s->U.get? c=↑o->C.get? c=↑o) ->
      lO (gv prog w) A (.builtin "list.extend.loop" #[[.ref ⇑s,.ref d.objs.size,.ref ⇑s],[]]) (λr s'=>match r with
        | .ok (.ret v)=>gu (gv prog w) A (match v with
          | .ref a=>do
            let o <- load a
            match o.data with
              | .seq xs ab=>pure xs.toList
              |x=>kA "internal:collect"
          |x=>kA "internal:collect") Q E s'
        | .ok _=>False
        | .error e=>E e s') { s with heap:=C}:=by
    intro C N y k4
    have I4:C.IsKeyIter d.objs.size a 0 wE.length ep/\C.DictAt knd a wE ep:=#[#[_,k4 _ _ (by rw[g];exact iK<|iV _) i2,rfl,rfl],D1.at' λo q=>k4 _ _ (gB f)<|I _ _ q]
    refine codeAny_extend_loopS W hl _ Z _ wE.length 0 _ _ _ rfl (iz _) I4 y (ItemsOf.nil _) λs5 ae c5 R O n=>?_
    refine am<|qe O<|ap ?_
    obtain⟨h5,g5,d5,af,ag⟩:=s5
    have eg:g5=s.gens:=R.gens
    have ed:d5=s.drawn:=R.drawn
    have eo:ag=s.os:=R.os
    subst eg ed eo
    refine h h5 af ae.toList (zu ?_ λi v hv=>?_) (λc o q=>R.heap c o (by
      simp only[gO,gP,lm,oZ]
      exact#[gB (gp q),gB (gp (z c o q))]) (k4 c o (gB (gp q)) (I c o (z c o q)))) (kU (gp O))
    · rw[gr, n.1, S]
    · obtain⟨k, x, hx, ah⟩ := n.2 i v (by rw[<- hO]; exact hv)
      exact hk i k x v hx ah
  first
    | (rw[gc q0s];exact ap ⟨j9 pH _,M U 0 t λ_ _ _ q=>q⟩)
    | (rw[f9 q0s]
       refine am<|lj<|am ?_
       refine am<|pc t rfl ?_
       have P:=ii (Obj.mapSeq (·.push Value.none)) t rfl
       refine pc P rfl ?_
       have y:=ii (Obj.mapSeq (·.pop)) P rfl
       refine ap #[j9 pH _,M _ _ y λc o hc q=>(g9 _ _ (Ne.symm hc)).trans ((g9 _ _ (Ne.symm hc)).trans q)])
end
end SX
namespace L2
open PySem PySem.Spec PyProof.Rows SX
def Tb{k:Int}(h:zi (.inl k) v=true):∃u,v=.int k u:=by
 rcases vB h with⟨i,t,e,rfl⟩|⟨x,t,e,_⟩
 ·cases e;exact#[t,rfl]
 ·cases e
def WA:∀{b:List (Key×V)} {c:List (Key×cr)} (_:KV b c) (i:Nat) {k:Key} {x:cr},c[i]?=↑(k,x)->∃y,b[i]?=↑(k,y):=by
 intro _ _ z
 induction z with
 |nil=>intro i _ _ h;cases h
 |cons a t d =>
  intro i k x h
  cases i with
  |zero=>cases h;exact#[_,congrArg some<|Prod.ext a.1 rfl]
  |succ i=>exact e1a1 (d i<|by simpa using h) λy q=>#[y,by simpa using q]
def Ga(J:X.calm=true):xZ X (.builtin "sorted") (λC H Q=>∃(a:ci) (b:List (Key×V)) (c:List Int),C=[.ref a]/\H a=↑(.dK b)/\b.map (·.1)=c.map gQ/\c.length<64/\∀(p:ci)(t:List Int),H p=none->t.Perm c->t.Pairwise (·<=·)->Q (.ref p) (upd H p<|.lst<|t.map V.int)):=by
 intro E s σ H C us Q I r h;obtain⟨a,b,c,rfl,L,f,g,q⟩:=h;obtain⟨u,rfl,M⟩:=vals1 r;cases M;obtain⟨hz,l,F,G,N⟩:=I.vc a _ L;obtain⟨o,O,P,R,z,m,d⟩:=N;have D:s.heap.DictAt (uO X.prog X.w) a F P:=#[o,O,R,z,m,d];have S:b.length=F.length:=Paired.length G;have T:b.length=c.length:=by have:=congrArg ng f;simpa using this
 refine BR (λQ' k=>Nt (by simp[I.ok.hd J]) l D q0a q0a (λi U x v W A=>?_) λY Z B hi k1 sz=>k Y Z B c hi (.refl _) k1 sz) g<|AG I g q;obtain⟨y,hy⟩:=WA G i W;have n:(b.map (·.1))[i]?=↑U:=by rw[ja,hy];rfl
 rw[f,ja]at n
 cases e:c[i]? with
 |none=>rw[e]at n;cases n
 |some j =>
  rw[e]at n;cases n;obtain⟨u,hu⟩:=Tb A;exact#[j,u,rfl,hu]
end L2
namespace WL
open PySem L2
abbrev Wf(A τ PO:Type):=A->(τ->PO->Prop)->(ci->PO->Prop)->Prop
abbrev Rg:=ci->Prop
structure Ext(G R:Rg)(H:Hp)(R':Rg)(H':Hp):Prop where
 keep:∀b o,¬G b->H b=↑o->H' b=↑o
 new:∀a,R' a->R a\/H a=none
def Ext.wide(e:Ext G R H c d)(s:∀a,G a->R a):Ext R R H c d:=#[λb o n h=>e.keep b o (λg=>n<|s b g) h,e.new]
def Ext.not(e:Ext G R H b c)(n:¬R a)(h:H a=↑o):¬b a:=λz=>by
 rcases e.new a z with q|q
 ·exact n q
 ·rw[h]at q;cases q
class Rep(α:Type) where
 rp:Rg->Hp->α->V->Prop
 st:∀{R:Rg} {H:Hp} {R':Rg} {H':Hp} {x:α} {v:V},rp R H x v->Ext R R H R' H'->rp R' H' x v
open Rep (rp)
instance:Rep Int:=#[λ_ _ i v=>v=.int i,λh _=>h]
instance:Rep Bool:=#[λ_ _ i v=>v=.bl i,λh _=>h]
instance:Rep Unit:=#[λ_ _ _ v=>v=.vU,λh _=>h]
instance{α:Type}[Rep α]:Rep (Option α):=#[λR H x v=>match x with|none=>v=.vU|some y=>v≠.vU/\rp R H y v,λ{R H R' H' x v} h e=>by
 cases x with
 |none=>exact h
 |some y=>exact#[h.1,Rep.st h.2 e]]
def vC{α:Type}[Rep α]{R R':Rg}{H H':Hp}(e:Ext R R H R' H'):∀{xs:List α} {vs:List V},Paired (rp R H) xs vs->Paired (rp R' H') xs vs:=by
 intro _ _ z
 induction z with
 |nil=>exact .nil
 |cons h t ih=>exact .cons (Rep.st h e) ih
instance{α:Type}[Rep α]:Rep (List α):=#[λR H xs v=>∃a vs,v=.ref a/\¬R a/\H a=↑(.lst vs)/\Paired (rp R H) xs vs,λ{R H R' H' x v} h e=>by
 refine e2a4 h λa vs h1 h2 h3 h4=>?_
 exact#[a,vs,h1,e.not h2 h3,e.keep a _ h2 h3,vC e h4]]
instance{α β:Type}[Rep α][Rep β]:Rep (α×β):=#[λR H x v=>∃a u w,v=.ref a/\¬R a/\H a=↑(.tup [u,w])/\rp R H x.1 u/\rp R H x.2 w,λ{R H R' H' x v} h e=>by
 obtain⟨a,u,w,h1,h2,h3,h4,h5⟩:=h
 exact#[a,u,w,h1,e.not h2 h3,e.keep a _ h2 h3,Rep.st h4 e,Rep.st h5 e]]
structure Tp(α:Type) where
 l:List α
instance{α:Type}[Rep α]:Rep (Tp α):=#[λR H xs v=>∃a vs,v=.ref a/\¬R a/\H a=↑(.tup vs)/\Paired (rp R H) xs.l vs,λ{R H R' H' x v} h e=>by
 refine e2a4 h λa vs h1 h2 h3 h4=>?_
 exact#[a,vs,h1,e.not h2 h3,e.keep a _ h2 h3,vC e h4]]
class Ow(τ:Type) where
 sl:Rg->Rg->Hp->τ->Option V->Prop
 st:∀{F G R:Rg} {H:Hp} {R':Rg} {H':Hp} {x:τ} {v:Option V},sl F R H x v->Ext G R H R' H'->(∀a,G a->R a)->(∀a,F a->¬G a)->sl F R' H' x v
 fq:∀{F F' R:Rg} {H:Hp} {x:τ} {v:Option V},sl F R H x v->(∀a,F a↔F' a)->sl F' R H x v
open Ow (sl)
structure Un where
instance:Ow Un:=#[λF _ _ _ _=>∀a,¬F a,λh _ _ _=>h,λh e a z=>h a ((e a).mpr z)]
noncomputable instance a1U{α:Type}[Rep α]:Ow α:=#[λF R H x v=>(∀a,¬F a)/\∃u,v=↑u/\rp R H x u,λh e s _=>#[h.1,e1a2 h.2 λu h1 h2=> #[u,h1,Rep.st h2<|e.wide s]],λh e=>#[λa z=>h.1 a<|(e a).mpr z,h.2]]
structure OL(α:Type) where
 l:List α
instance{α:Type}[Rep α]:Ow (OL α):=#[λF R H x v=>∃a vs,v=↑(.ref a)/\(∀b,F b↔b=a)/\H a=↑(.lst vs)/\Paired (rp R H) x.l vs,
 λh e s n=>by
  refine e2a4 h λa vs h1 h2 h3 h4=>?_
  exact#[a,vs,h1,h2,e.keep a _ (n a<|(h2 a).mpr rfl) h3,vC (e.wide s) h4],
 λh e=>by
  refine e2a4 h λa vs h1 h2 h3 h4=>?_
  exact#[a,vs,h1,λb=>(e b).symm.trans (h2 b),h3,h4]]
class Sls(D:Type) where
 rel:Rg->Rg->Hp->D->St->Prop
 st:∀{F G R:Rg} {H:Hp} {R':Rg} {H':Hp} {d:D} {σ:St},rel F R H d σ->Ext G R H R' H'->(∀a,G a->R a)->(∀a,F a->¬G a)->rel F R' H' d σ
 fq:∀{F F' R:Rg} {H:Hp} {d:D} {σ:St},rel F R H d σ->(∀a,F a↔F' a)->rel F' R H d σ
open Sls (rel)
instance:Sls Unit:=#[λF _ _ _ σ=>σ=[]/\∀a,¬F a,λh _ _ _=>h,λh e=>#[h.1,λa z=>h.2 a ((e a).mpr z)]]
structure CI(F F1 F2:Rg):Prop where
 all:∀a,F a↔F1 a\/F2 a
 xy:∀a,F1 a->F2 a->False
instance{τ D:Type}[Ow τ][Sls D]:Sls (τ×D):=#[λF R H d σ=>∃v σ' F1 F2,σ=v::σ'/\CI F F1 F2/\sl F1 R H d.1 v/\rel F2 R H d.2 σ',
 λh e s n=>by
  refine e4a4 h λv σ' F1 F2 h1 h2 h3 h4=>?_
  exact#[v,σ',F1,F2,h1,h2,Ow.st h3 e s<|λa z=>n a<|(h2.all a).mpr<|.inl z,Sls.st h4 e s<|λa z=>n a<|(h2.all a).mpr<|.inr z],
 λh e=>by
  refine e4a4 h λv σ' F1 F2 h1 h2 h3 h4=>?_
  exact#[v,σ',F1,F2,h1,#[λa=>(e a).symm.trans (h2.all a),h2.xy],h3,h4]]
class At(i:Nat)(B:Type)[Sls B](τ:outParam Type)[Ow τ](B':outParam Type)[Sls B'] where
 get:B->τ
 hole:B->B'
 take:∀{F R:Rg} {H:Hp} {b:B} {σ:St},rel F R H b σ->∃v F1 F2,σ[i]?=↑v/\CI F F1 F2/\sl F1 R H (get b) v/\rel F2 R H (hole b) σ
class Pt(i:Nat)(B':Type)[Sls B'](τ:Type)[Ow τ](B:outParam Type)[Sls B] where
 put:B'->τ->B
 back:∀{F F1 F2 R:Rg} {H:Hp} {b:B'} {x:τ} {v:Option V} {σ:St},rel F2 R H b σ->CI F F1 F2->sl F1 R H x v->rel F R H (put b x) (σ.set i v)
def set_same:∀{l:List b} {i:Nat} {v:b},l[i]?=↑v->l.set i v=l
 | [],_,_,h=>by simp at h
 |_::_,0,_,h=>by simp at h;subst h;rfl
 |a::r,i+1,v,h=>by show a::r.set i v=a::r;rw[set_same<|by simpa using h]
def Pt.same{i:Nat}{B' τ B:Type}[Sls B'][Ow τ][Sls B][A:Pt i B' τ B]{F F1 F2 R:Rg}{H:Hp}{b:B'}{x:τ}{v:Option V}{σ:St}(h:rel F2 R H b σ)(e:σ[i]?=↑v)(t:CI F F1 F2)(s:sl F1 R H x v):rel F R H (A.put b x) σ:=by have:=A.back h t s;rw[set_same e]at this;exact this
noncomputable instance at0{τ D:Type}[Ow τ][Sls D]:At 0 (τ×D) τ (Un×D) where
 get b:=b.1
 hole b:=(#[],b.2)
 take:=λh=>by refine e4a4 h λv σ' F1 F2 h1 h2 h3 h4=>?_;exact#[v,F1,F2,by rw[h1];rfl,h2,h3,v,σ',λ_=>False,F2,h1,#[λa=>#[.inr,λz=>z.elim (λq=>q.elim) id],λ_ z _=>z],λ_ z=>z,h4]
noncomputable instance pt0{τ D:Type}[Ow τ][Sls D]:Pt 0 (Un×D) τ (τ×D) where
 put b x:=(x,b.2)
 back:=λ{F F1 F2 R H b x v σ} h t s=>by refine e4a4 h λv' σ' G1 G2 h1 h2 h3 h4=>?_;have e2:∀a,G2 a↔F2 a:=λa=>#[λz=>(h2.all a).mpr<|.inr z,λz=>((h2.all a).mp z).elim (λq=>gA q<|h3 a) id];exact#[_,σ',F1,F2,by rw[h1];rfl,t,s,Sls.fq h4 e2]
noncomputable instance atS{i:Nat}{ρ τ D D':Type}[Ow ρ][Ow τ][Sls D][Sls D'][A:At i D τ D']:At (i+1) (ρ×D) τ (ρ×D') where
 get b:=A.get b.2
 hole b:=(b.1,A.hole b.2)
 take:=λh=>by
  refine e4a4 h λv σ' F1 F2 h1 h2 h3 h4=>?_;refine e3a4 (A.take h4) λu G1 G2 k1 k2 k3 k4=>?_;refine#[u,G1,λa=>F1 a\/G2 a,by rw[h1];simpa using k1,#[λa=>?_,λa z q=>?_],k3,v,σ',F1,G2,h1,#[λa=>Iff.rfl,λa z q=>h2.xy a z<|(k2.all a).mpr<|.inr q],h3,k4]
  ·rw[h2.all,k2.all];exact#[λz=>z.elim (λq=>.inr<|.inl q) λz=>z.elim .inl λq=>.inr<|.inr q,λz=>z.elim (λq=>.inr<|.inl q) λz=>z.elim .inl λq=>.inr<|.inr q]
  ·rcases q with q|q
   ·exact h2.xy a q<|(k2.all a).mpr<|.inl z
   ·exact k2.xy a z q
noncomputable instance ptS{i:Nat}{ρ τ D D':Type}[Ow ρ][Ow τ][Sls D][Sls D'][A:Pt i D' τ D]:Pt (i+1) (ρ×D') τ (ρ×D) where
 put b x:=(b.1,A.put b.2 x)
 back:=λ{F F1 F2 R H b x v σ} h t s=>by
  refine e4a4 h λv' σ' G1 G2 h1 h2 h3 h4=>?_;have t':CI (λa=>F1 a\/G2 a) F1 G2:=#[λa=>Iff.rfl,λa z q=>t.xy a z<|(h2.all a).mpr<|.inr q];refine⟨v',σ'.set i v,G1,λa=>F1 a\/G2 a,by rw[h1];rfl,#[λa=>?_,λa z q=>?_],h3,A.back h4 t' s⟩
  ·rw[t.all,h2.all];exact#[λz=>z.elim (λq=>.inr<|.inl q) λz=>z.elim .inl λq=>.inr<|.inr q,λz=>z.elim (λq=>.inr<|.inl q) λz=>z.elim .inl λq=>.inr<|.inr q]
  ·rcases q with q|q
   ·exact t.xy a q<|(h2.all a).mpr<|.inl z
   ·exact h2.xy a z q
class Fg(D:Type)[Sls D](D':Type)[Sls D'] where
 fg:D->D'
 le:∀{F R:Rg} {H:Hp} {d:D} {σ:St},rel F R H d σ->∃F',(∀a,F' a->F a)/\rel F' R H (fg d) σ
noncomputable instance fgId{D:Type}[Sls D]:Fg D D:=#[id,λh=>#[_,λ_ z=>z,h]]
def two_le{F d e b c:Rg}(t:CI F d e)(f:∀a,b a->d a)(g:∀a,c a->e a):CI (λa=>b a\/c a) b c:=#[λ_=>Iff.rfl,λa x y=>t.xy a (f a x)<|g a y]
instance(priority:=low) fgUn {τ D D':Type}[Ow τ][Sls D][Sls D'][A:Fg D D']:Fg (τ×D) (Un×D'):=#[λd=>(#[],A.fg d.2),λh=>by
 obtain⟨v,σ',F1,F2,h1,h2,h3,h4⟩:=h;obtain⟨F',k1,k2⟩:=A.le h4
 exact#[_,λa z=>(h2.all a).mpr (.inr (k1 a (z.elim (λq=>q.elim) id))),v,σ',λ_=>False,F',h1,#[λa=>Iff.rfl,λ_ z _=>z],λ_ z=>z,k2]]
noncomputable instance fgCons{τ D D':Type}[Ow τ][Sls D][Sls D'][A:Fg D D']:Fg (τ×D) (τ×D'):=#[λd=>(d.1,A.fg d.2),λh=>by
 refine e4a4 h λv σ' F1 F2 h1 h2 h3 h4=>?_;refine e1a2 (A.le h4) λF' k1 k2=>?_
 exact#[_,λa z=>(h2.all a).mpr (z.elim .inl λq=>.inr (k1 a q)),v,σ',F1,F',h1,two_le h2 (λ_ z=>z) k1,h3,k2]]
class Pj(D:Type)[Sls D](P:Type)[Sls P](n:outParam Nat) where
 pj:D->P
 le:∀{F R:Rg} {H:Hp} {d:D} {σ:St},rel F R H d σ->∃F',(∀a,F' a->F a)/\rel F' R H (pj d) (σ.take n)
noncomputable instance pjNil{D:Type}[Sls D]:Pj D Unit 0:=#[λ_=>(),λh=>#[λ_=>False,λ_ z=>z.elim,rfl,λ_ z=>z]]
instance(priority:=low) pjUn {τ D P:Type}{n:Nat}[Ow τ][Sls D][Sls P][A:Pj D P n]:Pj (τ×D) (Un×P) (n+1):=#[λd=>(#[],A.pj d.2),λh=>by
 obtain⟨v,σ',F1,F2,h1,h2,h3,h4⟩:=h;obtain⟨F',k1,k2⟩:=A.le h4
 exact#[_,λa z=>(h2.all a).mpr (.inr (k1 a (z.elim (λq=>q.elim) id))),v,σ'.take n,λ_=>False,F',by rw[h1];rfl,#[λa=>Iff.rfl,λ_ z _=>z],λ_ z=>z,k2]]
noncomputable instance pjCons{τ D P:Type}{n:Nat}[Ow τ][Sls D][Sls P][A:Pj D P n]:Pj (τ×D) (τ×P) (n+1):=#[λd=>(d.1,A.pj d.2),λh=>by
 refine e4a4 h λv σ' F1 F2 h1 h2 h3 h4=>?_;refine e1a2 (A.le h4) λF' k1 k2=>?_
 exact#[_,λa z=>(h2.all a).mpr (z.elim .inl λq=>.inr (k1 a q)),v,σ'.take n,F1,F',by rw[h1];rfl,two_le h2 (λ_ z=>z) k1,h3,k2]]
class Sel(is:List Nat)(D:Type)[Sls D](S:outParam Type)[Sls S](D0:outParam Type)[Sls D0] where
 sel:D->S
 rest:D->D0
 mrg:D0->S->D
 cut:∀{F R:Rg} {H:Hp} {d:D} {σ:St},rel F R H d σ->∃F1 F2,CI F F1 F2/\rel F1 R H (sel d) (is.map λi=>σ[i]?.join)/\rel F2 R H (rest d) σ/\∀i∈is,i<σ.length
 join:∀{F F1 F2 R:Rg} {H:Hp} {d:D0} {s:S} {σ:St},CI F F1 F2->rel F1 R H s (is.map λi=>σ[i]?.join)->rel F2 R H d σ->(∀i∈is,i<σ.length)->rel F R H (mrg d s) σ
noncomputable instance selNil{D:Type}[Sls D]:Sel [] D Unit D where
 sel _:=()
 rest d:=d
 mrg d _:=d
 cut:=λ{F R H d σ} h=>#[λ_=>False,F,#[λa=>#[.inr,λz=>z.elim (λq=>q.elim) id],λ_ z _=>z],#[rfl,λ_ z=>z],h,λ_ z=>by cases z]
 join:=λ{F F1 F2 R H d s σ} t h1 h2 _=>Sls.fq h2 λa=>#[λz=>(t.all a).mpr<|.inr z,λz=>((t.all a).mp z).elim (λq=>gA q<|h1.2 a) id]
noncomputable instance selCons{i:Nat}{is:List Nat}{D τ D1 S D0:Type}[Sls D][Ow τ][Sls D1][Sls S][Sls D0][A:At i D τ D1][P:Pt i D1 τ D][B:Sel is D1 S D0]:Sel (i::is) D (τ×S) D0 where
 sel d:=(A.get d,B.sel<|A.hole d)
 rest d:=B.rest<|A.hole d
 mrg d s:=P.put (B.mrg d s.2) s.1
 cut:=λ{F R H d σ} h=>by
  refine e3a4 (A.take h) λv F1 F2 h1 h2 h3 h4=>?_;refine e2a4 (B.cut h4) λG1 G2 k1 k2 k3 k4=>?_;have hv:σ[i]?.join=v:=by rw[h1];rfl
  refine#[λa=>F1 a\/G1 a,G2,#[λa=>?_,λa z q=>?_],#[v,_,F1,G1,by rw[gN,hv],#[λ_=>Iff.rfl,λa z q=>h2.xy a z<|(k1.all a).mpr<|.inl q],h3,k2],k3,λj hj=>?_]
  ·rw[h2.all,k1.all];exact#[λz=>z.elim (λq=>.inl<|.inl q) λz=>z.elim (λq=>.inl<|.inr q) .inr,λz=>z.elim (λz=>z.elim .inl λq=>.inr<|.inl q) λq=>.inr<|.inr q]
  ·rcases z with z|z
   ·exact h2.xy a z<|(k1.all a).mpr<|.inr q
   ·exact k1.xy a z q
  ·rcases List.mem_cons.mp hj with e|e
   ·rw[e];exact(List.getElem?_eq_some_iff.mp h1).1
   ·exact k4 j e
 join:=λ{F F1 F2 R H d s σ} t h1 h2 hl=>by
  refine e4a4 h1 λv σ' G1 G2 k1 k2 k3 k4=>?_;rw[gN]at k1;injection k1 with e1 e2;subst e2;have hi:i<σ.length:=hl i gk
  have ev:σ[i]?=↑v:=by rw[iU hi]at e1 ⊢;exact congrArg some e1
  have t2:CI (λa=>G2 a\/F2 a) G2 F2:=#[λ_=>Iff.rfl,λa z q=>t.xy a ((k2.all a).mpr<|.inr z) q];refine Pt.same (B.join t2 k4 h2 λj hj=>hl j<|gl _ hj) ev ⟨λa=>?_,λa z q=>?_⟩ k3
  ·rw[t.all,k2.all];exact#[λz=>z.elim (λz=>z.elim .inl λq=>.inr<|.inl q) λq=>.inr<|.inr q,λz=>z.elim (λq=>.inl<|.inl q) λz=>z.elim (λq=>.inl<|.inr q) .inr]
  ·rcases q with q|q
   ·exact k2.xy a z q
   ·exact t.xy a ((k2.all a).mpr<|.inl z) q
structure vw(T:ci){D:Type}[Sls D](F R:Rg)(H:Hp)(d:D)(σ:St):Prop where
 rel:rel F R H d σ
 sub:∀a,F a->R a
 wD:∀a,R a->H a≠none
 tab:TabAt H T
 ve:R T
 uS:¬F T
def yy(t:TabAt H T):H T≠none:=by refine e1a2 t λa e _=>?_;rw[e];simp
structure Ch(T:ci)(F R:Rg)(H:Hp)(F' R':Rg)(H':Hp):Prop where
 keep:∀b o,¬F b->b≠T->H b=↑o->H' b=↑o
 zv:∀a,R' a->R a\/H a=none
 xE:∀a,F' a->F a\/H a=none
 left:∀a,R a->¬F a->R' a
def Ch.refl(T:ci)(F R:Rg)(H:Hp):Ch T F R H F R H:=#[λ_ _ _ _ h=>h,λ_ h=>.inl h,λ_ h=>.inl h,λ_ h _=>h]
def Ch.trans{T:ci}{D:Type}[Sls D]{d:D}{u:St}{F R k l m p:Rg}{H j r:Hp}(s:vw T F R H d u)(v:TabAt j T)(a:Ch T F R H k l j)(b:Ch T k l j m p r):Ch T F R H m p r:=by
 have g:∀c,¬F c->H c≠none->¬k c:=λc n h z=>by
  rcases a.xE c z with q|q
  ·exact n q
  ·exact h q
 have f:∀c,j c=none->¬(F c)->H c=none:=λc h n=>by
  cases e:H c with
  |none=>rfl
  |some o =>
   have w:c≠T:=λz=>by rw[z]at h;exact yy v h
   rw[a.keep c o n w e]at h;cases h
 refine#[λc o n t h=>b.keep c o (g c n<|by rw[h];simp) t<|a.keep c o n t h,λc h=>?_,λc h=>?_,λc h n=>b.left c (a.left c h n)<|g c n<|s.wD c h]
 ·rcases b.zv c h with q|q
  ·exact a.zv c q
  ·by_cases i:F c
   ·exact .inl<|s.sub c i
   ·exact .inr<|f c q i
 ·rcases b.xE c h with q|q
  ·exact a.xE c q
  ·by_cases i:F c
   ·exact .inl i
   ·exact .inr<|f c q i
def Ch.ext(c:Ch T F R H f d e):Ext (λa=>F a\/a=T) R H d e:=#[λb o n h=>c.keep b o (λz=>n<|.inl z) (λz=>n<|.inr z) h,c.zv]
def vw.val{T:ci}{D:Type}[Sls D]{d:D}{σ:St}{F R F' R':Rg}{H H':Hp}(s:vw T F R H d σ)(c:Ch T F R H F' R' H'){α:Type}[Rep α]{x:α}{v:V}(h:rp R H x v):rp R' H' x v :=
 Rep.st h (c.ext.wide λa z=>z.elim (s.sub a) λq=>by rw[q];exact s.ve)
def vw.new{T:ci}{D:Type}[Sls D]{d:D}{c:St}{F R:Rg}{H:Hp}(s:vw T F R H d c){p:ci}(o:HO)(f:H p=none):vw T F R (upd H p o) d c/\Ch T F R H F R (upd H p o)/\¬R p:=by
 have g:¬R p:=λz=>s.wD p z f;have k:∀b u,H b=↑u->upd H p o b=↑u:=λb u e=>by rw[ui<|uu e f];exact e
 refine#[#[Sls.st s.rel (G:=λ_=>False) #[λb u _ e=>k b u e,λa h=>.inl h] (λ_ z=>z.elim)<|λ_ _ z=>z,s.sub,λa z=>?_,?_,s.ve,s.uS],#[λb u _ _ e=>k b u e,λa h=>.inl h,λa h=>.inl h,λa h _=>h],g]
 ·cases e:H a with
  |none=>exact gA e<|s.wD a z
  |some u=>rw[k a u e];simp
 ·refine e1a2 s.tab λi e t=>?_;exact#[i,k _ _ e,t]
def EW(X:Cx)(E:XK)(T:ci)(e:hZ){D α:Type}[Sls D][Rep α](w:Wf D α D):Prop :=
 ∃t,PE X e t/\∀(d:D)(F R:Rg)(σ:St)(H:Hp)(Kn:α->D->Prop)(Ke:ci->D->Prop)(Q:VK),vw T F R H d σ->w d Kn Ke ->
  (∀x d' v F' R' H',Kn x d'->Ch T F R H F' R' H'->vw T F' R' H' d' σ->rp R' H' x v->Q v H') ->
  (∀C y d' F' R' H',Ke C d'->Ch T F R H F' R' H'->vw T F' R' H' d' σ->E (.ref C) ↑y H')->t σ H Q
structure Nw(T:ci){τ:Type}[Ow τ](F1 F2 R:Rg)(H:Hp)(x:τ)(v:V):Prop where
 is:sl F1 R H x ↑v
 sub:∀a,F1 a->R a
 xy:∀a,F1 a->F2 a->False
 tab:¬F1 T
def EO(X:Cx)(E:XK)(T:ci)(e:hZ){D h:Type}[Sls D][Ow h](w:Wf D h D):Prop :=
 ∃t,PE X e t/\∀(d:D)(F R:Rg)(g:St)(H:Hp)(j:h->D->Prop)(k:ci->D->Prop)(Q:VK),vw T F R H d g->w d j k ->
  (∀x f v l i c b,j x f->Ch T F R H (λa=>l a\/i a) c b->vw T i c b f g->Nw T l i c b x v->Q v b) ->
  (∀C y f m c b,k C f->Ch T F R H m c b->vw T m c b f g->E (.ref C) ↑y b)->t g H Q
def TW(X:Cx)(E:XK)(T:ci)(e:hZ){D:Type}[Sls D](w:Wf D Bool D):Prop :=
 ∃t,PT X e t/\∀(d:D)(F R:Rg)(g:St)(H:Hp)(h:Bool->D->Prop)(i:ci->D->Prop)(Q:Bool->Hp->Prop),vw T F R H d g->w d h i ->
  (∀x b c f a,h x b->Ch T F R H c f a->vw T c f a b g->Q x a) ->
  (∀C y b c f a,i C b->Ch T F R H c f a->vw T c f a b g->E (.ref C) ↑y a)->t g H Q
section
variable{D:Type}[Sls D]
def WB{F R F1 F2 R':Rg}{H H':Hp}{d d':D}{σ:St}{α:Type}[Rep α]{x:OL α}{v:V}(s:vw T F R H d σ)(c:Ch T F R H (λa=>F1 a\/F2 a) R' H')(s':vw T F2 R' H' d' σ)(n:Nw T F1 F2 R' H' x v) :
  ∃Jd,Ch T F R H F2 Jd H'/\vw T F2 Jd H' d' σ/\rp Jd H' x.l v:=by
 have ex:Ext (λ_=>False) R' H' (λa=>R' a/\¬F1 a) H':=#[λ_ _ _ h=>h,λa h=>.inl h.1];refine#[λa=>R' a/\¬F1 a,#[c.keep,λa h=>c.zv a h.1,λa h=>c.xE a<|.inr h,λa h k=>#[c.left a h k,λz=>?_]],#[Sls.st s'.rel ex (λ_ z=>z.elim)<|λ_ _ z=>z,λa h=>#[s'.sub a h,λz=>n.xy a z h],λa h=>s'.wD a h.1,s'.tab,#[s'.ve,n.tab],s'.uS],?_]
 ·rcases c.xE a (.inl z) with q|q
  ·exact k q
  ·exact s.wD a h q
 ·refine e2a4 n.is λa vs h1 h2 h3 h4=>?_;cases h1;exact#[a,vs,rfl,λz=>z.2<|(h2 a).mpr rfl,h3,vC (ex.wide λ_ z=>z.elim) h4]
def uE{α:Type}[Rep α]{w:Wf D (OL α) D}(h:EO X E T e w):EW X E T e (λd Kn Ke=>w d (λx d'=>Kn x.l d') Ke):=by refine e1a2 h λt h1 h2=>?_;refine#[t,h1,λd F R σ H Kn Ke Q s hw kn ke=>h2 d F R σ H _ Ke Q s hw (λx d' v F1 F2 R' H' q c s' n=>?_) ke];refine e1a3 (WB s c s' n) λJd c2 s2 r=>?_;exact kn x.l d' v F2 Jd H' q c2 s2 r
def wR{F R:Rg}{H:Hp}{d:D}{σ:St}{α:Type}[Rep α]{xs:List α}{vs:List V}{p:ci}(s:vw T F R H d σ)(hp:H p=none)(h:Paired (rp R H) xs vs) :
  ∃R',Ch T F R H (λa=>a=p\/F a) R' (upd H p<|.lst vs)/\vw T F R' (upd H p<|.lst vs) d σ/\Nw T (λa=>a=p) F R' (upd H p<|.lst vs) (OL.mk xs) (.ref p):=by
 refine e0a3 (s.new (.lst vs) hp) λs1 c1 n1=>?_;have nF:¬F p:=λz=>n1<|s.sub p z;have ex:Ext (λ_=>False) R H (λa=>R a\/a=p) (upd H p<|.lst vs):=⟨λb o _ h=>by rw[ui<|uu h hp];exact h,λa h=>h.elim .inl λq=>.inr<|by rw[q];exact hp⟩;refine⟨λa=>R a\/a=p,#[c1.keep,ex.new,λa h=>h.elim (λq=>.inr<|by rw[q];exact hp) .inl,λa h _=>.inl h],#[Sls.st s.rel ex (λ_ z=>z.elim)<|λ_ _ z=>z,λa h=>.inl<|s.sub a h,λa h=>?_,s1.tab,.inl s.ve,s.uS],#[#[p,vs,rfl,λb=>Iff.rfl,ul,vC (ex.wide λ_ z=>z.elim) h],λa h=>.inr h,λa h k=>nF (by rw[<- h];exact k),λh=>n1<|by rw[<- h];exact s.ve]⟩;rcases h with h|h
 ·exact s1.wD a h
 ·rw[h,ul];simp
def Tc{i:Nat}{τ D':Type}[Ow τ][Sls D'][A:At i D τ D']{F R:Rg}{H:Hp}{d:D}{σ:St}(s:vw T F R H d σ):∃v F1 F2,σ[i]?=↑v/\CI F F1 F2/\sl F1 R H (A.get d) v/\rel F2 R H (A.hole d) σ:=A.take s.rel
def ss[Rep a][Sls c](i:Nat)[A:At i D a c](e:PE X (.Name x pos) (uT i):=by exact pv _):EW X E T (.Name x pos) (λ(d:D)(b:a->D->Prop) _=>b (A.get d) d):=by refine#[_,e,λd F R k H b l Q s f g _=>?_];obtain⟨v,m,n,h,o,⟨_,u,rfl,j⟩,_⟩:=A.take s.rel;exact#[u,h,g _ d u F R H f (Ch.refl _ _ _ _) s j]
def um{n:Int}{k:Nat}:EW X E T (.Constant (.int n) k pos) (λ(d:D)(a:Int->D->Prop) _=>a n d) :=
 #[_,uK,λd F R e H a f Q s b c _=>c n d _ F R H b (Ch.refl _ _ _ _) s rfl]
def Co{b:Bool}{k:Nat}:EW X E T (.Constant (.bool b) k pos) (λ(d:D)(a:Bool->D->Prop) _=>a b d) :=
 #[_,X9,λd F R f H a g Q s c e _=>e b d _ F R H c (Ch.refl _ _ _ _) s rfl]
def JS{k:Nat}:EW X E T (.Constant .none k pos) (λ(d:D)(a:Unit->D->Prop) _=>a () d) :=
 #[_,Ji,λd F R e H a f Q s b c _=>c () d _ F R H b (Ch.refl _ _ _ _) s rfl]
def Pk{α β γ:Type}[Rep α][Rep β][Rep γ]{wa:Wf D α D}{wb:Wf D β D}{c:α->β->Prop}{g:α->β->γ}
 (ha:EW X E T a wa) (hb:EW X E T b wb) (he:∀ta tb,PE X a ta->PE X b tb->PE X e (XU r ta tb))
 (hr:∀{R:Rg} {H:Hp} {x:α} {y:β} {u v:V} {Q:VK},rp R H x u->rp R H y v->c x y->(∀z,rp R H (g x y) z->Q z H)->r u v H Q) :
    EW X E T e (λd Kn Ke=>wa d (λx d1=>wb d1 (λy d2=>c x y/\Kn (g x y) d2) Ke) Ke):=by
  refine e1a2 ha λta a1 a2=>?_
  refine e1a2 hb λtb b1 b2=>?_
  refine#[_,he ta tb a1 b1,λd F R σ H Kn Ke Q s hw kn ke=>?_]
  refine a2 d F R σ H _ Ke _ s hw (λx d1 u F1 R1 H1 q1 c1 s1 r1=>?_) ke
  refine b2 d1 F1 R1 σ H1 _ Ke _ s1 q1 (λy d2 v F2 R2 H2 q2 c2 s2 r2=>?_) λC y d' F' R' H' k c s'=>ke C y d' F' R' H' k (Ch.trans s s1.tab c1 c) s'
  exact hr (s1.val c2 r1) r2 q2.1 λz rz=>kn _ d2 z F2 R2 H2 q2.2 (Ch.trans s s1.tab c1 c2) s2 rz
def WC{α γ:Type}[Rep α][Rep γ]{r:V->Hp->VK->Prop}{wa:Wf D α D}{c:α->Prop}{g:α->γ}
 (ha:EW X E T a wa) (he:∀ta,PE X a ta->PE X e (tUn r ta)) (hr:∀{R:Rg} {H:Hp} {x:α} {u:V} {Q:VK},rp R H x u->c x->(∀z,rp R H (g x) z->Q z H)->r u H Q) :
    EW X E T e (λd Kn Ke=>wa d (λx d1=>c x/\Kn (g x) d1) Ke):=by
  refine e1a2 ha λta a1 a2=>?_
  refine#[_,he ta a1,λd F R σ H Kn Ke Q s hw kn ke=>?_]
  refine a2 d F R σ H _ Ke _ s hw (λx d1 u F1 R1 H1 q1 c1 s1 r1=>?_) ke
  exact hr r1 q1.1 λz rz=>kn _ d1 z F1 R1 H1 q1.2 c1 s1 rz
def Pl{c:Int->Int->Prop}{g:Int->Int->Int}{h l:Wf D Int D}(n:Ai X (lK op) (rI c λi j=>.int<|g i j))(o:EW X E T a h)(p:EW X E T b l) :
  EW X E T (.BinOp a op b pos) (λd q m=>h d (λx r=>l r (λy s=>c x y/\q (g x y) s) m) m) :=
 Pk (γ:=Int) o p (λu v e f=>wg n e f) λe f t k=>#[_,_,e,f,t,k _ rfl]
def A6{g:Int->Int->Int}{wa wb:Wf D Int D}(ho:Ai X (lK op) (RQ λi j=>.int<|g i j))(ha:EW X E T a wa)(hb:EW X E T b wb) :
  EW X E T (.BinOp a op b pos) (λd Kn Ke=>wa d (λx d1=>wb d1 (λy d2=>Kn (g x y) d2) Ke) Ke):=by
 have h:=Pk (c:=λ_ _=>True) (γ:=Int) (g:=g) (e:=.BinOp a op b pos) ha hb (λta tb h1 h2=>wg ho h1 h2) λh1 h2 _ k=>#[_,_,h1,h2,k _ rfl];simp only[true_and]at h;exact h
class Il(α:Type)[Rep α][DecidableEq α] where
 sc:∀{R:Rg} {H:Hp} {x y:α} {u v:V},rp R H x u->rp R H y v->V4 u v=true/\decide (u=v)=decide (x=y)
instance:Il Int:=#[λ{R H x y u v} h1 h2=>by
 subst h1;subst h2;refine#[rfl,?_];by_cases e:x=y
 ·rw[e];simp
 ·rw[gH e,gH (λz=>e (by cases z;rfl))]]
instance:Il Bool:=#[λ{R H x y u v} h1 h2=>by
 subst h1;subst h2;refine#[rfl,?_]
 cases x<;>cases y<;>rfl]
def LV{α:Type}[Rep α]{x:Option α}(h:rp R H x u):decide (u=.vU)=x.isNone:=by
 cases x with
 |none=>have h:u=.vU:=h;rw[h];rfl
 |some y=>exact gH h.1
end
variable[L2.GX]
section
variable{D:Type}[Sls D]
def uB{b:Type}[Rep b]{w:Wf D b D}(h:EO X E T e w):EW X E T e w:=by refine e1a2 h λt f g=>?_;refine#[t,f,λd F R i H B j Q s k l m=>g d F R i H _ j Q s k (λx o v C p r y q c z n=>?_) m];obtain⟨G,u,e,A⟩:=n.is;cases e;exact l x o v p r y q #[c.keep,c.zv,λa h=>c.xE a<|.inr h,c.left] z A
def uW{b:Type}[Rep b]{w:Wf D b D}(h:EW X E T e w):EO X E T e w:=by refine e1a2 h λt f g=>?_;refine#[t,f,λd F R i H A j Q s k l m=>g d F R i H _ j Q s k (λx n v o p u q c y r=>?_) m];exact l x n v (λ_=>False) o p u q #[c.keep,c.zv,λa h=>c.xE a<|h.elim (λz=>z.elim) id,c.left] y #[#[λ_ z=>z,v,rfl,r],λ_ z=>z.elim,λ_ z=>z.elim,λz=>z]
end
class Hs(τ:Type)[Ow τ]:Prop where
 has:∀{F R:Rg} {H:Hp} {x:τ} {v:Option V},sl F R H x v->∃u,v=↑u
instance{α:Type}[Rep α]:Hs (OL α):=#[λz9=>e2a2 z9 λa _ h _=>#[_,h]]
instance{α:Type}[Rep α]:Hs α:=#[λz9=>e0a2 z9 λ_ z39=>e1a2 z39 λu h _=>#[u,h]]
structure Std(T:ci)(F R:Rg)(H:Hp):Prop where
 sub:∀a,F a->R a
 wD:∀a,R a->H a≠none
 tab:TabAt H T
 ve:R T
 uS:¬F T
def vw.Gb{T:ci}{D:Type}[Sls D]{F R:Rg}{H:Hp}{d:D}{a:St}(s:vw T F R H d a):Std T F R H:=#[s.sub,s.wD,s.tab,s.ve,s.uS]
def Std.stt{T:ci}{D:Type}[Sls D]{F R:Rg}{H:Hp}{d:D}{a:St}(s:Std T F R H)(h:rel F R H d a):vw T F R H d a:=#[h,s.sub,s.wD,s.tab,s.ve,s.uS]
section
variable{D:Type}[Sls D]
def two_nil(F:Rg):CI F (λ_=>False) F:=#[λ_=>#[.inr,λz=>z.elim (λq=>q.elim) id],λ_ z _=>z]
def two_eq(t:CI F b c)(n:∀a,¬b a):∀a,c a↔F a:=λa=>#[λz=>(t.all a).mpr<|.inr z,λz=>((t.all a).mp z).elim (λq=>gA q<|n a) id]
end
def xW(T:ci){P d f:Type}[Sls P][Sls d][Ow f](w:Wf P f d):Sp:=λg H Q E=>∃(F R:Rg)(p:P)(i:f->d->Prop)(j:ci->d->Prop),vw T F R H p (g.map some)/\w p i j /\
 (∀x e v k h c b,i x e->Ch T F R H (λa=>k a\/h a) c b->vw T h c b e (g.map some)->Nw T k h c b x v->Q v b) /\
 (∀C y e l c b,j C e->Ch T F R H l c b->vw T l c b e (g.map some)->E (.ref C) ↑y b)
def Ag(c:List Nat)(b a:St):Prop:=a.length=b.length/\∀i∈c,a[i]?=b[i]?
def Ag.refl(b:List Nat)(a:St):Ag b a a:=#[rfl,λ_ _=>rfl]
def Ag.trans(a:Ag e f c)(b:Ag e c d):Ag e f d:=#[b.1.trans a.1,λi h=>(b.2 i h).trans<|a.2 i h]
def Ag.set{i:Nat}(h:i∉a):Ag a b (b.set i v):=#[lu,λj c=>mq λe=>h<|by rw[e];exact c]
structure RU(P:Type)[Sls P](ms:List Nat)(n:Nat):Prop where
 dp:∀{F R:Rg} {H:Hp} {p:P} {σ σ':St},Ag ms σ σ'->rel F R H p (σ'.take n)->rel F R H p (σ.take n)
class Dp(P:Type)[Sls P](n:outParam Nat)(l:outParam (List Nat)):Prop where
 dp:RU P l n
instance dp0:Dp Unit 0 []:=#[#[λ{F R H p σ σ'} _ h=>#[rfl,h.2]]]
instance(priority:=high) dpU {P:Type}{n:Nat}{l:List Nat}[Sls P][A:Dp P n l]:Dp (Un×P) (n+1) (l.map (· + 1)):=#[#[λ{F R H p σ σ'} a r=>by
 refine e4a4 r λv Z5 F1 F2 h1 h2 h3 h4=>?_
 cases σ' with
 |nil=>cases h1
 |cons v' r' =>
  cases σ with
  |nil=>have:=a.1;simp at this
  |cons u r =>
   injection h1 with e1 e2;subst e2;refine#[u,r.take n,F1,F2,rfl,h2,h3,A.dp.dp (σ':=r') #[by have:=a.1;simpa using this,λi hi=>?_] h4];have:=a.2 (i+1)<|List.mem_map.mpr #[i,hi,rfl]
   simpa using this]]
instance dpO{τ P:Type}{n:Nat}{l:List Nat}[Ow τ][Sls P][A:Dp P n l]:Dp (τ×P) (n+1) (0::l.map (· + 1)):=#[#[λ{F R H p σ σ'} a r=>by
 refine e4a4 r λv Z5 F1 F2 h1 h2 h3 h4=>?_
 cases σ' with
 |nil=>cases h1
 |cons v' r' =>
  cases σ with
  |nil=>have:=a.1;simp at this
  |cons u r =>
   injection h1 with e1 e2;subst e2
   have e0:v'=u:=by have:=a.2 0 gk;simpa using this
   subst e0;subst e1;refine#[v',r.take n,F1,F2,rfl,h2,h3,A.dp.dp (σ':=r') #[by have:=a.1;simpa using this,λi hi=>?_] h4];have:=a.2 (i+1)<|gl _<|List.mem_map.mpr #[i,hi,rfl]
   simpa using this]]
def uQ[Sls P]{n:Nat}[A:Dp P n l](h:∀i∈l,i∈b):RU P b n:=#[λa r=>A.dp.dp #[a.1,λi c=>a.2 i<|h i c] r]
def Vm(E:XK)(T:ci)(u:List Nat)(n:Nat)(t:TS){D j f k:Type}[Sls D][Sls j][Sls f][Ow k](w:D->(j->Prop)->(k->f->Prop)->(ci->f->Prop)->Prop):Prop :=
 ∀(d:D)(F R:Rg)(g:St)(H:Hp)(o:j->Prop)(p:k->f->Prop)(q:ci->f->Prop)(l:Ends),vw T F R H d g->w d o p q ->
  (∀r h c b e,o r->Ch T F R H h c b->vw T h c b r e->Ag u g e->l.nx e b) ->
  (∀x i v s m c b,p x i->Ch T F R H (λa=>s a\/m a) c b->vw T m c b i (g.take n)->Nw T s m c b x v->l.rt v b) ->
  (∀C y i h c b,q C i->Ch T F R H h c b->vw T h c b i (g.take n)->E (.ref C) ↑y b)->t l g H
def S1(X:Cx)(E:XK)(T:ci)(d:List Nat)(n:Nat)(e:gV){D b a c:Type}[Sls D][Sls b][Sls a][Ow c](w:D->(b->Prop)->(c->a->Prop)->(ci->a->Prop)->Prop):Prop:=∃t,PS X e t/\Vm E T d n t w
def SW(X:Cx)(E:XK)(T:ci)(e:List Nat)(n:Nat)(a:List gV){D c b d:Type}[Sls D][Sls c][Sls b][Ow d](w:D->(c->Prop)->(d->b->Prop)->(ci->b->Prop)->Prop):Prop:=∃t,Ez X a t/\Vm E T e n t w
section
variable{D D' D1 PO τ:Type}[Sls D][Sls D'][Sls D1][Sls PO][Ow τ]
def uN:SW X E T f n [] (λ(d:D)(a:D->Prop)(_:τ->PO->Prop) _=>a d) :=
 #[_,yJ,λd F R b H a g h i s c e _ _=>e d F R H b c (Ch.refl _ _ _ _) s<|Ag.refl _ _]
def Pm:SW X E T e n a (λ(d:D)(b:D'->Prop)(_:τ->PO->Prop) _=>False) :=
 #[_,MS,λd F R f H b g h i s c j _ _=>c.elim]
def a07[A:Fg D1 D'](k:Vm E T l n t w):Vm E T l n t (λ(d:D)(j:D'->Prop)(e:τ->PO->Prop) f=>w d (λm=>j<|A.fg m) e f):=by refine λd F R o H j e f p s r u v x=>k d F R o H _ e f p s r (λC I y z g q c b a=>?_) v x;refine e1a2 (A.le b.rel) λG i B=>?_;exact u _ G y z g q #[c.keep,c.zv,λa h=>c.xE a<|i a h,c.left] ⟨B,λa h=>b.sub a<|i a h,b.wD,b.tab,b.ve,λh=>b.uS<|i _ h⟩ a
def LW[A:Fg D1 D'](h:SW X E T b n a w):SW X E T b n a (λ(d:D)(c:D'->Prop)(e:τ->PO->Prop) f=>w d (λg=>c<|A.fg g) e f) :=
 e1a2 h λt i j=> #[t,i,a07 j]
def Vn{A:D->(D1->Prop)->(τ->PO->Prop)->(ci->PO->Prop)->Prop}{B:D1->(D'->Prop)->(τ->PO->Prop)->(ci->PO->Prop)->Prop}(G:RU PO k n)(L:Vm E T k n M A)(N:Vm E T k n O B) :
  Vm E T k n (Jk M O) (λd l b e=>A d (λo=>B o l b e) b e):=by
 refine λd F R P H l b e Q s S U I J=>L d F R P H _ b e _ s S (λo W X Y p q r j t=>?_) I J;refine N o W X p Y l b e Q j q (λZ u f h w i c a g=>U Z u f h w i (Ch.trans s j.tab r c) a<|t.trans g) (λx z v M1 M2 f h i c a m=>?_) λC y z u f h i c a=>?_
 ·exact I x z v M1 M2 f h i (Ch.trans s j.tab r c) #[G.dp t a.rel,a.sub,a.wD,a.tab,a.ve,a.uS] m
 ·exact J C y z u f h i (Ch.trans s j.tab r c) #[G.dp t a.rel,a.sub,a.wD,a.tab,a.ve,a.uS]
def CS{c:gV}{a:List gV}{w1:D->(D1->Prop)->(τ->PO->Prop)->(ci->PO->Prop)->Prop}{w2:D1->(D'->Prop)->(τ->PO->Prop)->(ci->PO->Prop)->Prop}(g:RU PO b n)(h:S1 X E T b n c w1)(i:SW X E T b n a w2) :
  SW X E T b n (c::a) (λd j e f=>w1 d (λk=>w2 k j e f) e f) :=
 e1a2 h λq l m=> e1a2 i λr o p=> #[_,vF l o,Vn g m p]
def uk{a:gV}{b:D->(D'->Prop)->(τ->PO->Prop)->(ci->PO->Prop)->Prop}(c:S1 X E T d n a b):SW X E T d n [a] b :=
 e1a2 c λg e f=> #[_,w4 e,f]
def vX[A:Pj D PO n](s:vw T c e f d g):∃G,(∀a,G a->c a)/\vw T G e f (A.pj d) (g.take n):=by refine e1a2 (A.le s.rel) λG b i=>?_;exact#[G,b,i,λa h=>s.sub a<|b a h,s.wD,s.tab,s.ve,λh=>s.uS<|b _ h]
def Ch.less(c:Ch T F R H b d e)(g:∀a,G a->b a):Ch T F R H G d e:=#[c.keep,c.zv,λa h=>c.xE a<|g a h,c.left]
def uF[A:Pj D PO n](h:EO X E T e r):S1 X E T N n (.Return ↑e pos) (λ(d:D)(_:D'->Prop)(o:τ->PO->Prop) p=>r d (λx b=>o x<|A.pj b) λC b=>p C<|A.pj b):=by
 refine e1a2 h λt u w=>?_;refine#[_,BG u,λd F R B H O o p P s I Q J L=>w d F R B H _ _ _ s I (λx b v M S g i q c j m=>?_) λC y b U g i q c j=>?_]
 ·refine e1a2 (vX (PO:=PO) j) λG f l=>?_;exact J x _ v M G g i q (c.less λa h=>h.elim .inl λz=>.inr<|f a z) l ⟨m.is,m.sub,λa h k=>m.xy a h<|f a k,m.tab⟩
 ·refine e1a2 (vX (PO:=PO) j) λG f l=>?_;exact L C y _ G g i q (c.less f) l
def vf{i:Type}[Rep i][A:Pj D PO n]{j:Wf D i D}(h:EW X E T e j)(r:js e none pos.line X.env=pure false:=by rfl) :
  S1 X E T N n (.Expr e pos) (λ(d:D)(k:D->Prop)(u:τ->PO->Prop) l=>j d (λ_ a=>k a) λC a=>l C<|A.pj a):=by
 refine e1a2 h λt w z=>?_;refine#[_,AQ w r,λd F R o H k u l O s B I P J=>z d F R o H _ _ _ s B (λx a v p b f q c g m=>I a p b f o q c g<|Ag.refl _ _) λC y a p b f q c g=>?_];refine e1a2 (vX (PO:=PO) g) λG L M=>?_;exact J C y _ G b f q (c.less L) M
def uZ{a b:List gV}[A:Pj D PO n]{M:Wf D Bool D}{N O:D->(D'->Prop)->(τ->PO->Prop)->(ci->PO->Prop)->Prop}(hc:TW X E T c M)(ha:SW X E T P n a N)(hb:SW X E T P n b O) :
  S1 X E T P n (.If c a b pos) (λ(d:D)(u:D'->Prop)(w:τ->PO->Prop) r=>M d (λb z=>if b=true then N z u w r else O z u w r) λC t=>r C<|A.pj t):=by
 refine e1a2 hc λtc c1 c2=>?_;refine e1a2 ha λta a1 a2=>?_;refine e1a2 hb λtb b1 b2=>?_;refine#[_,LA c1 a1 b1,λd F R B H u w r Q s hw S U I=>c2 d F R B H _ _ _ s hw (λx z W Y Z q c k=>?_) λC y t l e f q c h=>?_]
 ·cases x with
  |true=>exact a2 z W Y B Z u w r Q k q (λt l e f o i j h g=>S t l e f o i (Ch.trans s k.tab c j) h g) (λx p v J L e f i j h m=>U x p v J L e f i (Ch.trans s k.tab c j) h m) λC y p l e f i j h=>I C y p l e f i (Ch.trans s k.tab c j) h
  |false=>exact b2 z W Y B Z u w r Q k q (λt l e f o i j h g=>S t l e f o i (Ch.trans s k.tab c j) h g) (λx p v J L e f i j h m=>U x p v J L e f i (Ch.trans s k.tab c j) h m) λC y p l e f i j h=>I C y p l e f i (Ch.trans s k.tab c j) h
 ·refine e1a2 (vX (PO:=PO) h) λG g1 g2=>?_;exact I C y _ G e f q (c.less g1) g2
def Fi{i:Nat}[Ow c][Ow e][Sls f][Sls j][A:At i D c f][U:Pt i f e j](s:vw T g R H d k)(m:Nw T F1 g R H x v) :
  ∃G,(∀a,G a->F1 a\/g a)/\vw T G R H (U.put (A.hole d) x) (k.set i<|↑v):=by
 refine e3a4 (A.take s.rel) λo p l r b t n=>?_;refine#[λa=>F1 a\/l a,λa h=>h.elim .inl λz=>.inr<|(b.all a).mpr<|.inr z,U.back n ⟨λ_=>Iff.rfl,λa z q=>m.xy a z<|(b.all a).mpr<|.inr q⟩ m.is,λa h=>h.elim (m.sub a) λz=>s.sub a<|(b.all a).mpr<|.inr z,s.wD,s.tab,s.ve,λh=>h.elim m.tab λz=>s.uS<|(b.all T).mpr<|.inr z]
def uz(i:Nat)[Ow f][Ow g][Sls r][Sls u][A:At i D f r][U:Pt i r g u][J:Pj D PO n](B:X.N.Nodup)(h:EO X E T e I)(L:X.N[i]?=↑x:=by rfl)(hx:Loc X.env.scope x:=by exact lV rfl)(M:i∉O:=by decide)
 (P:js e (some<|.Name x a) pos.line X.env=pure false:=by rfl) (Q:X.fn x=true\/X.env.scope.names.lookup x=some .local:=by first|exact .inl rfl|exact .inr rfl) :
    S1 X E T O n (.Assign [.Name x a] e pos) (λ(d:D)(w:u->Prop)(S:τ->PO->Prop) z=>I d (λx b=>w<|U.put (A.hole b) x) λC b=>z C<|J.pj b):=by
  refine e1a2 h λt W Y=>?_
  refine#[_,zk B L hx W P Q,λd F R Z H w S z En s hw kn kr ke=>Y d F R Z H _ _ _ s hw (λx b v F1 F2 j k q c l m=>?_) λC y b F' j k q c l=>?_]
  · refine e1a2 (Fi (i := i) l m) λG o p => ?_
    exact kn _ G j k _ q (c.less o) p<|Ag.set M
  · refine e1a2 (vX (PO := PO) l) λG o p => ?_
    exact ke C y _ G j k q (c.less o) p
end
class Ent(P:Type)[Sls P](k:Nat)(D:outParam Type)[Sls D] where
 ent:P->D
 ok:∀{F R:Rg} {H:Hp} {p:P} {σ:St},rel F R H p σ->rel F R H (ent p) (σ++j4 k none)
noncomputable instance ent0:Ent Unit 0 Unit:=#[id,λh=>by obtain⟨rfl,h⟩:=h;exact#[rfl,h]]
noncomputable instance entS{k:Nat}{D:Type}[Sls D][A:Ent Unit k D]:Ent Unit (k+1) (Un×D):=#[λp=>(#[],A.ent p),λ{F R H p σ} h=>by
 obtain⟨rfl,h⟩:=h
 exact#[none,j4 k none,λ_=>False,F,by rw[mw];rfl,two_nil F,λ_ z=>z,by simpa using A.ok (σ:=[]) (p:=p) (F:=F) (R:=R) (H:=H) #[rfl,h]]]
noncomputable instance entC{k:Nat}{τ P D:Type}[Ow τ][Sls P][Sls D][A:Ent P k D]:Ent (τ×P) k (τ×D):=#[λp=>(p.1,A.ent p.2),λ{F R H p σ} h=>by
 obtain⟨v,σ',F1,F2,rfl,h2,h3,h4⟩:=h
 exact#[v,σ'++j4 k none,F1,F2,rfl,h2,h3,A.ok h4]]
class Ln(P:Type)[Sls P](n:outParam Nat):Prop where
 ln:∀{F R:Rg} {H:Hp} {p:P} {σ:St},rel F R H p σ->σ.length=n
instance ln0:Ln Unit 0:=#[λh=>by rw[h.1];rfl]
instance lnS{τ P:Type}{n:Nat}[Ow τ][Sls P][A:Ln P n]:Ln (τ×P) (n+1):=#[λh=>by
 obtain⟨v,σ',F1,F2,rfl,_,_,h4⟩:=h
 rw[gK,A.ln h4]]
def vV{r:gV}{N M:List Str}{k j n:Nat}{ms:List Nat}{A PO τ D D':Type}[Sls A][Sls PO][Ow τ][Sls D][Sls D'][L:Ln A n][J:Ent A j D]{O:D->(D'->Prop)->(τ->PO->Prop)->(ci->PO->Prop)->Prop}
 (F:yo K x d r f fd) (S:uq N M (uh r)) (hn:M.length=n) (hj:N.length-n=j)
 (i:∀(b:cr)(A:iW)(a:List Env)(s:gn)(H:Hp)(E:XK),vM k (A.deeper<|nS d (uh r) ⇑s f b)->SW (vg (vd P w) P w K mg base N d (uh r) f b A a s H E) E T ms n (uP r) O) :
    uR P w K mg base (vd P w) (k+1) f fd M (xW T λ(p:A)(U:τ->PO->Prop) l=>O (J.ent p) (λ_=>False) U l):=by
  have e:∀{g:List V} {H:Hp} {Q:VK} {E:XK},xW T (λ(p:A)(U:τ->PO->Prop) l=>O (J.ent p) (λ_=>False) U l) g H Q E->g.length=n:=λh=>by
    obtain⟨F,R,p,Kn,l,s,_⟩:=h
    have:=L.ln s.rel
    rwa [gm]at this
  obtain⟨oc,od,kV,aa,pm,an,b,ct,ab,rfl,lk,W⟩:=F.ex
  refine HU lk W S (λg H Q E h=>(e h).trans hn.symm) λAr a s H g Q E hr u=>?_
  refine e1a2 (i b Ar a s H E hr) λt h1 h2=>?_
  refine#[t,h1,?_]
  have X:=e u
  obtain⟨F,R,p,Kn,l,o,hw,kn,ke⟩:=u
  have B:start N g=g.map some++j4 j none:=by unfold L2.start;rw[X,hj]
  have G:(start N g).take n=g.map some:=by rw[B,mr (by rw[gm,X];exact gg _),iQ<|by rw[gm,X];exact gg _]
  refine h2 (J.ent p) F R _ H _ Kn l _ #[by rw[B];exact J.ok o.rel,o.sub,o.wD,o.tab,o.ve,o.uS] hw (λ_ _ _ _ _ z=>z.elim) (λx Y v F1 F2 Z H' q c I m=>?_) λC y Y F' Z H' q c I=>?_
  · rw[G]at I
    exact kn x Y v F1 F2 Z H' q c I m
  · rw[G]at I
    exact ke C y Y F' Z H' q c I
def Vo{o:gV}{N J:List Str}{k j n:Nat}{ms:List Nat}{A PO τ D D':Type}[Sls A][Sls PO][Ow τ][Sls D][Sls D'][L:Ln A n][I:Ent A j D]{M:D->(D'->Prop)->(τ->PO->Prop)->(ci->PO->Prop)->Prop}
 (F:yo K x b o f O) (S:uq N J (uh o)) (hn:J.length=n) (hj:N.length-n=j)
 (g:∀(A:iW)(a:List Env)(s:gn)(H:Hp)(E:XK),vM k (A.deeper<|nS b (uh o) ⇑s f O.code)->SW (vg (vd P w) P w K mg base N b (uh o) f O.code A a s H E) E T ms n (uP o) M) :
    uR P w K mg base (vd P w) (k+1) f O J (xW T λ(p:A)(U:τ->PO->Prop) i=>M (I.ent p) (λ_=>False) U i):=by
  have d:∀{e:List V} {H:Hp} {Q:VK} {E:XK},xW T (λ(p:A)(U:τ->PO->Prop) i=>M (I.ent p) (λ_=>False) U i) e H Q E->e.length=n:=λh=>by
    obtain⟨F,R,p,Kn,i,s,_⟩:=h
    have:=L.ln s.rel
    rwa [gm]at this
  obtain⟨oc,od,kV,aa,pm,an,ab,ct,ae,rfl,lk,W⟩:=F.ex
  refine HU lk W S (λe H Q E h=>(d h).trans hn.symm) λAr a s H e Q E hr r=>?_
  refine e1a2 (g Ar a s H E hr) λt h1 h2=>?_
  refine#[t,h1,?_]
  have X:=d r
  obtain⟨F,R,p,Kn,i,l,hw,kn,ke⟩:=r
  have u:start N e=e.map some++j4 j none:=by unfold L2.start;rw[X,hj]
  have B:(start N e).take n=e.map some:=by rw[u,mr (by rw[gm,X];exact gg _),iQ<|by rw[gm,X];exact gg _]
  refine h2 (I.ent p) F R _ H _ Kn i _ #[by rw[u];exact I.ok l.rel,l.sub,l.wD,l.tab,l.ve,l.uS] hw (λ_ _ _ _ _ z=>z.elim) (λx Y v F1 F2 Z H' q c G m=>?_) λC y Y F' Z H' q c G=>?_
  · rw[B]at G
    exact kn x Y v F1 F2 Z H' q c G m
  · rw[B]at G
    exact ke C y Y F' Z H' q c G
def Cp{O:gV}{N ps:List Str}{k j n:Nat}{ms:List Nat}{A PO D D':Type}[Sls A][Sls PO][Sls D][Sls D'][L:Ln A n][En:Ent A j D][J:Pj D' PO n](dp:RU PO ms n){w0:D->(D'->Prop)->(Unit->PO->Prop)->(ci->PO->Prop)->Prop}
 (F:yo K x e O f fd) (S:uq N ps (uh O)) (hn:ps.length=n) (hj:N.length-n=j)
 (o:∀(d:cr)(A:iW)(b:List Env)(s:gn)(H:Hp)(E:XK),vM k (A.deeper<|nS e (uh O) ⇑s f d)->SW (vg (vd P w) P w K mg base N e (uh O) f d A b s H E) E T ms n (uP O) w0) :
    uR P w K mg base (vd P w) (k+1) f fd ps (xW T λ(p:A)(U:Unit->PO->Prop) B=>w0 (En.ent p) (λd'=>U ()<|J.pj d') U B):=by
  have i:∀{l:List V} {H:Hp} {Q:VK} {E:XK},xW T (λ(p:A)(U:Unit->PO->Prop) B=>w0 (En.ent p) (λd'=>U ()<|J.pj d') U B) l H Q E->l.length=n:=λh=>by
    obtain⟨F,R,p,Kn,B,s,_⟩:=h
    have:=L.ln s.rel
    rwa [gm]at this
  obtain⟨oc,od,kV,ab,pm,an,d,ct,ae,rfl,lk,aa⟩:=F.ex
  refine HU lk aa S (λl H Q E h=>(i h).trans hn.symm) λAr b s H l Q E hr W=>?_
  refine e1a2 (o d Ar b s H E hr) λt h1 h2=>?_
  refine#[t,h1,?_]
  have hl:=i W
  obtain⟨F,R,p,Kn,B,I,hw,kn,ke⟩:=W
  have X:start N l=l.map some++j4 j none:=by unfold L2.start;rw[hl,hj]
  have r:(start N l).take n=l.map some:=by rw[X,mr (by rw[gm,hl];exact gg _),iQ<|by rw[gm,hl];exact gg _]
  refine h2 (En.ent p) F R _ H _ Kn B _ #[by rw[X];exact En.ok I.rel,I.sub,I.wD,I.tab,I.ve,I.uS] hw (λd' F' Y Z af q c u g=>?_) (λx p' v F1 F2 Y Z q c u m=>?_) λC y p' F' Y Z q c u=>?_
  · refine e1a2 (vX (PO := PO) u) λG g1 M => ?_
    have g3:=dp.dp g M.rel
    rw[r]at g3
    exact kn () _ .vU (λ_=>False) G Y Z q (c.less λa h=>h.elim (λz=>z.elim)<|g1 a) ⟨g3,M.sub,M.wD,M.tab,M.ve,M.uS⟩ ⟨⟨λ_ z=>z,.vU,rfl,rfl⟩,λ_ z=>z.elim,λ_ z=>z.elim,λz=>z⟩
  · rw[r]at u
    exact kn x p' v F1 F2 Y Z q c u m
  · rw[r]at u
    exact ke C y p' F' Y Z q c u
end WL
namespace WL
open PySem L2
open Rep (rp)
open Ow (sl)
open Sls (rel)
class Dat(α:Type)[Rep α][DecidableEq α] where
 dat:α->PyData
 dp:Nat
 rd:∀{X:Cx} {R:Rg} {H:Hp} {x:α} {v:V},rp R H x v->Ff X H v (dat x)
 lay:∀x,(dat x).canLay0=true
 dep:∀x,(dat x).depth<=dp
 nm:∀x y,oJ (dat x) (dat y)=true
 sm:∀x y,j5 (dat x) (dat y)=decide (x=y)
instance:Dat Int where
 dat:=.int
 dp:=0
 rd h:=by have h:_=_:=h;subst h;exact Ff.int _
 lay _:=by simp[oz]
 dep _:=by simp[rg]
 nm _ _:=by simp[oJ]
 sm x y:=by rw[j5];by_cases h:x=y<;>simp[h]
section
variable{α β:Type}[Rep α][DecidableEq α][Dat α][Rep β][DecidableEq β][Dat β]
def A7{X:Cx}{R:Rg}{H:Hp}:∀{xs:List α} {vs:List V},Paired (rp R H) xs vs->Paired (Ff X H) vs (xs.map Dat.dat):=by
 intro _ _ z
 induction z with
 |nil=>exact .nil
 |cons h t ih=>exact .cons (Dat.rd h) ih
def LX:∀a:List α,m6 (a.map Dat.dat)=true
 | []=>by simp[m6]
 |x::a=>by simp only[gN,m6,Dat.lay x,LX a,pA]
def LY:∀a:List α,nY (a.map Dat.dat)<=Dat.dp α
 | []=>by simp[nY]
 |x::a=>by
  have b:=LY a;have c:=Dat.dep x;simp only[gN,nY]
  lia
def Pn:∀a b:List α,lN (a.map Dat.dat) (b.map Dat.dat)=true
 | [],[]=>by simp[lN]
 | [],_::_=>by simp[lN]
 |_::_,[]=>by simp[lN]
 |x::a,y::b=>by simp only[gN,lN,Dat.nm x y,Pn a b,pA]
def Po:∀xs ys:List α,jV (xs.map Dat.dat) (ys.map Dat.dat)=decide (xs=ys)
 | [],[]=>by simp[jV]
 | [],_::_=>by simp[jV]
 |_::_,[]=>by simp[jV]
 |x::xs,y::ys=>by simp only[gN,jV,Dat.sm x y,Po xs ys];by_cases h:x=y<;>simp[h]
instance:Dat (List α) where
 dat xs:=.list<|xs.map Dat.dat
 dp:=Dat.dp α+1
 rd h:=by obtain⟨a,vs,rfl,_,h3,h4⟩:=h;exact Ff.lst (vJ.of h3)<|A7 h4
 lay xs:=by simp only[oz];exact LX xs
 dep xs:=by simp only[rg];have:=LY xs;omega
 nm xs ys:=by simp only[oJ];exact Pn xs ys
 sm xs ys:=by simp only[j5];exact Po xs ys
def Ff.tup{X:Cx}(h:yD X.K H a c)(p:Paired (Ff X H) c d):Ff X H (.ref a) (.tuple d):=λb m s u I r=>by
 cases r;refine e1a3 (I.tuple h) λe f g _=>?_;obtain⟨q,i⟩:=Fh I f p;obtain⟨o,j,k,n,l⟩:=g;exact#[_,Reads.tuple j k l<|by simpa using i]
instance:Dat (α×β) where
 dat x:=.tuple [Dat.dat x.1,Dat.dat x.2]
 dp:=max (Dat.dp α) (Dat.dp β)+1
 rd h:=by obtain⟨a,u,w,rfl,_,h3,h4,h5⟩:=h;exact Ff.tup (yD.of h3)<|.cons (Dat.rd h4)<|.cons (Dat.rd h5) .nil
 lay x:=by simp only[oz,m6,Dat.lay,pA]
 dep x:=by have h1:=Dat.dep x.1;have h2:=Dat.dep x.2;simp only[rg,nY];omega
 nm x y:=by simp only[oJ,lN,Dat.nm,pA]
 sm x y:=by simp only[j5,jV,Dat.sm];obtain⟨a,b⟩:=x;obtain⟨c,d⟩:=y;by_cases h1:a=c<;>by_cases h2:b=d<;>simp[h1,h2]
end
def RdL{α:Type}[Rep α]{D:Type}[Sls D](T:ci)(F R:Rg)(H:Hp)(σ:St)(g:D->List α)(v:V):Prop :=
 ∀(d'':D)(Vp Jd:Rg)(Pp:Hp),Ch T F R H Vp Jd Pp->vw T Vp Jd Pp d'' σ->∃a vs,v=.ref a/\Pp a=↑(.lst vs)/\Paired (rp Jd Pp) (g d'') vs
def ER(X:Cx)(E:XK)(T:ci)(e:hZ){D i:Type}[Sls D][Rep i](w:Wf D (D->List i) D):Prop :=
 ∃t,PE X e t/\∀(d:D)(F R:Rg)(f:St)(H:Hp) (j:(D->List i)->D->Prop) (k:ci->D->Prop) (Q:VK),vw T F R H d f->w d j k ->
  (∀g h v b c a,j g h->Ch T F R H b c a->vw T b c a h f->RdL T b c a f g v->Q v a) ->
  (∀C y h b c a,k C h->Ch T F R H b c a->vw T b c a h f->E (.ref C) ↑y a)->t f H Q
section
variable{D:Type}[Sls D]{α β γ:Type}[Rep α][Rep β][Rep γ]
def vz(h:EW X E T e w):ER X E T e (λ(d:D) (g:(D->List α)->D->Prop) b=>w d (λx f=>g (λ_=>x) f) b):=by refine e1a2 h λt j k=>?_;refine#[t,j,λd F R l H g b Q s m n o=>k d F R l H _ b Q s m (λx f v p u y q c i r=>n _ f v p u y q c i λz A B C G I=>?_) o];refine e2a4 (i.val G r) λa J L O M N=>?_;exact#[a,J,L,M,N]
def vQ(i:Nat)[Sls h][A:At i D (OL α) h](j:PE X (.Name x pos) (uT i):=by exact pv _):ER X E T (.Name x pos) (λ(d:D) (e:(D->List α)->D->Prop) _=>e (λd=>(A.get d).l) d):=by refine#[_,j,λd F R w H e y Q s k m _=>?_];obtain⟨v,z,B,f,C,⟨a,G,rfl,I⟩,_⟩:=A.take s.rel;refine#[_,f,m _ d _ F R H k (Ch.refl _ _ _ _) s λn o p q J b=>?_];obtain⟨L,M,N,g,O,⟨P,c,r,S,t,u⟩,_⟩:=A.take b.rel;rw[f]at g;cases g;cases r;exact#[_,c,rfl,t,u]
def WD{wa:Wf D (D->List α) D}{wb:Wf D β D}{c:List α->β->γ->Prop}
 (ha:ER X E T a wa) (hb:EW X E T b wb) (he:∀ta tb,PE X a ta->PE X b tb->PE X e (XU r ta tb))
 (hr:∀{R:Rg} {H:Hp} {xs:List α} {y:β} {z:γ} {p:ci} {us:List V} {v:V} {Q:VK},H p=↑(.lst us)->Paired (rp R H) xs us->rp R H y v->c xs y z->(∀w,rp R H z w->Q w H)->r (.ref p) v H Q) :
    EW X E T e (λd Kn Ke=>wa d (λg d1=>wb d1 (λy d2=>∃z,c (g d2) y z/\Kn z d2) Ke) Ke):=by
  refine e1a2 ha λta a1 a2=>?_
  refine e1a2 hb λtb b1 b2=>?_
  refine#[_,he ta tb a1 b1,λd F R σ H Kn Ke Q s hw kn ke=>?_]
  refine a2 d F R σ H _ Ke _ s hw (λg d1 u F1 R1 H1 q1 c1 s1 r1=>?_) ke
  refine b2 d1 F1 R1 σ H1 _ Ke _ s1 q1 (λy d2 v F2 R2 H2 q2 c2 s2 r2=>?_) λC y d' F' R' H' k c s'=>ke C y d' F' R' H' k (Ch.trans s s1.tab c1 c) s'
  refine e1a2 q2 λz z1 z2=>?_
  obtain⟨p,us,rfl,h1,h2⟩:=r1 d2 F2 R2 H2 c2 s2
  exact hr h1 h2 r2 z1 λw rw=>kn _ d2 w F2 R2 H2 z2 (Ch.trans s s1.tab c1 c2) s2 rw
def wl{R:Rg}{H:Hp}:∀{xs:List α} {vs:List V} {i:Nat} {x:α},Paired (rp R H) xs vs->xs[i]?=↑x->∃v,vs[i]?=↑v/\rp R H x v:=by
 intro _ _ i x z
 induction z generalizing i with
 |nil=>intro e;simp at e
 |cons r t ih =>
  intro e
  cases i with
  |zero=>simp at e;subst e;exact#[_,rfl,r]
  |succ i=>exact e1a2 (ih<|by simpa using e) λu h1 h2=>#[u,by simpa using h1,h2]
def zY{xs:List α}{vs:List V}{i:Int}(h:Paired (rp R H) xs vs)(e:EB xs i=↑x):∃v,EB vs i=↑v/\rp R H x v:=by
 unfold EB at e ⊢;rw[<- Paired.length h]
 cases q:Vc xs.length i with
 |none=>rw[q]at e;cases e
 |some j =>
  rw[q]at e;exact wl h e
def zc{j:Wf D (D->List α) D}{l:Wf D Int D}(q:ER X E T a j)(s:EW X E T b l)(t:LN b:=by intro _ _;rfl) :
  EW X E T (.Subscript a b pos) (λ(d:D)(u:α->D->Prop) m=>j d (λg A=>l A (λi n=>∃x,EB (g n) i=↑x/\u x n) m) m) :=
 WD (c:=λo i x=>EB o i=↑x) q s (λF G f h=>xv v4 f h t) λ{R H o y z p I v Q} f h B C k=>by subst B;refine e1a2 (zY h C) λw e r=>?_;exact#[_,_,_,_,rfl,rfl,vJ.of f,e,k _ r]
def JT{k:Nat}{e:Wf D (α×β) D}(g:EW X E T a e):EW X E T (.Subscript a (.Constant (.int 0) k p) pos) (λ(d:D)(f:α->D->Prop) b=>e d (λx c=>f x.1 c) b):=by refine e1a2 g λI h i=>?_;refine#[_,xv OB h uK<|λ_ _=>rfl,λd F R j H f b Q s l m n=>i d F R j H _ b _ s l (λx c u o r t y z A B=>?_) n];obtain⟨q,v,w,rfl,_,C,G,J⟩:=B;exact#[_,_,_,v,rfl,rfl,yD.of C,rfl,m _ c v o r t y z A G]
def DD{k:Nat}{e:Wf D (α×β) D}(g:EW X E T a e):EW X E T (.Subscript a (.Constant (.int 1) k p) pos) (λ(d:D)(f:β->D->Prop) b=>e d (λx c=>f x.2 c) b):=by refine e1a2 g λI h i=>?_;refine#[_,xv OB h uK<|λ_ _=>rfl,λd F R j H f b Q s l m n=>i d F R j H _ b _ s l (λx c u o r t y z A B=>?_) n];obtain⟨q,v,w,rfl,_,C,J,G⟩:=B;exact#[_,_,_,w,rfl,rfl,yD.of C,rfl,m _ c w o r t y z A G]
def zw(f:EW X E T a g):EW X E T a (λ(d:D)(e:α->D->Prop) b=>g d (λx c=>∃y,x=↑y/\e y c) b):=by refine e1a2 f λz h i=>?_;refine#[_,h,λd F R j H e b Q s k l m=>i d F R j H _ b _ s k (λx c u n o p r t v w=>?_) m];obtain⟨y,rfl,q⟩:=r;exact l y c u n o p q t v w.2
class NV(α:Type)[Rep α]:Prop where
 nv:∀{R:Rg} {H:Hp} {x:α} {v:V},rp R H x v->v≠.vU
instance:NV Int:=#[λh z=>by have h:_=_:=h;rw[h]at z;cases z]
instance:NV (α×β):=#[λh z=>by obtain⟨a,u,w,e,_⟩:=h;rw[e]at z;cases z]
def yP[NV α](g:EW X E T a h):EW X E T a (λ(d:D)(e:Option α->D->Prop) b=>h d (λx c=>e ↑x c) b):=by refine e1a2 g λw i j=>?_;exact#[_,i,λd F R k H e b Q s l m n=>j d F R k H _ b _ s l (λx c u o p q r t v f=>m ↑x c u o p q r t v #[NV.nv f,f]) n]
def Td{k:Nat}:EW X E T (.Constant .none k pos) (λ(d:D)(a:Option α->D->Prop) _=>a none d) :=
 #[_,Ji,λd F R e H a f Q s b c _=>c none d _ F R H b (Ch.refl _ _ _ _) s rfl]
def xO{a:hZ}{p:Pos}{wa:Wf D (D->List α) D}(hg:Gl X "len")(hm:X.mg "len"=none)(ha:ER X E T a wa)(hs:gf [a] X.env=(false,eval a X.env)::gf [] X.env:=by rfl) :
  EW X E T (.Call (.Name "len" p) [a] [] pos) (λ(d:D)(Kn:Int->D->Prop) Ke=>wa d (λg d1=>Kn ((g d1).length:Int) d1) Ke):=by
 refine e1a2 ha λta a1 a2=>?_;refine#[_,wj xB hg hm mO (ut a1 uI hs) (he:=hs),λd F R σ H Kn Ke Q s hw kn ke=>a2 d F R σ H _ Ke _ s hw (λg d1 u F1 R1 H1 q1 c1 s1 r1=>?_) ke];obtain⟨q,us,rfl,h1,h2⟩:=r1 d1 F1 R1 H1 (Ch.refl _ _ _ _) s1;refine#[_,_,rfl,.inl<|vJ.of h1,kn _ d1 _ F1 R1 H1 q1 c1 s1 ?_];show V.int _=V.int _;rw[Paired.length h2]
end
def AL(X:Cx)(E:XK)(T:ci)(es:List hZ){D α:Type}[Sls D][Rep α](w:Wf D (List α) D):Prop :=
 ∃t,PA X es t/\∀(d:D)(F R:Rg)(σ:St)(H:Hp)(Kn:List α->D->Prop)(Ke:ci->D->Prop)(Q:List V->Hp->Prop),vw T F R H d σ->w d Kn Ke ->
  (∀x d' vs F' R' H',Kn x d'->Ch T F R H F' R' H'->vw T F' R' H' d' σ->Paired (rp R' H') x vs->vs.length=es.length->Q vs H') ->
  (∀C y d' F' R' H',Ke C d'->Ch T F R H F' R' H'->vw T F' R' H' d' σ->E (.ref C) ↑y H')->t σ H Q
def vw.vals{T:ci}{D:Type}[Sls D]{d:D}{σ:St}{F R F' R':Rg}{H H':Hp}(s:vw T F R H d σ)(c:Ch T F R H F' R' H'){α:Type}[Rep α]{x:List α}{v:List V}(h:Paired (rp R H) x v):Paired (rp R' H') x v :=
 vC (c.ext.wide λa z=>z.elim (s.sub a) λq=>by rw[q];exact s.ve) h
section
variable{D:Type}[Sls D]{α β γ:Type}[Rep α][Rep β][Rep γ]
def uC:AL X E T [] (λ(d:D)(a:List α->D->Prop) _=>a [] d) :=
 #[_,uI,λd F R e H a f Q s b c _=>c [] d [] F R H b (Ch.refl _ _ _ _) s .nil rfl]
def uo{b:List hZ}{i:Wf D α D}{j:Wf D (List α) D}(r:EW X E T e i)(t:AL X E T b j)(v:gf (e::b) X.env=(false,eval e X.env)::gf b X.env:=by rfl) :
  AL X E T (e::b) (λd l a=>i d (λx g=>j g (λm h=>l (x::m) h) a) a):=by
 refine e1a2 r λta w z=>?_;refine e1a2 t λtr A B=>?_;refine#[_,ut w A v,λd F R n H l a Q s G I o=>?_];refine z d F R n H _ a _ s G (λx g u J L M N p f O=>?_) o;refine B g J L n M _ a _ f N (λm h P S U W Y q Z r2 l2=>?_) λC y d' F' R' H' k c s'=>o C y d' F' R' H' k (Ch.trans s f.tab p c) s';exact I _ h (u::P) S U W Y (Ch.trans s f.tab p q) Z (.cons (f.val q O) r2) (by rw[gK,gK,l2])
def uD(h:AL X E T b w)(g:b.length<=gh:=by decide):EO X E T (.List b pos) (λ(d:D)(c:OL α->D->Prop) a=>w d (λe i=>c #[e] i) a):=by refine e1a2 h λt j k=>?_;refine#[_,Ou j,λd F R l H c a Q s m n o=>k d F R l H _ a _ s m (λe q I r J L u v f x y=>#[by rw[y];exact g,λp z=>?_]) o];refine e1a3 (wR f z x) λA B C G=>?_;exact n _ q _ _ r A _ u (Ch.trans s f.tab v B) C G
def v6{r}(t:EW X E T a w)(z:EW X E T b A)
 (B:gf [a,b] X.env=(false,eval a X.env)::gf [b] X.env:=by rfl) (G:gf [b] X.env=(false,eval b X.env)::gf [] X.env:=by rfl) :
    EW X E T (.Tuple [a,b] r pos) (λ(d:D)(l:α×β->D->Prop) e=>w d (λx h=>A h (λy i=>l (x,y) i) e) e):=by
  refine e1a2 t λta I J=>?_
  refine e1a2 z λtb L M=>?_
  refine#[_,Ot<|ut I (ut L uI G) B,λd F R m H l e Q s N O n=>?_]
  refine J d F R m H _ e _ s N (λx h u P S U W o f Y=>?_) n
  refine M h P S m U _ e _ f W (λy i v Z R2 H2 q2 q g r2=>#[(by show 2<=gh;decide),λp hp=>?_]) λC y d' F' R' H' k c s'=>n C y d' F' R' H' k (Ch.trans s f.tab o c) s'
  refine e0a3 (g.new (.tup [u,v]) hp) λs3 j n3=>?_
  exact O _ i _ Z R2 _ q2 (Ch.trans s f.tab o<|Ch.trans f g.tab q j) s3 #[p,u,v,rfl,n3,ul,g.val j<|f.val q Y,g.val j r2]
def w8{R:Rg}{H:Hp}:∀{xs ys:List α} {us vs:List V},Paired (rp R H) xs us->Paired (rp R H) ys vs->Paired (rp R H) (xs++ys) (us++vs):=by
 intro _ _ _ _ z s
 induction z with
 |nil=>exact s
 |cons h t ih=>exact .cons h ih
def AI(J:ER X E T a L)(M:ER X E T b N) :
  EO X E T (.BinOp a .Add b pos) (λ(d:D)(n:OL α->D->Prop) f=>L d (λg j=>N j (λk e=>(g e).length+(k e).length<=gh/\n #[g e++k e] e) f) f):=by
 refine e1a2 J λta O P=>?_;refine e1a2 M λtb S U=>?_;refine#[_,wg Wd O S,λd F R o H n f Q s W Y t=>?_];refine P d F R o H _ f _ s W (λg j u Z R1 H1 q1 w h r1=>?_) t;refine U j Z R1 o H1 _ f _ h q1 (λk e v l x z A B i r2=>?_) λC y d' F' m H' k c s'=>t C y d' F' m H' k (Ch.trans s h.tab w c) s';obtain⟨p,us,rfl,h1,G⟩:=r1 e l x z B i;obtain⟨q,vs,rfl,k1,I⟩:=r2 e l x z (Ch.refl _ _ _ _) i;refine#[p,q,us,vs,rfl,rfl,h1,k1,by rw[<- Paired.length G,<- Paired.length I];exact A.1,λr hr=>?_];refine e1a3 (wR i hr<|w8 G I) λm c3 s3 n3=>?_;exact Y _ e _ _ l m _ A.2 (Ch.trans s h.tab w<|Ch.trans h i.tab B c3) s3 n3
def LZ(j:Gl X "list")(k:X.mg "list"=none)(m:ER X E T a n)(f:gf [a] X.env=(false,eval a X.env)::gf [] X.env:=by rfl) :
  EO X E T (.Call (.Name "list" p) [a] [] pos) (λ(d:D)(h:OL α->D->Prop) c=>n d (λg b=>h #[g b] b) c):=by
 refine e1a2 m λP o r=>?_;refine#[_,wP xC j k jU (ut o uI f) (he:=f),λd F R t H h c Q s v w x=>r d F R t H _ c _ s v (λg b u i y z A B e C=>?_) x];obtain⟨q,S,rfl,G,I⟩:=C b i y z (Ch.refl _ _ _ _) e;refine#[_,_,rfl,.inl<|vJ.of G,λl J=>?_];refine e1a3 (wR e J I) λL M N O=>?_;exact w _ b _ _ i L _ A (Ch.trans s e.tab B M) N O
noncomputable def ins(x:Int):List Int->List Int
 | []=>[x]
 |y::r=>if x<=y then x::y::r else y::ins x r
noncomputable def Ak:List Int->List Int
 | []=>[]
 |x::r=>ins x<|Ak r
def zx(x:Int):∀r:List Int,(ins x r).Perm (x::r)
 | []=>nZ _
 |y::r=>by
  unfold ins;split
  ·exact nZ _
  ·exact((zx x r).cons y).trans<|List.Perm.swap x y r
def vR:∀r:List Int,(Ak r).Perm r
 | []=>nZ _
 |x::r=>(zx x<|Ak r).trans<|(vR r).cons x
set_option tactic.hygienic true in
def Gc(x:Int):∀r:List Int,r.Pairwise (·<=·)->(ins x r).Pairwise (·<=·)
 | [],_=>jh _ _
 |y::r,h=>by
  unfold ins;have b:=List.pairwise_cons.mp h;split
  ·rename_i a
   refine List.pairwise_cons.mpr #[λz c=>?_,h];rcases List.mem_cons.mp c with e|e
   ·rw[e];exact a
   ·exact Int.le_trans a<|b.1 z e
  ·rename_i a
   refine List.pairwise_cons.mpr #[λz c=>?_,Gc x r b.2];rcases List.mem_cons.mp ((zx x r).mem_iff.mp c) with e|e
   ·rw[e];lia
   ·exact b.1 z e
def A8:∀r:List Int,(Ak r).Pairwise (·<=·)
 | []=>gS
 |x::r=>Gc x _<|A8 r
def zZ:∀{a b:List Int},a.Perm b->a.Pairwise (·<=·)->b.Pairwise (·<=·)->a=b
 | [],b,p,_,_=>(List.Perm.nil_eq p)
 |x::a,[],p,_,_=>gA p.length_eq q0o
 |x::a,y::b,p,c,d=>by
  have e:x=y:=by
   have f:x∈y::b:=p.mem_iff.mp gk;have g:y∈x::a:=p.mem_iff.mpr gk;rcases List.mem_cons.mp f with q|q
   ·exact q
   ·rcases List.mem_cons.mp g with z|z
    ·exact z.symm
    ·have:=(List.pairwise_cons.mp d).1 x q;have:=(List.pairwise_cons.mp c).1 y z
     lia
  subst e;rw[zZ p.cons_inv (List.pairwise_cons.mp c).2 (List.pairwise_cons.mp d).2]
def DE{a:List Int}(p:a.Perm b)(h:a.Pairwise (·<=·)):a=Ak b:=zZ (p.trans (vR b).symm) h<|A8 b
def paired_ints{R:Rg}{H:Hp}:∀{xs:List Int} {vs:List V},Paired (rp R H) xs vs->vs=xs.map V.int:=by
 intro _ _ z
 induction z with
 |nil=>rfl
 |cons h t ih=>rw[show _=V.int _ from h,ih];rfl
def xj{R:Rg}{H:Hp}:∀xs:List Int,Paired (rp R H) xs (xs.map V.int)
 | []=>.nil
 |x::r=>.cons (rfl:rp R H x (V.int x))<|xj r
def BS{a:hZ}{p:Pos}{wa:Wf D (D->List Int) D}(hg:Gl X "sorted")(hm:X.mg "sorted"=none)(ha:ER X E T a wa)(hs:gf [a] X.env=(false,eval a X.env)::gf [] X.env:=by rfl) :
  EO X E T (.Call (.Name "sorted" p) [a] [] pos) (λ(d:D)(Kn:OL Int->D->Prop) Ke=>wa d (λg d1=>(g d1).length<64/\Kn #[Ak<|g d1] d1) Ke):=by
 refine e1a2 ha λta a1 a2=>?_;refine#[_,wj F8 hg hm jH (ut a1 uI hs) (he:=hs),λd F R σ H Kn Ke Q s hw kn ke=>a2 d F R σ H _ Ke _ s hw (λg d1 u F1 R1 H1 q1 c1 s1 r1=>?_) ke];obtain⟨q,us,rfl,h1,h2⟩:=r1 d1 F1 R1 H1 (Ch.refl _ _ _ _) s1;refine#[_,g d1,rfl,vJ.of (by rw[h1,paired_ints h2]),q1.1,λl ns hl pn sn=>?_];rw[DE pn sn];refine e1a3 (wR s1 hl<|xj (R:=R1) (H:=H1)<|Ak<|g d1) λR' c3 s3 n3=>?_;exact kn _ d1 _ _ F1 R' _ q1.2 (Ch.trans s s1.tab c1 c3) s3 n3
noncomputable def EH{α:Type}(a:List α)(b c:Option Int):List α:=(a.drop<|HT.wu a.length 0 b).take<|HT.wu a.length a.length c-HT.wu a.length 0 b
def Im{R:Rg}{H:Hp}:∀{xs:List α} {vs:List V} (n:Nat),Paired (rp R H) xs vs->Paired (rp R H) (xs.drop n) (vs.drop n):=by
 intro _ _ n z
 induction z generalizing n with
 |nil=>cases n<;>exact .nil
 |cons h t ih=>cases n with
  |zero=>exact .cons h t
  |succ k=>exact ih k
def Cr{R:Rg}{H:Hp}:∀{xs:List α} {vs:List V} (n:Nat),Paired (rp R H) xs vs->Paired (rp R H) (xs.take n) (vs.take n)
 |_,_,0,_=>.nil
 |_,_,_+1,.nil=>.nil
 |_,_,n+1,.cons r t=>.cons r<|Cr n t
def DF{R:Rg}{H:Hp}{xs:List α}{vs:List V}(h:Paired (rp R H) xs vs)(lo hi:Option Int):Paired (rp R H) (EH xs lo hi) (Do vs lo hi):=by unfold EH Do;rw[<- Paired.length h];exact Cr _<|Im _ h
def OW(X:Cx)(E:XK)(T:ci)(e:Option hZ){D:Type}[Sls D](w:Wf D (Option Int) D):Prop :=
 ∃t,PO X e t/\∀(d:D)(F R:Rg)(g:St)(H:Hp)(h:Option Int->D->Prop)(i:ci->D->Prop)(Q:Option Int->Hp->Prop),vw T F R H d g->w d h i ->
  (∀x b c f a,h x b->Ch T F R H c f a->vw T c f a b g->Q x a) ->
  (∀C y b c f a,i C b->Ch T F R H c f a->vw T c f a b g->E (.ref C) ↑y a)->t g H Q
def Gd:OW X E T none (λ(d:D) a _=>a none d):=#[_,CL,λd F R e H a f Q s b c _=>c none d F R H b (Ch.refl _ _ _ _) s]
def Ge(h:EW X E T e w):OW X E T ↑e (λ(d:D) b a=>w d (λi c=>b ↑i c) a):=by refine e1a2 h λt f g=>?_;exact#[_,CM f,λd F R j H b a Q s k l m=>g d F R j H _ a _ s k (λx n u o p q r v y z=>#[x,z,l _ n o p q r v y]) m]
def Io{G:Option hZ}(M:ER X E T a N)(O:OW X E T G P)(S:OW X E T U W) :
  EO X E T (.Subscript a (.Slice G U none p2) pos) (λ(d:D)(I:OL α->D->Prop) b=>N d (λg m=>P m (λl n=>W n (λh f=>I #[EH (g f) l h] f) b) b) b):=by
 refine e1a2 M λta Y Z=>?_;refine e1a2 O λtl l1 l2=>?_;refine e1a2 S λth h1 h2=>?_;refine#[_,zo CN Y l1 h1,λd F R o H I b Q s hw kn r=>?_];refine Z d F R o H _ b _ s hw (λg m u F1 R1 H1 q1 t e r1=>?_) r;refine l2 m F1 R1 o H1 _ b _ e q1 (λl n F2 R2 H2 q2 v i=>?_) λC y w x j z k c A=>r C y w x j z k (Ch.trans s e.tab t c) A;refine h2 n F2 R2 o H2 _ b _ i q2 (λh f J R3 H3 q3 L B=>?_) λC y w x j z k c A=>r C y w x j z k (Ch.trans s e.tab t<|Ch.trans e i.tab v c) A;obtain⟨q,us,rfl,k1,k2⟩:=r1 f J R3 H3 (Ch.trans e i.tab v L) B;refine⟨q,us,rfl,vJ.of k1,λp hp=>?_⟩;refine e1a3 (wR B hp<|DF k2 l h) λj c4 s4 n4=>?_;exact kn _ f _ _ J j _ q3 (Ch.trans s e.tab t<|Ch.trans e i.tab v<|Ch.trans i B.tab L c4) s4 n4
def Cm(X:Cx)(op:qx)(g:α->β->Bool):Prop:=∃r,Ai X (iX op) r/\∀{R:Rg} {H:Hp} {x:α} {y:β} {u v:V} {Q:VK},rp R H x u->rp R H y v->Q (.bl<|g x y) H->r u v H Q
def Z6(X:Cx)(op:qx)(g:List α->List β->Bool):Prop:=∃r,Ai X (iX op) r/\∀{R:Rg} {H:Hp} {x:List α} {y:List β} {p q:ci} {us vs:List V} {Q:VK},H p=↑(.lst us)->Paired (rp R H) x us->H q=↑(.lst vs)->Paired (rp R H) y vs->Q (.bl<|g x y) H->r (.ref p) (.ref q) H Q
def CmI(X:Cx)(op:qx)(g:α->List β->Bool):Prop:=∃r,Ai X (iX op) r/\∀{R:Rg} {H:Hp} {x:α} {y:List β} {q:ci} {u:V} {vs:List V} {Q:VK},rp R H x u->H q=↑(.lst vs)->Paired (rp R H) y vs->Q (.bl<|g x y) H->r u (.ref q) H Q
def WE(a:Ai X (iX op) (RQ λi j=>.bl<|g i j)):Cm X op g:=⟨_,a,λb c k=>#[_,_,b,c,k]⟩
def Pq:Cm X .Lt (λi j:Int=>decide<|i<j):=WE U8
def Vq:Cm X .Gt (λi j:Int=>decide<|j<i):=WE Va
def Vs:Cm X .GtE (λi j:Int=>decide<|j<=i):=WE Yk
def As[DecidableEq α][Il α]:Cm X .Eq (λx y:α=>decide<|x=y):=⟨_,Yi,λa b k=>#[(Il.sc a b).1,by rw[(Il.sc a b).2];exact k]⟩
def Pr[DecidableEq α][Il α]:Cm X .NotEq (λx y:α=>!decide (x=y)):=#[_,Yj,λa b k=>#[(Il.sc a b).1,by rw[(Il.sc a b).2];exact k]]
def WF:Cm X .Is (λ(x:Option α)(_:Unit)=>x.isNone):=#[_,V5,λa b k=>#[b,by rw[LV a];exact k]]
def L0:Cm X .IsNot (λ(x:Option α)(_:Unit)=>!x.isNone):=#[_,Sh,λa b k=>#[b,by rw[LV a];exact k]]
def yQ[DecidableEq α][Dat α](a:Dat.dp α<=64)(x:α):rC (Dat.dat x)=true:=by show (oz (Dat.dat x)&&decide ((Dat.dat x).depth<=64))=true;rw[hR];exact#[Dat.lay x,decide_eq_true<|gW (Dat.dep x) a]
def DG[DecidableEq α][Dat α](b:X.A.units+64<jS)(a:Dat.dp (List α)<=64:=by decide):Z6 X .Eq (λx y:List α=>decide (x=y)):=#[_,Ws b,λ{R H x y p q g h Q} c d e f k=>#[_,_,Ff.lst (vJ.of c) (A7 d),Ff.lst (vJ.of e) (A7 f),yQ a x,yQ a y,Dat.nm x y,by
 have:=Dat.sm x y
 rw[show j5 (.list (x.map Dat.dat)) (.list (y.map Dat.dat))=decide (x=y) from this];exact k]]
def BU[DecidableEq α][Dat α](b:X.A.units+64<jS)(a:Dat.dp (List α)<=64:=by decide):Z6 X .NotEq (λx y:List α=>!decide (x=y)):=#[_,Wt b,λ{R H x y p q g h Q} c d e f k=>#[_,_,Ff.lst (vJ.of c) (A7 d),Ff.lst (vJ.of e) (A7 f),yQ a x,yQ a y,Dat.nm x y,by
 have:=Dat.sm x y
 rw[show j5 (.list (x.map Dat.dat)) (.list (y.map Dat.dat))=decide (x=y) from this];exact k]]
def A9(k:Int)(a:List Int):ZY (.int k) (a.map V.int)=decide (k∈a):=by
 unfold ZY;rw[List.any_map,lq,t9,hX];constructor
 ·rintro⟨y,b,e⟩;have:y=k:=by simpa[RS] using e
  rw[<- this];exact b
 ·intro h;exact#[k,h,by simp[RS]]
def z8(a:List Int):(a.map V.int).all AT=true:=by rw[List.all_map,nQ];intro x _;rfl
def YR:CmI X .In (λ(x:Int)(ys:List Int)=>decide (x∈ys)):=#[_,E7,λ{R H x y q u vs Q} h1 h2 h3 k=>by
 subst h1;refine#[q,vs,rfl,.inl<|vJ.of h2,rfl,by rw[paired_ints h3];exact z8 y,?_];rw[paired_ints h3,A9]
 exact k]
def DH:CmI X .NotIn (λ(x:Int)(ys:List Int)=>!decide (x∈ys)):=#[_,AU,λ{R H x y q u vs Q} h1 h2 h3 k=>by
 subst h1;refine#[q,vs,rfl,.inl<|vJ.of h2,rfl,by rw[paired_ints h3];exact z8 y,?_];rw[paired_ints h3,A9]
 exact k]
def tw_cm{a b:hZ}{op:qx}{g:α->β->Bool}{wa:Wf D α D}{wb:Wf D β D}(C:Cm X op g)(ha:EW X E T a wa)(hb:EW X E T b wb)(hm:iB op b=false:=by exact wB _) :
  TW X E T (.Compare a [op] [b] pos) (λ(d:D) Kn Ke=>wa d (λx d1=>wb d1 (λy d2=>Kn (g x y) d2) Ke) Ke):=by
 refine e1a2 C λr o1 o2=>?_;refine e1a2 ha λta a1 a2=>?_;refine e1a2 hb λtb b1 b2=>?_;refine#[_,w6 o1 a1 b1 hm,λd F R σ H Kn Ke Q s hw kn ke=>?_];refine a2 d F R σ H _ Ke _ s hw (λx d1 u F1 R1 H1 q1 c1 s1 r1=>?_) ke;refine b2 d1 F1 R1 σ H1 _ Ke _ s1 q1 (λy d2 v F2 R2 H2 q2 c2 s2 r2=>?_) λC y d' F' R' H' k c s'=>ke C y d' F' R' H' k (Ch.trans s s1.tab c1 c) s';exact o2 (s1.val c2 r1) r2 #[_,rfl,kn _ d2 F2 R2 H2 q2 (Ch.trans s s1.tab c1 c2) s2]
def a1W{a b:hZ}{op:qx}{g:α->β->Bool}{j:Wf D α D}{l:Wf D β D}(C:Cm X op g)(t:EW X E T a j)(w:EW X E T b l)(z:iB op b=false:=by exact wB _) :
  EW X E T (.Compare a [op] [b] pos) (λ(d:D)(m:Bool->D->Prop) e=>j d (λx h=>l h (λy i=>m (g x y) i) e) e):=by
 obtain⟨r,A,B⟩:=C;obtain⟨ta,G,I⟩:=t;obtain⟨tb,J,L⟩:=w;refine#[_,LG A G J z,λd F R n H m e Q s M N o=>?_];refine I d F R n H _ e _ s M (λx h u O P H1 S p f U=>?_) o;refine L h O P n H1 _ e _ f S (λy i v W R2 H2 Y q Z r2=>?_) λC y d' F' R' H' k c s'=>o C y d' F' R' H' k (Ch.trans s f.tab p c) s';exact B (f.val q U) r2<|N _ i _ W R2 H2 Y (Ch.trans s f.tab p q) Z rfl
def tw_cmL{a b:hZ}{op:qx}{g:List α->List β->Bool}{wa:Wf D (D->List α) D}{wb:Wf D (D->List β) D}(C:Z6 X op g)(ha:ER X E T a wa)(hb:ER X E T b wb)(hm:iB op b=false:=by exact wB _) :
  TW X E T (.Compare a [op] [b] pos) (λ(d:D) Kn Ke=>wa d (λx d1=>wb d1 (λy d2=>Kn (g (x d2)<|y d2) d2) Ke) Ke):=by
 refine e1a2 C λr o1 o2=>?_;refine e1a2 ha λta a1 a2=>?_;refine e1a2 hb λtb b1 b2=>?_;refine#[_,w6 o1 a1 b1 hm,λd F R σ H Kn Ke Q s hw kn ke=>?_];refine a2 d F R σ H _ Ke _ s hw (λx d1 u F1 R1 H1 q1 c1 s1 r1=>?_) ke;refine b2 d1 F1 R1 σ H1 _ Ke _ s1 q1 (λy d2 v F2 R2 H2 q2 c2 s2 r2=>?_) λC y d' F' R' H' k c s'=>ke C y d' F' R' H' k (Ch.trans s s1.tab c1 c) s';obtain⟨p,us,rfl,h1,h2⟩:=r1 d2 F2 R2 H2 c2 s2;obtain⟨q,vs,rfl,k1,k2⟩:=r2 d2 F2 R2 H2 (Ch.refl _ _ _ _) s2;exact o2 h1 h2 k1 k2 #[_,rfl,kn _ d2 F2 R2 H2 q2 (Ch.trans s s1.tab c1 c2) s2]
def JU{a b:hZ}{op:qx}{g:List α->List β->Bool}{wa:Wf D (D->List α) D}{wb:Wf D (D->List β) D}(C:Z6 X op g)(ha:ER X E T a wa)(hb:ER X E T b wb)(hm:iB op b=false:=by exact wB _) :
  EW X E T (.Compare a [op] [b] pos) (λ(d:D)(Kn:Bool->D->Prop) Ke=>wa d (λx d1=>wb d1 (λy d2=>Kn (g (x d2)<|y d2) d2) Ke) Ke):=by
 refine e1a2 C λr o1 o2=>?_;refine e1a2 ha λta a1 a2=>?_;refine e1a2 hb λtb b1 b2=>?_;refine#[_,LG o1 a1 b1 hm,λd F R σ H Kn Ke Q s hw kn ke=>?_];refine a2 d F R σ H _ Ke _ s hw (λx d1 u F1 R1 H1 q1 c1 s1 r1=>?_) ke;refine b2 d1 F1 R1 σ H1 _ Ke _ s1 q1 (λy d2 v F2 R2 H2 q2 c2 s2 r2=>?_) λC y d' F' R' H' k c s'=>ke C y d' F' R' H' k (Ch.trans s s1.tab c1 c) s';obtain⟨p,us,rfl,h1,h2⟩:=r1 d2 F2 R2 H2 c2 s2;obtain⟨q,vs,rfl,k1,k2⟩:=r2 d2 F2 R2 H2 (Ch.refl _ _ _ _) s2;exact o2 h1 h2 k1 k2<|kn _ d2 _ F2 R2 H2 q2 (Ch.trans s s1.tab c1 c2) s2 rfl
def tw_cmI{a b:hZ}{op:qx}{g:α->List β->Bool}{wa:Wf D α D}{wb:Wf D (D->List β) D}(C:CmI X op g)(ha:EW X E T a wa)(hb:ER X E T b wb)(hm:iB op b=false:=by exact wB _) :
  TW X E T (.Compare a [op] [b] pos) (λ(d:D) Kn Ke=>wa d (λx d1=>wb d1 (λy d2=>Kn (g x<|y d2) d2) Ke) Ke):=by
 refine e1a2 C λr o1 o2=>?_;refine e1a2 ha λta a1 a2=>?_;refine e1a2 hb λtb b1 b2=>?_;refine#[_,w6 o1 a1 b1 hm,λd F R σ H Kn Ke Q s hw kn ke=>?_];refine a2 d F R σ H _ Ke _ s hw (λx d1 u F1 R1 H1 q1 c1 s1 r1=>?_) ke;refine b2 d1 F1 R1 σ H1 _ Ke _ s1 q1 (λy d2 v F2 R2 H2 q2 c2 s2 r2=>?_) λC y d' F' R' H' k c s'=>ke C y d' F' R' H' k (Ch.trans s s1.tab c1 c) s';obtain⟨q,vs,rfl,k1,k2⟩:=r2 d2 F2 R2 H2 (Ch.refl _ _ _ _) s2;exact o2 (s1.val c2 r1) k1 k2 #[_,rfl,kn _ d2 F2 R2 H2 q2 (Ch.trans s s1.tab c1 c2) s2]
def tw_val{w:Wf D Bool D}(h:EW X E T e w)(b:∀a,qd e X.env a=(do let v <- a;mf e.pos;jY [v] (tJ v)):=by intro _;rfl):TW X E T e w:=by refine e1a2 h λt c f=>?_;exact#[_,VJ c b,λd F R g H A i Q s j k l=>f d F R g H _ i _ s j (λx m u n o p q r y z=>#[x,z,k _ m n o p q r y]) l]
def tw_not{w:Wf D Bool D}(h:TW X E T e w):TW X E T (.UnaryOp .Not e pos) (λd f a=>w d (λb c=>f (!b) c) a):=by refine e1a2 h λt g i=>?_;exact#[_,VM g,λd F R j H f a Q s k l m=>i d F R j H _ a _ s k (λx c n o p q r u=>l _ c n o p q r u) m]
def WW(X:Cx)(E:XK)(T:ci)(e:hZ){D:Type}[Sls D](w:Wf D Bool D):Prop :=
 ∃t,PW X e t/\∀(d:D)(F R:Rg)(g:St)(H:Hp)(h:Bool->D->Prop)(i:ci->D->Prop)(Q:Bool->Hp->Prop),vw T F R H d g->w d h i ->
  (∀x b c f a,h x b->Ch T F R H c f a->vw T c f a b g->Q x a) ->
  (∀C y b c f a,i C b->Ch T F R H c f a->vw T c f a b g->E (.ref C) ↑y a)->t g H Q
def tw_w{w:Wf D Bool D}(h:WW X E T e w):TW X E T e w:=e1a2 h λt a b=> #[t,a.pt,b]
def Gg{w:Wf D Bool D}(h:TW X E T a w):WW X E T (.BoolOp .And [a] pos) w:=e1a2 h λt b c=> #[_,Sc b,c]
def JV{w:Wf D Bool D}(h:TW X E T a w):WW X E T (.BoolOp .Or [a] pos) w:=e1a2 h λt b c=> #[_,Oe b,c]
def JW{e:List hZ}{l m:Wf D Bool D}(v:TW X E T a l)(w:WW X E T (.BoolOp .And (b::e) pos) m):WW X E T (.BoolOp .And (a::b::e) pos) (λd i f=>l d (λx g=>if x=true then m g i f else i false g) f):=by
 refine e1a2 v λta z A=>?_;refine e1a2 w λtb B G=>?_;refine#[_,VL z B,λd F R n H i f Q s I o p=>?_];refine A d F R n H _ f _ s I (λx g q r t u j h=>?_) p
 cases x with
 |true=>exact G g q r n t _ f _ h u (λy J L M N O P S=>o _ J L M N O (Ch.trans s h.tab j P) S) λC y U W Y Z k c s'=>p C y U W Y Z k (Ch.trans s h.tab j c) s'
 |false=>exact o _ g q r t u j h
def Pu{e:List hZ}{l m:Wf D Bool D}(v:TW X E T a l)(w:WW X E T (.BoolOp .Or (b::e) pos) m):WW X E T (.BoolOp .Or (a::b::e) pos) (λd i f=>l d (λx g=>if x=true then i true g else m g i f) f):=by
 refine e1a2 v λta z A=>?_;refine e1a2 w λtb B G=>?_;refine#[_,U1 z B,λd F R n H i f Q s I o p=>?_];refine A d F R n H _ f _ s I (λx g q r t u j h=>?_) p
 cases x with
 |false=>exact G g q r n t _ f _ h u (λy J L M N O P S=>o _ J L M N O (Ch.trans s h.tab j P) S) λC y U W Y Z k c s'=>p C y U W Y Z k (Ch.trans s h.tab j c) s'
 |true=>exact o _ g q r t u j h
def CT{op}{w:Wf D Bool D}(h:EW X E T a w):EW X E T (.BoolOp op [a] pos) w:=e1a2 h λt b c=> #[_,VN b,c]
def JX{e:List hZ}(t:EW X E T a w)(z:EW X E T (.BoolOp .And (b::e) pos) A):EW X E T (.BoolOp .And (a::b::e) pos) (λ(d:D)(i:Bool->D->Prop) f=>w d (λx g=>if x=true then A g i f else i false g) f):=by
 refine e1a2 t λta B G=>?_;refine e1a2 z λtb I J=>?_;refine#[_,VO B I,λd F R l H i f Q s L m n=>?_];refine G d F R l H _ f _ s L (λx g u o p q r j h M=>#[x,M,?_]) n
 cases x with
 |true=>exact J g o p l q _ f _ h r (λy N v O P S U W Y Z=>m _ N v O P S U (Ch.trans s h.tab j W) Y Z) λC y d' F' R' H' k c s'=>n C y d' F' R' H' k (Ch.trans s h.tab j c) s'
 |false=>exact m _ g _ o p q r j h rfl
def YS{e:List hZ}(t:EW X E T a w)(z:EW X E T (.BoolOp .Or (b::e) pos) A):EW X E T (.BoolOp .Or (a::b::e) pos) (λ(d:D)(i:Bool->D->Prop) f=>w d (λx g=>if x=true then i true g else A g i f) f):=by
 refine e1a2 t λta B G=>?_;refine e1a2 z λtb I J=>?_;refine#[_,Yc B I,λd F R l H i f Q s L m n=>?_];refine G d F R l H _ f _ s L (λx g u o p q r j h M=>#[x,M,?_]) n
 cases x with
 |false=>exact J g o p l q _ f _ h r (λy N v O P S U W Y Z=>m _ N v O P S U (Ch.trans s h.tab j W) Y Z) λC y d' F' R' H' k c s'=>n C y d' F' R' H' k (Ch.trans s h.tab j c) s'
 |true=>exact m _ g _ o p q r j h rfl
def WG(h:EW X E T a w):EW X E T (.UnaryOp .Not a pos) (λ(d:D)(f:Bool->D->Prop) c=>w d (λb e=>f (!b) e) c):=by refine e1a2 h λt g i=>?_;exact#[_,VP g,λd F R j H f c Q s k l m=>i d F R j H _ c _ s k (λx e u n o p q r v y=>#[x,y,l _ e _ n o p q r v rfl]) m]
end
variable[L2.GX]
class Te(τ:Type)[Ow τ]:Prop where
 fr:∀{F R L:Rg} {H:Hp} {x:τ} {v:Option V},sl F R H x v->(∀a,L a->∃us,H a=↑(.lst us))->sl F (λa=>R a\/L a) H x v
class JY(α:Type)[Rep α]:Prop where
 no:∀{R L:Rg} {H:Hp} {x:α} {v:V},rp R H x v->(∀a,L a->∃us,H a=↑(.lst us))->rp (λa=>R a\/L a) H x v
instance:JY Int:=#[λh _=>h]
instance:JY Bool:=#[λh _=>h]
instance{α β:Type}[Rep α][Rep β][JY α][JY β]:JY (α×β):=#[λ{R L H x v} h k=>by
 obtain⟨a,u,w,h1,h2,h3,h4,h5⟩:=h
 exact#[a,u,w,h1,λz=>z.elim h2 λq=>(by obtain⟨us,e⟩:=k a q;rw[h3]at e;cases e),h3,JY.no h4 k,JY.no h5 k]]
def L4{α:Type}[Rep α][JY α]{R L:Rg}{H:Hp}(k:∀a,L a->∃us,H a=↑(.lst us)):∀{xs:List α} {vs:List V},Paired (rp R H) xs vs->Paired (rp (λa=>R a\/L a) H) xs vs:=by
 intro _ _ z
 induction z with
 |nil=>exact .nil
 |cons h t ih=>exact .cons (JY.no h k) ih
instance{α:Type}[Rep α][JY α]:JY (Tp α):=#[λ{R L H x v} h k=>by
 refine e2a4 h λa vs h1 h2 h3 h4=>?_
 exact#[a,vs,h1,λz=>z.elim h2 λq=>(by obtain⟨us,e⟩:=k a q;rw[h3]at e;cases e),h3,L4 k h4]]
instance{α:Type}[Rep α][JY α]:Te α:=#[λ{F R L H x v} h k=>by
 obtain⟨h1,u,e,h2⟩:=h
 exact#[h1,u,e,JY.no h2 k]]
instance{α:Type}[Rep α][JY α]:Te (OL α):=#[λ{F R L H x v} h k=>by
 refine e2a4 h λa vs h1 h2 h3 h4=>?_
 exact#[a,vs,h1,h2,h3,L4 k h4]]
instance:Te Un:=#[λh _=>h]
class XY(P:Type)[Sls P]:Prop where
 fr:∀{F R L:Rg} {H:Hp} {x:P} {v:St},rel F R H x v->(∀a,L a->∃us,H a=↑(.lst us))->rel F (λa=>R a\/L a) H x v
instance:XY Unit:=#[λh _=>h]
instance{τ P:Type}[Ow τ][Sls P][Te τ][XY P]:XY (τ×P):=#[λh k=>by
 refine e4a4 h λv σ' F1 F2 h1 h2 h3 h4=>?_
 exact#[v,σ',F1,F2,h1,h2,Te.fr h3 k,XY.fr h4 k]]
class WH(P:Type)[Sls P]:Prop where
 ls:∀{F R:Rg} {H:Hp} {x:P} {v:St},rel F R H x v->∀a,F a->∃us,H a=↑(.lst us)
instance:WH Unit:=#[λh a z=>gA z (h.2 a)]
instance{α P:Type}[Rep α][Sls P][WH P]:WH (OL α×P):=#[λ{F R H x v} h a z=>by
 obtain⟨v,σ',F1,F2,h1,h2,⟨b,vs,k1,k2,k3,k4⟩,h4⟩:=h;rcases(h2.all a).mp z with q|q
 ·rw[(k2 a).mp q];exact#[vs,k3]
 ·exact WH.ls h4 a q]
abbrev Wo(R L:Rg):Rg:=λa=>R a/\¬L a
def BV(R L:Rg)(H:Hp):Ext (λ_=>False) R H (Wo R L) H:=#[λ_ _ _ h=>h,λa h=>.inl h.1]
def Tf(h:∀a,L a->b a):Ext (λ_=>False) (Wo R L) H (Wo R b) H:=#[λ_ _ _ h=>h,λa z=>.inl #[z.1,λq=>z.2<|h a q]]
def Sls.wk{D:Type}[Sls D]{F R R':Rg}{H:Hp}{d:D}{σ:St}(h:rel F R H d σ)(e:Ext (λ_=>False) R H R' H):rel F R' H d σ:=Sls.st h e (λ_ z=>z.elim)<|λ_ _ z=>z
def Ow.wk{τ:Type}[Ow τ]{F R R':Rg}{H:Hp}{d:τ}{σ:Option V}(h:sl F R H d σ)(e:Ext (λ_=>False) R H R' H):sl F R' H d σ:=Ow.st h e (λ_ z=>z.elim)<|λ_ _ z=>z
class Lb(Lc τ PO:Type)[Sls Lc][Ow τ][Sls PO]:Prop where
 fr:∀{F R L R0:Rg} {H:Hp} {x:τ} {v:Option V} {l:Lc} {us:St},rel L R0 H l us->sl F R H x v->sl F (λa=>R a\/L a) H x v
 fs:∀{F R L R0:Rg} {H:Hp} {x:PO} {v:St} {l:Lc} {us:St},rel L R0 H l us->rel F R H x v->rel F (λa=>R a\/L a) H x v
instance{Lc τ PO:Type}[Sls Lc][Ow τ][Sls PO][Te τ][XY PO][WH Lc]:Lb Lc τ PO:=#[λh k=>Te.fr k (WH.ls h),λh k=>XY.fr k (WH.ls h)]
def Pw{R L:Rg}{H:Hp}(h:∀a,¬L a):Ext (λ_=>False) R H (λa=>R a\/L a) H:=#[λ_ _ _ h=>h,λa z=>z.elim .inl λq=>gA q<|h a]
instance(priority:=high){τ PO:Type}[Ow τ][Sls PO]:Lb Unit τ PO:=#[λh k=>Ow.wk k (Pw h.2),λh k=>Sls.wk k (Pw h.2)]
structure DI(F F1 F2 F3:Rg):Prop where
 all:∀a,F a↔F1 a\/F2 a\/F3 a
 HB:∀a,F1 a->F2 a->False
 Je:∀a,F1 a->F3 a->False
 Jf:∀a,F2 a->F3 a->False
def JZ(X:Cx)(E:XK)(T:ci)(M:List hZ){D P n B j:Type}[Sls D][Sls P][Sls n][Sls B][Sls j](k:B->j->n->D)(w:D->(P->B->j->Prop)->(ci->D->Prop)->Prop):Prop :=
 ∃t,PA X M t/\∀(d:D)(F R:Rg)(g:St)(H:Hp)(o:P->B->j->Prop)(q:ci->D->Prop)(Q:List V->Hp->Prop),vw T F R H d g->w d o q ->
  (∀p b l m r s u L h f a,o p b l->Ch T F R H h f a->Std T h f a->DI h s u L->rel s (Wo f L) a p (m.map some)->rel u f a b g->rel L f a l r ->
   (∀v x z A G i c e I,rel z c e I (m.map some)->rel A c e v g->rel G c e x r->DI i z A G->rel i c e (k v x I) g)->Q m a) ->
  (∀C y J h f a,q C J->Ch T F R H h f a->vw T h f a J g->E (.ref C) ↑y a)->t g H Q
section
variable{D:Type}[Sls D]
def ug:JZ X E T [] (λ(b:D)(_:Unit)(_:Unit)=>b) (λ(d:D)(c:Unit->D->Unit->Prop) _=>c () d ()):=by refine#[_,uI,λd F R m H c n Q s e f _=>?_];exact f () d () [] [] (λ_=>False) F (λ_=>False) F R H e (Ch.refl _ _ _ _) s.Gb #[λa=>#[λz=>.inr<|.inl z,λz=>z.elim (λq=>q.elim) λz=>z.elim id λq=>q.elim],λ_ z=>z.elim,λ_ z=>z.elim,λ_ _ z=>z] #[rfl,λ_ z=>z] s.rel #[rfl,λ_ z=>z] λo p r u v g h i w j k l t=>Sls.fq k λa=>#[λz=>(t.all a).mpr<|.inr<|.inl z,λz=>((t.all a).mp z).elim (λq=>gA q<|j.2 a) λz=>z.elim id λq=>gA q<|l.2 a]
def uj{h:List hZ}{n P o B a:Type}[Rep n][Sls P][Sls o][Sls B][Sls a]{f:B->a->o->D}{I:Wf D n D}{J:D->(P->B->a->Prop)->(ci->D->Prop)->Prop}
 (Y:EW X E T e I) (Z:JZ X E T h f J) (hs:gf (e::h) X.env=(false,eval e X.env)::gf h X.env:=by rfl) :
    JZ X E T (e::h) (λ(b:B)(l:a)(p:Un×o)=>f b l p.2) (λ(d:D)(M:n×P->B->a->Prop) g=>I d (λx q=>J q (λp b l=>M (x,p) b l) g) g):=by
  refine e1a2 Y λta a1 a2=>?_
  refine e1a2 Z λtr b1 b2=>?_
  refine#[_,ut a1 b1 hs,λd F R N H M g Q s hw kn O=>?_]
  refine a2 d F R N H _ g _ s hw (λx q u F1 R1 H1 q1 S i r1=>?_) O
  refine b2 q F1 R1 N H1 _ g _ i q1 (λp b l U us r G2 L v j m q2 W s2 t2 h1 h2 hl k=>?_) λC y d' v j m k c s'=>O C y d' v j m k (Ch.trans s i.tab S c) s'
  refine kn (x,p) b l (u::U) us r G2 L v j m q2 (Ch.trans s i.tab S W) s2 t2 #[↑u,U.map some,λ_=>False,r,rfl,two_nil r,#[λ_ z=>z,u,rfl,Rep.st (i.val W r1)<|(BV j L m).wide λ_ z=>z.elim],h1] h2 hl λb' l' L1 L2 L3 w A G p' h3 h4 h5 t=>?_
  refine e4a4 h3 λv' aa M1 M2 z1 z2 z3 z4=>?_
  injection z1 with _ z5
  subst z5
  exact k b' l' L1 L2 L3 w A G p'.2 (Sls.fq z4<|two_eq z2 z3) h4 h5 t
def uA{o:List hZ}(i:Nat){c S P w B g h:Type}[Ow c][Hs c][Sls S][Sls P][Sls w][Sls B][Sls g][Sls h]{j:B->h->w->D}{W:D->(P->B->h->Prop)->(ci->D->Prop)->Prop}
 [A0:At i D c S] [A:At i B c g] [U:Pt i g c B] (hr:JZ X E T o j W) (he:PE X (.Name x pos) (uT i):=by exact pv _) (hs:gf (.Name x pos::o) X.env=(false,eval (.Name x pos) X.env)::gf o X.env:=by rfl) :
    JZ X E T (.Name x pos::o) (λ(b:g)(l:h)(p:c×w)=>j (U.put b p.1) l p.2) (λ(d:D)(Y:c×P->g->h->Prop) y=>W d (λp b l=>Y (A.get b,p) (A.hole b) l) y):=by
  refine e1a2 hr λtr b1 b2=>?_
  refine#[_,ut he b1 hs,λd F R σ H Y y Q s hw kn ke=>?_]
  refine e3a4 (A0.take s.rel) λv _ _ C _ G _=>?_
  obtain⟨u,rfl⟩:=Hs.has G
  refine#[u,C,b2 d F R σ H _ y _ s hw (λp b l Z us G1 G2 L F' R' H' q2 c2 s2 e h1 h2 hl k=>?_) ke]
  refine e3a4 (A.take h2) λv' I M2 z1 r z3 z4=>?_
  rw[C]at z1
  cases z1
  have m1:∀a,I a->G2 a:=λa m=>(r.all a).mpr<|.inl m
  have m2:∀a,M2 a->G2 a:=λa m=>(r.all a).mpr<|.inr m
  refine kn (A.get b,p) (A.hole b) l (u::Z) us (λa=>I a\/G1 a) M2 L F' R' H' q2 c2 s2 #[λa=>?_,λa m n=>?_,λa m n=>?_,λa m n=>e.Jf a (m2 a m) n] #[↑u,Z.map some,I,G1,rfl,#[λ_=>Iff.rfl,λa m n=>e.HB a n<|m1 a m],Ow.wk z3<|BV R' L H',h1] z4 hl λb' l' L1 L2 L3 J M N p' h3 h4 h5 t=>?_
  · rw[e.all, r.all]
    exact#[λz=>z.elim (λq=>.inl<|.inr q) λz=>z.elim (λz=>z.elim (λq=>.inl<|.inl q) λq=>.inr<|.inl q) λq=>.inr<|.inr q,λz=>z.elim (λz=>z.elim (λq=>.inr<|.inl<|.inl q) .inl) λz=>z.elim (λq=>.inr<|.inl<|.inr q) λq=>.inr<|.inr q]
  · rcases m with m|m
    · exact r.xy a m n
    · exact e.HB a m<|m2 a n
  · rcases m with m|m
    · exact e.Jf a (m1 a m) n
    · exact e.Je a m n
  · refine e4a4 h3 λv' aa O N2 y1 f y3 y4 => ?_
    injection y1 with y5 y6
    subst y5;subst y6
    have tt:CI (λa=>O a\/L2 a) O L2:=#[λ_=>Iff.rfl,λa m n=>t.HB a ((f.all a).mpr<|.inl m) n]
    refine k _ l' N2 (λa=>O a\/L2 a) L3 J M N p'.2 y4 (Pt.same (A:=U) h4 C tt y3) h5 #[λa=>?_,λa m n=>?_,λa m n=>t.Je a ((f.all a).mpr<|.inr m) n,λa m n=>?_]
    · rw[t.all, f.all]
      exact#[λz=>z.elim (λz=>z.elim (λq=>.inr<|.inl<|.inl q) .inl) λz=>z.elim (λq=>.inr<|.inl<|.inr q) λq=>.inr<|.inr q,λz=>z.elim (λq=>.inl<|.inr q) λz=>z.elim (λz=>z.elim (λq=>.inl<|.inl q) λq=>.inr<|.inl q) λq=>.inr<|.inr q]
    · rcases n with n|n
      · exact f.xy a n m
      · exact t.HB a ((f.all a).mpr<|.inr m) n
    · rcases m with m|m
      · exact t.Je a ((f.all a).mpr<|.inl m) n
      · exact t.Jf a m n
def uJ{u:List hZ}(i:Nat){e W P y B h j:Type}[Rep e][Sls W][Sls P][Sls y][Sls B][Sls h][Sls j]{o:B->j->y->D}{Y:D->(P->B->j->Prop)->(ci->D->Prop)->Prop}
 [A0:At i D (OL e) W] [A:At i B (OL e) h] [U:Pt i h (OL e) B] (hr:JZ X E T u o Y) (he:PE X (.Name x pos) (uT i):=by exact pv _) (hs:gf (.Name x pos::u) X.env=(false,eval (.Name x pos) X.env)::gf u X.env:=by rfl) :
    JZ X E T (.Name x pos::u) (λ(b:h)(l:OL e×j)(p:Un×y)=>o (U.put b l.1) l.2 p.2) (λ(d:D)(Z:List e×P->h->OL e×j->Prop) C=>Y d (λp b l=>Z ((A.get b).l,p) (A.hole b) (A.get b,l)) C):=by
  refine e1a2 hr λtr b1 b2=>?_
  refine#[_,ut he b1 hs,λd F R σ H Z C Q s hw kn ke=>?_]
  obtain⟨v,_,_,G,_,⟨r,_,rfl,_⟩,_⟩:=A0.take s.rel
  refine#[_,G,b2 d F R σ H _ C _ s hw (λp b l vs us I G2 L F' R' H' q2 c2 s2 f h1 h2 hl k=>?_) ke]
  refine e3a4 (A.take h2) λv' J M2 z1 w z3 z4=>?_
  rw[G]at z1
  cases z1
  refine e2a4 (id z3) λa ws e1 e2 e3 e4=>?_
  cases e1
  have m1:∀a,J a->G2 a:=λa m=>(w.all a).mpr<|.inl m
  have m2:∀a,M2 a->G2 a:=λa m=>(w.all a).mpr<|.inr m
  refine kn ((A.get b).l,p) (A.hole b) (A.get b,l) (.ref r::vs) (↑(.ref r)::us) I M2 (λc=>J c\/L c) F' R' H' q2 c2 s2 #[λa=>?_,λa m n=>f.HB a m<|m2 a n,λa m n=>?_,λa m n=>?_] #[some<|.ref r,vs.map some,λ_=>False,I,rfl,two_nil I,#[λ_ z=>z,_,rfl,r,ws,rfl,λz=>z.2<|.inl<|(e2 r).mpr rfl,e3,vC ((BV R' _ H').wide λ_ z=>z.elim) e4],Sls.wk h1<|Tf λ_ z=>.inr z] z4 #[_,us,J,L,rfl,#[λ_=>Iff.rfl,λa m n=>f.Jf a (m1 a m) n],z3,hl] λb' l' L1 L2 L3 M N O p' h3 h4 h5 t=>?_
  · rw[f.all, w.all]
    exact#[λz=>z.elim .inl λz=>z.elim (λz=>z.elim (λq=>.inr<|.inr<|.inl q) λq=>.inr<|.inl q) λq=>.inr<|.inr<|.inr q,λz=>z.elim .inl λz=>z.elim (λq=>.inr<|.inl<|.inr q) λz=>z.elim (λq=>.inr<|.inl<|.inl q) λq=>.inr<|.inr q]
  · rcases n with n|n
    · exact f.HB a m<|m1 a n
    · exact f.Je a m n
  · rcases n with n|n
    · exact w.xy a n m
    · exact f.Jf a (m2 a m) n
  · refine e4a4 h3 λv' aa N1 N2 y1 y2 y3 y4 => ?_
    injection y1 with _ y6
    subst y6
    refine e4a4 h5 λv2 ab S K2 x1 g x3 x4=>?_
    injection x1 with x5 x6
    subst x5;subst x6
    have tt:CI (λa=>S a\/L2 a) S L2:=#[λ_=>Iff.rfl,λa m n=>t.Jf a n<|(g.all a).mpr<|.inl m]
    refine k _ l'.2 L1 (λa=>S a\/L2 a) K2 M N O p'.2 (Sls.fq y4<|two_eq y2 y3) (Pt.same (A:=U) h4 G tt x3) x4 ⟨λa=>?_,λa m n=>?_,λa m n=>t.Je a m<|(g.all a).mpr<|.inr n,λa m n=>?_⟩
    · rw[t.all, g.all]
      exact#[λz=>z.elim .inl λz=>z.elim (λq=>.inr<|.inl<|.inr q) λz=>z.elim (λq=>.inr<|.inl<|.inl q) λq=>.inr<|.inr q,λz=>z.elim .inl λz=>z.elim (λz=>z.elim (λq=>.inr<|.inr<|.inl q) λq=>.inr<|.inl q) λq=>.inr<|.inr<|.inr q]
    · rcases n with n|n
      · exact t.Je a m<|(g.all a).mpr<|.inl n
      · exact t.HB a m n
    · rcases m with m|m
      · exact g.xy a m n
      · exact t.Jf a m<|(g.all a).mpr<|.inr n
def DJ{P J B Lc M:Type}[Sls P][Sls J][Sls B][Sls Lc][Ow M][Lb Lc M J]{mrg:B->Lc->J->D}{wf:Wf P M J}{F R F1 F2 L:Rg}{H:Hp}{b:B}{l:Lc}{p:P}{σ:St}{vs:List V}{us:St}{Kn:M->D->Prop}{Ke:ci->D->Prop}{Q:VK}
  (s:Std T F R H) (t:DI F F1 F2 L) (hp:rel F1 (Wo R L) H p (vs.map some)) (hb:rel F2 R H b σ) (hl:rel L R H l us) (km:∀b' l' G1 G2 G3 W u w r,rel G1 u w r (vs.map some)->rel G2 u w b' σ->rel G3 u w l' us->DI W G1 G2 G3->rel W u w (mrg b' l' r) σ)
  (hw:wf p (λx r=>Kn x<|mrg b l r) (λC r=>Ke C<|mrg b l r))
  (kn:∀x X v M1 N i d,Kn x X->Ch T F R H (λa=>M1 a\/N a) i d->vw T N i d X σ->Nw T M1 N i d x v->Q v d)
  (ke:∀C y X Y i d,Ke C X->Ch T F R H Y i d->vw T Y i d X σ->E (.ref C) ↑y d):xW T wf vs H Q E:=by
 have O:∀a,F1 a->F a:=λa h=>(t.all a).mpr<|.inl h;have S:∀a,F2 a->F a:=λa h=>(t.all a).mpr<|.inr<|.inl h;have k:∀a,L a->F a:=λa h=>(t.all a).mpr<|.inr<|.inr h;have s1:vw T F1 (Wo R L) H p (vs.map some):=⟨hp,λa h=>#[s.sub a<|O a h,λz=>t.Je a h z],λa h=>s.wD a h.1,s.tab,#[s.ve,λz=>s.uS<|k T z],λh=>s.uS<|O T h⟩
 -- the region aa it: Z the ab left and Z ah ag
 have ex:∀{G i:Rg} {d:Hp},Ch T F1 (Wo R L) H G i d->Ext (λa=>F1 a\/a=T) R H (λa=>i a\/L a) d:=λc=>#[λb o n h=>c.keep b o (λz=>n<|.inl z) (λz=>n<|.inr z) h,λa h=>h.elim (λz=>(c.zv a z).elim (λq=>.inl q.1) .inr) λz=>.inl<|s.sub a<|k a z];have gs:∀a,(F1 a\/a=T)->R a:=λa h=>h.elim (λz=>s.sub a<|O a z) λq=>by rw[q];exact s.ve
 have fr:∀{G i:Rg} {d:Hp},Ch T F1 (Wo R L) H G i d->rel F2 (λa=>i a\/L a) d b σ:=λc=>Sls.st hb (ex c) gs λa h z=>z.elim (λq=>t.HB a q h) λq=>s.uS (by rw[<- q];exact S a h);have A:∀{G i:Rg} {d:Hp},Ch T F1 (Wo R L) H G i d->rel L (λa=>i a\/L a) d l us:=λc=>Sls.st hl (ex c) gs λa h z=>z.elim (λq=>t.Je a q h) λq=>s.uS (by rw[<- q];exact k a h)
 have nF:∀{G i:Rg} {d:Hp},Ch T F1 (Wo R L) H G i d->∀a,G a->F2 a\/L a->False:=λc a g f=>by
  rcases c.xE a g with q|q
  ·exact f.elim (t.HB a q)<|t.Je a q
  ·exact s.wD a (s.sub a<|f.elim (S a)<|k a) q
 have nR:∀{G i:Rg} {d:Hp},Ch T F1 (Wo R L) H G i d->∀a,L a->¬i a:=λc a h z=>by
  rcases c.zv a z with q|q
  ·exact q.2 h
  ·exact s.wD a (s.sub a<|k a h) q
 have ch:∀{G i:Rg} {d:Hp},Ch T F1 (Wo R L) H G i d->Ch T F R H (λa=>G a\/F2 a\/L a) (λa=>i a\/L a) d:=λc=>#[λb o n m h=>c.keep b o (λz=>n<|O b z) m h,(ex c).new,λa h=>h.elim (λq=>(c.xE a q).elim (λz=>.inl<|O a z) .inr) λq=>.inl<|q.elim (S a)<|k a,λa h n=>.inl<|c.left a ⟨h,λz=>n<|k a z⟩ λz=>n<|O a z];have ae:∀{G i:Rg} {d:Hp},Ch T F1 (Wo R L) H G i d->∀a,F2 a->i a:=λc a f=>c.left a #[s.sub a<|S a f,λz=>t.Jf a f z] λz=>t.HB a z f
 have af:∀{G i:Rg} {d:Hp},Ch T F1 (Wo R L) H G i d->(∀a,i a->d a≠none)->∀a,i a\/L a->d a≠none:=λc h a z=>z.elim (h a) λq=>by
  cases e:H a with
  |none=>exact gA e<|s.wD a<|s.sub a<|k a q
  |some o=>rw[c.keep a o (λz=>t.Je a z q) (λz=>s.uS<|by rw[<- z];exact k a q) e];simp
 refine#[F1,Wo R L,p,_,_,s1,hw,λx r v M1 N i d q c j n=>?_,λC y r Y i d q c j=>?_]
 ·have U:=nF c;have kl:=A c;have I:=ch c;refine kn x _ v M1 (λa=>N a\/F2 a\/L a) (λa=>i a\/L a) d q #[I.keep,I.zv,λa h=>I.xE a<|h.elim (λz=>.inl<|.inl z) λz=>z.elim (λq=>.inl<|.inr q) .inr,I.left] ⟨km b l N F2 L _ _ d r (Lb.fs M kl j.rel) (fr c) (A c) ⟨λ_=>Iff.rfl,λa m f=>U a (.inr m)<|.inl f,λa m f=>U a (.inr m)<|.inr f,t.Jf⟩,λa h=>h.elim (λz=>.inl<|j.sub a z) λz=>z.elim (λq=>.inl<|ae c a q) .inr,af c j.wD,j.tab,.inl j.ve,λh=>h.elim j.uS λz=>z.elim (λq=>s.uS<|S T q) λq=>s.uS<|k T q⟩ ⟨Lb.fr J kl n.is,λa m=>.inl<|n.sub a m,λa m z=>z.elim (n.xy a m) λz=>U a (.inl m) z,n.tab⟩
 ·have U:=nF c;have kl:=A c;exact ke C y _ (λa=>Y a\/F2 a\/L a) (λa=>i a\/L a) d q (ch c) #[km b l Y F2 L _ _ d r (Lb.fs M kl j.rel) (fr c) (A c) #[λ_=>Iff.rfl,λa m f=>U a m<|.inl f,λa m f=>U a m<|.inr f,t.Jf],λa h=>h.elim (λz=>.inl<|j.sub a z) λz=>z.elim (λq=>.inl<|ae c a q) .inr,af c j.wD,j.tab,.inl j.ve,λh=>h.elim j.uS λz=>z.elim (λq=>s.uS<|S T q) λq=>s.uS<|k T q]
def Px{P j B o:Type}[Sls P][Sls j][Sls B][Ow o]{mrg:B->j->D}{wf:Wf P o j}{F R F1 F2:Rg}{H:Hp}{b:B}{p:P}{σ:St}{r:List V}{Kn:o->D->Prop}{Ke:ci->D->Prop}{Q:VK}
  (s:Std T F R H) (t:CI F F1 F2) (I:rel F1 R H p (r.map some)) (J:rel F2 R H b σ) (M:∀k m n e c d f,rel m c d f (r.map some)->rel n c d k σ->CI e m n->rel e c d (mrg k f) σ)
  (hw:wf p (λx f=>Kn x<|mrg b f) (λC f=>Ke C<|mrg b f))
  (N:∀x i v w u h g,Kn x i->Ch T F R H (λa=>w a\/u a) h g->vw T u h g i σ->Nw T w u h g x v->Q v g)
  (O:∀C y i A h g,Ke C i->Ch T F R H A h g->vw T A h g i σ->E (.ref C) ↑y g):xW T wf r H Q E :=
 DJ (Lc:=Unit) (L:=λ_=>False) (l:=()) (us:=[]) (mrg:=λb _ p=>mrg b p) s #[λa=>(t.all a).trans #[λz=>z.elim .inl λq=>.inr<|.inl q,λz=>z.elim .inl λq=>q.elim .inr gZ],t.xy,λ_ _ z=>z,λ_ _ z=>z] (Sls.wk I<|BV _ _ _) J ⟨rfl,λ_ z=>z⟩
  (λk _ m n X e c d f S U W G=>M k m n e c d f S U #[λa=>(G.all a).trans #[λz=>z.elim .inl λq=>q.elim .inr λq=>gA q<|W.2 a,λz=>z.elim .inl λq=>.inr<|.inl q],G.HB]) hw N O
def Ba{P j B o r:Type}[Sls P][Sls j][Sls B][Sls o][Ow r][Lb o r j]{a:B->o->j->D}{Y:Wf P r j}{Z:D->(P->B->o->Prop)->(ci->D->Prop)->Prop}{k:Nat}{ps:List Str}{m:List hZ}
 (F:uR X.prog X.w X.K X.mg X.base (vd X.prog X.w) k f fd ps (xW T Y)) (hr:vM k X.A) (hg:Gl X x) (hm:X.mg x=↑(.ref f)) (hk:iI X.K (.ref f)=true) (hb:Binds X.K fd ps []) (hx:Passes (vd X.prog X.w) X E)
 (ha:JZ X E T (e::m) a Z) (z:(x==("__debug__":Str))=false:=by decide) (he:gf (e::m) X.env=(false,eval e X.env)::gf m X.env:=by rfl) (I:(iN pos<|gf m X.env).any (·.1)=false:=by rfl) :
    EO X E T (.Call (.Name x p) (e::m) [] pos) (λ(d:D)(Kn:r->D->Prop) u=>Z d (λp b l=>Y p (λx J=>Kn x<|a b l J)<|λC J=>u C<|a b l J) u):=by
  refine e1a2 ha λt a1 a2=>?_
  refine#[_,Sk F hr hg hm hk hb .nil hx a1 z he I,λd F' R σ H Kn u Q s hw kn ke=>?_]
  refine a2 d F' R σ H _ u _ s hw (λp b l vs us F1 F2 L G R' H' q c M tw h1 h2 h3 km=>?_) ke
  rw[jP]
  exact DJ M tw h1 h2 h3 km q (λx N v M1 M2 g h O S i n=>kn x N v M1 M2 g h O (Ch.trans s M.tab c S) i n) λC y N U g h O S i=>ke C y N U g h O (Ch.trans s M.tab c S) i
class Obj(τ:Type)[Ow τ](K:ga)(C:ci)(m:Str):Prop where
 ob:∀{F R:Rg} {H:Hp} {x:τ} {v:V},sl F R H x ↑v->∃a dx fs,v=.ref a/\H a=↑(.ins C dx fs)/\fs.lookup m=none
end
section
variable{D PO τ:Type}[Sls D][Sls PO][Ow τ]{α:Type}[Rep α]
def yR{F:Rg}:Ext (λc=>c=a) R H R (upd H a o):=#[λb u n h=>by rw[ui n];exact h,λ_ h=>.inl h]
def Bb{i:Nat}{D0:Type}[Sls D0][A:At i D (OL α) D0][U:Pt i D0 (OL α) D]{F R:Rg}{H:Hp}{d:D}{σ:St}(s:vw T F R H d σ):∃a vs,σ[i]?=↑(some<|.ref a)/\H a=↑(.lst vs)/\Paired (rp R H) (A.get d).l vs /\
  ∀(ys:List α)(us:List V),Paired (rp R H) ys us->Ch T F R H F R (upd H a<|.lst us)/\vw T F R (upd H a<|.lst us) (U.put (A.hole d) #[ys]) σ:=by
 obtain⟨v,F1,F2,h1,h2,⟨a,vs,rfl,h4,h5,h6⟩,h7⟩:=A.take s.rel;have aF:F a:=(h2.all a).mpr<|.inl<|(h4 a).mpr rfl;have aT:a≠T:=λz=>s.uS (by rw[<- z];exact aF);refine#[a,vs,h1,h5,h6,λys us hp=>?_];have ex:=yR (F:=F) (R:=R) (H:=H) (a:=a) (o:=.lst us);have gs:∀c,c=a->R c:=λc z=>by rw[z];exact s.sub a aF
 have k:∀b u,b≠a->H b=↑u->upd H a (.lst us) b=↑u:=λb u z e=>by rw[ui z];exact e
 refine#[#[λb o n _ e=>k b o (λz=>n<|by rw[z];exact aF) e,λ_ h=>.inl h,λ_ h=>.inl h,λ_ h _=>h],Pt.same (A:=U) (Sls.st h7 ex gs λc z q=>h2.xy c ((h4 c).mpr q) z) h1 h2 #[a,us,rfl,h4,ul,vC (ex.wide gs) hp],s.sub,λc z=>?_,?_,s.ve,s.uS]
 ·by_cases e:c=a
  ·rw[e,ul];simp
  ·rw[ui e];exact s.wD c z
 ·refine e1a2 s.tab λps e t=>?_;exact#[ps,k _ _ (λz=>aT z.symm) e,t]
def vS{x:Str}{e:hZ}(i:Nat){p1 p2 p3:Pos}{D0:Type}[Sls D0][A:At i D (OL α) D0][U:Pt i D0 (OL α) D][J:Pj D PO n]{we:Wf D α D}(h:EW X E T e we)
  (hb:∀{t:TA},PA X [e] t->PS X (.Expr (.Call (.Attribute (.Name x p1) "append" p2) [e] [] p3) pos) (HL<|tBM X.K "list" LO (uT i) t):=by exact λh=>AQ<|Vd lp PySem.F.slot_list_append PySem.F.type_list_append M5 (pv _) h) (hs:gf [e] X.env=(false,eval e X.env)::gf [] X.env:=by rfl) :
  S1 X E T ms n (.Expr (.Call (.Attribute (.Name x p1) "append" p2) [e] [] p3) pos) (λ(d:D)(Kn:D->Prop)(Kr:τ->PO->Prop) Ke=>we d (λy d'=>(A.get d').l.length<gh/\Kn (U.put (A.hole d') #[(A.get d').l++[y]])) λC d'=>Ke C<|J.pj d'):=by
 refine e1a2 h λt h1 h2=>?_;refine#[_,hb<|ut h1 uI hs,λd F R σ H Kn Kr Ke En s hw kn kr ke=>?_];refine e2a4 (Bb (i:=i) s) λa vs g1 g2 g3 _=>?_;refine#[_,g1,.inl #[rfl,vs,vJ.of g2],h2 d F R σ H _ _ _ s hw (λy d' v F' R' H' q c s' r=>?_) λC y d' F' R' H' q c s'=>?_]
 ·refine e2a4 (Bb (i:=i) s') λa' Tg k1 k2 k3 k4=>?_;rw[g1]at k1;cases k1;obtain⟨c2,s2⟩:=k4 _ _<|w8 k3<|.cons r .nil;exact#[a,Tg,v,rfl,rfl,k2,by rw[<- Paired.length k3];exact q.1,kn _ F' R' _ σ q.2 (Ch.trans s s'.tab c c2) s2<|Ag.refl _ _]
 ·refine e1a2 (vX (PO:=PO) s') λG g1 g2=>?_;exact ke C y _ G R' H' q (c.less g1) g2
end
def GW(X:Cx)(T:ci)(ms:List Nat)(tg:hZ){D D1 α:Type}[Sls D][Sls D1][Rep α](g:D->α->D1):Prop :=
 ∃t,PG X tg t/\∀(d:D)(F R:Rg)(σ:St)(H:Hp)(x:α)(v:V)(Q:St->Hp->Prop),vw T F R H d σ->rp R H x v->(∀F' σ',(∀a,F' a->F a)->vw T F' R H (g d x) σ'->Ag ms σ σ'->Q σ' H)->t v σ H Q
section
variable{D:Type}[Sls D]{α β:Type}[Rep α][Rep β]
def J0{i:Nat}{YT D0 D1:Type}[Ow YT][Sls D0][Sls D1][A:At i D YT D0][U:Pt i D0 α D1]{F R:Rg}{H:Hp}{d:D}{σ:St}{x:α}{v:V}(s:vw T F R H d σ)(r:rp R H x v) :
  ∃F',(∀a,F' a->F a)/\vw T F' R H (U.put (A.hole d) x) (σ.set i<|↑v):=by
 have m:Nw T (λ_=>False) F R H x v:=#[#[λ_ z=>z,v,rfl,r],λ_ z=>z.elim,λ_ z=>z.elim,λz=>z];refine e1a2 (Fi (i:=i) s m) λG g1 g2=>?_;exact#[G,λa h=>(g1 a h).elim (λz=>z.elim) id,g2]
def uM{x:Str}(i:Nat){YT D0 D1:Type}[Ow YT][Sls D0][Sls D1][A:At i D YT D0][U:Pt i D0 α D1](hp:PG X (.Name x pos) (Cf i))(hm:i∉ms:=by decide):GW X T ms (.Name x pos) (λ(d:D)(x:α)=>U.put (A.hole d) x) :=
 #[_,hp,λd F R σ H x v Q s r k=>by
  refine e1a2 (J0 (i:=i) s r) λF' f1 f2=>?_
  exact k F' _ f1 f2 (Ag.set hm)]
def Bc(i j:Nat)[Ow b][Ow c][Sls e][Sls f][Sls g][Sls m][A:At i D b e][U:Pt i e α f][n:At j f c g][o:Pt j g β m](p:PG X q (VU X.K 2<|EY (Cf i)<|EY (Cf j) VT))(t:i∉l)(y:j∉l) :
  GW X T l q (λ(d:D)(x:α×β)=>o.put (n.hole<|U.put (A.hole d) x.1) x.2) :=
 #[_,p,λd F R M H x v Q s r k=>by
  obtain⟨a,u,w,rfl,_,z,B,C⟩:=r;refine e1a2 (J0 (i:=i) s B) λN E G=>?_;refine e1a2 (J0 (i:=j) G C) λI J L=>?_
  exact#[a,[u,w],rfl,yD.of z,rfl,u,[w],rfl,w,[],rfl,rfl,k I _ (λa h=>E a (J a h)) L ((Ag.set t).trans (Ag.set y))]]
end
structure XZ{α:Type}[Rep α](J:It)(xs:List α)(Ps:Rg->Hp->Prop):Prop where
 go:∀{R:Rg} {H:Hp} {i:Nat},Ps R H->i<xs.length->J.go i H
 HA:∀{R:Rg} {H:Hp} {i:Nat} {v:V} {H':Hp},Ps R H->(∀a,R a->H a≠none)->i<xs.length->J.HA i H v H'->(H'=H\/∃p o,H p=none/\H'=upd H p o)/\∃x,xs[i]?=↑x/\rp R H' x v
 stop:∀{R:Rg} {H:Hp},Ps R H->J.stop xs.length H
def IW(X:Cx)(E:XK)(T:ci)(O:List Nat)(P e:hZ){D B o:Type}[Sls D][Sls B][Rep o](k:B->List o->D)(w:D->(List o->B->Prop)->(ci->D->Prop)->Prop):Prop :=
 ∃t,PI X P e t/\∀(d:D)(F R:Rg)(l:St)(H:Hp)(s:List o->B->Prop)(u:ci->D->Prop)(v:It->Hp->Prop),vw T F R H d l->w d s u ->
  (∀p b J m j q x f c,s p b->Ch T F R H j f c->Std T j f c->CI j q x->rel x f c b l->XZ J p m->m f c ->
   (∀{G r z:Rg} {A I:Hp},m r A->(∀a,G a->r a)->(∀a,q a->¬G a)->Ext G r A z I->m z I) ->
   (∀L M n g h i,m g h->rel M g h L i->Ag O l i->CI n q M->rel n g h (k L p) i)->v J c) ->
  (∀C y N j f c,u C N->Ch T F R H j f c->vw T j f c N l->E (.ref C) ↑y c)->t l H v
section
variable{D:Type}[Sls D]{α β:Type}[Rep α][Rep β]
def Be{K:ga}{xs:List α}{vs:List V}:XZ (XM K a) xs (λR H=>H a=↑(.lst vs)/\Paired (rp R H) xs vs) where
 go:=λ{R H i} p h=>by refine e1a2 (wl (i:=i) (x:=xs[i]) p.2<|by simp[h]) λv e _=>?_;exact#[vs,v,vJ.of p.1,e]
 HA:=λ{R H i v H'} p _ hi y=>by obtain⟨e,y⟩:=y;subst e;have y':=y vs<|vJ.of p.1;refine e1a2 (wl (i:=i) (x:=xs[i]) p.2<|by simp[hi]) λu e r=>?_;rw[y']at e;cases e;exact#[.inl rfl,_,by simp[hi],r]
 stop:=λ{R H} p=>#[vs,vJ.of p.1,by rw[Paired.length p.2];exact gg _]
def vG{w:Wf D (List α) D}(h:EW X E T e w):IW X E T is tg e (λ(b:D)(_:List α)=>b) w:=by refine e1a2 h λt h1 h2=>?_;refine#[_,FO h1,λd F R σ H Kn Ke Rk s hw kn ke=>h2 d F R σ H _ _ _ s hw (λxs d' v F' R' H' q c s' r=>?_) ke];obtain⟨a,vs,rfl,r1,r2,r3⟩:=r;refine#[a,rfl,#[vs,vJ.of r2],kn xs d' _ (λR H=>(H a=↑(.lst vs)/\Paired (rp R H) xs vs)/\¬R a) F' (λ_=>False) F' R' H' q c s'.Gb (two_nil F') s'.rel #[λp=>Be.go p.1,λp=>Be.HA p.1,λp=>Be.stop p.1] #[#[r2,r3],r1] (λp gs nf ex=>?_) λb' G2 Vp Jd Pp σ' p h g t=>Sls.fq h<|two_eq t λ_ z=>z];have na:¬_:=λz=>p.2<|gs a z;exact#[#[ex.keep a _ na p.1.1,vC (ex.wide gs) p.1.2],ex.not p.2 p.1.1]
def J1{x:Str}(i:Nat){B:Type}[Sls B][A:At i D (OL α) B][U:Pt i B (OL α) D](hn:PE X (.Name x pos) (uT i))(hi:i∈is):IW X E T is tg (.Name x pos) (λ(b:B)(xs:List α)=>U.put b #[xs]) (λ(d:D)(Kn:List α->B->Prop) _=>Kn (A.get d).l<|A.hole d):=by refine⟨_,FO hn,λd F R σ H Kn Ke Rk s hw kn ke=>?_⟩;obtain⟨v,F1,F2,h1,h2,⟨a,vs,rfl,h4,h5,h6⟩,h7⟩:=A.take s.rel;refine#[_,h1,a,rfl,#[vs,vJ.of h5],kn _ _ _ (λR H=>H a=↑(.lst vs)/\Paired (rp R H) (A.get d).l vs) F F1 F2 R H hw (Ch.refl _ _ _ _) s.Gb h2 h7 Be #[h5,h6] (λp gs nf ex=>#[ex.keep a _ (nf a<|(h4 a).mpr rfl) p.1,vC (ex.wide gs) p.2]) λb' G2 Vp Jd Pp σ' p h g t=>?_];exact Pt.same (A:=U) h (by rw[g.2 i hi];exact h1) t #[a,vs,rfl,h4,p.1,p.2]
noncomputable def xY(a b:Int):List Int:=(gL (b-a).toNat).map λ(i:Nat)=>a+(i:Int)
def v7(a b:Int):(xY a b).length=(b-a).toNat:=by unfold xY;rw[gm,kD]
def Th{a b:Int}{i:Nat}(h:i<(b-a).toNat):(xY a b)[i]?=↑(a+(i:Int)):=by unfold xY;rw[ja,sQ h];rfl
def Fj{lo hi:Int}:XZ (VZ lo (hi-lo).toNat) (xY lo hi) (λ_ _=>True) where
 go:=λ{R H i} _ h=>by rw[v7]at h;exact h
 HA:=λ{R H i v H'} _ _ hi y=>by obtain⟨e,y⟩:=y;subst e y;rw[v7]at hi;exact#[.inl rfl,_,Th hi,rfl]
 stop:=λ{R H} _=>by rw[v7];exact gg _
def wS(n:Gl X "range")(o:X.mg "range"=none)(u:EW X E T a w)(x:gf [a] X.env=(false,eval a X.env)::gf [] X.env:=by rfl)(e:gf [a] X.env=[(false,eval a X.env)]:=by rfl) :
  IW X E T is Q (.Call (.Name "range" p) [a] [] pos) (λ(b:D)(_:List Int)=>b) (λ(d:D) k l=>w d (λj f=>(-(2 ^ 62)<=j/\j<2 ^ 62)/\k (xY 0 j) f) l):=by
 refine e1a2 u λt y A=>?_;refine#[_,MU n o (ut y uI x) e,λd F R B H k l S s C G I=>A d F R B H _ _ _ s C (λj f v i J L q c m r=>?_) I];subst r;refine#[j,rfl,q.1.1,q.1.2,?_];have:=G (xY 0 j) f (VZ 0 (j-0).toNat) (λ_ _=>True) i (λ_=>False) i J L q.2 c m.Gb (two_nil i) m.rel Fj trivial (λ_ _ _ _=>trivial) λU W M N O P p h g t=>Sls.fq h<|two_eq t λ_ z=>z;rw[Int.sub_zero]at this;exact this
def X0(hg:Gl X "range")(hm:X.mg "range"=none)(N:EW X E T a O)(P:EW X E T b Q)(m:∀{G:TA},PA X [a,b] G->PI X S (.Call (.Name "range" p) [a,b] [] pos) (U6 G))
 (U:gf [a,b] X.env=(false,eval a X.env)::gf [b] X.env:=by rfl) (n:gf [b] X.env=(false,eval b X.env)::gf [] X.env:=by rfl) :
    IW X E T is S (.Call (.Name "range" p) [a,b] [] pos) (λ(b:D)(_:List Int)=>b) (λ(d:D) I o=>O d (λi w=>Q w (λj e=>(-(2 ^ 62)<=i/\i<2 ^ 62/\-(2 ^ 62)<=j/\j<2 ^ 62)/\I (xY i j) e) o) o):=by
  obtain⟨t,W,Y⟩:=N
  obtain⟨tb,Z,b2⟩:=P
  refine#[_,m<|ut W (ut Z uI n) U,λd F R J H I o Rk s hw kn L=>Y d F R J H _ _ _ s hw (λi w u F1 R1 H1 q1 M x r1=>?_) L]
  refine b2 w F1 R1 J H1 _ _ _ x q1 (λj e v f A B q c l r=>?_) λC y e f A B k c l=>L C y e f A B k (Ch.trans s x.tab M c) l
  subst r;subst r1
  exact#[i,j,rfl,q.1,kn (xY i j) e (VZ i (j-i).toNat) (λ_ _=>True) f (λ_=>False) f A B q.2 (Ch.trans s x.tab M c) l.Gb (two_nil f) l.rel Fj trivial (λ_ _ _ _=>trivial) λb' G2 aa ab ae af p h g t=>Sls.fq h<|two_eq t λ_ z=>z]
end
def Gh{α B PO τ:Type}(b:α->B->(B->Prop)->(τ->PO->Prop)->(ci->PO->Prop)->Prop):List α->B->(B->Prop)->(τ->PO->Prop)->(ci->PO->Prop)->Prop
 | [],d,Kn,_,_=>Kn d
 |x::xs,d,Kn,Kr,Ke=>b x d (λd'=>Gh b xs d' Kn Kr Ke) Kr Ke
section
variable{D B D1 D2 PO τ α:Type}[Sls D][Sls B][Sls D1][Sls D2][Sls PO][Ow τ][Rep α]
def Ch.big(c:Ch T F R H d e f)(g:∀a,F a->G a):Ch T G R H d e f:=#[λb o n m h=>c.keep b o (λz=>n<|g b z) m h,c.zv,λa h=>(c.xE a h).elim (λz=>.inl<|g a z) .inr,λa h n=>c.left a h λz=>n<|g a z]
def Ch.Py(t:CI F F1 d)(c:Ch T d R H e f g):Ch T F R H (λa=>F1 a\/e a) f g:=#[λb o n m h=>c.keep b o (λz=>n<|(t.all b).mpr<|.inr z) m h,c.zv,λa h=>h.elim (λz=>.inl<|(t.all a).mpr<|.inl z) λz=>(c.xE a z).elim (λz=>.inl<|(t.all a).mpr<|.inr z) .inr,λa h n=>c.left a h λz=>n<|(t.all a).mpr<|.inr z]
def Ch.trans'{j:Rg}{i k:Hp}(s:Std T F R H)(m:TabAt i T)(a:Ch T F R H l p i)(b:Ch T l p i r j k):Ch T F R H r j k:=by
 have f:∀c,¬F c->H c≠none->¬l c:=λc n h z=>by
  rcases a.xE c z with q|q
  ·exact n q
  ·exact h q
 have d:∀c,i c=none->¬(F c)->H c=none:=λc h n=>by
  cases e:H c with
  |none=>rfl
  |some o =>
   have u:c≠T:=λz=>by rw[z]at h;exact yy m h
   rw[a.keep c o n u e]at h;cases h
 refine#[λc o n t h=>b.keep c o (f c n<|by rw[h];simp) t<|a.keep c o n t h,λc h=>?_,λc h=>?_,λc h n=>b.left c (a.left c h n)<|f c n<|s.wD c h]
 ·rcases b.zv c h with q|q
  ·exact a.zv c q
  ·by_cases g:F c
   ·exact .inl<|s.sub c g
   ·exact .inr<|d c q g
 ·rcases b.xE c h with q|q
  ·exact a.xE c q
  ·by_cases g:F c
   ·exact .inl g
   ·exact .inr<|d c q g
def drop_cons{α:Type}{a:List α}{i:Nat}{x:α}(h:a[i]?=↑x):a.drop i=x::a.drop (i+1):=by have b:=(List.getElem?_eq_some_iff.mp h);rw[m7 b.1,b.2]
def Ag.sub(a:Ag c d b)(h:∀i∈e,i∈c):Ag e d b:=#[a.1,λi f=>a.2 i<|h i f]
def wm{I:B->List α->D}{wi:D->(List α->B->Prop)->(ci->D->Prop)->Prop}{g:B->α->D1}{wb:D1->(D2->Prop)->(τ->PO->Prop)->(ci->PO->Prop)->Prop}[Gf:Fg D2 B][J:Pj D PO n](dp:RU PO ms n)(hp:qO (gv X.prog X.w) X.A X.env X.xe)(hc:X.calm=true)
 (hi:IW X E T is tg iter I wi) (hg:GW X T mb tg g) (hb:SW X E T mb n body wb) (h1:∀i∈ms,i∈mb) (h2:∀i∈is,i∈mb) (hs:∀x,jD iter X.env x=pure x:=by intro _;rfl) :
    S1 X E T ms n (.For tg iter body [] pos) (λ(d:D)(Kn:D->Prop)(S:τ->PO->Prop) P=>wi d (λQ b=>Gh (λx b U S P=>wb (g b x) (λd2=>U<|Gf.fg d2) S P) Q b (λb'=>Kn<|I b' Q) S P) λC d'=>P C<|J.pj d'):=by
  refine e1a2 hi λti i1 i2=>?_
  refine e1a2 hg λar g1 g2=>?_
  refine e1a2 hb λtb Y b2=>?_
  refine#[_,Ol hp hc i1 g1 Y hs,λd F R σ H Kn S P En s hw kn kr ke=>?_]
  refine i2 d F R σ H _ _ _ s hw (λQ b Jt Ps F' Z F2 R' H' q c s' tw hr ip ps pk pb=>?_) λC y d' F' R' H' q c s'=>?_
  · -- the ao
    refine#[λi m l N=>m=Q.length-i/\i<=Q.length/\∃Y G r j,Ch T F' R' H' G j N/\Std T G j N/\CI G Z r/\rel r j N Y l/\Ps j N/\Ag mb σ l/\Gh (λx b U S P=>wb (g b x) (λd2=>U (Gf.fg d2)) S P) (Q.drop i) Y (λb'=>Kn (I b' Q)) S P,
      #[_,rfl,iz _,b,F',F2,R',Ch.refl _ _ _ _,s',tw,hr,ps,Ag.refl _ _,q],?_]
    rintro i m l N ⟨rfl,hi,Y,G,r,j,c1,O,t1,r1,p1,a1,w1⟩
    have cc:=Ch.trans s s'.tab c c1
    by_cases ae:i<Q.length
    · refine .inr #[ip.go p1 ae, λaf L => ∃b2 G2 ah R2, Ch T F' R' H' G2 R2 L /\ Std T G2 R2 L /\ CI G2 Z ah /\ rel ah R2 L b2 af /\ Ps R2 L /\ Ag mb σ af /\ Gh (λx b U S P => wb (g b x) (λd2 => U<|Gf.fg d2) S P) (Q.drop<|i+1) b2 (λb' => Kn<|I b' Q) S P, λaf L p => #[Q.length-(i+1), by omega, rfl, ae, p], λx L y => ?_]
      obtain⟨hH,x',ex,rx⟩:=ip.HA p1 O.wD ae y
      -- the aq ag the aa step
      have aj:Ch T G j N G j L/\Std T G j L/\rel r j L Y l/\Ps j L:=by
        rcases hH with e|⟨p,o,hp,e⟩
        · subst e; exact#[Ch.refl _ _ _ _, O, r1, p1]
        · subst e
          have k:∀b u,N b=↑u->upd N p o b=↑u:=λb u e=>by rw[ui<|uu e hp];exact e
          have ex:Ext (λ_=>False) j N j (upd N p o):=#[λb u _ e=>k b u e,λa h=>.inl h]
          refine#[#[λb u _ _ e=>k b u e,λa h=>.inl h,λa h=>.inl h,λa h _=>h],#[O.sub,λa z=>?_,?_,O.ve,O.uS],Sls.st r1 ex (λ_ z=>z.elim)<|λ_ _ z=>z,pk p1 (λ_ z=>z.elim) (λ_ _ z=>z) ex]
          · cases e : N a with
            |none=>exact gA e<|O.wD a z
            |some u=>rw[k a u e];simp
          · refine e1a2 O.tab λqs e t => ?_
            exact#[qs,k _ _ e,t]
      obtain⟨c2,M,r2,p2⟩:=aj
      have W:∀a,r a->G a:=λa h=>(t1.all a).mpr<|.inr h
      have S2:vw T r j L Y l:=#[r2,λa h=>M.sub a<|W a h,M.wD,M.tab,M.ve,λh=>M.uS<|W T h]
      rw[drop_cons ex]at w1
      refine g2 Y r j l L x' x _ S2 rx λF3 ak f3 S3 a3=>?_
      have ai:=Ch.trans' s' O.tab c1 c2
      have ab:=Ch.trans s s'.tab c ai
      have t3:∀a,Z a->F3 a->False:=λa h k=>t1.xy a h<|f3 a k
      refine b2 _ F3 j ak L _ S P _ S3 w1 (λd2 F4 R4 H4 au q4 c4 f a4=>?_) (λx p' v M1 M2 R4 H4 q4 c4 f n4=>?_) λC y p' F4 R4 H4 q4 c4 f=>?_
      · refine e1a2 (Gf.le f.rel) λF5 f5 r5 => ?_
        have t4:∀a,Z a->F4 a->False:=λa h k=>by
          rcases c4.xE a k with z|z
          · exact t3 a h z
          · exact M.wD a (M.sub a<|(t1.all a).mpr<|.inl h) z
        have al:Ch T G j L (λa=>Z a\/F5 a) R4 H4:=(Ch.Py (F1:=Z) (F:=λa=>Z a\/F3 a) #[λ_=>Iff.rfl,t3]<|c4.less f5).big λa h=>h.elim (λz=>(t1.all a).mpr<|.inl z) λz=>W a<|f3 a z
        have an:∀a,Z a->R4 a:=λa h=>c4.left a (M.sub a<|(t1.all a).mpr<|.inl h) λz=>t3 a h z
        refine#[Gf.fg d2,λa=>Z a\/F5 a,F5,R4,Ch.trans' s' M.tab ai al,#[λa h=>h.elim (an a) λz=>f.sub a<|f5 a z,f.wD,f.tab,f.ve,λh=>h.elim (λz=>M.uS<|(t1.all T).mpr<|.inl z) λz=>f.uS<|f5 T z],⟨λ_=>Iff.rfl,λa h k=>t4 a h<|f5 a k⟩,r5,?_,(a1.trans a3).trans a4,q4]
        exact pk p2 (G:=λa=>F3 a\/a=T) (λa h=>h.elim (S3.sub a) λz=>by rw[z];exact M.ve) (λa h z=>z.elim (t3 a h) λz=>M.uS<|(t1.all T).mpr<|.inl<|by rw[<- z];exact h) c4.ext
      · refine kr x p' v M1 M2 R4 H4 q4 (Ch.trans s M.tab ab<|c4.big λa h => W a<|f3 a h) #[dp.dp ((a1.trans a3).sub h1) f.rel, f.sub, f.wD, f.tab, f.ve, f.uS] n4
      · exact ke C y p' F4 R4 H4 q4 (Ch.trans s M.tab ab<|c4.big λa h => W a<|f3 a h) #[dp.dp ((a1.trans a3).sub h1) f.rel, f.sub, f.wD, f.tab, f.ve, f.uS]
    · have e : i = Q.length := by omega
      subst e
      rw[uc]at w1
      exact .inl #[ip.stop p1,kn _ G j N l w1 cc #[pb Y r G j N l p1 r1 (a1.sub h2) t1,O.sub,O.wD,O.tab,O.ve,O.uS]<|a1.sub h1]
  · refine e1a2 (vX (PO := PO) s') λG g1 g2 => ?_
    exact ke C y _ G R' H' q (c.less g1) g2
end
end WL
namespace L2
open PySem PySem.Spec PyProof.Rows
section
variable{X:Cx}{elt iter tg:hZ}{scope:lh}{cl:List (Str×ci)}{T Fr:List Str}{idx:List Nat}{wi:TI}{pos:Pos}{ifs:List hZ}
def Ct{pins:List (ci×Obj)}{σ:St}{s2:gn}{H2:Hp}{J:It}{fp:List ci}{it:ci}{tn:Nat->h8->Prop}{E:cr->gn->Prop}{RR:cr->ci->Result->gn->Prop}{P:List V->Hp->Prop}(hcm:X.calm=true)
  (B:yh X scope cl T Fr idx) 
  (I2:Inv X pins σ H2 s2) (Tn:Turn X.prog X.w X.K tg J fp it tn) (Z7:tn 0 s2.heap) (f2:∀b∈fp,AA X pins H2 b)
  (hb:∀s₀ H₀ C ex pn,∃(g:TG)(tt:TT)(te:TE),(PG (Ex X scope cl (T++Fr) s₀ H₀ C ex pn) tg g/\Wu (Ex X scope cl (T++Fr) s₀ H₀ C ex pn) ifs tt/\PE (Ex X scope cl (T++Fr) s₀ H₀ C ex pn) elt te)/\∃W:Nat->Nat->List V->St->Hp->Prop,(∃m,W 0 m [] (wG T idx σ) H2)/\∀i m ys σ' H,W i m ys σ' H->(J.stop i H/\P ys H)\/(J.go i H/\ys.length<gh/\∀x H',J.HA i H x H'->g x σ' H' λWI H2=>tt WI H2 λb H3=>if b=true then te WI H3 λy H4=>∃m',m'<m/\W (i+1) m' (ys++[y]) WI H4 else ∃m',m'<m/\W (i+1) m' ys WI H3))
  (hRR:∀(D C:ci)(s':gn)(H':Hp)(ys:List V),H' D=none->P ys H'->Inv X pins σ (upd H' D<|.lst ys) s'->(∃m,s'.heap.Ns C m)->(upd H' D<|.lst ys) C=none->C≠X.env.locals->X.s₀.heap.objs.size<=C->(∀x c,X.env.cells.lookup x=↑c->c≠C)->(∀p∈X.pn++pins,p.1≠C)->RR (.ref D) C (.ok .next) s') :
  gu (gv X.prog X.w) X.A (newList []) (λacc a09=>gu (gv X.prog X.w) X.A (newFunctionEnv scope X.env.globals cl [] X.env.qual none .none ↑X.env) (λcenv a1a =>
   lO (gv X.prog X.w) X.A (.compStart (.ListComp elt [#[tg,iter,ifs,0]] scope pos) 0 (.ref it) acc { cenv with scope:=og scope X.env}) (RR acc cenv.locals) a1a) E a09) E s2:=by
 refine hW<|wpAny_newFunctionEnv B.AH (by intro y hy;simp at hy) (λh4 ns4 Z3=>?_) B.kind;have Z8:∀b o,s2.heap.get? b=↑o->(s2.heap.push { cls:=.type "list",dict:=none,data:=.seq ([]:List cr).toArray}).get? b=↑o:=λb o e=>ce _ e;have oD3:(s2.heap.push { cls:=.type "list",dict:=none,data:=.seq ([]:List cr).toArray}).get? ⇑s2=some { cls:=.type "list",dict:=none,data:=.seq ([]:List cr).toArray}:=gx _ rfl;have sz3:(s2.heap.push { cls:=.type "list",dict:=none,data:=.seq ([]:List cr).toArray}).objs.size=⇑s2+1:=i4 _ _;generalize s2.heap.push { cls:=.type "list",dict:=none,data:=.seq ([]:List cr).toArray}=h3 at ns4 Z3 Z8 oD3 sz3 ⊢;have I3:Inv X pins σ H2 { s2 with heap:=h3}:=I2.kept (t':=s2.toks) Z8;have Pz:H2 ⇑s2=none:=I2.vc.fresh<|gg _;have WJ:∀b o,h3.get? b=some o->h4.get? b=some o:=λb o e=>Z3.extBut b o (gB<|gp e)<|ce _ e;have PB:H2 h3.objs.size=none:=I3.vc.fresh<|gg _;have YU:⇑s2≠h3.objs.size:=by rw[sz3];exact gB<|iV _
 -- facts about D,C,fp in X
 have fD:AA X pins H2 ⇑s2:=I2.FN (gg _) Pz;have fC:AA X pins H2 h3.objs.size:=I3.FN (gg _) PB
 have Ip:∀b∈⇑s2::fp,AA X pins H2 b/\b≠h3.objs.size:=λb yz=>by
  rcases List.mem_cons.mp yz with e|e
  ·subst e;exact#[fD,YU]
  ·refine#[f2 b e,?_];obtain⟨o,ho,_⟩:=Tn.obj 0 _ Z7 b e;exact gB<|gp<|Z8 b o ho
 -- the Z9 context
 generalize Gi:Ex X scope cl (T++Fr) { s2 with heap:=h3} H2 h3.objs.size (⇑s2::fp) (X.pn++pins)=X';obtain⟨g,tt,te,⟨hG,hT,hE⟩,W,w0,turn⟩:=hb { s2 with heap:=h3} H2 h3.objs.size (⇑s2::fp) (X.pn++pins);rw[Gi]at hG hT hE
 have ok':X'.Ok:=by
  subst Gi
  exact {
   mod:=I3.ok.mod
   kind:=B.kind
   glob:=I3.ok.glob
   blt:=I3.ok.blt
   above:=gg _
   inj:=λx y c e1 e2=>I3.ok.inj x y c (B.sub x c e1)<|B.sub y c e2
   has:=λx h=>B.has h
   N7:=λx c h=>by cases h
   hd:=I3.ok.hd
   frames:=I3.ok.frames
   BE:=.inl rfl
   R8:=λb yz=>#[(Ip b yz).2,λx c e=>(Ip b yz).1.2.2.2.2.1 x c<|B.sub x c e]
   bs:=λb o e=>I3.bs b o e
   HG:=gW I3.ok.HG I3.sz
   CD:=λb o e yz=>by
    rcases(Ip b yz).1.2.2.2.1 with z|z
    ·exact I3.ok.CD b o e z
    ·exact gA (gG (gp e)<|gW I3.ok.HG z)<|jm _
   Di:=λb yz hf=>by
    rcases List.mem_cons.mp (I3.Dj b hf) with z|z
    ·exact(Ip b yz).1.2.1 z
    ·exact(Ip b yz).1.2.2.1 z
   xM:=I3.stack
   Jc:=λb yz=>I3.Lz b yz}
 have xA:X'.A=X.A:=by subst Gi;rfl
 have xp:X'.prog=X.prog:=by subst Gi;rfl
 have xw:X'.w=X.w:=by subst Gi;rfl
 have xK:X'.K=X.K:=by subst Gi;rfl
 have xc:X'.calm=true:=by subst Gi;exact hcm
 have xe:X'.env=sr scope cl h3.objs.size X.env:=by subst Gi;rfl
 have I4:Inv X' [] (wG T idx σ) H2 { s2 with heap:=h4}:=by
  have hN:X'.N=T++Fr:=by subst Gi;rfl
  refine#[ok',by subst Gi;rfl,I3.bare,by subst Gi;exact Un.kept WJ,?_,?_,by subst Gi;exact PB,?_,?_,?_,?_]
  ·obtain⟨m,hn,hl⟩:=I3.loc;refine#[_,by rw[xe];exact ns4,λi x v e1 e2 e3=>?_];rw[hN]at e1;unfold wG at e2;by_cases hi:i<T.length
   ·rw[kW (by rw[gm];exact hi),ja,iU hi]at e2;cases e2
   ·rw[jo q0a]at e1;rw[jo (by rw[gm];lia),gm,ja]at e2;obtain⟨i0,c,q1,q2,q3,q4,q5⟩:=B.fr _ x e1;rw[q1]at e2;have e2':(σ[i0]?).join=↑v:=iq e2
    have a1b:σ[i0]?=↑(some v):=by
     cases z:σ[i0]? with
     |none=>rw[z]at e2';cases e2'
     |some y=>rw[z]at e2';have:y=↑v:=e2';rw[this]
    obtain⟨u,r,l⟩:=hl i0 x v q2 a1b (by
     rcases q3 with z|z
     ·exact .inr<|.inl z
     ·exact .inr (.inr z))
    refine#[u,r,?_];rcases l with⟨k,_⟩|⟨k,c',e,z⟩
    ·rcases q3 with y|y<;>(rw[y]at k;cases k)
    ·have:=B.sub x c q4;rw[e]at this;cases this;refine .inr #[by rw[xe];exact q5,_,by rw[xe];exact q4,?_];obtain⟨o,ho,hd⟩:=z;exact#[o,WJ _ _ ho,hd]
  ·intro x c e;rw[xe]at e;obtain⟨v,o,ho,hd⟩:=I3.cell x c<|B.sub x c e;exact#[v,o,WJ _ _ ho,hd]
  ·intro x c e;rw[xe]at e;exact I3.xu x c<|B.sub x c e
  ·intro p hp;have hp':p∈X.pn++pins:=by subst Gi;simpa using hp
   obtain⟨a1,a2,a3,a4,a5⟩:=I3.pin p hp';refine#[WJ _ _ a1,a2,?_,?_,a5]
   ·rw[xe];exact gB<|gp a1
   ·subst Gi;intro hf;rcases List.mem_cons.mp (I3.Dj _ hf) with z|z
    ·exact a3 z
    ·exact a4 z
  ·subst Gi;exact I3.vc.kept WJ
  ·rw[hN];unfold wG;rw[gz,gz,gm,gm,B.len]
 have oD4:=WJ _ _ oD3;have st4:tn 0 h4:=Tn.keep _ _ _ Z7 λb _ o e=>WJ b o<|Z8 b o e
 -- a1d stays true of the WK objects and of D
 have YV:∀{H':Hp} {pins':List (ci×Obj)},(∀p∈pins',p.1∉⇑s2::fp)->(∀b∈⇑s2::fp,H' b=none)->∀b∈⇑s2::fp,AA X' pins' H' b:=by
  intro H' pins' hp hn b yz;subst Gi;obtain⟨⟨z1,z2,z3,z4,z5,z6⟩,z7⟩:=Ip b yz;refine#[hn b yz,z7,?_,.inl yz,λx c e=>z5 x c<|B.sub x c e,λp hp'=>?_]
  ·intro hf;rcases List.mem_cons.mp (I3.Dj b hf) with z|z
   ·exact z2 z
   ·exact z3 z
  ·rcases List.mem_append.mp hp' with q|q
   ·exact z6 p q
   ·intro e;exact hp p q (by rw[e];exact yz)
 -- the end
 have fin:∀(s5:gn)(N9:St)(H5:Hp)(ys:List V)(zg:List cr)(nD:Nat),Inv X' [] N9 H5 s5->(∀b∈⇑s2::fp,H5 b=none)->s5.heap.get? ⇑s2=some { cls:=.type "list",dict:=none,data:=.seq zg.toArray nD}->Vals ys zg->ys.length<=gh->P ys H5->RR (.ref ⇑s2) h3.objs.size (.ok .next) s5:=by
  intro s5 N9 H5 ys zg nD I5 n5 oD5 v5 l5 q5;have D5:=n5 _ gk;have WM:Un (yC X.stack) (⇑s2::fp) H2 H5 h3 s5.heap:=by have z:=I5.base;subst Gi;exact z
  have C5:H5 h3.objs.size=none:=by have z:=I5.free;rw[xe]at z;exact z
  have a1e:xf X.prog X.w (upd H5 ⇑s2<|.lst ys) s5.heap:=xf.Vk (by have z:=I5.vc;rw[xp,xw]at z;exact z) D5 #[l5,zg,nD,v5,oD5]
  have u5:Un (yC X.stack) (⇑s2::fp) H2 (upd H5 ⇑s2<|.lst ys) h3 s5.heap:=by have YW:∀b u,H2 b=some u->b≠⇑s2:=λb u e=>uu e Pz;exact#[WM.keep,WM.slot,λb o e n hx=>by rw[ui<|λz=>hx<|by rw[z];exact gk];exact WM.free b o e n hx,WM.there,λb xs e=>by rw[ui<|YW b _ e];exact WM.AO b xs e,λb o u e=>by rw[ui<|YW b _ e];exact WM.Ay b o u e,λb ps e=>by rw[ui<|YW b _ e];exact WM.Az b ps e]
  have os5:s5.os=s2.os:=by have z:=I5.os;subst Gi;exact z
  have IX:Inv X pins σ (upd H5 ⇑s2<|.lst ys) s5:=Inv.U0 (s:={ s2 with heap:=h3}) I3 os5 u5 a1e I5.bare λb yz=>by obtain⟨⟨z1,z2,z3,z4,z5,z6⟩,z7⟩:=Ip b yz;exact#[z4,z2,z5,z6]
  obtain⟨m5,ns5,_⟩:=I5.loc;rw[xe]at ns5;refine hRR ⇑s2 h3.objs.size s5 H5 ys D5 q5 IX #[m5,ns5] (by rw[ui<|Ne.symm YU];exact C5) fC.2.1 (gW I3.sz<|gg _) fC.2.2.2.2.1 fC.2.2.2.2.2
 obtain⟨m0,w0⟩:=w0
 have loop:lO (gv X.prog X.w) X.A (.compLoop (.ListComp elt [#[tg,iter,ifs,0]] scope pos) 0 (.ref it) (.ref ⇑s2)<|sr scope cl h3.objs.size X.env) (RR (.ref ⇑s2) h3.objs.size) { s2 with heap:=h4}:=by
  refine O7 (λn s5=>∃i ys zg nD N9 H5,Inv X' [] N9 H5 s5/\tn i s5.heap/\(∀b∈⇑s2::fp,H5 b=none)/\s5.heap.get? ⇑s2=some { cls:=.type "list",dict:=none,data:=.seq zg.toArray nD}/\Vals ys zg/\ys.length<=gh/\W i n ys N9 H5) ?_ m0
   #[0,[],[],0,wG T idx σ,H2,I4,st4,λb yz=>(Ip b yz).1.1,oD4,.nil,iz _,w0]
  rintro n s5 ⟨i,ys,zg,nD,N9,H5,I5,N8,n5,oD5,v5,l5,w5⟩;have f5:=YV (pins':=[]) (λp hp=>by cases hp) n5;rcases turn i n ys N9 H5 w5 with⟨stop,q⟩|⟨go,ll,step⟩
  ·have z:=Tn.done X' xp xw xK xc i [] s5 N9 H5 (λ_ _=>False) I5 (λb yz=>f5 b<|gl _ yz) N8 stop;rw[xA]at z
   -- D is not touched by the end
   have z2:=Tn.done X' xp xw xK xc i [(⇑s2,{ cls:=.type "list",dict:=none,data:=.seq zg.toArray nD})] s5 N9 H5 (λ_ _=>False) (I5.yG λp hp=>by
    obtain rfl:=List.mem_singleton.mp hp;have WN:=f5 _ gk
    exact#[oD5,WN.1,WN.2.1,WN.2.2.1,λv z=>nomatch z]) (λb yz=>by
     obtain⟨a1,a2,a3,a4,a5,a6⟩:=f5 b<|gl _ yz;refine⟨a1,a2,a3,a4,a5,λp hp=>?_⟩;rcases List.mem_append.mp hp with y|y
     ·exact a6 p<|iw _ y
     ·obtain rfl:=List.mem_singleton.mp y;intro e;obtain⟨o,ho,_⟩:=Tn.obj 0 _ Z7 b yz
      exact jm _ (gG (gp ho) (pU (show ⇑s2=b from e)))) N8 stop
   rw[xA]at z2;refine uY z2 λr s6 z9=>e0a2 z9 λhr I6=>?_;subst hr;have p6:=I6.pin _<|gI _<|List.mem_singleton.mpr rfl;exact fin s6 N9 H5 ys zg nD (I6.yG λp hp=>by cases hp) n5 p6.1 v5 l5 q
  ·have WN:=f5 _ gk
   have I5p:=I5.yG (pins':=[(⇑s2,{ cls:=.type "list",dict:=none,data:=.seq zg.toArray nD})]) λp hp=>by obtain rfl:=List.mem_singleton.mp hp;exact#[oD5,WN.1,WN.2.1,WN.2.2.1,λv z=>nomatch z]
   have fpD:∀b∈fp,b≠⇑s2:=λb yz=>by obtain⟨o,ho,_⟩:=Tn.obj 0 _ Z7 b yz;exact gB<|gp ho
   have fpP:∀{H':Hp},(∀b∈fp,H' b=none)->∀b∈fp,AA X' [(⇑s2,{ cls:=.type "list",dict:=none,data:=.seq zg.toArray nD})] H' b:=by
    intro H' hn b yz;obtain⟨a1,a2,a3,a4,a5,a6⟩:=f5 b<|gl _ yz;refine⟨hn b yz,a2,a3,a4,a5,λp hp=>?_⟩;rcases List.mem_append.mp hp with y|y
    ·exact a6 p<|iw _ y
    ·obtain rfl:=List.mem_singleton.mp y;exact Ne.symm<|fpD b yz
   have z:=Tn.item X' xp xw xK xc i _ s5 N9 H5 (λ_ _=>False) I5p (fpP λb yz=>n5 b<|gl _ yz) N8 go;rw[xA]at z;refine uY z λr s6 z9=>e1a2 z9 λu hr h6=>?_;subst hr;refine uY h6 λ_ s7 z9=>e2a5 z9 λx H7 I7 r7 y7 st7 n7=>?_;have I7':=I7.pinned (fpP n7)<|Tn.obj _ _ st7;have xx:X'.xe=λ_ _=>False:=by subst Gi;rfl
   have zG:=hG _ s7 N9 H7 x u _ I7' r7<|step x H7 y7;rw[xp,xw,xA,xe,xx]at zG;refine uY zG λ_ s8 z9=>e2a2 z9 λWO H8 I8 q8=>?_;have zT:=hT _ s8 WO H8 _ I8 q8;rw[xp,xw,xA,xe,xx]at zT;refine uY zT λok s9 z9=>e1a2 z9 λH9 I9 q9=>?_
   -- a1d holds behind the turn
   have behind:∀{H':Hp} {s':gn},Inv X' ([(⇑s2,{ cls:=.type "list",dict:=none,data:=.seq zg.toArray nD})]++Dk fp s7.heap) WO H' s'->s'.heap.get? ⇑s2=some { cls:=.type "list",dict:=none,data:=.seq zg.toArray nD}/\tn (i+1) s'.heap/\∀b∈⇑s2::fp,H' b=none:=by
    intro H' s' I';have pD:=I'.pin _<|gI _<|iw _<|List.mem_singleton.mpr rfl;refine⟨pD.1,Tn.keep _ _ _ st7 λb yz o e=>(I'.pin (b,o)<|gI _<|gI _<|wO yz e).1,λb yz=>?_⟩;rcases List.mem_cons.mp yz with e|e
    ·rw[e];exact pD.2.1
    ·obtain⟨o,e',_⟩:=Tn.obj _ _ st7 b e;exact(I'.pin (b,o)<|gI _<|gI _<|wO e e').2.1
   cases ok with
   |false =>
    rw[gc gw]at q9 ⊢;obtain⟨m',hm,w'⟩:=q9;obtain⟨b1,b2,b3⟩:=behind I9;exact#[m',hm,i+1,ys,zg,nD,WO,H9,I9.yG (λp hp=>by cases hp),b2,b3,b1,v5,l5,w']
   |true =>
    rw[f9 rfl]at q9 ⊢;have zE:=hE _ s9 WO H9 _ I9 q9;rw[xp,xw,xA,xe,xx]at zE;refine uY zE λy s10 z9=>e2a3 z9 λyv H10 I10 r10 z69=>e1a2 z69 λm' hm w'=>?_;obtain⟨b1,b2,b3⟩:=behind I10;have hlen:=v5.length;refine wpAny_list_append_plain (items:=zg.toArray) #[nD,b1] (λh11 a1i YX=>?_) (by rw[gy];lia);obtain⟨YW,o11⟩:=a1i;have a1j:Inv X' [] WO H10 s10:=I10.yG λp hp=>by cases hp
    obtain⟨a1,a2,a3,a4,a5,a6⟩:=YV (pins':=[]) (λp hp=>by cases hp) b3 _ gk;have I11:Inv X' [] WO H10 { s10 with heap:=h11}:=a1j.turned (t':=s10.toks) (λb o yz e=>(YX.2 b yz).trans e) a1 a2 a4 a5 a6;refine#[m',hm,i+1,ys++[yv],zg++[y],YW,WO,H10,I11,Tn.keep _ _ _ b2 λb yz o e=>(YX.2 b<|fpD b yz).trans e,b3,by simpa using o11,v5.append<|.cons r10 .nil,by rw[gz,gJ];lia,w']
 exact codeAny_compStart_list loop<|Tn.self _ 0 _ _ _ st4 loop
def WP(X:Cx)(elt tg:hZ)(ifs:List hZ)(scope:lh)(cl:List (Str×ci))(T Fr:List Str)(idx:List Nat)(wi:TI):TE:=λl H Q=>wi l H λJ s=>∀a c C j k,∃(g:TG)(n:TT)(o:TE),(PG (Ex X scope cl (T++Fr) a c C j k) tg g/\Wu (Ex X scope cl (T++Fr) a c C j k) ifs n/\PE (Ex X scope cl (T++Fr) a c C j k) elt o)/\∃W:Nat->Nat->List V->St->Hp->Prop,(∃m,W 0 m [] (wG T idx l) s)/\∀i m e f H,W i m e f H ->
 (J.stop i H/\∀p,H p=none->Q (.ref p) (upd H p<|.lst e))\/(J.go i H/\e.length<gh/\∀x q,J.HA i H x q->g x f q λd t=>n d t λb r=>if b=true then o d r λy u=>∃h,h<m/\W (i+1) h (e++[y]) d u else ∃h,h<m/\W (i+1) h e d r)
def PD(c:X.calm=true)(k:PI X tg iter wi)(B:yh X scope cl T Fr idx) 
 (l:∀x,jD iter X.env x=pure x:=by intro _;rfl):PE X (.ListComp elt [#[tg,iter,ifs,0]] scope pos) (WP X elt tg ifs scope cl T Fr idx wi):=by
  intro a s i H Q I h
  rw[eval_ListComp]
  refine ou (use:=none) rfl l B.YM B.kind B.names<|uY (k a s i H _ I h) λv Y n=>uY n λr Z t=>?_
  obtain⟨it,fp,tn,J,H2,e,u,y,d,z,E⟩:=t
  subst e
  refine Ct (RR:=λf C=>compPost (gv X.prog X.w) X.A X.xe none (EP X a i Q) f C) (P:=λj H=>∀p,H p=none->Q (.ref p) (upd H p<|.lst j)) c B u y d z E ?_
  intro D C F H' j G q L ⟨m,M⟩ N O R S U
  exact#[m,M,λh' W=>#[.ref D,_,L.turned (t':=F.toks) (λb o g e=>(W.2 b g).trans e) N O (.inr R) S U,rfl,q D G]]
def Ti(X:Cx)(elt tg:hZ)(ifs:List hZ)(scope:lh)(cl:List (Str×ci))(T Fr:List Str)(idx:List Nat)(wi:TI)(j:Nat):TS:=λD k H=>wi k H λJ t=>∀a c C l n,∃(g:TG)(o:TT)(q:TE),(PG (Ex X scope cl (T++Fr) a c C l n) tg g/\Wu (Ex X scope cl (T++Fr) a c C l n) ifs o/\PE (Ex X scope cl (T++Fr) a c C l n) elt q)/\∃W:Nat->Nat->List V->St->Hp->Prop,(∃m,W 0 m [] (wG T idx k) t)/\∀i m e f H,W i m e f H ->
 (J.stop i H/\∀p,H p=none->D.nx (k.set j<|some<|.ref p) (upd H p<|.lst e))\/(J.go i H/\e.length<gh/\∀x r,J.HA i H x r->g x f r λd u=>o d u λb s=>if b=true then q d s λy v=>∃h,h<m/\W (i+1) h (e++[y]) d v else ∃h,h<m/\W (i+1) h e d s)
set_option tactic.hygienic true in
def PF{j:Nat}{d:Pos}(O:X.N.Nodup)(R:X.N[j]?=↑y)(u:X.env.scope.names.lookup y=some .local)(g:js (.ListComp elt [#[tg,iter,ifs,0]] scope pos) (some<|.Name y py) d.line X.env=pure true)
 (i:X.calm=true) (S:PI X tg iter wi) (B:yh X scope cl T Fr idx) 
 (U:∀x,jD iter X.env x=pure x:=by intro _;rfl):PS X (.Assign [.Name y py] (.ListComp elt [#[tg,iter,ifs,0]] scope pos) d) (Ti X elt tg ifs scope cl T Fr idx wi j):=by
  intro c s E H D I h
  rw[exec_Assign_Name_used _ _ _ _ g]
  refine am<|mG<|am ?_
  refine am<|uY (ou (use:=some<|rS (.Name y py) X.env) (Q:=λ_ f=>SP X c D .next f) rfl U B.YM B.kind B.names<|uY (S c s E H _ I h) λv s1 W=>uY W λY s2 Z=>?_) λ_ f hq=>ap<|ap hq
  obtain⟨it,fp,tn,J,H2,e,I2,Tn,k,f2,hb⟩:=Z
  subst e
  refine Ct (RR:=λl C=>compPost (gv X.prog X.w) X.A X.xe (some<|rS (.Name y py) X.env) (λ_ f=>SP X c D .next f) l C) (P:=λF H=>∀p,H p=none->D.nx (E.set j<|some<|.ref p) (upd H p<|.lst F)) i B I2 Tn k f2 hb ?_
  intro G C f H' F hD q IX ⟨m,ns⟩ hC L c2 M c4
  refine wpAny_assign_Name<|EX IX O R (.inl u) (v:=.ref G) rfl (λs3 I3 z9=>e1a2 z9 λa n ha=>?_)<|.inr u
  have r:C≠a:=by
    rcases ha with z|z
    · rw[z]; exact L
    · exact Ne.symm<|M _ _ z
  exact#[m,ns.sameBut n r,λh' sb=>#[_,_,I3.turned (t':=s3.toks) (λb o t e=>(sb.2 b t).trans e) hC L (.inr c2) M c4,q G hD]]
end
end L2
namespace WL
variable[L2.GX]
open PySem L2
open Rep (rp)
open Ow (sl)
open Sls (rel)
class Pre(k:Nat)(S:Type)[Sls S](Db:outParam Type)[Sls Db] where
 pre:S->Db
 suf:Db->S
 ok:∀{F R:Rg} {H:Hp} {s:S} {σ:St} (τ:St),τ.length=k->rel F R H s σ->rel F R H (pre s) (τ++σ)
 un:∀{F R:Rg} {H:Hp} {d:Db} {σ:St},rel F R H d σ->rel F R H (suf d) (σ.drop k)
 eta:∀d,pre (suf d)=d
 YY:∀s,suf (pre s)=s
noncomputable instance pre0{S:Type}[Sls S]:Pre 0 S S:=#[id,id,λτ h r=>by rw[List.length_eq_zero_iff.mp h];exact r,λr=>r,λ_=>rfl,λ_=>rfl]
noncomputable instance preS{k:Nat}{S Db:Type}[Sls S][Sls Db][A:Pre k S Db]:Pre (k+1) S (Un×Db):=#[λs=>(#[],A.pre s),λd=>A.suf d.2,λ{F R H s σ} τ h r=>by
  cases τ with
  |nil=>cases h
  |cons v τ'=>exact#[v,τ'++σ,λ_=>False,F,rfl,two_nil F,λ_ z=>z,A.ok τ' (by simpa using h) r],
 λ{F R H d σ} r=>by
  obtain⟨v,σ',F1,F2,rfl,h2,h3,h4⟩:=r
  exact A.un<|Sls.fq h4<|two_eq h2 h3,
 λd=>by
  obtain⟨⟨⟩,d⟩:=d
  rw[A.eta],
 λs=>A.YY s]
def Bf{α γ S:Type}(b:α->S->(Option γ->S->Prop)->Prop):List α->S->(List γ->S->Prop)->Prop
 | [],s,K=>K [] s
 |x::xs,s,K=>b x s λo s'=>Bf b xs s' λys Sn=>K (o.toList++ys) Sn
def YZ(X:Cx)(T:ci)(a:List hZ){D:Type}[Sls D](w:Wf D Bool D):Prop :=
 ∃t,Wu X a t/\∀(d:D)(F R:Rg)(b:St)(H:Hp)(e:Bool->D->Prop)(Q:Bool->Hp->Prop),vw T F R H d b->w d e (λ_ _=>False) ->
  (∀x f g h c,e x f->Ch T F R H g h c->vw T g h c f b->Q x c)->t b H Q
abbrev XF:XK:=λ_ _ _=>False
def tws_nil[Sls D]:YZ X T [] (λ(d:D) a _=>a true d):=#[_,SS,λd F R e H a Q s b c=>c true d F R H b (Ch.refl _ _ _ _) s]
def tws_one{D:Type}[Sls D]{w:Wf D Bool D}(h:TW X XF T c w):YZ X T [c] w:=e1a2 h λt a b=> #[t,SU a,λd F R e H f Q s g i=>b d F R e H f _ Q s g i λ_ _ _ _ _ _ z=>z.elim]
section
variable{D B S B0 Db D1 PO τ α γ:Type}[Sls D][Sls B][Sls S][Sls B0][Sls Db][Sls D1][Sls PO][Ow τ][Rep α][Rep γ]
abbrev stepC(P:Pre k S Db)(a:Fg D1 Db)(g:Db->α->D1)(c:Wf D1 Bool D1)(d:Wf D1 γ D1):α->S->(Option γ->S->Prop)->Prop :=
 λx s K=>c (g (P.pre s) x) (λt b=>if t=true then d b (λy e=>K ↑y<|P.suf<|a.fg e) (λ_ _=>False) else K none (P.suf<|a.fg b)) λ_ _=>False
def Fo[P:Pre k S Db][Gf:Fg D1 Db]{g:Db->α->D1}{wt:Wf D1 Bool D1}{we:Wf D1 γ D1}{J:It}{Ps:Rg->Hp->Prop}{L:List α}{F1 Fs Z:Rg}{Q:Hp}{σ:St}{s0:S}{K:List γ->S->Prop}{ag:List V->Hp->Prop}
  (hk:R.length=k) (ao:∀i,k<=i->i<k+idx.length->i∈mb)
  (hG:∀d f C I M,GW (Ex X n cl (R++Fr) d f C I M) T mb tg g) (hT:∀d f C I M,YZ (Ex X n cl (R++Fr) d f C I M) T aq wt) (hE:∀d f C I M,EW (Ex X n cl (R++Fr) d f C I M) XF T ar we)
  (hz:L.length<=gh) (ip:XZ J L Ps) (ps:Ps Z Q) (pk:∀{G Ra Rb:Rg} {Ha Hb:Hp},Ps Ra Ha->(∀a,G a->Ra a)->(∀a,F1 a->¬G a)->Ext G Ra Ha Rb Hb->Ps Rb Hb)
  (s':Std T Fs Z Q) (U:∀a,F1 a->Z a/\¬Fs a/\a≠T) (au:rel Fs Z Q s0 (idx.map λi=>σ[i]?.join)) (hw:Bf (stepC P Gf g wt we) L s0 K)
  (av:∀E N F l r O,K E N->Ch T Fs Z Q F l r->Std T F l r->rel F l r N (idx.map λi=>σ[i]?.join)->Ps l r->Paired (rp l r) E O->ag O r) :
  ∀d f C I M,∃(g:TG)(tt:TT)(te:TE),(PG (Ex X n cl (R++Fr) d f C I M) tg g/\Wu (Ex X n cl (R++Fr) d f C I M) aq tt/\PE (Ex X n cl (R++Fr) d f C I M) ar te)/\∃W:Nat->Nat->List V->St->Hp->Prop,(∃m,W 0 m [] (wG R idx σ) Q)/\∀i m O ah H,W i m O ah H ->
   (J.stop i H/\ag O H)\/(J.go i H/\O.length<gh/\∀x Q,J.HA i H x Q->g x ah Q λs Y=>tt s Y λb H3=>if b=true then te s H3 λy H4=>∃m',m'<m/\W (i+1) m' (O++[y]) s H4 else ∃m',m'<m/\W (i+1) m' O s H3):=by
 intro d f C I M;refine e1a2 (hG d f C I M) λaw g1 g2=>?_;refine e1a2 (hT d f C I M) λtt t1 t2=>?_;refine e1a2 (hE d f C I M) λte e1 e2=>?_;have aE:(wG R idx σ).length=k+idx.length:=by unfold wG;rw[gz,gm,gm,hk]
 have aa:∀{w:St},Ag mb (wG R idx σ) w->w.drop k=idx.map λi=>σ[i]?.join:=λ{w} a=>by
  apply pO;intro j;rw[sW];by_cases hj:j<idx.length
  ·rw[a.2 (k+j)<|ao _ q0a q0a];unfold wG;rw[jo (by rw[gm,hk];lia),gm,hk,Nat.add_sub_cancel_left]
  ·rw[jL (by have:=a.1;lia),jL<|by rw[gm];lia]
 refine#[aw,tt,te,#[g1,t1,e1],λi m O w r=>m=L.length-i/\i<=L.length/\∃N F l E,Ch T Fs Z Q F l r/\Std T F l r/\rel F l r (P.pre N) w/\Ps l r/\Ag mb (wG R idx σ) w/\Paired (rp l r) E O/\E.length<=i/\Bf (stepC P Gf g wt we) (L.drop i) N (λws s'=>K (E++ws) s'),
  #[_,rfl,iz _,s0,Fs,Z,[],Ch.refl _ _ _ _,s',P.ok _ (by rw[gm,hk]) au,ps,Ag.refl _ _,.nil,iz _,by simpa using hw],?_]
 rintro i m O w r ⟨rfl,hi,N,F,l,E,c1,A,r1,p1,a1,pz,lz,w1⟩;have aG:=Paired.length pz;by_cases ab:i<L.length
 ·refine .inr #[ip.go p1 ab,q0a,λx Y y=>?_];obtain⟨hH,x',ax,rx⟩:=ip.HA p1 A.wD ab y;have ay:∀{G l:Rg} {r:Hp},Ch T Fs Z Q G l r->∀a,F1 a->l a/\¬G a:=λc a h=>#[c.left a (U a h).1 (U a h).2.1,λz=>(c.xE a z).elim (U a h).2.1 λq=>s'.wD a (U a h).1 q]
  have az:Ch T F l r F l Y/\Std T F l Y/\rel F l Y (P.pre N) w/\Ps l Y/\Paired (rp l Y) E O:=by
   rcases hH with e|⟨p,o,hp,e⟩
   ·subst e;exact#[Ch.refl _ _ _ _,A,r1,p1,pz]
   ·subst e;have kk:∀b u,r b=↑u->upd r p o b=↑u:=λb u e=>by rw[ui<|uu e hp];exact e
    have I:Ext (λ_=>False) l r l (upd r p o):=#[λb u _ e=>kk b u e,λa h=>.inl h];refine#[#[λb u _ _ e=>kk b u e,λa h=>.inl h,λa h=>.inl h,λa h _=>h],#[A.sub,λa z=>?_,?_,A.ve,A.uS],Sls.st r1 I (λ_ z=>z.elim)<|λ_ _ z=>z,pk p1 (λ_ z=>z.elim) (λ_ _ z=>z) I,vC (I.wide λ_ z=>z.elim) pz]
    ·cases e:r a with
     |none=>exact gA e<|A.wD a z
     |some u=>rw[kk a u e];simp
    ·refine e1a2 A.tab λqs e t=>?_;exact#[qs,kk _ _ e,t]
  obtain⟨c2,S2,r2,p2,ai⟩:=az;have aA:=Ch.trans' s' A.tab c1 c2;rw[drop_cons ax]at w1;refine g2 (P.pre N) F l w Y x' x _ (S2.stt r2) rx λF3 s f3 S3 a3=>?_;have c3:Ch T Fs Z Q F3 l Y:=aA.less f3
  -- aH the block aF on af an item
  have on:∀{d2:D1} {F5 R5:Rg} {H5:Hp} {o:Option γ} {ae:List V},Bf (stepC P Gf g wt we) (L.drop<|i+1) (P.suf<|Gf.fg d2) (λws s'=>K (E++(o.toList++ws)) s')->Ch T F3 l Y F5 R5 H5->vw T F5 R5 H5 d2 s->Paired (rp R5 H5) (E++o.toList) ae->(E++o.toList).length<=i+1 ->
    ∃m',m'<L.length-i/\m'=L.length-(i+1)/\i+1<=L.length/\∃N F l E,Ch T Fs Z Q F l H5/\Std T F l H5/\rel F l H5 (P.pre N) s/\Ps l H5/\Ag mb (wG R idx σ) s/\Paired (rp l H5) E ae/\E.length<=i+1/\Bf (stepC P Gf g wt we) (L.drop<|i+1) N (λws s'=>K (E++ws) s'):=λ{d2 F5 R5 H5 o ae} hw c5 S5 aB aC=>by
   refine e1a2 (Gf.le S5.rel) λF6 f6 r6=>?_;have aD:=Ch.trans' s' S2.tab c3 c5;refine#[L.length-(i+1),q0a,rfl,ab,P.suf<|Gf.fg d2,F6,R5,E++o.toList,aD.less f6,⟨λa h=>S5.sub a<|f6 a h,S5.wD,S5.tab,S5.ve,λh=>S5.uS<|f6 T h⟩,by rw[P.eta];exact r6,?_,a1.trans a3,aB,aC,?_]
   ·refine pk p2 (G:=λa=>F3 a\/a=T) (λa h=>h.elim (S3.sub a) λz=>by rw[z];exact S2.ve) (λa h z=>?_) c5.ext;rcases z with z|z
    ·exact(ay c3 a h).2 z
    ·exact(U a h).2.2 z
   ·simp only[kE];exact hw
  refine t2 _ F3 l s Y _ _ S3 w1 λb d1 F4 R4 H4 q4 c4 S4=>?_
  cases b with
  |false =>
   rw[gc gw];exact on (o:=none) q4 c4 S4 (by simpa using S3.vals c4 ai) (by simp;lia)
  |true =>
   rw[f9 rfl];refine e2 _ F4 R4 s H4 _ _ _ S4 q4 (λy d2 v F5 R5 H5 q5 c5 S5 r5=>?_) λ_ _ _ _ _ _ z=>z.elim;have aj:=Ch.trans S3 S4.tab c4 c5;exact on (o:=↑y) q5 aj S5 (w8 (S3.vals aj ai)<|.cons r5 .nil) (by simp;lia)
 ·have e:i=L.length:=by lia
  subst e;rw[uc]at w1;have ak:K (E++[]) N:=w1;rw[jP]at ak;have al:=P.un r1;rw[aa a1,P.YY]at al;refine .inl #[ip.stop p1,av E N F l r O ak c1 A al p1 pz]
def DL[Se:Sel idx B S B0]{back:B->List α->D}{xs:List α}{Ps:Rg->Hp->Prop}(s':Std T F' R' H')(tw:CI F' F1 F2)(hr:rel F2 R' H' b σ)
 (pb:∀b' G2 Vp Jd Pp σ',Ps Jd Pp->rel G2 Jd Pp b' σ'->Ag is σ σ'->CI Vp F1 G2->rel Vp Jd Pp (back b' xs) σ') :
    ∃Fs,Std T Fs R' H'/\(∀a,F1 a->R' a/\¬Fs a/\a≠T)/\rel Fs R' H' (Se.sel b) (idx.map λi=>σ[i]?.join) /\
      ∀{s1:S} {Gs R1:Rg} {H1:Hp},Ch T Fs R' H' Gs R1 H1->Std T Gs R1 H1->rel Gs R1 H1 s1 (idx.map λi=>σ[i]?.join)->Ps R1 H1->∃G,Ch T F' R' H' G R1 H1/\vw T G R1 H1 (back (Se.mrg (Se.rest b) s1) xs) σ:=by
  refine e2a4 (Se.cut hr) λFs F0 t0 h1 h2 hl=>?_
  have iS:∀a,Fs a->F' a:=λa h=>(tw.all a).mpr<|.inr<|(t0.all a).mpr<|.inl h
  have i0:∀a,F0 a->F' a:=λa h=>(tw.all a).mpr<|.inr<|(t0.all a).mpr<|.inr h
  have i1:∀a,F1 a->F' a:=λa h=>(tw.all a).mpr<|.inl h
  have d1S:∀a,F1 a->Fs a->False:=λa h k=>tw.xy a h<|(t0.all a).mpr<|.inl k
  have d10:∀a,F1 a->F0 a->False:=λa h k=>tw.xy a h<|(t0.all a).mpr<|.inr k
  refine#[Fs,#[λa h=>s'.sub a<|iS a h,s'.wD,s'.tab,s'.ve,λh=>s'.uS<|iS T h],λa h=>#[s'.sub a<|i1 a h,d1S a h,λz=>s'.uS<|by rw[<- z];exact i1 a h],h1,λ{s1 Gs R1 H1} c S1 r1 p1=>?_]
  have f0:rel F0 R1 H1 (Se.rest b) σ:=Sls.st h2 c.ext (λa h=>h.elim (λz=>s'.sub a<|iS a z) λz=>by rw[z];exact s'.ve) λa h z=>z.elim (λq=>t0.xy a q h) λq=>s'.uS (by rw[<- q];exact i0 a h)
  have nG:∀a,Gs a->F1 a\/F0 a->False:=λa g f=>by
    rcases c.xE a g with q|q
    · exact f.elim (λz => d1S a z q) λz => t0.xy a q z
    · exact s'.wD a (s'.sub a<|f.elim (i1 a)<|i0 a) q
  have out:∀a,F1 a\/F0 a->R1 a:=λa f=>c.left a (s'.sub a<|f.elim (i1 a)<|i0 a) λz=>f.elim (λq=>d1S a q z) λq=>t0.xy a z q
  refine#[λa=>F1 a\/Gs a\/F0 a,#[λb o n m h=>c.keep b o (λz=>n<|iS b z) m h,c.zv,λa h=>h.elim (λz=>.inl<|i1 a z) λz=>z.elim (λq=>(c.xE a q).elim (λz=>.inl<|iS a z) .inr) λq=>.inl<|i0 a q,λa h n=>c.left a h λz=>n<|iS a z],pb _ (λa=>Gs a\/F0 a) _ R1 H1 σ p1 (Se.join #[λ_=>Iff.rfl,λa m f=>nG a m<|.inr f] r1 f0 hl) (Ag.refl _ _) ⟨λ_=>Iff.rfl,λa h z=>z.elim (λq=>nG a q<|.inl h) λq=>d10 a h q⟩,λa h=>h.elim (λz=>out a<|.inl z) λz=>z.elim (S1.sub a) λq=>out a<|.inr q,S1.wD,S1.tab,S1.ve,λh=>h.elim (λz=>s'.uS<|i1 T z) λz=>z.elim S1.uS λq=>s'.uS<|i0 T q]
def wp[P:Pre k S Db][O:Fg D1 Db][m:Sel idx B S B0]{h:B->List α->D}{v:D->(List α->B->Prop)->(ci->D->Prop)->Prop}{g:Db->α->D1}{w:Wf D1 Bool D1}{y:Wf D1 γ D1}
 (o:X.calm=true) (U:IW X E T is z iter h v) (W:yh X a cl Ts Fr idx) (Y:Ts.length=k) (r:∀i,k<=i->i<k+idx.length->i∈mb)
 (Z:∀e f C j l,GW (Ex X a cl (Ts++Fr) e f C j l) T mb z g) (hT:∀e f C j l,YZ (Ex X a cl (Ts++Fr) e f C j l) T t w) (hE:∀e f C j l,EW (Ex X a cl (Ts++Fr) e f C j l) XF T u y)
 (hs:∀x,jD iter X.env x=pure x:=by intro _;rfl) :
    EO X E T (.ListComp u [#[z,iter,t,0]] a pos) (λ(d:D)(A:OL γ->D->Prop) I=>v d (λn b=>n.length<=gh/\Bf (stepC P O g w y) n (m.sel b) λJ L=>A #[J]<|h (m.mrg (m.rest b) L) n) I):=by
  refine e1a2 U λti i1 i2=>?_
  refine#[_,PD o i1 W hs,λd F R σ H A I Q s hw kn ke=>?_]
  refine i2 d F R σ H _ _ _ s hw (λn b Jt Ps F' F1 F2 R' H' q c M tw hr ip ps pk pb=>?_) ke
  refine e1a4 (DL (idx:=idx) (Se:=m) M tw hr pb) λFs S0 n0 r0 on=>?_
  refine Fo Y r Z hT hE q.1 ip ps pk S0 n0 r0 q.2 λzs L Gs R1 H1 J kz c1 S1 r1 p1 pz p hp=>?_
  refine e1a2 (on c1 S1 r1 p1) λG c2 N=>?_
  refine e1a3 (wR N hp pz) λR2 c3 S3 n3=>?_
  exact kn _ _ _ _ G R2 _ kz (Ch.trans s N.tab (Ch.trans s M.tab c c2) c3) S3 n3
def Aa[P:Pre k S Db][Gf:Fg D1 Db][v:Sel idx B S B0](j:Nat){m I J:Type}[Ow m][Sls I][Sls J][A:At j D m I][U:Pt j I (OL γ) J][Jp:Pj D PO n]{h:Pos}{l:B->List α->D}{W:D->(List α->B->Prop)->(ci->D->Prop)->Prop}{g:Db->α->D1}{Y:Wf D1 Bool D1}{Z:Wf D1 γ D1}
 (hN:X.N.Nodup) (hj:X.N[j]?=↑y) (hy:X.env.scope.names.lookup y=some .local) (L:js (.ListComp o [#[M,iter,r,0]] a pos) (some<|.Name y py) h.line X.env=pure true) (hm:j∉ms)
 (O:X.calm=true) (hi:IW X E T is M iter l W) (Bs:yh X a cl Ts Fr idx) (hk:Ts.length=k) (Q:∀i,k<=i->i<k+idx.length->i∈mb)
 (hG:∀e f C t u,GW (Ex X a cl (Ts++Fr) e f C t u) T mb M g) (hT:∀e f C t u,YZ (Ex X a cl (Ts++Fr) e f C t u) T r Y) (hE:∀e f C t u,EW (Ex X a cl (Ts++Fr) e f C t u) XF T o Z)
 (hs:∀x,jD iter X.env x=pure x:=by intro _;rfl) :
    S1 X E T ms n (.Assign [.Name y py] (.ListComp o [#[M,iter,r,0]] a pos) h) (λ(d:D)(Kn:J->Prop)(Kr:τ->PO->Prop) Ke=>W d (λw b=>w.length<=gh/\Bf (stepC P Gf g Y Z) w (v.sel b) λys s1=>Kn<|U.put (A.hole<|l (v.mrg (v.rest b) s1) w) ⟨ys⟩) λC d'=>Ke C<|Jp.pj d'):=by
  refine e1a2 hi λti i1 i2=>?_
  refine#[_,PF hN hj hy L O i1 Bs hs,λd F R σ H Kn Kr Ke En s hw kn kr ke=>?_]
  refine i2 d F R σ H _ _ _ s hw (λw b Jt Ps F' F1 F2 R' H' q c z tw hr ip ps pk pb=>?_) λC y d' F' R' H' q c z=>?_
  · refine e1a4 (DL (idx := idx) (Se := v) z tw hr pb) λFs S0 n0 r0 on => ?_
    refine Fo hk Q hG hT hE q.1 ip ps pk S0 n0 r0 q.2 λzs s1 Gs R1 H1 ys kz c1 S1 r1 p1 pz p hp=>?_
    refine e1a2 (on c1 S1 r1 p1) λG c2 S2=>?_
    refine e1a3 (wR S2 hp pz) λR2 c3 S3 n3=>?_
    refine e1a2 (Fi (i:=j) S3 n3) λG2 g2 S4=>?_
    exact kn _ G2 R2 _ _ kz ((Ch.trans s S2.tab (Ch.trans s z.tab c c2) c3).less g2) S4<|Ag.set hm
  · refine e1a2 (vX (PO := PO) z) λG g1 g2 => ?_
    exact ke C y _ G R' H' q (c.less g1) g2
end
def Kp(g:ci)(H a:Hp):Prop:=∀b o,b≠g->H b=↑o->a b=↑o
def Kp.refl(g:ci)(H:Hp):Kp g H H:=λ_ _ _ h=>h
def Kp.trans{d e:Hp}(a:Kp g H d)(b:Kp g d e):Kp g H e:=λc o n h=>b c o n<|a c o n h
def Kp.at:Kp g H (upd H g o):=λb u n e=>by rw[ui n];exact e
def zy(h:H p=none):CH H (upd H p o):=λb u e=>by rw[ui<|uu e h];exact e
noncomputable def EI(q:ci)(i z s:Int):List V:=[.ref q,.int i,.int z,.int s]
structure Cu(H:Hp)(g q:ci)(ns:List Int)(i z s:Int):Prop where
 ob:H g=↑(.lst<|EI q i z s)
 sc:H q=↑(.lst<|ns.map V.int)
 i0:0<=i
 ne:q≠g
def Cu.put{i z s:Int}(B:Cu H g q b i z s){a z':Int}(h:0<=a):Cu (upd H g<|.lst<|EI q a z' s) g q b a z' s:=#[ul,by rw[ui B.ne];exact B.sc,h,B.ne]
def WQ(q:ci)(i z s:Int):EB (EI q i z s) 0=↑(.ref q):=rfl
def PH(q:ci)(i z s:Int):EB (EI q i z s) 1=↑(.int i):=rfl
def PJ(q:ci)(i z s:Int):EB (EI q i z s) 2=↑(.int z):=rfl
def a1l(q:ci)(i z s:Int):EB (EI q i z s) 3=↑(.int s):=rfl
def Y0(x:Int):-(2 ^ 64)<x%2147483647/\x%2147483647<2 ^ 64:=by lia
def Tj{ns:List Int}{i:Int}(b:0<=i)(c:i<(ns.length:Int)):∃n,EB (ns.map V.int) i=↑(.int n):=by
 have a:i.toNat<ns.length:=by omega
 have e:(ns.map V.int)[i.toNat]?=↑(.int ns[i.toNat]):=by rw[ja,iU a];rfl
 have:=LM e;rw[show ((i.toNat:Nat):Int)=i by omega]at this;exact#[_,this]
structure Bg where
instance:Ow Bg:=#[λF _ H _ v=>∃g q ns i z s,v=↑(.ref g)/\(∀b,F b↔b=g\/b=q)/\Cu H g q ns i z s,
 λ{F G R H R' H' x v} h e s n=>by
  obtain⟨g,q,ns,i,z,s',h1,h2,h3⟩:=h
  exact#[g,q,ns,i,z,s',h1,h2,#[e.keep g _ (n g<|(h2 g).mpr<|.inl rfl) h3.ob,e.keep q _ (n q<|(h2 q).mpr<|.inr rfl) h3.sc,h3.i0,h3.ne]],
 λh e=>by
  obtain⟨g,q,ns,i,z,s',h1,h2,h3⟩:=h
  exact#[g,q,ns,i,z,s',h1,λb=>(e b).symm.trans (h2 b),h3]]
instance:Hs Bg:=#[λz9=>e6a2 z9 λ_ _ _ _ _ _ h _=>#[_,h]]
instance:Te Bg:=#[λh _=>h]
def PL:Sp:=λd H Q _=>∃(g q:ci)(c:List Int)(i z s a:Int),d=[.ref g,.int a]/\Cu H g q c i z s/\0<a/\a<1073741824 /\
 ∀b e f r,Kp g H b->Cu b g q c e f s->0<=r->r<a->Q (.int r) b
abbrev Vt:Bg×Int×Unit->(Int->Bg×Un×Unit->Prop)->(ci->Bg×Un×Unit->Prop)->Prop:=λp a _=>0<p.2.1/\p.2.1<1073741824/\∀r,0<=r->r<p.2.1->a r (#[],#[],())
def Vu{K:ga}{k:Nat}(F:uR P w K b base OS k f c d g):uR P w K b base (vd P w) k f c d g :=
 #[F.len,λA a s H args i j Q E l m n o p=>jp (F.run A a s H args i j Q E l m n o p) λr t h=>by
  cases r with
  |error e=>exact gZ h
  |ok q =>
   cases q with
   |ret u=>exact h
   |next=>exact gZ h
   |brk=>exact gZ h
   |cont=>exact gZ h]
def a1m:∀{c:List V},List.map some c=[↑a,↑b]->c=[a,b]:=by
 intro c e
 cases c with
 |nil=>cases e
 |cons p r=>cases r with
  |nil=>cases e
  |cons q s=>cases s with
   |nil=>cases e;rfl
   |cons _ _=>cases e
def WR{K:ga}{k:Nat}(F:uR P w K I base OS k f J c PL):uR P w K I base (vd P w) k f J c (xW T Vt):=by
 refine(Vu F).imp λL H Q E h=>?_;obtain⟨m,R,p,Kn,Ke,s,⟨M,N,O⟩,S,_⟩:=h;obtain⟨v1,U,X,Y,Z,v,⟨g,q,x,i,z,y,rfl,A,hb⟩,d⟩:=s.rel;obtain⟨v2,aa,F3,F4,e2,t2,⟨n3,u,rfl,r2⟩,e3,n4⟩:=d;subst r2;subst e2 e3
 have ev:L=[.ref g,.int p.2.1]:=by exact a1m Z
 subst ev;have B:m g:=(v.all g).mpr<|.inl<|(A g).mpr<|.inl rfl;have gT:g≠T:=λe=>s.uS (by rw[<- e];exact B);refine#[g,q,x,i,z,y,p.2.1,rfl,hb,M,N,λC i' z' r j D r0 d=>?_]
 have l:∀a,R a->C a≠none:=λa h=>by
  by_cases e:a=g
  ·rw[e,D.ob];simp
  ·cases G:H a with
   |none=>exact gA G<|s.wD a h
   |some o=>rw[j a o e G];simp
 refine S r (#[],#[],()) _ (λ_=>False) m R C (O r r0 d) #[λb o n _ h=>j b o (λe=>n<|by rw[e];exact B) h,λ_ h=>.inl h,λa h=>h.elim (λz=>z.elim) .inl,λ_ h _=>h]
  #[#[_,_,X,Y,rfl,v,#[g,q,x,i',z',y,rfl,A,D],_,_,F3,F4,rfl,t2,n3,rfl,n4],s.sub,l,?_,s.ve,s.uS] #[#[λ_ z=>z,_,rfl,rfl],λ_ z=>z.elim,λ_ z=>z.elim,λz=>z]
 refine e1a2 s.tab λc e t=>?_;exact#[c,j T _ (λe=>gT e.symm) e,t]
structure Fn(K:ga)(mg:Str->Option cr)(x:Str)(st:gV)(ps:List Str)(f:ci)(fd:hV):Prop where
 fn:yo K x x st f fd
 at_:mg x=↑(.ref f)
 bd:Binds K fd ps []
def a1n{a b c d e:Type}{P:a×b×c×d×e->Prop}(h:∀f g i j k,P (f,g,i,j,k)):∀x,P x:=λx=>h x.1 x.2.1 x.2.2.1 x.2.2.2.1 x.2.2.2.2
def Y1{a b c d e f g:Type}{P:a×b×c×d×e×f×g->Prop}(h:∀i j k l m n o,P (i,j,k,l,m,n,o)):∀x,P x:=λx=>h x.1 x.2.1 x.2.2.1 x.2.2.2.1 x.2.2.2.2.1 x.2.2.2.2.2.1 x.2.2.2.2.2.2
def Y2{a b c d e f g i:Type}{P:a×b×c×d×e×f×g×i->Prop}(h:∀j k l m n o p q,P (j,k,l,m,n,o,p,q)):∀x,P x:=λx=>h x.1 x.2.1 x.2.2.1 x.2.2.2.1 x.2.2.2.2.1 x.2.2.2.2.2.1 x.2.2.2.2.2.2.1 x.2.2.2.2.2.2.2
def EJ{a b c d e f g i j:Type}{P:a×b×c×d×e×f×g×i×j->Prop}(h:∀k l m n o p q r s,P (k,l,m,n,o,p,q,r,s)):∀x,P x:=λx=>h x.1 x.2.1 x.2.2.1 x.2.2.2.1 x.2.2.2.2.1 x.2.2.2.2.2.1 x.2.2.2.2.2.2.1 x.2.2.2.2.2.2.2.1 x.2.2.2.2.2.2.2.2
def Vv{b c d e f g i j k l a:Type}{P:b×c×d×e×f×g×i×j×k×l×a->Prop}(h:∀n o p q r s t u v w m,P (n,o,p,q,r,s,t,u,v,w,m)):∀x,P x:=λx=>h x.1 x.2.1 x.2.2.1 x.2.2.2.1 x.2.2.2.2.1 x.2.2.2.2.2.1 x.2.2.2.2.2.2.1 x.2.2.2.2.2.2.2.1 x.2.2.2.2.2.2.2.2.1 x.2.2.2.2.2.2.2.2.2.1 x.2.2.2.2.2.2.2.2.2.2
def uw{K:ga}{d:Str->Option cr}{k:Nat}{e:List Str}{A c g:Type}[Sls A][Sls c][Ow g]{i j:Wf A g c}(F:uR P w K d base (vd P w) k f l e (xW T i))(h:∀p a b,j p a b->i p a b):uR P w K d base (vd P w) k f l e (xW T j) :=
 F.imp λo H Q E m=>e5a3 m λF R p a b s n r=>#[F,R,p,a,b,s,h p a b n,r]
def Y3:Passes (vd P w) X XF:=λa b H s e c I h=>by obtain⟨_,_,_,_,_,z⟩:=h;exact z.elim
def lkc{β:Type}{n x:Str}{c c':β}{r:List (Str×β)}(h:jF x ((n,c)::r)=↑c'):(x=n/\c'=c)\/jF x r=↑c':=by
 rw[hI]at h
 cases q:x==n with
 |true=>rw[q]at h;exact .inl #[eq_of_beq q,(iq h).symm]
 |false=>rw[q]at h;exact .inr h
def fc{b:Type}{p:b->Prop}{a:b}{l:List b}(h:p a)(t:∀y∈l,p y):∀y∈a::l,p y:=λy c=>by
 rcases List.mem_cons.mp c with e|e
 ·rw[e];exact h
 ·exact t y e
def vY{k m:Nat}(h:a=(gL m).map (k + ·)):∀i,k<=i->i<k+m->i∈a:=λi b c=>by rw[h];exact List.mem_map.mpr #[i-k,List.mem_range.mpr q0d,q0d]
def a2V{a:Type}{p:a->Prop}:∀y∈([]:List a),p y:=λ_ h=>by cases h
section
variable{D PO τ:Type}[Sls D][Sls PO][Ow τ]{α:Type}[Rep α]
def WT(f:EW X E T a i):EW X E T (.UnaryOp .USub a pos) (λ(d:D)(j:Int->D->Prop) l=>i d (λx m=>j (-x) m) l):=by have h:=WC (c:=λ_=>True) (γ:=Int) (g:=λx:Int=>-x) (e:=.UnaryOp .USub a pos) f (λn b=>U7 On b) λb _ k=>#[_,b,k _ rfl];simp only[true_and]at h;exact h
def x9(i:Nat)[Sls l][Sls g][Hs τ][A:At i D τ g][J:Pj g PO n](m:PE X (.Name x p) (uT i)):S1 X E T I n (.Return (some<|.Name x p) pos) (λ(d:D)(_:l->Prop)(j:τ->PO->Prop) _=>j (A.get d)<|J.pj<|A.hole d):=by refine⟨_,BG m,λd F R L H M j N O s q P r Q=>?_⟩;refine e3a4 (A.take s.rel) λv t w y c k B=>?_;obtain⟨u,rfl⟩:=Hs.has k;have f:∀a,w a->F a:=λa h=>(c.all a).mpr<|.inr h;refine e1a2 (J.le B) λG e C=>?_;exact#[u,y,r _ _ u t G R H q #[λb o _ _ h=>h,λ_ h=>.inl h,λa h=>.inl<|h.elim (λz=>(c.all a).mpr<|.inl z) λz=>f a<|e a z,λ_ h _=>h] #[C,λa h=>s.sub a<|f a<|e a h,s.wD,s.tab,s.ve,λh=>s.uS<|f T<|e T h] ⟨k,λa h=>s.sub a<|(c.all a).mpr<|.inl h,λa h z=>c.xy a h<|e a z,λh=>s.uS<|(c.all T).mpr<|.inl h⟩]
def Tk{O:List hZ}{i P PO B A:Type}[Ow i][Sls P][Sls PO][Sls B][Sls A]{G:B->A->PO->D}{we:Wf D i D}{wr:D->(P->B->A->Prop)->(ci->D->Prop)->Prop}
 (ha:EO X E T e we) (hr:JZ X E T O G wr) (hs:gf (e::O) X.env=(false,eval e X.env)::gf O X.env:=by rfl) :
    JZ X E T (e::O) (λ(b:B)(l:A)(p:Un×PO)=>G b l p.2) (λ(d:D)(Kn:i×P->B->A->Prop) I=>we d (λx W=>wr W (λp b l=>Kn (x,p) b l) I) I):=by
  refine e1a2 ha λta a1 a2=>?_
  refine e1a2 hr λtr b1 b2=>?_
  refine#[_,ut a1 b1 hs,λd F R σ H Kn I Q s hw kn ke=>?_]
  refine a2 d F R σ H _ I _ s hw (λx W u j F1 R1 H1 q1 c1 v g=>?_) ke
  have J:Ch T F R H F1 R1 H1:=c1.less λ_ z=>.inr z
  refine b2 W F1 R1 σ H1 _ I _ v q1 (λp b l vs us Y G2 L o w M q2 S N r h1 h2 hl k=>?_) λC y d' o w M k c s'=>ke C y d' o w M k (Ch.trans s v.tab J c) s'
  -- the new Z Py
  have mF:∀a,j a->o a->False:=λa m f=>by
    rcases S.xE a f with q|q
    · exact g.xy a m q
    · exact v.wD a (g.sub a m) q
  have mT:∀a,j a->a≠T:=λa m z=>g.tab (by rw[<- z];exact m)
  have mx:sl j w M x ↑u:=Ow.st g.is S.ext (λa h=>h.elim (v.sub a) λq=>by rw[q];exact v.ve) λa m z=>z.elim (g.xy a m)<|mT a m
  have mR:∀a,j a->w a:=λa m=>S.left a (g.sub a m) λz=>g.xy a m z
  have g1:∀a,Y a->o a:=λa h=>(r.all a).mpr<|.inl h
  have g2:∀a,G2 a->o a:=λa h=>(r.all a).mpr<|.inr<|.inl h
  have g3:∀a,L a->o a:=λa h=>(r.all a).mpr<|.inr<|.inr h
  have U:=Ch.trans s v.tab J S
  refine kn (x,p) b l (u::vs) us (λa=>j a\/Y a) G2 L (λa=>j a\/o a) w M q2 #[U.keep,U.zv,λa h=>h.elim (λz=>c1.xE a<|.inl z)<|U.xE a,U.left] ⟨λa h=>h.elim (mR a)<|N.sub a,N.wD,N.tab,N.ve,λh=>h.elim g.tab N.uS⟩
    #[λa=>?_,λa m n=>m.elim (λz=>mF a z<|g2 a n) λz=>r.HB a z n,λa m n=>m.elim (λz=>mF a z<|g3 a n) λz=>r.Je a z n,r.Jf] #[↑u,vs.map some,j,Y,rfl,#[λ_=>Iff.rfl,λa m n=>mF a m<|g1 a n],Ow.wk mx<|BV w L M,h1] h2 hl λb' l' L1 L2 L3 aa ab ae p' h3 h4 h5 t=>?_
  · rw[r.all]
    exact#[λz=>z.elim (λq=>.inl<|.inl q) λz=>z.elim (λq=>.inl<|.inr q) .inr,λz=>z.elim (λz=>z.elim .inl λq=>.inr<|.inl q) λz=>.inr<|.inr z]
  · refine e4a4 h3 λv' af N1 N2 z1 z2 z3 z4 => ?_
    injection z1 with _ z5
    subst z5
    exact k b' l' L1 L2 L3 aa ab ae p'.2 (Sls.fq z4<|two_eq z2 z3) h4 h5 t
class Y4(α:Type)[Rep α](ty:String)(b:outParam Bool):Prop where
 ist:∀{K:ga} {R:Rg} {H:Hp} {x:α} {v:V},rp R H x v->∃t,zn K H v t/\qg K t (.type ty)=↑b
instance:Y4 Int "int" true:=#[λ{K R H x v} h=>by
 subst h
 exact#[_,zn.int x,by rfl]]
instance:Y4 Int "bool" false:=#[λ{K R H x v} h=>by
 subst h
 exact#[_,zn.int x,by rfl]]
instance:Y4 (List α) "list" true:=#[λ{K R H x v} h=>by
 obtain⟨a,vs,rfl,_,h3,_⟩:=h
 exact#[_,zn.lst h3,by rfl]]
def BX{b:Bool}[Y4 α ty b]{i:Wf D α D}(l:Gl X "isinstance")(m:X.mg "isinstance"=none)(c:PE X (.Name x q) (tC<|.ty ty))(n:EW X E T a i)
 (j:gf [a,.Name x q] X.env=(false,eval a X.env)::gf [.Name x q] X.env:=by rfl) (e:gf [.Name x q] X.env=(false,eval (.Name x q) X.env)::gf [] X.env:=by rfl) (f:(iN pos<|gf [.Name x q] X.env).any (·.1)=false:=by rfl) :
    EW X E T (.Call (.Name "isinstance" p) [a,.Name x q] [] pos) (λ(d:D)(k:Bool->D->Prop) g=>i d (λ_ h=>k b h) g):=by
  refine e1a2 n λP o r=>?_
  refine#[_,wj Ig l m PyProof.Rows.boot_isinstance (ut o (ut c uI e) j) (he:=j) (hpl:=f),λd F R v H k g Q s w z A=>r d F R v H _ g _ s w (λy h u B C G I J L M=>?_) A]
  refine e1a2 (Y4.ist (ty:=ty) (K:=X.K) M) λt N O=>?_
  exact#[u,ty,t,b,rfl,N,O,z _ h _ B C G I J L rfl]
end
end WL
namespace ZT
open PySem PySem.Spec PyProof.Rows
def DM{i:Nat}(a:s.heap.IsTupleIter b t i)(h:s.heap.IsTuple t j)(k:j[i]?=↑x)
 (l:∀e,e.IsTupleIter b t (i+1)->iu b s.heap e->Q x { s with heap:=e}):gu (gv g w) A (iM<|.ref b) Q E s:=by
  obtain⟨o,d,n,c⟩:=id a;obtain⟨p,q,_,m,r⟩:=h;unfold iM
  refine am<|wpAny_callSpecial?_slot (name:=kX "__next__") a.typeIs kY<|im kY a.typeIs rh ?_<|qS _
  show gu _ _ (ts (.ref b) 0 >>= _) _ _ s;refine am<|iD d c (x:=.ref t) rfl ?_
  show gu _ _ (ts (.ref b) 1 >>= _) _ _ s;refine am<|iD d c (x:=.int i 0) rfl ?_
  show gu _ _ (seqItems? (.ref t) >>= _) _ _ s;refine am<|ki q r ?_;simp only[kH,k]
  have f:Heap.IsTupleIter (s.heap.update b λu=>u.mapFields (·.setIfInBounds 1 (kP<|(i:Int)+1))) b t (i+1):=#[_,ii _ d<|Obj.isFreed_of_fields<|Obj.data_mapFields c _,(Obj.cls_mapFields ..).trans n,by rw[Obj.data_mapFields c];simp[kP]]
  exact am<|ml d c q0o<|ap #[x,rfl,ap<|l _ f<|nN ..]
def L5{i:Nat}(h:A.handled=none)(b:s.heap.IsTupleIter c t i)(k:s.heap.IsTuple t l)(n:l[i]?=none)
 (q:∀d e,Heap.ExtBut c s.heap d->(∃o,d.get? e=↑o/\o.cls=.type "StopIteration")->E (.ref e) { s with heap:=d}):gu (gv j w) A (iM<|.ref c) Q E s:=by
  obtain⟨o,f,v,g⟩:=id b;obtain⟨p,r,_,m,u⟩:=k;unfold iM
  refine am<|wpAny_callSpecial?_slot (name:=kX "__next__") b.typeIs kY<|im kY b.typeIs rh ?_<|qS _
  show gu _ _ (ts (.ref c) 0 >>= _) _ _ s;refine am<|iD f g (x:=.ref t) rfl ?_
  show gu _ _ (ts (.ref c) 1 >>= _) _ _ s;refine am<|iD f g (x:=.int i 0) rfl ?_
  show gu _ _ (seqItems? (.ref t) >>= _) _ _ s;refine am<|ki r u ?_;simp only[kH,n]
  refine am<|lj<|am<|ml f g q0o ?_;show gu _ _ (newExc (.type "StopIteration") [] >>= _) _ _ _
  refine am ?_;simp only[newExc,newTuple];refine am<|hW ?_ (by size_fits)
  refine am (m:=pG _ _)<|lX (a:=Value.none) (by first|rfl|(simp only[pG];rfl))<|hW ?_ (by size_fits)
  simp only[raiseNew];refine am<|wpAny_handled ?_;first|rw[show A.in1.handled=none from h]|rw[h]
  exact am<|ap<|wpAny_throw<|q _ _ (((nN ..).extBut.push _).push _) #[_,gx _ rfl,rfl]
abbrev Y5(h:h8)(z c d e g i j:ci)(f:cr)(k:Nat)(l m:Array cr):Prop :=
 rj h z c d f/\pJ h c (.ref e) (.ref g)/\(∃a b,pJ h d a b)/\h.IsTupleIter e i k/\h.IsTupleIter g j k/\h.IsTuple i l/\h.IsTuple j m
def Tl{g d:ci}{k:Nat}{Q:cr->gn->Prop}(D:ZipApart z g d l m H I)(st:Y5 s.heap z g d l m H I .none k xs ys)(hx:xs[k]?=↑x)(hy:ys[k]?=↑y)
 (hQ:∀h,rj h z g d (kP ⇑s)->pJ h d x y->h.IsTupleIter l H (k+1)->h.IsTupleIter m I (k+1)->pJ h ⇑s x y ->
 (∀c o,c≠z->c≠d->c≠l->c≠m->s.heap.get? c=↑o->h.get? c=↑o)->Q (.ref ⇑s) { s with heap:=h}) :
    gu (gv W w) A (Builtin.«zip.__next__» #[[.ref z],[]]) (λJ s'=>∃v,J=.done (.ret v)/\Q v s') E s:=by
  obtain⟨q,L,⟨a,b,M⟩,h1,h2,N,O⟩:=st
  show gu _ _ (ts (.ref z) 2 >>= _) _ _ _;refine am<|iD q rfl (x:=.bool false) rfl ?_
  show gu _ _ (ts (.ref z) 3 >>= _) _ _ _;refine am<|iD q rfl (x:=.ref g) rfl<|am<|ki L rfl ?_
  show gu _ _ (ju (.ref z) >>= _) _ _ _;refine am ?_;unfold ju
  refine am<|iD q rfl (x:=.none) rfl<|ap ?_;simp only[if_true]
  refine am<|lj<|am<|iD q rfl (x:=.ref d) rfl<|am<|jl q q0o λg1 P i=>?_
  replace P:rj g1 z g d .ellipsis:=P;refine am ?_;simp only[ud,List.zipIdx_nil,List.forIn_cons,List.forIn_nil]
  refine am<|am<|oy ?_;show gu _ _ (iM (.ref l) >>= _) _ _ _
  refine am<|DM (h1.extBut i.extBut D.i1z) (N.extBut i.extBut D.l1z) hx λg2 a2 n=>ap ?_
  have X:pJ g2 d a b:=n.extBut _ _ D.TOi1<|i.extBut _ _ D.TOz M
  refine am<|ki X rfl<|am<|pK X λg3 R p=>am<|rn<|ap ?_
  replace R:pJ g3 d x b:=R
  refine am<|am<|oy ?_;show gu _ _ (iM (.ref m) >>= _) _ _ _
  refine am<|DM (((h2.extBut i.extBut D.i2z).extBut n.extBut D.i12.symm).extBut p.extBut D.TOi2.symm) (((O.extBut i.extBut D.l2z).extBut n.extBut D.l2i1).extBut p.extBut D.l2TO) hy λg4 a4 r=>ap ?_
  have Y:pJ g4 d x b:=r.extBut _ _ D.TOi2 R
  refine am<|ki Y rfl<|am<|pK Y λf u t=>am<|rn<|ap<|ap ?_
  replace u:pJ f d x y:=u
  refine am<|ki u rfl<|am<|wpAny_newTuple ?_
  have Z:f.objs.size=⇑s:=by rw[t.1,r.1,p.1,n.1,i.1]
  have z5:rj f z g d .ellipsis:=t.extBut _ _ D.TOz.symm<|r.extBut _ _ D.i2z.symm<|p.extBut _ _ D.TOz.symm<|n.extBut _ _ D.i1z.symm P
  have k5:∀c o,c≠z->c≠d->c≠l->c≠m->s.heap.get? c=↑o->f.get? c=↑o:=λc o j B S T e=>t.extBut _ _ B<|r.extBut _ _ T<|p.extBut _ _ B<|n.extBut _ _ S<|i.extBut _ _ j e
  have q1:f.IsTupleIter l H (k+1):=((a2.extBut p.extBut D.TOi1.symm).extBut r.extBut D.i12).extBut t.extBut D.TOi1.symm
  have q2:f.IsTupleIter m I (k+1):=a4.extBut t.extBut D.TOi2.symm
  have lz:z<f.objs.size:=gp z5
  show gu _ _ (mV (.ref z) (.ref f.objs.size) >>= _) _ _ _;refine am ?_;unfold mV
  have z6:rj (f.push { cls:=.type "tuple",data:=.seq #v[x,y]}) z g d .ellipsis:=ce _ z5
  refine am<|jl z6 q0o λg7 U e7=>?_;replace U:rj g7 z g d (kP f.objs.size):=U
  refine jl U q0o λC F e8=>?_;replace F:rj C z g d (kP f.objs.size):=F
  have G:∀c o,c≠z->f.get? c=↑o->C.get? c=↑o:=λc o j e=>e8.extBut _ _ j<|e7.extBut _ _ j<|ce _ e
  have t8:pJ C f.objs.size x y:=e8.extBut _ _ (iK lz)<|e7.extBut _ _ (iK lz)<|gx _ rfl
  rw[Z]at F t8;refine ap #[_,rfl,?_];show Q (.ref f.objs.size) _;rw[Z]
  exact hQ C F (G _ _ D.TOz u) (q1.at λo e=>G _ o D.i1z e) (q2.at λo e=>G _ o D.i2z e) t8 λc o j B S T e=>G c o j<|k5 c o j B S T e
def WU{l f:ci}{k:Nat}(O:A.handled=none)(D:ZipApart z l f v y l1 l2)(st:Y5 s.heap z l f v y l1 l2 .none k P R)(m:P[k]?=none\/R[k]?=none)
 (S:∀B e,(∀c o,c≠z->c≠f->c≠v->c≠y->s.heap.get? c=↑o->B.get? c=↑o)->(∃o,B.get? e=↑o/\o.cls=.type "StopIteration")->E (.ref e) { s with heap:=B}) :
    gu (gv T w) A (Builtin.«zip.__next__» #[[.ref z],[]]) Q E s:=by
  obtain⟨n,C,⟨a,b,F⟩,U,h2,p,G⟩:=st
  show gu _ _ (ts (.ref z) 2 >>= _) _ _ _;refine am<|iD n rfl (x:=.bool false) rfl ?_
  show gu _ _ (ts (.ref z) 3 >>= _) _ _ _;refine am<|iD n rfl (x:=.ref l) rfl<|am<|ki C rfl ?_
  show gu _ _ (ju (.ref z) >>= _) _ _ _;refine am ?_;unfold ju
  refine am<|iD n rfl (x:=.none) rfl<|ap ?_;simp only[if_true]
  refine am<|lj<|am<|iD n rfl (x:=.ref f) rfl<|am<|jl n q0o λg1 u d=>?_
  replace u:rj g1 z l f .ellipsis:=u;refine am ?_;simp only[ud,List.zipIdx_nil,List.forIn_cons,List.forIn_nil]
  refine am<|am<|oy ?_;show gu _ _ (iM (.ref v) >>= _) _ _ _
  cases H:P[k]? with
  |none =>
    refine am<|L5 O (U.extBut d.extBut D.i1z) (p.extBut d.extBut D.l1z) H λI e g J=>?_;obtain⟨L,i,r⟩:=J
    have W:rj I z l f .ellipsis:=g _ _ D.i1z.symm u
    have M:e≠z:=λq=>by subst q;rw[W]at i;cases i;simp at r
    exact jl W q0o λX _ j=>S X e (λc o t _ N _ q=>j.extBut _ _ t<|g _ _ N<|d.extBut _ _ t q) #[L,j.extBut _ _ M i,r]
  |some x =>
    have hy:R[k]?=none:=by rcases m with h|h;rw[H]at h;cases h;exact h
    refine am<|DM (U.extBut d.extBut D.i1z) (p.extBut d.extBut D.l1z) H λI a2 g=>ap ?_
    have Y:pJ I f a b:=g.extBut _ _ D.TOi1<|d.extBut _ _ D.TOz F
    refine am<|ki Y rfl<|am<|pK Y λX p3 j=>am<|rn<|ap ?_
    refine am<|am<|oy ?_;show gu _ _ (iM (.ref y) >>= _) _ _ _
    refine am<|L5 O (((h2.extBut d.extBut D.i2z).extBut g.extBut D.i12.symm).extBut j.extBut D.TOi2.symm) (((G.extBut d.extBut D.l2z).extBut g.extBut D.l2i1).extBut j.extBut D.l2TO) hy λg4 e Z J=>?_
    obtain⟨L,i,r⟩:=J
    have z4:rj g4 z l f .ellipsis:=Z _ _ D.i2z.symm<|j.extBut _ _ D.TOz.symm<|g.extBut _ _ D.i1z.symm u
    have M:e≠z:=λq=>by subst q;rw[z4]at i;cases i;simp at r
    exact jl z4 q0o λg5 _ e5=>S g5 e (λc o t c2 N c4 q=>e5.extBut _ _ t<|Z _ _ c4<|j.extBut _ _ c2<|g.extBut _ _ N<|d.extBut _ _ t q) #[L,e5.extBut _ _ M i,r]
noncomputable abbrev tI(l:ci):Obj:={ cls:=.type "tuple_iterator",data:=.fields #v[.ref l,.int 0 0]}
noncomputable abbrev H1(h:h8)(a:ci):h8:=h.push<|tI a
noncomputable abbrev H2(h:h8)(a b:ci):h8:=(H1 h a).push<|tI b
noncomputable abbrev H3(h:h8)(a b:ci):h8:=(H2 h a b).push { cls:=.type "tuple",data:=.seq #v[.ref h.objs.size,.ref (H1 h a).objs.size]}
noncomputable abbrev H4(h:h8)(a b:ci):h8:=(H3 h a b).push { cls:=.type "tuple",data:=.seq #v[.none,.none]}
noncomputable abbrev H5(h:h8)(a b:ci):h8:=(H4 h a b).push { cls:=.type "zip",data:=.fields #v[.none,.bool false,.bool false,.ref (H2 h a b).objs.size,.ref (H3 h a b).objs.size]}
def made(a b:ci)(c e:Array cr):Meets (Builtin.«zip.__new__» #[[.type "zip",.ref a,.ref b],[]]) (λ_ R s=>s.heap.IsTuple a c/\s.heap.IsTuple b e/\R (.ok<|.ret<|.ref (H4 s.heap a b).objs.size) { s with heap:=H5 s.heap a b}) :=
 .of_wp λf w A R s h=>by
  obtain⟨i,g,d,j,k⟩:=s;obtain⟨m,n,h⟩:=h;have l:=sub_zip;have o:pP (Shared.heap #[i,g,d,j,k]) a c:=m;have p:pP (Shared.heap #[i.push<|tI a,g,d,j,k]) b e:=Heap.IsTuple.push n _
  wp_walk using qf o,qf p
  exact#[_,rfl,h]
def PM(n:s.heap.IsTuple a p)(q:s.heap.IsTuple b r)
 (h:∀d,Y5 d (⇑s+4) (⇑s+2) (⇑s+3) ⇑s (⇑s+1) a b .none 0 p r->d.objs.size=⇑s+5->(∀c o,s.heap.get? c=↑o->d.get? c=↑o)->Q (.ref<|⇑s+4) { s with heap:=d}) :
    gu (gv t w) A (call (.type "zip") [.ref a,.ref b]) Q E s:=by
  refine callType_new F.called_zip q0q (F.typeCall_zip_2 _ _) (F.newCall_zip_2 _ _) (λf=>F.args_object_init_3 f _ _) F.entry_zip_new (made a b p r) #[n,q,?_]
  have g:(H1 s.heap a).objs.size=⇑s+1:=i4 ..
  have i:(H2 s.heap a b).objs.size=⇑s+2:=by rw[i4,g]
  have j:(H3 s.heap a b).objs.size=⇑s+3:=by rw[i4,i]
  have k:(H4 s.heap a b).objs.size=⇑s+4:=by rw[i4,j]
  have z:(H5 s.heap a b).objs.size=⇑s+5:=by rw[i4,k]
  have l:(H5 s.heap a b).get? (H4 s.heap a b).objs.size=↑_:=gx _ rfl
  have u:(H5 s.heap a b).get? (H3 s.heap a b).objs.size=↑_:=ce _<|gx _ rfl
  have v:(H5 s.heap a b).get? (H2 s.heap a b).objs.size=↑_:=ce _<|ce _<|gx _ rfl
  have y:(H5 s.heap a b).get? (H1 s.heap a).objs.size=↑_:=ce _<|ce _<|ce _<|gx _ rfl
  have B:(H5 s.heap a b).get? ⇑s=↑_:=ce _<|ce _<|ce _<|ce _<|gx _ rfl
  have m:∀c o,s.heap.get? c=↑o->(H5 s.heap a b).get? c=↑o:=λc o x=>ce _<|ce _<|ce _<|ce _<|ce _ x
  rw[i,j,k]at l;rw[g,i]at v;rw[j]at u;rw[g]at y;rw[k]
  exact#[#[_,l,rfl],h _ #[l,v,#[_,_,u],#[_,B,rfl,rfl],#[_,y,rfl,rfl],n.at λo e=>m _ o e,q.at λo e=>m _ o e] z m]
def walk(hh:A.handled=none)(z TI TO i1 i2 l1 l2:ci)(D:ZipApart z TI TO i1 i2 l1 l2)(xs ys:Array cr):WalksT prog w A z [z,TI,TO,i1,i2,l1,l2] [z,TO,i1,i2] (min xs.size ys.size)
   (λi vals=>∃x y,xs[i]?=↑x/\ys[i]?=↑y/\vals=#v[x,y]) (λi h=>Y5 h z TI TO i1 i2 l1 l2 .none i xs ys)
   (λi T h=>Y5 h z TI TO i1 i2 l1 l2 (kP T) (i+1) xs ys/\T≠z/\T≠TO/\T≠i1/\T≠i2) where
 sub:=λc hc=>by simp only[gO,gP,lm]at hc ⊢;rcases hc with q|q|q|q<;>simp[q]
 frame:=λi h h' st k=>by obtain⟨hz,Y6,⟨a,b,Y7⟩,h1,h2,Y8,Y9⟩:=st;exact#[k z q0o _ hz,k TI q0o _ Y6,#[a,b,k TO q0o _ Y7],h1.at λo e=>k i1 q0o o e,h2.at λo e=>k i2 q0o o e,Y8.at λo e=>k l1 q0o o e,Y9.at λo e=>k l2 q0o o e]
 item:=λi s Q E hi st hQ=>by have ix:i<xs.size:=gG hi<|Nat.min_le_left ..;have iy:i<ys.size:=gG hi<|Nat.min_le_right ..;have hT:s.TypeIs (.ref z) "zip":=⟨_,st.1,rfl⟩;unfold pyNext;refine am<|ot<|wpAny_callSpecial?_slot (name:=kX "__next__") hT oS<|im oS hT F.entry_zip_next (Tl D st (iP ix) (iP iy) λh' a1 a2 a3 a4 a5 k=>ap ?_)<|F.args_zip_next_1 _;obtain⟨hz,Y6,⟨a,b,Y7⟩,h1,h2,Y8,Y9⟩:=st;have lt:∀{c o},s.heap.get? c=some o->⇑s≠c:=λe=>iK<|gp e;refine hQ ⇑s #v[xs[i],ys[i]] h' s.toks ⟨_,_,iP ix,iP iy,rfl⟩ (gg _) ⟨_,a5,rfl,_,rfl⟩ ⟨⟨a1,k _ _ D.TIz D.TITO D.TIi1 D.TIi2 Y6,⟨_,_,a2⟩,a3,a4,Y8.at λo e=>k _ o D.l1z D.l1TO D.l1i1 D.l1i2 e,Y9.at λo e=>k _ o D.l2z D.l2TO D.l2i1 D.l2i2 e⟩,lt hz,lt Y7,by obtain⟨_,e,_⟩:=h1;exact lt e,by obtain⟨_,e,_⟩:=h2;exact lt e⟩ ?_;exact λc o hc e=>k c o (λx=>hc<|by simp[x]) (λx=>hc<|by simp[x]) (λx=>hc<|by simp[x]) (λx=>hc<|by simp[x]) e
 go:=λelts k pos i T s Q E hm hQ=>by obtain⟨⟨hz,Y6,⟨a,b,Y7⟩,h1,h2,Y8,Y9⟩,_⟩:=hm;refine wpAny_letOwnedTupleGo_zip hz λh' hz' e=>hQ h' #[hz',e.extBut _ _ D.TIz Y6,#[a,b,e.extBut _ _ D.TOz Y7],h1.extBut e.extBut D.i1z,h2.extBut e.extBut D.i2z,Y8.extBut e.extBut D.l1z,Y9.extBut e.extBut D.l2z] λc o hc q=>e.extBut _ _ (λx=>hc<|by simp[x]) q
 apart:=λi T h hm hT=>by obtain⟨_,t1,t2,t3,t4⟩:=hm;simp only[gO,gP,lm]at hT;rcases hT with q|q|q|q;exact t1 q;exact t2 q;exact t3 q;exact t4 q
 done:=λs Q E st hQ=>by
  have a1p:xs[min xs.size ys.size]?=none\/ys[min xs.size ys.size]?=none:=by
   rcases Nat.le_total xs.size ys.size with h|h
   ·rw[Nat.min_eq_left h];exact .inl<|rE<|gg _
   ·rw[Nat.min_eq_right h];exact .inr<|rE<|gg _
  have hT:s.TypeIs (.ref z) "zip":=#[_,st.1,rfl];unfold pyNext;refine am<|ot<|wpAny_callSpecial?_slot (name:=kX "__next__") hT oS<|im oS hT F.entry_zip_next (WU hh D st a1p λh' e k he=>?_)<|F.args_zip_next_1 _;obtain⟨o,ho,hc⟩:=he;exact am<|lw (T:="StopIteration") (b:=true) ⟨o,ho,hc⟩ isSubtype_stop<|ap<|hQ _ s.toks λc o hc e=>k c o (λx=>hc<|by simp[x]) (λx=>hc<|by simp[x]) (λx=>hc<|by simp[x]) (λx=>hc<|by simp[x]) e
 self:=λi s Q E st hQ=>wpAny_pyIter_zip st.1 hQ
end ZT
namespace L2
open PySem PySem.Spec PyProof.Rows
def a1q:O8 X (yD X.K) P:=#[λ{v J H1 g a b L M x} m N y A B=>by
 obtain⟨n,C,p,O⟩:=m.tuple y;obtain⟨q,D,r,R⟩:=m.tuple A;have h:g.heap.get? P=↑(qm x):=m.vc P _ B;have i:pP g.heap a n.toArray:=p;have j:pP g.heap b q.toArray:=r
 have f:∀(l:ci)(d:Array cr),g.heap.IsTuple l d->l≠P:=λl d s=>e1a3 s λo e c _ z=>by rw[z,h]at e;cases e;cases c
 have k:∀(l:ci)(d:Array cr),g.heap.IsTuple l d->l<⇑g:=λl d s=>e1a2 s λo e _=>gp e;refine#[n,q,C,D,k _ _ i,k _ _ j,f _ _ i,f _ _ j,λQ E F=>ZT.PM i j λG t u H=>?_]
 exact F G _ _ (λS I=>(ZT.walk (prog:=X.prog) (w:=X.w) I _ _ _ _ _ _ _ (zipApart_new (k _ _ i) (k _ _ j)) n.toArray q.toArray).toU) t u H]
end L2
namespace HT
variable[L2.GX]
open PySem PySem.Spec PyProof.Rows
def Al{a:Option Int}(b:IsTup s.heap t items)(i:s.heap.IsSliceOf j l m .none)(n:pE l a)(o:pE m c)
 (hw:wu items.size 0 a=0/\wu items.size items.size c=items.size)(h:Q (.ref t) s):gu (gv k w) A (nc (.ref t)<|.ref j) Q E s:=by
  refine e1a3 (id i) λp d e q=>?_
  have f:s.TypeIs (.ref j) "slice":=#[p,d,e]
  unfold nc
  try with_reducible refine g8 ?_
  first|refine am (ap ?_)|skip
  refine am<|wpAny_sequenceKey b.typeIs q0q ?_
  refine am (wpAny_callSpecial?_slot (name:=kX "__getitem__") b.typeIs jJ
    (im jJ b.typeIs entry_tuple_getitem ?_ (args_tuple_getitem _ _)))
  show gu _ _ (pq (.ref t) >>= _) _ _ s
  refine am<|tupleItemsOf_ b ?_
  refine am<|j0 f ?_
  rw[f9 q0q]
  refine am<|yp i n o ?_
  have g:(((wu items.size 0 a:Nat):Int)==0&&(1:Int)==1&&(wu items.size items.size c-wu items.size 0 a)==items.size)=true:=by
    rw[hw.1,hw.2]
    simp
  show gu _ _ (if (((wu items.size 0 a:Nat):Int)==0&&(1:Int)==1&&(wu items.size items.size c-wu items.size 0 a)==items.size)=true then _ else _) _ _ s
  rw[f9 g]
  refine am<|am<|j0 b.typeIs<|ap ?_
  rw[f9 q0q]
  first
    | exact am<|lj<|ap #[_,rfl,ap h]
    | exact am<|lj<|am<|ap<|ap #[_,rfl,ap h]
    | exact am<|am<|lj<|ap<|ap #[_,rfl,ap h]
end HT
namespace L2
variable[L2.GX]
open PySem PySem.Spec PyProof.Rows
def Za(K:ga):V->Option Int->Option Int->Hp->VK->Prop:=λx c d H Q=>∃a b,x=.ref a/\yD K H a b/\(HT.wu b.length 0 c=0/\HT.wu b.length b.length d=b.length)/\Q (.ref a) H
def To:Vb X (Za X.K):=by
 intro d s n H x v o p t u w Q I f g i j h;obtain⟨a,k,rfl,l,m,q⟩:=h;cases f;refine e1a3 (I.tuple l) λc r e y=>?_;have b:c.toArray.size=k.length:=by rw[gy];exact r.length.symm
 refine#["tuple",_,PyProof.Rows.slot_tuple_getitem.lookup,e.typeIs,?_];exact HT.Al e g i j (by rw[b];exact m) #[.ref a,H,I,rfl,q]
end L2
namespace WL
variable[L2.GX]
open PySem L2
open Rep (rp)
open Ow (sl)
open Sls (rel)
section
variable{D:Type}[Sls D]
def vw.PN{F R:Rg}{H c:Hp}{d:D}{f:St}(s:vw T F R H d f)(k:∀b o,b≠T->H b=↑o->c b=↑o)(t:TabAt c T):Ch T F R H F R c/\vw T F R c d f:=by
 refine#[#[λb o _ n h=>k b o n h,λ_ h=>.inl h,λ_ h=>.inl h,λ_ h _=>h],Sls.st s.rel (G:=λa=>a=T) #[λb o n h=>k b o n h,λ_ h=>.inl h] (λa h=>by rw[h];exact s.ve)<|λa h z=>s.uS (by rw[<- z];exact h),s.sub,λa h=>?_,t,s.ve,s.uS];by_cases e:a=T
 ·rw[e];exact yy t
 ·cases q:H a with
  |none=>exact gA q<|s.wD a h
  |some o=>rw[k a o e q];simp
def DN{x:Tp Int}(h:rp R H x v):∃a,v=.ref a/\H a=↑(.tup<|x.l.map V.int):=by refine e2a4 h λa vs e _ h3 h4=>?_;exact#[a,e,by rw[h3,paired_ints h4]]
def DO{x:List Int}(h:rp R H x v):∃a,v=.ref a/\H a=↑(.lst<|x.map V.int):=by refine e2a4 h λa vs e _ h3 h4=>?_;exact#[a,e,by rw[h3,paired_ints h4]]
def PP(B:EW X E T i G)(I:EW X E T f J)(L:∀{j:TA},PA X [i,f] j->PE X e (YN X.K T j))
 (M:gf [i,f] X.env=(false,eval i X.env)::gf [f] X.env:=by rfl) (l:gf [f] X.env=(false,eval f X.env)::gf [] X.env:=by rfl) :
    EW X E T e (λ(d:D)(q:Bool->D->Prop) g=>G d (λN m=>J m (λO n=>q (yO N O) n) g) g):=by
  refine e1a2 B λj P S=>?_
  refine e1a2 I λtb U W=>?_
  refine#[_,L<|ut P (ut U uI l) M,λd F R r H q g Q s Y Z w=>?_]
  refine S d F R r H _ g _ s Y (λx m u F1 R1 H1 q1 z h r1=>?_) w
  refine W m F1 R1 r H1 _ g _ h q1 (λy n v F2 R2 H2 q2 A o r2=>?_) λC y d' F' R' p k c s'=>w C y d' F' R' p k (Ch.trans s h.tab z c) s'
  obtain⟨a,rfl,ha⟩:=DO<|h.val A r1
  obtain⟨b,rfl,hb⟩:=DO r2
  refine#[a,b,x,y,rfl,vJ.of ha,vJ.of hb,o.tab,λp k _ t=>?_]
  obtain⟨c3,s3⟩:=o.PN k t
  exact Z _ n _ F2 R2 p q2 (Ch.trans s h.tab z<|Ch.trans h o.tab A c3) s3 rfl
def PQ{r w:Wf D (Tp Int) D}(J:EW X E T i r)(L:EW X E T f w)(M:∀{j:TA},PA X [i,f] j->PE X e (Ww X.K T j))
 (N:gf [i,f] X.env=(false,eval i X.env)::gf [f] X.env:=by rfl) (m:gf [f] X.env=(false,eval f X.env)::gf [] X.env:=by rfl) :
    EW X E T e (λ(d:D)(z:Bool->D->Prop) g=>r d (λO n=>w n (λP o=>z (yO O.l P.l) o) g) g):=by
  refine e1a2 J λj S U=>?_
  refine e1a2 L λtb W Y=>?_
  refine#[_,M<|ut S (ut W uI m) N,λd F R A H z g Q s Z kn B=>?_]
  refine U d F R A H _ g _ s Z (λx n u F1 R1 H1 q1 G h r1=>?_) B
  refine Y n F1 R1 A H1 _ g _ h q1 (λy o v F2 R2 H2 q2 I p r2=>?_) λC y d' F' R' q k c s'=>B C y d' F' R' q k (Ch.trans s h.tab G c) s'
  obtain⟨a,rfl,ha⟩:=DN<|h.val I r1
  obtain⟨b,rfl,hb⟩:=DN r2
  refine#[a,b,x.l,y.l,rfl,yD.of ha,yD.of hb,p.tab,λq k _ t=>?_]
  obtain⟨c3,s3⟩:=p.PN k t
  exact kn _ o _ F2 R2 q q2 (Ch.trans s h.tab G<|Ch.trans h p.tab I c3) s3 rfl
def Nu{N O:Option hZ}{P:Wf D (Tp Int) D}{S U:Wf D (Option Int) D}(ha:EW X E T a P)(hl:OW X E T N S)(hh:OW X E T O U) :
  EW X E T (.Subscript a (.Slice N O none p2) pos) (λ(d:D)(W:Tp Int->D->Prop) f=>P d (λg r=>S r (λl t=>U t (λh n=>W #[EH g.l l h] n) f) f) f):=by
 refine e1a2 ha λta a1 a2=>?_;refine e1a2 hl λtl l1 l2=>?_;refine e1a2 hh λth h1 h2=>?_;refine#[_,zo (V9.or To) a1 l1 h1,λd F R v H W f Q s j Y w=>?_];refine a2 d F R v H _ f _ s j (λg r u F1 R1 H1 q1 x i r1=>?_) w;refine l2 r F1 R1 v H1 _ f _ i q1 (λl t F2 R2 H2 q2 Z z=>?_) λC y A B G I k c J=>w C y A B G I k (Ch.trans s i.tab x c) J;refine h2 t F2 R2 v H2 _ f _ z q2 (λh n F3 R3 H3 q3 c3 o=>?_) λC y A B G I k c J=>w C y A B G I k (Ch.trans s i.tab x<|Ch.trans i z.tab Z c) J;have m:=Ch.trans i z.tab Z c3;have r3:=i.val m r1;obtain⟨q,b,rfl,k1,L,M⟩:=id r3;have cc:=Ch.trans s i.tab x m;have le:=Paired.length M;by_cases j:HT.wu b.length 0 l=0/\HT.wu b.length b.length h=b.length
 ·refine .inr #[q,b,rfl,yD.of L,j,?_];refine Y _ n _ F3 R3 H3 q3 cc o #[q,b,rfl,k1,L,?_]
  have e:EH g.l l h=g.l:=by unfold EH;rw[le,j.1,j.2,List.drop_zero,Nat.sub_zero,<- le,ue]
  rw[e];exact M
 ·refine .inl #[q,b,rfl,yD.of L,j,λp hp=>?_];refine e0a3 (o.new (.tup<|Do b l h) hp) λs4 c4 n4=>?_;exact Y _ n _ F3 R3 _ q3 (Ch.trans s o.tab cc c4) s4 #[p,_,rfl,n4,ul,o.vals c4<|DF M l h]
end
structure SI(w:il) where
 l:List Int
instance(w:il):Ow (SI w):=#[λF _ H x v=>∃a ks,v=↑(.ref a)/\(∀b,F b↔b=a)/\H a=↑(wC w a ks)/\ks.Nodup/\(∀k,k∈ks↔k∈x.l)/\x.l.Pairwise (· < ·),
 λh e s n=>by
  refine e2a4 h λa ks h1 h2 h3 h4=>?_
  exact#[a,ks,h1,h2,e.keep a _ (n a<|(h2 a).mpr rfl) h3,h4],
 λh e=>by
  refine e2a4 h λa ks h1 h2 h3 h4=>?_
  exact#[a,ks,h1,λb=>(e b).symm.trans (h2 b),h3,h4]]
noncomputable def EK(k:Int)(l:List Int):List Int:=if k∈l then l else ins k l
noncomputable def J2(k:Int)(l:List Int):List Int:=l.filter λx=>decide<|x≠k
def vH{a b:List Int}(c:a.Nodup)(d:b.Nodup)(h:∀k,k∈a↔k∈b):a.Perm b:=(List.perm_ext_iff_of_nodup c d).mpr h
def ur{l:List Int}(h:l.Pairwise (· < ·)):l.Nodup:=h.imp λq=>Int.ne_of_lt q
def L6{l:List Int}(h:l.Pairwise (· < ·)):l.Pairwise (·<=·):=h.imp λq=>Int.le_of_lt q
def PR{l:List Int}(h:l.Pairwise (·<=·))(n:l.Nodup):l.Pairwise (· < ·):=List.Pairwise.imp₂ (λa b (q:a<=b) (n:a≠b)=>by lia) h n
def ya{k:Int}:k∈Ak l↔k∈l:=(vR l).mem_iff
def DP{a:List Int}(n:a.Nodup)(h:∀k,k∈a↔k∈l)(r:l.Pairwise (· < ·)):Ak a=l:=zZ ((vR a).trans<|vH n (ur r) h) (A8 a)<|L6 r
set_option tactic.hygienic true in
def Bh{k x:Int}:x∈EK k l↔x=k\/x∈l:=by
 unfold EK;split
 ·rename_i h
  exact#[.inr,λz=>z.elim (λe=>by rw[e];exact h) id]
 ·rw[(zx k l).mem_iff,gO]
set_option tactic.hygienic true in
def CU{k:Int}{l:List Int}(r:l.Pairwise (· < ·)):(EK k l).Pairwise (· < ·):=by
 unfold EK;split
 ·exact r
 ·rename_i h
  exact PR (Gc k l<|L6 r)<|(zx k l).nodup_iff.mpr<|List.nodup_cons.mpr #[h,ur r]
def zA{k x:Int}:x∈J2 k l↔x∈l/\x≠k:=by unfold J2;rw[ik];simp
section
variable{D PO τ:Type}[Sls D][Sls PO][Ow τ]{α:Type}[Rep α]
def Tq(j:X.w=w)(l:Gl X "set")(m:X.mg "set"=none):EO X E T (.Call (.Name "set" p) [] [] pos) (λ(d:D)(e:SI w->D->Prop) _=>e #[[]] d):=by
 subst j;refine#[_,Jy Nq l m m8,λd F R v H e x Q s n r y=>#[rfl,λp c=>?_]];refine e0a3 (s.new (wC X.w p []) c) λf t g=>?_;have u:¬F p:=λz=>g<|s.sub p z;have i:Ext (λ_=>False) R H (λa=>R a\/a=p) (upd H p<|wC X.w p []):=⟨λb o _ h=>by rw[ui<|uu h c];exact h,λa h=>h.elim .inl λq=>.inr<|by rw[q];exact c⟩;refine r ⟨[]⟩ d _ (λa=>a=p) F (λa=>R a\/a=p) _ n #[t.keep,i.new,λa h=>h.elim (λq=>.inr<|by rw[q];exact c) .inl,λa h _=>.inl h] #[Sls.st s.rel i (λ_ z=>z.elim)<|λ_ _ z=>z,λa h=>.inl<|s.sub a h,λa h=>?_,f.tab,.inl s.ve,s.uS] #[#[p,[],rfl,λb=>Iff.rfl,ul,lP,λ_=>Iff.rfl,gS],λa h=>.inr h,λa h k=>u (by rw[<- h];exact k),λh=>g<|by rw[<- h];exact s.ve];rcases h with h|h
 ·exact f.wD a h
 ·rw[h,ul];simp
def tw_inS(i:Nat)(m:X.w=w)[Sls n][A:At i D (SI w) n](o:EW X E T a q)(r:PE X (.Name x p) (uT i))(t:iB .In (.Name x p)=false) :
  TW X E T (.Compare a [.In] [.Name x p] pos) (λ(d:D) g f=>q d (λk c=>g (decide<|k∈(A.get c).l) c) f):=by
 subst m;refine e1a2 o λY y z=>?_;refine#[_,w6 Wy y r t,λd F R B H g f Q s C G I=>z d F R B H _ f _ s C (λk c u J L M N O h P=>?_) I];obtain⟨v,Z,G2,S,h2,⟨b,j,rfl,g2,U,g4,W,g6⟩,_⟩:=A.take h.rel;refine#[_,S,k,b,j,P,rfl,U,_,rfl,?_];have e:decide (k∈j)=decide (k∈(A.get c).l):=by simp only[W]
 rw[e];exact G _ c J L M N O h
def CV{i:Nat}[Sls x][A:At i D (SI w) x][U:Pt i x (SI w) D](s:vw T F R H d y):∃a g,y[i]?=↑(some<|.ref a)/\H a=↑(wC w a g)/\g.Nodup/\(∀k,k∈g↔k∈(A.get d).l)/\(A.get d).l.Pairwise (· < ·) /\
  ∀(j f:List Int),f.Nodup->(∀k,k∈f↔k∈j)->j.Pairwise (· < ·)->Ch T F R H F R (upd H a<|wC w a f)/\vw T F R (upd H a<|wC w a f) (U.put (A.hole d) #[j]) y:=by
 obtain⟨v,W,X,B,m,⟨a,g,rfl,p,C,E,G,I⟩,J⟩:=A.take s.rel;have r:F a:=(m.all a).mpr<|.inl<|(p a).mpr rfl;have L:a≠T:=λz=>s.uS (by rw[<- z];exact r);refine#[a,g,B,C,E,G,I,λj f M N O=>?_];have P:=yR (F:=F) (R:=R) (H:=H) (a:=a) (o:=wC w a f);have Q:∀c,c=a->R c:=λc z=>by rw[z];exact s.sub a r
 have k:∀b u,b≠a->H b=↑u->upd H a (wC w a f) b=↑u:=λb u z e=>by rw[ui z];exact e
 refine#[#[λb o n _ e=>k b o (λz=>n<|by rw[z];exact r) e,λ_ h=>.inl h,λ_ h=>.inl h,λ_ h _=>h],Pt.same (A:=U) (Sls.st J P Q λc z q=>m.xy c ((p c).mpr q) z) B m #[a,f,rfl,p,ul,M,N,O],s.sub,λc z=>?_,?_,s.ve,s.uS]
 ·by_cases e:c=a
  ·rw[e,ul];simp
  ·rw[ui e];exact s.wD c z
 ·refine e1a2 s.tab λS e t=>?_;exact#[S,k _ _ (λz=>L z.symm) e,t]
set_option tactic.hygienic true in
def Tr(i:Nat)(W:X.w=w)[Sls B][A:At i D (SI w) B][U:Pt i B (SI w) D][J:Pj D PO n](h:EW X E T e Y)
 (Z:∀{t:TA},PA X [e] t->PS X (.Expr (.Call (.Attribute (.Name x p1) "add" p2) [e] [] p3) pos) (HL<|Wz X.w (λx vs H Q=>∃(a:ci)(g:List Int)(k:Int),x=.ref a/\vs=[.int k]/\H a=↑(wC X.w a g)/\g.length+1<=127/\∀b:List Int,b.Nodup->b.Perm (if k∈g then g else k::g)->Q .vU (upd H a<|wC X.w a b)) (uT i) t)) (hs:gf [e] X.env=(false,eval e X.env)::gf [] X.env:=by rfl) :
    S1 X E T ms n (.Expr (.Call (.Attribute (.Name x p1) "add" p2) [e] [] p3) pos) (λ(d:D)(I:D->Prop)(Kr:τ->PO->Prop) L=>Y d (λy f=>(A.get f).l.length<127/\I (U.put (A.hole f) #[EK y (A.get f).l])) λC f=>L C<|J.pj f):=by
  subst W
  refine e1a2 h λt h1 h2=>?_
  refine#[_,Z<|ut h1 uI hs,λd F R M H I Kr L En s hw kn kr ke=>?_]
  refine e2a4 (CV (i:=i) s) λa g j p g3 _=>?_
  refine#[_,j,#[a,g,rfl,p],h2 d F R M H _ _ _ s hw (λy f v N u O q c m r=>?_) λC y f N u O q c m=>?_]
  · obtain⟨a', b, P, k2, k3, o, S, k6⟩ := CV (i := i) m
    rw[j]at P
    cases P
    subst r
    have aa:b.length=(A.get f).l.length:=(vH k3 (ur S) o).length_eq
    refine#[a,b,y,rfl,rfl,k2,by have:=q.1;lia,λus nu pu=>?_]
    obtain⟨c2,s2⟩:=k6 (EK y (A.get f).l) us nu (λk=>by
      rw[pu.mem_iff,Bh]
      split
      · rename_i hy
        rw[o]
        exact#[.inr,λz=>z.elim (λe=>by rw[e];exact(o y).mp hy) id]
      · rw[gO, o]) (CU S)
    exact kn _ N u _ M q.2 (Ch.trans s m.tab c c2) s2<|Ag.refl _ _
  · refine e1a2 (vX (PO := PO) m) λG j p => ?_
    exact ke C y _ G u O q (c.less j) p
set_option tactic.hygienic true in
def Tt(i:Nat)(Y:X.w=w)[Sls B][A:At i D (SI w) B][U:Pt i B (SI w) D][J:Pj D PO n](h:EW X E T e Z)
 (hb:∀{t:TA},PA X [e] t->PS X (.Expr (.Call (.Attribute (.Name x p1) "discard" p2) [e] [] p3) pos) (HL<|Wz X.w (λx vs H Q=>∃(a:ci)(g:List Int)(k:Int),x=.ref a/\vs=[.int k]/\H a=↑(wC X.w a g)/\∀b:List Int,b.Nodup->(if k∈g then g.Perm (k::b) else b=g)->Q .vU (upd H a<|wC X.w a b)) (uT i) t)) (hs:gf [e] X.env=(false,eval e X.env)::gf [] X.env:=by rfl) :
    S1 X E T ms n (.Expr (.Call (.Attribute (.Name x p1) "discard" p2) [e] [] p3) pos) (λ(d:D)(I:D->Prop)(Kr:τ->PO->Prop) L=>Z d (λy f=>I<|U.put (A.hole f) ⟨J2 y (A.get f).l⟩) λC f=>L C<|J.pj f):=by
  subst Y
  refine e1a2 h λt h1 h2=>?_
  refine#[_,hb<|ut h1 uI hs,λd F R M H I Kr L En s hw kn kr ke=>?_]
  refine e2a4 (CV (i:=i) s) λa g j p g3 _=>?_
  refine#[_,j,#[a,g,rfl,p],h2 d F R M H _ _ _ s hw (λy f v N u O q c m r=>?_) λC y f N u O q c m=>?_]
  · obtain⟨a', b, P, k2, k3, k4, k5, k6⟩ := CV (i := i) m
    rw[j]at P
    cases P
    subst r
    refine#[a,b,y,rfl,rfl,k2,λS nu o=>?_]
    obtain⟨c2,s2⟩:=k6 (J2 y (A.get f).l) S nu (λk=>by
      rw[zA,<- k4]
      split at o
      · rename_i W
        have nk:y∉S:=(List.nodup_cons.mp<|o.nodup_iff.mp k3).1
        rw[o.mem_iff,gO]
        exact#[λz=>#[.inr z,λe=>nk<|by rw[<- e];exact z],λz=>z.1.elim (λe=>gA e z.2) id]
      · rename_i W
        rw[o]
        exact#[λz=>#[z,λe=>W (by rw[<- e];exact z)],λz=>z.1]) (gU _ k5)
    exact kn _ N u _ M q (Ch.trans s m.tab c c2) s2<|Ag.refl _ _
  · refine e1a2 (vX (PO := PO) m) λG j p => ?_
    exact ke C y _ G u O q (c.less j) p
def J3(i:Nat)(j:X.w=w)[Sls k][A:At i D (SI w) k](m:X.calm=true)(n:Gl X "sorted")(o:X.mg "sorted"=none)(q:PE X (.Name x r) (uT i)) :
  EO X E T (.Call (.Name "sorted" p) [.Name x r] [] pos) (λ(d:D)(b:OL Int->D->Prop) _=>(A.get d).l.length<64/\b #[(A.get d).l] d):=by
 subst j;refine#[_,wj (A4 m) n o jH<|ut q uI,λd F R N H b O Q s c t P=>?_];obtain⟨v,S,U,u,W,⟨a,e,rfl,Y,y,f,g,h⟩,Z⟩:=A.take s.rel;have z:e.length=(A.get d).l.length:=(vH f (ur h) g).length_eq;refine#[_,u,a,e,rfl,y,by have:=c.1;omega,λl ns B C G=>?_];rw[DE C G,DP f g h];refine e1a3 (wR s B<|xj (R:=R) (H:=H) (A.get d).l) λI J L M=>?_;exact t _ d _ _ F I _ c.2 J L M
def Gj{K:ga}{xs:List α}{vs:List V}:XZ (Itt K a) xs (λR H=>H a=↑(.tup vs)/\Paired (rp R H) xs vs) where
 go:=λ{R H i} p h=>by refine e1a2 (wl (i:=i) (x:=xs[i]) p.2<|by simp[h]) λv e _=>?_;exact#[vs,v,yD.of p.1,e]
 HA:=λ{R H i v H'} p _ hi y=>by obtain⟨e,y⟩:=y;subst e;have y':=y vs<|yD.of p.1;refine e1a2 (wl (i:=i) (x:=xs[i]) p.2<|by simp[hi]) λu e r=>?_;rw[y']at e;cases e;exact#[.inl rfl,_,by simp[hi],r]
 stop:=λ{R H} p=>#[vs,yD.of p.1,by rw[Paired.length p.2];exact gg _]
def PU{w:Wf D (Tp α) D}(h:EW X E T e w):IW X E T is tg e (λ(b:D)(_:List α)=>b) (λ(d:D) Kn Ke=>w d (λx d'=>Kn x.l d') Ke):=by refine e1a2 h λt h1 h2=>?_;refine#[_,V0 h1,λd F R σ H Kn Ke Rk s hw kn ke=>h2 d F R σ H _ _ _ s hw (λxs d' v F' R' H' q c s' r=>?_) ke];obtain⟨a,vs,rfl,r1,r2,r3⟩:=r;refine#[a,rfl,#[vs,yD.of r2],kn xs.l d' _ (λR H=>(H a=↑(.tup vs)/\Paired (rp R H) xs.l vs)/\¬R a) F' (λ_=>False) F' R' H' q c s'.Gb (two_nil F') s'.rel #[λp=>Gj.go p.1,λp=>Gj.HA p.1,λp=>Gj.stop p.1] #[#[r2,r3],r1] (λp gs nf ex=>?_) λb' G2 Vp Jd Pp σ' p h g t=>Sls.fq h<|two_eq t λ_ z=>z];have na:¬_:=λz=>p.2<|gs a z;exact#[#[ex.keep a _ na p.1.1,vC (ex.wide gs) p.1.2],ex.not p.2 p.1.1]
def DQ{a:gV}[Sls c][J:Pj D PO n](e:PS X a (Pg C E<|Ci (tC x) CF)):S1 X E T j n a (λ(d:D)(_:c->Prop)(_:τ->PO->Prop) b=>b C<|J.pj d):=by refine⟨_,e,λd F R k H l m b o s f p q g=>#[(by show 1<=gh;decide),λy=>?_]⟩;refine e1a2 (vX (PO:=PO) s) λG h i=>?_;exact g C y _ G R H f ((Ch.refl _ _ _ _).less h) i
end
def vE(l:List Int):Prop:=l.Pairwise (· < ·)
noncomputable def asc(a:List Int):Bool:=yO a<|a.drop 1
def Zb(b:List c):EH b ↑1 none=b.drop 1:=by
 unfold EH;rw[HT.HV,show ↑(1:Int)=some ((1:Nat):Int) from rfl,HT.LH]
 cases b with
 |nil=>rfl
 |cons a r =>
  rw[show min 1 (a::r).length=1 by simp,iQ];rw[l8];exact gg _
def PV{a b:Int}:asc (a::b::r)=(decide (a<b)&&asc (b::r)):=rfl
def wH:∀(c:List Int),asc c=true↔vE c
 | []=>#[λ_=>gS,λ_=>rfl]
 | [a]=>#[λ_=>jh _ _,λ_=>rfl]
 |a::b::r=>by
  rw[PV,hR,hX,wH (b::r)];constructor
  ·rintro⟨d,f⟩;refine List.pairwise_cons.mpr #[λx g=>?_,f];rcases List.mem_cons.mp g with e|e
   ·rw[e];exact d
   ·exact Int.lt_trans d<|(List.pairwise_cons.mp f).1 x e
  ·intro h;exact#[(List.pairwise_cons.mp h).1 b gk,(List.pairwise_cons.mp h).2]
def CW(a:vE b)(c:vE d)(h:∀k,k∈b↔k∈d):b=d:=zZ (vH (ur a) (ur c) h) (L6 a)<|L6 c
noncomputable def J4(l:List Int)(k:Int):List Int:=if k∈l then J2 k l else EK k l
def L7{k:Int}(h:vE l):vE (J4 l k):=by
 unfold J4;split
 ·exact gU _ h
 ·exact CU h
set_option tactic.hygienic true in
def Tu{k x:Int}:x∈J4 l k↔((x∈l)↔¬x=k):=by
 unfold J4;split
 ·rename_i h
  rw[zA];constructor
  ·intro⟨a,b⟩;exact#[λ_=>b,λ_=>a]
  ·intro z;by_cases e:x=k
   ·rw[e]at z;exact gA (z.mp h) q0o
   ·exact#[z.mpr e,e]
 ·rename_i h
  rw[Bh];constructor
  ·rintro(a|a)
   ·subst a;exact#[λz=>gA z h,λz=>gA rfl z]
   ·exact#[λ_ e=>h (by rw[<- e];exact a),λ_=>a]
  ·intro z;by_cases e:x=k
   ·exact .inl e
   ·exact .inr<|z.mpr e
noncomputable def xr(l r:List Int):List Int:=r.foldl J4 l
def uX:∀{r l:List Int},vE l->vE (xr l r)
 | [],_,h=>h
 |_::r,_,h=>uX (r:=r)<|L7 h
def yi:∀{r l:List Int} {x:Int},r.Nodup->(x∈xr l r↔((x∈l)↔¬x∈r))
 | [],l,x,_=>by simp[xr]
 |k::r,l,x,h=>by
  have a:=List.nodup_cons.mp h;show x∈xr (J4 l k) r↔_;rw[yi a.2,Tu,gO];by_cases e:x=k
  ·subst e;simp[a.1]
  ·simp[e]
def AJ{r:List Int}{x:Int}(a:r.Nodup)(h:x∈xr l r):x∈l\/x∈r:=by
 rw[yi a]at h;by_cases q:x∈r
 ·exact .inr q
 ·exact .inl<|h.mpr q
noncomputable def Oa(a:List (List Int)):List Int:=a.foldl xr []
def Bi:∀{rows:List (List Int)} {l:List Int},vE l->vE (rows.foldl xr l)
 | [],_,h=>h
 |_::r,_,h=>Bi (rows:=r)<|uX h
def Tv(a:List (List Int)):vE (Oa a):=Bi gS
def vK{l U:List Int}(h:vE l)(s:∀x∈l,x∈U):l.length<=U.length:=SX.yu _ _ (ur h) s
noncomputable def jn(a b:List Int):List Int:=Ak<|a.filter (λk=>!decide (k∈b))++b.filter λk=>!decide (k∈a)
def Gk{k:Int}:k∈jn a b↔(k∈a/\k∉b)\/(k∈b/\k∉a):=by unfold jn;rw[ya,ko,ik,ik];simp
def Gm(c:vE d)(f:vE g):vE (jn d g):=by refine PR (A8 _)<|(vR _).nodup_iff.mpr<|List.nodup_append.mpr ⟨gU _<|ur c,gU _<|ur f,λa h b i e=>?_⟩;subst e;have j:=(List.mem_filter.mp h).1;have k:=(List.mem_filter.mp i).2;simp[j]at k
def PX(e:vE c)(f:vE d):jn c d=xr c d:=CW (Gm e f) (uX e) λk=>by rw[Gk,yi<|ur f];by_cases a:k∈c<;>by_cases b:k∈d<;>simp[a,b]
def vp:∀{a:List k} {K:List g->S->Prop},(∀x∈a,∀K:Option g->S->Prop,K (f x) s->b x s K)->K (a.filterMap f) s->Bf b a s K:=by
 intro i
 induction i with
 |nil=>intro _ _ h;exact h
 |cons x a c =>
  intro K d h;refine d x gk _<|c (λy j=>d y<|gl _ j) ?_
  have e:(x::a).filterMap f=(f x).toList++a.filterMap f:=by rw[jW];cases f x<;>rfl
  rw[e]at h;exact h
def filterMap_filter(p:b->Bool):∀a:List b,a.filterMap (λx=>if p x=true then some x else none)=a.filter p
 | []=>rfl
 |x::a=>by rw[jW,iT,filterMap_filter p a];cases p x<;>rfl
def vm(I:List j->B->Prop):∀(a:List j) {s:B},I a s->(∀x r s,(∃p,a=p++x::r)->I (x::r) s->∀K:B->Prop,(∀c,I r c->K c)->b x s K k l)->(∀s,I [] s->m s)->Gh b a s m k l:=by
 intro d
 induction d with
 |nil=>intro s h _ f;exact f s h
 |cons x a g=>intro s h i f;exact i x a s #[[],rfl] h _ λc n=>g n (λy r o d=>e1a1 d λp e q=>i y r o #[x::p,by rw[e];rfl] q) f
def vj{n:Nat}(h:n<=1000):n<=gh:=kU<|Nb h
structure Bd(C:ci)(fl:Bool) where
 rk:List (Int×Int)
 bd:List (Int×List Int)
 up:Int
 ht:List (Int×Int)
 th:List (Int×Int)
noncomputable def lk{a:Type}(l:List (Int×a))(k:Int):Option a:=(l.find? λe=>decide<|e.1=k).map (·.2)
noncomputable def AN(l:List (Int×Int)):List (Key×V):=l.map λe=>(gQ e.1,V.int e.2)
def Bj(R:Rg)(H:Hp):List (Int×List Int)->List (Key×V)->Prop:=Paired λe u=>u.1=gQ e.1/\rp R H (Tp.mk e.2) u.2
noncomputable def xP(a b c d:ci)(e:Int)(f:Bool):List (Str×V):=("ranks",.ref a)::("borders",.ref b)::("upcoming",.int e)::(if f=true then [("head_by_tail",.ref c),("tail_by_head",.ref d)] else [])
noncomputable def adr(p dx d1 d2 d3 d4:ci)(fl:Bool):List ci:=p::dx::d1::d2::(if fl=true then [d3,d4] else [])
structure DR(C:ci)(fl:Bool)(R:Rg)(H:Hp)(x:Bd C fl)(p dx d1 d2 d3 d4:ci)(us:List (Key×V)):Prop where
 nd:(adr p dx d1 d2 d3 d4 fl).Nodup
 ob:H p=↑(.ins C dx<|xP d1 d2 d3 d4 x.up fl)
 ow:H dx=↑(.own p)
 rk:H d1=↑(.dK<|AN x.rk)
 bd:H d2=↑(.dK us)
 tu:Bj R H x.bd us
 ht:fl=true->H d3=↑(.dK<|AN x.ht)
 th:fl=true->H d4=↑(.dK<|AN x.th)
def CY{R R':Rg}{H H':Hp}(e:Ext R R H R' H'):∀{l:List (Int×List Int)} {us:List (Key×V)},Bj R H l us->Bj R' H' l us:=by
 intro _ _ z
 induction z with
 |nil=>exact .nil
 |cons h t ih=>exact .cons #[h.1,Rep.st h.2 e] ih
def DR.st{C:ci}{fl:Bool}{G R R':Rg}{H H':Hp}{x:Bd C fl}{p dx d1 d2 d3 d4:ci}{us:List (Key×V)}(b:DR C fl R H x p dx d1 d2 d3 d4 us)(e:Ext G R H R' H')(s:∀a,G a->R a)(n:∀a,a∈adr p dx d1 d2 d3 d4 fl->¬G a):DR C fl R' H' x p dx d1 d2 d3 d4 us :=
 #[b.nd,e.keep _ _ (n _<|by simp[adr]) b.ob,e.keep _ _ (n _<|by simp[adr]) b.ow,e.keep _ _ (n _<|by simp[adr]) b.rk,e.keep _ _ (n _<|by simp[adr]) b.bd,CY (e.wide s) b.tu,λh=>e.keep _ _ (n _<|by simp[adr,h])<|b.ht h,λh=>e.keep _ _ (n _<|by simp[adr,h])<|b.th h]
instance(C:ci)(fl:Bool):Ow (Bd C fl):=#[λF R H x v=>∃p dx d1 d2 d3 d4 us,v=↑(.ref p)/\(∀b,F b↔b∈adr p dx d1 d2 d3 d4 fl)/\DR C fl R H x p dx d1 d2 d3 d4 us,
 λh e s n=>by
  obtain⟨p,dx,d1,d2,d3,d4,us,h1,h2,h3⟩:=h
  exact#[p,dx,d1,d2,d3,d4,us,h1,h2,h3.st e s λa z=>n a<|(h2 a).mpr z],
 λh e=>by
  obtain⟨p,dx,d1,d2,d3,d4,us,h1,h2,h3⟩:=h
  exact#[p,dx,d1,d2,d3,d4,us,h1,λb=>(e b).symm.trans (h2 b),h3]]
instance(C:ci)(fl:Bool):Hs (Bd C fl):=#[λz9=>e7a2 z9 λ_ _ _ _ _ _ _ h _=>#[_,h]]
def Iq{R L:Rg}{H:Hp}(k:∀a,L a->∃b,H a=↑(.lst b)):∀{l:List (Int×List Int)} {b:List (Key×V)},Bj R H l b->Bj (λa=>R a\/L a) H l b
 |_,_,.nil=>.nil
 |_,_,.cons h t=>.cons #[h.1,JY.no h.2 k]<|Iq k t
instance(C:ci)(fl:Bool):Te (Bd C fl):=#[λ{F R L H x v} h k=>by
 obtain⟨p,dx,d1,d2,d3,d4,us,h1,h2,b⟩:=h
 exact#[p,dx,d1,d2,d3,d4,us,h1,h2,b.nd,b.ob,b.ow,b.rk,b.bd,Iq k b.tu,b.ht,b.th]]
structure Ab(K:ga)(C:ci):Prop where
 cl:Aj K C
 nR:vh K C "ranks"
 nB:vh K C "borders"
 nU:vh K C "upcoming"
structure Ob(K:ga)(C:ci):Prop where
 nH:vh K C "head_by_tail"
 nT:vh K C "tail_by_head"
def xF(k:Int):∀l:List (Int×Int),xD (AN l) (gQ k)=(lk l k).map V.int
 | []=>rfl
 |e::l=>by
  by_cases h:e.1=k
  ·show xD ((gQ e.1,V.int e.2)::AN l) _=_;rw[yq<|by rw[h]];unfold lk;rw[ij,decide_eq_true h];rfl
  ·show xD ((gQ e.1,V.int e.2)::AN l) _=_;rw[yr (by intro z;exact h<|mP z),xF k l];unfold lk;rw[ij,gH h]
def DS{R:Rg}{H:Hp}{k:Int}:∀{l:List (Int×List Int)} {us:List (Key×V)},Bj R H l us->(∀b,lk l k=↑b->∃v,xD us (gQ k)=↑v/\rp R H (Tp.mk b) v)/\(lk l k=none->xD us (gQ k)=none):=by
 intro z0 z1 z9
 induction z9 with
 |nil=>exact#[(λb h=>by cases h),λ_=>rfl]
 | @cons e u l us h t WV =>
  obtain⟨i1,i2⟩:=WV;by_cases q:e.1=k
  ·have e1:lk (e::l) k=↑e.2:=by unfold lk;rw[ij,decide_eq_true q];rfl
   rw[e1];refine#[λb hb=>?_,(λz=>by cases z)];cases hb;exact#[u.2,yq (by rw[h.1,q]),h.2]
  ·have e1:lk (e::l) k=lk l k:=by unfold lk;rw[ij,gH q]
   rw[e1,yr<|by rw[h.1];intro z;exact q<|mP z];exact#[i1,i2]
noncomputable def pk{a:Type}(l:List (Int×a))(k:Int)(v:a):List (Int×a):=if (lk l k).isSome then l.map (λe=>if e.1=k then (e.1,v) else e) else l++[(k,v)]
noncomputable def dk{a:Type}(l:List (Int×a))(k:Int):List (Int×a):=l.filter λe=>decide<|e.1≠k
def Tw(l:List (Int×Int))(k v:Int):putK (AN l) (gQ k) (V.int v)=AN (pk l k v):=by
 unfold putK pk;rw[zr,xF,ic]
 cases (lk l k).isSome with
 |true =>
  rw[f9 rfl,f9 rfl];unfold AN;rw[jR,jR];refine mC λe _=>?_;show (if (gQ e.1:Key)=gQ k then _ else _)=(λe:Int×Int=>((gQ e.1:Key),V.int e.2)) (if e.1=k then (e.1,v) else e);by_cases h:e.1=k
  ·rw[f9 (by rw[h]),f9 h]
  ·rw[gc<|λz=>h<|mP z,gc h]
 |false =>
  rw[gc gw,gc gw];unfold AN;rw[jy];rfl
def Ir(l:List (Int×Int))(k:Int):zq (AN l) (gQ k)=AN (dk l k):=by
 unfold zq dk AN;rw[qu];congr 1;refine kF λe _=>?_;by_cases h:e.1=k
 ·simp[h]
 ·simp[h]
def Iu{R:Rg}{H:Hp}{k:Int}{b:List Int}{v:V}(h:rp R H (Tp.mk b) v):∀{l:List (Int×List Int)} {us:List (Key×V)},Bj R H l us->Bj R H (l++[(k,b)]) (us++[(gQ k,v)])
 |_,_,.nil=>.cons #[rfl,h] .nil
 |_,_,.cons q t=>.cons q<|Iu h t
def PY{R:Rg}{H:Hp}{l:List (Int×List Int)}{us:List (Key×V)}{k:Int}{b:List Int}{v:V}(t:Bj R H l us)(hn:lk l k=none)(h:rp R H (Tp.mk b) v):Bj R H (pk l k b) (putK us (gQ k) v):=by unfold pk;rw[hn,OJ _<|(DS t).2 hn];exact Iu h t
def Nv{R:Rg}{H:Hp}{k:Int}:∀{l:List (Int×List Int)} {us:List (Key×V)},Bj R H l us->Bj R H (dk l k) (zq us<|gQ k):=by
 intro z0 z1 z9
 induction z9 with
 |nil=>exact .nil
 | @cons e u l us h t WV =>
  have ih:=WV;unfold dk zq at ih ⊢;rw[iT,iT];by_cases q:e.1=k
  ·rw[gc (by simpa using q),gc<|by rw[h.1];simpa using q];exact ih
  ·rw[f9 (by simpa using q),f9<|by rw[h.1];simpa using q];exact .cons h ih
inductive ID where
 | rk|ht|th
noncomputable abbrev ID.nm:ID->Str
 | .rk=>"ranks" | .ht=>"head_by_tail" | .th=>"tail_by_head"
noncomputable abbrev ID.get{C:ci}{a:Bool}:ID->Bd C a->List (Int×Int)
 | .rk,x=>x.rk|.ht,x=>x.ht|.th,x=>x.th
noncomputable abbrev ID.set{C:ci}{a:Bool}:ID->Bd C a->List (Int×Int)->Bd C a
 | .rk,x,l=>{ x with rk:=l}|.ht,x,l=>{ x with ht:=l}|.th,x,l=>{ x with th:=l}
def ID.ok:ID->Bool->Prop
 | .rk,_=>True|.ht,fl=>fl=true|.th,fl=>fl=true
def nd4(h:(a::b::c::d::r).Nodup):(a≠b/\a≠c/\a≠d/\∀x∈r,a≠x)/\(b≠c/\b≠d/\∀x∈r,b≠x)/\(c≠d/\∀x∈r,c≠x)/\(∀x∈r,d≠x)/\r.Nodup:=by have g:=List.nodup_cons.mp h;have i:=List.nodup_cons.mp g.2;have j:=List.nodup_cons.mp i.2;have k:=List.nodup_cons.mp j.2;simp only[gO,oZ]at g i j;exact#[#[g.1.1,g.1.2.1,g.1.2.2.1,λx f e=>g.1.2.2.2<|by rw[e];exact f],⟨i.1.1,i.1.2.1,λx f e=>i.1.2.2<|by rw[e];exact f⟩,⟨j.1.1,λx f e=>j.1.2<|by rw[e];exact f⟩,λx f e=>k.1 (by rw[e];exact f),k.2]
def zB(b:DR C k R H x p s l m g i t)(q:ID)(u:q.ok k):∃d,(xP l m g i x.up k).lookup q.nm=↑(.ref d)/\H d=↑(.dK<|AN<|q.get x)/\d∈adr p s l m g i k /\
  ∀j,R d->DR C k R (upd H d<|.dK<|AN j) (q.set x j) p s l m g i t:=by
 have f:=nd4 b.nd;have n:∀d j,R d->Bj R (upd H d<|.dK<|AN j) x.bd t:=λd j h=>CY ((yR (F:=R) (R:=R) (H:=H) (a:=d) (o:=.dK<|AN j)).wide λc z=>by rw[z];exact h) b.tu
 cases q with
 |rk =>
  refine#[l,rfl,b.rk,by simp[adr],λj h=>#[b.nd,by rw[ui f.1.2.1];exact b.ob,by rw[ui f.2.1.1];exact b.ow,ul,by rw[ui f.2.2.1.1.symm];exact b.bd,n _ _ h,λz=>?_,λz=>?_]]
  ·rw[ui (f.2.2.1.2 g<|by rw[f9 z];simp).symm];exact b.ht z
  ·rw[ui (f.2.2.1.2 i<|by rw[f9 z];simp).symm];exact b.th z
 |ht =>
  have z:k=true:=u;subst z;have r:=List.nodup_cons.mp f.2.2.2.2;refine#[g,rfl,b.ht rfl,by simp[adr],λj h=>#[b.nd,by rw[ui<|f.1.2.2.2 g q0o];exact b.ob,by rw[ui<|f.2.1.2.2 g q0o];exact b.ow,by rw[ui<|f.2.2.1.2 g q0o];exact b.rk,by rw[ui<|f.2.2.2.1 g q0o];exact b.bd,n _ _ h,λ_=>ul,λ_=>?_]];rw[ui<|λe=>r.1<|by rw[<- e];simp];exact b.th rfl
 |th =>
  have z:k=true:=u;subst z;have r:=List.nodup_cons.mp f.2.2.2.2;refine#[i,rfl,b.th rfl,by simp[adr],λj h=>#[b.nd,by rw[ui<|f.1.2.2.2 i q0o];exact b.ob,by rw[ui<|f.2.1.2.2 i q0o];exact b.ow,by rw[ui<|f.2.2.1.2 i q0o];exact b.rk,by rw[ui<|f.2.2.2.1 i q0o];exact b.bd,n _ _ h,λ_=>?_,λ_=>ul]];rw[ui<|λe=>r.1<|by rw[e];simp];exact b.ht rfl
section
variable{D PO τ:Type}[Sls D][Sls PO][Ow τ]
def vO{i:Nat}[Sls J][A:At i D (Bd C r) J](s:vw T F R H d L):∃p f g j l m B,L[i]?=↑(some<|.ref p)/\DR C r R H (A.get d) p f g j l m B/\(∀a∈adr p f g j l m r,R a) /\
  ∀{U:Pt i J (Bd C r) D} {a:ci} {o:HO} {E:Bd C r} {w:List (Key×V)},a∈adr p f g j l m r->DR C r R (upd H a o) E p f g j l m w->Ch T F R H F R (upd H a o)/\vw T F R (upd H a o) (U.put (A.hole d) E) L:=by
 obtain⟨v,X,Y,M,G,⟨p,f,g,j,l,m,B,rfl,I,N⟩,O⟩:=A.take s.rel;have x:∀a∈adr p f g j l m r,F a:=λa h=>(G.all a).mpr<|.inl<|(I a).mpr h;refine⟨p,f,g,j,l,m,B,M,N,λa h=>s.sub a<|x a h,λ{U a o E w} y P=>?_⟩;have Q:=yR (F:=F) (R:=R) (H:=H) (a:=a) (o:=o);have S:∀c,c=a->R c:=λc z=>by rw[z];exact s.sub a<|x a y
 have k:∀b u,b≠a->H b=↑u->upd H a o b=↑u:=λb u z e=>by rw[ui z];exact e
 refine#[#[λb o n _ e=>k b o (λz=>n<|by rw[z];exact x a y) e,λ_ h=>.inl h,λ_ h=>.inl h,λ_ h _=>h],Pt.same (A:=U) (Sls.st O Q S λc z q=>G.xy c ((I c).mpr<|by rw[q];exact y) z) M G ⟨p,f,g,j,l,m,w,rfl,I,P⟩,s.sub,λc z=>?_,?_,s.ve,s.uS]
 ·by_cases e:c=a
  ·rw[e,ul];simp
  ·rw[ui e];exact s.wD c z
 ·refine e1a2 s.tab λW e t=>?_;exact#[W,k _ _ (λz=>s.uS<|by rw[z];exact x a y) e,t]
def PZ(q:ID)(b:Bool)(i:Nat)[Sls U][A:At i D (Bd C W) U](Y:q.ok W)(Z:Aj X.K C)(nf:vh X.K C q.nm)(G:X.A.units+1<jS)(hk:EW X E T a wk)(I:PE X (.Name x l) (uT i))(J:hJ (.Name x l) q.nm X.env (eval (.Name x l) X.env)=eval (.Name x l) X.env:=by rfl)
 (L:iB (if b then .NotIn else .In) (.Attribute (.Name x l) q.nm p2)=false:=by with_unfolding_all rfl):EW X E T (.Compare a [if b then .NotIn else .In] [.Attribute (.Name x l) q.nm p2] pos) (λ(d:D)(r:Bool->D->Prop) m=>wk d (λk c=>r (if b then !(lk (q.get<|A.get c) k).isSome else (lk (q.get<|A.get c) k).isSome) c) m):=by
  refine e1a2 hk λta M N=>?_
  have O:∀{c:D} {h j:Rg} {e:Hp} {f:St} {k:Int} {Q:VK},vw T h j e c f->Q (.bl<|if b then !(lk (q.get<|A.get c) k).isSome else (lk (q.get<|A.get c) k).isSome) e->V7 X.K (uT i) q.nm f e λy P=>∃a o,y=.ref a/\xo P a (.int k) o/\Q (.bl<|if b then !o.isSome else o.isSome) P:=λ{c h j e f k Q} g n=>by
    obtain⟨p,dx,e1,e2,e3,e4,us,g1,S,_,_⟩:=vO (i:=i) g
    refine e1a4 (zB S q Y) λd l1 l2 _ _=>?_
    refine#[_,g1,p,C,dx,_,_,rfl,S.ob,Z,nf,l1,d,_,rfl,xo.k (k:=gQ k) l2,?_]
    rw[xF,ic]
    exact n
  cases b with
  |false=>exact#[_,Od (ON G M (wh I J)) L,λd F R f H r m Q s t n v=>N d F R f H _ m _ s t (λk c u h j e w z g B=>by
      subst B
      exact O g (n _ c _ h j e w z g rfl)) v]
  |true=>exact#[_,Od (BK G M (wh I J)) L,λd F R f H r m Q s t n v=>N d F R f H _ m _ s t (λk c u h j e w z g B=>by
      subst B
      exact O g (n _ c _ h j e w z g rfl)) v]
def tw_dIn(q:ID)(b:Bool)(i:Nat)[Sls W][A:At i D (Bd C Y) W](Z:q.ok Y)(cl:Aj X.K C)(nf:vh X.K C q.nm)(I:X.A.units+1<jS)(hk:EW X E T a wk)(J:PE X (.Name x m) (uT i))(L:hJ (.Name x m) q.nm X.env (eval (.Name x m) X.env)=eval (.Name x m) X.env:=by rfl)
 (M:iB (if b then .NotIn else .In) (.Attribute (.Name x m) q.nm p2)=false:=by with_unfolding_all rfl):TW X E T (.Compare a [if b then .NotIn else .In] [.Attribute (.Name x m) q.nm p2] pos) (λ(d:D)(t:Bool->D->Prop) n=>wk d (λk e=>t (if b then !(lk (q.get<|A.get e) k).isSome else (lk (q.get<|A.get e) k).isSome) e) n):=by
  refine e1a2 hk λta N O=>?_
  have P:∀{e:D} {j l:Rg} {f:Hp} {g:St} {k:Int} {Q:VK},vw T j l f e g->Q (.bl<|if b then !(lk (q.get<|A.get e) k).isSome else (lk (q.get<|A.get e) k).isSome) f->V7 X.K (uT i) q.nm g f λy S=>∃a o,y=.ref a/\xo S a (.int k) o/\Q (.bl<|if b then !o.isSome else o.isSome) S:=λ{e j l f g k Q} h r=>by
    obtain⟨p,dx,e1,e2,e3,e4,us,g1,U,_,_⟩:=vO (i:=i) h
    refine e1a4 (zB U q Z) λd l1 l2 _ _=>?_
    refine#[_,g1,p,C,dx,_,_,rfl,U.ob,cl,nf,l1,d,_,rfl,xo.k (k:=gQ k) l2,?_]
    rw[xF,ic]
    exact r
  cases b with
  |false=>exact#[_,Jj (ON I N (wh J L)) M,λd F R g H t n Q s v r w=>O d F R g H _ n _ s v (λk e u j l f z B h G=>by
      subst G
      exact P (Q:=λy H=>∃c,y=.bl c/\Q c H) h #[_,rfl,r _ e j l f z B h]) w]
  |true=>exact#[_,Jj (BK I N (wh J L)) M,λd F R g H t n Q s v r w=>O d F R g H _ n _ s v (λk e u j l f z B h G=>by
      subst G
      exact P (Q:=λy H=>∃c,y=.bl c/\Q c H) h #[_,rfl,r _ e j l f z B h]) w]
def EV(X:Cx)(T:ci)(e:hZ){D α:Type}[Sls D][Rep α](f:D->α):Prop :=
 ∃t,PE X e t/\∀(d:D)(F R:Rg)(σ:St)(H:Hp)(Q:VK),vw T F R H d σ->(∀v,rp R H (f d) v->Q v H)->t σ H Q
def vI[Rep a][Sls b](i:Nat)[A:At i D a b](c:PE X (.Name y pos) (uT i)):EV X T (.Name y pos) (λ(d:D)=>A.get d):=by refine#[_,c,λd F R h H Q s e=>?_];obtain⟨v,j,k,f,l,⟨_,u,rfl,g⟩,_⟩:=A.take s.rel;exact#[u,f,e u g]
def P0{m:Int}{k:Nat}:EV X T (.Constant (.int m) k pos) (λ(_:D)=>m):=#[_,uK,λd F R b H Q s a=>a _ rfl]
def Gn(q:ID)(i:Nat)[Sls h][A:At i D (Bd C j) h](l:q.ok j)(m:Aj X.K C)(n:vh X.K C q.nm)(o:X.A.units+1<jS)(t:PE X (.Name x b) (uT i))(u:EV X T a f)(w:hJ (.Name x b) q.nm X.env (eval (.Name x b) X.env)=eval (.Name x b) X.env:=by rfl)(B:OK a:=by intro _ _;rfl) :
  EW X E T (.Subscript (.Attribute (.Name x b) q.nm Y) a pos) (λ(d:D)(c:Int->D->Prop) _=>∃v,lk (q.get<|A.get d) (f d)=↑v/\c v d):=by
 refine e1a2 u λZ G I=>?_;refine#[_,FR o (wh t w) G B,λd F R J H c Ke Q s L M ke=>?_];obtain⟨p,N,e1,e2,e3,e4,us,O,e,_,_⟩:=vO (i:=i) s;refine e1a4 (zB e q l) λy P S _ _=>?_;refine#[_,O,p,C,N,_,_,rfl,e.ob,m,n,P,I d F R J H _ s λv r=>?_];subst r;refine e1a2 L λz U W=>?_;have g:=xo.k (k:=gQ<|f d) S;rw[xF,U]at g;exact#[y,_,rfl,g,M z d _ F R H W (Ch.refl _ _ _ _) s rfl]
def Ac(i:Nat)[Sls h][A:At i D (Bd C U) h](j:Aj X.K C)(l:vh X.K C "borders")(m:X.A.units+1<jS)(n:PE X (.Name x b) (uT i))(o:EV X T a f)(q:hJ (.Name x b) "borders" X.env (eval (.Name x b) X.env)=eval (.Name x b) X.env:=by rfl)(t:OK a:=by intro _ _;rfl) :
  EW X E T (.Subscript (.Attribute (.Name x b) "borders" W) a pos) (λ(d:D)(e:Tp Int->D->Prop) _=>∃v,lk (A.get d).bd (f d)=↑v/\e #[v] d):=by
 refine e1a2 o λY u y=>?_;refine#[_,FR m (wh n q) u t,λd F R B H e Z Q s G I ke=>?_];obtain⟨p,J,e1,L,e3,e4,us,M,c,_,_⟩:=vO (i:=i) s;refine#[_,M,p,C,J,_,_,rfl,c.ob,j,l,rfl,y d F R B H _ s λv r=>?_];subst r;refine e1a2 G λz N O=>?_;refine e1a2 ((DS c.tu).1 z N) λw P S=>?_;have g:=xo.k (k:=gQ<|f d) c.bd;rw[P]at g;exact#[L,w,rfl,g,I #[z] d _ F R H O (Ch.refl _ _ _ _) s S]
def Tx(q:ID)(i:Nat)[Sls g][A:At i D (Bd C h) g](j:q.ok h)(k:Aj X.K C)(l:vh X.K C q.nm)(m:Gl X "len")(n:X.mg "len"=none)(o:PE X (.Name x a) (uT i))(r:hJ (.Name x a) q.nm X.env (eval (.Name x a) X.env)=eval (.Name x a) X.env:=by rfl)
 (b:gf [.Attribute (.Name x a) q.nm c] X.env=(false,eval (.Attribute (.Name x a) q.nm c) X.env)::gf [] X.env:=by rfl) :
    EW X E T (.Call (.Name "len" G) [.Attribute (.Name x a) q.nm c] [] pos) (λ(d:D)(e:Int->D->Prop) _=>e ((q.get<|A.get d).length:Int) d):=by
  refine#[_,wj Nc m n mO (ut (wh o r) uI b) (he:=b),λd F R I H e J Q s t u L=>?_]
  obtain⟨p,v,M,N,O,P,S,w,f,_,_⟩:=vO (i:=i) s
  refine e1a4 (zB f q j) λy z B _ _=>?_
  refine#[_,w,p,C,v,_,_,rfl,f.ob,k,l,z,y,_,rfl,B,u _ d _ F R H t (Ch.refl _ _ _ _) s ?_]
  show V.int _=V.int _
  unfold AN
  rw[gm]
def DT(q:ID)(i:Nat)[Sls h][A:At i D (Bd C j) h](k:q.ok j)(m:Aj X.K C)(n:vh X.K C q.nm)(o:X.calm=true)(r:Gl X "sorted")(t:X.mg "sorted"=none)(u:PE X (.Name x a) (uT i))(v:hJ (.Name x a) q.nm X.env (eval (.Name x a) X.env)=eval (.Name x a) X.env:=by rfl)
 (b:gf [.Attribute (.Name x a) q.nm c] X.env=(false,eval (.Attribute (.Name x a) q.nm c) X.env)::gf [] X.env:=by rfl) :
    EO X E T (.Call (.Name "sorted" U) [.Attribute (.Name x a) q.nm c] [] pos) (λ(d:D)(e:OL Int->D->Prop) _=>(q.get<|A.get d).length<64/\e #[Ak ((q.get<|A.get d).map (·.1))] d):=by
  refine#[_,wj (Ga o) r t jH (ut (wh u v) uI b) (he:=b),λd F R W H e Y Q s f w Z=>?_]
  obtain⟨p,z,e1,e2,e3,e4,us,B,g,_,_⟩:=vO (i:=i) s
  refine e1a4 (zB g q k) λy G I _ _=>?_
  refine#[_,B,p,C,z,_,_,rfl,g.ob,m,n,G,y,_,(q.get<|A.get d).map (·.1),rfl,I,?_,by rw[gm];exact f.1,λl ns J L M=>?_]
  · unfold AN
    rw[jR,jR]
    rfl
  · rw[DE L M]
    refine e1a3 (wR s J (xj (R:=R) (H:=H) (Ak ((q.get<|A.get d).map (·.1))))) λN O P S=>?_
    exact w _ d _ _ F N _ f.2 O P S
def Zc(i:Nat)[Sls c][A:At i D (Bd C o) c](e:Aj X.K C)(f:vh X.K C "upcoming")(g:PE X (.Name x a) (uT i))(h:hJ (.Name x a) "upcoming" X.env (eval (.Name x a) X.env)=eval (.Name x a) X.env:=by rfl) :
  EW X E T (.Attribute (.Name x a) "upcoming" pos) (λ(d:D)(b:Int->D->Prop) _=>b (A.get d).up d):=by
 refine#[_,wh g h,λd F R q H b r Q s j k t=>?_];obtain⟨p,l,u,v,w,y,z,m,n,_,_⟩:=vO (i:=i) s;exact#[_,m,p,C,l,_,_,rfl,n.ob,e,f,rfl,k _ d _ F R H j (Ch.refl _ _ _ _) s rfl]
def Go(q:ID)(i:Nat)[Sls o][A:At i D (Bd C t) o][U:Pt i o (Bd C t) D][J:Pj D PO n](P:q.ok t)(Q:Aj X.K C)(S:vh X.K C q.nm)(W:X.A.units+1<jS)(Y:PE X (.Name x g) (uT i))(Z:EV X T a f)(he:EW X E T e we)(hb:hJ (.Name x g) q.nm X.env (eval (.Name x g) X.env)=eval (.Name x g) X.env:=by rfl)
 (hs:js e (some<|.Subscript (.Attribute (.Name x g) q.nm p2) a p3) pos.line X.env=pure false:=by rfl) :
    S1 X E T ms n (.Assign [.Subscript (.Attribute (.Name x g) q.nm p2) a p3] e pos) (λ(d:D)(z:D->Prop)(Kr:τ->PO->Prop) B=>we d (λv b=>(q.get<|A.get b).length<gh/\z (U.put (A.hole b)<|q.set (A.get b)<|pk (q.get<|A.get b) (f b) v)) λC I=>B C<|J.pj I):=by
  refine e1a2 Z λta a1 a2=>?_
  refine e1a2 he λte b1 b2=>?_
  refine#[_,FS W (wh Y hb) a1 b1 hs,λd F R j H z Kr B En s hw kn kr ke=>b2 d F R j H _ _ _ s hw (λv b u L M H1 N c1 l r1=>?_) λC y I F' R' H' q c s'=>?_]
  · obtain⟨p, dx, e1, e2, e3, e4, us, m, h, g3, g4⟩ := vO (i := i) l
    refine e1a4 (zB h q P) λy l1 l2 O l4=>?_
    subst r1
    refine#[_,m,p,C,dx,_,_,rfl,h.ob,Q,S,l1,a2 b L M j H1 _ l λw r=>?_]
    subst r
    obtain⟨c2,s2⟩:=g4 (U:=U) O<|l4 (pk (q.get<|A.get b) (f b) v)<|g3 y O
    refine#[y,_,rfl,FQ.k (k:=gQ<|f b) l2 (by unfold AN;rw[gm];exact N.1),?_]
    rw[Tw]
    exact kn _ L M _ j N.2 (Ch.trans s l.tab c1 c2) s2<|Ag.refl _ _
  · refine e1a2 (vX (PO := PO) s') λG m h => ?_
    exact ke C y _ G R' H' q (c.less m) h
def DU(b:DR C i R H y p j k f g h n)(m:R f)(t:Bj R H l d):DR C i R (upd H f<|.dK d) { y with bd:=l} p j k f g h d:=by have e:=nd4 b.nd;exact⟨b.nd,by rw[ui e.1.2.2.1];exact b.ob,by rw[ui e.2.1.2.1];exact b.ow,by rw[ui e.2.2.1.1];exact b.rk,ul,CY ((yR (F:=R) (R:=R) (H:=H) (a:=f) (o:=.dK d)).wide λc z=>by rw[z];exact m) t,λz=>by rw[ui (e.2.2.2.1 g<|by rw[f9 z];simp).symm];exact b.ht z,λz=>by rw[ui (e.2.2.2.1 h<|by rw[f9 z];simp).symm];exact b.th z⟩
def Tz(i:Nat){o:Type}[Sls o][A:At i D (Bd C L) o][U:Pt i o (Bd C L) D][J:Pj D PO n]{f:D->Int}{M:Wf D (Tp Int) D}(Z:Aj X.K C)(nf:vh X.K C "borders")(hu:X.A.units+1<jS)(hn:PE X (.Name x j) (uT i))(hk:EV X T a f)(he:EW X E T e M)(hb:hJ (.Name x j) "borders" X.env (eval (.Name x j) X.env)=eval (.Name x j) X.env:=by rfl)
 (hs:js e (some<|.Subscript (.Attribute (.Name x j) "borders" p2) a p3) pos.line X.env=pure false:=by rfl) :
    S1 X E T ms n (.Assign [.Subscript (.Attribute (.Name x j) "borders" p2) a p3] e pos) (λ(d:D)(N:D->Prop)(Kr:τ->PO->Prop) O=>M d (λv g=>(A.get g).bd.length<gh/\lk (A.get g).bd (f g)=none/\N (U.put (A.hole g) { A.get g with bd:=pk (A.get g).bd (f g) v.l})) λC P=>O C<|J.pj P):=by
  refine e1a2 hk λta a1 a2=>?_
  refine e1a2 he λte b1 b2=>?_
  refine#[_,FS hu (wh hn hb) a1 b1 hs,λd F R t H N Kr O En s hw kn kr ke=>b2 d F R t H _ _ _ s hw (λv g u Q S H1 z c1 B r1=>?_) λC y P F' R' H' q c s'=>?_]
  · obtain⟨p, W, e1, m, e3, e4, us, I, h, g3, g4⟩ := vO (i := i) B
    have Y:m∈adr p W e1 m e3 e4 L:=by simp[adr]
    refine#[_,I,p,C,W,_,_,rfl,h.ob,Z,nf,rfl,a2 g Q S t H1 _ B λw r=>?_]
    subst r
    obtain⟨c2,s2⟩:=g4 (U:=U) Y<|DU h (g3 m Y)<|PY (b:=v.l) h.tu z.2.1 r1
    exact#[m,_,rfl,FQ.k (k:=gQ<|f g) h.bd (by rw[<- Paired.length h.tu];exact z.1),kn _ Q S _ t z.2.2 (Ch.trans s B.tab c1 c2) s2<|Ag.refl _ _]
  · refine e1a2 (vX (PO := PO) s') λG I h => ?_
    exact ke C y _ G R' H' q (c.less I) h
def Zd(i:Nat)[Sls w][A:At i D (Bd C f) w][U:Pt i w (Bd C f) D][J:Pj D PO n](S:Aj X.K C)(W:vh X.K C "upcoming")(Y:PE X (.Name x B) (uT i))(Z:EW X E T e we)(hs:js e (some<|.Attribute (.Name x B) "upcoming" p2) pos.line X.env=pure false:=by rfl) :
  S1 X E T ms n (.Assign [.Attribute (.Name x B) "upcoming" p2] e pos) (λ(d:D)(I:D->Prop)(Kr:τ->PO->Prop) L=>we d (λv j=>I<|U.put (A.hole j) { A.get j with up:=v}) λC M=>L C<|J.pj M):=by
 refine e1a2 Z λte b1 b2=>?_;refine#[_,BJ Y b1 hs,λd F R N H I Kr L En s hw kn kr ke=>b2 d F R N H _ _ _ s hw (λv j u F1 o O q1 c1 P r1=>?_) λC y M F' R' H' q c s'=>?_]
 ·obtain⟨p,r,k,l,g,h,us,t,b,g3,g4⟩:=vO (i:=i) P;subst r1;have Q:p∈adr p r k l g h f:=by simp[adr]
  have m:=nd4 b.nd;have eq:zm "upcoming" (V.int v) (xP k l g h (A.get j).up f)=xP k l g h v f:=rfl;have nb:DR C f o (upd O p<|.ins C r<|xP k l g h v f) { A.get j with up:=v} p r k l g h us:=⟨b.nd,ul,by rw[ui m.1.1.symm];exact b.ow,by rw[ui m.1.2.1.symm];exact b.rk,by rw[ui m.1.2.2.1.symm];exact b.bd,CY ((yR (F:=o) (R:=o) (H:=O) (a:=p)).wide λc z=>by rw[z];exact g3 p Q) b.tu,λz=>by rw[ui (m.1.2.2.2 g<|by rw[f9 z];simp).symm];exact b.ht z,λz=>by rw[ui (m.1.2.2.2 h<|by rw[f9 z];simp).symm];exact b.th z⟩;obtain⟨c2,s2⟩:=g4 (U:=U) Q nb;refine#[_,t,p,C,r,_,rfl,b.ob,S,W,?_,?_]
  ·unfold xP;split<;>(simp only[gK,mu];decide)
  ·rw[eq];exact kn _ F1 o _ N q1 (Ch.trans s P.tab c1 c2) s2<|Ag.refl _ _
 ·refine e1a2 (vX (PO:=PO) s') λG t b=>?_;exact ke C y _ G R' H' q (c.less t) b
def L8(q:ID)(i:Nat)[Sls c][A:At i D (Bd C e) c][U:Pt i c (Bd C e) D][J:Pj D PO n](u:q.ok e)(v:Aj X.K C)(z:vh X.K C q.nm)(B:PE X (.Name x b) (uT i))(G:EV X T a f)(I:∀{g h:TE},PE X (.Attribute (.Name x b) q.nm j) g->PE X a h->PS X (.Delete [.Subscript (.Attribute (.Name x b) q.nm j) a L] pos) (OM g h))(M:hJ (.Name x b) q.nm X.env (eval (.Name x b) X.env)=eval (.Name x b) X.env:=by rfl) :
  S1 X E T ms n (.Delete [.Subscript (.Attribute (.Name x b) q.nm j) a L] pos) (λ(d:D)(k:D->Prop)(N:τ->PO->Prop)(O:ci->PO->Prop)=>(lk (q.get<|A.get d)<|f d).isSome=true/\k (U.put (A.hole d)<|q.set (A.get d)<|dk (q.get<|A.get d)<|f d)):=by
 refine e1a2 G λta P Q=>?_;refine#[_,I (wh B M) P,λd F R l H k N O En s m S kr ke=>?_];obtain⟨p,W,e1,e2,e3,e4,us,Y,o,Z,g4⟩:=vO (i:=i) s;refine e1a4 (zB o q u) λy l1 l2 t l4=>?_;refine#[_,Y,p,C,W,_,_,rfl,o.ob,v,z,l1,Q d F R l H _ s λw r=>?_];subst r;obtain⟨c2,s2⟩:=g4 (U:=U) t<|l4 (dk (q.get<|A.get d)<|f d)<|Z y t;refine#[y,_,gQ<|f d,rfl,l2,rfl,by rw[xF,ic];exact m.1,?_];rw[Ir];exact S _ F R _ l m.2 c2 s2<|Ag.refl _ _
def TB(i:Nat)[Sls h][A:At i D (Bd C j) h][U:Pt i h (Bd C j) D][J:Pj D PO n](I:Aj X.K C)(L:vh X.K C "borders")(M:PE X (.Name x c) (uT i))(N:EV X T a f)(O:∀{l m:TE},PE X (.Attribute (.Name x c) "borders" o) l->PE X a m->PS X (.Delete [.Subscript (.Attribute (.Name x c) "borders" o) a P] pos) (OM l m))(Q:hJ (.Name x c) "borders" X.env (eval (.Name x c) X.env)=eval (.Name x c) X.env:=by rfl) :
  S1 X E T ms n (.Delete [.Subscript (.Attribute (.Name x c) "borders" o) a P] pos) (λ(d:D)(q:D->Prop)(S:τ->PO->Prop)(W:ci->PO->Prop)=>(lk (A.get d).bd<|f d).isSome=true/\q (U.put (A.hole d) { A.get d with bd:=dk (A.get d).bd (f d)})):=by
 refine e1a2 N λta Y Z=>?_;refine#[_,O (wh M Q) Y,λd F R t H q S W En s u kn kr ke=>?_];obtain⟨p,y,e1,g,e3,e4,us,g1,e,g3,g4⟩:=vO (i:=i) s;have B:g∈adr p y e1 g e3 e4 j:=by simp[adr]
 refine#[_,g1,p,C,y,_,_,rfl,e.ob,I,L,rfl,Z d F R t H _ s λw r=>?_];subst r;obtain⟨c2,s2⟩:=g4 (U:=U) B<|DU e (g3 g B)<|Nv (k:=f d) e.tu;refine#[g,us,gQ<|f d,rfl,e.bd,rfl,?_,kn _ F R _ t u.2 c2 s2<|Ag.refl _ _]
 cases z:lk (A.get d).bd (f d) with
 |none =>
  have G:=u.1;rw[z]at G;cases G
 |some b =>
  refine e1a2 ((DS e.tu).1 b z) λv v1 _=>?_;rw[v1];rfl
end
section
variable{D PO τ:Type}[Sls D][Sls PO][Ow τ]{α:Type}[Rep α]
def Iv(i:Nat){D1 P O B B1 S:Type}[Sls D1][Sls P][Sls O][Sls B][Sls B1][Sls S][Lb S τ<|Bd C J×O]{I:B->S->O->D}{wr:D->(P->B->S->Prop)->(ci->D->Prop)->Prop}
 {wf:Wf (Bd C J×P) τ (Bd C J×O)} [A0:At i D (Bd C J) D1] [A:At i B (Bd C J) B1] [U:Pt i B1 (Bd C J) B] (hl:∀a b c d u,(xP a b c d u J).lookup m=none)
 (b2:∀(d:D)(F R:Rg)(k:St)(H:Hp)(W:P->B->S->Prop)(M:ci->D->Prop)(Q:List V->Hp->Prop),vw T F R H d k->wr d W M ->
 (∀p b l vs us F1 X L w j e,W p b l->Ch T F R H w j e->Std T w j e->DI w F1 X L->rel F1 (Wo j L) e p (vs.map some)->rel X j e b k->rel L j e l us ->
 (∀b' l' G1 G2 G3 o f h G,rel G1 f h G (vs.map some)->rel G2 f h b' k->rel G3 f h l' us->DI o G1 G2 G3->rel o f h (I b' l' G) k)->Q vs e) ->
 (∀C y r w j e,M C r->Ch T F R H w j e->vw T w j e r k->E (.ref C) ↑y e)->tr k H Q)
 (d:D) (F R:Rg) (k:St) (H:Hp) (W:τ->D->Prop) (M:ci->D->Prop) (Q:VK) (s:vw T F R H d k) (hw:wr d (λp b l=>wf (A.get b,p) (λy G=>W y<|I (U.put (A.hole b) G.1) l G.2)<|λC G=>M C<|I (U.put (A.hole b) G.1) l G.2) M)
 (kn:∀x r v F1 X j e,W x r->Ch T F R H (λa=>F1 a\/X a) j e->vw T X j e r k->Nw T F1 X j e x v->Q v e)
 (ke:∀C y r w j e,M C r->Ch T F R H w j e->vw T w j e r k->E (.ref C) ↑y e):E4 C m (xW T wf) [] E (uT i) tr k H Q:=by
  obtain⟨v,_,_,hv,_,⟨a,dx,d1,d2,d3,d4,aa,rfl,_,g⟩,_⟩:=A0.take s.rel
  refine#[_,hv,a,dx,_,rfl,g.ob,hl _ _ _ _ _,b2 d F R k H _ M _ s hw (λp b l vs us G1 G2 L w j e q2 c2 s2 Y h1 h2 h3 km=>?_) ke]
  rw[jP]
  refine e3a4 (A.take h2) λv' M1 M2 z1 z2 z3 z4=>?_
  rw[hv]at z1
  cases z1
  have m1:∀a,M1 a->G2 a:=λa m=>(z2.all a).mpr<|.inl m
  have m2:∀a,M2 a->G2 a:=λa m=>(z2.all a).mpr<|.inr m
  refine DJ (F:=w) (F1:=λa=>M1 a\/G1 a) (F2:=M2) (L:=L) (mrg:=λ(b:B1)(l:S)(p:Bd C J×O)=>I (U.put b p.1) l p.2) (wf:=wf) (p:=(A.get b,p)) (b:=A.hole b) (l:=l) (us:=us) (σ:=k) (Kn:=W) (Ke:=M) s2 #[λa=>?_,λa m n=>?_,λa m n=>?_,λa m n=>Y.Jf a (m2 a m) n] #[some<|.ref a,vs.map some,M1,G1,rfl,⟨λ_=>Iff.rfl,λa m n=>Y.HB a n<|m1 a m⟩,Ow.wk z3<|BV j L e,h1] z4 h3 (λb' l' L1 L2 L3 o f h G h3 h4 h5 t=>?_) q2 (λx r v M1 M2 f h q' c' N n=>kn x r v M1 M2 f h q' (Ch.trans s s2.tab c2 c') N n) λC y r o f h q' c' N=>ke C y r o f h q' (Ch.trans s s2.tab c2 c') N
  · rw[Y.all, z2.all]
    exact#[λz=>z.elim (λq=>.inl<|.inr q) λz=>z.elim (λz=>z.elim (λq=>.inl<|.inl q) λq=>.inr<|.inl q) λq=>.inr<|.inr q,λz=>z.elim (λz=>z.elim (λq=>.inr<|.inl<|.inl q) .inl) λz=>z.elim (λq=>.inr<|.inl<|.inr q) λq=>.inr<|.inr q]
  · rcases m with m|m
    · exact z2.xy a m n
    · exact Y.HB a m<|m2 a n
  · rcases m with m|m
    · exact Y.Jf a (m1 a m) n
    · exact Y.Je a m n
  · refine e4a4 h3 λv' ab N1 N2 y1 Z y3 y4 => ?_
    injection y1 with y5 y6
    subst y5;subst y6
    have tt:CI (λa=>N1 a\/L2 a) N1 L2:=#[λ_=>Iff.rfl,λa m n=>t.HB a ((Z.all a).mpr<|.inl m) n]
    refine km _ l' N2 (λa=>N1 a\/L2 a) L3 o f h G.2 y4 (Pt.same (A:=U) h4 hv tt y3) h5 #[λa=>?_,λa m n=>?_,λa m n=>t.Je a ((Z.all a).mpr<|.inr m) n,λa m n=>?_]
    · rw[t.all, Z.all]
      exact#[λz=>z.elim (λz=>z.elim (λq=>.inr<|.inl<|.inl q) .inl) λz=>z.elim (λq=>.inr<|.inl<|.inr q) λq=>.inr<|.inr q,λz=>z.elim (λq=>.inl<|.inr q) λz=>z.elim (λz=>z.elim (λq=>.inl<|.inl q) λq=>.inr<|.inl q) λq=>.inr<|.inr q]
    · rcases n with n|n
      · exact Z.xy a n m
      · exact t.HB a ((Z.all a).mpr<|.inr m) n
    · rcases m with m|m
      · exact t.Je a ((Z.all a).mpr<|.inl m) n
      · exact t.Jf a m n
def P1{o:List hZ}(i:Nat){v P j B r q:Type}[Sls v][Sls P][Sls j][Sls B][Sls r][Sls q][Lb q τ<|Bd C g×j]{h:B->q->j->D}{z:D->(P->B->q->Prop)->(ci->D->Prop)->Prop}
 {s:Wf (Bd C g×P) τ (Bd C g×j)} [S:At i D (Bd C g) v] [A:At i B (Bd C g) r] [U:Pt i r (Bd C g) B] {k:Nat} {G:List Str}
 (F:uR X.prog X.w X.K X.mg X.base (vd X.prog X.w) k f J G (xW T s)) (W:vM k X.A) (Y:Aj X.K C) (Z:Meth X.K C m f) (hb:Binds X.K J G []) (hx:Passes (vd X.prog X.w) X E) (hn:PE X (.Name x H) (uT i))
 (L:∀a b c d u,(xP a b c d u g).lookup m=none)
 (M:∀{t:TA},PA X (e::o) t->PE X (.Call (.Attribute (.Name x H) m apos) (e::o) [] pos) (E4 C m (xW T s) [] E (uT i) t)) (N:JZ X E T (e::o) h z) :
    EO X E T (.Call (.Attribute (.Name x H) m apos) (e::o) [] pos) (λ(d:D)(O:τ->D->Prop) I=>z d (λp b l=>s (A.get b,p) (λy n=>O y<|h (U.put (A.hole b) n.1) l n.2)<|λC n=>I C<|h (U.put (A.hole b) n.1) l n.2) I):=by
  refine e1a2 N λtr Q R=>?_
  exact#[_,M Q,Iv i L R]
def P2(i:Nat){h:Type}[Sls h]
 {j:Wf (Bd C e×Unit) τ (Bd C e×Unit)} [A:At i D (Bd C e) h] [U:Pt i h (Bd C e) D] {k:Nat} {B:List Str}
 (F:uR X.prog X.w X.K X.mg X.base (vd X.prog X.w) k f N B (xW T j)) (hr:vM k X.A) (cl:Aj X.K C) (hm:Meth X.K C m f) (hb:Binds X.K N B []) (hx:Passes (vd X.prog X.w) X E) (hn:PE X (.Name x G) (uT i))
 (O:∀a b c d u,(xP a b c d u e).lookup m=none)
 (P:PE X (.Call (.Attribute (.Name x G) m apos) [] [] pos) (E4 C m (xW T j) [] E (uT i) CF)) :
    EO X E T (.Call (.Attribute (.Name x G) m apos) [] [] pos) (λ(d:D)(o:τ->D->Prop) r=>j (A.get d,()) (λy l=>o y<|U.put (A.hole d) l.1)<|λC l=>r C<|U.put (A.hole d) l.1):=by
  refine#[_,P,λd F R S H o r Q s W Y Z=>?_]
  refine e3a4 (A.take s.rel) λv I M2 J z2 L z4=>?_
  obtain⟨a,dx,d1,d2,d3,d4,aa,rfl,_,g⟩:=id L
  refine#[_,J,a,dx,_,rfl,g.ob,O _ _ _ _ _,?_]
  refine Px (F:=F) (F1:=I) (F2:=M2) (mrg:=λ(b:h)(p:Bd C e×Unit)=>U.put b p.1) (wf:=j) (p:=(A.get d,())) (b:=A.hole d) (σ:=S) (Kn:=o) (Ke:=r) s.Gb z2 #[some<|.ref a,[],I,λ_=>False,rfl,#[λ_=>#[.inl,λz=>z.elim id λq=>q.elim],λ_ _ z=>z],L,rfl,λ_ z=>z] z4 (λb' G1 G2 ab ae af l h1 h2 t=>?_) W Y Z
  refine e4a4 h1 λv' ag N1 N2 y1 M y3 y4=>?_
  injection y1 with y5 y6
  subst y5
  refine Pt.same (A:=U) h2 J #[λa=>?_,λa m n=>t.xy a ((M.all a).mpr<|.inl m) n] y3
  rw[t.all,M.all]
  exact#[λz=>z.elim (λz=>z.elim .inl λq=>gA q<|y4.2 a) .inr,λz=>z.elim (λq=>.inl<|.inl q) .inr]
def tw_trueO{wa:Wf D (OL α) D}(ha:EO X E T a wa)(he:∀whole,qd a X.env whole=(do let v <- whole;mf a.pos;jY [v] (tJ v)):=by intro _;rfl):TW X E T a (λ(d:D) Kn Ke=>wa d (λxs d1=>Kn (!xs.l.isEmpty) d1) Ke):=by
 refine e1a2 ha λta a1 a2=>?_;refine#[_,HN a1 he,λd F R σ H Kn Ke Q s hw kn ke=>a2 d F R σ H _ Ke _ s hw (λxs d1 u F1 F2 R1 H1 q1 c1 s1 n1=>?_) ke];refine e2a4 n1.is λb vs e _ h3 h4=>?_;cases e;refine#[!vs.isEmpty,.inl #[vs,vJ.of h3,rfl],?_];obtain⟨l⟩:=xs
 have:vs.isEmpty=l.isEmpty:=by
  cases h4<;>rfl
 rw[this];exact kn _ d1 F2 R1 H1 q1 (c1.less λ_ z=>.inr z) s1
def P4{e:Wf D (Tp α) D}(i:Gl X "list")(j:X.mg "list"=none)(k:EW X E T a e)(f:gf [a] X.env=(false,eval a X.env)::gf [] X.env:=by rfl) :
  EO X E T (.Call (.Name "list" p) [a] [] pos) (λ(d:D)(g:OL α->D->Prop) b=>e d (λt c=>g #[t.l] c) b):=by
 refine e1a2 k λN m n=>?_;refine#[_,wP xC i j jU (ut m uI f) (he:=f),λd F R o H g b Q s r v w=>n d F R o H _ b _ s r (λt c u x O P y z h A=>?_) w];obtain⟨q,S,rfl,_,B,C⟩:=A;refine#[_,_,rfl,.inr<|yD.of B,λl G=>?_];refine e1a3 (wR h G C) λI J L M=>?_;exact v _ c _ _ x I _ y (Ch.trans s h.tab z J) L M
def TC(n:Gl X "tuple")(o:X.mg "tuple"=none)(r:ER X E T a t)(f:gf [a] X.env=(false,eval a X.env)::gf [] X.env:=by rfl) :
  EW X E T (.Call (.Name "tuple" p) [a] [] pos) (λ(d:D)(h:Tp α->D->Prop) e=>t d (λg b=>h #[g b] b) e):=by
 refine e1a2 r λP v w=>?_;refine#[_,wP ED n o PyProof.Rows.boot_tuple (ut v uI f) (he:=f),λd F R x H h e Q s y z A=>w d F R x H _ e _ s y (λg b u i j B C G c I=>?_) A];obtain⟨q,k,rfl,J,L⟩:=I b i j B (Ch.refl _ _ _ _) c;refine#[_,_,rfl,.inl #[vJ.of J,λl M=>?_]];refine e0a3 (c.new (.tup k) M) λN m O=>?_;exact z _ b _ i j _ C (Ch.trans s c.tab G m) N #[l,k,rfl,O,ul,c.vals m L]
def ints_of{R:Rg}{H:Hp}:∀{xs:List Int} {vs:List V},Paired (rp R H) xs vs->vs=xs.map V.int:=by
 intro _ _ z
 induction z with
 |nil=>rfl
 |cons h t ih=>rw[show _=V.int _ from h,ih];rfl
def tw_inT{a b:hZ}{wa:Wf D Int D}{wb:Wf D (Tp Int) D}(ha:EW X E T a wa)(hb:EW X E T b wb)(hm:iB .In b=false) :
  TW X E T (.Compare a [.In] [b] pos) (λ(d:D) Kn Ke=>wa d (λk d1=>wb d1 (λt d2=>Kn (decide<|k∈t.l) d2) Ke) Ke):=by
 refine e1a2 ha λta a1 a2=>?_;refine e1a2 hb λtb b1 b2=>?_;refine#[_,w6 E7 a1 b1 hm,λd F R σ H Kn Ke Q s hw kn ke=>a2 d F R σ H _ Ke _ s hw (λk d1 u F1 R1 H1 q1 c1 s1 r1=>?_) ke];refine b2 d1 F1 R1 σ H1 _ Ke _ s1 q1 (λt d2 v F2 R2 H2 q2 c2 s2 r2=>?_) λC y d' F' R' H' k c s'=>ke C y d' F' R' H' k (Ch.trans s s1.tab c1 c) s';subst r1;obtain⟨l⟩:=t;obtain⟨q,us,rfl,_,h1,h2⟩:=r2;have e:=ints_of (xs:=l) h2;subst e;refine#[q,_,rfl,.inr<|yD.of h1,rfl,z8 _,_,rfl,?_];rw[gc gw,A9];exact kn _ d2 F2 R2 H2 q2 (Ch.trans s s1.tab c1 c2) s2
def DV[Sls D2][Gf:Fg D2 D][J:Pj D PO n](N:RU PO ms n)(hp:qO (gv X.prog X.w) X.A X.env X.xe)
 (hc:TW X E T c wc) (hb:SW X E T mb n body wb) (B:∀i∈ms,i∈mb) :
    S1 X E T ms n (.While c body [] pos) (λ(d:D)(Kn:D->Prop)(O:τ->PO->Prop) I=>∃W:Nat->D->Prop,(∃m,W m d)/\∀m d,W m d->wc d (λb j=>if b=true then wb j (λL=>∃l,l<m/\W l (Gf.fg L)) O I else Kn j) λC d'=>I C<|J.pj d'):=by
  refine e1a2 hc λtc c1 c2=>?_
  refine e1a2 hb λtb b1 b2=>?_
  refine#[_,Oi hp c1 b1,λd F R σ H Kn O I En s hw kn kr ke=>?_]
  obtain⟨W,⟨m0,w0⟩,t⟩:=hw
  refine#[λm e M=>∃j G o,Ch T F R H G o M/\vw T G o M j e/\Ag mb σ e/\W m j,#[m0,d,F,R,Ch.refl _ _ _ _,s,Ag.refl _ _,w0],?_]
  rintro m e M ⟨j,G,o,k1,P,g1,w1⟩
  refine c2 j G o e M _ _ _ P (t m j w1) (λb L G2 R2 H2 q2 k2 u=>?_) λC y d' F' R' z q c s'=>?_
  · have k := Ch.trans s P.tab k1 k2
    cases b with
    |false=>exact kn L G2 R2 H2 e q2 k u<|g1.sub B
    |true =>
      refine#[λp z=>∃l,l<m/\∃j G o,Ch T F R H G o z/\vw T G o z j p/\Ag mb σ p/\W l j,λp z h=>h,?_]
      refine b2 L G2 R2 e H2 _ O I _ u q2 (λd3 G3 R3 H3 ab q3 k3 r g3=>?_) (λx Q v M1 M2 S U Y Z f n4=>?_) λC y Q F4 S U Y Z f=>?_
      · refine e1a2 q3 λl hm w3 => ?_
        refine e1a2 (Gf.le r.rel) λG5 f5 r5=>?_
        exact#[l,hm,_,G5,R3,(Ch.trans s u.tab k k3).less f5,#[r5,λa h=>r.sub a<|f5 a h,r.wD,r.tab,r.ve,λh=>r.uS<|f5 T h],g1.trans g3,w3]
      · exact kr x Q v M1 M2 S U Y (Ch.trans s u.tab k Z) #[N.dp (g1.sub B) f.rel, f.sub, f.wD, f.tab, f.ve, f.uS] n4
      · exact ke C y Q F4 S U Y (Ch.trans s u.tab k Z) #[N.dp (g1.sub B) f.rel, f.sub, f.wD, f.tab, f.ve, f.uS]
  · refine e1a2 (vX (PO := PO) s') λG' aa g => ?_
    exact ke C y _ G' R' z q ((Ch.trans s P.tab k1 c).less aa) #[N.dp (g1.sub B) g.rel,g.sub,g.wD,g.tab,g.ve,g.uS]
end
open PyProof.Rows hiding K
noncomputable def Ite(K:ga)(a:ci):It :=
 #[λi H=>∃b x,vJ K H a b/\b[i]?=↑x,λi H v c=>∃p x,v=.ref p/\H p=none/\c=upd H p (.tup [.int i,x])/\∀b,vJ K H a b->b[i]?=↑x,λi H=>∃b,vJ K H a b/\b.length<=i]
def TF{t':Nat}{xs:List V}{nh:Nat}(I:Inv X d y H s)(i:AA X d H e)(j:AA X d H l)(x:⇑s<=a)(k:∀b o,b≠e->b≠l->s.heap.get? b=↑o->h'.get? b=↑o)(A:xs.length<=gh)(r:Vals xs us)(B:IsTup h' a us.toArray) :
  Inv X d y (upd H a<|.tup xs) { s with heap:=h',toks:=t'}:=by
 have C:=I.vc.fresh x;have f:∀b u,H b=↑u->b≠e/\b≠l:=λb u q=>#[λz=>(by rw[z,i.1]at q;cases q),λz=>(by rw[z,j.1]at q;cases q)];have t:∀b o,b∉[e,l]->s.heap.get? b=↑o->h'.get? b=↑o:=λb o h q=>k b o (λz=>h<|by simp[z]) (λz=>h<|by simp[z]) q;have p:∀{b u},H b=some u->upd H a (.tup xs) b=some u:=λ{b u} q=>by rw[ui<|uu q C];exact q
 refine I.step (g':=s.gens) (d':=s.drawn) (ch:=[e,l]) (λb h=>?_) (λb o _ _ g q _=>t b o g q) (λb o _ _ g q _=>#[o.slots,t b o g q]) (λb o g q n=>?_)
  (λb o g q=>#[o,t b o g q]) (λ_ _ q=>p q) (λ_ _ _ q=>p q) (λb J q=>#[#v[],by rw[p q];simp]) (λm D=>?_) (λb u q=>?_) I.bare
 ·rcases List.mem_cons.mp h with z|z
  ·subst z;exact#[i.2.2.2.1,i.2.1,i.2.2.2.2.1,i.2.2.2.2.2]
  ·have z:b=l:=by simpa using z
   subst z;exact#[j.2.2.2.1,j.2.1,j.2.2.2.2.1,j.2.2.2.2.2]
 ·rw[ui<|λz=>gA (gp q)<|by rw[z];exact Nat.not_lt.mpr x];exact n
 ·refine e3a2 D λo E F G r=>?_;exact#[o,E,F,k _ o (Ne.symm i.2.1) (Ne.symm j.2.1) G,r]
 ·by_cases h:b=a
  ·subst h;rw[ul]at q;cases q;exact#[A,us,r,B]
  ·rw[ui h]at q;refine(I.vc b u q).CC (λc v g w=>?_) (λc w=>p w) λc L w=>p w;rcases g with z|z
   ·rw[z]at w ⊢;exact k b v (f b u q).1 (f b u q).2 w
   ·exact k c v (f c _ z).1 (f c _ z).2 w
def Nx{K:ga}{x1}(a e it:ci)(hne:e≠it):Turn P w K (.Tuple els x1 tp) (Ite K a) [e,it] e (λi h=>(∃old,IsEnum h e it i old)/\h.IsListIter it a i) where
 mem:=by simp
 obj:=λi h st b hb=>by
  obtain⟨⟨old,h1⟩,⟨o,h2,c,d⟩⟩:=st;rcases List.mem_cons.mp hb with z|z
  ·subst z
   exact#[_,h1,λv z=>by
    have z':sA _=Data.cell v:=z
    cases z']
  ·have z:b=it:=by simpa using z
   subst z;exact#[o,h2,λv z=>by rw[d]at z;cases z]
 keep:=λi h h' st k=>#[e1a1 st.1 λold h1=> #[old,k e q0o _ h1],st.2.at λo q=>k it q0o o q]
 item:=by
  intro X hP hw hK hc i pins s σ H E I hf st hg;subst hP hw hK;refine e2a2 hg λxs x hq hx=>?_;refine e1a3 (I.list hq) λzg rv p hz=>?_;refine e1a2 (rv.get hx) λu hu ru=>?_;obtain⟨⟨old,h1⟩,h2⟩:=st;have fe:=hf e q0o;have fi:=hf it q0o;refine wpAny_pyNext_enum_item h1 h2 p.isList (x:=u) (by simpa using hu) hne λh' a1 a2 a3 a4 a5=>#[_,rfl,wpAny_letOwnedTupleGo_enum a1 λh2' b1 b2=>?_];have hel:e<⇑s:=gp h1;have t2:h2'.get? ⇑s=some { cls:=.type "tuple",data:=.seq #v[.int i s.toks,u]}:=b2.extBut _ _ (iK hel) a3;refine#[.ref ⇑s,upd H ⇑s<|.tup [.int i,x],TF (s:=s) (h':=h2') (t':=s.toks+1) (xs:=[.int i,x]) (us:=[.int i s.toks,u]) (nh:=0) I fe fi (gg _) (λb o n1 n2 q=>b2.extBut b o n1<|a5 b o n1 n2 q) (by show 2<=gh;decide) (.cons ⟨_,rfl⟩<|.cons ru .nil) ⟨_,t2,rfl,_,rfl⟩,rfl,⟨_,x,rfl,I.vc.fresh<|gg _,rfl,λys hy=>by rw[I.HK hy hq];exact hx⟩,#[#[_,b1],a2.extBut b2.extBut<|Ne.symm hne],λb hb=>?_];rw[ui]
  ·exact(hf b hb).1
  ·refine e1a2 h2 λo ho _=>?_;rcases List.mem_cons.mp hb with z|z
   ·rw[z];exact gB hel
   ·have z:b=it:=by simpa using z
    rw[z];exact gB<|gp ho
 done:=by intro X hP hw hK hc i pins s σ H E I hf st hg;subst hP hw hK;refine e1a2 hg λxs hq hx=>?_;refine e1a3 (I.list hq) λzg rv p hz=>?_;obtain⟨⟨old,h1⟩,h2⟩:=st;refine e0a6 (hf it q0o) λf0 f1 f2 f3 f4 f5=>?_;have hl:=rv.length;exact wpAny_pyNext_enum_end (I.ok.hd hc) h1 h2 p.isList (by simp;lia) λh' eb=>#[rfl,I.turned (t':=s.toks) (λb o hb e=>eb b o hb e) f0 f1 f3 f4 f5]
 self:=λ_ _ _ _ _ st h=>wpAny_pyIter_enum st.1.choose_spec h
section
variable{D:Type}[Sls D]{α:Type}[Rep α]
def Ze(K:ga)(c:TA):TI:=λd H R=>c d H λe b=>∃a,e=[.ref a]/\(∃f,vJ K b a f)/\R (Ite K a) b
def TH{i}(j:Gl X "enumerate")(k:X.mg "enumerate"=none)(l:PA X [a] m)(n:gf [a] X.env=[(false,eval a X.env)]:=by rfl):PI X (.Tuple o i G) (.Call (.Name "enumerate" p) [a] [] pos) (Ze X.K m):=by
 intro d s t H R I h;refine PyProof.Rows.Call_<|yI I j k PyProof.Rows.boot_enumerate<|jv (uY (l pos d s t H _ I h) λJ c u=>e2a3 u λL v f w x=>?_) n rfl;obtain⟨a,e,⟨M,y⟩,q⟩:=x;subst e
 cases w with
 |cons r A =>
  cases A;cases r;refine e1a3 (f.list y) λB N p O=>?_;refine call_enumerate_list p.isList λP g C Q E=>?_;refine wpAny_pyIter_enum g ?_;refine#[⇑c+1,[⇑c+1,⇑c],_,_,v,rfl,f.kept (t':=c.toks) E,Nx a _ _<|iK<|iV _,⟨⟨_,g⟩,C⟩,λb F=>?_,q]
  have e:⇑c<=b:=by
   rcases List.mem_cons.mp F with z|z
   ·rw[z];exact kQ _
   ·have z:b=⇑c:=by simpa using z
    rw[z];exact gg _
  exact f.FN e<|f.vc.fresh e
noncomputable def Ny:Nat->List α->List (Int×α)
 |_,[]=>[]
 |k,x::r=>((k:Int),x)::Ny (k+1) r
def CZ:∀(k:Nat)(a:List α),(Ny k a).length=a.length
 |_,[]=>rfl
 |k,x::r=>by show (Ny (k+1) r).length+1=r.length+1;rw[CZ (k+1) r]
def L9:∀(k:Nat)(a:List α)(i:Nat),(Ny k a)[i]?=(a[i]?).map λx=>(((k+i:Nat):Int),x)
 |_,[],_=>by simp[Ny]
 |k,x::r,0=>by simp[Ny]
 |k,x::r,i+1=>by
  show (((k:Int),x)::Ny (k+1) r)[i+1]?=_;rw[rF,rF,L9 (k+1) r i];congr 1
  funext y
  rw[show k+1+i=k+(i+1) by lia]
def DW{K:ga}{xs:List α}{vs:List V}:XZ (Ite K a) (Ny 0 xs) (λR H=>H a=↑(.lst vs)/\Paired (rp R H) xs vs) where
 go:=λ{R H i} p h=>by rw[CZ]at h;obtain⟨v,e,_⟩:=wl (i:=i) (x:=xs[i]) p.2 (by simp[h]);exact#[vs,v,vJ.of p.1,e]
 HA:=λ{R H i v H'} p wD hi y=>by rw[CZ]at hi;obtain⟨q,w,e,hq,e',y⟩:=y;subst e e';have y':=y vs<|vJ.of p.1;obtain⟨u,e,r⟩:=wl (i:=i) (x:=xs[i]) p.2 (by simp[hi]);rw[y']at e;cases e;have ex:Ext R R H R (upd H q<|.tup [.int i,w]):=⟨λb o _ z=>by rw[ui<|uu z hq];exact z,λ_ z=>.inl z⟩;refine#[.inr #[q,_,hq,rfl],((i:Int),xs[i]),?_,q,.int i,w,rfl,λz=>wD q z hq,ul,rfl,Rep.st r ex];rw[L9,iU hi,sd];rfl
 stop:=λ{R H} p=>#[vs,vJ.of p.1,by rw[CZ,Paired.length p.2];exact gg _]
def TJ{i:List hZ}{B}{w:Wf D (List α) D}(C:Gl X "enumerate")(G:X.mg "enumerate"=none)(h:EW X E T e w)(I:gf [e] X.env=(false,eval e X.env)::gf [] X.env:=by rfl)(j:gf [e] X.env=[(false,eval e X.env)]:=by rfl) :
  IW X E T is (.Tuple i B tp) (.Call (.Name "enumerate" p) [e] [] pos) (λ(b:D) (_:List (Int×α))=>b) (λ(d:D) o u=>w d (λf k=>o (Ny 0 f) k) u):=by
 refine e1a2 h λt J L=>?_;refine#[_,TH C G (ut J uI I) j,λd F R M H o u Rk s N O P=>L d F R M H _ _ _ s N (λf k v l Q S q c x r=>?_) P];obtain⟨a,m,rfl,U,y,W⟩:=r;refine#[a,rfl,#[m,vJ.of y],O (Ny 0 f) k _ (λR H=>(H a=↑(.lst m)/\Paired (rp R H) f m)/\¬R a) l (λ_=>False) l Q S q c x.Gb (two_nil l) x.rel #[λp=>DW.go p.1,λp=>DW.HA p.1,λp=>DW.stop p.1] #[#[y,W],U] (λp A nf n=>?_) λb' G2 Y Z aa ab p h g t=>Sls.fq h<|two_eq t λ_ z=>z];have na:¬_:=λz=>p.2<|A a z;exact#[#[n.keep a _ na p.1.1,vC (n.wide A) p.1.2],n.not p.2 p.1.1]
end
def Gp(C:ci):Sp:=λf H Q E=>∃p e,f=[.ref p]/\H p=↑(.ins C e []) /\
 ∀c d a,H c=none->H d=none->c≠d->a p=↑(.ins C e<|xP c d 0 0 0 false)->a c=↑(.dK [])->a d=↑(.dK [])->(∀b o,b≠p->H b=↑o->a b=↑o)->Q .vU a
def TK{m:gV}{k:Nat}(F:yo K "__init__" i m f D)(S:uq ["self"] ["self"] (uh m))(g:Ab K C)
 (j:∀(d:cr)(A:iW)(a:List Env)(s:gn)(H:Hp)(E:XK),Ez (vg (vd P w) P w K G base ["self"] i (uh m) f d A a s H E) (uP m)<|Jk (MY K (uT 0) Ds "ranks")<|Jk (MY K (uT 0) Ds "borders")<|MY K (uT 0) (tC<|.int 0) "upcoming") :
    uR P w K G base (vd P w) (k+1) f D ["self"] (Gp C):=by
  obtain⟨T,U,W,I,X,Y,d,J,L,rfl,lk,t⟩:=F.ex
  refine HU lk t S (λM H Q E N=>e2a2 N λp l e _=>by rw[e];rfl) λO a s H M Q E Z u=>#[_,j d O a s H E,?_]
  obtain⟨p,l,rfl,B,k⟩:=u
  intro h v
  have n:p≠h:=uu B v
  have R:upd H h (.dK []) p=↑(.ins C l []):=by rw[ui n];exact B
  refine#[_,rfl,p,C,l,[],rfl,R,g.cl,g.nR,q0q,?_]
  intro q c
  have r:p≠q:=λz=>by rw[<- z,ul]at c;cases c
  rw[ui r.symm]at c
  have x:q≠h:=λz=>by rw[z,ul]at c;cases c
  rw[ui x]at c
  refine#[_,rfl,p,C,l,[("ranks",.ref h)],rfl,?_,g.cl,g.nB,(by show 1<1000;decide),?_]
  · rw[ui r, ul]
    rfl
  refine#[_,rfl,p,C,l,[("ranks",.ref h),("borders",.ref q)],rfl,?_,g.cl,g.nU,(by show 2<1000;decide),?_]
  · rw[ul]
    rfl
  refine k h q _ v c x.symm ?_ ?_ ?_ λb o y j=>?_
  · rw[ul]
    rfl
  · rw[ui n.symm, ui n.symm, ui x.symm, ui n.symm, ul]
  · rw[ui r.symm, ui r.symm, ul]
  · rw[ui y, ui y, ui<|uu j c, ui y, ui<|uu j v]
    exact j
structure Mf(K:ga)(C:ci)(m qual:Str)(st:gV)(ps:List Str)(f:ci)(fd:hV):Prop where
 fn:yo K m qual st f fd
 me:Meth K C m f
 bd:Binds K fd ps []
structure Xc(K:ga)(mg:Str->Option cr)(x:Str)(C:ci):Prop where
 ex:∃(CJ:List cr)(B newId xq:String),mg x=↑(.ref C)/\iL K C CJ newId=true/\jK B newId xq CJ
 g0:∀H',GX.g C none H'
def BY{k:Nat}(r:vM k A):A.units+1<jS:=i8 (Nat.add_le_add_left q0q _) r.units
noncomputable def a1t(s:gV):List gV:=match s with
 | .ClassDef _ _ _ body _ _ _ _ _ _ _=>body
 |_=>[]
noncomputable def BF(s:gV)(i:Nat):gV:=(a1t s).getD i<|.Pass #[0,0,0,0]
section
variable{D D' PO τ:Type}[Sls D][Sls D'][Sls PO][Ow τ]
def Au{k:Nat}[J:Pj D PO n](r:Gl (vg (vd P w) P w K e base N c a f g A b s H E) x)(h:Xc K e x C)(l:(x==("__debug__":Str))=false:=by decide)
 (q:gf [.Constant (.str m) k mp] (vg (vd P w) P w K e base N c a f g A b s H E).env=(false,eval (.Constant (.str m) k mp) (vg (vd P w) P w K e base N c a f g A b s H E).env)::gf [] (vg (vd P w) P w K e base N c a f g A b s H E).env:=by rfl)
 (o:(iN i<|gf [] (vg (vd P w) P w K e base N c a f g A b s H E).env).any (·.1)=false:=by rfl) :
    S1 (vg (vd P w) P w K e base N c a f g A b s H E) E T z n (.Raise (some<|.Call (.Name x np) [.Constant (.str m) k mp] [] i) none pos) (λ(d:D)(_:D'->Prop)(_:τ->PO->Prop) t=>t C<|J.pj d):=by
  obtain⟨u,B,p,j,v,O,y⟩:=h.ex
  exact DQ<|DC r v O y h.g0 (ut FL uI q) l q o
end
section
variable{D:Type}[Sls D]
def P5{i:Int}(b:Gl X x)(c:X.mg x=↑(.int i t))(e:(x==("__debug__":Str))=false:=by decide):EW X E T (.Name x pos) (λ(d:D)(a:Int->D->Prop) _=>a i d) :=
 #[_,R9 (v:=.int i) b c #[t,rfl] e,λd F R h H a j Q s f g _=>g i d _ F R H f (Ch.refl _ _ _ _) s rfl]
end
noncomputable def Sf(f:Int->List Int)(x:Int):List Int->Bool
 | []=>false
 |c::l=>xor (decide<|x∈f c)<|Sf f x l
def Gr{x:Int}{a:List Int}(p:a.Perm b):Sf f x a=Sf f x b:=by
 induction p with
 |nil=>rfl
 |cons c _ e=>show xor _ _=xor _ _;rw[e]
 |swap c d l=>show xor _ (xor _ _)=xor _ (xor _ _);rw[<- lR,<- lR,Bool.xor_comm<|decide<|x∈f d]
 |trans _ _ g h=>exact g.trans h
def WX{x k:Int}(h:vE l):Sf f x (J4 l k)=xor (decide<|x∈f k) (Sf f x l):=by
 by_cases q:k∈l
 ·have e:J4 l k=J2 k l:=f9 q
  have p:l.Perm (k::J2 k l):=by
   refine vH (ur h) (List.nodup_cons.mpr #[λz=>(zA.mp z).2 rfl,ur<|gU _ h]) λy=>?_;rw[gO,zA];by_cases z:y=k
   ·rw[z];simp[q]
   ·simp[z]
  rw[e,Gr p];show _=xor _ (xor _ _);rw[<- lR,Bool.xor_self,oT]
 ·have e:J4 l k=EK k l:=gc q
  have p:(EK k l).Perm (k::l):=by refine vH (ur<|CU h) (List.nodup_cons.mpr ⟨q,ur h⟩) λy=>?_;rw[gO,Bh]
  rw[e,Gr p];rfl
def P6{x:Int}:∀{b a:List Int},vE a->Sf f x (xr a b)=xor (Sf f x a) (Sf f x b)
 | [],a,_=>by show Sf f x a=xor _ false;rw[mW]
 |k::b,a,h=>by show Sf f x (xr (J4 a k) b)=xor (Sf f x a) (xor (decide<|x∈f k)<|Sf f x b);rw[P6<|L7 h,WX h,<- lR,Bool.xor_comm<|Sf f x a]
def P7{x:Int}:∀{l:List Int} {a:List Int},(∀c∈l,(f c).Nodup)->decide (x∈(l.map f).foldl xr a)=xor (decide<|x∈a) (Sf f x l):=by
 intro d
 induction d with
 |nil=>intro a _;show decide (x∈a)=xor _ false;rw[mW]
 |cons c l b =>
  intro a h;show decide (x∈(l.map f).foldl xr (xr a<|f c))=xor _ (xor _ _);rw[b<|λy g=>h y<|gl _ g,<- lR];congr 1;have e:=yi (l:=a) (x:=x)<|h c gk;by_cases p:x∈a<;>by_cases q:x∈f c<;>simp[p,q,e]
noncomputable def uG(f:Int->List Int)(l:List Int):List Int:=Oa<|l.map f
def wI{x:Int}(h:∀c∈l,(f c).Nodup):decide (x∈uG f l)=Sf f x l:=by unfold uG Oa;rw[P7 h];rw[gH q0o,oT]
def uL(f:Int->List Int)(l:List Int):vE (uG f l):=Tv _
def xQ(c:vE a)(d:vE b)(h:∀x,decide (x∈a)=decide (x∈b)):a=b:=CW c d λk=>by have:=h k;by_cases p:k∈a<;>by_cases q:k∈b<;>simp[p,q]at this ⊢
def yA{x:Int}(h:∀c∈l,(f c).Nodup)(a:x∈uG f l):∃c∈l,x∈f c:=by
 have e:=wI (x:=x) h;rw[decide_eq_true a]at e;clear a
 induction l with
 |nil=>cases e
 |cons c l b =>
  by_cases q:x∈f c
  ·exact#[c,gk,q]
  ·have e:true=xor (decide<|x∈f c) (Sf f x l):=e;rw[gH q,oT]at e;obtain⟨d,g,i⟩:=b (λy j=>h y<|gl _ j) e;exact#[d,gl _ g,i]
def xG(h:vE a)(i:vE b)(d:∀c∈a,(f c).Nodup)(g:∀c∈b,(f c).Nodup):uG f (xr a b)=xr (uG f a) (uG f b) :=
 xQ (uL _ _) (uX<|uL _ _) λx=>by rw[wI λc j=>(AJ (ur i) j).elim (d c)<|g c,P6 h,<- wI d,<- wI g];have e:=yi (l:=uG f a) (x:=x)<|ur<|uL f b;by_cases p:x∈uG f a<;>by_cases q:x∈uG f b<;>simp[p,q,e]
def Ma{x:Int}:∀{l a:List Int},vE a->(∀c∈l,vE (f c)/\Sf f x (f c)=false)->Sf f x ((l.map f).foldl xr a)=Sf f x a
 | [],_,_,_=>rfl
 |c::l,a,b,h=>by show Sf f x ((l.map f).foldl xr<|xr a<|f c)=_;rw[Ma (uX b) λy d=>h y<|gl _ d,P6 b,(h c gk).2,mW]
def Fp(h:∀c∈l,vE (f c)/\(∀d∈f c,(f d).Nodup)/\uG f (f c)=[]):uG f (uG f l)=[] :=
 xQ (uL _ _) gS λx=>by
  rw[wI,gH q0o]
  ·exact Ma (x:=x) (l:=l) gS λc a=>#[(h c a).1,by rw[<- wI (h c a).2.1,(h c a).2.2];rfl]
  ·intro d b;obtain⟨c,a,b⟩:=yA (λc a=>ur (h c a).1) b;exact(h c a).2.1 d b
def vq(h:∀c∈l,f c=g c):uG f l=uG g l:=by unfold uG;rw[mC h]
structure Scr(K:ga) where
def P8(K:ga)(R:Rg)(H:Hp)(a:ci)(c:List Int):Prop :=
 (¬R a/\Rd H a (.lst<|c.map V.int))\/∃(o:pY)(b:Array cr)(n:Nat),K.lookup a=↑o/\o.cls=.type "list"/\o.dict=none/\o.data=.seq b n/\b.size<=gh/\Vals (c.map V.int) b.toList
def P8.sq{K:ga}(h:P8 K R H a b):vJ K H a (b.map V.int):=h.elim (λz=>.inl z.2) .inr
instance(K:ga):Rep (Scr K):=#[λR H _ v=>∃a ns,v=.ref a/\P8 K R H a ns,λ{R H R' H' x v} h e=>by
 refine e2a2 h λa ns h1 h2=>?_;refine#[a,ns,h1,?_];rcases h2 with⟨n,r⟩|r
 ·rcases r with r|⟨o,r⟩
  ·exact .inl #[e.not n r,.inl<|e.keep a _ n r]
  ·exact .inl #[e.not n r,.inr #[o,e.keep a _ n r]]
 ·exact .inr r]
def Vw(K:ga):Sp:=λd H Q _=>∃(a:ci)(e:List Int),d=[.ref a]/\vJ K H a (e.map V.int)/\∀b g q c s,CH H b->Cu b g q c 0 0 s->H g=none->H q=none->Q (.ref g) b
def P9(K:ga):Wf (Scr K×Unit) Bg (Un×Unit):=λ_ a _=>a #[] (#[],())
def Vx(K:ga):Wf (Scr K×Unit) Bool (Un×Unit):=λ_ a _=>a true (#[],())
def Zf(F:uR P w K y base OS k f A C (Vw K)):uR P w K y base (vd P w) k f A C (xW T<|P9 K) :=
 (Vu F).imp λD H Q E G=>e5a4 G λF R p Kn Ke s I J _=>by
  obtain⟨v,L,F1,F2,d,h2,⟨n1,u,e,a,M,N,O⟩,S⟩:=s.rel;subst e N
  match D,d with
  | [],d=>cases d
  |x::r,d =>
   injection d with U W;cases U
   have X:r=[]:=by have:=S.1;rw[<- W]at this;exact List.map_eq_nil_iff.mp this
   subst X;refine#[a,M,rfl,O.sq,λn g q j Y i B l m=>?_];have Z:Ext (λ_=>False) R H (λc=>R c\/c=g\/c=q) n:=#[λb o _ h=>i b o h,λc h=>h.elim .inl λz=>.inr<|z.elim (λz=>by rw[z];exact l) λz=>by rw[z];exact m];refine J #[] (#[],()) (.ref g) (λc=>c=g\/c=q) (λ_=>False) (λc=>R c\/c=g\/c=q) n I #[λb o _ _ h=>i b o h,Z.new,λc h=>h.elim (λz=>.inr<|z.elim (λz=>by rw[z];exact l) λz=>by rw[z];exact m) λz=>z.elim,λc h _=>.inl h] #[#[some<|.ref a,[],λ_=>False,λ_=>False,rfl,#[λ_=>#[λz=>z.elim,λz=>z.elim id id],λ_ z _=>z],λ_ z=>z,rfl,λ_ z=>z],λ_ z=>z.elim,λc h=>?_,?_,.inl s.ve,λz=>z] #[#[g,q,j,0,0,Y,rfl,λ_=>Iff.rfl,B],λc h=>.inr h,λ_ _ z=>z,λz=>?_]
   ·rcases h with h|h|h
    ·cases e:H c with
     |none=>exact gA e<|s.wD c h
     |some o=>rw[i c o e];simp
    ·rw[h,B.ob];simp
    ·rw[h,B.sc];simp
   ·refine e1a2 s.tab λqs e t=>?_;exact#[qs,i _ _ e,t]
   ·have:=yy s.tab;rcases z with z|z
    ·rw[z]at this;exact this l
    ·rw[z]at this;exact this m
def Mb(K:ga)(b:ci):Sp:=λc H Q _=>∃(a:ci)(d:List Int),c=[.ref a]/\vJ K H a (d.map V.int)/\TabAt H b/\∀e,Q (.bl true) e
def Zg(F:uR P w K g base (vd P w) k f i j (xW T<|Vx K)):uR P w K g base (vd P w) k f i j (Mb K T) :=
 F.imp λB H Q E l=>e2a4 l λa m e p b s=>by
  subst e;refine#[λ_=>False,λc=>c=T,(#[],()),λx _=>x=true,λ_ _=>False,#[#[some<|.ref a,[],λ_=>False,λ_=>False,rfl,#[λ_=>#[λz=>z.elim,λz=>z.elim id id],λ_ z _=>z],#[λ_ z=>z,_,rfl,a,m,rfl,?_],rfl,λ_ z=>z],λ_ z=>z.elim,λc h=>by rw[h];exact yy b,b,rfl,λz=>z],rfl,λx t v D G A d q c I n=>?_,λC y t J A d q=>q.elim]
  ·rcases p with r|r
   ·refine .inl #[λz=>?_,r];refine e1a2 b λL e _=>?_;rcases r with r|⟨o,r⟩
    ·rw[z,e]at r;cases r
    ·rw[z,e]at r;cases r
   ·exact .inr r
  ·obtain⟨_,u,e,r⟩:=n.is;cases e;rw[r,q];exact s d
def Zh(F:uR P w K d base (vd P w) k f g i c)(h:∀b H Q E,c b H Q E->c b H Q XF):uR P w K d base OS k f g i c :=
 #[F.len,λA a s H args j b Q E l m n o p=>jp (F.run A a s H args j b Q XF l m n o (h _ _ _ _ p)) λr t z=>by
  cases r with
  |error e =>
   obtain⟨_,_,_,_,_,z⟩:=z;exact z.elim
  |ok q =>
   cases q with
   |ret u=>exact z
   |next=>exact gZ z
   |brk=>exact gZ z
   |cont=>exact gZ z]
structure Fk(P:gY)(w:il)(K:ga)(mg:Str->Option cr)(base:h8)(T:ci)(x:Str)(ps:List Str){A PO τ:Type}[Sls A][Sls PO][Ow τ](wf:Wf A τ PO)(k:Nat) where
 f:ci
 fd:hV
 ok:uR P w K mg base (vd P w) k f fd ps (xW T wf)
 at_:mg x=↑(.ref f)
 kp:iI K (.ref f)=true
 bd:Binds K fd ps []
structure Fm(P:gY)(w:il)(K:ga)(mg:Str->Option cr)(base:h8)(T C:ci)(m:Str)(ps:List Str){A PO τ:Type}[Sls A][Sls PO][Ow τ](wf:Wf A τ PO)(k:Nat) where
 f:ci
 fd:hV
 ok:uR P w K mg base (vd P w) k f fd ps (xW T wf)
 me:Meth K C m f
 bd:Binds K fd ps []
section
variable{P:gY}{w:il}{K:ga}{mg:Str->Option cr}{base:h8}{T C f:ci}{fd:hV}{x:Str}{ps:List Str}{A PO τ:Type}[Sls A][Sls PO][Ow τ]{wf:Wf A τ PO}{j k:Nat}
noncomputable def Fk.up(h:Fk P w K mg base T x ps wf j)(l:j<=k:=by decide):Fk P w K mg base T x ps wf k:=#[h.f,h.fd,h.ok.mono l,h.at_,h.kp,h.bd]
noncomputable def Fm.up(h:Fm P w K mg base T C x ps wf j)(l:j<=k:=by decide):Fm P w K mg base T C x ps wf k:=#[h.f,h.fd,h.ok.mono l,h.me,h.bd]
end
section
variable{D:Type}[Sls D]
def uv{P c B g i:Type}[Sls P][Sls c][Sls B][Sls g][Ow i][Lb g i c]{a:B->g->c->D}{o:Wf P i c}{q:D->(P->B->g->Prop)->(ci->D->Prop)->Prop}{k:Nat}{s:List Str}{f:List hZ}
 (h:Fk X.prog X.w X.K X.mg X.base T x s o k) (t:JZ X E T (e::f) a q) (u:vM k X.A:=by assumption) (v:Gl X x:=by exact rfl) (y:Passes (vd X.prog X.w) X E:=by exact DB) (j:(x==("__debug__":Str))=false:=by decide) (z:gf (e::f) X.env=(false,eval e X.env)::gf f X.env:=by rfl) (m:(iN pos<|gf f X.env).any (·.1)=false:=by rfl) :
    EO X E T (.Call (.Name x p) (e::f) [] pos) (λ(d:D)(F:i->D->Prop) r=>q d (λp b l=>o p (λx n=>F x<|a b l n)<|λC n=>r C<|a b l n) r):=Ba h.ok u v h.at_ h.kp h.bd y t j z m
variable{τ:Type}[Ow τ]
def vo{g:List hZ}(i:Nat){z P o B s r:Type}[Sls z][Sls P][Sls o][Sls B][Sls s][Sls r][Lb r τ<|Bd C j×o]{n:B->r->o->D}{F:D->(P->B->r->Prop)->(ci->D->Prop)->Prop}
 {G:Wf (Bd C j×P) τ (Bd C j×o)} [Z:At i D (Bd C j) z] [A:At i B (Bd C j) s] [U:Pt i s (Bd C j) B] {k:Nat} {M:List Str} {N:Sem Bool}
 (h:Fm X.prog X.w X.K X.mg X.base T C m M G k) (O:JZ X E T (e::g) n F) (hr:vM k X.A:=by assumption) (H:Aj X.K C:=by exact Ab.cl<|by assumption) (hx:Passes (vd X.prog X.w) X E:=by exact DB) (I:PE X (.Name x v) (uT i):=by exact pv _) (Q:∀a b c d u,(xP a b c d u j).lookup m=none:=by intros;rfl)
 (R:gf (e::g) X.env=(false,eval e X.env)::gf g X.env:=by rfl) (S:(iN pos<|gf g X.env).any (·.1)=false:=by rfl)
 (W:eval (.Call (.Attribute (.Name x v) m apos) (e::g) [] pos) X.env=(do
 let J <- eval (.Name x v) X.env
 mf apos.atName
 let (f,first) <- jY [J] (lW J m N)
 mH pos f first (iN pos (gf (e::g) X.env)) (mh pos (jZ [] X.env))):=by rfl) :
    EO X E T (.Call (.Attribute (.Name x v) m apos) (e::g) [] pos) (λ(d:D)(Y:τ->D->Prop) L=>F d (λp b l=>G (A.get b,p) (λy q=>Y y<|n (U.put (A.hole b) q.1) l q.2)<|λC q=>L C<|n (U.put (A.hole b) q.1) l q.2) L) :=
  P1 i h.ok hr H h.me h.bd hx I Q (λt=>Sl I H h.me h.ok hr h.bd .nil hx t R S W) O
def Iw(i:Nat){g:Type}[Sls g]{n:Wf (Bd C e×Unit) τ (Bd C e×Unit)}[A:At i D (Bd C e) g][U:Pt i g (Bd C e) D]{k:Nat}{t:List Str}{v:Sem Bool}
 (h:Fm X.prog X.w X.K X.mg X.base T C m t n k) (o:vM k X.A:=by assumption) (p:Aj X.K C:=by exact Ab.cl<|by assumption) (q:Passes (vd X.prog X.w) X E:=by exact DB) (r:PE X (.Name x j) (uT i):=by exact pv _) (z:∀a b c d u,(xP a b c d u e).lookup m=none:=by intros;rfl)
 (B:eval (.Call (.Attribute (.Name x j) m apos) [] [] pos) X.env=(do
 let s <- eval (.Name x j) X.env
 mf apos.atName
 let (f,first) <- jY [s] (lW s m v)
 mH pos f first (iN pos (gf [] X.env)) (mh pos (jZ [] X.env))):=by rfl) :
    EO X E T (.Call (.Attribute (.Name x j) m apos) [] [] pos) (λ(d:D)(F:τ->D->Prop) G=>n (A.get d,()) (λy l=>F y<|U.put (A.hole d) l.1)<|λC l=>G C<|U.put (A.hole d) l.1) :=
  P2 i h.ok o p h.me h.bd q r z (Ox r p h.me h.ok o h.bd .nil q B)
end
end WL
namespace WL
open PySem L2
open Rep (rp)
open Ow (sl)
open Sls (rel)
section
structure Dq(K:ga)(x:Str)(st:gV):Prop where
 ex:∃f fd,gE K gC x=↑(some<|.ref f)/\yo K x x st f fd
structure Mq(K:ga)(C:ci)(m q:Str)(st:gV):Prop where
 ex:∃f fd,Meth K C m f/\yo K m q st f fd
def Zi{b:gV}{e:cr}(a:gE K gC x=↑(some<|.ref f))(l:K.lookup f=some #[i,j,.func<|i7 x x (vn b) (uP b) (uh b) .none e g pm m d n,h])
 (c:iR K d x=true)(k:iI K (.ref f)=true):Dq K x b:=#[_,_,a,Du l c k]
def Zj{b:gV}{e:cr}(a:gR K (.ref C) x=↑(some<|.ref f))(i:nI K (.ref f)=true)(l:K.lookup f=some #[j,m,.func<|i7 x q (vn b) (uP b) (uh b) .none e g pm n d o,h])
 (c:iR K d q=true)(k:iI K (.ref f)=true):Mq K C x q b:=#[_,_,#[a,i,k],Du l c k]
noncomputable def Dq.f{x:Str}{a:gV}(q:Dq K x a):ci:=q.ex.choose
noncomputable def Dq.d{x:Str}{a:gV}(q:Dq K x a):hV:=q.ex.choose_spec.choose
noncomputable def Mq.f{x q:Str}{a:gV}(m:Mq K C x q a):ci:=m.ex.choose
noncomputable def Mq.d{x q:Str}{a:gV}(m:Mq K C x q a):hV:=m.ex.choose_spec.choose
def Dq.fn{a:gV}(q:Dq K x a)(X:K.In h)(G:h.Ns gC j)(c:List Str)
 (b:∀(k e l:cr)(m:Option ci)(g n:cr)(i:List cr),i.length=c.length->rW (i7 x x (vn a) (uP a) (uh a) .none k e l m g n) #[i,[]]=pure (c.zip i)):Fn K j x a c q.f q.d :=
  have h:=q.ex.choose_spec.choose_spec;#[h.2,ig X G h.1,h.2.binds b]
def Mq.fn{a:gV}(m:Mq K C x q a)(c:List Str)
 (b:∀(j e k:cr)(l:Option ci)(g n:cr)(i:List cr),i.length=c.length->rW (i7 x q (vn a) (uP a) (uh a) .none j e k l g n) #[i,[]]=pure (c.zip i)):Mf K C x q a c m.f m.d :=
  have h:=m.ex.choose_spec.choose_spec;#[h.2,h.1,h.2.binds b]
variable[L2.GX]
noncomputable def Fn.fk{x:Str}{h:gV}{a:List Str}{f:ci}{b:hV}{A c d:Type}[Sls A][Sls c][Ow d]{e:Wf A d c}{k:Nat}(N:Fn K g x h a f b)(o:uR P w K g base (vd P w) k f b a (xW T e)):Fk P w K g base T x a e k:=#[f,b,o,N.at_,N.fn.kp,N.bd]
noncomputable def Mf.fm{x q:Str}{g:gV}{a:List Str}{f:ci}{b:hV}{A c d:Type}[Sls A][Sls c][Ow d]{e:Wf A d c}{k:Nat}(N:Mf K C x q g a f b)(o:uR P w K h base (vd P w) k f b a (xW T e)):Fm P w K h base T C x a e k:=#[f,b,o,N.me,N.bd]
end
variable[L2.GX]
def a0d{X:Cx}{E:XK}{T:ci}{f:List Nat}{n:Nat}{D g PO j:Type}[Sls D][Sls g][Sls PO][Ow j]{a:List gV}{w k:D->(g->Prop)->(j->PO->Prop)->(ci->PO->Prop)->Prop}(h:SW X E T f n a w)(i:∀d b c e,k d b c e->w d b c e):SW X E T f n a k :=
 let ⟨t,l,m⟩:=h
 #[t,l,λd F R o H b c e p s q=>m d F R o H b c e p s<|i d b c e q]
end WL
namespace WL
open PySem L2
open Rep (rp)
open Ow (sl)
open Sls (rel)
structure Cq where
 P:gY
 w:il
 K:ga
 mg:Str->Option cr
 base:h8
 T:ci
structure Bz(K:ga):Prop where
 all:gE K gC "all"=↑none
 zip:gE K gC "zip"=↑none
 set:gE K gC "set"=↑none
 sorted:gE K gC "sorted"=↑none
 len:gE K gC "len"=↑none
 list:gE K gC "list"=↑none
 isinstance:gE K gC "isinstance"=↑none
 int:gE K gC "int"=↑none
 bool:gE K gC "bool"=↑none
 range:gE K gC "range"=↑none
 enumerate:gE K gC "enumerate"=↑none
 tuple:gE K gC "tuple"=↑none
 min:gE K gC "min"=↑none
 max:gE K gC "max"=↑none
 str:gE K gC "str"=↑none
structure Bn(mg:Str->Option cr):Prop where
 all:mg "all"=none
 zip:mg "zip"=none
 set:mg "set"=none
 sorted:mg "sorted"=none
 len:mg "len"=none
 list:mg "list"=none
 isinstance:mg "isinstance"=none
 int:mg "int"=none
 bool:mg "bool"=none
 range:mg "range"=none
 enumerate:mg "enumerate"=none
 tuple:mg "tuple"=none
 min:mg "min"=none
 max:mg "max"=none
 str:mg "str"=none
def Bz.bn{K:ga}(X:K.In h)(G:h.Ns gC a)(z:Bz K):Bn a :=
 let f:=λ{x:Str} (e:gE K gC x=some none)=>sv X G e
 #[f z.all,f z.zip,f z.set,f z.sorted,f z.len,f z.list,f z.isinstance,f z.int,f z.bool,f z.range,f z.enumerate,f z.tuple,f z.min,f z.max,f z.str]
variable[L2.GX]
abbrev wx(q:Cq)(x:Str)(c:List Str){A a b:Type}[Sls A][Sls a][Ow b](d:Wf A b a)(k:Nat):=Fk q.P q.w q.K q.mg q.base q.T x c d k
abbrev zd(q:Cq)(C:ci)(x:Str)(c:List Str){A a b:Type}[Sls A][Sls a][Ow b](d:Wf A b a)(k:Nat):=Fm q.P q.w q.K q.mg q.base q.T C x c d k
abbrev Gq(q:Cq)(k:Nat)(f:ci)(c:hV)(d:List Str){A a b:Type}[Sls A][Sls a][Ow b](e:Wf A b a):Prop:=uR q.P q.w q.K q.mg q.base (vd q.P q.w) k f c d<|xW q.T e
abbrev Cv(q:Cq)(x:Str)(a:gV)(f:ci)(b:hV):Prop:=yo q.K x x a f b
@[reducible] def wSq{D c e a b:Type}(h:D->(e->Prop)->(b->a->Prop)->(ci->a->Prop)->Prop)(i:e->(c->Prop)->(b->a->Prop)->(ci->a->Prop)->Prop):D->(c->Prop)->(b->a->Prop)->(ci->a->Prop)->Prop:=λd j f g=>h d (λk=>i k j f g) f g
def ux{c:List Nat}{n:Nat}{D h d b e:Type}[Sls D][Sls h][Sls d][Sls b][Ow e]{i:gV}{a:List gV}{f:D->(d->Prop)->(e->b->Prop)->(ci->b->Prop)->Prop}{g:d->(h->Prop)->(e->b->Prop)->(ci->b->Prop)->Prop}(j:S1 X E T c n i f)(k:SW X E T c n a g)(l:RU b c n:=by exact uQ q0q) :
  SW X E T c n (i::a) (wSq f g):=CS (w1:=f) (w2:=g) l j k
end WL
namespace L2
variable[L2.GX]
open PySem PySem.Spec PyProof.Rows
structure Qa(N P:List Str)(sc:lh)(cl:List (Str×ci)):Prop where
 kind:sc.kind=.function
 co:sc.isCoroutine=false
 gen:sc.isGenerator=false
 nd:N.Nodup
 pre:N.take P.length=P
 par:∀x∈P,sc.names.lookup x=some .local
 AH:∀y∈sc.names,y.2≠.cell
 has:∀x,sc.names.lookup x=some .free->∃c,cl.lookup x=↑c
 inj:∀x y c,cl.lookup x=↑c->cl.lookup y=↑c->x=y
noncomputable def J5(CX:Ov)(P:gY)(w:il)(K:ga)(mg:Str->Option cr)(base:h8)(N:List Str)(qual:Str)(scope:lh)(f:ci)(cd:cr)(cl:List (Str×ci))(A:iW)(outer:List Env)(s:gn)(H:Hp)(E:XK):Cx where
 prog:=P
 w:=w
 K:=K
 mg:=mg
 base:=base
 A:=A.deeper<|io qual scope ⇑s f cd cl
 N:=N
 s₀:=s
 H₀:=H
 env:=io qual scope ⇑s f cd cl
 outer:=outer
 stack:=io qual scope ⇑s f cd cl::outer
 ex:=[]
 calm:=true
 fn:=λ_=>false
 pn:=[]
 xe:=λe s'=>gu (gv P w) (A.deeper<|io qual scope ⇑s f cd cl) (tK (io qual scope ⇑s f cd cl) e) (λ_ Sn=>CX outer H s E e Sn) (λe' Sn=>CX outer H s E e' Sn) s'
section
variable{P:gY}{w:il}{K:ga}{mg:Str->Option cr}{base:h8}{N ps:List Str}{qual:Str}{scope:lh}{f:ci}{cd:cr}{cl:List (Str×ci)}{A:iW}{outer:List Env}{s:gn}{H:Hp}{E:XK}
def Qb:Passes (vd P w) (J5 (vd P w) P w K mg base N qual scope f cd cl A outer s H E) E:=by intro a i j k e l I h;obtain⟨C,x,b,rfl,F,c⟩:=h;exact iA (Pf I rfl rfl F) (λ_ d g=>#[C,x,b,rfl,g,c]) λ_ _ z=>z
def Qc:∀{l:List (Str×d)},(l.map (·.1)).Nodup->(x,u)∈l->l.lookup x=↑u:=by
 intro l
 induction l with
 |nil=>intro _ h;cases h
 |cons p l b =>
  intro a h;rw[gN,List.nodup_cons]at a;obtain⟨y,v⟩:=p;rcases List.mem_cons.mp h with z|z
  ·cases z;rw[hI,oM]
  ·have c:(x==y)=false:=beq_eq_false_iff_ne.mpr λe=>a.1 (by rw[<- e];exact List.mem_map.mpr #[_,z,rfl]);rw[hI,c];exact b a.2 z
def Ix:∀(ps:List b)(a:List c),((ps.zip a).map (·.1)).Sublist ps
 | [],_=>by simp
 |_::_,[]=>by simp
 |p::ps,u::a=>by rw[List.zip_cons_cons,gN];exact(Ix ps a).cons₂ p
def TL{ps:List Str}{i:Nat}(b:ps.Nodup)(c:ps[i]?=↑x)(d:a[i]?=↑u):(ps.zip a).reverse.lookup x=↑u:=by
 refine Qc ?_ ?_
 ·rw[List.map_reverse];refine List.pairwise_reverse.mpr<|oo Ne.symm ?_;exact b.sublist<|Ix ps a
 ·rw[List.mem_reverse];refine List.mem_iff_getElem?.mpr #[i,?_];rw[List.getElem?_zip_eq_some];exact#[c,d]
def J7{j:h8}{D:Nat}{k:List V}(S:Qa N ps scope cl)(C:∀x c,cl.lookup x=↑c->∃v,base.IsCell c v)(F:A.handled=none)(g:HQ P w K mg base A outer s H)(R:k.length=ps.length)(r:Vals k G)
 (I:j.Ns ⇑s (λx=>(ps.zip G).reverse.lookup x))(t:∀b o,s.heap.get? b=↑o->j.get? b=↑o):Inv (J5 J P w K mg base N qual scope f cd cl A outer s H E) [] (start N k) H { s with heap:=j,toks:=D}:=by
  have L:ps.length<=N.length:=by have:=congrArg ng S.pre;rw[kS]at this;lia
  have l:∀b:ci,b∉(J5 J P w K mg base N qual scope f cd cl A outer s H E).ex:=λb z=>gA (show b∈([]:List ci) from z) q0o
  refine#[#[g.mod,S.kind,rfl,rfl,gg _,λy z c j d=>S.inj y z c j d,λy m=>?_,λy c z _=>(by cases z),λ_=>F,rM g.frames,.inr #[rfl,rfl],λb z=>gA z (l b),g.bs,g.HG,λb _ _=>l b,λb z=>gA z (l b),g.xM,g.Jc],
    rfl,g.bare,Un.kept t,#[_,I,λi y v j d T=>?_],λy c h=>?_,g.vc.fresh (gg _),λy c h=>?_,λp n=>gA (show p∈([]:List (ci×Obj)) from n) q0o,g.vc.kept t,?_]
  · have m : scope.names.lookup y = some .cell \/ scope.names.lookup y = some .free := m
    rcases m with m|m
    · exact gA rfl<|S.AH _<|jz m
    · exact S.has y m
  · have q : i<k.length := by
      unfold start at d
      by_cases q:i<k.length
      · exact q
      · rw[jo<|by simpa using q]at d
        rw[rB]at d
        split at d<;>cases d
    have M:k[i]?=↑v:=by
      unfold start at d
      rw[kW (by simpa using q),ja]at d
      cases e:k[i]? with
      |none=>rw[e]at d;cases d
      |some a=>rw[e]at d;cases d;rfl
    refine e1a2 (r.get M) λu O Q=>?_
    have n:ps[i]?=↑y:=by rw[<- S.pre,qX q0a];exact j
    have B:ps.Nodup:=by rw[<- S.pre];exact S.nd.sublist<|tL _ _
    exact#[u,Q,.inl #[S.par y<|jg n,TL B n O]]
  · obtain⟨v, z⟩ := C y c h
    exact#[v,z.keeps λb o e=>t b o (g.bs b o e).1]
  · refine e2a2 (C y c h) λv o z _ => ?_
    exact(g.bs c o z).2
  · unfold start
    show _=N.length
    rw[gz,gm,rX]
    lia
end
def PEA(X:Cx)(c:List gV)(e:hZ)(t:TE):Prop :=
 ∀(a:List (ci×Obj)) (s:gn) (b:St) (H:Hp) (Q:VK),Inv X a b H s->t b H Q->sR (gv X.prog X.w) X.A (.func c X.env) (eval e X.env) (EP X a b Q) X.xe s
def PSA(X:Cx)(c:List gV)(d:gV)(t:TS):Prop :=
 ∀(a:List (ci×Obj)) (s:gn) (b:St) (H:Hp) (D:Ends),Inv X a b H s->t D b H->sR (gv X.prog X.w) X.A (.func c X.env) (exec d X.env) (SP X a D) X.xe s
def Qd(X:Cx)(c:List gV)(d:List gV)(t:TS):Prop :=
 ∀(a:List (ci×Obj)) (s:gn) (b:St) (H:Hp) (D:Ends),Inv X a b H s->t D b H->sR (gv X.prog X.w) X.A (.func c X.env) (execs d X.env) (SP X a D) X.xe s
section
variable{fb:List gV}{pos:Pos}
def Qe{b:gV}(h:PS X b t):PSA X fb b t:=λa s c H D I q=>wpAt_of_wpAny<|h a s c H D I q
def C0{b:List gV}(h:Ez X b t):Qd X fb b t:=λa s c H D I q=>wpAt_of_wpAny<|h a s c H D I q
def xI{e:gV}{a:List gV}(g:PSA X fb e h)(i:Qd X fb a j):Qd X fb (e::a) (Jk h j):=λb s k H D I q=>by
 refine ks_wpAt_execs_cons<|qE (g b s k H _ I q) (λf l c=>?_) λ_ _ z=>z
 cases f with
 |next=>obtain⟨d,m,J,n⟩:=c;exact i b l d m D J n
 |brk=>exact c
 |cont=>exact c
 |ret u=>exact c
def TM(h:PEA X fb e t):PSA X fb (.Return ↑e pos) (VQ t):=λa s b H D I q =>
 ks_wpAt_Return_some (qE (h a s b H _ I q) (λu g c=>e2a3 c λv d J r f=>#[v,b,d,J,r,f]) λ_ _ z=>z)
def DX(h:PEA X fb e t)(c:js e none pos.line X.env=pure false:=by rfl):PSA X fb (.Expr e pos) (HL t):=λa s b H D I q =>
 ks_wpAt_Expr_any (qE (h a s b H _ I q) (λu i d=>e2a3 d λv f J r g=>#[b,f,J,g]) λ_ _ z=>z) I.quiet c
end
structure J8(P:gY)(K:ga)(C f yE cc:ci)(x0:Str):Prop where
 fn:∃(oc:cr)(od:Option ci)(fd:hV) (Na:Array (Option cr)) (ar:Arg),K.lookup f=some #[oc,od,.func fd,Na]/\(fd.params.posonlyargs++fd.params.args).head?=↑ar/\ar.arg=x0
 code:∃(oc:cr)(od:Option ci)(vs:Array cr) (Na:Array (Option cr)) (file:Str) (tf:Tok),K.lookup yE=some #[oc,od,.fields vs,Na]/\vs[2]?=↑(.str file tf)/\((P.main.file:Str)==file)=true
 cell:∃(oc:cr)(od:Option ci) (Na:Array (Option cr)),K.lookup cc=some #[oc,od,.cell<|some<|.ref C,Na]
 cls:∃cd,lY K C=↑cd
 sub:kf K C (.ref C)=↑true
 opq:gE K qD "thirdparty.any"=↑none
 top:(P.main.scope.names.lookup ("super":Str)).isSome=false
def Zk(C:ci)(c:Sp)(E:XK)(t:TA):TE:=λb H Q=>∃a d e,b[0]?=↑(some<|.ref a)/\H a=some (.ins C d e)/\t b H λf g=>c (.ref a::f) g Q E
def Qf(K:ga)(h:ci)(c:Pos)(f:List hZ)(d:Env):Prop:=∀{M:Model} {B:iW} {Q e:cr->gn->Prop} {g:gn} {q a:ci},
 gu M B (tH<|iN c<|gf f d) (λi b=>qF K q h (.ref a) b.heap/\gu M B (call (.ref q) i) Q e b) e g->gu M B (mH c (.ref q) [] (iN c<|gf f d) []) Q e g
def Nz(d e b c:Pos)(m:Str)(f:List hZ):Prop:=∀a:Env,∃h:Sem Bool,eval (.Call (.Attribute (.Call (.Name "super" d) [] [] e) m b) f [] c) a=(do
 let g <- hJ (.Call (.Name "super" d) [] [] e) m a (eval (.Call (.Name "super" d) [] [] e) a)
 mf b.atName
 let (i,first) <- jY [g] (lW g m h)
 mH c i first (iN c (gf f a)) [])
def cw_nil{K:ga}(b:lJ K f2=true):Qf K f2 pos [] c:=λ{M B Q e f q a} h=>by refine oN (P:=qF K q f2<|.ref a) rfl (tz b) ?_;refine am<|iA h (λg i d=>?_) λ_ _ x=>x;refine g8 ?_;exact am<|ap<|am<|ap<|ap d
def cw_cons{K:ga}(f:lJ K f2=true)(g:gf (e::d) b=(false,eval e b)::gf d b:=by rfl)(c:(iN pos<|gf d b).any (·.1)=false:=by rfl):Qf K f2 pos (e::d) b:=λ{M B Q i j q a} h=>by rw[g]at h ⊢;exact oN (P:=qF K q f2<|.ref a) (by show ((false||(iN pos<|gf d b).any (·.1))||false)=false;rw[c];rfl) (tz f)<|iZ h
section
variable{P:gY}{w:il}{K:ga}{mg:Str->Option cr}{base:h8}{N ps:List Str}{qual:Str}{scope:lh}{f yE cc:ci}{A:iW}{outer:List Env}{s:gn}{H:Hp}{E E0:XK}{C f2:ci}{x0 m:Str}{k:Nat}{Zl:hV}{sp:Sp}{fb:List gV}{p0 p1 apos pos:Pos}{es:List hZ}{ta:TA}
set_option tactic.hygienic true in
def Gu(S:J8 P K C f yE cc x0)(ab:N[0]?=↑x0)(M:scope.names.lookup ("super":Str)=some .globalImplicit)(R:scope.names.lookup ("__class__":Str)=some .free)(x:scope.names.lookup x0=some .local)(ae:mg "super"=none)
 (hm:jq K C C m=↑(some<|.ref f2)) (ht:oj K (.ref f2)=↑(.type "function")) (aq:lJ K f2=true) (F:uR P w K mg base (vd P w) k f2 Zl ps sp) (T:Binds K Zl ps [])
 (hr:vM k (A.deeper<|io qual scope ⇑s f (.ref yE) [("__class__",cc)])) (ha:PA (J5 (vd P w) P w K mg base N qual scope f (.ref yE) [("__class__",cc)] A outer s H E) es ta)
 (af:Qf K f2 pos es (io qual scope ⇑s f (.ref yE) [("__class__",cc)])) (y:Nz p0 p1 apos pos m es) (U:(m==("__class__":Str))=false:=by decide) :
    PEA (J5 (vd P w) P w K mg base N qual scope f (.ref yE) [("__class__",cc)] A outer s H E) fb (.Call (.Attribute (.Call (.Name "super" p0) [] [] p1) m apos) es [] pos) (Zk C sp E ta):=by
  intro l i σ H1 Q I h
  obtain⟨a,dx,fs,h0,ea,h⟩:=h
  have X:=I.xX
  obtain⟨oc,od,fd,au,ar,lf,hp,rfl⟩:=S.fn
  obtain⟨av,aw,ax,al,file,tf,lc,ag,B⟩:=S.code
  obtain⟨an,ao,aa,D⟩:=S.cell
  obtain⟨cd,j⟩:=S.cls
  obtain⟨mA,O,_,_,_,_⟩:=AR I.vc ea
  refine e1a2 I.loc λmL hn hl=>?_
  refine e1a2 (hl 0 ar.arg (.ref a) ab h0<|.inl x) λu ru lk=>?_
  obtain rfl:u=gF a:=ru
  have ah:mL ar.arg=↑(.ref a):=by
    rcases lk with⟨_,q⟩|⟨q,_⟩
    · exact q
    · have q : scope.names.lookup ar.arg = some .cell \/ scope.names.lookup ar.arg = some .free := q
      rw[x]at q
      rcases q with q|q<;>cases q
  obtain⟨oD,G,J⟩:∃oD,i.heap.get? C=some oD/\oD.data=.cls cd:=by
    unfold lY at j
    split at j
    · rename_i c d ay sl ho
      cases j
      exact#[_,X _ _ ho,rfl]
    · cases j
  refine e1a2 I.mod.blt λmb ai aj=>?_
  have ne:a≠C:=λz=>by
    have:=O.obj
    rw[z,G]at this
    cases this
    cases J
  obtain⟨pl,y⟩:=y<|io qual scope ⇑s f (.ref yE) [("__class__",cc)]
  refine ks_wpAt_MethodCall (pl:=pl) (ks_wpAt_super_base (env:=io qual scope ⇑s f (.ref yE) [("__class__",cc)]) M R U rfl (X _ _ lf) rfl hp rfl (X _ _ lc) rfl ag B S.top ?_) y
  refine qo I.ok.kind M<|m9 (env:=io qual scope ⇑s f (.ref yE) [("__class__",cc)]) (I.mod.glob.keeps I.bk) ae (ai.keeps I.bk) ((aj _ q0s).trans rfl) #[rfl,?_]
  refine pR I.ok.kind R rfl #[_,X _ _ D,rfl] ?_
  refine jX I.ok.kind x hn ah ?_
  refine ks_wpAny_isType_cls (h:=i.heap) (g:=i.gens) (d:=i.drawn) (t:=i.toks) (os:=i.os) G J #[rfl,?_]
  refine ks_wpAny_call_super (h:=i.heap) (g:=i.gens) (d:=i.drawn) (t:=i.toks) (os:=i.os) G J O.obj rfl (λc e=>by cases e) (oO X S.sub) λn e k'=>?_
  have L:Inv _ l σ H1 #[n,i.gens,i.drawn,i.toks,i.os]:=I.kept (t':=i.toks) k'
  unfold jq at hm
  rw[j]at hm
  obtain⟨of,ak,Y⟩:∃of,n.get? f2=some of/\of.cls=.type "function":=by
    have p:(K.lookup f2).map (·.cls)=↑(.type "function"):=ht
    cases z:K.lookup f2 with
    |none=>rw[z]at p;cases p
    |some of=>rw[z]at p;exact#[of,L.xX _ _ z,iq p]
  refine ks_wpAny_getMethod_super e (rG L.xX S.opq) (l₀:=cd.mro) (λA Q E s k q=>am<|(oF L.xX j) A _ E s k<|ap q) rfl L.xX hm ak Y ne U ?_
  have I2:Inv _ l σ H1 #[n.push { cls:=.type "method",data:=.fields #v[.ref f2,.ref a]},i.gens,i.drawn,i.toks+1,i.os]:=L.kept (t':=i.toks+1) λb o z=>ce _ z
  have fr:H1 n.objs.size=none:=L.vc.fresh<|gg _
  have gq:(n.push { cls:=.type "method",data:=.fields #v[.ref f2,.ref a]}).get? n.objs.size=↑(lF (.ref f2)<|.ref a):=nw rfl rfl
  have I3:=I2.pinned (fp:=[n.objs.size]) (λb T=>by rw[List.mem_singleton.mp T];exact L.FN (gg _) fr) λb T=>by rw[List.mem_singleton.mp T];exact#[_,gq,λv z=>by cases z]
  refine af (a:=a)<|uY (ha pos _ _ σ H1 _ I3 h) λZ s2 z9=>e2a3 z9 λvs H2 I4 r q2=>?_
  have g2:s2.heap.get? n.objs.size=↑(lF (.ref f2)<|.ref a):=(I4.pin (n.objs.size,lF (.ref f2)<|.ref a)<|gI _<|gI _<|wO gk gq).1
  refine#[#[g2,I4.xX],?_]
  have I5:=I4.zl
  have r2:Vals (.ref a::vs) (.ref a::Z):=.cons rfl r
  have hl:(gF a::Z).length=ps.length:=by rw[<- r2.length];exact F.len _ _ _ _ q2
  refine lU<|ks_codeAny_call_bound g2<|jp (F.run _ _ s2 H2 ⟨.ref a::Z,[]⟩ (.ref a::Z) (.ref a::vs) Q E hr I5.HR (by simpa using T s2 (.ref a::Z) I5.xX (by simpa using hl)) r2 q2) λr s' hq=>?_
  cases r with
  |error e=>exact Qb l σ H2 s2 e s' I5 hq
  |ok fl =>
    cases fl with
    |ret u=>exact I5.after hq
    |next=>exact gZ hq
    |brk=>exact gZ hq
    |cont=>exact gZ hq
def Gv{O:cr}(lk:K.lookup f=some #[oc,od,.func<|jO name qual g a scope i dV O F pm an d ct,aa])(R:iR K d qual=true)
 (S:Qa N ps scope i) (hc:∀x c,i.lookup x=↑c->∃o v,K.lookup c=↑o/\o.data=.cell v) (G:∀j H Q E,sp j H Q E->j.length=ps.length)
 (z:∀(A:iW)(outer:List Env)(s:gn)(H:Hp)(j:List V)(Q:VK)(E:XK),vM k (A.deeper (io qual scope ⇑s f d i))->sp j H Q E ->
 ∃t,Qd (J5 (vd P w) P w K mg base N qual scope f d i A outer s H E) a a t/\t { nx:=λ_ p=>Q .vU p,rt:=Q} (start N j) H) :
    uR P w K mg base (vd P w) (k+1) f (jO name qual g a scope i dV O F pm an d ct) ps sp:=by
  refine#[G,λA outer s H args us j Q E T B hb r L=>?_]
  have hl:=G _ _ _ _ L
  have KX:K.In s.heap:=B.mod.AN.keeps λb o e=>(B.bs b o e).1
  have U:s.heap.NoLimit:=B.mod.nolimit.keeps λb o e=>(B.bs b o e).1
  have l:∀x c,i.lookup x=↑c->∃v,base.IsCell c v:=λx c h=>by
    refine e2a2 (hc x c h) λo v q1 q2=>?_
    exact#[v,o,B.mod.AN _ _ q1,q2]
  refine ks_codeAny_call_defAt (fd:=jO name qual g a scope i dV O F pm an d ct) (body:=a) (binds:=ps.zip us) T.depth (KX _ _ lk) rfl U (rY KX R) rfl hb S.AH (λy hy=>S.par y.1 (om hy).1) (λh1 X Y=>?_) S.co S.gen S.kind
  refine e1a2 (z A outer s H j Q E (T.deeper _) L) λt ht hq=>?_
  have I:Inv (J5 (vd P w) P w K mg base N qual scope f d i A outer s H E) [] (start N j) H { s with heap:=h1,toks:=s.toks+(ps.zip us).length}:=J7 S l T.hd B hl r X Y
  refine qE (ht [] _ (start N j) H _ I hq) (λfl Z D=>?_) λe Z D=>D
  have M:∀{n:St} {p:Hp} {v:V} {u:cr},Inv (J5 (vd P w) P w K mg base N qual scope f d i A outer s H E) [] n p Z->RelV v u->Q v p->CE outer P w H s Q u Z :=
    λ{n p v u} J rv q=>#[v,p,J.os,J.bare,J.base,J.vc,rv,q]
  cases fl with
  |ret u =>
    obtain⟨v,n,p,J,rv,q⟩:=D
    exact M J rv q
  |next =>
    refine e2a2 D λn p J q=>?_
    exact M (v:=V.vU) (u:=Value.none) J rfl q
  |brk =>
    refine e2a2 D λ_ _ _ q=>?_
    exact gZ q
  |cont =>
    refine e2a2 D λ_ _ _ q=>?_
    exact gZ q
end
end L2
namespace WL
variable[L2.GX]
open PySem L2
open Rep (rp)
open Ow (sl)
open Sls (rel)
structure xR(N P:List Str)(sc:lh):Prop where
 kind:sc.kind=.function
 co:sc.isCoroutine=false
 gen:sc.isGenerator=false
 nd:N.Nodup
 pre:N.take P.length=P
 par:∀x∈P,sc.names.lookup x=some .local
 AH:∀y∈sc.names,y.2≠.cell
 fr:∀y∈sc.names,y.2=.free->y.1="__class__"
 ks:sc.names.lookup ("super":Str)=some .globalImplicit
 kc:sc.names.lookup ("__class__":Str)=some .free
def xR.x{N P:List Str}{sc:lh}(S:xR N P sc)(cc:ci):Qa N P sc [("__class__",cc)] :=
 #[S.kind,S.co,S.gen,S.nd,S.pre,S.par,S.AH,λx h=>#[cc,by have e:x="__class__":=S.fr _ (jz h) rfl;rw[e];rfl],λx y c h1 h2=>by
  have q:∀{z:Str},([(("__class__":Str),cc)]:List (Str×ci)).lookup z=↑c->z="__class__":=λ{z} h=>by
   by_cases e:(z==("__class__":Str))=true
   ·exact eq_of_beq e
   ·rw[hI,Bool.eq_false_iff.mpr e]at h;cases h
  rw[q h1,q h2]]
structure DY(P:gY)(K:ga)(C:ci)(x qual:Str)(st:gV)(f:ci)(fd:hV):Prop where
 ex:∃(oc:cr)(od:Option ci)(kV doc pm:cr)(an:Option ci)(yE cc:ci)(ct:cr) (Na:Array (Option cr)),
  fd=jO x qual (vn st) (uP st) (uh st) [("__class__",cc)] .none kV doc pm an (.ref yE) ct/\K.lookup f=some #[oc,od,.func fd,Na]/\iR K (.ref yE) qual=true/\J8 P K C f yE cc "self"
 kp:iI K (.ref f)=true
structure Sm(K:ga)(C:ci)(m:Str)(f2:ci):Prop where
 find:jq K C C m=↑(some<|.ref f2)
 ty:oj K (.ref f2)=↑(.type "function")
 fn:lJ K f2=true
structure Fs(P:gY)(w:il)(K:ga)(mg:Str->Option cr)(base:h8)(C:ci)(m:Str)(ps:List Str)(sp:Sp)(k:Nat):Prop where
 ex:∃f2 Zl,Sm K C m f2/\uR P w K mg base (vd P w) k f2 Zl ps sp/\Binds K Zl ps []/\mg "super"=none
def TN{B b i:Type}[Sls B][Sls b][Ow i]{k:Bool}{l:Wf (Bd C k×B) i b}{c:List V}(h:xW T l c H Q E):∃a d m r,c=.ref a::r/\H a=↑(.ins C d m):=by
 obtain⟨F,R,p,o,q,s,_⟩:=h;obtain⟨v,n,t,u,e,_,⟨a,d,w,x,y,z,A,j,_,g⟩,_⟩:=s.rel;subst j
 cases c with
 |nil=>cases e
 |cons v r=>injection e with f j;injection f with f;subst f;exact#[a,d,_,r,rfl,g.ob]
def zC{o:gV}{d:List Str}{k:Nat}{B t X:Type}[Sls B][Sls t][Ow X]{fl:Bool}{u:Wf (Bd C fl×B) X t}{p:List hZ} 
 (F:DY P K C x l o f fd) (S:xR d d (uh o)) (v:uP o=[.Return (some<|.Call (.Attribute (.Call (.Name "super" p0) [] [] p1) m apos) p [] pos) p2]) (Y:d[0]?=↑("self":Str)) (z:Nz p0 p1 apos pos m p) (G:Fs P w K Z base C m d (xW T u) k)
 (ha:∀(g n:ci)(A:iW)(b:List Env)(s:gn)(H:Hp)(E:XK),PA (J5 (vd P w) P w K Z base d l (uh o) f (.ref g) [("__class__",n)] A b s H E) p ta)
 (I:∀(a:ci)(r:List V)(H:Hp)(Q:List V->Hp->Prop),r.length+1=d.length->Q r H->ta ((V.ref a::r).map some) H Q) (J:∀(q:ci)(L:Env),lJ K q=true->Qf K q pos p L) (N:(m==("__class__":Str))=false:=by decide) :
    uR P w K Z base (vd P w) (k+1) f fd d (xW T u):=by
  obtain⟨oc,od,kV,aa,pm,an,g,n,ct,ab,rfl,lk,O,D⟩:=F.ex
  refine e2a4 G.ex λq ae M G hb R=>?_
  obtain⟨o1,o2,o3,i⟩:=D.cell
  refine Gv lk O (S.x n) (λy c h=>?_) G.len λA b s H vs Q E hr j=>?_
  · have e : c = n := by
      by_cases e:(y==("__class__":Str))=true
      · rw[hI, e]at h; cases h; rfl
      · rw[hI, Bool.eq_false_iff.mpr e]at h; cases h
    subst e
    exact#[_,_,i,rfl]
  · have hl := G.len _ _ _ _ j
    obtain⟨a,dx,fs,r,rfl,ea⟩:=TN j
    have U:start d (V.ref a::r)=(V.ref a::r).map some:=by unfold L2.start;rw[hl,pZ];simp
    refine#[Jk (VQ<|Zk C (xW T u) E ta) U4,?_,?_]
    · rw[v]
      exact xI (TM<|Gu D Y S.ks S.kc (S.par _<|jg Y) R M.find M.ty M.fn G hb hr (ha g n A b s H E) (J q _ M.fn) z N)<|C0 yJ
    · rw[U]
      exact#[a,dx,fs,rfl,ea,I a r H _ hl j]
class Fu(D:Type)[Sls D]:Prop where
 fu:∀{F R:Rg} {H:Hp} {d:D} {σ:St},rel F R H d σ->∃vs:List V,σ=vs.map some
instance:Fu Unit:=#[λh=>#[[],h.1]]
instance{τ D:Type}[Ow τ][Sls D][Hs τ][Fu D]:Fu (τ×D):=#[λh=>by
 obtain⟨v,σ',F1,F2,rfl,_,h3,h4⟩:=h;obtain⟨u,rfl⟩:=Hs.has h3;obtain⟨vs,rfl⟩:=Fu.fu h4
 exact#[u::vs,rfl]]
def SWA(X:Cx)(e:List gV)(E:XK)(T:ci)(f:List Nat)(n:Nat)(a:List gV){D c b d:Type}[Sls D][Sls c][Sls b][Ow d](w:D->(c->Prop)->(d->b->Prop)->(ci->b->Prop)->Prop):Prop:=∃t,Qd X e a t/\Vm E T f n t w
def Vy{g:List gV}{c:List Nat}{n:Nat}{D h e b f:Type}[Sls D][Sls h][Sls e][Sls b][Ow f]{i:gV}{a:List gV}{j:D->(e->Prop)->(f->b->Prop)->(ci->b->Prop)->Prop}{k:e->(h->Prop)->(f->b->Prop)->(ci->b->Prop)->Prop}(o:S1 X E T c n i j)(p:SWA X g E T c n a k)(q:RU b c n:=by exact uQ q0q) :
  SWA X g E T c n (i::a) (λd r l m=>j d (λs=>k s r l m) l m) :=
 e1a2 o λx t u=> e1a2 p λy v w=> #[_,xI (Qe t) v,Vn q u w]
def TQ{o:gV}{A:iW}{b:List Env}{s:gn}{fb:List gV}{ms:List Nat}{n k:Nat}{l:List Str}{B t:Type}[Sls B][Sls t]{fl:Bool}{wf:Wf (Bd C fl×B) Unit t}{u:List hZ}{p2:Pos}[Fu B][L:Ln B n]
 (D:J8 P K C f j z "self") (S:xR l l (uh o)) (h0:l[0]?=↑("self":Str)) (J:Nz p0 p1 apos pos m u) (G:Fs P w K mg base C m l (xW T wf) k) (hr:vM k (A.deeper<|io i (uh o) ⇑s f (.ref j) [("__class__",z)]))
 (ha:PA (J5 (vd P w) P w K mg base l i (uh o) f (.ref j) [("__class__",z)] A b s H E) u ta)
 (N:∀(a:ci)(r:List V)(H:Hp)(Q:List V->Hp->Prop),r.length=n->Q r H->ta ((V.ref a::r).map some) H Q) (O:∀(I:ci)(U:Env),lJ K I=true->Qf K I pos u U) (X:(m==("__class__":Str))=false:=by decide) (Y:js (.Call (.Attribute (.Call (.Name "super" p0) [] [] p1) m apos) u [] pos) none p2.line (io i (uh o) ⇑s f (.ref j) [("__class__",z)])=pure false:=by rfl) :
    SWA (J5 (vd P w) P w K mg base l i (uh o) f (.ref j) [("__class__",z)] A b s H E) fb E T ms (n+1) [.Expr (.Call (.Attribute (.Call (.Name "super" p0) [] [] p1) m apos) u [] pos) p2] (λ(d:Bd C fl×B)(Z:t->Prop)(_:Unit->t->Prop) Ke=>wf d (λ_ p=>Z p) Ke):=by
  refine e2a4 G.ex λI ab M G hb aa=>?_
  refine#[_,xI (DX (Gu D h0 S.ks S.kc (S.par _<|jg h0) aa M.find M.ty M.fn G hb hr ha (O I _ M.fn) J X) Y)<|C0 yJ,λd F R σ H1 Z Kr Ke En s1 hw kn kr ke=>?_]
  refine e4a4 (id s1.rel) λv ae F1 F2 e t2 h3 h4=>?_
  obtain⟨a,dx,d1,d2,d3,d4,us,rfl,_,g⟩:=id h3
  obtain⟨r,rfl⟩:=Fu.fu h4
  have hl:=L.ln h4
  rw[gm]at hl
  subst e
  refine#[a,dx,_,rfl,g.ob,N a r H1 _ hl #[F,R,d,λ_ p=>Z p,Ke,s1,hw,λx p' v M1 M2 R' H' q c s' n'=>?_,λC y p' F' R' H' q c s'=>?_]]
  · exact kn p' M2 R' H' _ q (c.less λa h => .inr h) s'<|Ag.refl _ _
  · exact ke C y p' F' R' H' q c (by rw[iQ<|by simp[hl]]; exact s')
def Zm{J:gV}{M:List Str}{k n:Nat}{ms:List Nat}{A PO:Type}[Sls A][Sls PO][L:Ln A n](dp:RU PO ms n){w0:A->(PO->Prop)->(Unit->PO->Prop)->(ci->PO->Prop)->Prop}
 (F:DY P K C x j J f fd) (S:xR M M (uh J)) (hn:M.length=n)
 (r:∀(i u:ci)(A:iW)(b:List Env)(s:gn)(H:Hp)(E:XK),J8 P K C f i u "self"->vM k (A.deeper<|io j (uh J) ⇑s f (.ref i) [("__class__",u)])->SWA (J5 (vd P w) P w K mg base M j (uh J) f (.ref i) [("__class__",u)] A b s H E) (uP J) E T ms n (uP J) w0) :
    uR P w K mg base (vd P w) (k+1) f fd M (xW T λ(p:A)(X:Unit->PO->Prop) N=>w0 p (λY=>X () Y) X N):=by
  have l:∀{o:List V} {H:Hp} {Q:VK} {E:XK},xW T (λ(p:A)(X:Unit->PO->Prop) N=>w0 p (λY=>X () Y) X N) o H Q E->o.length=n:=λh=>by
    obtain⟨F,R,p,Kn,N,s,_⟩:=h
    have:=L.ln s.rel
    rwa [gm]at this
  obtain⟨oc,od,kV,ae,pm,an,i,u,ct,af,rfl,lk,aa,D⟩:=F.ex
  obtain⟨o1,o2,o3,B⟩:=D.cell
  refine Gv lk aa (S.x u) (λy c h=>?_) (λo H Q E h=>(l h).trans hn.symm) λAr b s H o Q E hr Z=>?_
  · have e : c = u := by
      by_cases e:(y==("__class__":Str))=true
      · rw[hI, e]at h; cases h; rfl
      · rw[hI, Bool.eq_false_iff.mpr e]at h; cases h
    subst e
    exact#[_,_,B,rfl]
  refine e1a2 (r i u Ar b s H E D hr) λt h1 h2=>?_
  refine#[t,h1,?_]
  have hl:=l Z
  obtain⟨F,R,p,Kn,N,s0,hw,kn,ke⟩:=Z
  have ab:start M o=o.map some:=by unfold L2.start;rw[hl,hn,pZ];simp
  rw[ab]
  have G:(o.map some).take n=o.map some:=iQ (by rw[gm,hl];exact gg _)
  refine h2 p F R _ H _ Kn N _ s0 hw (λY F' O U I q c d g=>?_) (λx p' v F1 F2 O U q c d m=>?_) λC y p' F' O U q c d=>?_
  · have e' : I.take n = I := iQ (by rw[g.1, gm, hl]; exact gg _)
    have g3:=dp.dp g (show rel F' O U Y (I.take n) by rw[e'];exact d.rel)
    rw[G]at g3
    exact kn () _ .vU (λ_=>False) F' O U q (c.less λa h=>h.elim (λz=>z.elim) id) #[g3,d.sub,d.wD,d.tab,d.ve,d.uS] #[#[λ_ z=>z,.vU,rfl,rfl],λ_ z=>z.elim,λ_ z=>z.elim,λz=>z]
  · rw[G]at d
    exact kn x p' v F1 F2 O U q c d m
  · rw[G]at d
    exact ke C y p' F' O U q c d
def C3(C:ci):Sp:=λi H Q E=>∃p h,i=[.ref p]/\H p=↑(.ins C h []) /\
 ∀c d e f g,(∀a,a=c\/a=d\/a=e\/a=f->H a=none)->[c,d,e,f].Nodup->g p=↑(.ins C h<|xP c d e f 0 true)->(∀a,a=c\/a=d\/a=e\/a=f->g a=↑(.dK []))->(∀b o,b≠p->H b=↑o->g b=↑o)->Q .vU g
def Qg{J:gV}{k:Nat}{p3 p4:Pos}{i:List gV}(F:DY P K C "__init__" q J f fd)(S:xR ["self"] ["self"] (uh J))(ct:Ab K C)(cf:Ob K C)(T:Nz p0 p1 apos pos "__init__" [])
 (U:uP J=.Expr (.Call (.Attribute (.Call (.Name "super" p0) [] [] p1) "__init__" apos) [] [] pos) p2::i) (G:Fs P w K mg base C "__init__" ["self"] (Gp C) k)
 (W:∀X,js (.Call (.Attribute (.Call (.Name "super" p0) [] [] p1) "__init__" apos) [] [] pos) none p2.line X=pure false)
 (Y:∀(j r:ci)(A:iW)(d:List Env)(s:gn)(H:Hp)(E:XK),Ez (J5 (vd P w) P w K mg base ["self"] q (uh J) f (.ref j) [("__class__",r)] A d s H E) i<|Jk (MY K (uT 0) Ds "head_by_tail")<|MY K (uT 0) Ds "tail_by_head") :
    uR P w K mg base (vd P w) (k+1) f fd ["self"] (C3 C):=by
  obtain⟨oc,od,kV,af,pm,an,j,r,ag,ah,rfl,lk,Z,D⟩:=F.ex
  refine e2a4 G.ex λf2 ai M G hB aa=>?_
  obtain⟨o1,o2,o3,l⟩:=D.cell
  refine Gv lk Z (S.x r) (λy c h=>?_) (λvs H Q E z9=>e2a2 z9 λp t e _=>by rw[e];rfl) λAr d s H vs Q E hr ab=>?_
  · have e : c = r := by
      by_cases e:(y==("__class__":Str))=true
      · rw[hI, e]at h; cases h; rfl
      · rw[hI, Bool.eq_false_iff.mpr e]at h; cases h
    subst e
    exact#[_,_,l,rfl]
  refine#[_,by rw[U];exact xI (DX (Gu D rfl S.ks S.kc (S.par _ gk) aa M.find M.ty M.fn G hB hr uI (cw_nil M.fn) T)<|W _)<|C0<|Y j r Ar d s H E,?_]
  obtain⟨p,t,rfl,m,k⟩:=ab
  refine#[p,t,[],rfl,m,p,t,rfl,m,λL N H1 h1 h2 ae g1 g2 g3 g4=>?_]
  intro u v
  have O:p≠u:=uu g1 v
  have q2:L≠u:=uu g2 v
  have q3:N≠u:=uu g3 v
  refine#[_,rfl,p,C,t,_,rfl,(by rw[ui O];exact g1),ct.cl,cf.nH,(by show 3<1000;decide),?_]
  intro B g
  have R:p≠B:=λz=>by rw[<- z,ul]at g;cases g
  rw[ui R.symm]at g
  have r2:B≠u:=λz=>by rw[z,ul]at g;cases g
  rw[ui r2]at g
  have r3:L≠B:=uu g2 g
  have r4:N≠B:=uu g3 g
  refine#[_,rfl,p,C,t,_,rfl,(by rw[ui R,ul]),ct.cl,cf.nT,(by show 4<1000;decide),?_]
  have I:∀{b:ci} {o:HO},H b=↑o->b≠p->H1 b=↑o:=λh n=>g4 _ _ n h
  have z:∀{a:ci},a≠p->H1 a=none->H a=none:=λ{a} n h=>by
    cases e:H a with
    |none=>rfl
    |some o=>rw[I e n]at h;cases h
  refine k L N u B _ (λa ha=>?_) ?_ ?_ (λa ha=>?_) λb o nb Y=>?_
  · rcases ha with e|e|e|e <;> rw[e]
    · exact h1
    · exact h2
    · exact z O.symm v
    · exact z R.symm g
  · simp only[List.nodup_cons, gO, gP, lm, oZ, lP, and_true, not_false_eq_true]
    exact#[#[ae,q2,r3],#[q3,r4],r2.symm]
  · rw[ul]; rfl
  · have pd : p ≠ L := λe => by rw[e, h1]at m; cases m
    have pe:p≠N:=λe=>by rw[e,h2]at m;cases m
    rcases ha with e|e|e|e<;>rw[e]
    · rw[ui pd.symm, ui r3, ui pd.symm, ui q2]; exact g2
    · rw[ui pe.symm, ui r4, ui pe.symm, ui q3]; exact g3
    · rw[ui O.symm, ui r2.symm, ui O.symm, ul]
    · rw[ui R.symm, ul]
  · have e := I Y nb
    rw[ui nb,ui<|uu e g,ui nb,ui<|uu e v]
    exact e
section
variable{D:Type}[Sls D]
def Qh{k:Nat}(M:Mk X.K C f)(F:uR X.prog X.w X.K X.mg X.base (vd X.prog X.w) k f fd ["self"] (C3 C))(hr:vM (k+1) X.A)(hg:Gl X x)(hm:X.mg x=↑(.ref C))(hb:Binds X.K fd ["self"] [])(hx:Passes (vd X.prog X.w) X E)(J:(x==("__debug__":Str))=false:=by decide) :
  EO X E T (.Call (.Name x p) [] [] pos) (λ(d:D)(O:Bd C true->D->Prop) _=>O #[[],[],0,[],[]] d):=by
 refine#[_,Oz M F hr hg hm hb .nil hx J,λd F' R σ H O Ke Q s hw kn _=>?_];intro y c L n m;refine#[y,c,rfl,ul,λg i j l r hn nd P v S=>#[rfl,?_]]
 have N:∀a,a=g\/a=i\/a=j\/a=l->a≠y/\a≠c/\H a=none:=λa ha=>by
  have h:=hn a ha;have U:a≠y:=λz=>by rw[z,ul]at h;cases h
  rw[ui U]at h;have W:a≠c:=λz=>by rw[z,ul]at h;cases h
  rw[ui W]at h;exact#[U,W,h]
 have B:∀a,a∈adr y c g i j l true->a=y\/a=c\/a=g\/a=i\/a=j\/a=l:=λa h=>by simpa[adr] using h
 have G:∀a,a∈adr y c g i j l true->H a=none:=λa h=>(B a h).elim (λz=>by rw[z];exact L) λh=>h.elim (λz=>by rw[z];exact n) λh=>(N a h).2.2;have I:∀b o,H b=↑o->r b=↑o:=λb o q=>S b o (uu q L) (by rw[ui<|uu q L,ui<|uu q n];exact q);have Y:r c=some (.own y):=S c _ m (by rw[ui m,ul]);have hl:∀a,a∈adr y c g i j l true->r a≠none:=λa h=>(B a h).elim (λz=>by rw[z,P];simp) λh=>h.elim (λz=>by rw[z,Y];simp) λh=>by rw[v a h];simp
 have Z:Ext (λ_=>False) R H (λa=>R a\/a∈adr y c g i j l true) r:=#[λb o _ h=>I b o h,λa h=>h.elim .inl λq=>.inr<|G a q]
 refine kn _ d (.ref y) (λa=>a∈adr y c g i j l true) F' (λa=>R a\/a∈adr y c g i j l true) r hw #[λb o _ _ h=>I b o h,Z.new,λa h=>h.elim (λq=>.inr<|G a q) .inl,λa h _=>.inl h]
  #[Sls.st s.rel Z (λ_ z=>z.elim)<|λ_ _ z=>z,λa h=>.inl<|s.sub a h,λa h=>h.elim (λz=>?_)<|hl a,?_,.inl s.ve,s.uS] ⟨⟨y,c,g,i,j,l,[],rfl,λ_=>Iff.rfl,#[?_,P,Y,v _<|.inl rfl,v _<|.inr<|.inl rfl,.nil,λ_=>v _<|.inr<|.inr<|.inl rfl,λ_=>v _<|.inr<|.inr<|.inr rfl]⟩,λa h=>.inr h,λa h z=>s.wD a (s.sub a z)<|G a h,λh=>yy s.tab<|G T h⟩
 ·cases e:H a with
  |none=>exact gA e<|s.wD a z
  |some u=>rw[I a u e];simp
 ·refine e1a2 s.tab λps e t=>?_;exact#[ps,I _ _ e,t]
 ·show [y,c,g,i,j,l].Nodup;refine List.nodup_cons.mpr #[λh=>?_,List.nodup_cons.mpr #[λh=>?_,nd]]
  ·rcases List.mem_cons.mp h with z|z
   ·exact m z.symm
   ·exact(N y<|by simpa using z).1 rfl
  ·exact(N c<|by simpa using h).2.1 rfl
end
section
variable{X:Cx}{scope:lh}{T:List Str}{i j:Nat}{x y:Str}{c d:ci}
/-- the scope of a comprehension Zn reads nothing,one name,two names from around it -/
def X1(a:scope.kind=.function/\nK scope X.env=pure []:=by exact#[rfl,rfl])
 (b:(∀z∈scope.names,z.2≠.cell)/\(∀z∈scope.names,z.2=.local->scope.names.lookup z.1=some .local)/\∀z∈scope.names,z.2≠.free:=by refine#[?_,?_,?_]<;>decide +kernel):yh X scope [] T [] [] :=
  #[a.1,a.2,b.1,b.2.1,(λ_ _ h=>by cases h),λz f e=>gA e<|b.2.2 z f,(λj z h=>by cases h),rfl]
def RV(a:scope.kind=.function/\nK scope X.env=pure [(x,c)]/\X.env.cells.lookup x=↑c/\X.N[i]?=↑x/\X.env.kindOf x=some .cell/\(og scope X.env).names.lookup x=some .cell:=by exact#[rfl,rfl,rfl,rfl,rfl,rfl])
 (b:(∀z∈scope.names,z.2≠.cell)/\(∀z∈scope.names,z.2=.local->scope.names.lookup z.1=some .local)/\∀z∈scope.names,z.2=.free->z.1=x:=by refine#[?_,?_,?_]<;>decide +kernel):yh X scope [(x,c)] T [x] [i] :=
  have f:∀{z:Str},z=x->jF z [(x,c)]=↑c:=λ{z} e=>by rw[e,hI,oM]
  #[a.1,a.2.1,b.1,b.2.1,(λz e h=>(lkc h).elim (λq=>by rw[q.1,q.2];exact a.2.2.1) λq=>by cases q),λz g e=>#[c,f (b.2.2 z g e)],(λk z h=>by
    cases k with
    |zero=>cases h;exact#[i,c,rfl,a.2.2.2.1,.inl a.2.2.2.2.1,f rfl,.inl a.2.2.2.2.2]
    |succ k=>cases h),rfl]
def bs2(a:scope.kind=.function/\nK scope X.env=pure [(y,d),(x,c)]/\X.env.cells.lookup x=↑c/\X.env.cells.lookup y=↑d/\X.N[i]?=↑x/\X.N[j]?=↑y/\X.env.kindOf x=some .cell/\X.env.kindOf y=some .cell/\(og scope X.env).names.lookup x=some .cell/\(og scope X.env).names.lookup y=some .cell:=by exact#[rfl,rfl,rfl,rfl,rfl,rfl,rfl,rfl,rfl,rfl])
 (b:(∀z∈scope.names,z.2≠.cell)/\(∀z∈scope.names,z.2=.local->scope.names.lookup z.1=some .local)/\(∀z∈scope.names,z.2=.free->z.1=x\/z.1=y)/\¬x=y:=by refine#[?_,?_,?_,?_]<;>decide +kernel):yh X scope [(y,d),(x,c)] T [x,y] [i,j] :=
  have f:∀{z:Str},z=y->jF z [(y,d),(x,c)]=↑d:=λ{z} e=>by rw[e,hI,oM]
  have g:∀{z:Str},z=x->jF z [(y,d),(x,c)]=↑c:=λ{z} e=>by rw[e,hI,beq_eq_false_iff_ne.mpr b.2.2.2,hI,oM]
  #[a.1,a.2.1,b.1,b.2.1,(λz e h=>(lkc h).elim (λq=>by rw[q.1,q.2];exact a.2.2.2.1) λh=>(lkc h).elim (λq=>by rw[q.1,q.2];exact a.2.2.1) λq=>by cases q),λz l e=>(b.2.2.1 z l e).elim (λq=>#[c,g q]) λq=>#[d,f q],(λk z h=>by
    cases k with
    |zero=>cases h;exact#[i,c,rfl,a.2.2.2.2.1,.inl a.2.2.2.2.2.2.1,g rfl,.inl a.2.2.2.2.2.2.2.2.1]
    |succ k=>cases k with
      |zero=>cases h;exact#[j,d,rfl,a.2.2.2.2.2.1,.inl a.2.2.2.2.2.2.2.1,f rfl,.inl a.2.2.2.2.2.2.2.2.2]
      |succ k=>cases h),rfl]
end
structure Dc(α:Type) where
 l:List (Int×α)
def PK{α:Type}[Rep α](R:Rg)(H:Hp):List (Int×α)->List (Key×V)->Prop:=Paired λe u=>u.1=gQ e.1/\rp R H e.2 u.2
section
variable{α:Type}[Rep α]
def Qi(e:Ext R R H b c):∀{l:List (Int×α)} {a:List (Key×V)},PK R H l a->PK b c l a:=by
 intro _ _ z
 induction z with
 |nil=>exact .nil
 |cons h t d=>exact .cons #[h.1,Rep.st h.2 e] d
def J9{k:Int}:∀{l:List (Int×α)} {us:List (Key×V)},PK R H l us->(∀b,lk l k=↑b->∃v,xD us (gQ k)=↑v/\rp R H b v)/\(lk l k=none->xD us (gQ k)=none):=by
 intro z0 z1 z9
 induction z9 with
 |nil=>exact#[(λb h=>by cases h),λ_=>rfl]
 | @cons e u l us h t WV =>
  have i:=WV;by_cases q:e.1=k
  ·have e1:lk (e::l) k=↑e.2:=by unfold lk;rw[ij,decide_eq_true q];rfl
   rw[e1];refine#[λb hb=>?_,(λz=>by cases z)];cases hb;exact#[u.2,yq (by rw[h.1,q]),h.2]
  ·have e1:lk (e::l) k=lk l k:=by unfold lk;rw[ij,gH q]
   rw[e1,yr<|by rw[h.1];intro z;exact q<|mP z];exact i
def Mc{k:Int}{l:List (Int×α)}{us:List (Key×V)}(h:PK R H l us):(xD us<|gQ k).isSome=(lk l k).isSome:=by
 have i:=J9 (k:=k) h
 cases e:lk l k with
 |none=>rw[i.2 e];rfl
 |some b=>obtain⟨v,hv,_⟩:=i.1 b e;rw[hv];rfl
def Ka:∀{l:List (Int×α)} {a:List (Key×V)},PK R H l a->a.length=l.length
 |_,_,.nil=>rfl
 |_,_,.cons _ t=>by rw[gK,gK,Ka t]
def Qj{k:Int}{x:α}{v:V}(r:rp R H x v):∀{l:List (Int×α)} {us:List (Key×V)},PK R H l us->PK R H (l++[(k,x)]) (us++[(gQ k,v)])
 |_,_,.nil=>.cons #[rfl,r] .nil
 |_,_,.cons h t=>.cons h<|Qj r t
def WY{k:Int}{x:α}{v:V}(r:rp R H x v):∀{l:List (Int×α)} {us:List (Key×V)},PK R H l us->PK R H (l.map λe=>if e.1=k then (e.1,x) else e) (us.map λkv=>if kv.1=gQ k then (kv.1,v) else kv):=by
 intro z0 z1 z9
 induction z9 with
 |nil=>exact .nil
 | @cons e u l us h t WV =>
  refine .cons ?_<|WV;dsimp only;by_cases q:e.1=k
  ·rw[f9 q,f9<|by rw[h.1,q]];exact#[h.1,r]
  ·rw[gc q,gc<|by rw[h.1];intro z;exact q<|mP z];exact h
def Qk{k:Int}(r:rp R H x v){l:List (Int×α)}{us:List (Key×V)}(h:PK R H l us):PK R H (pk l k x) (putK us (gQ k) v):=by
 unfold putK pk;rw[zr,Mc h]
 cases (lk l k).isSome with
 |true=>rw[f9 rfl,f9 rfl];exact WY r h
 |false=>rw[gc gw,gc gw];exact Qj r h
end
instance{α:Type}[Rep α]:Ow (Dc α):=#[λF R H x v=>∃a us,v=↑(.ref a)/\(∀b,F b↔b=a)/\H a=↑(.dK us)/\PK R H x.l us,
 λh e s n=>by
  refine e2a4 h λa us h1 h2 h3 h4=>?_
  exact#[a,us,h1,h2,e.keep a _ (n a<|(h2 a).mpr rfl) h3,Qi (e.wide s) h4],
 λh e=>by
  refine e2a4 h λa us h1 h2 h3 h4=>?_
  exact#[a,us,h1,λb=>(e b).symm.trans (h2 b),h3,h4]]
instance{α:Type}[Rep α]:Hs (Dc α):=#[λz9=>e2a2 z9 λ_ _ h _=>#[_,h]]
section
variable{D PO τ:Type}[Sls D][Sls PO][Ow τ]{α:Type}[Rep α]
def C4{i:Nat}[Sls c][A:At i D (Dc α) c](s:vw T F R H d e):∃a b,e[i]?=↑(some<|.ref a)/\H a=↑(.dK b)/\PK R H (A.get d).l b:=by obtain⟨v,j,k,f,m,⟨a,b,rfl,n,g,h⟩,o⟩:=A.take s.rel;exact#[a,b,f,g,h]
def Ql{i:Nat}[Sls w][A:At i D (Dc α) w][U:Pt i w (Dc α) D](s:vw T F R H d x):∃a g,x[i]?=↑(some<|.ref a)/\H a=↑(.dK g)/\PK R H (A.get d).l g /\
  ∀(j:List (Int×α)) (f:List (Key×V)),PK R H j f->Ch T F R H F R (upd H a<|.dK f)/\vw T F R (upd H a<|.dK f) (U.put (A.hole d) #[j]) x:=by
 obtain⟨v,N,O,y,m,⟨a,g,rfl,p,E,G⟩,I⟩:=A.take s.rel;have r:F a:=(m.all a).mpr<|.inl<|(p a).mpr rfl;have J:a≠T:=λz=>s.uS (by rw[<- z];exact r);refine#[a,g,y,E,G,λj f L=>?_];have B:=yR (F:=F) (R:=R) (H:=H) (a:=a) (o:=.dK f);have C:∀c,c=a->R c:=λc z=>by rw[z];exact s.sub a r
 have k:∀b u,b≠a->H b=↑u->upd H a (.dK f) b=↑u:=λb u z e=>by rw[ui z];exact e
 refine#[#[λb o n _ e=>k b o (λz=>n<|by rw[z];exact r) e,λ_ h=>.inl h,λ_ h=>.inl h,λ_ h _=>h],Pt.same (A:=U) (Sls.st I B C λc z q=>m.xy c ((p c).mpr q) z) y m #[a,f,rfl,p,ul,Qi (B.wide C) L],s.sub,λc z=>?_,?_,s.ve,s.uS]
 ·by_cases e:c=a
  ·rw[e,ul];simp
  ·rw[ui e];exact s.wD c z
 ·refine e1a2 s.tab λM e t=>?_;exact#[M,k _ _ (λz=>J z.symm) e,t]
def DZ{a:hZ}(i:Nat){D0:Type}[Sls D0][A:At i D (Dc α) D0]{wk:Wf D Int D}(hu:X.A.units+1<jS)(hn:PE X (.Name x p1) (uT i))(hk:EW X E T a wk)(hs:OK a:=by intro _ _;rfl) :
  EW X E T (.Subscript (.Name x p1) a pos) (λ(d:D)(Kn:α->D->Prop) Ke=>wk d (λk d1=>∃v,lk (A.get d1).l k=↑v/\Kn v d1) Ke):=by
 refine e1a2 hk λta a1 a2=>?_;refine#[_,FR hu hn a1 hs,λd F R σ H Kn Ke Q s hw kn ke=>?_];obtain⟨y0,us0,h1,_,_⟩:=C4 (i:=i) s;refine#[_,h1,a2 d F R σ H _ Ke _ s hw (λk d1 u F1 R1 H1 q1 c1 s1 r1=>?_) ke];subst r1;obtain⟨y,us,g1,g2,g3⟩:=C4 (i:=i) s1;rw[h1]at g1;cases g1;refine e1a2 q1 λz z1 z2=>?_;refine e1a2 ((J9 g3).1 z z1) λv v1 v2=>?_;have g:=xo.k (k:=gQ k) g2;rw[v1]at g;exact#[_,v,rfl,g,kn z d1 v F1 R1 H1 z2 c1 s1 v2]
def Qm(i:Nat){B:Type}[Sls B][A:At i D (Dc α) B][U:Pt i B (Dc α) D][J:Pj D PO n]{M:Wf D Int D}{N:Wf D α D}(hu:X.A.units+1<jS)(hn:PE X (.Name x O) (uT i))(hk:EW X E T a M)(he:EW X E T e N)
 (hs:js e (some<|.Subscript (.Name x O) a p3) pos.line X.env=pure false:=by rfl) :
    S1 X E T ms n (.Assign [.Subscript (.Name x O) a p3] e pos) (λ(d:D)(P:D->Prop)(Kr:τ->PO->Prop) j=>N d (λv I=>M I (λk r=>(A.get r).l.length<gh/\P (U.put (A.hole r) #[pk (A.get r).l k v])) λC f=>j C<|J.pj f) λC f=>j C<|J.pj f):=by
  refine e1a2 hk λta a1 a2=>?_
  refine e1a2 he λte b1 b2=>?_
  have Q:∀{F R g h:Rg} {H b:Hp} {C y:ci} {f:D} {m:St} {j:ci->PO->Prop},(∀C y S g h b,j C S->Ch T F R H g h b->vw T g h b S (m.take n)->E (.ref C) ↑y b)->j C (J.pj f)->Ch T F R H g h b->vw T g h b f m->E (.ref C) ↑y b:=λt q c p=>by
    refine e1a2 (vX (PO:=PO) p) λG z L=>?_
    exact t _ _ _ G _ _ q (c.less z) L
  refine#[_,FS hu hn a1 b1 hs,λd F R m H P Kr j En s hw kn kr t=>b2 d F R m H _ _ _ s hw (λv I u F1 R1 H1 q1 W o r1=>?_) λC y f g h b q c p=>Q t q c p]
  obtain⟨y0,aa,Y,_,_⟩:=C4 (i:=i) o
  refine#[_,Y,a2 I F1 R1 m H1 _ _ _ o q1 (λk r w F2 R2 H2 Z c2 s2 r2=>?_) λC y f g h b q c p=>Q t q (Ch.trans s o.tab W c) p]
  subst r2
  refine e2a4 (Ql (i:=i) s2) λy us z L g3 g4=>?_
  rw[Y]at z
  cases z
  obtain⟨c3,s3⟩:=g4 _ _<|Qk (k:=k) (o.val c2 r1) g3
  exact#[_,_,rfl,FQ.k (k:=gQ k) L (by rw[Ka g3];exact Z.1),kn _ F2 R2 _ m Z.2 (Ch.trans s o.tab W<|Ch.trans o s2.tab c2 c3) s3<|Ag.refl _ _]
end
section
variable{D PO τ:Type}[Sls D][Sls PO][Ow τ]{α β:Type}[Rep α][Rep β]
def Fq{i:Nat}[Sls c][A:At i D (List Int) c](s:vw T F R H d e):∃a,e[i]?=↑(some<|.ref a)/\H a=↑(.lst<|(A.get d).map V.int):=by obtain⟨v,h,j,f,_,⟨_,u,rfl,a,k,rfl,_,b,g⟩,_⟩:=A.take s.rel;rw[paired_ints g]at b;exact#[a,f,b]
def TR(i j:Nat)[Sls D1][Sls D2][A:At i D (List Int) D1][B:At j D (List Int) D2](u:X.calm=true)(v:Gl X "sorted")(C:X.mg "sorted"=none)(L:Gl X "set")(M:X.mg "set"=none)(hn:PE X (.Name x c) (uT i))(G:PE X (.Name y e) (uT j))
 (f:gf [.Name x c] X.env=(false,eval (.Name x c) X.env)::gf [] X.env:=by rfl) (g:gf [.Name y e] X.env=(false,eval (.Name y e) X.env)::gf [] X.env:=by rfl)
 (h:gf [.BinOp (.Call (.Name "set" N) [.Name x c] [] O) .BitXor (.Call (.Name "set" P) [.Name y e] [] S) W] X.env=(false,eval (.BinOp (.Call (.Name "set" N) [.Name x c] [] O) .BitXor (.Call (.Name "set" P) [.Name y e] [] S) W) X.env)::gf [] X.env:=by rfl) :
    EO X E T (.Call (.Name "sorted" q1) [.BinOp (.Call (.Name "set" N) [.Name x c] [] O) .BitXor (.Call (.Name "set" P) [.Name y e] [] S) W] [] pos)
      (λ(d:D)(Y:OL Int->D->Prop) _=>(vE (A.get d)/\vE (B.get d)/\∃U:List Int,U.length<64/\(∀k∈A.get d,k∈U)/\∀k∈B.get d,k∈U)/\Y #[xr (A.get d)<|B.get d] d):=by
  refine#[_,wj (A4 u) v C jH (ut (wg SR (wP (Ie u) L M m8 (ut hn uI f) (he:=f))<|wP (Ie u) L M m8 (ut G uI g) (he:=g)) uI h) (he:=h),λd F R σ H Y Ke Q s hw kn ke=>?_]
  obtain⟨⟨Z,rb,U,hU,ua,ub⟩,o⟩:=hw
  have la:=vK Z ua
  have lb:=vK rb ub
  refine e1a2 (Fq (i:=i) s) λa a1 a2=>?_
  refine#[_,a1,a,A.get d,rfl,vJ.of a2,q0a,λp ka hp aa ab ma=>?_]
  refine e0a3 (s.new (wC X.w p ka) hp) λt c1 _=>?_
  refine e1a2 (Fq (i:=j) t) λb b1 b2=>?_
  refine#[_,b1,b,B.get d,rfl,vJ.of b2,q0a,λq kb hq ae af mb=>?_]
  refine e0a3 (t.new (wC X.w q kb) hq) λI c2 _=>?_
  have J:p≠q:=uu ul hq
  refine#[p,q,ka,kb,rfl,rfl,by rw[ui J];exact ul,ul,q0a,λr m hr n mc=>?_]
  refine e0a3 (I.new (wC X.w r m) hr) λs3 c3 _=>?_
  have mm:∀k,k∈m↔k∈xr (A.get d) (B.get d):=λk=>by
    rw[mc,yi<|ur rb,ma,mb]
    by_cases h1:k∈A.get d<;>by_cases h2:k∈B.get d<;>simp[h1,h2]
  have lc:m.length<64:=by
    have:=SX.yu m U n λk o=>by
      rw[mc,ma,mb]at o
      exact o.elim (λz=>ub k z.1) λz=>ua k z.2
    lia
  refine#[r,m,rfl,ul,lc,λl ns hl pn sn=>?_]
  rw[DE pn sn,DP n mm<|uX Z]
  refine e1a3 (wR s3 hl<|xj (R:=R)<|xr (A.get d)<|B.get d) λR' c4 s4 n4=>?_
  exact kn _ d _ _ F R' _ o (Ch.trans s t.tab c1<|Ch.trans t I.tab c2<|Ch.trans I s3.tab c3 c4) s4 n4
end
structure T3(α β γ:Type) where
 a:α
 b:β
 c:γ
instance{α β γ:Type}[Ow α][Ow β][Ow γ]:Ow (T3 α β γ):=#[λF R H x v=>∃p u1 u2 u3 F1 F2 F3,v=↑(.ref p)/\¬R p/\H p=↑(.tup [u1,u2,u3])/\DI F F1 F2 F3/\sl F1 R H x.a ↑u1/\sl F2 R H x.b ↑u2/\sl F3 R H x.c ↑u3,
 λh e s n=>by
  obtain⟨p,u1,u2,u3,F1,F2,F3,h1,h2,h3,t,g1,g2,g3⟩:=h
  exact#[p,u1,u2,u3,F1,F2,F3,h1,(e.wide s).not h2 h3,e.keep p _ (λz=>h2<|s p z) h3,t,Ow.st g1 e s λa z=>n a<|(t.all a).mpr<|.inl z,Ow.st g2 e s λa z=>n a<|(t.all a).mpr<|.inr<|.inl z,Ow.st g3 e s λa z=>n a<|(t.all a).mpr<|.inr<|.inr z],
 λh e=>by
  obtain⟨p,u1,u2,u3,F1,F2,F3,h1,h2,h3,t,g⟩:=h
  exact#[p,u1,u2,u3,F1,F2,F3,h1,h2,h3,#[λa=>(e a).symm.trans (t.all a),t.HB,t.Je,t.Jf],g]]
section
variable{D PO τ:Type}[Sls D][Sls PO][Ow τ]{α β γ:Type}[Ow α][Ow β][Ow γ]
def TU{x1}(i j k:Nat)[Sls D'][Sls P][Sls Q][Sls S][Hs α][Hs β][Hs γ][g:At i D α P][l:At j P β Q][t:At k Q γ S][J:Pj S PO n](u:PE X (.Name x v) (uT i))(w:PE X (.Name y m) (uT j))(A:PE X (.Name z e) (uT k))
 (h1:gf [.Name x v,.Name y m,.Name z e] X.env=(false,eval (.Name x v) X.env)::gf [.Name y m,.Name z e] X.env:=by rfl) (h2:gf [.Name y m,.Name z e] X.env=(false,eval (.Name y m) X.env)::gf [.Name z e] X.env:=by rfl) (h3:gf [.Name z e] X.env=(false,eval (.Name z e) X.env)::gf [] X.env:=by rfl) :
    S1 X E T ms n (.Return (some<|.Tuple [.Name x v,.Name y m,.Name z e] x1 p4) pos) (λ(d:D)(_:D'->Prop)(U:T3 α β γ->PO->Prop) _=>U #[g.get d,l.get<|g.hole d,t.get<|l.hole<|g.hole d]<|J.pj<|t.hole<|l.hole<|g.hole d):=by
  refine#[_,BG<|Ot<|ut u (ut w (ut A uI h3) h2) h1,λd F R σ H Kn U Ke En s hw kn kr ke=>?_]
  refine e3a4 (g.take s.rel) λ_ G1 G2 W b g1 r1=>?_
  obtain⟨B,rfl⟩:=Hs.has g1
  refine e3a4 (l.take r1) λ_ _ _ Y _ g2 r2=>?_
  obtain⟨C,rfl⟩:=Hs.has g2
  refine e3a4 (t.take r2) λ_ _ _ Z _ g3 _=>?_
  obtain⟨I,rfl⟩:=Hs.has g3
  refine#[B,W,C,Y,I,Z,(by show 3<=gh;decide),λp hp=>?_]
  refine e0a3 (s.new (.tup [B,C,I]) hp) λL c1 n1=>?_
  refine e3a4 (g.take L.rel) λv1 o E1 b1 b k1 q1=>?_
  refine e3a4 (l.take q1) λv2 q E2 b2 c k2 q2=>?_
  refine e3a4 (t.take q2) λv3 r E3 b3 f k3 q3=>?_
  rw[W]at b1
  rw[Y]at b2
  rw[Z]at b3
  cases b1
  cases b2
  cases b3
  refine e1a2 (J.le q3) λG l1 l2=>?_
  have i1:∀a,o a->F a:=λa h=>(b.all a).mpr<|.inl h
  have i2:∀a,q a->F a:=λa h=>(b.all a).mpr<|.inr<|(c.all a).mpr<|.inl h
  have i3:∀a,r a->F a:=λa h=>(b.all a).mpr<|.inr<|(c.all a).mpr<|.inr<|(f.all a).mpr<|.inl h
  have M:∀a,G a->F a:=λa h=>(b.all a).mpr<|.inr<|(c.all a).mpr<|.inr<|(f.all a).mpr<|.inr<|l1 a h
  have dG:∀a,o a\/q a\/r a->¬G a:=λa h z=>by
    have N:=l1 a z
    rcases h with h|h|h
    · exact b.xy a h<|(c.all a).mpr<|.inr<|(f.all a).mpr<|.inr N
    · exact c.xy a h<|(f.all a).mpr<|.inr N
    · exact f.xy a h N
  have O:∀a,o a\/q a\/r a->F a:=λa h=>h.elim (i1 a) λh=>h.elim (i2 a)<|i3 a
  exact kr _ _ (.ref p) (λa=>o a\/q a\/r a) G R _ hw #[c1.keep,λ_ h=>.inl h,λa h=>.inl<|h.elim (O a)<|M a,λ_ h _=>h] #[l2,λa h=>s.sub a<|M a h,L.wD,L.tab,s.ve,λh=>s.uS<|M T h]
    #[#[p,B,C,I,o,q,r,rfl,n1,ul,#[λ_=>Iff.rfl,λa h k=>b.xy a h<|(c.all a).mpr<|.inl k,λa h k=>b.xy a h<|(c.all a).mpr<|.inr<|(f.all a).mpr<|.inl k,λa h k=>c.xy a h<|(f.all a).mpr<|.inl k],k1,k2,k3],λa h=>s.sub a<|O a h,λa h z=>dG a h z,λh=>s.uS<|O T h]
def TV(i j k:Nat){Z5 WI σ3 D0 D1 D2 D3 D4 D5:Type}[Ow Z5][Ow WI][Ow σ3][Sls D0][Sls D1][Sls D2][Sls D3][Sls D4][Sls D5][A:At i D Z5 D0][U:Pt i D0 α D1][A2:At j D1 WI D2][U2:Pt j D2 β D3][A3:At k D3 σ3 D4][U3:Pt k D4 γ D5][J:Pj D PO n]{we:Wf D (T3 α β γ) D}
 (hp:PG X tg (VU X.K 3<|EY (Cf i)<|EY (Cf j)<|EY (Cf k) VT)) (hi:i∉ms) (hj:j∉ms) (hk:k∉ms) (he:EO X E T e we)
 (hb:∀{te:TE} {t:TG},PE X e te->PG X tg t->PS X (.Assign [tg] e pos) (VW te t):=by intro te t h1 h2;exact Jl h1 h2) :
    S1 X E T ms n (.Assign [tg] e pos) (λ(d:D)(Kn:D5->Prop)(Kr:τ->PO->Prop) Ke=>we d (λx d1=>Kn<|U3.put (A3.hole<|U2.put (A2.hole<|U.put (A.hole d1) x.a) x.b) x.c) λC d'=>Ke C<|J.pj d'):=by
  refine e1a2 he λt h1 h2=>?_
  refine#[_,hb h1 hp,λd F R σ H Kn Kr Ke En s hw kn kr ke=>h2 d F R σ H _ _ _ s hw (λx d1 v F1 F2 R1 H1 q1 c1 s1 m1=>?_) λC y d' F' R' H' q c s'=>?_]
  · obtain⟨p, u1, u2, u3, G1, G2, G3, e1, e2, e3, t3, g1, g2, g3⟩ := m1.is
    cases e1
    have j1:∀a,G1 a->F1 a:=λa h=>(t3.all a).mpr<|.inl h
    have j2:∀a,G2 a->F1 a:=λa h=>(t3.all a).mpr<|.inr<|.inl h
    have j3:∀a,G3 a->F1 a:=λa h=>(t3.all a).mpr<|.inr<|.inr h
    refine e1a2 (Fi (i:=i) s1 (x:=x.a) (v:=u1) (F1:=G1) #[g1,λa h=>m1.sub a<|j1 a h,λa h z=>m1.xy a (j1 a h) z,λh=>m1.tab<|j1 T h]) λL1 k1 f1=>?_
    refine e1a2 (Fi (i:=j) f1 (x:=x.b) (v:=u2) (F1:=G2) #[g2,λa h=>m1.sub a<|j2 a h,λa h z=>(k1 a z).elim (λq=>t3.HB a q h)<|m1.xy a<|j2 a h,λh=>m1.tab<|j2 T h]) λL2 k2 f2=>?_
    refine e1a2 (Fi (i:=k) f2 (x:=x.c) (v:=u3) (F1:=G3) #[g3,λa h=>m1.sub a<|j3 a h,λa h z=>(k2 a z).elim (λq=>t3.Jf a q h) λz=>(k1 a z).elim (λq=>t3.Je a q h)<|m1.xy a<|j3 a h,λh=>m1.tab<|j3 T h]) λL3 k3 f3=>?_
    exact#[p,[u1,u2,u3],rfl,yD.of e3,rfl,u1,[u2,u3],rfl,u2,[u3],rfl,u3,[],rfl,rfl,kn _ L3 R1 H1 _ q1 (c1.less λa h=>(k3 a h).elim (λq=>.inl<|j3 a q) λh=>(k2 a h).elim (λq=>.inl<|j2 a q) λh=>(k1 a h).elim (λq=>.inl<|j1 a q) .inr) f3<|((Ag.set hi).trans<|Ag.set hj).trans<|Ag.set hk]
  · refine e1a2 (vX (PO := PO) s') λG g1 g2 => ?_
    exact ke C y _ G R' H' q (c.less g1) g2
end
end WL
namespace L2
variable[L2.GX]
open PySem PySem.Spec PyProof.Rows
noncomputable abbrev wT(X:Cx)(a:List (ci×Obj))(h:XK)(i:St->Prop):Cx :=
 { X with pn:=a,xe:=λe j=>∃(b:List (ci×Obj)) (c:St) (d:Hp) (f:gn) (C x:ci) (g:Hp),e=.ref x/\Inv { X with pn:=a} b c d f/\i c/\DA X.prog X.w X.stack d f g C x j/\h (.ref C) ↑x g}
def Inv.WZ(I:Inv X a b H s):Inv (wT X (X.pn++a) d e) [] b H s :=
 #[#[I.ok.mod,I.ok.kind,I.ok.glob,I.ok.blt,I.ok.above,I.ok.inj,I.ok.has,I.ok.N7,I.ok.hd,I.ok.frames,I.ok.BE,I.ok.R8,I.ok.bs,I.ok.HG,I.ok.CD,I.ok.Di,I.ok.xM,I.ok.Jc],I.os,I.bare,I.base,I.loc,I.cell,I.free,I.xu,λp c=>I.pin p (by simpa using c),I.vc,I.len]
def Inv.Gw(I:Inv (wT X (X.pn++a) e f) b c H s):Inv X a c H s :=
 #[#[I.ok.mod,I.ok.kind,I.ok.glob,I.ok.blt,I.ok.above,I.ok.inj,I.ok.has,I.ok.N7,I.ok.hd,I.ok.frames,I.ok.BE,I.ok.R8,I.ok.bs,I.ok.HG,I.ok.CD,I.ok.Di,I.ok.xM,I.ok.Jc],I.os,I.bare,I.base,I.loc,I.cell,I.free,I.xu,λp d=>I.pin p<|iw _ d,I.vc,I.len]
def Inv.Zo(I:Inv (wT X b d e) a c H s):Inv { X with pn:=b} a c H s :=
 #[#[I.ok.mod,I.ok.kind,I.ok.glob,I.ok.blt,I.ok.above,I.ok.inj,I.ok.has,I.ok.N7,I.ok.hd,I.ok.frames,I.ok.BE,I.ok.R8,I.ok.bs,I.ok.HG,I.ok.CD,I.ok.Di,I.ok.xM,I.ok.Jc],I.os,I.bare,I.base,I.loc,I.cell,I.free,I.xu,I.pin,I.vc,I.len]
def Kc(c:Ov)(X:Cx)(E:XK)(d:St):Prop:=∀(a:List (ci×Obj)) (H:Hp) (s:gn) (e:cr) (b:gn),Inv X a d H s->c X.stack H s E e b->X.xe e b
def Zp(h:c b):Kc (vd X.prog X.w) (wT X d f c) f b:=by intro a g i e m I j;obtain⟨C,x,k,rfl,F,l⟩:=j;exact#[a,b,g,i,C,x,k,rfl,I.Zo,h,F,l]
def TX(F:uR X.prog X.w X.K X.mg X.base l k f m g n)(o:vM k X.A)(p:Binds X.K m g d)(q:Vals b d)(t:Kc l X E i)
 (I:Inv X a i H s)(r:Vals vs us)(h:n (vs++b) H Q E):gu (gv X.prog X.w) X.A (call (.ref f) us) (EP X a i Q) X.xe s:=by
  have j:Vals (vs++b) (us++d):=r.append q
  have v:(us++d).length=g.length:=by rw[<- j.length];exact F.len _ _ _ _ h
  refine lU<|jp (F.run X.A X.stack s H ⟨us,[]⟩ (us++d) (vs++b) Q E o I.HR (p s us I.xX v) j h) λr x c=>?_
  cases r with
  |error e=>exact t a H s e x I c
  |ok y =>
    cases y with
    |ret u=>exact I.after c
    |next=>exact gZ c
    |brk=>exact gZ c
    |cont=>exact gZ c
def Qn(c:Ov)(X:Cx)(C:ci)(m:Str)(d:Sp)(a:List V)(E:XK)(e:TE)(t:TA):TE:=λb H Q=>Kc c X E b/\E4 C m d a E e t b H Q
def Qo(G:PE X o J)(c:Aj X.K C)(v:Meth X.K C m f)(F:uR X.prog X.w X.K X.mg X.base CX k f L M N)(O:vM k X.A)(P:Binds X.K L M R)(hd:Vals i R)(S:PA X (e::d) t)
 (j:gf (e::d) X.env=(false,eval e X.env)::gf d X.env:=by rfl) (n:(iN pos<|gf d X.env).any (·.1)=false:=by rfl)
 (ht:eval (.Call (.Attribute o m apos) (e::d) [] pos) X.env=(do
 let y <- eval o X.env
 mf apos.atName
 let (f,first) <- jY [y] (lW y m T)
 mH pos f first (iN pos (gf (e::d) X.env)) (mh pos (jZ [] X.env))):=by rfl) :
    PE X (.Call (.Attribute o m apos) (e::d) [] pos) (Qn CX X C m N i E J t):=by
  intro b s z H Q I h
  obtain⟨U,h⟩:=h
  refine nV (pl:=T) (uY (G b s z H _ I h) λu Y p=>e2a3 p λx H1 B Z g=>e3a4 g λa dx fs ex ea l q=>?_) ht
  subst ex
  obtain rfl:u=gF a:=Z
  refine AD B ea c v l ?_
  refine oW (first:=[.ref a]) (h₀:=X.base) I.ok.mod.AN v.kp (uY (S pos b Y z H1 _ B q) λus s2 p=>e2a3 p λvs H2 D r q2=>#[D.xX,?_]) j n
  exact TX (us:=.ref a::us) (vs:=.ref a::vs) F O P hd U D (.cons rfl r) q2
def a1v(o:Option (List V))(h h':h8):Prop:=match o with
 |none=>h'=h
 |some xs=>∃zg:List cr,Vals xs zg/\xs.length<=gh/\h'=h.push { cls:=.type "tuple",data:=.seq zg.toArray}
def Lay(o:Option (List V))(H H':Hp):Prop:=match o with
 |none=>H'=H
 |some xs=>∃p,H p=none/\H'=upd H p (.tup xs)
def ClO(X:Cx)(d:hZ)(e:List ci)(o:Option (List V)):Prop:=∀(x C:ci) (a:List (ci×Obj)) (s:gn) (f:St) (H:Hp) (Q:Bool->gn->Prop) (E:cr->gn->Prop),C∈e->Inv (hand X x) a f H s->(∃b,s.heap.get? x=↑b/\b.cls=.ref C) ->
 (∀c,a1v o s.heap c->Q true { s with heap:=c}) ->
 gu (gv X.prog X.w) (X.A.mark<|some<|.ref x) (eval d X.env) (λv g=>gu (gv X.prog X.w) (X.A.mark<|some<|.ref x) (excMatches (.ref x) v) Q E g) E s
def W0{r:Nat}(e:Gl X f)(g:X.mg f=↑(.ref c))(h:Gl X i)(j:X.mg i=↑(.ref d))(l:kG X.K (.ref c) [.ref c,.ref d]=↑true)(m:kG X.K (.ref d) [.ref c,.ref d]=↑true)
 (t:(f==("__debug__":Str))=false:=by decide) (u:(i==("__debug__":Str))=false:=by decide) :
    ClO X (.Tuple [.Name f D,.Name i F] r pos) [c,d] (some [.ref c,.ref d]):=by
  intro x n p s G H Q E v I ⟨J,y,A⟩ k
  have B:jj (gv X.prog X.w) s.heap (typeOf<|.ref x) (.ref n):=A▸(qT y).andThen .now
  refine wpAny_Tuple_spliced ?_
  refine jt<|yH (X:=hand X x) I e g (jt<|yH (X:=hand X x) I h j (kq ?_) u) t
  refine#[by show 2<=gh;decide,?_]
  have q:∀b o,s.heap.get? b=↑o->(s.heap.push { cls:=.type "tuple",data:=.seq [gF c,gF d].toArray}).get? b=↑o:=λb o z=>ce _ z
  have C:kG X.K (.ref n) [.ref c,.ref d]=↑true:=by
    rcases List.mem_cons.mp v with z|z
    · rw[z]; exact l
    · rw[List.mem_singleton.mp z]; exact m
  refine(PySem.W.exm_tup2 (λa o z=>q a o<|I.xX a o z) (B.keeps q) (gx _ rfl) C).here ?_
  exact k _ #[[.ref c,.ref d],.cons rfl<|.cons rfl .nil,(by show 2<=gh;decide),rfl]
def Inv.adopt(I:Inv X a j H s)(f:AA X a H p)(c:vv X.prog X.w (upd H p o) s.heap p o):Inv X a j (upd H p o) s:=by
 refine e0a6 f λi k r l n q=>?_;have d:∀b u,H b=↑u->b≠p:=λb u e z=>by rw[z,i]at e;cases e
 have J:=I.step (h':=s.heap) (g':=s.gens) (d':=s.drawn) (t':=s.toks) (ch:=[p]) (H':=upd H p o) (λb g=>by rw[List.mem_singleton.mp g];exact#[l,k,n,q]) (λb o _ _ _ e _=>e) (λb o _ _ _ e _=>#[o.slots,e])
  (λb _ g _ e=>by rw[ui λz=>g<|by rw[z];exact List.mem_singleton.mpr rfl];exact e) (λb o _ e=>#[o,e]) (λb t e=>by rw[ui<|d b _ e];exact e) (λb o u e=>by rw[ui<|d b _ e];exact e) (λb v e=>#[#v[],by rw[ui<|d b _ e,e];simp]) (λm h=>h) (I.vc.Vk i c) I.bare
 exact J
def Zq(i:XK->(St->Prop)->List (ci×Obj)->TS)(j:List ci)(o:Option (List V))(k:ci->TS):TS:=λD d H=>∃e:XK,(∀c f b,e c f b->∃C∈j,c=.ref C)/\(∀g,i e (λh=>h=d) g D d H)/\∀(c:cr)(f:Option ci)(b a:Hp),e c f b->Lay o b a->∀x,k x D d a
def TY(E:X.stack=X.env::X.outer)(Y:ClO X ty Cs o)
 (hb:∀U Φ N,Ez (wT X N U Φ) body<|tb U Φ N) (hs:∀x,Ez (hand X x) (b0::i)<|th x) :
    PS X (.Try body [.ExceptHandler ↑ty none (b0::i) hp] [] [] tp) (Zq tb Cs o th):=by
  intro d s σ H D I h
  refine e1a3 h λU Z hB hH=>?_
  refine wpAny_Try_except<|iA (hb U _ (X.pn++d) [] s σ H D I.WZ<|hB _) (λO g q=>?_)<|λe g q=>?_
  · cases O with
    |next=>obtain⟨a,c,J,z⟩:=q;exact mX #[a,c,J.Gw,z]
    |brk=>obtain⟨a,c,J,z⟩:=q;exact#[a,c,J.Gw,z]
    |cont=>obtain⟨a,c,J,z⟩:=q;exact#[a,c,J.Gw,z]
    |ret u=>obtain⟨v,a,c,J,r,z⟩:=q;exact#[v,a,c,J.Gw,r,z]
  · obtain⟨aa, k, H1, s0, C', x, c, rfl, J, ab, F, hE⟩ := q
    subst ab
    refine e1a2 (Z _ _ _ hE) λC hC hc=>?_
    cases hc
    have nf:=F.YQ J.Z4
    refine e2a2 F.fly λB a0 O ae=>?_
    have af:kT B (X.env::X.outer) x (.ref C') a0 g.heap:=by rw[<- E];exact O
    have ag:X.A.frames=↑(X.env::X.outer):=by rw[<- E];exact J.ok.frames
    have ah:X.env.frame=↑X.env.locals:=xi I E
    refine wpAny_looks_onW ag ah af λh4 P ai=>wpAny_landsW P λl m aj=>?_
    have j:g.heap.UpToSlots l:=ai.trans aj
    have G:∀(n:h8)(Q:Nat),B.StaysIn n->g.heap.UpToSlots n->Inv X d k c { g with heap:=n,toks:=Q}:=λn Q st up=>by
      obtain⟨u6,ak⟩:=Pe F.un F.vc ae nf st up
      have J6:=J.call (h':=n) (g':=g.gens) (d':=g.drawn) (t':=Q) (ch:=[]) u6 ak F.bare<|λb z=>gA z q0o
      have e6:{ s0 with heap:=n,gens:=g.gens,drawn:=g.drawn,toks:=Q}={ g with heap:=n,toks:=Q}:=by
        have:=F.os
        obtain⟨_,_,_,_,an⟩:=g
        obtain⟨_,_,_,_,ao⟩:=s0
        rw[this]
      rw[<- e6]
      exact J6.a06
    have I5:=G l g.toks m.1 j
    have R:∀(S:Hp)(t:h8),Lay o c S->Inv X d k S { g with heap:=t}->gu (gv X.prog X.w) (X.A.mark<|some<|.ref x) (execs (b0::i) X.env) (λf T=>SP X d D f T) (λ_ _=>False) { g with heap:=t}:=λS t hY I7=>by
      refine iA (hs x d _ k S D I7.Ph<|hH _ _ c S hE hY x) (λO s7 q=>?_) λ_ _ z=>z.elim
      cases O with
      |next=>obtain⟨a,c,J,z⟩:=q;exact#[a,c,J.F9 I.ok.hd,z]
      |brk=>obtain⟨a,c,J,z⟩:=q;exact#[a,c,J.F9 I.ok.hd,z]
      |cont=>obtain⟨a,c,J,z⟩:=q;exact#[a,c,J.F9 I.ok.hd,z]
      |ret u=>obtain⟨v,a,c,J,r,z⟩:=q;exact#[v,a,c,J.F9 I.ok.hd,r,z]
    refine wpAny_handleBy_cons (codeAny_handlers_test<|Y x C' d { g with heap:=l} k c _ _ hC I5.Ph m.there λn hL=>?_) (by intro q;cases q)
    refine codeAny_handlers_suite ?_
    cases o with
    |none =>
      subst hL
      refine lands_againW (s:={ g with heap:=n}) m λt L y=>?_
      exact iA (R c t rfl<|G t g.toks L.1<|j.trans y) (λ_ _ z=>z) λ_ _ z=>z.elim
    |some xs =>
      obtain⟨M,r,hz,rfl⟩:=hL
      have kp:∀b o,l.get? b=↑o->(l.push { cls:=.type "tuple",data:=.seq M.toArray}).get? b=↑o:=λb o z=>ce _ z
      have al:=PySem.W.flying_keeps m kp
      refine lands_againW (s:={ g with heap:=l.push { cls:=.type "tuple",data:=.seq M.toArray}}) al λt L y=>?_
      have I7:=G t g.toks L.1<|(j.trans<|pI kp).trans y
      have n5:c l.objs.size=none:=I5.vc.fresh<|gg _
      obtain⟨sl,e7⟩:=y l.objs.size _ (gx _ rfl) (λvs z=>by cases z)
      have I8:=I7.adopt (p:=l.objs.size) (o:=.tup xs) (I5.FN (gg _) n5) #[hz,M,r,_,e7,rfl,_,rfl]
      exact iA (R _ t #[_,n5,rfl] I8) (λ_ _ z=>z) λ_ _ z=>z.elim
end L2
namespace WL
variable[L2.GX]
open PySem L2
open Rep (rp)
open Ow (sl)
open Sls (rel)
def BW(X:Cx)(T:ci)(c:List gV){D:Type}[Sls D](w:D->(D->Prop)->(ci->D->Prop)->Prop):Prop:=∀i j h,∃t,Ez (wT X h i j) c t/\∀(d:D)(F R:Rg)(b:St)(H:Hp)(k:D->Prop)(l:ci->D->Prop)(m:Ends),j b->vw T F R H d b->w d k l ->
 (∀e f g a,k e->Ch T F R H f g a->vw T f g a e b->m.nx b a)->(∀C y e f g a,l C e->Ch T F R H f g a->vw T f g a e b->i (.ref C) ↑y a)->t m b H
section
variable{D PO τ Zr:Type}[Sls D][Sls PO][Ow τ][Ow Zr]
def TZ{h:Pos}{o:List hZ}(i:Nat){N P r B I E:Type}[Sls N][Sls P][Sls r][Sls B][Sls I][Sls E][Lb E Zr<|Bd C k×r]{n:B->E->r->D}{O:D->(P->B->E->Prop)->(ci->D->Prop)->Prop}
 {Q:Wf (Bd C k×P) Zr (Bd C k×r)} [A0:At i D (Bd C k) N] [A:At i B (Bd C k) I] [U:Pt i I (Bd C k) B]
 (W:∀a b c d u,(xP a b c d u k).lookup m=none) (Y:∀g j f,JZ (wT X f g j) g T (e::o) n O)
 (Z:∀(g:XK)(j:St->Prop) (f:List (ci×pY)) {t:TA},PA (wT X f g j) (e::o) t->PE (wT X f g j) (.Call (.Attribute (.Name x S) m apos) (e::o) [] pos) (Qn (vd X.prog X.w) (wT X f g j) C m (xW T Q) [] g (uT i) t))
 (hs:js (.Call (.Attribute (.Name x S) m apos) (e::o) [] pos) none h.line X.env=pure false:=by rfl) :
    BW X T [.Expr (.Call (.Attribute (.Name x S) m apos) (e::o) [] pos) h] (λ(d:D) J F=>O d (λp b l=>Q (A.get b,p) (λ_ y=>J<|n (U.put (A.hole b) y.1) l y.2)<|λC y=>F C<|n (U.put (A.hole b) y.1) l y.2) F):=by
  intro g j f
  refine e1a2 (Y g j f) λtr b1 b2=>?_
  refine#[_,w4<|AQ (Z g j f b1) hs,λd G R σ H J F En L s hw kn ke=>#[Zp L,?_]]
  refine Iv i W b2 d G R σ H (λ_ M=>J M) F _ s hw (λx M v F1 F2 R' H' q c s' m=>?_) ke
  exact kn M F2 R' H' q (c.less λa z=>.inr z) s'
def Zs{j:Pos}{n:List hZ}(i:Nat){H P v B G z:Type}[Sls H][Sls P][Sls v][Sls B][Sls G][Sls z][Lb z Zr<|Bd C q×v]{r:B->z->v->D}{I:D->(P->B->z->Prop)->(ci->D->Prop)->Prop}
 {J:Wf (Bd C q×P) Zr (Bd C q×v)} [A0:At i D (Bd C q) H] [A:At i B (Bd C q) G] [U:Pt i G (Bd C q) B] {k:Nat} {N:List Str} {O:Sem Bool}
 (h:Fm X.prog X.w X.K X.mg X.base T C m N J k) (Q:vM k X.A) (R:Aj X.K C) (S:∀(o:XK)(s:St->Prop) (g:List (ci×pY)),PE (wT X g o s) (.Name x F)<|uT i) (W:∀(o:XK)(s:St->Prop) (g:List (ci×pY)),JZ (wT X g o s) o T (e::n) r I) (Y:∀a b c d u,(xP a b c d u q).lookup m=none:=by intros;rfl)
 (Z:gf (e::n) X.env=(false,eval e X.env)::gf n X.env:=by rfl) (h2:(iN pos<|gf n X.env).any (·.1)=false:=by rfl)
 (h3:eval (.Call (.Attribute (.Name x F) m apos) (e::n) [] pos) X.env=(do
 let L <- eval (.Name x F) X.env
 mf apos.atName
 let (f,first) <- jY [L] (lW L m O)
 mH pos f first (iN pos (gf (e::n) X.env)) (mh pos (jZ [] X.env))):=by rfl)
 (hs:js (.Call (.Attribute (.Name x F) m apos) (e::n) [] pos) none j.line X.env=pure false:=by rfl) :
    BW X T [.Expr (.Call (.Attribute (.Name x F) m apos) (e::n) [] pos) j] (λ(d:D) Kn M=>I d (λp b l=>J (A.get b,p) (λ_ y=>Kn<|r (U.put (A.hole b) y.1) l y.2)<|λC y=>M C<|r (U.put (A.hole b) y.1) l y.2) M) :=
  TZ i Y W (λo s g {t} b1=>Qo (X:=wT X g o s) (CX:=vd X.prog X.w) (E:=o) (S o s g) R h.me h.ok Q h.bd .nil b1 Z h2 h3) hs
def T0{j b:List gV}{G:List ci}{o:Option (List V)}{wb:D->(D->Prop)->(ci->D->Prop)->Prop}{I:D->(D->Prop)->(τ->PO->Prop)->(ci->PO->Prop)->Prop}(J:X.stack=X.env::X.outer)(L:ClO X ty G o)
 (M:BW X T j wb) (z:∀k,SW (hand X k) E T ms n (b0::b) I) :
    S1 X E T ms n (.Try j [.ExceptHandler ↑ty none (b0::b) hp] [] [] tp) (λ(d:D)(u:D->Prop)(A:τ->PO->Prop) B=>wb d u λC a=>C∈G/\I a u A B):=by
  refine#[_,TY (tb:=λN O f=>(M N O f).choose) (th:=λk=>(z k).choose) J L (λN O f=>(M N O f).choose_spec.1)<|λk=>(z k).choose_spec.1,λd F R r H u A B P s hw kn kr ke=>?_]
  refine#[λc _ l=>∃C a h i,c=.ref C/\C∈G/\I a u A B/\Ch T F R H h i l/\vw T h i l a r,?_,λf=>?_,?_]
  · rintro c ox l ⟨C, a, h, i, e, m, _⟩
    exact#[C,m,e]
  · exact(M _ _ f).choose_spec.2 d F R r H _ _ P rfl s hw (λa h i l q c Q => kn a h i l r q c Q<|Ag.refl _ _) λC y a h i l q c Q => #[C, a, h, i, rfl, q.1, q.2, c, Q]
  · rintro c ox l aa ⟨C, a, h, i, e, m, S, t, st⟩ hL k
    have go:∀{w:Hp},Ch T F R H h i w->vw T h i w a r->(z k).choose P r w:=λ{w} t st=>(z k).choose_spec.2 a h i r w u A B P st S (λd1 F1 R1 H1 U q c s1 g=>kn d1 F1 R1 H1 U q (Ch.trans s st.tab t c) s1 g) (λx W v M1 M2 Y Z q4 c4 S4 n4=>kr x W v M1 M2 Y Z q4 (Ch.trans s st.tab t c4) S4 n4) λC y W F4 Y Z q4 c4 S4=>ke C y W F4 Y Z q4 (Ch.trans s st.tab t c4) S4
    cases o with
    |none =>
      rw[hL]
      exact go t st
    |some xs =>
      obtain⟨p,hp,rfl⟩:=hL
      refine e0a3 (st.new (.tup xs) hp) λs3 c3 _=>?_
      exact go (Ch.trans s st.tab t c3) s3
end
structure Zt(q:Cq)(C1 C2:ci)(y1 y2:Str):Prop where
 m1:q.mg y1=↑(.ref C1)
 m2:q.mg y2=↑(.ref C2)
 x1:kG q.K (.ref C1) [.ref C1,.ref C2]=↑true
 x2:kG q.K (.ref C2) [.ref C1,.ref C2]=↑true
end WL
namespace L2
variable[L2.GX]
open PySem PySem.Spec PyProof.Rows
def zD:Slot "wrapper_descriptor" "__get__" "wrapper_descriptor.__get__":=.of (owner:="wrapper_descriptor") (n:="__get__") (by rw[mZ,kR];kernel_rfl) q0s q0s q0s
 (.inl<|by kernel_rfl) (by rw[sj];kernel_rfl)
def Gx:sg sY "wrapper_descriptor.__get__"=↑Builtin.«wrapper_descriptor.__get__»:=entryFor_of_tree (by kernel_rfl)
def Iy(a b c:cr):qQ "wrapper_descriptor.__get__" #[[a,b,c],[]]:=by unfold qQ;kernel_rfl
def yS:typeOf (.builtin "ValueError.__init__")=pure (.type "wrapper_descriptor"):=by kernel_rfl
noncomputable def Zu(obj cls:cr)(name:Str):Sem Unit:=do
  rule "descr.get.wrong-instance"
  raiseError "TypeError" s!"descriptor '{name.toString}' for '{← typeName cls}' objects doesn't apply to a '{← typeNameOf obj}' object"
def NA(x C:ci):Builtin.«wrapper_descriptor.__get__» #[[.builtin "ValueError.__init__",.ref x,.ref C],[]]=((isInstance (.ref x) (.type "ValueError") >>= λb=>if (!b)=true then Zu (.ref x) (.type "ValueError") "__init__" else pure ()) >>= λ_=>newFields "method-wrapper" [.builtin "ValueError.__init__",.ref x] >>= ret):=by kernel_rfl
section
variable{prog:gY}{w:il}{A:iW}{E:cr->gn->Prop}{h:h8}{g:Array oC}{d:Drawn}{t:Nat}{os:OsState}{so D x C:ci}{ox:Obj}{l0 l:List cr}{K:ga}
def D6(c:h.get? x=↑ox)(b:ox.cls=.ref C)(a:jj (gv prog w) h (isSubtype (.ref C)<|.type "ValueError") true)
 (e:R (.ok<|.ret<|.ref h.objs.size) #[h.push { cls:=.type "method-wrapper",data:=.fields #v[.builtin "ValueError.__init__",.ref x]},g,d,t,os]) :
    lO (gv prog w) A (.call (.builtin "wrapper_descriptor.__get__") #[[.builtin "ValueError.__init__",.ref x,.ref C],[]]) R #[h,g,d,t,os]:=by
  have f:(#[h,g,d,t,os]:gn).TypeIs (.builtin "ValueError.__init__") "wrapper_descriptor":=by first|exact lV yS|exact yS
  refine mM zD.plain Gx<|zD.check _ _ _ _ _ _ _ _ f (Iy _ _ _) ?_
  rw[NA]
  refine am<|am ?_
  refine am<|wpAny_typeOf_ref c ?_
  rw[b]
  refine PySem.W.Looks.at a ?_
  exact ap<|am<|hW<|ap e
def Iz(a:h.get? so=↑(oP D x C))(c:jj (gv prog w) h (opaqueClassAbove<|.ref C) none)(j:jj (gv prog w) h (mroOf<|.ref C) l0)(k:(l0.dropWhile (· != .ref D)).drop 1=l)(X:K.In h)
 (m:tD K "__init__" l=↑(some<|.builtin "ValueError.__init__")) (n:h.get? x=↑ox) (e:ox.cls=.ref C) (b:jj (gv prog w) h (isSubtype (.ref C)<|.type "ValueError") true) (f:x≠C)
 (o:Q (.done<|.ret<|.ref h.objs.size) #[h.push { cls:=.type "method-wrapper",data:=.fields #v[.builtin "ValueError.__init__",.ref x]},g,d,t,os]) :
    gu (gv prog w) A (Builtin.«super.__getattribute__» #[[.ref so,.str "__init__" y],[]]) Q E #[h,g,d,t,os]:=by
  have lk:=zD.lookup
  have p:(gF x==gF C)=false:=by simp[f]
  have q:(("__init__":Str)==("__class__":Str))=false:=by decide
  have r:(#v[.ref D,.ref x,.ref C]:Array cr)[0]?=↑(.ref D):=rfl
  have s:(#v[.ref D,.ref x,.ref C]:Array cr)[1]?=↑(.ref x):=rfl
  have u:(#v[.ref D,.ref x,.ref C]:Array cr)[2]?=↑(.ref C):=rfl
  have i:(oP D x C).data=.fields #v[.ref D,.ref x,.ref C]:=rfl
  have v:=yS
  repeat (first|(with_reducible refine iD a i r ?_)|(with_reducible refine iD a i s ?_)|(with_reducible refine iD a i u ?_)|(with_reducible refine ks_wpAny_notOpaque c ?_)|(with_reducible refine PySem.W.Looks.at j ?_;rw[k])|(refine ks_forIn_along X (λ_ _=>rfl) rfl ?_ m)|(with_reducible refine lX v ?_)|(simp only[q,p,rf,kh,oG])|wp_step|dsimp only)
  exact D6 n e b<|am<|ap<|ap<|ap o
end
section
variable{prog:gY}{w:il}{A:iW}{E:cr->gn->Prop}{h:h8}{g:Array oC}{d:Drawn}{t:Nat}{os:OsState}
variable{nm q:Str}{C N:ci}{bs bm CJ:List cr}{hdct:Bool}{sn:List Str}{sub:List cr}{ab:Bool}{col:Option Bool}{dd:Option ci}{k0 k1 k2 k3 k5:Option cr}{B newId xq:String}
def Am(F:jK B newId xq CJ)(T:rP h CJ bm){a:List cr} 
 (i:h.get? C=↑(i9 nm q C N bs bm hdct sn sub ab col dd k0 k1 k2 k3 k5 newId)) (u:h.Ns N v) (y:v "__init__"=↑(.ref n))
 (k:h.get? n=↑z) (l:z.cls=.type "function")
 (D:∀p e,qM h p e (.ref C) a ->
 gu (gv prog w) A (call (.ref n) (.ref e::a)) (λr s=>r=.none/\Q (.done (.ret (.ref e))) s) E #[p,g,d,t,os]) (hrest:a.length<=gh:=by size_fits) :
    gu (gv prog w) A (Builtin.«type.__call__» #[.ref C::a,[]]) Q E #[h,g,d,t,os]:=by
  repeat (first|with_reducible refine jf i ?_|with_reducible refine wpAny_madeBy_exc i ?_|wp_step)
  refine codeAny_call_builtin_code (mU _ F.quiet)<|wpAny_check_new_subT F T i ?_
  refine codeAny_exc_new_subT F T i ?_ hrest
  have j:∀b o,h.get? b=↑o->((h.push { cls:=.type "tuple",data:=.seq a.toArray}).push { cls:=.ref C,data:=.fields #v[.ref h.objs.size,.none,.none,.none,.bool false,.none]}).get? b=↑o:=λb o e=>ce _<|ce _ e
  have c:=j _ _ i
  have f:((h.push { cls:=.type "tuple",data:=.seq a.toArray}).push
      { cls:=.ref C,data:=.fields #v[.ref h.objs.size,.none,.none,.none,.bool false,.none]}).get? (h.objs.size+1)=some
      { cls:=.ref C,data:=.fields #v[.ref h.objs.size,.none,.none,.none,.bool false,.none]}:=by heap_get
  have m:(gF C::bm).contains (.ref C)=true:=by simp
  repeat (first|with_reducible refine jf f ?_|(with_reducible refine qa c ?_;rw[m])|wp_step)
  refine wpAny_typeLookup_tail c (u.keeps j) (T.keeps j) F.mroIs F.init.lookup ?_
  rw[y]
  refine g8<|am ?_
  refine am<|j0 (T:="function") #[_,j _ _ k,l] ?_
  rw[f9 q0q]
  refine ap<|am<|iA (D _ (h.objs.size+1) ⟨j,mo<|kQ _,h.objs.size,f,mo<|gg _,ce _<|nw rfl rfl⟩) (λr s G=>?_) λ_ _ x=>x
  obtain⟨rfl,H⟩:=G
  wp_walk
  exact H
def D7(F:jK B newId xq CJ)(T:rP h CJ bm){a:List cr} 
 (c:h.get? C=↑(i9 nm q C N bs bm hdct sn sub ab col dd k0 k1 k2 k3 k5 newId)) (k:h.Ns N l) (m:l "__init__"=↑(.ref j))
 (f:h.get? j=↑n) (i:n.cls=.type "function")
 (o:∀b e,qM h b e (.ref C) a ->
 gu (gv prog w) (A.under (.builtin "type.__call__" #[.ref C::a,[]])) (call (.ref j) (.ref e::a)) (λr p=>r=.none/\Q (.ref e) p) E #[b,g,d,t,os]) (hrest:a.length<=gh:=by size_fits) :
    gu (gv prog w) A (call (.ref C) a) Q E #[h,g,d,t,os]:=by
  have u:=tc_lookup
  have v:=tc_bind<|.ref C
  refine lU<|lQ ?_
  repeat (any_goals (first|assumption|with_reducible refine jf c ?_|wp_step))
  refine#[rfl,?_]
  exact codeAny_call_builtin_at (mU _ q0s) entry_typeCall<|wpAny_check_type_call_sub c<|Am (hrest:=hrest) F T c k m f i λb e s=>o b e s
end
noncomputable def zF(x:ci):Obj:={ cls:=.type "method-wrapper",data:=.fields #v[.builtin "ValueError.__init__",.ref x]}
section
variable{prog:gY}{w:il}{A:iW}{E:cr->gn->Prop}{h:h8}{g:Array oC}{d:Drawn}{t:Nat}{os:OsState}{so D x C:ci}{ox:Obj}{l0 l:List cr}{K:ga}
def AK(a:h.get? so=↑(oP D x C))(f:jj (gv prog w) h (opaqueClassAbove<|.ref C) none)(n:jj (gv prog w) h (mroOf<|.ref C) l0)(o:(l0.dropWhile (· != .ref D)).drop 1=l)(X:K.In h)
 (p:tD K "__init__" l=↑(some<|.builtin "ValueError.__init__")) (q:h.get? x=↑ox) (i:ox.cls=.ref C) (b:jj (gv prog w) h (isSubtype (.ref C)<|.type "ValueError") true) (j:x≠C)
 (r:Q (.ref h.objs.size,[]) #[h.push<|zF x,g,d,t+1,os]):gu (gv prog w) A (lW (.ref so) "__init__" y) Q E #[h,g,d,t,os]:=by
  have c:=F.ks_slot_super_ga.lookup
  have e:=F.ks_canon_super_ga
  have k:∀s,(#[h,g,d,s,os]:gn).TypeIs (.ref so) "super":=λ_=>#[_,a,rfl]
  refine am<|o7 (k _) c ?_
  show gu _ _ (if (Manifest.canonical "super.__getattribute__" != "object.__getattribute__")=true then _ else _) _ _ _
  rw[f9 e]
  refine am<|am<|wpAny_mkText<|g8<|am<|j0 (k _)<|am<|lX c ?_
  refine am<|lX (show (if onTheHeap (.type "super") then mB (.type "super") "__getattr__" else pure none)=pure none from rfl) ?_
  refine am<|ot<|g8 ?_
  refine am<|lX (F.ks_slot_super_ga.bind _) ?_
  refine iA (Q:=λv m=>v=.ref h.objs.size/\m=#[h.push<|zF x,g,d,t+1,os]) (E:=λ_ _=>False)
    (im F.ks_slot_super_ga (k _) F.ks_entry_super_ga (Iz a f n o X p q i b j #[_,rfl,rfl,rfl])<|F.ks_gaArgs_super _ _) (λv m u=>?_) λ_ _ z=>z.elim
  obtain⟨rfl,rfl⟩:=u
  exact ap<|ap r
def Qp(h:h8)(e:h.get? q=↑(zF x)):∃k,(k=Keeper.frame\/k=Keeper.machine\/k=Keeper.boundFrame)/\jj M h (keeperOf<|.ref q) k :=
 #[.machine,.inr<|.inl rfl,(qT (part:=none) e).andThen .now]
variable{nm q:Str}{N:ci}{bs bm CJ:List cr}{hdct:Bool}{sn:List Str}{sub:List cr}{ab:Bool}{col:Option Bool}{dd:Option ci}{k0 k1 k2 k3 k5:Option cr}{newId:String}
def BZ(F:jK "ValueError" newId "ValueError.__init__" CJ){c:List cr} 
 (f:h.get? C=↑(i9 nm q C N bs bm hdct sn sub ab col dd k0 k1 k2 k3 k5 newId)) (i:h.get? x=↑ox) (e:ox.cls=.ref C) (j:Q () #[h,g,d,t,os]) :
    gu M A (checkBoundCall "ValueError.__init__" #[.ref x::c,[]]) Q E #[h,g,d,t,os]:=by
  simp only[checkBoundCall,F.initKind,F.initRow]
  rw[f9 q0q]
  repeat (first|(with_reducible refine jf i ?_;rw[e])|with_reducible refine jf f ?_|wp_step)
  refine oy ?_
  rw[show ∀(a b:String)(n:Nat),Bind.check #[.positional,"*","ValueError",.self,[#["args",.varPos,false]]] a b n (List.map (λx=>x.fst) ({ pos:=gF x::c}:Args).kw)=pure () from
    λa b n=>check_star_args _ _ _ _ _ _]
  exact ap j
def T1(F:jK "ValueError" newId "ValueError.__init__" CJ){a:List cr}(o:h.get? C=↑(i9 nm q C N bs bm hdct sn sub ab col dd k0 k1 k2 k3 k5 newId))(e:h.get? p=↑(zF x))(j:h.get? x=↑ox)(f:ox.cls=.ref C)(k:ox.data=.fields m)(n:m[0]?=↑(.ref s))
 (r:Q .none #[(h.push { cls:=.type "tuple",data:=.seq a.toArray}).update x (Obj.mapFields (·.setIfInBounds 0 (.ref h.objs.size))),g,d,t,os]) (c:a.length<=gh:=by size_fits) :
    gu (gv prog w) A (call (.ref p) a) Q E #[h,g,d,t,os]:=by
  refine lU<|lQ ?_
  refine am<|qe e ?_
  refine am<|BZ F o j f<|ap #[j9 F.init.plain _,ji F.initEntry ?_]
  rw[iY F.init.plain]
  unfold Builtin.«BaseException.__init__»
  dsimp only
  rw[gc q0o]
  have i:0<m.size:=(Array.getElem?_eq_some_iff.mp n).1
  have b:=ce (h:=h) { cls:=.type "tuple",data:=.seq a.toArray} j
  refine am<|hW (am<|am<|iD b k n<|am<|ml b k i ?_) (by show a.toArray.size<=gh;rw[gy];exact c)
  exact rn<|ap r
end
open Builtin Builtin.ObjectAttr
section
variable{prog:gY}{w:il}{A:iW}{E:cr->gn->Prop}{h:h8}{g:Array oC}{d:Drawn}{t:Nat}{os:OsState}{x C N:ci}{o:Obj}{v:cr}{name:Str}
variable{nm q:Str}{bs bm CJ:List cr}{sn:List Str}{sub:List cr}{ab:Bool}{col:Option Bool}{dd:Option ci}{k0 k1 k2 k3 k5:Option cr}{B newId sa owner:String}
def NB(e:StoreFacts B CJ sa owner)(f:bm.contains (.type owner)=true)
 (l:h.get? C=↑(i9 nm q C N bs bm true sn sub ab col dd k0 k1 k2 k3 k5 newId)) (m:h.get? x=↑o) (n:o.cls=.ref C) (j:Q () #[h,g,d,t,os]) :
    gu M A (checkBuiltinCall sa #[[.ref x,a,v],[]]) Q E #[h,g,d,t,os]:=by
  have i:(gF C::bm).contains (.type owner)=true:=by rw[tE,f,Bool.or_true]
  have k:=e.args (.ref x) a v
  simp only[checkBuiltinCall,e.kind,e.split]
  refine am ?_
  repeat (first|(with_reducible refine jf m ?_;rw[n])|(with_reducible refine qa l ?_;rw[i])|wp_step)
  cases b:Manifest.signature? sa with
  |none=>exact ap j
  |some c =>
    simp only[qQ,b]at k
    have p:Bind.checkArgs sa c #[[.ref x,a,v],[]]=pure ():=k
    show gu M A (Bind.checkArgs sa c #[[.ref x,a,v],[]]) Q E _
    rw[p];exact ap j
set_option tactic.hygienic true in
def Kd(m:sw (.ref x) "__setattr__" bm=pure ())
 (P:h.get? C=↑(i9 nm q C N bs bm true sn sub ab col dd k0 k1 k2 k3 k5 newId)) (L2:jj (gv prog w) h (mB (.ref C) name) none)
 (l:h.get? x=↑o) (R:o.cls=.ref C) (n:∀c,o.data≠.cls c) (p:o.dict=none)
 (S:∀i r s,h.get? s=none->(∀b u,b≠x->h.get? b=↑u->i.get? b=↑u)->i.get? x=some { cls:=o.cls,dict:=↑s,data:=o.data,slots:=o.slots}->i.Ns1 s (λy=>if y=name then some v else none)->Q (.done<|.ret .none) #[i,g,d,r,os]) :
    gu (gv prog w) A (Builtin.«object.__setattr__» #[[.ref x,.str name Z,v],[]]) Q E #[h,g,d,t,os]:=by
  repeat (first|rw[refuse_eq]|(rw[refuseLoop_ref,m])|(with_reducible refine jf l ?_;rw[R])|with_reducible refine wpAny_mroOf_exc P ?_|(with_reducible refine PySem.W.Looks.at L2 ?_)|wp_step)
  rw[p,gc<|by simp[typeHasDict]]
  split
  · rename_i f
    cases f
  split
  · rename_i c f
    exact gA f<|n c
  · have a : (h.push { cls := .type "dict", data := .dict #v[] }).get? x = some o := ce _ l
    have j:x≠h.objs.size:=gB<|gp l
    refine am<|wpAny_alloc' ?_
    refine am<|wpAny_update' a ?_
    refine ap ?_
    have z:((h.push { cls:=.type "dict",data:=.dict #v[]}).update x λo=>{ cls:=o.cls,dict:=↑h.objs.size,data:=o.data,slots:=o.slots}).get? h.objs.size
       =some { cls:=.type "dict",data:=.dict #v[]} :=
      (pf _ _ _ _ j.symm).trans (nw rfl rfl)
    have D:((h.push { cls:=.type "dict",data:=.dict #v[]}).update x λo=>{ cls:=o.cls,dict:=↑h.objs.size,data:=o.data,slots:=o.slots}).Ns h.objs.size (λ_=>none) :=
      #[_,#v[],_,z,rfl,λe T=>gA T q0o,λ_=>rfl]
    refine am<|ap<|am<|wpAny_nsSet1 (rT D) λi k M=>?_
    obtain⟨oD,U,X,F,G,H⟩:=k.count<|Within.cons name v Within.nil
    refine am<|wpAny_lookBehind F (by rw[G];exact pastItsLine_dict<|gW H<|by rw[gK,mu,iC];lia) ?_
    wp_walk
    refine S i _ h.objs.size (mo<|gg _) (λb u I O=>?_) ?_ k
    · exact(M.2 b<|gB<|gp O).trans<|(pf _ _ _ _ I).trans<|ce _ O
    · refine(M.2 x j).trans (ii _ a ?_)
      have J:=(Heap.get?_some_iff.mp l).2
      obtain⟨oc,od,L,Y⟩:=o
      cases L<;>first|rfl|exact J
def IA(i:StoreFacts B CJ sa owner)(j:bm.contains (.type owner)=true)(k:sw (.ref x) "__setattr__" bm=pure ())
 (r:h.get? C=↑(i9 nm q C N bs bm true sn sub ab col dd k0 k1 k2 k3 k5 newId)) (u:jj (gv prog w) h (mB (.ref C) "__setattr__") (some<|.builtin sa)) (L2:jj (gv prog w) h (mB (.ref C) name) none)
 (l:h.get? x=↑o) (m:o.cls=.ref C) (n:∀c,o.data≠.cls c) (p:o.dict=none)
 (z:∀e a f,h.get? f=none->(∀b s,b≠x->h.get? b=↑s->e.get? b=↑s)->e.get? x=some { cls:=o.cls,dict:=↑f,data:=o.data,slots:=o.slots}->e.Ns1 f (λy=>if y=name then some v else none)->Q () #[e,g,d,a,os]) :
    gu (gv prog w) A (setAttr (.ref x) name v) Q E #[h,g,d,t,os]:=by
  have I:=i.slot.bind<|.ref x
  repeat (any_goals (first|assumption|(with_reducible refine jf l ?_;rw[m])|(with_reducible refine PySem.W.Looks.at u ?_)|wp_step))
  refine mM i.slot.plain i.entry<|NB i j r l m<|Kd k r L2 l m n p λe a f D F G H=>?_
  repeat (any_goals (first|assumption|wp_step))
  exact z e a f D F G H
end
def Zv(C x:ci)(d:Option ci)(h:h8):Prop:=∃(a:ci),h.get? x=some { cls:=.ref C,dict:=d,data:=.fields #v[.ref a,.none,.none,.none,.bool false,.none]}
noncomputable def C6(C x:ci)(d:Option ci):HO:=.ext<|Zv C x d
def Gy(I:Inv X a c H s)(h:H x=↑(C6 C x b)):Zv C x b s.heap:=(I.vc x _ h).1
def Kf(q:Zv C x b h):vv P w H h x (C6 C x b) :=
 #[q,e1a1 q λ_ e=> #[_,e],λf g a=>e1a1 a λc d k=>#[c,k _ d]]
def cw_mw(i:gf (e::f) b=(false,eval e b)::gf f b)(c:(iN pos<|gf f b).any (·.1)=false)
 (h:gu M B (tH<|iN pos<|gf (e::f) b) (λj d=>d.heap.get? q=↑(zF a)/\gu M B (call (.ref q) j) Q g d) g k):gu M B (mH pos (.ref q) [] (iN pos<|gf (e::f) b) []) Q g k:=by
  rw[i]at h ⊢
  exact oN (P:=λh=>h.get? q=↑(zF a)) (by show ((false||(iN pos<|gf f b).any (·.1))||false)=false;rw[c];rfl) Qp<|iZ h
def Zw(C:ci)(t:TA):TE:=λb H Q=>∃a,b[0]?=↑(some<|.ref a)/\H a=some (C6 C a none)/\t b H λd c=>d.length<=gh/\c a=↑(C6 C a none)/\Q .vU c
section
variable{P:gY}{w:il}{K:ga}{mg:Str->Option cr}{base:h8}{N:List Str}{qual:Str}{scope:lh}{f yE cc:ci}{A:iW}{outer:List Env}{s:gn}{H:Hp}{E:XK}{C:ci}{x0:Str}{fb:List gV}{p0 p1 apos pos:Pos}{es:List hZ}{e0:hZ}{ta:TA}
variable{nm q:Str}{Ns:ci}{bs bm:List cr}{hdct:Bool}{sn:List Str}{sub:List cr}{ab:Bool}{col:Option Bool}{dd:Option ci}{k0 k1 k2 k3 k5:Option cr}
set_option tactic.hygienic true in
def Qq(S:J8 P K C f yE cc x0)(ae:N[0]?=↑x0)(U:scope.names.lookup ("super":Str)=some .globalImplicit)(X:scope.names.lookup ("__class__":Str)=some .free)(B:scope.names.lookup x0=some .local)(af:mg "super"=none)
 (lC:K.lookup C=↑(i9 nm q C Ns bs bm hdct sn sub ab col dd k0 k1 k2 k3 k5 "ValueError.__new__")) (hm:jq K C C "__init__"=↑(some<|.builtin "ValueError.__init__")) (ag:kf K C (.type "ValueError")=↑true)
 (ha:PA (J5 (vd P w) P w K mg base N qual scope f (.ref yE) [("__class__",cc)] A outer s H E) (e0::es) ta)
 (he:gf (e0::es) (io qual scope ⇑s f (.ref yE) [("__class__",cc)])=(false,eval e0<|io qual scope ⇑s f (.ref yE) [("__class__",cc)])::gf es (io qual scope ⇑s f (.ref yE) [("__class__",cc)]))
 (l:(iN pos<|gf es<|io qual scope ⇑s f (.ref yE) [("__class__",cc)]).any (·.1)=false) (D:Nz p0 p1 apos pos "__init__" (e0::es)) :
    PEA (J5 (vd P w) P w K mg base N qual scope f (.ref yE) [("__class__",cc)] A outer s H E) fb (.Call (.Attribute (.Call (.Name "super" p0) [] [] p1) "__init__" apos) (e0::es) [] pos) (Zw C ta):=by
  intro n i σ H1 Q I h
  refine e1a3 h λa h0 ea h=>?_
  have Y:=I.xX
  obtain⟨oc,od,fd,au,Z,lf,hp,rfl⟩:=S.fn
  obtain⟨av,aw,ax,an,file,tf,lc,ah,G⟩:=S.code
  obtain⟨ao,aq,aa,L⟩:=S.cell
  obtain⟨cd,j⟩:=S.cls
  obtain⟨t0,O⟩:=Gy I ea
  refine e1a2 I.loc λmL hn hl=>?_
  refine e1a2 (hl 0 Z.arg (.ref a) ae h0<|.inl B) λu ru lk=>?_
  obtain rfl:u=gF a:=ru
  have ai:mL Z.arg=↑(.ref a):=by
    rcases lk with⟨_,q⟩|⟨q,_⟩
    · exact q
    · have q : scope.names.lookup Z.arg = some .cell \/ scope.names.lookup Z.arg = some .free := q
      rw[B]at q
      rcases q with q|q<;>cases q
  obtain⟨oD,M,R⟩:∃oD,i.heap.get? C=some oD/\oD.data=.cls cd:=by
    unfold lY at j
    split at j
    · rename_i c d ay sl ho
      cases j
      exact#[_,Y _ _ ho,rfl]
    · cases j
  refine e1a2 I.mod.blt λmb aj ak=>?_
  have ne:a≠C:=λz=>by
    rw[z,M]at O
    cases O
    cases R
  obtain⟨pl,D⟩:=D<|io qual scope ⇑s f (.ref yE) [("__class__",cc)]
  refine ks_wpAt_MethodCall (pl:=pl) (ks_wpAt_super_base (env:=io qual scope ⇑s f (.ref yE) [("__class__",cc)]) U X q0q rfl (Y _ _ lf) rfl hp rfl (Y _ _ lc) rfl ah G S.top ?_) D
  refine qo I.ok.kind U<|m9 (env:=io qual scope ⇑s f (.ref yE) [("__class__",cc)]) (I.mod.glob.keeps I.bk) af (aj.keeps I.bk) ((ak _ q0s).trans rfl) #[rfl,?_]
  refine pR I.ok.kind X rfl #[_,Y _ _ L,rfl] ?_
  refine jX I.ok.kind B hn ai ?_
  refine ks_wpAny_isType_cls (h:=i.heap) (g:=i.gens) (d:=i.drawn) (t:=i.toks) (os:=i.os) M R #[rfl,?_]
  refine ks_wpAny_call_super (h:=i.heap) (g:=i.gens) (d:=i.drawn) (t:=i.toks) (os:=i.os) M R O rfl (λc e=>by cases e) (oO Y S.sub) λp e k'=>?_
  have T:Inv _ n σ H1 #[p,i.gens,i.drawn,i.toks,i.os]:=I.kept (t':=i.toks) k'
  unfold jq at hm
  rw[j]at hm
  refine AK e (rG T.xX S.opq) (l0:=cd.mro) (λA Q E s k q=>am<|(oF T.xX j) A _ E s k<|ap q) rfl T.xX hm (k' _ _ O) rfl (oO T.xX ag) ne ?_
  have I2:Inv _ n σ H1 #[p.push<|zF a,i.gens,i.drawn,i.toks+1,i.os]:=T.kept (t':=i.toks+1) λb o z=>ce _ z
  have fr:H1 p.objs.size=none:=T.vc.fresh<|gg _
  have gq:(p.push<|zF a).get? p.objs.size=↑(zF a):=nw rfl rfl
  have I3:=I2.pinned (fp:=[p.objs.size]) (λb y=>by rw[List.mem_singleton.mp y];exact T.FN (gg _) fr) λb y=>by rw[List.mem_singleton.mp y];exact#[_,gq,λv z=>by cases z]
  refine cw_mw (a:=a) he l<|uY (ha pos _ _ σ H1 _ I3 h) λus s2 z9=>e2a5 z9 λvs H2 I4 r q1 q2 q3=>?_
  have g2:s2.heap.get? p.objs.size=↑(zF a):=(I4.pin (p.objs.size,zF a)<|gI _<|gI _<|wO gk gq).1
  refine#[g2,?_]
  have I5:=I4.zl
  obtain⟨t1,O1⟩:=Gy I5 q2
  have al:=I5.xX
  obtain⟨m,g5,d5,t5,az⟩:=s2
  refine T1 gM (al _ _ lC) g2 O1 rfl rfl rfl ?_ (by show us.length<=_;rw[<- r.length];exact q1)
  have hu:upd H2 a (C6 C a none)=H2:=by
    funext b
    by_cases y:b=a
    · rw[y, ul, q2]
    · rw[ui y]
  have O2:=ii (f:=Obj.mapFields (·.setIfInBounds 0 (.ref m.objs.size))) (ce { cls:=.type "tuple",data:=.seq us.toArray} O1) rfl
  have J:=I5.write (x:=a) (e:=a) (o:=C6 C a none) (t':=t5) (h':=(m.push { cls:=.type "tuple",data:=.seq us.toArray}).update a (Obj.mapFields (·.setIfInBounds 0 (.ref m.objs.size)))) (by rw[q2];trivial) (.inl rfl)
    (λb u y z=>by rw[pf _ _ _ _ y];exact ce _ z) #[_,O2] (Kf #[m.objs.size,O2])
  rw[hu]at J
  exact#[.vU,H2,J,rfl,q3]
end
def xf.a1x{s:h8}(k:xf P w H h)(t:H a=↑(C6 C a none))(n:h.get? l=none)(x:∀b o,b≠a->h.get? b=↑o->s.get? b=↑o)(q:Zv C a d s)(D:s.Ns1 l (λz=>if z=f then some u else none))(r:RelV y u) :
  xf P w (upd (upd H l<|.xd [(f,y)]) a<|C6 C a d) s/\∀A,Un A [] H (upd (upd H l<|.xd [(f,y)]) a<|C6 C a d) h s:=by
 have E:∀b v,H b=↑v->b≠l:=λb v z e=>by obtain⟨o,i⟩:=zX k z;rw[e,n]at i;cases i
 have j:∀b v,H b=↑v->(∀B,v≠.ext B)->upd (upd H l<|.xd [(f,y)]) a (C6 C a d) b=some v:=λb v z e=>by rw[ui λi=>by rw[i,t]at z;cases z;exact e _ rfl,ui<|E b v z];exact z
 refine#[λb o z=>?_,λA=>#[λb o z e _ _=>x b o (λi=>by rw[i,t]at e;cases e) z,λb o z e _ _=>#[o.slots,x b o (λi=>by rw[i,t]at e;cases e) z],λb o z e _=>?_,λb o z _=>?_,λb B z=>j b _ z (λ_ e=>by cases e),λb o v z=>j b _ z (λ_ e=>by cases e),λb I z=>#[#v[],by rw[j b _ z<|λ_ e=>by cases e];simp]]]
 ·by_cases e:b=a
  ·subst e;rw[ul]at z;cases z;exact Kf q
  ·rw[ui e]at z;by_cases i:b=l
   ·subst i;rw[ul]at z;cases z;refine#[_,D,λg=>?_];by_cases m:g=f
    ·rw[m,List.lookup_cons_self,f9 rfl];exact r
    ·rw[hI,beq_false_of_ne m,gc m];exact True.intro
   ·rw[ui i]at z;refine(k b o z).CC (λc v p y=>x c v (λm=>?_) y) (λc y=>j c _ y λ_ e=>by cases e) λc J y=>j c _ y λ_ e=>by cases e
    rcases p with p|p
    ·exact e<|p▸m
    ·rw[m,t]at p;cases p
 ·have F:b≠a:=λi=>by rw[i,t]at e;cases e
  have G:b≠l:=λi=>by rw[i,n]at z;cases z
  rw[ui F,ui G];exact e
 ·by_cases e:b=a
  ·obtain⟨_,q⟩:=q;rw[e];exact#[_,q]
  ·exact#[_,x b o e z]
def Zx(C:ci)(f:Str)(e g:TE):TS:=λD c H=>g c H λy h=>e c h λx d=>∃a,x=.ref a/\d a=↑(C6 C a none)/\∀b,d b=none->b≠a->D.nx c (upd (upd d b<|.xd [(f,y)]) a<|C6 C a<|↑b)
def T2(L:PE X o M)(N:PE X value P)(Q:js value (some<|.Attribute o f e) pos.line X.env=pure false)
 (R:X.K.lookup C=↑(i9 nm q C Ns bs B true sn sub ab S dd k0 E G k3 k5 l)) (m:B.contains (.type "object")=true) (n:∀x:ci,sw (.ref x) "__setattr__" B=pure ())
 (T:gR X.K (.ref C) "__setattr__"=↑(some<|.builtin "object.__setattr__"))(U:gR X.K (.ref C) f=↑none):PS X (.Assign [.Attribute o f e] value pos) (Zx C f M P):=by
  intro b s p H D I h
  refine qI (uY (N b s p H _ I h) λu Y r=>e2a3 r λy H1 Z ry q=>uY (L b Y p H1 _ Z q) λov s2 r=>e2a3 r λx H2 i rx v=>e1a3 v λa ex J q2=>?_) Q
  subst ex
  obtain rfl:ov=gF a:=rx
  obtain⟨t0,O⟩:=Gy i J
  have w:=i.xX
  obtain⟨hp,g,d,t,os⟩:=s2
  refine IA PySem.F.store_ValueError m (n a) (w _ _ R) (ol w T) (ol w U) O rfl (λc z=>by cases z) rfl λh' A j k z2 z3 z4=>?_
  have n1:H2 j=none:=by
    cases z:H2 j with
    |none=>rfl
    |some o=>obtain⟨u,q⟩:=zX i.vc z;rw[k]at q;cases q
  have na:j≠a:=λz=>by rw[z,O]at k;cases k
  obtain⟨E,G⟩:=xf.a1x (d:=↑j) i.vc J k z2 #[t0,z3] z4 ry
  exact#[p,_,i.un (h':=h') (t':=A) (G _) E,q2 j n1 na]
def IB(b:bm.contains (.type "BaseException")=true)(k:A.handled=none)
 (h:gu M A x (λv a=>∃e t i,v=.ref e/\a.heap.get? C=↑(i9 nm q C N bs bm hdct sn sub ab col dd k0 k1 k2 k3 k5 newId) /\
 a.heap.get? e=some { cls:=.ref C,dict:=i,data:=.fields #v[.ref t,.none,.none,.none,.bool false,.none]}/\E (.ref e) a) E s) :
    gu M A (raiseStmt l ↑x none) Q E s:=by
  have f:(gF C::bm).contains (.type "BaseException")=true:=by rw[tE,b,Bool.or_true]
  unfold raiseStmt
  refine am<|iA h (λv a c=>?_) λ_ _ x=>x
  obtain⟨e,t,i,rfl,j,m,n⟩:=c
  obtain⟨o,g,d,p,r⟩:=a
  repeat (first|with_reducible refine jf m ?_|with_reducible refine jf j ?_|(with_reducible refine qa j ?_;rw[f])|wp_step)
  exact wpAny_raiseNew_none k n
def IC(F:jK B c y H) 
 (n:bm.contains (.type "BaseException")=true) (Y:A.handled=none) (k:(iN l<|gf args o).any (·.1)=false)
 (h:gu (gv prog w) A (eval (.Name x np) o) (λf m=>f=.ref C/\gu (gv prog w) A (evalArgs (.ref C) true (iN l (gf args o)) [])
 (λa b=>a.kw=[]/\a.pos.length<=gh/\b.heap.get? C=↑(i9 nm q C N bs bm hdct sn sub ab col dd k0 k1 k2 k3 k5 c)/\(∃I,b.heap.Ns N I/\I "__init__"=↑(.ref fI))/\(∃J,b.heap.get? fI=↑J/\J.cls=.type "function")/\rP b.heap H bm /\
 ∀D e,qM b.heap D e (.ref C) a.pos->gu (gv prog w) (A.under (.builtin "type.__call__" #[.ref C::a.pos,[]])) (call (.ref fI) (.ref e::a.pos)) (λr G=>r=.none/\G.heap.get? C=↑(i9 nm q C N bs bm hdct sn sub ab col dd k0 k1 k2 k3 k5 c) /\
 (∃t L,G.heap.get? e=some { cls:=.ref C,dict:=L,data:=.fields #v[.ref t,.none,.none,.none,.bool false,.none]})/\E (.ref e) G) E { b with heap:=D}) E m) E s) :
    gu (gv prog w) A (exec (.Raise (some<|.Call (.Name x np) args [] l) none pos) o) Q E s:=by
  rw[arm_exec_Raise]
  refine am<|mG<|IB (C:=C) (nm:=nm) (q:=q) (N:=N) (bs:=bs) (bm:=bm) (hdct:=hdct) (sn:=sn) (sub:=sub) (ab:=ab) (col:=col) (dd:=dd) (k0:=k0) (k1:=k1) (k2:=k2) (k3:=k3) (k5:=k5) (newId:=c) n Y<|am<|iA (wpAny_Call_ofName<|iA h (λf m i=>?_) λ_ _ x=>x) (λv S p=>am<|mG<|ap p) λ_ _ x=>x
  obtain⟨rfl,i⟩:=i
  unfold mH
  refine am<|g8<|iA i (λa b j=>am<|mG ?_) λ_ _ x=>x
  obtain⟨U,M⟩:=a
  obtain⟨O,u,W,⟨I,Z,hi⟩,⟨J,P,R⟩,T,j⟩:=j
  obtain rfl:M=[]:=O
  obtain⟨hp,g,d,tk,os⟩:=b
  simp only[k]
  refine am<|wpAny_keeperOf_exc W ?_
  refine am<|D7 (hrest:=u) F T W Z hi P R λD e hm=>iA (j D e hm) (λr G X=>#[X.1,?_]) λ_ _ z=>z
  obtain⟨_,c1,⟨t,L,c2⟩,c3⟩:=X
  exact am<|g8<|wpAny_point<|ap #[e,t,L,rfl,c1,c2,c3]
noncomputable def Bk(H:Hp)(x:ci):Hp:=λb=>if b=x then none else H b
def yT:Bk H x x=none:=f9 rfl
def xk(h:b≠x):Bk H x b=H b:=gc h
section
variable{P:gY}{w:il}{H H3 H4:Hp}{h h' h4:h8}{x C:ci}{c:Option ci}
def xf.Qr(k:xf P w H h)(e:H x=↑(C6 C x c)):xf P w (Bk H x) h:=λa o z=>by
 have g:a≠x:=λq=>by rw[q,yT]at z;cases z
 rw[xk g]at z
 have d:∀b u,H b=↑u->(∀f,u≠.ext f)->Bk H x b=↑u:=λb u q n=>by rw[xk λy=>by rw[y,e]at q;cases q;exact n _ rfl];exact q
 exact(k a o z).CC (λ_ _ _ q=>q) (λb q=>d b _ q λf y=>by cases y) λb i q=>d b _ q λf y=>by cases y
def xf.Gz(k:xf P w H h)(e:h.get? x=none):H x=none:=by
 cases z:H x with
 |none=>rfl
 |some o=>obtain⟨u,q⟩:=zX k z;rw[e]at q;cases q
def xf.Md(k:xf P w H h)(e:h.get? x=none)(f:∀b o,h.get? b=↑o->h'.get? b=↑o)(n:Zv C x c h'):xf P w (upd H x<|C6 C x c) h':=λa o z=>by
 by_cases q:a=x
 ·subst q;rw[ul]at z;cases z;exact Kf n
 ·rw[ui q]at z;have d:∀b u,H b=↑u->upd H x (C6 C x c) b=↑u:=λb u y=>by rw[ui λg=>by rw[g,k.Gz e]at y;cases y];exact y
  exact(k a o z).CC (λ_ _ _ y=>f _ _ y) (λb y=>d b _ y) λb i y=>d b _ y
def Un.Md(k:xf P w H h)(e:h.get? x=none)(d:∀b o,h.get? b=↑o->h'.get? b=↑o):Un fs [] H (upd H x<|C6 C x c) h h':=by
 have a:∀b u,H b=↑u->upd H x (C6 C x c) b=↑u:=λb u y=>by rw[ui λf=>by rw[f,k.Gz e]at y;cases y];exact y
 refine#[λb o z _ _ _=>d b o z,λb o z _ _ _=>#[o.slots,d b o z],λb o z n _=>?_,λb o z _=>#[o,d b o z],λb g z=>a b _ z,λb o u z=>a b _ z,λb i z=>#[#v[],by rw[a b _ z];simp]];rw[ui λy=>by rw[y,e]at z;cases z];exact n
def Un.Qr(u:Un fs [] H H4 h h4)(e:h.get? x=none)(d:H x=none):Un fs [] H (Bk H4 x) h h4:=by
 have a:∀b v,H b=↑v->b≠x:=λb v y z=>by rw[z,d]at y;cases y
 refine#[u.keep,u.slot,λb o z n f=>?_,u.there,λb g z=>?_,λb o v z=>?_,λb i z=>?_]
 ·rw[xk λy=>by rw[y,e]at z;cases z];exact u.free b o z n f
 ·rw[xk<|a b _ z];exact u.AO b g z
 ·rw[xk<|a b _ z];exact u.Ay b o v z
 ·rw[xk<|a b _ z];exact u.Az b i z
end
def T4(C:ci)(f:Sp)(a:List V)(E:XK)(h:TA):TS:=λ_ i H=>h i H λc e=>c.length<=gh/\∀x:ci,e x=none ->
 f (.ref x::c++a) (upd e x<|C6 C x none) (λv b=>v=.vU/\∃d,b x=↑(C6 C x d)/\GX.g C d (Bk b x)/\E (.ref C) ↑x (Bk b x)) λ_ _ _=>False
section
variable{P:gY}{w:il}{K:ga}{mg:Str->Option cr}{base:h8}{N:List Str}{qual:Str}{scope:lh}{f:ci}{cd:cr}{A:iW}{outer:List Env}{s:gn}{H:Hp}{E:XK}
variable{nm q:Str}{Ns:ci}{bs bm CJ:List cr}{hdct:Bool}{sn:List Str}{sub:List cr}{ab:Bool}{col:Option Bool}{dd:Option ci}{k0 k1 k2 k3 k5:Option cr}{B newId xq:String}
def NC{k:Nat}(hg:Gl (vg (vd P w) P w K mg base N qual scope f cd A outer s H E) x)(hm:mg x=↑(.ref C))
 (lC:K.lookup C=↑(i9 nm q C Ns bs bm hdct sn sub ab col dd k0 k1 k2 k3 k5 newId)) (aa:∀h:h8,K.In h->∃mN,h.Ns Ns mN/\mN "__init__"=↑(.ref fI)) (hT:∀h:h8,K.In h->rP h CJ bm) (lI:K.lookup fI=↑oI) (ae:oI.cls=.type "function")
 (FB:jK B newId xq CJ) (n:bm.contains (.type "BaseException")=true) (FI:uR P w K mg base (vd P w) k fI fd ps sp) (j:Binds K fd ps U) (af:Vals p U) (hr:vM (k+1) (vg (vd P w) P w K mg base N qual scope f cd A outer s H E).A)
 (ha:PA (vg (vd P w) P w K mg base N qual scope f cd A outer s H E) args ta) (ag:(x==("__debug__":Str))=false)
 (ah:(iN cpos<|gf args (vg (vd P w) P w K mg base N qual scope f cd A outer s H E).env).any (·.1)=false)
 (ai:∀(Q:Args->gn->Prop)(E':cr->gn->Prop)(s9:gn),gu (gv P w) (vg (vd P w) P w K mg base N qual scope f cd A outer s H E).A (tH<|iN cpos<|gf args (vg (vd P w) P w K mg base N qual scope f cd A outer s H E).env) (λX y=>Q #[X,[]] y) E' s9->gu (gv P w) (vg (vd P w) P w K mg base N qual scope f cd A outer s H E).A (evalArgs (.ref C) true (iN cpos<|gf args (vg (vd P w) P w K mg base N qual scope f cd A outer s H E).env) []) Q E' s9) :
    PS (vg (vd P w) P w K mg base N qual scope f cd A outer s H E) (.Raise (some<|.Call (.Name x np) args [] cpos) none pos) (T4 C sp p E ta):=by
  intro a s1 σ H1 D I h
  have hA:=ha cpos a s1 σ H1 _ I h
  refine IC (prog:=P) (w:=w) (C:=C) (nm:=nm) (q:=q) (N:=Ns) (bs:=bs) (bm:=bm) (hdct:=hdct) (sn:=sn) (sub:=sub) (ab:=ab) (col:=col) (dd:=dd) (k0:=k0) (k1:=k1) (k2:=k2) (k3:=k3) (k5:=k5) (fI:=fI)
    FB n (I.ok.hd rfl) ah (yH I hg hm #[rfl,?_] ag)
  refine ai _ _ _<|iA hA (λl G q2=>?_) λ_ _ z=>z
  refine e2a4 q2 λX H2 F r2 hl M=>?_
  have Y:=F.xX
  refine#[rfl,by show l.length<=gh;rw[<- r2.length];exact hl,Y _ _ lC,aa _ Y,#[oI,Y _ _ lI,ae],hT _ Y,λZ e made=>?_]
  refine e1a3 made.there λt aj _ _=>?_
  have n2:H2 e=none:=F.vc.Gz made.new
  have I3:Inv (vg (vd P w) P w K mg base N qual scope f cd A outer s H E) a σ (upd H2 e<|C6 C e none) { G with heap:=Z,toks:=G.toks}:=F.un (Un.Md F.vc made.new made.keeps)<|F.vc.Md made.new made.keeps #[t,aj]
  have r3:Vals (.ref e::X++p) (.ref e::l++U):=.cons rfl<|Vals.append r2 af
  have ak:(gF e::l++U).length=ps.length:=by rw[<- r3.length];exact FI.len _ _ _ _<|M e n2
  refine lU<|jp (FI.run _ _ { G with heap:=Z} _ ⟨.ref e::l,[]⟩ (.ref e::l++U) (.ref e::X++p) _ _ (hr.make C l []) (I3.HR.make C l []) (j { G with heap:=Z} (.ref e::l) I3.xX ak) r3 (M e n2)) λr y O=>?_
  cases r with
  |error e'=>obtain⟨_,_,_,_,_,z⟩:=O;exact z.elim
  |ok fl =>
    cases fl with
    |next=>exact gZ O
    |brk=>exact gZ O
    |cont=>exact gZ O
    |ret u =>
      obtain⟨v,H4,R,i,S,m,rv,rfl,c,e4,gd,hE⟩:=id O
      have T:(vg (vd P w) P w K mg base N qual scope f cd A outer s H E).stack=(vg (vd P w) P w K mg base N qual scope f cd A outer s H E).env::(vg (vd P w) P w K mg base N qual scope f cd A outer s H E).outer:=rfl
      have J:Inv (vg (vd P w) P w K mg base N qual scope f cd A outer s H E) a σ H4 y:=by
        obtain⟨hh,g,d,tt,al⟩:=y
        obtain rfl:al=G.os:=R
        exact Inv.call (s:={ G with heap:=Z}) (h':=hh) (g':=g) (d':=d) (t':=tt) (ch:=[]) I3 S m i<|λb z=>gA z q0o
      obtain⟨t4,O4⟩:=Gy J e4
      refine#[rv,J.xX _ _ lC,#[t4,c,O4],?_]
      have fu:=J.HR.xM
      have an:(kZ y.heap (e::yC (vg (vd P w) P w K mg base N qual scope f cd A outer s H E).stack)).get? e=none:=rq _ gk
      refine iA (Aq (base:=kZ y.heap (e::yC (vg (vd P w) P w K mg base N qual scope f cd A outer s H E).stack)) (a0:=.ref t4) J.ok.frames
        (qR fu λao he b j=>gl _<|List.mem_filterMap.mpr ⟨ao,he,j⟩) (xi J T) O4 (λb o z=>mz _ z) an rfl rfl rfl
        (Q:=λ_ aq=>vd P w outer H s E (.ref e) aq) λar fl up dk=>?_) (λ_ _ z=>z) λ_ _ z=>z
      refine#[C,e,Bk H4 e,rfl,?_,hE]
      refine JR (s2:=y) F T rfl R i (Un.Qr ((Un.Md F.vc made.new made.keeps).trans S) made.new n2) (m.Qr e4) (λb o z L nf=>oB _ z λj=>?_) (λb j=>?_) up fl #[_,dk,gd]
      · rcases List.mem_cons.mp j with rfl|j
        · rcases L with L|⟨o0, L⟩
          · exact L yT
          · rw[made.new]at L; cases L
        · exact nf j
      · have z := J.Z4 b j
        refine#[?_,(fu.mem j).2]
        by_cases q:b=e
        · rw[q, yT]
        · rw[xk q]; exact z.1
end
def W2(K:ga)(C:ci)(c:Str):Sp:=λd H Q _=>∃x l b,d=[.ref x,.ref l]/\H x=↑(C6 C x none)/\(vJ K H l b\/yD K H l b)/\∀p a,H p=none->H a=none->a≠x->a≠p->Q .vU (upd (upd (upd H p<|.lst b) a<|.xd [(c,.ref p)]) x<|C6 C x<|↑a)
section
variable{P:gY}{w:il}{K:ga}{mg:Str->Option cr}{base:h8}{qual name:Str}{scope:lh}{f yE cc:ci}{C:ci}{k:Nat}{p0 p1 p2 p3 p4 p5 p6 p7 p8 p9 apos pos:Pos}{r fl tx:Str}{j:Nat}
variable{nm q:Str}{Ns:ci}{bs bm:List cr}{sn:List Str}{sub:List cr}{ab:Bool}{col:Option Bool}{dd:Option ci}{k0 k1 k2 k3 k5:Option cr}{params:Arguments}{dV kV doc pm ct oc:cr}{an od:Option ci}{Na:Array (Option cr)}{body:List gV}
def T5(lk:K.lookup f=some #[oc,od,.func<|jO name qual params body scope [("__class__",cc)] dV kV doc pm an (.ref yE) ct,Na])(g:iR K (.ref yE) qual=true)
 (m:body=[.Expr (.Call (.Attribute (.Call (.Name "super" p0) [] [] p1) "__init__" apos) [.Constant (.str tx) j p3] [] pos) p2,.Assign [.Attribute (.Name "self" p4) fl p5] (.Call (.Name "list" p6) [.Name r p7] [] p8) p9])
 (S:WL.xR ["self",r] ["self",r] scope) (D:J8 P K C f yE cc "self") (n:Nz p0 p1 apos pos "__init__" [.Constant (.str tx) j p3]) (o:mg "super"=none) (t:mg "list"=none) (u:scope.names.lookup ("list":Str)=some .globalImplicit)
 (M:K.lookup C=↑(i9 nm q C Ns bs bm true sn sub ab col dd k0 k1 k2 k3 k5 "ValueError.__new__")) (U:jq K C C "__init__"=↑(some<|.builtin "ValueError.__init__")) (v:kf K C (.type "ValueError")=↑true)
 (B:bm.contains (.type "object")=true) (F:∀x:ci,sw (.ref x) "__setattr__" bm=pure ()) (X:gR K (.ref C) "__setattr__"=↑(some<|.builtin "object.__setattr__")) (Y:gR K (.ref C) fl=↑none)
 (G:(r==("__debug__":Str))=false) (I:(r==("__classdict__":Str))=false) :
    uR P w K mg base (vd P w) (k+1) f (jO name qual params body scope [("__class__",cc)] dV kV doc pm an (.ref yE) ct) ["self",r] (W2 K C fl):=by
  obtain⟨o1,o2,o3,a⟩:=D.cell
  refine Gv lk g (S.x cc) (λy c h=>?_) (λZ H Q E h=>?_) λA J s H Z Q E hr L=>?_
  · have e : c = cc := by
      by_cases e:(y==("__class__":Str))=true
      · rw[hI, e]at h; cases h; rfl
      · rw[hI, Bool.eq_false_iff.mpr e]at h; cases h
    subst e
    exact#[_,_,a,rfl]
  · obtain⟨x, l, N, rfl, _⟩ := h; rfl
  · obtain⟨x, l, N, rfl, b, hl, hq⟩ := L
    rw[m]
    refine#[_,xI (DX (Qq D rfl S.ks S.kc (S.par _ gk) o M U v (ut FL uI) rfl rfl n)) (xI (Qe (T2 (Jh (i:=0) rfl (.inl (S.par _ gk)))
      (wP xC u t jU (ut (Jh (i:=1) rfl (.inl (S.par _ (gl _ gk))) G I) uI)) rfl M B F X Y)) (C0 yJ)),?_]
    have st:start ["self",r] [V.ref x,V.ref l]=[some<|.ref x,some<|.ref l]:=rfl
    rw[st]
    refine#[x,rfl,b,?_,b,?_]
    · show (1 : Nat) <= gh
      rw[iC];lia
    · refine#[.ref l, rfl, l, N, rfl, hl, λp O => #[.ref x, rfl, x, rfl, ?_, λR d n2 => ?_]]
      · rw[ui λz => by rw[z, O]at b; cases b]
        exact b
      · have T : R ≠ p := λz => by rw[z, ul]at d; cases d
        rw[ui T]at d
        exact hq p R O d n2 T
end
end L2
namespace WL
variable[L2.GX]
open PySem L2
open Rep (rp)
open Ow (sl)
open Sls (rel)
structure XcI(P:gY)(w:il)(K:ga)(mg:Str->Option cr)(base:h8)(k:Nat)(x:Str)(C:ci)(fl:Str):Prop where
 ex:∃(fI Ns:ci)(fd:hV)(oI:pY)(nm q:Str)(bs bm CJ:List cr)(hdct:Bool)(sn:List Str)(sub:List cr)(ab:Bool)(col:Option Bool)(dd:Option ci)(k0 k1 k2 k3 k5:Option cr)(B newId xq:String)(ps:List Str),
  mg x=↑(.ref C)/\K.lookup C=↑(i9 nm q C Ns bs bm hdct sn sub ab col dd k0 k1 k2 k3 k5 newId)/\(∀h:h8,K.In h->∃mN,h.Ns Ns mN/\mN "__init__"=↑(.ref fI))/\(∀h:h8,K.In h->rP h CJ bm)/\K.lookup fI=↑oI/\oI.cls=.type "function" /\
  jK B newId xq CJ/\bm.contains (.type "BaseException")=true/\uR P w K mg base (vd P w) k fI fd ps (W2 K C fl)/\Binds K fd ps []
 go:∀dx p xs H,H dx=↑(.xd [(fl,.ref p)])->H p=↑(.lst xs)->GX.g C ↑dx H
section
variable{D D' D1 PO τ α:Type}[Sls D][Sls D'][Sls D1][Sls PO][Ow τ][Rep α]
def W3{x r L:Str}{i:Nat}{y j M:Pos}{C:ci}[J:Pj D PO n][At i D (OL α) D1](hg:Gl (vg (vd P w) P w K l base N g c f u A e s H E) x)(h:XcI P w K l base k x C L)(hr:vM (k+1) (vg (vd P w) P w K l base N g c f u A e s H E).A)
  (hv:PE (vg (vd P w) P w K l base N g c f u A e s H E) (.Name r M) (uT i)) (W:(x==("__debug__":Str))=false:=by decide)
  (X:gf [.Name r M] (vg (vd P w) P w K l base N g c f u A e s H E).env=(false,eval (.Name r M) (vg (vd P w) P w K l base N g c f u A e s H E).env)::gf [] (vg (vd P w) P w K l base N g c f u A e s H E).env:=by rfl) :
  S1 (vg (vd P w) P w K l base N g c f u A e s H E) E T ms n (.Raise (some<|.Call (.Name x y) [.Name r M] [] j) none Y) (λ(d:D)(_:D'->Prop)(_:τ->PO->Prop) Ke=>Ke C<|J.pj d):=by
 obtain⟨fI,Ns,fd,oI,nm,q,bs,bm,af,ae,sn,ag,ab,ah,dd,k0,k1,k2,k3,k5,B,Z,O,ps,a1,a2,a3,a4,a5,a6,a7,a8,a9,aa⟩:=h.ex;refine#[_,NC (np:=y) (pos:=Y) (cpos:=j) hg a1 a2 a3 a4 a5 a6 a7 a8 a9 aa .nil hr (ut hv uI X) W (by rw[X];rfl) λQ E' s9 z=>by rw[X]at z ⊢;exact iZ z,λd F R σ H Kn Kr Ke En s hw kn kr ke=>?_];obtain⟨v,F1,F2,e1,_,⟨a,I,rfl,_,ha,_⟩,_⟩:=Tc (i:=i) (τ:=OL α) s;refine#[.ref a,e1,(by show 1<=gh;decide),λx hx=>#[x,a,I,rfl,ul,.inl ?_,λp m S hd nx y=>#[rfl,↑m,ul,?_]]]
 ·have ne:a≠x:=λz=>by rw[z,hx]at ha;cases ha
  exact .inl<|Rd.of (by rw[ui ne];exact ha)
 ·have px:p≠x:=λz=>by rw[z,ul]at S;cases S
  rw[ui px]at S;rw[ui nx]at hd
  have q:Bk (upd (upd (upd (upd H x<|C6 C x none) p<|.lst I) m<|.xd [(L,.ref p)]) x<|C6 C x<|↑m) x=upd (upd H p<|.lst I) m (.xd [(L,.ref p)]):=by
   funext b
   by_cases U:b=x
   ·rw[U,yT,ui<|Ne.symm nx,ui<|Ne.symm px,hx]
   ·rw[xk U,ui U];by_cases o:b=m
    ·rw[o,ul,ul]
    ·rw[ui o,ui o];by_cases t:b=p
     ·rw[t,ul,ul]
     ·rw[ui t,ui U,ui t]
  rw[q];refine#[h.go m p I _ ul (by rw[ui<|Ne.symm y];exact ul),?_];refine e0a3 (s.new (.lst I) S) λs2 c2 _=>?_;obtain⟨s3,c3,_⟩:=s2.new (p:=m) (.xd [(L,.ref p)]) (by rw[ui y];exact hd);refine e1a2 (vX (PO:=PO) s3) λG g1 g2=>?_;exact ke C x _ G R _ hw ((Ch.trans s s2.tab c2 c3).less g1) g2
end
end WL
namespace SX
open PySem PySem.W PyProof.Rows
def zH(p:Array Nat)(k:Nat):p.getD k 0=(p[k]?).getD 0:=by simp
def B2{p:Array Nat}{i j:Nat}(h:j<=p.size)(k:Nat):(qG p i j).getD k 0=if i<=k/\k<j then p.getD (i+j-1-k) 0 else p.getD k 0:=by rw[zH,qG,getElem?_mirror_all h k,zH,zH];split<;>rfl
def Kg{p:Array Nat}{k d:Nat}(h:k<p.size)(a:d<=k)(i:Nat):(bubble p k d).getD i 0=if i=k-d then p.getD k 0 else if k-d<i/\i<=k then p.getD (i-1) 0 else p.getD i 0:=by
 rw[zH,getElem?_bubble h d a i,zH,zH,zH];split
 ·rfl
 ·split<;>rfl
structure a1z(lt:Nat->Nat->Bool):Prop where
 ir:∀a,lt a a=false
 tr:∀a b c,lt b a=false->lt c b=false->lt c a=false
 as:∀a b,lt a b=true->lt b a=false
section
variable{lt:Nat->Nat->Bool}{cmp:Nat->Nat->(Bool->gn->Prop)->gn->Prop}{N:Nat}{s:gn}
def GB(lt:Nat->Nat->Bool)(p:Array Nat)(k:Nat):Prop:=∀i j,i<=j->j<k->lt (p.getD j 0) (p.getD i 0)=false
def EL(lt:Nat->Nat->Bool)(p:Array Nat)(k:Nat):Prop:=∀i j,i<=j->j<k->lt (p.getD i 0) (p.getD j 0)=false
def HC(N:Nat)(p:Array Nat):Prop:=∀k,p.getD k 0<N
def HC.rev{i j:Nat}(b:HC N p)(h:j<=p.size):HC N (qG p i j):=λk=>by rw[B2 h];split<;>exact b _
def HC.bub{k d:Nat}(b:HC N p)(h:k<p.size)(c:d<=k):HC N (bubble p k d):=λi=>by
 rw[Kg h c];by_cases q:i=k-d
 ·rw[f9 q];exact b _
 ·rw[gc q];by_cases a:k-d<i/\i<=k
  ·rw[f9 a];exact b _
  ·rw[gc a];exact b _
def Bl{i j:Nat}:(qG p i j).Perm p:=mirror_perm _ _ _ _
variable(L:a1z lt)(hc:∀i j (C:Bool->gn->Prop),i<N->j<N->C (lt i j) s->cmp i j C s)
include L hc
def Me(b:HC N p):∀(f n:Nat) {Q:Nat->gn->Prop},1<=n->GB lt p n->(∀m,n<=m->m<=n+f->GB lt p m->(m<n+f->lt (p.getD m 0) (p.getD (m-1) 0)=true)->Q m s)->kN cmp (kas_asc p f n) Q s:=by
 intro g
 induction g with
 |zero=>intro n Q h a k;exact k n (gg _) (gg _) a<|λz=>gA z<|jm _
 |succ f c =>
  intro n Q h a k;refine hc _ _ _ (b _) (b _) ?_
  cases e:lt (p.getD n 0) (p.getD (n-1) 0) with
  |true=>exact k n (gg _) q0a a λ_=>e
  |false =>
   refine c (n+1) q0a (λi j d t=>?_) λm u v l o=>k m q0a q0a l λz=>o q0a;by_cases q:j=n
   ·subst q;by_cases r:i=j
    ·rw[r];exact L.ir _
    ·exact L.tr _ _ _ (a i (j-1) q0a q0a) e
   ·exact a i j d q0a
omit hc in
set_option tactic.hygienic true in
def T6{p:Array Nat}{n q:Nat}(m:q+1<=n)(d:n<=p.size)(f:EL lt p n)(c:∀k,n-(q+1)<=k->k<n->lt (p.getD (n-1) 0) (p.getD k 0)=false)(k:Nat) :
  lt ((qG p (n-(q+1)) n).getD k 0) (p.getD k 0)=false/\lt (p.getD k 0) ((qG p (n-(q+1)) n).getD k 0)=false:=by
 rw[B2 d];split
 ·rename_i h
  have e:∀a b,n-(q+1)<=a->a<n->n-(q+1)<=b->b<n->lt (p.getD a 0) (p.getD b 0)=false:=λa b o r g l =>
   L.tr _ (p.getD (n-1) 0) _ (c b g l) (f a (n-1) q0d q0d)
  exact#[e _ _ q0d q0d h.1 h.2,e _ _ h.1 h.2 q0d q0d]
 ·exact#[L.ir _,L.ir _]
omit hc in
def Mg{p:Array Nat}{n q m:Nat}(c:q+1<=n)(d:n<=p.size)(f:EL lt p n)(a:∀k,n-(q+1)<=k->k<n->lt (p.getD (n-1) 0) (p.getD k 0)=false)(g:EL lt p m):EL lt (qG p (n-(q+1)) n) m:=λi j b h=>by have e:=T6 L c d f a;exact L.tr _ _ _ (L.tr _ _ _ (e j).2<|g i j b h) (e i).1
omit hc in
def D8{n:Nat}(d:1<=n)(b:EL lt p n)(h:lt (p.getD (n-1) 0) (p.getD n 0)=false):EL lt p (n+1):=λi j a e=>by
 by_cases q:j=n
 ·subst q;by_cases c:i=j
  ·rw[c];exact L.ir _
  ·exact L.tr _ _ _ h<|b i (j-1) q0a q0a
 ·exact b i j a q0a
def Qs:∀(f:Nat)(p:Array Nat)(n q:Nat) {Q:Array Nat×Nat×Nat->gn->Prop},HC N p->q+1<=n->n+f<=p.size->EL lt p n->(∀k,n-(q+1)<=k->k<n->lt (p.getD (n-1) 0) (p.getD k 0)=false) ->
  (∀a m d,a.Perm p->a.size=p.size->HC N a->d+1<=m->n<=m->m<=n+f->EL lt a m->(∀k,m-(d+1)<=k->k<m->lt (a.getD (m-1) 0) (a.getD k 0)=false)->Q (a,m,d) s)->kN cmp (kas_desc f p n q) Q s:=by
 intro F
 induction F with
 |zero=>intro p n q Q b w G h c k;exact k p n q (.refl _) rfl b w (gg _) (gg _) h c
 |succ f g =>
  intro p n q Q b w G h c k;refine hc _ _ _ (b _) (b _) ?_
  cases e:lt (p.getD n 0) (p.getD (n-1) 0) with
  |true =>
   have y:=D8 L q0a h<|L.as _ _ e
   have A:∀{x:Array Nat},∀k,n+1-(0+1)<=k->k<n+1->lt (x.getD (n+1-1) 0) (x.getD k 0)=false:=λ{x} k H I=>by
    have:k=n+1-1:=by lia
    rw[this];exact L.ir _
   split
   ·refine g _ (n+1) 0 (b.rev q0a) q0a (by rw[mn];lia) (Mg L w q0a h c y) A λa m d l o r t B D u v=>k a m d (l.trans Bl) (o.trans<|mn _ _) r t q0a q0a u v
   ·exact g p (n+1) 0 b q0a q0a y A λa m d l o r t B D u v=>k a m d l o r t q0a q0a u v
  |false =>
   refine hc _ _ _ (b _) (b _) ?_
   cases J:lt (p.getD (n-1) 0) (p.getD n 0) with
   |true=>exact k p n q (.refl _) rfl b w (gg _) q0a h c
   |false =>
    refine g p (n+1) (q+1) b q0a q0a (D8 L q0a h J) (λE H I=>?_) λa m d l o r t B D u v=>k a m d l o r t q0a q0a u v;have M:n+1-1=n:=by lia
    rw[M];by_cases z:E=n
    ·rw[z];exact L.ir _
    ·exact L.tr _ _ _ (c E q0a q0a) e
def IE{n a:Nat}(b:HC N p)(e:1<=n)(o:n<=a)(q:a<=p.size)(f:EL lt p n)
 (k:∀m c,c.Perm p->c.size=p.size->HC N c->1<=m->m<=a->GB lt c m->Q (m,c) s):kN cmp (kas_tail3 n a p) Q s:=by
  unfold kas_tail3
  rw[my]
  have d:n<=p.size:=by omega
  refine Me L hc (b.rev d) _ n e (λi j g h=>?_) λm r t l _=>k m _ Bl (mn _ _) (b.rev d) q0d q0d l
  rw[B2 d,B2 d,f9 #[iz _,h],f9 #[iz _,q0d]]
  exact f _ _ q0d q0d
def Qt{n a:Nat}(b:HC N p)(A:1<=n)(B:n+1<=a)(D:a<=p.size)(w:EL lt p (n+1))
 (k:∀m d,d.Perm p->d.size=p.size->HC N d->1<=m->m<=a->GB lt d m->Q (m,d) s):kN cmp (kas_descPart n a p) Q s:=by
  unfold kas_descPart
  rw[my]
  refine Qs L hc _ p (n+1) 0 b q0a q0a w (λx E F=>?_) λd m G t u v y H I e z=>?_
  · have : x = n+1-1 := by lia
    rw[this];exact L.ir _
  · dsimp only
    split
    · exact IE L hc (v.rev q0a) q0a q0a (by rw[mn]; lia) (Mg L y q0a e z e) λf c g h l o q r => k f c ((g.trans Bl).trans t) ((h.trans<|mn _ _).trans u) l o q r
    · exact IE L hc v q0a q0a q0a e λf c g h l o q r => k f c (g.trans t) (h.trans u) l o q r
set_option tactic.hygienic true in
def ND{d:Nat}(b:HC N p)(P:1<=d)(B:d<=p.size)
 (k:∀m f,f.Perm p->f.size=p.size->HC N f->1<=m->m<=d->GB lt f m->Q (m,f) s):kN cmp (kas_count d p) Q s:=by
  unfold kas_count
  rw[my]
  refine Me L hc b _ 1 (gg _) (λi j g v=>?_) λn w R o D=>?_
  · have r : i = 0 := by lia
    have h:j=0:=by lia
    rw[r,h];exact L.ir _
  · by_cases e : n = d
    · rw[f9<|by rw[e]; simp]
      exact k n p (.refl _) rfl b w q0a o
    · rw[gc<|by simp[e]]
      have x:=D q0a
      split
      · rename_i S
        refine hc _ _ _ (b _) (b _) ?_
        cases h:lt (p.getD 0 0) (p.getD (n-1) 0) with
        |true=>exact k n p (.refl _) rfl b w q0a o
        |false =>
          have t:n<=p.size:=by lia
          refine Qt L hc (b.rev t) q0a q0a (by rw[mn];lia) (λi j g v=>?_) λE u y F G H I J=>k E u (y.trans Bl) (F.trans<|mn _ _) G H I J
          have l:∀a c,a<n->c<n->lt (p.getD a 0) (p.getD c 0)=false:=λa c M y=>L.tr _ _ _ (L.tr _ _ _ (o c (n-1) q0a q0a) h)<|o 0 a (iz _) M
          rw[B2 t i,B2 t j]
          by_cases q:j<n
          · rw[f9 #[iz _, by lia], f9 #[iz _, q]]
            exact l _ _ q0a q0a
          · have O : j = n := by lia
            rw[gc (c:=0<=j/\j<n) λz=>q z.2]
            by_cases A:i<n
            · rw[f9 #[iz _, A], O]
              exact L.tr _ _ _ (L.as _ _ x)<|l _ _ q0a q0a
            · rw[gc λz => A z.2, show i = j by lia]
              exact L.ir _
      · refine Qt L hc b q0a q0a B (D8 L q0a (λi j g v => ?_)<|L.as _ _ x) k
        have r:i=0:=by lia
        have h:j=0:=by lia
        rw[r,h];exact L.ir _
def NE{k:Nat}(b:HC N p)(q:GB lt p k):∀(f l r:Nat) {Q:Nat->gn->Prop},r-l<=f->l<=r->r<=k->(∀i,i<l->lt (p.getD k 0) (p.getD i 0)=false)->(∀i,r<=i->i<k->lt (p.getD k 0) (p.getD i 0)=true) ->
  (∀h,h<=k->(∀i,i<h->lt (p.getD k 0) (p.getD i 0)=false)->(∀i,h<=i->i<k->lt (p.getD k 0) (p.getD i 0)=true)->Q h s)->kN cmp (tF p k f l r) Q s:=by
 intro t
 induction t with
 |zero=>intro l r Q u o a m n d;exact d l q0d m λi z=>n i q0d
 |succ f g =>
  intro l r Q u o a m n d;show kN cmp (if l>=r then KasT.ret l else KasT.ask (p.getD k 0) (p.getD ((l+r) / 2) 0) λc=>if c=true then tF p k f l ((l+r) / 2) else tF p k f ((l+r) / 2+1) r) Q s;split
  ·exact d l q0d m λi z=>n i q0d
  ·refine hc _ _ _ (b _) (b _) ?_
   cases e:lt (p.getD k 0) (p.getD ((l+r) / 2) 0) with
   |true =>
    refine g l ((l+r) / 2) q0d q0d q0d m (λi v w=>?_) d
    cases x:lt (p.getD k 0) (p.getD i 0) with
    |true=>rfl
    |false=>rw[L.tr _ _ _ (q ((l+r) / 2) i v w) x]at e;cases e
   |false =>
    refine g ((l+r) / 2+1) r q0d q0d a (λi z=>?_) n d;exact L.tr _ _ _ (q i ((l+r) / 2) q0d q0d) e
def T7:∀(f:Nat)(p:Array Nat)(k:Nat) {Q:Array Nat->gn->Prop},HC N p->k+f<=p.size->GB lt p k->(∀d,d.Perm p->GB lt d (k+f)->Q d s)->kN cmp (kas_bin f p k) Q s:=by
 intro t
 induction t with
 |zero=>intro p k Q b u c g;exact g p (.refl _) c
 |succ f h =>
  intro p k Q b u c g;show kN cmp ((tF p k k 0 k).bind λl=>kas_bin f (bubble p k<|k-l)<|k+1) Q s;rw[my];refine NE L hc b c k 0 k q0a q0a (gg _) (λi z=>gA z q0a) (λi D v=>gA v q0a) λl E w x=>?_;have a:k<p.size:=by lia
  have m:k-l<=k:=by lia
  have y:k-(k-l)=l:=by lia
  refine h _ (k+1) (b.bub a m) (by rw[bubble_size];lia) (λi j n F=>?_) λd A B=>g d (A.trans<|bubble_perm _ _ _) (by rw[show k+(f+1)=k+1+f by lia];exact B);rw[Kg a m,Kg a m,y];by_cases o:j=l
  ·rw[f9 o];by_cases e:i=l
   ·rw[f9 e];exact L.ir _
   ·rw[gc e,gc q0a];exact w i q0a
  ·rw[gc o];by_cases q:l<j/\j<=k
   ·rw[f9 q];by_cases e:i=l
    ·rw[f9 e];exact L.as _ _<|x (j-1) q0a q0a
    ·rw[gc e];by_cases r:l<i/\i<=k
     ·rw[f9 r];exact c _ _ q0a q0a
     ·rw[gc r];exact c _ _ q0a q0a
   ·rw[gc q,gc q0a,gc q0a];exact c _ _ n q0a
set_option tactic.hygienic true in
def Qu{n:Nat}(p:1<=n)(u:n<=N)(d:∀a,a.Perm (gL n).toArray->GB lt a n->Q a s):kN cmp (kas_sort n) Q s:=by
 unfold kas_sort;rw[my];have e:(gL n).toArray.size=n:=by simp
 have b:HC N (gL n).toArray:=λk=>by
  rw[zH];simp only[List.getElem?_toArray,List.getElem?_range'];by_cases h:k<n
  ·simp[sQ h];lia
  ·simp[jL (l:=gL n)<|by simpa using h];lia
 refine ND L hc b p (by rw[e];exact gg _) λm a f q r v w g=>?_;split
 ·rename_i h
  refine T7 L hc _ a (max m 1) r (by rw[q,e];lia) (by rw[show max m 1=m by lia];exact g) λc t o=>d c (t.trans f) (by rw[show max m 1+(n-max m 1)=n by lia]at o;exact o)
 ·exact d a f (by rw[show n=m by lia];exact g)
end
open PySem.Spec
noncomputable def IF(p q:Int×Int):Bool:=decide (p.1<q.1)||(p.1==q.1&&decide (p.2<q.2))
def Ft:IF p q=false↔q.1<p.1\/(q.1=p.1/\q.2<=p.2):=by unfold IF;simp only[Bool.or_eq_false_iff,Bool.and_eq_false_iff,decide_eq_false_iff_not,beq_eq_false_iff_ne];omega
def Zy:IF p q=true↔p.1<q.1\/(p.1=q.1/\p.2<q.2):=by unfold IF;simp only[Bool.or_eq_true,hR,hX,beq_iff_eq]
def wJ(h:h8)(v:cr)(p:Int×Int):Prop:=∃x o t u n,v=.ref x/\h.get? x=↑o/\o.cls=.type "tuple"/\o.data=.seq #v[.int p.1 t,.int p.2 u] n
def T8{x y:cr}{p q:Int×Int}{Q:Bool->gn->Prop}(hx:wJ s.heap x p)(hy:wJ s.heap y q)(h:Q (IF p q) s):gu (gv prog w) A (keyLt' (tuples' true) x y) Q E s:=by
 obtain⟨a,o,t,u,n,rfl,h1,h2,h3⟩:=hx;obtain⟨b,o',t',u',n',rfl,k1,k2,k3⟩:=hy;refine PySem.W.kat_lt h1 h3 k1 k3<|sS<|qN<|tT (λe=>tG<|sS<|qN<|tT (λe2=>tG<|PySem.W.kat_nil ?_) λe2=>tU<|PySem.W.kat_one _ _<|wpAny_lt_int ?_) λe=>tU<|oneLt_int ?_
 ·have e1:=eq_of_beq e;have e2:=eq_of_beq e2;have:IF p q=false:=Ft.mpr<|.inr #[e1.symm,Int.le_of_eq e2.symm];rw[this]at h;exact h
 ·have e1:=eq_of_beq e;have:IF p q=decide (p.2<q.2):=by unfold IF;rw[e1];simp
  rw[this]at h;exact h
 ·have:IF p q=decide (p.1<q.1):=by unfold IF;rw[e];simp
  rw[this]at h;exact h
def wJ.keep{h a:h8}(k:∀b o,h.get? b=↑o->o.cls=.type "tuple"->a.get? b=↑o)(z:wJ h v p):wJ a v p:=by obtain⟨x,o,t,u,n,e,d,c,f⟩:=z;exact#[x,o,t,u,n,e,k x o d c,c,f]
def D9{h a:h8}(k:∀b o,h.get? b=↑o->o.cls=.type "tuple"->a.get? b=↑o):∀{c:List cr} {d:List (Int×Int)},Paired (wJ h) c d->Paired (wJ a) c d:=by
 intro _ _ z
 induction z with
 |nil=>exact .nil
 |cons h t e=>exact .cons (h.keep k) e
def Ea:∀{d:List cr} {e:List (Int×Int)},Paired (wJ h) d e->∃c,PySem.W.KatTups h d c/\c.length=d.length/\∀v∈c,∃i t,v=kO i t
 |_,_,.nil=>#[[],PySem.W.KatTups.nil,rfl,λ_ z=>gA z gP]
 |_,_,.cons a b=>by
  refine e1a3 (Ea b) λc f g j=>?_;obtain⟨x,o,t,u,n,rfl,k,l,m⟩:=a;refine#[_::c,#[#[x,o,_,n,rfl,k,l,m,rfl],f],by simp[g],λv p=>?_];rcases List.mem_cons.mp p with z|z
  ·exact#[_,_,z]
  ·exact j v z
def Fv:∀{c:List cr} {d:List (Int×Int)},Paired (wJ h) c d->∀i,i<c.length->wJ h (c.getD i .none) (d.getD i (0,0)):=by
 intro _ _ z
 induction z with
 |nil=>intro i z;exact gA z<|Nat.not_lt_zero _
 |cons a b e =>
  intro i z
  cases i with
  |zero=>exact a
  |succ i=>simpa using e i (by simpa using z)
def Ki{d:List cr}{n:Nat}(D:s.heap.get? a=↑(lH "list" d.toArray n))(hp:Paired (wJ s.heap) d m)(I:d.length<64)
 (h:∀J:List Nat,J.Perm (gL d.length)->(J.map λi=>m.getD i (0,0)).Pairwise (λx y=>IF y x=false)->P (.done<|.ret .none) { s with heap:=sortedHeap s.heap a d (J.map λi=>d.getD i .none).toArray}):gu (gv U w) A (Builtin.«list.sort» #[[.ref a],[]]) P E s:=by
  rw[list_sort_plain]
  have sl:(64:Nat)<=gh:=by rw[iC];decide
  have hz:d.length<=gh:=by lia
  refine am<|listItems_at D rfl<|am<|sT D rfl ?_ (hsz:=by simpa using hz)
  obtain⟨L,X⟩:∃L,(s.heap.update a<|Obj.mapSeq λ_=>#v[]).get? a=some (lH "list" #v[] L):=#[_,get?_update_seq D _]
  refine am<|seqEpoch_at X rfl<|am<|wpAny_newTuple<|am<|sP<|g8 ?_
  have F:(((s.heap.update a<|Obj.mapSeq λ_=>#v[]).push<|lH "tuple" d.toArray 0).push<|lH "list" #v[] 0).get? a=↑(lH "list" #v[] L):=ce _<|ce _ X
  have g:Paired (wJ<|((s.heap.update a<|Obj.mapSeq λ_=>#v[]).push<|lH "tuple" d.toArray 0).push<|lH "list" #v[] 0) d m:=D9 (λb o z c=>ce _<|ce _<|(g9 _ _ (λq=>by rw[<- q,D]at z;cases z;have c:jw "list"=jw "tuple":=c;injection c with c;exact gA c q0q)).trans z) hp
  have sz:d.toArray.size=d.length:=by simp
  by_cases Y:d.length<2
  · rw[f9 q0a, f9 q0a]
    refine am<|ap<|am<|ap ?_
    refine am<|seqEpoch_at F rfl<|am<|sT F rfl ?_ (hsz2:=by simp[SortSt.mk',arrOf];lia)
    have key:=h (gL d.length) (.refl _) (by
      rcases d with _|⟨v,_|⟨v2,r⟩⟩
      · simp
      · simp
      · simp at Y; lia)
    have e:((gL d.length).map λi=>d.getD i .none).toArray=Array.map (λx=>x.snd) (d.toArray.zip d.toArray):=by
      rcases d with _|⟨v,_|⟨v2,r⟩⟩
      · simp
      · simp
      · simp at Y; lia
    rw[e]at key
    simp only[qC,kh,oG]
    exact ap key
  rw[gc q0a,gc q0a]
  refine e1a3 (Ea g) λfs f1 f2 f3=>?_
  refine am<|PySem.W.kat_kind (T:=.type "int") f1 q0a (λv hv=>?_) q0q ?_
  · obtain⟨i, t, rfl⟩ := f3 v hv
    exact PySem.W.Looks.now
  refine am (iA (PySem.W.kat_run (ks:=d) (vs:=d) (κ:=tuples' true) rfl q0a I (Q:=λf u=>∃p:Array Nat,p.size=d.length/\arrOf f=Array.map (PySem.W.kas_item (d.toArray.zip d.toArray)) p/\failedOf f=none/\u={ s with heap:=((s.heap.update a (Obj.mapSeq λ_=>#v[])).push (lH "tuple" d.toArray 0)).push (lH "list" #v[] 0)}/\p.toList.Perm (gL d.length)/\(p.toList.map λi=>m.getD i (0,0)).Pairwise (λx y=>IF y x=false))
    (G:=λp u=>u={ s with heap:=((s.heap.update a (Obj.mapSeq λ_=>#v[])).push (lH "tuple" d.toArray 0)).push (lH "list" #v[] 0)}/\p.toList.Perm (gL d.length)/\(p.toList.map λi=>m.getD i (0,0)).Pairwise (λx y=>IF y x=false)) (λp f u M O R q4=>#[p,M,O,R,q4]) ?_) ?_ λ_ _ z=>z)
  rotate_left
  · rintro⟨⟨⟩, f⟩ u ⟨p, M, O, R, rfl, g1, g2⟩
    have Z:=PySem.W.kat_snds (vs:=d) (ks:=d) rfl O
    refine am<|seqEpoch_at F rfl<|am<|sT F rfl ?_ (hsz2:=by rw[Z];simp[M];lia)
    rw[R]
    simp only[qC,kh,oG]
    rw[Z]
    exact ap<|h _ g1 g2
  · refine Qu (N := d.length) (lt := λi j => IF (m.getD i (0, 0))<|m.getD j (0, 0)) ⟨λa => ?_, λa b c z1 z2 => ?_, λa b z => ?_⟩ (λi j C H B k => ?_) q0a (gg _) λl c1 c2 => #[rfl, ?_, ?_]
    · exact Ft.mpr<|.inr #[rfl, nC _]
    · have z1 := Ft.mp z1
      have z2:=Ft.mp z2
      exact Ft.mpr q0a
    · have z := Zy.mp z
      exact Ft.mpr q0a
    · exact T8 (Fv g i H) (Fv g j B) k
    · have := c1.toList
      simpa using this
    · rw[List.pairwise_iff_getElem]
      intro i j H B S
      have hl:l.size=d.length:=by have:=c1.size_eq;simpa using this
      have q:=c2 i j (kU S) (by simpa[hl] using B)
      have gi:l.getD i 0=l.toList[i]'(by simpa using H):=by
        have:i<l.size:=by simpa using H
        simp[Array.getD,this]
      have gj:l.getD j 0=l.toList[j]'(by simpa using B):=by
        have:j<l.size:=by simpa using B
        simp[Array.getD,this]
      rw[uf,uf,<- gi,<- gj]
      exact q
def GC{a:List cr}(u:s.heap.IsList l a.toArray)(v:Paired (wJ s.heap) a B)(f:a.length<64)
 (h:∀j C r (d:List Nat),⇑s<=r->d.Perm (gL a.length)->(d.map λi=>B.getD i (0,0)).Pairwise (λx y=>IF y x=false)->(∃n,j.get? r=some { cls:=.type "list",data:=.seq (d.map λi=>a.getD i .none).toArray n})->(∀c o,s.heap.get? c=↑o->j.get? c=↑o)->Q (.ref r) { s with heap:=j,toks:=C}) :
    gu (gv t w) A (call (.builtin "sorted") [.ref l]) Q E s:=by
  refine qL kind_sorted plain_sorted entry_sorted (args_sorted1 _) ?_
  have I:(64:Nat)<=gh:=by rw[iC];decide
  refine am (m:=checkCount "sorted" 1 1 _)<|ap<|am<|collect_list u ?_ q0d
  have e:∀c o,s.heap.get? c=↑o->((s.heap.push<|lH "list" #v[] 0).update ⇑s<|Obj.mapSeq λx=>x++a.toArray).get? c=↑o:=λc o q=>(g9 _ _<|iK<|gp q).trans<|ce _ q
  have sz:⇑s<=((s.heap.push<|lH "list" #v[] 0).update ⇑s<|Obj.mapSeq λx=>x++a.toArray).objs.size:=by rw[nP,sk];exact kQ _
  generalize ((s.heap.push<|lH "list" #v[] 0).update ⇑s<|Obj.mapSeq λx=>x++a.toArray)=k at e sz ⊢
  refine am<|sP ?_
  have p:(k.push<|lH "list" a.toArray 0).get? k.objs.size=↑(lH "list" a.toArray 0):=gx _ rfl
  refine am<|g8<|im slot_list_sort ⟨_,p,rfl⟩ entry_list_sort (Ki p (D9 (λb o z _=>ce _<|e b o z) v) f λd D F=>#[_,rfl,?_])<|args_list_sort _
  obtain⟨G,H⟩:=sortedHeap_at (out:=(d.map λi=>a.getD i .none).toArray) p
  refine ap #[_,rfl,h _ s.toks k.objs.size d sz D F #[G,by simpa using H] λc o g=>?_]
  have lt:=gp<|e c o g
  rw[sortedHeap_old (gB lt)<|by rw[sk];exact nA lt]
  exact ce _<|e c o g
end SX
namespace L2
open PySem PySem.Spec PyProof.Rows SX
def range_getD(l:List a)(d:a):(gL l.length).map (λi=>l.getD i d)=l:=by refine List.ext_getElem q0o λi c b=>?_;simp[List.getD,b]
def Fw(h:Paired R c k):∀{b:List Nat},(∀i∈b,i<c.length)->Paired R (b.map λi=>c.getD i d) (b.map λi=>k.getD i e):=by
 have g:∀i,i<c.length->R (c.getD i d) (k.getD i e):=by
  induction h with
  |nil=>exact λi z=>gA z<|Nat.not_lt_zero _
  |cons a _ f =>
   intro i z
   cases i with
   |zero=>exact a
   |succ i=>simpa using f i (by simpa using z)
 intro b
 induction b with
 |nil=>exact λ_=>.nil
 |cons i r f=>exact λz=>.cons (g i<|z i gk)<|f λj l=>z j<|gl _ l
def pairs_at(I:Inv X g B H s):∀{i:List V} {d:List cr} {f:List (Int×Int)},Vals i d->Paired (λ(v:V)(p:Int×Int)=>∃t,v=.ref t/\H t=↑(.tup [.int p.1,.int p.2])) i f->Paired (wJ s.heap) d f:=by
 intro _ _ f z
 induction z generalizing f with
 |nil=>intro w;cases w;exact .nil
 |cons r C j=>intro w;cases w with|cons q k =>
  refine e1a2 q λt e h=>?_;subst e;obtain rfl:=r;obtain⟨d,l,⟨o,m,u,n,x⟩,_⟩:=I.tuple<|yD.of h
  cases l with|cons a b =>
  cases b with|cons b c =>
  cases c;obtain⟨y,rfl⟩:=a;obtain⟨A,rfl⟩:=b;exact .cons #[t,o,y,A,n,rfl,m,u,x]<|j k
def GD:xZ X (.builtin "sorted") (λm H Q=>∃(a:ci)(c:List V) (j:List (Int×Int)),m=[.ref a]/\vJ X.K H a c/\Paired (λ(v:V)(p:Int×Int)=>∃t,v=.ref t/\H t=↑(.tup [.int p.1,.int p.2])) c j/\c.length<64 /\
  ∀(l:ci)(b:List Nat),H l=none->b.Perm (gL c.length)->(b.map λi=>j.getD i (0,0)).Pairwise (λx y=>IF y x=false)->Q (.ref l) (upd H l (.lst (b.map λi=>c.getD i .vU)))):=by
 intro w s R H m c Q I r h;obtain⟨a,f,j,rfl,A,B,C,q⟩:=h;obtain⟨u,rfl,D⟩:=vals1 r;cases D;refine e1a3 (I.list A) λd k E S=>?_;have F:f.length=d.length:=k.length;refine GC E.isList (pairs_at I k B) q0d λT G r b z g J L M=>?_;obtain⟨n,e⟩:=L;rw[<- F]at g;have N:∀i∈b,i<f.length:=λi O=>by simpa using g.subset O
 have P:b.length=f.length:=by simpa using g.length_eq
 exact#[.ref r,_,I.laid (t':=G) (o:=.lst<|b.map λi=>f.getD i .vU) M z #[by rw[gm,P];omega,b.map λi=>d.getD i .none,n,Fw k N,e],rfl,q r b (I.vc.fresh z) g J]
end L2
namespace WL
variable[L2.GX]
open PySem L2 SX
open Rep (rp)
open Ow (sl)
open Sls (rel)
section
variable{D:Type}[Sls D]
def NF:∀{a:List d} {b:List V},Paired R a b->Paired (λv x=>R x v) b a:=by
 intro _ _ z
 induction z with
 |nil=>exact .nil
 |cons h t c=>exact .cons h c
def IG{a b:Type}{R S:a->b->Prop}(h:∀x y,R x y->S x y):∀{c:List a} {d:List b},Paired R c d->Paired S c d:=λz=>L2.Paired.VI z h
def Kj(C:Gl X "sorted")(G:X.mg "sorted"=none)(I:ER X E T a J)(m:gf [a] X.env=(false,eval a X.env)::gf [] X.env:=by rfl) :
  EO X E T (.Call (.Name "sorted" p) [a] [] pos) (λ(d:D) (n:OL (Int×Int)->D->Prop) c=>J d (λg b=>(g b).length<64/\∀f,f.Perm (g b)->f.Pairwise (λx y=>IF y x=false)->n #[f] b) c):=by
 refine e1a2 I λta L M=>?_;refine#[_,wj GD C G jH (ut L uI m) (he:=m),λd F R N H n c Q s O P S=>M d F R N H _ c _ s O (λg b u o U W r Y h Z=>?_) S];obtain⟨q,A,rfl,h1,j⟩:=Z b o U W (Ch.refl _ _ _ _) h;have B:(g b).length=A.length:=j.length;refine#[_,A,g b,rfl,vJ.of h1,IG (λv x z=>?_)<|NF j,by rw[<- B];exact r.1,λl ix hl k sn=>?_]
 ·obtain⟨t,u,w,rfl,_,e,e1,e2⟩:=z;exact#[t,rfl,by rw[e,e1,e2]]
 ·rw[<- B]at k;have lt:∀i∈ix,i<(g b).length:=λi hi=>by simpa using k.subset hi
  refine e1a3 (wR h hl<|Fw (d:=(0,0)) (e:=V.vU) j lt) λR' c3 s3 n3=>?_;exact P _ b _ _ o R' _ (r.2 _ (by have:=k.map<|λi=>(g b).getD i (0,0);rwa [range_getD]at this) sn) (Ch.trans s h.tab Y c3) s3 n3
def tw_trueR{h:Type}[Rep h]{i:Wf D (D->List h) D}(r:ER X E T a i)(t:∀b,qd a X.env b=(do let v <- b;mf a.pos;jY [v] (tJ v)):=by intro _;rfl):TW X E T a (λ(d:D) j e=>i d (λg c=>j (!(g c).isEmpty) c) e):=by
 refine e1a2 r λL w x=>?_;refine#[_,HN w t,λd F R y H j e Q s z A B=>x d F R y H _ e _ s z (λg c u k m n C G o I=>?_) B];obtain⟨q,f,rfl,J,p⟩:=I c k m n (Ch.refl _ _ _ _) o;refine#[!f.isEmpty,.inl #[f,vJ.of J,rfl],?_]
 have:f.isEmpty=(g c).isEmpty:=by generalize g c=l at p;cases p<;>rfl
 rw[this];exact A _ c k m n C G o
end
section
variable{D PO τ:Type}[Sls D][Sls PO][Ow τ]{α:Type}[Rep α]
def Qv(q:ID)(i:Nat)[Sls j][A:At i D (Bd C l) j](n:q.ok l)(o:Aj X.K C)(t:vh X.K C q.nm)(u:X.A.units+1<jS)(w:PE X (.Name x b) (uT i))(B:EV X T a f)(m:M1 X (.Attribute (.Name x b) q.nm G) "get" apos a pos:=by exact#[rfl,rfl,rfl,rfl])(I:hJ (.Name x b) q.nm X.env (eval (.Name x b) X.env)=eval (.Name x b) X.env:=by rfl) :
  EW X E T (.Call (.Attribute (.Attribute (.Name x b) q.nm G) "get" apos) [a] [] pos) (λ(d:D)(c:Option Int->D->Prop) _=>c (lk (q.get<|A.get d)<|f d) d):=by
 refine e1a2 B λW J L=>?_;refine#[_,OP u (wh w I) J m,λd F R M H c Y Q s N O Z=>?_];obtain⟨p,P,e1,e2,e3,e4,us,S,e,_,_⟩:=vO (i:=i) s;refine e1a4 (zB e q n) λy U h _ _=>?_;refine#[_,S,p,C,P,_,_,rfl,e.ob,o,t,U,y,rfl,.inl #[_,.inl h],L d F R M H _ s λv r=>?_];subst r;have g:=xo.k (k:=gQ<|f d) h;rw[xF]at g;refine#[_,g,O _ d _ F R H N (Ch.refl _ _ _ _) s ?_]
 cases lk (q.get<|A.get d) (f d) with
 |none=>exact rfl
 |some z=>exact#[(λz=>by cases z),rfl]
def Qw(q:ID)(i:Nat)[Sls n][A:At i D (Bd C o) n](t:q.ok o)(u:Aj X.K C)(w:vh X.K C q.nm)(B:X.A.units+1<jS)(G:PE X (.Name x c) (uT i))(I:EV X T a f)(J:EV X T b g)(m:M2 X (.Attribute (.Name x c) q.nm L) "get" apos a b pos:=by exact#[rfl,rfl,rfl,rfl])(M:hJ (.Name x c) q.nm X.env (eval (.Name x c) X.env)=eval (.Name x c) X.env:=by rfl) :
  EW X E T (.Call (.Attribute (.Attribute (.Name x c) q.nm L) "get" apos) [a,b] [] pos) (λ(d:D)(e:Int->D->Prop) _=>e ((lk (q.get<|A.get d)<|f d).getD<|g d) d):=by
 refine e1a2 I λta N O=>?_;refine e1a2 J λtb P S=>?_;refine#[_,OQ B (wh G M) N P m,λd F R h H e Ke Q s U W ke=>?_];obtain⟨p,Y,e1,e2,e3,e4,us,Z,j,_,_⟩:=vO (i:=i) s;refine e1a4 (zB j q t) λy l1 l _ _=>?_;refine#[_,Z,p,C,Y,_,_,rfl,j.ob,u,w,l1,y,rfl,.inl #[_,.inl l],O d F R h H _ s λv r=>S d F R h H _ s λv' r'=>?_];subst r r';have g:=xo.k (k:=gQ<|f d) l;rw[xF]at g;refine#[_,g,W _ d _ F R H U (Ch.refl _ _ _ _) s ?_]
 cases lk (q.get<|A.get d) (f d) with
 |none=>exact rfl
 |some z=>exact rfl
def T9(q:ID)(i:Nat)[Sls e][A:At i D (Bd C g) e][U:Pt i e (Bd C g) D](n:q.ok g)(o:Aj X.K C)(t:vh X.K C q.nm)(u:PE X (.Name x b) (uT i))(w:EV X T a f)(m:M1 X (.Attribute (.Name x b) q.nm B) "pop" apos a pos:=by exact#[rfl,rfl,rfl,rfl])(G:hJ (.Name x b) q.nm X.env (eval (.Name x b) X.env)=eval (.Name x b) X.env:=by rfl) :
  EW X E T (.Call (.Attribute (.Attribute (.Name x b) q.nm B) "pop" apos) [a] [] pos) (λ(d:D)(h:Int->D->Prop) _=>∃v,lk (q.get<|A.get d) (f d)=↑v/\h v (U.put (A.hole d)<|q.set (A.get d)<|dk (q.get<|A.get d)<|f d)):=by
 refine e1a2 w λta I J=>?_;refine#[_,OR (wh u G) I m,λd F R L H h Ke Q s M N ke=>?_];obtain⟨p,O,e1,e2,e3,e4,us,P,j,S,W⟩:=vO (i:=i) s;refine e1a4 (zB j q n) λy Y k l Z=>?_;refine#[_,P,p,C,O,_,_,rfl,j.ob,o,t,Y,y,rfl,.inl #[_,.inl k],J d F R L H _ s λv r=>?_];subst r;refine e1a2 M λz h1 h2=>?_;refine#[_,gQ<|f d,V.int z,k,rfl,(by rw[xF,h1];rfl),?_];rw[Ir];obtain⟨c,s'⟩:=W (U:=U) l<|Z (dk (q.get<|A.get d)<|f d)<|S _ l;exact N z _ _ F R _ h2 c s' rfl
def IH{R:Rg}{H:Hp}{y:α}:∀{xs:List α} {vs:List V},Paired (rp R H) (xs++[y]) vs->∃us u,vs=us++[u]/\Paired (rp R H) xs us/\rp R H y u:=by
 intro xs
 induction xs with
 |nil=>intro _ z;cases z with|cons h t=>cases t;exact#[[],_,rfl,.nil,h]
 |cons a xs ih =>
  intro _ z
  cases z with|cons h t =>
  obtain⟨us,u,rfl,h1,h2⟩:=ih t;exact#[_::us,u,rfl,.cons h h1,h2]
def Mh(i:Nat){D0:Type}[Sls D0][A:At i D (OL α) D0][U:Pt i D0 (OL α) D](hn:PE X (.Name x p1) (uT i))(hb:PE X (.Call (.Attribute (.Name x p1) "pop" apos) [] [] pos) (Yt X.K "list" Yu<|uT i)) :
  EW X E T (.Call (.Attribute (.Name x p1) "pop" apos) [] [] pos) (λ(d:D)(Kn:α->D->Prop) _=>∃ys y,(A.get d).l=ys++[y]/\Kn y (U.put (A.hole d) #[ys])):=by
 refine#[_,hb,λd F R σ H Kn Ke Q s hw kn ke=>?_];refine e2a4 (Bb (i:=i) s) λa vs g1 g2 g3 g4=>?_;refine e2a2 hw λys y e hk=>?_;rw[e]at g3;obtain⟨us,u,rfl,h1,h2⟩:=IH g3;obtain⟨c2,s2⟩:=g4 _ _ h1;refine#[_,g1,.inl #[rfl,_,vJ.of g2],a,_,u,rfl,rfl,g2,q0o,?_];rw[List.dropLast_concat];exact kn y _ u F R _ hk c2 s2<|s.val c2 h2
def yM{R:Rg}{H:Hp}:∀{xs:List α} {vs:List V} (k:Nat),Paired (rp R H) xs vs->Paired (rp R H) (xs.eraseIdx k) (vs.eraseIdx k):=by
 intro _ _ k z
 induction z generalizing k with
 |nil=>exact .nil
 |cons h t ih=>cases k with
  |zero=>exact t
  |succ k=>exact .cons h<|ih k
def NG{a:hZ}(i:Nat){D0:Type}[Sls D0][A:At i D (OL α) D0][U:Pt i D0 (OL α) D]{we:Wf D Int D}(hn:PE X (.Name x p1) (uT i))(h:EW X E T a we)
  (hb:∀{t:TA},PA X [a] t->PE X (.Call (.Attribute (.Name x p1) "pop" apos) [a] [] pos) (tBM X.K "list" OH (uT i) t)) (hs:gf [a] X.env=(false,eval a X.env)::gf [] X.env:=by rfl) :
  EW X E T (.Call (.Attribute (.Name x p1) "pop" apos) [a] [] pos) (λ(d:D)(Kn:α->D->Prop) Ke=>we d (λk d'=>0<=k/\∃y,(A.get d').l[k.toNat]?=↑y/\(A.get d').l.length<1000/\Kn y (U.put (A.hole d') #[(A.get d').l.eraseIdx k.toNat])) Ke):=by
 refine e1a2 h λt h1 h2=>?_;refine#[_,hb<|ut h1 uI hs,λd F R σ H Kn Ke Q s hw kn ke=>?_];refine e2a4 (Bb (i:=i) s) λa0 vs0 g1 g2 g3 _=>?_;refine#[_,g1,.inl #[rfl,vs0,vJ.of g2],h2 d F R σ H _ _ _ s hw (λk d' v F' R' H' q c s' r=>?_) ke];subst r;refine e2a4 (Bb (i:=i) s') λa' Tg k1 k2 k3 k4=>?_;rw[g1]at k1;cases k1;obtain⟨q0,y,e,ql,hk⟩:=q;refine e1a2 (wl k3 e) λu hu ru=>?_;have lt:=(List.getElem?_eq_some_iff.mp hu).1;have ll:=Paired.length k3;obtain⟨c2,s2⟩:=k4 _ _<|yM k.toNat k3;refine#[a0,Tg,k,k.toNat,u,rfl,rfl,k2,q0a,q0a,?_,hu,kn y _ u F' R' _ hk (Ch.trans s s'.tab c c2) s2<|s'.val c2 ru];have e0:(if k<0 then k+(Tg.length:Int) else k)=k:=gc q0a;show (if (decide (0<=(if k<0 then k+(Tg.length:Int) else k))&&decide ((if k<0 then k+(Tg.length:Int) else k)<(Tg.length:Int)))=true then some (if k<0 then k+(Tg.length:Int) else k).toNat else none)=_;rw[e0];have:(decide (0<=k)&&decide (k<(Tg.length:Int)))=true:=by simp;lia
 exact f9 this
end
end WL
namespace L2
open PySem PySem.Spec PyProof.Rows SX
def W4(f:TE)(c:Int):TE:=λg H Q=>f g H λv d=>∃(a:ci) (b:List (Key×V)) (e:List Int),v=.ref a/\d a=↑(.dK b)/\b.map (·.1)=e.map gQ/\∀p,d p=none->Q (.ref p) (upd d p<|.dK<|e.map λk=>(gQ k,V.int c))
def stored_new:∀{l:List (Key×cr)},k∉l.map (·.1)->stored l k y=l++[(k,y)]
 |l,h=>by unfold stored;rw[gc];simp only[t9,hX,not_exists,not_and];exact λe a z=>h<|List.mem_map.mpr #[e,a,z]
def II:∀{l:List k} {c:List m},Paired R c (l++[v])->∃b d,c=b++[d]/\Paired R b l/\R d v:=by
 intro e
 induction e with
 |nil=>intro _ z;cases z with|cons h t=>cases t;exact#[[],_,rfl,.nil,h]
 |cons a e f =>
  intro _ z
  cases z with|cons h t =>
  obtain⟨g,u,rfl,i,j⟩:=f t;exact#[_::g,u,rfl,.cons h i,j]
def zY:∀{l:List c} {m:List d},l.length=m.length->(∀(j:Nat)(k:c)(v:d),l[j]?=↑k->m[j]?=↑v->R k v)->Paired R l m
 | [],[],_,_=>.nil
 | [],_::_,h,_=>by cases h
 |_::_,[],h,_=>by cases h
 |a::l,b::m,h,f=>.cons (f 0 a b rfl rfl)<|zY (lE h) λj k v e g=>f (j+1) k v e g
def IJ{c:Int}:∀{a:List Int} {r:List (Key×cr)},r.map (·.1)=a.map gQ->(∀e∈r,∃t,e.2=.int c t)->KV (a.map λk=>(gQ k,V.int c)) r
 | [],[],_,_=>.nil
 | [],_::_,h,_=>by cases h
 |_::_,[],h,_=>by cases h
 |k::a,e::r,h,f=>by rw[gN,gN]at h;injection h with b d;obtain⟨t,g⟩:=f e gk;exact .cons #[b.symm,t,g]<|IJ d λi j=>f i<|gl _ j
def Kk{P:gY}{w:il}(g:∀v k,i v k->zi k v=true)(h:StoredAll i j l r):∀{a:List Key},Paired (λk v=>zi k v=true) a l->a.Nodup->r.map (·.1)=a/\∀e∈r,∃v,j v e.2:=by
 induction h with
 |nil=>intro a c _;cases c;exact#[rfl,λ_ z=>by cases z]
 | @snoc l r v k y _ m n o =>
  intro a c p;obtain⟨q,d,rfl,s,t⟩:=II c;have u:k=d:=(uO P w).inj v k d (g v k m) t;subst u;have b:=List.nodup_append.mp p;obtain⟨f,x⟩:=o s b.1;have A:k∉r.map (·.1):=λz=>by rw[f]at z;exact b.2.2 k z k q0o rfl
  rw[stored_new A,jy,f];refine#[rfl,λe B=>?_];rcases List.mem_append.mp B with z|z
  ·exact x e z
  ·rw[List.mem_singleton.mp z];exact#[v,n]
def Qx(af:X.calm=true)(hi:PE X iter ti)(E:nK d X.env=pure [])(F:∀y∈d.names,y.2≠.cell)(f:d.kind=.function)(p:∀y∈d.names,y.2=.local->d.names.lookup y.1=some .local)(hx:d.names.lookup x=some .local)(hd:(x==("__debug__":Str))=false:=by decide)
 (hs:∀x,jD iter X.env x=pure x:=by intro _;rfl):PE X (.DictComp (.Name x q1) (.Constant (.int c) j q2) [#[.Name x px,iter,[],0]] d pos) (W4 ti c):=by
  intro u s σ H Q I h
  have hh:X.A.handled=none:=I.ok.hd af
  rw[arm_eval_DictComp]
  refine ou (use:=none) rfl hs E f p<|uY (hi u s σ H _ I h) λv l z9=>e2a3 z9 λx1 H1 I1 r1 N=>e3a4 N λa r O e1 ha G q=>?_
  subst e1
  obtain rfl:v=gF a:=r1
  obtain⟨hz,S,m,kv,vD⟩:=I1.vc a _ ha
  obtain⟨B,D⟩:=vD.dictAt
  have alt:a<⇑l:=D.lt_size
  refine wpAny_pyIter_dict S D ?_
  -- the M ah at n,the dict at n+1,the frame at n+2
  have u0:∀b o,l.heap.get? b=↑o->(l.heap.push { cls:=.type "dict_keyiterator",data:=.fields #v[.ref a,.int 0 0,.int m.length 0,.int B 0]}).get? b=↑o:=λb o e=>ce _ e
  have i0:Heap.IsKeyIter (l.heap.push { cls:=.type "dict_keyiterator",data:=.fields #v[.ref a,.int 0 0,.int m.length 0,.int B 0]}) ⇑l a 0 m.length B:=#[_,gx _ rfl,rfl,rfl]
  have z0:(l.heap.push { cls:=.type "dict_keyiterator",data:=.fields #v[.ref a,.int 0 0,.int m.length 0,.int B 0]}).objs.size=⇑l+1:=i4 _ _
  generalize l.heap.push { cls:=.type "dict_keyiterator",data:=.fields #v[.ref a,.int 0 0,.int m.length 0,.int B 0]}=g at u0 i0 z0 ⊢
  refine hW<|wpAny_newFunctionEnv F (λy hy=>by cases hy) (λJ T U=>?_) f
  have d1:(g.push { cls:=.type "dict",dict:=none,data:=.dict #v[]}).DictOf (uO X.prog X.w) g.objs.size []:=rN g
  have u1:∀b o,g.get? b=↑o->(g.push { cls:=.type "dict",dict:=none,data:=.dict #v[]}).get? b=↑o:=λb o e=>ce _ e
  have z1:(g.push { cls:=.type "dict",dict:=none,data:=.dict #v[]}).objs.size=g.objs.size+1:=i4 _ _
  generalize g.push { cls:=.type "dict",dict:=none,data:=.dict #v[]}=g1 at d1 u1 z1 T U ⊢
  have u2:∀b o,g1.get? b=↑o->J.get? b=↑o:=λb o e=>U.extBut b o (gB<|gp e)<|ce _ e
  have c1:g.objs.size≠g1.objs.size:=by lia
  have n1:∀b∈[⇑l,a],b<g.objs.size:=λb hb=>by
    rcases List.mem_cons.mp hb with z|z
    · rw[z, z0]; exact iV _
    · rw[List.mem_singleton.mp z, z0]; exact nA alt
  have W:=Walks.dictKeys (prog:=X.prog) (w:=X.w) (knd:=uO X.prog X.w) hh ⇑l a (gB alt) m B
  have st:J.IsKeyIter ⇑l a 0 m.length B/\J.DictAt (uO X.prog X.w) a m B:=#[i0.at λo e=>u2 _ o<|u1 _ o e,D.at' λo e=>u2 _ o<|u1 _ o<|u0 _ o e]
  have C:=codeAny_compLoop_walkD (R:=compPost (gv X.prog X.w) X.A X.xe none (EP X u σ Q) (gF g.objs.size) g1.objs.size) (s:={ l with heap:=J,toks:=l.toks+0}) (kx:=.Name x q1) (vx:=.Constant (.int c) j q2) (iter:=iter) (x:=x) (px:=px) (ifs:=[]) (scope:=d) (pos:=pos) (D:=g.objs.size) (cenv:=sr d [] g1.objs.size X.env) W (λ_=>true) (λv k=>zi k v=true) (λ_ y=>∃t,y=.int c t)
    (lookup_relabel_local hx) (by simp[sr,og,f]) c1 (λY=>jm _<|n1 _ Y) (λY=>jm _<|mJ (n1 _ Y)<|by rw[z1];exact iV _) st (d1.at λo e=>u2 _ o e) T (λi v L m3 _ _ _ _=>rD #[rfl,L.heap,L.toks,rfl,λ_ _ e=>e])
    (λi v L m3 Z _ hn Y _=>by
      refine e2a2 Z λk x' aj hk=>?_
      exact oU (jX (by show d.kind=_;exact f) (lookup_relabel_local hx) hn Y #[#[k,hk,hk],L.heap,L.toks,rfl,λ_ _ e=>e]) hd)
    (λi v L m3 _ _ _ _ _=>wpAny_Constant_int #[#[_,rfl],L.heap,_,rfl,λ_ _ e=>e])
    (λh2 tk m' aa ag hn dd ab hP hS k=>?fin) (by rw[<- Paired.length kv];exact hz)
  · exact codeAny_compStart_dict C<|W.self 0 _ _ _ st C
  · refine#[m', hn, λh3 ae => ?_]
    have le:⇑l<=g.objs.size:=by rw[z0];exact kQ _
    have k':∀b o,l.heap.get? b=↑o->h3.get? b=↑o:=λb o e=>by
      have lb:=gp e
      have lg:b<g.objs.size:=gG lb le
      have n2:b≠g1.objs.size:=gB (by rw[z1];exact nA lg)
      exact ae.extBut b o n2<|k b o n2 (λz=>by rw[List.mem_singleton.mp z]at lb;exact jm _ lb) (gB lg)<|u2 _ _<|u1 _ _<|u0 _ _ e
    have nH:H1 g.objs.size=none:=I1.vc.fresh le
    have kk:∀{r:List (Key×V)} {m:List (Key×cr)},KV r m->r.map (·.1)=m.map (·.1):=λh=>by
      induction h with
      |nil=>rfl
      |cons h _ ih=>rw[gN,gN,ih,h.1]
    have Z:Paired (λk v=>zi k v=true) (O.map gQ) ag:=by
      rw[<- G,kk kv]
      refine zY (by rw[gm,ab]) λj k v J h2=>?_
      refine e2a2 (hP j v h2) λk' x' g1 g2=>?_
      rw[ja,g1]at J
      cases J
      exact g2
    have nd:(O.map gQ:List Key).Nodup:=by
      rw[<- G,kk kv]
      obtain⟨o,es,ho,hc,ai,hk,hp,hn⟩:=id D
      exact hn
    obtain⟨f1,f2⟩:=Kk (P:=X.prog) (w:=X.w) (λv k h=>h) hS (by rw[List.filter_eq_self.mpr<|λ_ _=>rfl];exact Z) nd
    have rel:KV (O.map λk=>(gQ k,V.int c)) aa:=IJ f1 λe he=>(f2 e he).elim λv Z=>Z
    have ll:O.length=r.length:=by have:=congrArg ng G;simpa using this.symm
    exact#[.ref g.objs.size,_,I1.laid (a:=g.objs.size) (o:=.dK<|O.map λk=>(gQ k,V.int c)) (t':=tk) k' le<|Dr (by rw[gm,ll];exact hz) (beq_eq_false_iff_ne.mpr λz=>gA I1.big<|by rw[<- z];exact Nat.not_lt.mpr le) rel<|dd.extBut ae.extBut c1,rfl,q _ nH]
end L2
namespace WL
variable[L2.GX]
open PySem L2
open Rep (rp)
open Ow (sl)
open Sls (rel)
section
variable{D PO τ:Type}[Sls D][Sls PO][Ow τ]{α:Type}[Rep α]
def Qy{F R:Rg}{H:Hp}{d:D}{g:St}(s:vw T F R H d g){p:ci}(c:H p=none){l:List (Int×α)}{us:List (Key×V)}(h:PK R H l us):∃e,Ch T F R H (λa=>a=p\/F a) e (upd H p<|.dK us)/\vw T F e (upd H p<|.dK us) d g/\Nw T (λa=>a=p) F e (upd H p<|.dK us) (Dc.mk l) (.ref p):=by
 refine e0a3 (s.new (.dK us) c) λi m j=>?_;have n:¬F p:=λz=>j<|s.sub p z;have f:Ext (λ_=>False) R H (λa=>R a\/a=p) (upd H p<|.dK us):=⟨λb o _ h=>by rw[ui<|uu h c];exact h,λa h=>h.elim .inl λq=>.inr<|by rw[q];exact c⟩;refine⟨λa=>R a\/a=p,#[m.keep,f.new,λa h=>h.elim (λq=>.inr<|by rw[q];exact c) .inl,λa h _=>.inl h],#[Sls.st s.rel f (λ_ z=>z.elim)<|λ_ _ z=>z,λa h=>.inl<|s.sub a h,λa h=>?_,i.tab,.inl s.ve,s.uS],#[#[p,us,rfl,λb=>Iff.rfl,ul,Qi (f.wide λ_ z=>z.elim) h],λa h=>.inr h,λa h k=>n (by rw[<- h];exact k),λh=>j<|by rw[<- h];exact s.ve]⟩;rcases h with h|h
 ·exact i.wD a h
 ·rw[h,ul];simp
def Mi{c:Int}:∀l:List Int,PK R H (l.map λk=>(k,c)) (l.map λk=>((gQ k:Key),V.int c))
 | []=>.nil
 |_::l=>.cons #[rfl,rfl]<|Mi l
def NH{y:Str}{r t u:Pos}{c:Int}{j:Nat}{a:lh}(q:ID)(i:Nat){m:Type}[Sls m][A:At i D (Bd C v) m](w:q.ok v)(B:Aj X.K C)(G:vh X.K C q.nm)(l:X.calm=true)(I:PE X (.Name x h) (uT i))(e:nK a X.env=pure [])(f:∀y∈a.names,y.2≠.cell)(g:a.kind=.function)(b:∀y∈a.names,y.2=.local->a.names.lookup y.1=some .local)(J:a.names.lookup y=some .local)(L:(y==("__debug__":Str))=false:=by decide)(M:hJ (.Name x h) q.nm X.env (eval (.Name x h) X.env)=eval (.Name x h) X.env:=by rfl)
  (N:∀z,jD (.Attribute (.Name x h) q.nm O) X.env z=pure z:=by intro _;rfl) :
  EO X E T (.DictComp (.Name y r) (.Constant (.int c) j t) [#[.Name y u,.Attribute (.Name x h) q.nm O,[],0]] a pos) (λ(d:D)(n:Dc Int->D->Prop) _=>n #[((q.get<|A.get d).map (·.1)).map λk=>(k,c)] d):=by
 refine#[_,Qx l (wh I M) e f g b J L N,λd F R σ H n Ke Q s P S ke=>?_];obtain⟨p,U,e1,e2,e3,e4,us,W,o,_,_⟩:=vO (i:=i) s;refine e1a4 (zB o q w) λz Y Z _ _=>?_;refine#[_,W,p,C,U,_,_,rfl,o.ob,B,G,Y,z,_,(q.get<|A.get d).map (·.1),rfl,Z,?_,λp' hp=>?_]
 ·unfold AN;rw[jR,jR];rfl
 ·refine e1a3 (Qy s hp (Mi (R:=R) (H:=H) (c:=c) ((q.get<|A.get d).map (·.1)))) λR' c3 s3 n3=>?_;exact S _ d _ _ F R' _ P c3 s3 n3
def W5{j:Nat}(e:EV X T a f):EO X E T (.Dict [↑a] [.Constant .none j w] pos) (λ(d:D) (b:Dc (Option Int)->D->Prop) _=>b #[[(f d,none)]] d):=by
 refine e1a2 e λx g h=>?_;refine#[_,Sw (OO g Ji Sv) rfl rfl q0o q0o,λd F R i H b y Q s k m z=>?_];intro p c;refine e0a3 (s.new (.dK []) c) λn A B=>?_;refine h d F R i _ _ n λv r=>#[ul,[(gQ<|f d,.vU)],?_,(show 1<=15 by decide),?_]
 ·have r:v=V.int (f d):=r;rw[r];rfl
 ·rw[RZ];refine e1a3 (Qy (α:=Option Int) s c (l:=[(f d,none)]) (us:=[(gQ<|f d,V.vU)])<|.cons ⟨rfl,rfl⟩ .nil) λo q t u=>?_;exact m _ d _ _ F o _ k q t u
def tw_dcNin(i:Nat)[Sls h][A:At i D (Dc α) h](j:X.A.units+1<jS)(m:EW X E T a wk)(n:PE X (.Name x e) (uT i))(o:iB .NotIn (.Name x e)=false:=by with_unfolding_all rfl) :
  TW X E T (.Compare a [.NotIn] [.Name x e] pos) (λ(d:D)(f:Bool->D->Prop) c=>wk d (λk b=>f (!(lk (A.get b).l k).isSome) b) c):=by
 refine e1a2 m λO p q=>?_;refine#[_,Jj (BK j p n) o,λd F R r H f c Q s t v w=>q d F R r H _ c _ s t (λk b u z B C G I g J=>?_) w];subst J;obtain⟨y,P,L,M,N⟩:=C4 (i:=i) g;refine#[_,L,y,_,rfl,xo.k (k:=gQ k) M,_,rfl,?_];rw[Mc N];exact v _ b z B C G I g
def IK(i:Nat)[Sls q][A:At i D (Dc Int) q][U:Pt i q (Dc Int) D][J:Pj D PO n](B:X.A.units+1<jS)(C:PE X (.Name x G) (uT i))(I:EV X T a f)(L:EV X T e h)(m:Yo X op (ipI g))
 (M:∀c j b,augStore a c j b=(do jY [b,c,j] (rH c j b);release [b,c,j] [];pure .next):=by intros;rfl) :
    S1 X E T ms n (.AugAssign (.Subscript (.Name x G) a p3) op e pos) (λ(d:D)(r:D->Prop)(_:τ->PO->Prop) _=>∃v,lk (A.get d).l (f d)=↑v/\(A.get d).l.length<gh/\r (U.put (A.hole d) #[pk (A.get d).l (f d)<|g v<|h d])):=by
  refine e1a2 I λta N O=>?_
  refine e1a2 L λte P Q=>?_
  refine#[_,Su B C N P m M,λd F R o H r Kr Ke En s S W kr ke=>?_]
  refine e2a4 (Ql (i:=i) s) λy us Y t p Z=>?_
  refine e1a3 S λv h1 h2 h3=>?_
  refine#[_,Y,O d F R o H _ s λk rk=>?_]
  subst rk
  refine e1a2 ((J9 p).1 v h1) λw w1 w2=>?_
  subst w2
  have u:=xo.k (k:=gQ<|f d) t
  rw[w1]at u
  refine#[y,_,rfl,u,Q d F R o H _ s λz rz=>?_]
  subst rz
  obtain⟨c3,s3⟩:=Z _ _<|Qk (R:=R) (H:=H) (k:=f d) (x:=g v<|h d) (v:=V.int<|g v<|h d) rfl p
  exact#[v,h d,rfl,rfl,_,FQ.k (k:=gQ<|f d) t (by rw[Ka p];exact h2),W _ F R _ o h3 c3 s3<|Ag.refl _ _]
end
section
variable{D:Type}[Sls D]
def tw_ninT{j:Wf D Int D}{m:Wf D (Tp Int) D}(w:EW X E T a j)(x:EW X E T b m)(z:iB .NotIn b=false) :
  TW X E T (.Compare a [.NotIn] [b] pos) (λ(d:D) n f=>j d (λk g=>m g (λt h=>n (!decide (k∈t.l)) h) f) f):=by
 refine e1a2 w λta A B=>?_;refine e1a2 x λtb G I=>?_;refine#[_,w6 AU A G z,λd F R o H n f Q s J L p=>B d F R o H _ f _ s J (λk g u M N O P r i S=>?_) p];refine I g M N o O _ f _ i P (λt h v U W Y Z c2 s2 r2=>?_) λC y d' F' R' H' k c s'=>p C y d' F' R' H' k (Ch.trans s i.tab r c) s';subst S;obtain⟨l⟩:=t;obtain⟨q,us,rfl,_,h1,h2⟩:=r2;have e:=ints_of (xs:=l) h2;subst e;refine#[q,_,rfl,.inr<|yD.of h1,rfl,z8 _,_,rfl,?_];rw[f9 rfl,A9];exact L _ h U W Y Z (Ch.trans s i.tab r c2) s2
end
end WL
namespace L2
variable[L2.GX]
open PySem PySem.Spec PyProof.Rows
def a1A(K:ga)(d:TE):TE:=λe H Q=>d e H λx b=>∃a c,x=.ref a/\vJ K b a c/\∀p,b p=none->Q (.ref p) (upd b p<|.lst c.reverse)
def W6{X:Cx}{e:hZ}{te:TE}{p2 p3 p4 pos:Pos}{j:Nat}(he:PE X e te):PE X (.Subscript e (.Slice none none (some<|.UnaryOp .USub (.Constant (.int 1) j p3) p4) p2) pos) (a1A X.K te):=by
 intro pins s σ H Q I h;refine rZ<|uY (he pins s σ H _ I h) λv s1 z9=>e2a3 z9 λx H1 I1 r1 z89=>e2a3 z89 λa xs e1 hx q=>?_;subst e1;obtain rfl:v=gF a:=r1;refine wpAny_Slice ?_;rw[sL,evalPart_some];refine ap<|ap<|uY (U7 On uK pins s1 σ H1 (λv H=>v=.int (-1)/\H=H1) I1 #[1,rfl,rfl,rfl]) λu s2 z9=>e2a4 z9 λy H2 I2 r2 e2 e3=>?_;subst e2 e3;obtain⟨t,rfl⟩:=r2;have I4:Inv X pins σ H2 { s2 with heap:=s2.heap.push { cls:=.type "slice",data:=.fields #v[.none,.none,.int (-1) t]}}:=I2.kept (t':=s2.toks) λb ob q=>ce _ q;refine e1a3 (I4.list hx) λzg r pl hz=>?_;refine' tail_any pl.isList.typeIs slot_list_getitem.lookup ?_ ?hs
 case hs=>with_unfolding_all rfl
 refine sM pl.isList (qp ..) .none .none (.int (-1) t) q0q ?_ (by rw[gy,<- r.length];exact hz);rw[PySem.W.krv_pick];refine#[.ref (s2.heap.push { cls:=.type "slice",data:=.fields #v[.none,.none,.int (-1) t]}).objs.size,_,I4.laid (t':=s2.toks) (o:=.lst xs.reverse) (λb ob q=>ce _ q) (gg _) ?_,rfl,q _<|I4.vc.fresh<|gg _];exact#[by rw[List.length_reverse];exact hz,zg.reverse,0,r.reverse,gx _ rfl]
end L2
namespace WL
variable[L2.GX]
open PySem L2
open Rep (rp)
open Ow (sl)
open Sls (rel)
section
variable{D:Type}[Sls D]{α:Type}[Rep α]
def Kl{R:Rg}{H:Hp}:∀{xs:List α} {vs:List V},Paired (rp R H) xs vs->Paired (rp R H) xs.reverse vs.reverse:=by
 intro _ _ z
 induction z with
 |nil=>exact .nil
 |cons h t ih=>rw[ni,ni];exact w8 ih<|.cons h .nil
def W7{j:Nat}(i:ER X E T a k) :
  EO X E T (.Subscript a (.Slice none none (some<|.UnaryOp .USub (.Constant (.int 1) j N) O) P) pos) (λ(d:D)(f:OL α->D->Prop) c=>k d (λg b=>f #[(g b).reverse] b) c):=by
 refine e1a2 i λS l m=>?_;refine#[_,W6 l,λd F R n H f c Q s o r t=>?_];refine m d F R n H _ c _ s o (λg b u h v w x y e z=>?_) t;obtain⟨q,A,rfl,B,C⟩:=z b h v w (Ch.refl _ _ _ _) e;refine#[q,A,rfl,vJ.of B,λp G=>?_];refine e1a3 (wR e G<|Kl C) λI J L M=>?_;exact r _ b _ _ h I _ x (Ch.trans s e.tab y J) L M
end
end WL
namespace K7
variable[L2.GX]
open PySem L2 WL
open WL.Rep (rp)
open WL.Ow (sl)
open WL.Sls (rel)
noncomputable def top(i:Nat):gV:=PySem.Challenge.pw_slimbody_k21_carriers_of_sums_added.main.body.getD i<|.Pass #[0,0,0,0]
noncomputable abbrev wv:gV:=top 16
noncomputable abbrev Eb:gV:=top 17
noncomputable abbrev GF:gV:=top 19
def Fx:Wf (List Int×Unit) Bool (Un×Unit):=λp a _=>a (asc p.1) (#[],())
def Fy:Wf (Tp Int×Unit) Bool (Un×Unit):=λp a _=>a (asc p.1.l) (#[],())
def C7(C:ci):Wf (List Int×Unit) Unit (Un×Unit):=λp a b=>(asc p.1=true->a () (#[],()))/\(asc p.1=false->b C (#[],()))
def Mj(C:ci):Wf (Tp Int×Unit) Unit (Un×Unit):=λp a b=>(asc p.1.l=true->a () (#[],()))/\(asc p.1.l=false->b C (#[],()))
def Ml:Wf (List (Tp Int)×Unit) (OL Int) (Un×Unit):=λp a _=>∃U:List Int,U.length<64/\(∀r∈p.1,vE r.l/\∀x∈r.l,x∈U)/\a #[Oa (p.1.map (·.l))] (#[],())
section
variable{P:gY}{w:il}{K:ga}{mg:Str->Option cr}{base:h8}{T:ci}
def Fz:uq ["row"] ["row"] (uh wv):=#[rfl,rfl,rfl,q0s,rfl,q0s,q0s]
def Km{f c:ci}{fd:hV}(F:yo K "is_sum" "is_sum" wv f fd)(hc:fd.code=.ref c)(B:Ii mg base c T)(W8:mg "all"=none)(W9:mg "zip"=none):uR P w K mg base (vd P w) 1 f fd ["row"] (xW T Fx):=by
 refine' uw (Vo (A:=List Int×Unit) (PO:=Un×Unit) (τ:=Bool) (D':=Unit) (ms:=[]) (j:=0) F Fz rfl rfl λA outer s H E hr=>?body) ?nice
 case body =>
  exact uk<|uF<|uW<|PP (ss 0) (uE<|Io (vz<|ss 0) (Ge um) Gd)<|λh=>Ih a02 (c:=c) (P:=T) rfl #[hc,B.hd,B.blt] hr.depth rfl W8 rfl W9 h rfl rfl rfl q0s rfl rfl rfl q0s q0s q0s
 case nice =>
  intro p Kn Ke h
  walk_at "wl"
  rw[Zb];exact h
def Ko{f c:ci}{fd:hV}(F:yo K "is_sum" "is_sum" wv f fd)(hc:fd.code=.ref c)(B:Ii mg base c T)(W8:mg "all"=none)(W9:mg "zip"=none):uR P w K mg base (vd P w) 1 f fd ["row"] (xW T Fy):=by
 refine' uw (Vo (A:=Tp Int×Unit) (PO:=Un×Unit) (τ:=Bool) (D':=Unit) (ms:=[]) (j:=0) F Fz rfl rfl λA outer s H E hr=>?body) ?nice
 case body =>
  exact uk<|uF<|uW<|PQ (ss 0) (Nu (ss 0) (Ge um) Gd)<|λh=>Ih a1q (c:=c) (P:=T) rfl #[hc,B.hd,B.blt] hr.depth rfl W8 rfl W9 h rfl rfl rfl q0s rfl rfl rfl q0s q0s q0s
 case nice =>
  intro p Kn Ke h
  walk_at "wl"
  rw[Zb];exact h
def Mm:uq ["row"] ["row"] (uh Eb):=#[rfl,rfl,rfl,q0s,rfl,q0s,q0s]
def FA{b:Bool}(h:(b=true->p)/\(b=false->q)):if (!b)=true then q else p:=by
 cases b
 ·exact h.2 rfl
 ·exact h.1 rfl
def Qz{f C f1:ci}{fd Vz:hV}{CJ:List cr}{B newId xq:String}(F:yo K "must_be_sum" "must_be_sum" Eb f fd)(F1:Fn K mg "is_sum" wv ["row"] f1 Vz)(G1:uR P w K mg base (vd P w) 1 f1 Vz ["row"] (xW T Fx))
  (hC:mg "NotASum"=↑(.ref C))(O:iL K C CJ newId=true)(FB:jK B newId xq CJ)(g0:∀H',GX.g C none H'):uR P w K mg base (vd P w) 2 f fd ["row"] (xW T<|C7 C):=by
 refine' uw (Cp (uQ q0q) (A:=List Int×Unit) (PO:=Un×Unit) (D':=List Int×Unit) (ms:=[]) (j:=0) F Mm rfl rfl λSy A outer s H E hr=>?body) ?nice
 case body =>
  exact uk<|uZ (tw_not<|tw_val<|uB<|Ba G1 hr rfl F1.at_ F1.fn.kp F1.bd DB<|uj (ss 0) ug) (uk<|DQ<|DC rfl hC O FB g0<|ut FL uI) uN
 case nice =>
  intro p Kn Ke h
  walk_at "wl"
  exact FA h
def QA{f C f1:ci}{fd Vz:hV}{CJ:List cr}{B newId xq:String}(F:yo K "must_be_sum" "must_be_sum" Eb f fd)(F1:Fn K mg "is_sum" wv ["row"] f1 Vz)(G1:uR P w K mg base (vd P w) 1 f1 Vz ["row"] (xW T Fy))
  (hC:mg "NotASum"=↑(.ref C))(O:iL K C CJ newId=true)(FB:jK B newId xq CJ)(g0:∀H',GX.g C none H'):uR P w K mg base (vd P w) 2 f fd ["row"] (xW T<|Mj C):=by
 refine' uw (Cp (uQ q0q) (A:=Tp Int×Unit) (PO:=Un×Unit) (D':=Tp Int×Unit) (ms:=[]) (j:=0) F Mm rfl rfl λSy A outer s H E hr=>?body) ?nice
 case body =>
  exact uk<|uZ (tw_not<|tw_val<|uB<|Ba G1 hr rfl F1.at_ F1.fn.kp F1.bd DB<|uj (ss 0) ug) (uk<|DQ<|DC rfl hC O FB g0<|ut FL uI) uN
 case nice =>
  intro p Kn Ke h
  walk_at "wl"
  exact FA h
def IL:uq ["rows","odd","row","number"] ["rows"] (uh GF):=#[rfl,rfl,rfl,q0s,rfl,q0s,q0s]
def QB{f C f1:ci}{fd Vz:hV}(F:yo K "total" "total" GF f fd)(F1:Fn K mg "must_be_sum" Eb ["row"] f1 Vz)(G1:uR P w K mg base (vd P w) 2 f1 Vz ["row"] (xW T<|Mj C))(a1B:mg "set"=none)(Ua:mg "sorted"=none) :
  uR P w K mg base (vd P w) 3 f fd ["rows"] (xW T Ml):=by
 refine' uw (vV (A:=List (Tp Int)×Unit) (PO:=Un×Unit) (τ:=OL Int) (D':=Unit) (ms:=[]) (j:=3) F IL rfl rfl λSy A outer s H E hr=>?body) ?nice
 case body =>
  have nd:=IL.nd
  exact CS (uQ q0q) (uz 1 nd<|Tq (w:=w) rfl rfl a1B)
   (CS (uQ q0q) (wm (is:=[]) (mb:=[]) (D1:=List (Tp Int)×SI w×Tp Int×Un×Unit) (D2:=List (Tp Int)×SI w×Tp Int×Un×Unit) (uQ q0q) yx rfl (vG (ss 0)) (uM 2 (uy nd))
    (CS (uQ q0q) (vf (uB (Ba G1 hr rfl F1.at_ F1.fn.kp F1.bd DB (uj (ss 2) ug))))
     (uk (wm (is:=[]) (mb:=[]) (D1:=List (Tp Int)×SI w×Tp Int×Int×Unit) (D2:=List (Tp Int)×SI w×Tp Int×Int×Unit) (uQ q0q) yx rfl (PU (ss 2)) (uM 3 (uy nd))
      (uk (uZ (tw_inS 1 (w:=w) rfl (ss 3) (pv 1) (by with_unfolding_all rfl))
       (uk<|Tt 1 (w:=w) rfl (ss 3)<|λh=>AQ<|Pc PySem.F.slot_set_discard PySem.F.type_set_discard Pb (pv 1) h)
       (uk (Tr 1 (w:=w) rfl (ss 3) (λh=>AQ (Pc PySem.F.slot_set_add PySem.F.type_set_add S6 (pv 1) h)))))) q0q q0q))) q0q q0q)
    (uk (uF (J3 1 (w:=w) rfl rfl rfl Ua (pv 1)))))
 case nice =>
  intro p Kn Ke h
  walk_at "wl"
  obtain⟨U,hU,hr,hk⟩:=h;refine vm (λ(r:List (Tp Int)) (b:List (Tp Int)×SI w×Un×Un×Unit)=>vE b.2.1.l/\(∀x∈b.2.1.l,x∈U)/\(r.map (·.l)).foldl xr b.2.1.l=Oa (p.1.map (·.l))) p.1 #[gS,(λ_ h=>by cases h),rfl] ?_ ?_
  ·rintro x r b ⟨pre,e⟩ ⟨h1,h2,h3⟩ K hK;have hx:=hr x (by rw[e];simp);refine#[λ_=>?_,λz=>gA ((wH _).mpr hx.1)<|by rw[z];simp];refine vm (λ(q:List Int) (c:List (Tp Int)×SI w×Tp Int×Un×Unit)=>vE c.2.1.l/\(∀y∈c.2.1.l,y∈U)/\q.foldl J4 c.2.1.l=xr b.2.1.l x.l) x.l #[h1,h2,rfl] ?_ ?_
   ·rintro y q c ⟨a21,e2⟩ ⟨g1,g2,g3⟩ K2 hK2;have hy:y∈x.l:=by rw[e2];simp
    have g3':q.foldl J4 (J4 c.2.1.l y)=xr b.2.1.l x.l:=g3;by_cases hc:y∈c.2.1.l
    ·rw[f9<|decide_eq_true hc];refine hK2 _ ⟨gU _ g1,λz hz=>g2 z (zA.mp hz).1,?_⟩;rw[<- g3'];unfold J4;rw[f9 hc]
    ·rw[gc<|by simpa using hc];refine⟨by have:=vK g1 g2;lia,hK2 _ ⟨CU g1,λz hz=>?_,?_⟩⟩
     ·rcases Bh.mp hz with e3|e3
      ·rw[e3];exact hx.2 y hy
      ·exact g2 z e3
     ·rw[<- g3'];rw[show J4 c.2.1.l y=EK y c.2.1.l from gc hc]
   ·rintro c ⟨g1,g2,g3⟩;refine hK _ #[g1,g2,?_];rw[<- h3];show (r.map (·.l)).foldl xr c.2.1.l=(r.map (·.l)).foldl xr (xr b.2.1.l x.l);rw[<- g3];rfl
  ·rintro b ⟨h1,h2,h3⟩;refine#[by have:=vK h1 h2;lia,?_];have h3':b.2.1.l=Oa (p.1.map (·.l)):=h3;rw[h3'];exact hk
end
section
variable(C:ci)
abbrev B0:=Bd C true
noncomputable def uV{C:ci}(x:B0 C)(row:List Int):Bool:=row.all λc=>(lk x.rk c).isSome
noncomputable def vt{C:ci}(x:B0 C)(c:Int):List Int:=(lk x.bd c).getD []
noncomputable def Xa{C:ci}(x:B0 C)(c:Int):List Int:=(x.rk.map (·.1)).filter λh=>decide<|c∈vt x h
noncomputable def Ub{C:ci}(x:B0 C)(row:List Int)(r:Int):Bool:=row.all λc=>decide<|lk x.rk c=↑r
structure QC{C:ci}(x:B0 C):Prop where
 kb:∀k,(lk x.rk k).isSome=true->(lk x.bd k).isSome=true
 bo:∀k b,lk x.bd k=↑b->vE b/\∀c∈b,0<=c/\c<63
 ri:(x.rk.map (·.1)).Pairwise (·<=·)
 lr:x.rk.length<64
 lb:x.bd.length<64
def Bm(a:ci):Wf (B0 C×Int×Unit) Unit (B0 C×Un×Unit):=λp b c =>
 if (lk p.1.rk p.2.1).isSome=true then b () (p.1,#[],()) else c a (p.1,#[],())
def zI(XS XC:ci):Wf (B0 C×List Int×Unit) Unit (B0 C×Un×Unit):=λp Kn Ke =>
 if asc p.2.1=true then (if uV p.1 p.2.1=true then Kn () (p.1,#[],()) else Ke XC (p.1,#[],())) else Ke XS (p.1,#[],())
def wU(XO:ci):Wf (B0 C×List Int×Int×Unit) Unit (B0 C×Un×Un×Unit):=λp Kn Ke =>
 uV p.1 p.2.1=true/\if Ub p.1 p.2.1 p.2.2.1=true then Kn () (p.1,#[],#[],()) else Ke XO (p.1,#[],#[],())
def xl(XS XC:ci):Wf (B0 C×List Int×Unit) (OL Int) (B0 C×Un×Unit):=λp Kn Ke =>
 QC p.1/\if asc p.2.1=true then (if uV p.1 p.2.1=true then Kn #[Oa<|p.2.1.map<|vt p.1] (p.1,#[],()) else Ke XC (p.1,#[],())) else Ke XS (p.1,#[],())
def C8:Wf (B0 C×Unit) (OL Int) (B0 C×Unit):=λp a _=>QC p.1/\a #[p.1.rk.map (·.1)] (p.1,())
def GG(a:ci):Wf (B0 C×Int×Unit) (OL Int) (B0 C×Un×Unit):=λp b c =>
 QC p.1/\if (lk p.1.rk p.2.1).isSome=true then b #[Xa p.1 p.2.1] (p.1,#[],()) else c a (p.1,#[],())
def IM(b c d e f:ci):Wf (B0 C×Int×List Int×Unit) Int (B0 C×Un×Un×Unit):=λp g a =>
 QC p.1/\lk p.1.bd p.1.up=none/\if p.2.1<0\/12<p.2.1 then a b (p.1,#[],#[],()) else if asc p.2.2.1=true then (if uV p.1 p.2.2.1=true then (if Ub p.1 p.2.2.1 (p.2.1-1)=true then
  (if Oa (p.2.2.1.map (vt p.1))=[] then g p.1.up ({ p.1 with rk:=pk p.1.rk p.1.up p.2.1,bd:=pk p.1.bd p.1.up p.2.2.1,up:=p.1.up+1},#[],#[],()) else a f (p.1,#[],#[],())) else a e (p.1,#[],#[],())) else a d (p.1,#[],#[],())) else a c (p.1,#[],#[],())
def GH(b c:ci):Wf (B0 C×Int×Unit) Unit (B0 C×Un×Unit):=λp d a =>
 QC p.1/\if (lk p.1.rk p.2.1).isSome=true then (if Xa p.1 p.2.1=[] then d () ({ p.1 with rk:=dk p.1.rk p.2.1,bd:=dk p.1.bd p.2.1},#[],()) else a c (p.1,#[],())) else a b (p.1,#[],())
def Bo(XC:ci):Wf (B0 C×Int×Unit) (OL Int) (B0 C×Un×Unit):=λp Kn Ke =>
 QC p.1/\if (lk p.1.rk p.2.1).isSome=true then Kn #[vt p.1 p.2.1] (p.1,#[],()) else Ke XC (p.1,#[],())
end
def yU{n k:Int}(h0:0<=k)(h1:k<n):k∈xY 0 n:=by exact List.mem_map.mpr #[k.toNat,List.mem_range.mpr q0a,q0a]
def yV{k:Int}:∀{l:List (Int×c)},(lk l k).isSome=true->k∈l.map (·.1):=by
 intro b
 induction b with
 |nil=>intro h;cases h
 |cons e l a =>
  intro h;by_cases q:e.1=k
  ·rw[<- q];simp
  ·have:lk (e::l) k=lk l k:=by unfold lk;rw[ij,gH q]
   rw[this]at h;exact gl _<|a h
def wK{k:Int}:∀{l:List (Int×a)},k∈l.map (·.1)->(lk l k).isSome=true
 | [],h=>by cases h
 |e::l,h=>by
  by_cases q:e.1=k
  ·unfold lk;rw[ij,decide_eq_true q];rfl
  ·have:lk (e::l) k=lk l k:=by unfold lk;rw[ij,gH q]
   rw[this];rcases List.mem_cons.mp h with z|z
   ·exact gA z.symm q
   ·exact wK z
def Ec{C:ci}{x:B0 C}{c:Int}{r:List Int}:uV x (c::r)=((lk x.rk c).isSome&&uV x r):=by unfold uV;rw[pr]
def QD{C:ci}{x:B0 C}{c k:Int}{r:List Int}:Ub x (c::r) k=(decide (lk x.rk c=↑k)&&Ub x r k):=by unfold Ub;rw[pr]
def NI{C:ci}{x:B0 C}{row:List Int}(ok:QC x)(ha:asc row=true)(h:uV x row=true):row.length<=gh:=by have:=vK (U:=x.rk.map (·.1)) ((wH row).mp ha) λc hc=>yV<|List.all_eq_true.mp h c hc;rw[gm]at this;have:=ok.lr;exact vj q0a
def Bp{n:Nat}(h:n<1000):n<gh:=by have z:gh=16777216:=iC;lia
def Av{C:ci}{x:B0 C}(ok:QC x){c:Int}(h:(lk x.rk c).isSome=true):lk x.bd c=↑(vt x c):=by obtain⟨v,hv⟩:=Option.isSome_iff_exists.mp<|ok.kb c h;unfold vt;rw[hv];rfl
def vA{K:List d->S->Prop}(e:∀x∈c,∀K:Option d->S->Prop,(if q x=true then K ↑x s else K none s)->b x s K)(h:K (c.filter q) s):Bf b c s K:=by
 refine vp (f:=λx=>if q x=true then some x else none) (λx g K a=>e x g K ?_) (by rw[filterMap_filter];exact h);by_cases z:q x=true
 ·rw[f9 z]at a ⊢;exact a
 ·rw[gc z]at a ⊢;exact a
section
variable{q:Cq}{C XC XS XO XB XP XV Xb XF XT XN XR XL:ci}
noncomputable abbrev yW:gV:=BF (top 29) 15
noncomputable abbrev yX:List Str:=["self","cell"]
def EM:uq ["self","cell"] yX (uh yW):=by walk_at "sc"
abbrev vZ(q:Cq)(C XC:ci)(k:Nat):=zd q C "must_stand" yX (Bm C XC) k
def EN(F:yo q.K "must_stand" "Body.must_stand" yW f d)(c:Ab q.K C)(a:Xc q.K q.mg "NoCell" XC):Gq q 2 f d yX (Bm C XC):=by
 refine' uw (Cp (uQ q0q) (D':=(Bd C true)×Int×Unit) (ms:=[0]) (j:=0) F EM rfl rfl λe A b s H E g =>
   (uk (uZ (tw_dIn .rk true 0 trivial c.cl c.nR (BY g) (ss 1) (pv 0))
   (uk<|Au rfl a)
   uN))) λp i k h=>?_
 walk_at "wl"
 have h:if (lk p.1.rk p.2.1).isSome=true then i () (p.1,#[],()) else k XC (p.1,#[],()):=h
 cases q:(lk p.1.rk p.2.1).isSome with
 |true=>rw[q]at h;simpa using h
 |false=>rw[q]at h;simpa using h
noncomputable abbrev zJ:gV:=BF (top 29) 16
noncomputable abbrev zK:List Str:=["self","row"]
def Bq:uq ["self","row","cell"] zK (uh zJ):=by walk_at "sc"
abbrev yb(q:Cq)(C XS XC:ci)(k:Nat):=zd q C "must_hold" zK (zI C XS XC) k
def GI{f:ci}{fd:hV}(F:yo q.K "must_hold" "Body.must_hold" zJ f fd)(ct:Ab q.K C)(EQ:wx q "must_be_sum" ["row"] (C7 XS) 2)(wL:vZ q C XC 2):Gq q 3 f fd zK (zI C XS XC):=by
 refine' uw (Cp (uQ q0q) (D':=(Bd C true)×(List Int)×Un×Unit) (ms:=[0]) (j:=1) F Bq rfl rfl λSy A outer s H E hr =>
   (ux (vf (uB (uv EQ (uj (ss 1) ug))))
   (uk (wm (is:=[]) (mb:=[0]) (D1:=(Bd C true)×(List Int)×Int×Unit) (D2:=(Bd C true)×(List Int)×Int×Unit) (uQ q0q) yx rfl (vG (ss 1)) (uM 2 (uy Bq.nd))
   (uk (vf (uB (vo 0 wL (uj (ss 2) ug))))) q0q q0q)))) λp Kn Ke h=>?_
 walk_at "wl"
 have h:if asc p.2.1=true then (if uV p.1 p.2.1=true then Kn () (p.1,#[],()) else Ke XC (p.1,#[],())) else Ke XS (p.1,#[],()):=h;refine#[λha=>?_,λha=>?_]
 ·have ha:asc p.2.1=true:=ha;rw[f9 ha]at h;refine vm (λ(r:List Int)(b:B0 C×List Int×WL.Un×Unit)=>b.1=p.1/\if uV p.1 r=true then Kn () (p.1,#[],()) else Ke XC (p.1,#[],())) p.2.1 #[rfl,h] ?_ ?_
  ·rintro c r b _ ⟨e,hb⟩ K2 hK;rw[Ec]at hb;show if (lk b.1.rk c).isSome=true then K2 _ else Ke XC (b.1,#[],());rw[e]
   cases q:(lk p.1.rk c).isSome with
   |false=>rw[q]at hb;simpa using hb
   |true =>
    rw[q,Bool.true_and]at hb;rw[f9 rfl];exact hK _ #[rfl,hb]
  ·rintro b ⟨e,hb⟩;rw[e];exact hb
 ·have ha:asc p.2.1=false:=ha;rw[gc<|by rw[ha];simp]at h;exact h
noncomputable abbrev wV:gV:=BF (top 29) 17
noncomputable abbrev wW:List Str:=["self","row","rank"]
def yc:uq ["self","row","rank","cell"] wW (uh wV):=by walk_at "sc"
abbrev B3(q:Cq)(C XO:ci)(k:Nat):=zd q C "must_have_rank" wW (wU C XO) k
def Br{f:ci}{fd:hV}(F:yo q.K "must_have_rank" "Body.must_have_rank" wV f fd)(ct:Ab q.K C)(IN:Xc q.K q.mg "OtherRank" XO):Gq q 2 f fd wW (wU C XO):=by
 refine' uw (Cp (uQ q0q) (D':=(Bd C true)×(List Int)×Int×Un×Unit) (ms:=[0]) (j:=1) F yc rfl rfl λSy A outer s H E hr =>
   (uk (wm (is:=[]) (mb:=[0]) (D1:=(Bd C true)×(List Int)×Int×Int×Unit) (D2:=(Bd C true)×(List Int)×Int×Int×Unit) (uQ q0q) yx rfl (vG (ss 1)) (uM 3 (uy yc.nd))
   (uk (uZ (tw_cm Pr (Gn .rk 0 trivial ct.cl ct.nR (BY hr) (pv 0) (vI 3 (pv 3))) (ss 2))
   (uk<|Au rfl IN)
   uN)) q0q q0q))) λp Kn Ke h=>?_
 walk_at "wl"
 refine vm (λ(r:List Int)(b:B0 C×List Int×Int×WL.Un×Unit)=>b.1=p.1/\b.2.2.1=p.2.2.1/\uV p.1 r=true/\if Ub p.1 r p.2.2.1=true then Kn () (p.1,#[],#[],()) else Ke XO (p.1,#[],#[],())) p.2.1 #[rfl,rfl,h.1,h.2] ?_ ?_
 ·rintro c r b _ ⟨e1,e2,hi,hb⟩ K2 hK;rw[Ec,hR]at hi;rw[QD]at hb;obtain⟨v,hv⟩:=Option.isSome_iff_exists.mp hi.1;refine#[v,by rw[e1];exact hv,?_];rw[hv]at hb;rw[e2];by_cases q:v=p.2.2.1
  ·rw[gc<|by simp[q]];refine hK _ #[e1,rfl,hi.2,?_];rw[q]at hb;simpa using hb
  ·rw[f9 (by simp[q]),e1];rw[gc<|by simp[q]]at hb;exact hb
 ·rintro b ⟨e1,_,_,hb⟩;rw[e1];exact hb
noncomputable abbrev zL:gV:=BF (top 29) 9
abbrev vW:List Str:=["self","row"]
def GJ:uq ["self","row"] vW (uh zL):=by walk_at "sc"
def ES:(["cell","self"]:List Str).Nodup:=by decide +kernel
abbrev yd(q:Cq)(C XS XC:ci)(k:Nat):=zd q C "border_of" vW (xl C XS XC) k
def GK{f:ci}{fd:hV}(F:yo q.K "border_of" "Body.border_of" zL f fd)(ct:Ab q.K C)(Uc:wx q "total" ["rows"] Ml 3)(IP:yb q C XS XC 3):Gq q 4 f fd vW (xl C XS XC):=by
 refine' uw (vV (D':=Unit) (ms:=[0]) (j:=0) F GJ rfl rfl λSy A outer s H E hr =>
   (ux (vf (uB (vo 0 IP (uj (ss 1) ug))))
   (uk (uF (uv Uc (uj (uE (wp (Ts:=["cell"]) (Fr:=["self"]) (idx:=[0]) (k:=1) (mb:=[1]) (is:=[]) (cl:=[("self",⇑s+1)]) rfl (vG (ss 1)) RV rfl (vY rfl) (λs₀ H₀ C ex pn=>(uM 0 (uy ES))) (λs₀ H₀ C ex pn=>tws_nil) (λs₀ H₀ C ex pn=>(Ac 1 ct.cl ct.nB (BY hr) (pv 1) (vI 0 (pv 0)))))) ug)))))) λp Kn Ke h=>?_
 walk_at "wl"
 obtain⟨ok,h⟩:=h;show if asc p.2.1=true then (if uV p.1 p.2.1=true then _ else Ke XC (p.1,#[],())) else Ke XS (p.1,#[],());by_cases ha:asc p.2.1=true
 ·rw[f9 ha]at h ⊢;by_cases hb:uV p.1 p.2.1=true
  ·rw[f9 hb]at h ⊢
   have lkb:∀c∈p.2.1,lk p.1.bd c=↑(vt p.1 c):=λc hc=>by obtain⟨v,hv⟩:=Option.isSome_iff_exists.mp<|ok.kb c<|List.all_eq_true.mp hb c hc;unfold vt;rw[hv];rfl
   refine#[NI ok ha hb,vp (f:=λc=>some<|Tp.mk<|vt p.1 c) (λc hc K hk=>#[vt p.1 c,lkb c hc,hk]) ?_];refine#[xY 0 63,by rw[v7];decide,λr hr=>?_,?_]
   ·obtain⟨c,hc,e⟩:=List.mem_filterMap.mp hr;cases e;obtain⟨g1,g2⟩:=ok.bo c _<|lkb c hc;exact⟨g1,λx hx=>yU (g2 x hx).1 (g2 x hx).2⟩
   ·have e:((p.2.1.filterMap λc=>some<|Tp.mk<|vt p.1 c).map (·.l))=p.2.1.map (vt p.1):=by rw[show (λc=>some<|Tp.mk<|vt p.1 c)=some∘(λc=>Tp.mk<|vt p.1 c) from rfl,List.filterMap_eq_map,jR];rfl
    rw[e];exact h
  ·rw[gc hb]at h ⊢;exact h
 ·rw[gc ha]at h ⊢;exact h
noncomputable abbrev GL:gV:=BF (top 29) 4
noncomputable abbrev ye:List Str:=["self"]
def QE:uq ["self"] ye (uh GL):=by walk_at "sc"
abbrev Ud(q:Cq)(C:ci)(k:Nat):=zd q C "cells" ye (C8 C) k
def QF(F:yo q.K "cells" "Body.cells" GL f d)(b:Ab q.K C)(B:Bn q.mg):Gq q 2 f d ye (C8 C):=by
 refine' uw (vV (D':=Unit) (ms:=[0]) (j:=0) F QE rfl rfl λe A a s H E g =>
   (uk (uF (DT .rk 0 trivial b.cl b.nR rfl rfl B.sorted (pv 0))))) λp i k h=>?_
 walk_at "wl"
 obtain⟨c,h⟩:=h;exact#[c.lr,by rw[<- DE (nZ _) c.ri];exact h]
noncomputable abbrev Kq:gV:=BF (top 29) 8
abbrev zM:List Str:=["self","cell"]
def Ue:uq ["self","cell"] zM (uh Kq):=by walk_at "sc"
def QG:(["high","cell","self"]:List Str).Nodup:=by decide +kernel
abbrev Xd(q:Cq)(C XC:ci)(k:Nat):=zd q C "over" zM (GG C XC) k
def Uf(F:yo q.K "over" "Body.over" Kq f u)(m:Ab q.K C)(a:vZ q C XC 3)(b:Ud q C 3):Gq q 4 f u zM (GG C XC):=by
 refine' uw (vV (D':=Unit) (ms:=[0]) (j:=0) F Ue rfl rfl λw A i s H E x =>
   (ux (vf (uB (vo 0 a (uj (ss 1) ug))))
   (uk (uF (wp (Ts:=["high"]) (Fr:=["cell","self"]) (idx:=[1,0]) (k:=1) (mb:=[1,2]) (is:=[]) (cl:=[("self",⇑s+1),("cell",⇑s+1+1)]) rfl (vG (uE (Iw 0 b))) bs2 rfl (vY rfl) (λc d C n o=>(uM 0 (uy QG))) (λc d C n o=>(tws_one (tw_inT (ss 1) (Ac 2 m.cl m.nB (BY x) (pv 2) (vI 0 (pv 0))) (by with_unfolding_all rfl)))) (λc d C n o=>(ss 0))))))) λp B y h=>?_
 walk_at "wl"
 obtain⟨l,h⟩:=h;show if (lk p.1.rk p.2.1).isSome=true then _ else y XC (p.1,#[],());by_cases r:(lk p.1.rk p.2.1).isSome=true
 ·rw[f9 r]at h ⊢;refine#[l,?_,?_]
  ·show (p.1.rk.map (·.1)).length<=gh;rw[gm];have:=l.lr;exact vj q0a
  ·refine vp (f:=λk=>if decide (p.2.1∈vt p.1 k)=true then some k else none) (λk z K g=>?_) ?_
   ·obtain⟨v,t⟩:=Option.isSome_iff_exists.mp<|l.kb k<|wK z;have e:vt p.1 k=v:=by unfold vt;rw[t];rfl
    refine#[v,t,?_];rw[e]at g;show if decide (p.2.1∈v)=true then _ else _;by_cases q:decide (p.2.1∈v)=true
    ·rw[f9 q]at g ⊢;exact g
    ·rw[gc q]at g ⊢;exact g
   ·rw[filterMap_filter];exact h
 ·rw[gc r]at h ⊢;exact h
noncomputable abbrev QH:gV:=BF (top 29) 1
noncomputable abbrev Cw:List Str:=["self","rank","border"]
def QI:uq ["self","rank","border","cell"] Cw (uh QH):=by walk_at "sc"
abbrev Zz(q:Cq)(C XB XS XC XO XP:ci)(k:Nat):=zd q C "put" Cw (IM C XB XS XC XO XP) k
def Xe(F:yo q.K "put" "Body.put" QH f R)(o:Ab q.K C)(e:yb q C XS XC 5)(b:B3 q C XO 5)(g:yd q C XS XC 5)(k:Xc q.K q.mg "BadRank" XB)(t:Xc q.K q.mg "Full" Xb)(c:Xc q.K q.mg "OpenBorder" XP)(d:q.mg "MOST_CELLS"=↑(.int 120 r))(i:q.mg "TOP_RANK"=↑(.int 12 u))(B:Bn q.mg):Gq q 6 f R Cw (IM C XB XS XC XO XP):=by
 refine' uw (vV (D':=Unit) (ms:=[0]) (j:=1) F QI rfl rfl λS A I s H E O =>
   (ux (uZ (tw_w (Pu (tw_cm Pq (ss 1) um) (JV (tw_cm Vq (ss 1) (P5 rfl i)))))
   (uk<|Au rfl k)
   uN)
   (ux (vf (uB (vo 0 e (uj (ss 2) ug))))
   (ux (vf (uB (vo 0 b (uj (ss 2) (uj (A6 Jo (ss 1) um) ug)))))
   (ux (uZ (tw_trueO (vo 0 g (uj (ss 2) ug)))
   (uk<|Au rfl c)
   uN)
   (ux (uZ (tw_cm Vs (Tx .rk 0 trivial o.cl o.nR rfl B.len (pv 0)) (P5 rfl d))
   (uk<|Au rfl t)
   uN)
   (ux (uz 3 QI.nd (uW (Zc 0 o.cl o.nU (pv 0))))
   (ux (Go .rk 0 trivial o.cl o.nR (BY O) (pv 0) (vI 3 (pv 3)) (ss 1))
   (ux (Tz 0 o.cl o.nB (BY O) (pv 0) (vI 3 (pv 3)) (TC rfl B.tuple (vz (ss 2))))
   (ux (Zd 0 o.cl o.nU (pv 0) (A6 AB (ss 3) um))
   (uk (uF (uW (ss 3)))))))))))))) λp P m h=>?_
 walk_at "wl"
 obtain⟨J,L,h⟩:=h
 have M:(if asc p.2.2.1=true then (if uV p.1 p.2.2.1=true then (if Ub p.1 p.2.2.1 (p.2.1-1)=true then
  (if Oa (p.2.2.1.map (vt p.1))=[] then P p.1.up ({ p.1 with rk:=pk p.1.rk p.1.up p.2.1,bd:=pk p.1.bd p.1.up p.2.2.1,up:=p.1.up+1},#[],#[],()) else m XP (p.1,#[],#[],())) else m XO (p.1,#[],#[],())) else m XC (p.1,#[],#[],())) else m XS (p.1,#[],#[],())) ->
  zI C XS XC (p.1,p.2.2.1,()) (λy v=>wU C XO (v.1,p.2.2.1,p.2.1-1,()) (λy w=>xl C XS XC (w.1,p.2.2.1,()) (λy a =>
   if (!y.l.isEmpty)=true then m XP (a.1,#[],#[],()) else if decide (120<=(a.1.rk.length:Int))=true then m Xb (a.1,#[],#[],()) else a.1.rk.length<gh/\a.1.bd.length<gh/\lk a.1.bd a.1.up=none /\
    P a.1.up ({ a.1 with rk:=pk a.1.rk a.1.up p.2.1,bd:=pk a.1.bd a.1.up p.2.2.1,up:=a.1.up+1},#[],#[],()))
   λn v=>m n (v.1,#[],#[],())) λn v=>m n (v.1,#[],#[],())) λn v=>m n (v.1,#[],#[],()):=by
  intro h;show if asc p.2.2.1=true then (if uV p.1 p.2.2.1=true then _ else m XC (p.1,#[],#[],())) else m XS (p.1,#[],#[],());by_cases N:asc p.2.2.1=true
  ·rw[f9 N]at h ⊢;by_cases x:uV p.1 p.2.2.1=true
   ·rw[f9 x]at h ⊢;refine#[x,?_];by_cases Q:Ub p.1 p.2.2.1 (p.2.1-1)=true
    ·rw[f9 Q]at h ⊢;refine#[J,?_];rw[f9 N,f9 x];by_cases hd:Oa (p.2.2.1.map<|vt p.1)=[]
     ·rw[f9 hd]at h;have T:=J.lr;have U:=J.lb;have z:gh=16777216:=iC;rw[hd,gc q0o,gc<|by simp;lia];exact#[(by show p.1.rk.length<gh;lia),(by show p.1.bd.length<gh;lia),L,h]
     ·rw[gc hd]at h;rw[f9<|by simpa using hd];exact h
    ·rw[gc Q]at h ⊢;exact h
   ·rw[gc x]at h ⊢;exact h
  ·rw[gc N]at h ⊢;exact h
 by_cases D:p.2.1<0
 ·rw[f9<|decide_eq_true D,f9 rfl];rw[f9<|.inl D]at h;exact h
 ·rw[gc<|by simpa using D];by_cases G:12<p.2.1
  ·rw[f9<|decide_eq_true G];rw[f9<|.inr G]at h;exact h
  ·rw[gc<|by simpa using G];rw[gc (by intro z;rcases z with z|z;exact D z;exact G z)]at h;exact M h
noncomputable abbrev Ks:gV:=BF (top 29) 2
abbrev zN:List Str:=["self","cell"]
def Ug:uq ["self","cell"] zN (uh Ks):=by walk_at "sc"
def Uh(F:yo q.K "take" "Body.take" Ks f m)(d:Ab q.K C)(c:Xd q C XC 5)(b:Xc q.K q.mg "Covered" XV):Gq q 6 f m zN (GH C XC XV):=by
 refine' uw (Cp (uQ q0q) (D':=(Bd C true)×Int×Unit) (ms:=[0]) (j:=0) F Ug rfl rfl λn A g s H E o =>
   (ux (uZ (tw_trueO (vo 0 c (uj (ss 1) ug)))
   (uk<|Au rfl b)
   uN)
   (ux (L8 .rk 0 trivial d.cl d.nR (pv 0) (vI 1 (pv 1)) (λi k=>FT i k))
   (uk (TB 0 d.cl d.nB (pv 0) (vI 1 (pv 1)) (λi k=>FT i k)))))) λp t u h=>?_
 walk_at "wl"
 obtain⟨l,h⟩:=h;refine#[l,?_];by_cases e:(lk p.1.rk p.2.1).isSome=true
 ·rw[f9 e]at h ⊢
  cases q:Xa p.1 p.2.1 with
  |nil =>
   rw[q,f9 rfl]at h;exact#[e,l.kb _ e,h]
  |cons a r =>
   rw[q,gc q0o]at h;exact h
 ·rw[gc e]at h ⊢;exact h
noncomputable abbrev Ed:gV:=BF (top 29) 7
abbrev xm:List Str:=["self","cell"]
def NJ:uq ["self","cell"] xm (uh Ed):=by walk_at "sc"
abbrev QJ(q:Cq)(C XC:ci)(k:Nat):=zd q C "border" xm (Bo C XC) k
def NK{f:ci}{fd:hV}(F:yo q.K "border" "Body.border" Ed f fd)(ct:Ab q.K C)(wL:vZ q C XC 2)(B:Bn q.mg):Gq q 3 f fd xm (Bo C XC):=by
 refine' uw (vV (D':=Unit) (ms:=[0]) (j:=0) F NJ rfl rfl λSy A outer s H E hr =>
   (ux (vf (uB (vo 0 wL (uj (ss 1) ug))))
   (uk (uF (P4 rfl B.list (Ac 0 ct.cl ct.nB (BY hr) (pv 0) (vI 1 (pv 1)))))))) λp Kn Ke h=>?_
 walk_at "wl"
 obtain⟨ok,h⟩:=h;show if (lk p.1.rk p.2.1).isSome=true then _ else Ke XC (p.1,#[],());by_cases q:(lk p.1.rk p.2.1).isSome=true
 ·rw[f9 q]at h ⊢;exact#[_,Av ok q,h]
 ·rw[gc q]at h ⊢;exact h
end
section
variable(C:ci)
noncomputable def vN{C:ci}(x:B0 C)(c:Int):Bool:=(lk x.ht c).isSome||(lk x.th c).isSome
noncomputable def Bu{C:ci}(x:B0 C)(low high:Int):List Int:=(vt x high).filter λf=>decide (f≠low)&&(lk x.ht f).isSome
noncomputable def vD{C:ci}(x:B0 C)(t:Int):Int:=(lk x.ht t).getD 0
noncomputable def vk{C:ci}(x:B0 C):List Int:=x.ht.map (·.1)
def X2{C:ci}(x:B0 C):Prop:=∃r:Int->Nat,∀l∈vk x,∀t∈Bu x l (vD x l),r l<r t
structure zh{C:ci}(x:B0 C):Prop where
 ok:QC x
 nd:(vk x).Nodup
 len:x.ht.length<64
 ZA:x.th.length<64
 ht:∀l h,lk x.ht l=↑h->(lk x.rk l).isSome=true/\(lk x.rk h).isSome=true/\l∈vt x h/\lk x.th h=↑l
 th:∀l h,lk x.th h=↑l->lk x.ht l=↑h
 one:∀c,(lk x.ht c).isSome=true->(lk x.th c).isSome=true->False
 acy:X2 x
noncomputable def Ey{C:ci}(x:B0 C)(low high:Int):B0 C:={ x with ht:=pk x.ht low high,th:=pk x.th high low}
def FC:Wf (B0 C×Int×Unit) Bool (B0 C×Un×Unit):=λp a _=>a (vN p.1 p.2.1) (p.1,#[],())
def GN:Wf (B0 C×Int×Int×Unit) (OL Int) (B0 C×Un×Un×Unit):=λp a _ =>
 (lk p.1.bd p.2.2.1).isSome=true/\(vt p.1 p.2.2.1).length<=gh/\a #[Bu p.1 p.2.1 p.2.2.1] (p.1,#[],#[],())
def Mn:Wf (B0 C×Unit) (OL Int) (B0 C×Unit):=λp a _=>p.1.ht.length<64/\(vk p.1).Nodup/\a #[Ak<|vk p.1] (p.1,())
def IQ:Wf (B0 C×Unit) (OL<|Int×Int) (B0 C×Unit):=λp a _=>p.1.ht.length<64/\(vk p.1).Nodup/\a #[(Ak<|vk p.1).map λl=>(l,vD p.1 l)] (p.1,())
def FD(a:ci):Wf (B0 C×Int×Unit) (Option Int) (B0 C×Un×Unit):=λp b c =>
 if (lk p.1.rk p.2.1).isSome=true then b (lk p.1.ht p.2.1) (p.1,#[],()) else c a (p.1,#[],())
def GO(b c:ci):Wf (B0 C×Int×Unit) Int (B0 C×Un×Unit):=λp d a =>
 zh p.1/\if (lk p.1.rk p.2.1).isSome=true then (if (lk p.1.ht p.2.1).isSome=true then d (vD p.1 p.2.1) ({ p.1 with ht:=dk p.1.ht p.2.1,th:=dk p.1.th (vD p.1 p.2.1)},#[],()) else a c (p.1,#[],())) else a b (p.1,#[],())
def yB:Wf (Dc (Option Int)×Int×Unit) (OL Int) (Dc (Option Int)×Un×Unit):=λp a _ =>
 (∃m:Int->Nat,(∀k,m k<1000)/\(lk p.1.l p.2.1).isSome=true/\∀k e,lk p.1.l k=↑(some e)->(lk p.1.l e).isSome=true/\m e<m k)/\∀r:List Int,r≠[]->a #[r] (p.1,#[],())
def Cy:Wf (B0 C×Int×Int×Unit) (OL Int) (B0 C×Un×Un×Unit):=λp a _ =>
 zh p.1/\(lk p.1.rk p.2.2.1).isSome=true/\vN p.1 p.2.1=false/\vN p.1 p.2.2.1=false/\∀r:List Int,(r=[]->X2 (Ey p.1 p.2.1 p.2.2.1))->a #[r] (p.1,#[],#[],())
def QK(b c d e:ci):Wf (B0 C×Int×Int×Unit) Unit (B0 C×Un×Un×Unit):=λp f a =>
 zh p.1/\if (lk p.1.rk p.2.1).isSome=true then (if (lk p.1.rk p.2.2.1).isSome=true then (if p.2.1∈vt p.1 p.2.2.1 then (if vN p.1 p.2.1=true\/vN p.1 p.2.2.1=true then a d (p.1,#[],#[],())
  else a e (p.1,#[],#[],())/\(X2 (Ey p.1 p.2.1 p.2.2.1)->f () (Ey p.1 p.2.1 p.2.2.1,#[],#[],()))) else a c (p.1,#[],#[],())) else a b (p.1,#[],#[],())) else a b (p.1,#[],#[],())
structure Ord{C:ci}(x:B0 C)(o:List Int):Prop where
 pm:o.Perm (vk x)
 up:o.Pairwise λa b=>a∉Bu x b (vD x b)
def Mo:Wf (B0 C×Unit) (OL Int) (B0 C×Unit):=λp a _=>zh p.1/\∀o,Ord p.1 o->a #[o] (p.1,())
noncomputable def AM{C:ci}(x:B0 C)(s:List Int×List Int)(t:Int):List Int×List Int:=if t∈s.1 then (xr s.1<|vt x<|vD x t,s.2++[vD x t]) else s
end
def wy{j:Int}:lk (e::l) j=if e.1=j then some e.2 else lk l j:=by
 by_cases q:e.1=j
 ·rw[f9 q];unfold lk;rw[ij,decide_eq_true q];rfl
 ·rw[gc q];unfold lk;rw[ij,gH q]
def Kt{k j:Int}:∀{l:List (Int×c)},lk l k=none->lk (l++[(k,v)]) j=if j=k then some v else lk l j:=by
 intro b
 induction b with
 |nil =>
  intro _;rw[mw,wy];by_cases q:j=k
  ·rw[f9 q,f9 q.symm]
  ·rw[gc q,gc<|λz=>q z.symm]
 |cons e l a =>
  intro h;rw[wy]at h;by_cases z:e.1=k
  ·rw[f9 z]at h;cases h
  ·rw[gc z]at h;rw[List.cons_append,wy,wy,a h];by_cases q:e.1=j
   ·rw[f9 q,f9 q,gc<|λw=>z<|q.trans w]
   ·rw[gc q,gc q]
def yY{k:Int}(h:lk l k=none):pk l k v=l++[(k,v)]:=by unfold pk;rw[h];rfl
def Bv{k j:Int}:∀{l:List (Int×d)},lk (dk l k) j=if j=k then none else lk l j:=by
 intro c
 induction c with
 |nil=>unfold dk;rw[List.filter_nil];split<;>rfl
 |cons e l a =>
  have b:=a;unfold dk at b ⊢;rw[iT];by_cases z:e.1=k
  ·rw[gc (by simpa using z),b,wy];by_cases q:j=k
   ·rw[f9 q,f9 q]
   ·rw[gc q,gc q,gc<|λw=>q<|w.symm.trans z]
  ·rw[f9 (by simpa using z),wy,wy,b];by_cases q:e.1=j
   ·rw[f9 q,f9 q,gc<|λw=>z<|q.trans w]
   ·rw[gc q,gc q]
def Xf{k j:Int}:∀{l:List (Int×c)},lk (l.map λe=>if e.1=k then (e.1,v) else e) j=if j=k then (if (lk l k).isSome=true then some v else none) else lk l j:=by
 intro b
 induction b with
 |nil=>simp[lk]
 |cons e l a =>
  rw[gN,wy,a,wy,wy];by_cases z:e.1=k
  ·rw[f9 z,f9 z];by_cases q:j=k
   ·subst q;simp[z]
   ·have:¬e.1=j:=λw=>q<|w.symm.trans z;simp[q,this]
  ·rw[gc z,gc z];by_cases q:e.1=j
   ·have:¬j=k:=λw=>z<|q.trans w;simp[q,this]
   ·simp[q]
def xz{k j:Int}:lk (pk l k v) j=if j=k then some v else lk l j:=by
 unfold pk
 cases q:(lk l k).isSome with
 |true=>rw[f9 rfl,Xf,q];simp
 |false =>
  rw[gc q0o,Kt<|by simpa using q]
def Mp{a:Type}{l:List (Int×a)}{k:Int}(h:k∉l.map (·.1)):lk l k=none:=by
 cases e:lk l k with
 |none=>rfl
 |some v=>exact gA (yV<|by rw[e];rfl) h
def zO{a:Type}{k:Int}{l:List (Int×a)}:(lk l k).isSome=true↔k∈l.map (·.1):=#[yV,wK]
def Mr{c t:Int}:∀{l:List Int},t∈l->lk (l.map λk=>(k,c)) t=↑c
 |a::l,h=>by
  rw[gN,wy];by_cases q:a=t
  ·rw[f9 q]
  ·rw[gc q];exact Mr<|(List.mem_cons.mp h).elim (λz=>gA z.symm q) id
def Cz{b:Type}{p q:b->Bool}(h:∀t,q t=true->p t=true):∀{l:List b},(l.filter q).length<=(l.filter p).length
 | []=>gg _
 |a::l=>by
  have:=Cz h (l:=l);rw[iT,iT];by_cases z:q a=true
  ·rw[f9 z,f9<|h a z];simpa using this
  ·rw[gc z];split<;>simp<;>lia
def filter_lt{b:Type}{p q:b->Bool}(h:∀t,q t=true->p t=true){x:b}(c:p x=true)(d:q x=false):∀{l:List b},x∈l->(l.filter q).length+1<=(l.filter p).length
 |a::l,m=>by
  rw[iT,iT];rcases List.mem_cons.mp m with z|z
  ·subst z;rw[d,c,gc q0o,f9 rfl];have:=Cz h (l:=l);simp;lia
  ·have:=filter_lt h c d z;by_cases w:q a=true
   ·rw[f9 w,f9<|h a w];simp;lia
   ·rw[gc w];split<;>simp<;>lia
def QL{r:Int->Nat}{t:Int}:∀{l:List Int},t∈l->r t<=(l.map r).sum
 |a::l,h=>by
  rw[gN,List.sum_cons];rcases List.mem_cons.mp h with z|z
  ·rw[z];lia
  ·have:=QL (r:=r) z;lia
section
variable{C:ci}{x:B0 C}
def vT{l:Int}(h:l∈vk x):lk x.ht l=↑(vD x l):=by obtain⟨v,e⟩:=Option.isSome_iff_exists.mp<|wK h;unfold vD;rw[e];rfl
def wz{l h t:Int}:t∈Bu x l h↔t∈vt x h/\t≠l/\t∈vk x:=by unfold Bu vk;rw[ik,hR,hX,zO]
def zh.Gb(a:zh x){l:Int}(h:l∈vk x):(lk x.rk<|vD x l).isSome=true:=(a.ht l _<|vT h).2.1
def zh.bl(a:zh x){c:Int}(h:(lk x.rk c).isSome=true):(vt x c).length<=gh:=by
 have:=(a.ok.bo c _<|Av a.ok h);have:=vK (U:=xY 0 63) this.1 λk b=>yU (this.2 k b).1 (this.2 k b).2;have e:(xY 0 63).length=63:=by decide
 exact vj q0a
def Ui{low high:Int}{V:List Int}(v:zh x)(o:low∉vk x)(f:low∈V)(E:∀k∈V,k≠low->k∈vk x)
 (p:∀k∈V,(k≠low->low∉vt x (vD x k))/\∀t∈Bu x k (if k=low then high else vD x k),t∈V):X2 (Ey x low high):=by
  obtain⟨r,u⟩:=v.acy
  have c:∀{t:Int},t∈vk (Ey x low high)↔t=low\/t∈vk x:=λ{t}=>by
    show t∈(pk x.ht low high).map (·.1)↔_
    rw[<- zO,xz]
    by_cases q:t=low
    · simp[q]
    · rw[gc q, zO]; simp[q, vk]
  have y:∀l,vD (Ey x low high) l=if l=low then high else vD x l:=λl=>by
    unfold vD Ey
    rw[xz]
    split<;>rfl
  have A:∀{l h t:Int},t∈Bu (Ey x low high) l h↔t∈vt x h/\t≠l/\(t=low\/t∈vk x):=λ{l h t}=>by
    rw[wz,c];exact Iff.rfl
  refine#[λt=>if t∈V then (if t=low then ((vk x).map r).sum+1 else ((vk x).map r).sum+2+r t) else r t,λl g t a=>?_]
  rw[y]at a
  have a:=A.mp a
  have i:∀k,k∈vk x->r k<=((vk x).map r).sum:=λk B=>QL B
  dsimp only
  by_cases b:l=low
  · subst b
    rw[f9 rfl]at a
    rw[f9 f,f9 rfl]
    have D:t∈vk x:=a.2.2.elim (λz=>gA z a.2.1) id
    have e:t∈V:=(p l f).2 t (by rw[f9 rfl];exact wz.mpr #[a.1,a.2.1,D])
    rw[f9 e,gc a.2.1]
    lia
  · rw[gc b]at a
    have j:l∈vk x:=(c.mp g).elim (λz=>gA z b) id
    by_cases m:l∈V
    · rw[f9 m, gc b]
      have d:=p l m
      rw[gc b]at d
      rcases a.2.2 with z|z
      · rw[z]at a; exact gA a.1<|d.1 b
      · have s : t ∈ Bu x l (vD x l) := wz.mpr #[a.1, a.2.1, z]
        have:=u l j t s
        have n:t≠low:=λw=>o<|w▸z
        rw[f9<|d.2 t s,gc n]
        lia
    · rw[gc m]
      have:=i l j
      rcases a.2.2 with z|z
      · subst z
        rw[f9 f,f9 rfl]
        lia
      · have s : t ∈ Bu x l (vD x l) := wz.mpr #[a.1, a.2.1, z]
        have:=u l j t s
        have n:t≠low:=λw=>o<|w▸z
        by_cases e:t∈V
        · rw[f9 e, gc n]; lia
        · rw[gc e]; lia
noncomputable def Oc(x:B0 C)(e:List (Int×Option Int)):Nat:=((vk x).filter λt=>!(lk e t).isSome).length
structure Rw(x:B0 C)(low:Int)(e:List (Int×Option Int))(ws:List Int)(D:Int->List (Int×Option Int)->Prop):Prop where
 lo:(lk e low).isSome=true
 tl:∀k,(lk e k).isSome=true->k≠low->k∈vk x
 wk:∀k∈ws,(lk e k).isSome=true
 dn:∀k,(lk e k).isSome=true->k∉ws->D k e
 ch:∃mm:Int->Nat,(∀k,mm k<=e.length)/\∀k t,lk e k=↑(some t)->(lk e t).isSome=true/\mm t<mm k
 sz:e.length+Oc x e<=64
def Rw.add{low:Int}{a t0:Int}(R:Rw x low e p D)(m:a∈vk x)(d:lk e a=none)(i:(lk e t0).isSome=true)(b:∀k,(lk e k).isSome=true->D k e->D k (pk e a<|↑t0)) :
  Rw x low (pk e a<|↑t0) (p++[a]) D/\Oc x (pk e a<|↑t0)+1<=Oc x e:=by
 have r:Oc x (pk e a<|↑t0)+1<=Oc x e:=by
  refine filter_lt (x:=a) (λt h=>?_) (by rw[d];rfl) (by rw[xz,f9 rfl];rfl) m;rw[xz]at h;by_cases q:t=a
  ·rw[f9 q]at h;simp at h
  ·rw[gc q]at h;exact h
 have f:∀k,(lk e k).isSome=true->(lk (pk e a<|some t0) k).isSome=true:=λk h=>by
  rw[xz];split
  ·rfl
  ·exact h
 have j:∀k,k≠a->lk (pk e a<|some t0) k=lk e k:=λk h=>by rw[xz,gc h]
 have c:(pk e a<|↑t0).length=e.length+1:=by rw[yY d];simp
 refine#[#[f _ R.lo,λk h n=>?_,λk h=>?_,λk h n=>?_,?_,by rw[c];have:=R.sz;lia],r]
 ·by_cases q:k=a
  ·rw[q];exact m
  ·rw[j k q]at h;exact R.tl k h n
 ·rcases List.mem_append.mp h with z|z
  ·exact f _<|R.wk k z
  ·rw[List.mem_singleton.mp z,xz,f9 rfl];rfl
 ·have q:k≠a:=λz=>n (by rw[z];simp);rw[j k q]at h;exact b k h<|R.dn k h λz=>n<|iw _ z
 ·obtain⟨s,o,u⟩:=R.ch;refine#[λk=>if k=a then e.length+1 else s k,λk=>?_,λk t h=>?_]
  ·rw[c];dsimp only;split
   ·exact gg _
   ·have:=o k;lia
  ·by_cases q:k=a
   ·rw[q,xz,f9 rfl]at h;injection h with h;injection h with h;subst h;have l:t0≠a:=λz=>by rw[z,d]at i;cases i
    refine#[f _ i,?_];dsimp only;rw[f9 q,gc l];have:=o t0;lia
   ·rw[j k q]at h;have g:=u k t h;have l:t≠a:=λz=>by rw[z,d]at g;cases g.1
    refine#[f _ g.1,?_];dsimp only;rw[gc q,gc l];exact g.2
def Ms(x:B0 C)(low high:Int)(k:Int)(e:List (Int×Option Int)):Prop:=(k≠low->low∉vt x (vD x k))/\∀t∈Bu x k (if k=low then high else vD x k),(lk e t).isSome=true
def QM{low high:Int}(b:zh x):Rw x low [(low,none)] [low] (Ms x low high):=by
 have a:∀k,(lk ([(low,none)]:List (Int×Option Int)) k).isSome=true->k=low:=λk h=>by have:=yV h;simpa using this
 refine#[wK q0o,λk h n=>gA (a k h) n,λk h=>wK (by simpa using h),λk h n=>gA (a k h) (by simpa using n),#[λ_=>0,λ_=>iz _,λk t h=>?_],?_]
 ·rw[wy]at h;by_cases q:low=k
  ·rw[f9 q]at h;cases h
  ·rw[gc q]at h;cases h
 ·have:=b.len;have g:Oc x [(low,none)]<=(vk x).length:=gX _ _;have e:(vk x).length=x.ht.length:=gm _;simp only[gJ]
  lia
def a1D{low:Int}(a:zh x):2*Oc x [(low,none)]+[low].length<=200:=by
 have:=a.len;have g:Oc x [(low,none)]<=(vk x).length:=gX _ _;have e:(vk x).length=x.ht.length:=gm _;simp only[gJ]
 lia
noncomputable def Ku(x:B0 C)(a:List Int):List Int:=(vk x).filter λt=>decide<|t∉a
noncomputable def cnt(x:B0 C)(a:List Int)(t:Int):Int:=((a.filter λl=>decide<|t∈Bu x l (vD x l)).length:Int)
def yf{t:Int}:t∈Ku x a↔t∈vk x/\t∉a:=by unfold Ku;rw[ik,hX]
def cnt_cons{l t:Int}:cnt x (l::a) t=cnt x a t+if t∈Bu x l (vD x l) then 1 else 0:=by
 unfold cnt;rw[iT];by_cases q:t∈Bu x l (vD x l)
 ·rw[f9<|decide_eq_true q,f9 q];simp
 ·rw[gc (by simpa using q),gc q];simp
def IR{a:List Int}{t:Int}(h:a.Perm b):cnt x a t=cnt x b t:=by unfold cnt;rw[(h.filter _).length_eq]
def Xg{t:Int}:0<=cnt x a t:=by unfold cnt;lia
def QN{t:Int}(h:cnt x a t=0):∀l∈a,t∉Bu x l (vD x l):=λl b q=>by unfold cnt at h;have:(a.filter λl=>decide<|t∈Bu x l (vD x l))=[]:=List.length_eq_zero_iff.mp q0a;have m:l∈(a.filter λl=>decide<|t∈Bu x l (vD x l)):=List.mem_filter.mpr #[b,decide_eq_true q];rw[this]at m;cases m
def Mt{t:Int}(h:cnt x a t≠0):∃l∈a,t∈Bu x l (vD x l):=by
 unfold cnt at h
 cases e:(a.filter λl=>decide<|t∈Bu x l (vD x l)) with
 |nil=>rw[e]at h;exact gA rfl h
 |cons l r =>
  have m:l∈(a.filter λl=>decide<|t∈Bu x l (vD x l)):=by rw[e];exact gk
  have:=List.mem_filter.mp m;exact#[l,this.1,jr this.2]
def Kv{a b:List Int}(h:a.Nodup)(c:b.Nodup)(s:∀k∈a,k∈b):a.length<=b.length:=by
 have p:a.Perm (b.filter λk=>decide<|k∈a):=vH h (c.filter _) λk=>by rw[ik,hX];exact#[λz=>#[s k z,z],λz=>z.2]
 rw[p.length_eq];exact gX _ _
def Mu{a:Type}{l:List (Int×a)}{k:Int}{v:a}(h:(lk l k).isSome=true):(pk l k v).map (·.1)=l.map (·.1):=by unfold pk;rw[f9 h,jR];refine mC λe _=>?_;dsimp only[tP];split<;>rfl
structure Kh(x:B0 C)(u:List (Int×Int))(ready told r2:List Int):Prop where
 ks:u.map (·.1)=vk x
 nd:(told++ready).Nodup
 st:∀t∈told++ready,t∈vk x
 ct:∀t∈vk x,lk u t=↑(cnt x (Ku x told) t+if t∈r2 then 1 else 0)
 rd:∀t∈vk x,t∉told->(t∈ready↔cnt x (Ku x told) t+(if t∈r2 then 1 else 0)=0)
 bk:∀a∈told,∀l∈vk x,l∉told->a∉Bu x l (vD x l)
 od:told.Pairwise λa b=>a∉Bu x b (vD x b)
def Uj{y:Int}(b:zh x)(c:y∈vk x)(d:y∉a):(Ku x a).Perm (y::Ku x (a++[y])):=by
 refine vH (b.nd.filter _) (List.nodup_cons.mpr #[λz=>(yf.mp z).2 q0o,b.nd.filter _]) λk=>?_;rw[yf,gO,yf,ko,lA];by_cases q:k=y
 ·subst q;exact#[λ_=>.inl rfl,λ_=>#[c,d]]
 ·simp[q]
def Kh.pop{y:Int}(n:zh x)(K:Kh x u (f++[y]) c []):Kh x u f (c++[y]) (Bu x y<|vD x y):=by
 have g:y∈vk x:=K.st y q0o;have o:=List.nodup_append.mp K.nd;have h:y∉c:=λz=>o.2.2 y z y q0o rfl;have q:=Uj n g h;have j:∀t,cnt x (Ku x c) t=cnt x (Ku x<|c++[y]) t+if t∈Bu x y (vD x y) then 1 else 0:=λt=>by rw[IR q,cnt_cons]
 have r:cnt x (Ku x c) y=0:=by have:=(K.rd y g h).mp q0o;simpa using this
 refine#[K.ks,?_,λt d=>K.st t (by simp only[ko,lA]at d ⊢;rcases d with(z|z)|z<;>simp[z]),λt d=>?_,λt d e=>?_,λa i l k e=>?_,?_]
 ·have p:(c++[y]++f).Perm (c++(f++[y])):=by rw[kE];exact nJ c lZ
  exact(p.nodup_iff).mpr K.nd
 ·rw[K.ct t d,j t];simp
 ·have s:t∉c:=λz=>e<|iw _ z;have v:t≠y:=λz=>e (by rw[z];simp);have:=K.rd t d s;rw[j t]at this;rw[ko,lA]at this;simpa[v] using this
 ·have m:l∉c:=λz=>e<|iw _ z;rcases List.mem_append.mp i with z|z
  ·exact K.bk a z l k m
  ·rw[List.mem_singleton.mp z];exact QN r l<|yf.mpr #[k,m]
 ·rw[List.pairwise_append];refine#[K.od,jh _ _,λa i b w=>?_];rw[List.mem_singleton.mp w];exact K.bk a i y g h
def Kh.step{b v:Int}(K:Kh x u ready c (b::e))(f:b∈vk x)(i:b∉c)(j:b∉e)(k:lk u b=↑v) :
  Kh x (pk u b<|v-1) (if v-1=0 then ready++[b] else ready) c e:=by
 have g:=K.ct b f;rw[k,f9 gk]at g;injection g with g
 have l:b∉ready:=λz=>by
  have:=(K.rd b f i).mp z;rw[f9 gk]at this;have:=Xg (x:=x) (a:=Ku x c) (t:=b)
  lia
 have d:∀t,t≠b->(if t∈b::e then (1:Int) else 0)=if t∈e then 1 else 0:=λt q=>by simp[q]
 refine#[(Mu<|by rw[k];rfl).trans K.ks,?_,λt h=>?_,λt h=>?_,λt h m=>?_,K.bk,K.od]
 ·split
  ·have p:(c++(ready++[b])).Perm (b::(c++ready)):=by rw[<- kE];exact lZ
   refine(p.nodup_iff).mpr<|List.nodup_cons.mpr ⟨λz=>?_,K.nd⟩;rcases List.mem_append.mp z with z|z
   ·exact i z
   ·exact l z
  ·exact K.nd
 ·by_cases q:t=b
  ·rw[q];exact f
  ·refine K.st t ?_;rcases List.mem_append.mp h with z|z
   ·exact iw _ z
   ·by_cases w:v-1=0
    ·rw[f9 w]at z;rcases List.mem_append.mp z with z|z
     ·exact gI _ z
     ·exact gA (List.mem_singleton.mp z) q
    ·rw[gc w]at z;exact gI _ z
 ·rw[xz];by_cases q:t=b
  ·rw[f9 q,q,gc j];congr 1;lia
  ·rw[gc q,K.ct t h,d t q]
 ·by_cases q:t=b
  ·rw[q,gc j];by_cases w:v-1=0
   ·rw[f9 w];exact#[λ_=>by lia,λ_=>by simp]
   ·rw[gc w];exact#[λz=>gA z l,λz=>gA q0a w]
  ·have:=K.rd t h m;rw[d t q]at this;rw[<- this];by_cases w:v-1=0
   ·rw[f9 w];simp[q]
   ·rw[gc w]
def Kh.done(f:zh x)(K:Kh x u [] a []):Ord x a:=by
 obtain⟨r,g⟩:=f.acy
 have c:∀n t,r t<=n->t∈vk x->t∈a:=by
  intro n
  induction n with
  |zero =>
   intro t i d;by_cases q:t∈a
   ·exact q
   ·have:cnt x (Ku x a) t≠0:=λz=>by have:=(K.rd t d q).mpr (by simpa using z);cases this
    obtain⟨l,b,e⟩:=Mt this;have:=g l (yf.mp b).1 t e
    lia
  |succ n j =>
   intro t i d;by_cases q:t∈a
   ·exact q
   ·have:cnt x (Ku x a) t≠0:=λz=>by have:=(K.rd t d q).mpr (by simpa using z);cases this
    obtain⟨l,b,e⟩:=Mt this;have:=g l (yf.mp b).1 t e;exact gA (j l q0a (yf.mp b).1) (yf.mp b).2
 have h:=K.nd;rw[jP]at h;exact#[vH h f.nd λk=>#[λz=>K.st k (by simpa using z),λz=>c _ k (gg _) z],K.od]
def Kh.len(b:zh x)(K:Kh x u ready a d):ready.length<=63/\a.length<=63/\u.length<=63:=by
 have e:(vk x).length=x.ht.length:=gm _;have:=b.len;have c:=Kv K.nd b.nd K.st;rw[gz]at c;have f:u.length=(vk x).length:=by rw[<- K.ks,gm]
 lia
def QO(a:zh x){l h:Int}(b:(lk x.rk h).isSome=true):(Bu x l h).Nodup:=by exact(ur (a.ok.bo h _<|Av a.ok b).1).filter _
end
def zP(C:ci):Wf (B0 C×List Int×Unit) Unit (B0 C×WL.Un×Unit):=λp a _=>(∀c∈p.2.1,vN p.1 c=false)/\a () (p.1,#[],())
section
variable{q:Cq}{C XC XS XO XB XP XV Xb XF XT XN XR XL:ci}
noncomputable abbrev B4:gV:=BF (top 31) 22
noncomputable abbrev B5:List Str:=["self","cell"]
def Kw:uq ["self","cell"] B5 (uh B4):=by walk_at "sc"
abbrev Ad(q:Cq)(C:ci)(k:Nat):=zd q C "is_tied" B5 (FC C) k
def Kx(F:yo q.K "is_tied" "Field.is_tied" B4 f g)(b:Ab q.K C)(c:Ob q.K C):Gq q 2 f g B5 (FC C):=by
 refine' uw (vV (D':=Unit) (ms:=[0]) (j:=0) F Kw rfl rfl λi A a s H E d =>
   (uk (uF (uW (YS (PZ .ht false 0 rfl b.cl c.nH (BY d) (ss 1) (pv 0)) (CT (PZ .th false 0 rfl b.cl c.nT (BY d) (ss 1) (pv 0)))))))) λp k l h=>?_
 walk_at "wl"
 have h:k ((lk p.1.ht p.2.1).isSome||(lk p.1.th p.2.1).isSome) (p.1,#[],()):=h;rw[gc gw,gc gw];by_cases e:(lk p.1.ht p.2.1).isSome=true
 ·rw[f9 e];rw[e]at h;exact h
 ·rw[gc e];rw[Bool.eq_false_iff.mpr e]at h;exact h
noncomputable abbrev xS:gV:=BF (top 31) 23
noncomputable abbrev xT:List Str:=["self","row"]
def ze:uq ["self","row","cell"] xT (uh xS):=by walk_at "sc"
abbrev Ee(q:Cq)(C:ci)(k:Nat):=zd q C "must_be_lone" xT (zP C) k
def CK(F:yo q.K "must_be_lone" "Field.must_be_lone" xS f i)(t:Ab q.K C)(a:Ad q C 2)(d:Xc q.K q.mg "NotLone" XL):Gq q 3 f i xT (zP C):=by
 refine' uw (Cp (uQ q0q) (D':=(Bd C true)×(List Int)×Un×Unit) (ms:=[0]) (j:=1) F ze rfl rfl λk A g s H E u =>
   (uk (wm (is:=[]) (mb:=[0]) (D1:=(Bd C true)×(List Int)×Int×Unit) (D2:=(Bd C true)×(List Int)×Int×Unit) (uQ q0q) yx rfl (vG (ss 1)) (uM 2 (uy ze.nd))
   (uk (uZ (tw_val (uB (vo 0 a (uj (ss 2) ug))))
   (uk<|Au rfl d)
   uN)) q0q q0q))) λp v w h=>?_
 walk_at "wl"
 obtain⟨l,m⟩:=h;refine vm (λ(r:List Int)(b:B0 C×List Int×WL.Un×Unit)=>b.1=p.1/\∀c∈r,vN p.1 c=false) _ #[rfl,l] ?_ ?_
 ·intro y r b _ e K n;show if vN b.1 y=true then _ else _;rw[gc<|by rw[e.1,e.2 y gk];decide];exact n _ ⟨e.1,λc o=>e.2 c<|gl _ o⟩
 ·intro b e;rw[e.1];exact m
noncomputable abbrev GP:gV:=BF (top 31) 24
noncomputable abbrev GQ:List Str:=["self","low","high"]
def QP:uq ["self","low","high"] GQ (uh GP):=by walk_at "sc"
def NL:(["face","low","self"]:List Str).Nodup:=by decide +kernel
abbrev Mv(q:Cq)(C:ci)(k:Nat):=zd q C "steps" GQ (GN C) k
def QQ(F:yo q.K "steps" "Field.steps" GP f r)(d:Ab q.K C)(t:Ob q.K C):Gq q 2 f r GQ (GN C):=by
 refine' uw (vV (D':=Unit) (ms:=[0]) (j:=0) F QP rfl rfl λu A g s H E i =>
   (uk (uF (wp (Ts:=["face"]) (Fr:=["low","self"]) (idx:=[1,0]) (k:=1) (mb:=[1,2]) (is:=[]) (cl:=[("self",⇑s+1),("low",⇑s+1+1)]) rfl (PU (Ac 0 d.cl d.nB (BY i) (pv 0) (vI 2 (pv 2)))) bs2 rfl (vY rfl) (λa b C l m=>(uM 0 (uy NL))) (λa b C l m=>(tws_one (tw_w (JW (tw_cm Pr (ss 0) (ss 1)) (Gg (tw_dIn .ht false 2 rfl d.cl t.nH (BY i) (ss 0) (pv 2))))))) (λa b C l m=>(ss 0)))))) λp w B h=>?_
 walk_at "wl"
 obtain⟨x,n,h⟩:=h;obtain⟨v,o⟩:=Option.isSome_iff_exists.mp x;have e:vt p.1 p.2.2.1=v:=by unfold vt;rw[o];rfl
 rw[e]at n;refine#[v,o,n,?_];refine vA (q:=λf=>decide (f≠p.2.1)&&(lk p.1.ht f).isSome) (λf D K c=>?_) ?_
 ·show if (!decide (f=p.2.1))=true then (if (if false=true then _ else (lk p.1.ht f).isSome)=true then K ↑f _ else K none _) else (if false=true then K ↑f _ else K none _);rw[gc gw,gc gw];by_cases z:f=p.2.1
  ·rw[gc<|by simp[z]];rw[gc<|by simp[z]]at c;exact c
  ·rw[f9<|by simp[z]];by_cases y:(lk p.1.ht f).isSome=true
   ·rw[f9 y];rw[f9<|by simp[z,y]]at c;exact c
   ·rw[gc y];rw[gc<|by simp[z,y]]at c;exact c
 ·have h:w #[Bu p.1 p.2.1 p.2.2.1] (p.1,#[],#[],()):=h;unfold Bu at h;rw[e]at h;exact h
noncomputable abbrev GR:gV:=BF (top 31) 17
noncomputable abbrev GS:List Str:=["self"]
def QR:uq ["self"] GS (uh GR):=by walk_at "sc"
abbrev Mw(q:Cq)(C:ci)(k:Nat):=zd q C "tails" GS (Mn C) k
def QS(F:yo q.K "tails" "Field.tails" GR f b)(c:Ab q.K C)(d:Ob q.K C)(B:Bn q.mg):Gq q 2 f b GS (Mn C):=by
 refine' uw (vV (D':=Unit) (ms:=[0]) (j:=0) F QR rfl rfl λe A a s H E k =>
   (uk (uF (DT .ht 0 rfl c.cl d.nH rfl rfl B.sorted (pv 0))))) λp l m h=>?_
 walk_at "wl"
 obtain⟨g,n,i⟩:=h;exact#[g,i]
noncomputable abbrev Ef:gV:=BF (top 31) 20
abbrev Eg:List Str:=["self"]
def NM:uq ["self"] Eg (uh Ef):=by walk_at "sc"
def Ky:(["low","self"]:List Str).Nodup:=by decide +kernel
abbrev QT(q:Cq)(C:ci)(k:Nat):=zd q C "arrows" Eg (IQ C) k
def NN(F:yo q.K "arrows" "Field.arrows" Ef f i)(m:Ab q.K C)(n:Ob q.K C)(a:Mw q C 2):Gq q 3 f i Eg (IQ C):=by
 refine' uw (vV (D':=Unit) (ms:=[0]) (j:=0) F NM rfl rfl λo A d s H E r =>
   (uk (uF (wp (Ts:=["low"]) (Fr:=["self"]) (idx:=[0]) (k:=1) (mb:=[1]) (is:=[]) (cl:=[("self",⇑s+1)]) rfl (vG (uE (Iw 0 a))) RV rfl (vY rfl) (λb c C e g=>(uM 0 (uy Ky))) (λb c C e g=>tws_nil) (λb c C e g=>(v6 (ss 0) (Gn .ht 1 rfl m.cl n.nH (BY r) (pv 1) (vI 0 (pv 0))))))))) λp z B h=>?_
 walk_at "wl"
 obtain⟨t,u,v⟩:=h;refine#[t,u,?_,?_]
 ·show (Ak<|vk p.1).length<=gh;rw[(vR _).length_eq];exact vj (by show (p.1.ht.map (·.1)).length<=1000;rw[gm];lia)
 ·refine vp (f:=λl=>↑(l,vD p.1 l)) (λl w K y=>?_) ?_
  ·exact#[_,vT (x:=p.1)<|ya.mp w,y]
  ·rw[oh];exact v
noncomputable abbrev B6:gV:=BF (top 31) 15
abbrev B7:List Str:=["self","cell"]
def Kz:uq ["self","cell"] B7 (uh B6):=by walk_at "sc"
abbrev NO(q:Cq)(C XC:ci)(k:Nat):=zd q C "head_of" B7 (FD C XC) k
def KA(F:yo q.K "head_of" "Field.head_of" B6 f c)(d:Ab q.K C)(e:Ob q.K C)(a:vZ q C XC 2):Gq q 3 f c B7 (FD C XC):=by
 refine' uw (vV (D':=Unit) (ms:=[0]) (j:=0) F Kz rfl rfl λg A b s H E i =>
   (ux (vf (uB (vo 0 a (uj (ss 1) ug))))
   (uk (uF (uW (Qv .ht 0 rfl d.cl e.nH (BY i) (pv 0) (vI 1 (pv 1)))))))) λp k l h=>?_
 walk_at "wl"
 exact h
noncomputable abbrev GU:gV:=BF (top 31) 14
noncomputable abbrev GV:List Str:=["self","low"]
def IS:uq ["self","low","high"] GV (uh GU):=by walk_at "sc"
abbrev Uk(q:Cq)(C XC XN:ci)(k:Nat):=zd q C "untie" GV (GO C XC XN) k
def QU(F:yo q.K "untie" "Field.untie" GU f k)(c:Ab q.K C)(d:Ob q.K C)(a:vZ q C XC 2)(b:Xc q.K q.mg "NotTied" XN):Gq q 3 f k GV (GO C XC XN):=by
 refine' uw (vV (D':=Unit) (ms:=[0]) (j:=1) F IS rfl rfl λl A g s H E m =>
   (ux (vf (uB (vo 0 a (uj (ss 1) ug))))
   (ux (uZ (tw_dIn .ht true 0 rfl c.cl d.nH (BY m) (ss 1) (pv 0))
   (uk<|Au rfl b)
   uN)
   (ux (uz 2 IS.nd (uW (T9 .ht 0 rfl c.cl d.nH (pv 0) (vI 1 (pv 1)))))
   (ux (L8 .th 0 rfl c.cl d.nT (pv 0) (vI 2 (pv 2)) (λn o=>FT n o))
   (uk (uF (uW (ss 2))))))))) λp u r h=>?_
 walk_at "wl"
 obtain⟨t,h⟩:=h;show if (lk p.1.rk p.2.1).isSome=true then _ else r XC (p.1,#[],());by_cases i:(lk p.1.rk p.2.1).isSome=true
 ·rw[f9 i]at h ⊢;dsimp only;rw[f9 rfl];by_cases q:(lk p.1.ht p.2.1).isSome=true
  ·rw[f9 q]at h;rw[gc<|by simp[q]];have e:=vT (x:=p.1)<|yV q;exact#[_,e,by rw[(t.ht _ _ e).2.2.2];rfl,h]
  ·rw[gc q]at h;rw[f9<|by simp[q]];exact h
 ·rw[gc i]at h ⊢;exact h
noncomputable abbrev wX:gV:=top 32
noncomputable abbrev wY:List Str:=["earlier","last"]
def v8:uq ["earlier","last","row","tail"] wY (uh wX):=by walk_at "sc"
abbrev B8(q:Cq)(k:Nat):=wx q "row_from_first" wY yB k
def Bw(F:Cv q "row_from_first" wX f n):Gq q 2 f n wY yB:=by
 refine' uw (vV (D':=Unit) (ms:=[0]) (j:=2) F v8 rfl rfl λo A b s H E r =>
   (ux (uz 2 v8.nd (uD (α:=Int) uC))
   (ux (uz 3 v8.nd (uW (yP (ss 1))))
   (ux (DV (mb:=[0]) (D2:=(Dc (Option Int))×Int×(OL Int)×(Option Int)×Unit) (uQ q0q) yx (tw_cm L0 (ss 3) JS)
   (ux (vS 2 (zw (ss 3)))
   (uk (uz 3 v8.nd (uW (DZ 0 (BY r) (pv 0) (zw (ss 3))))))) q0q)
   (uk (uF (W7 (vQ 2)))))))) λp B D h=>?_
 walk_at "wl"
 obtain⟨⟨a,t,u,w⟩,h⟩:=h;refine#[λm d=>d.1=p.1/\(match d.2.2.2.1 with|none=>d.2.2.1.l≠[]|some k=>(lk p.1.l k).isSome=true/\d.2.2.1.l.length+a k<1000)/\(match d.2.2.2.1 with|none=>0|some k=>a k+1)<=m,#[a p.2.1+1,rfl,#[u,by have:=t p.2.1;simpa using this],gg _],?_];intro m;refine a1n λG I x y J=>?_;rintro⟨rfl,c,L⟩
 cases y with
 |none =>
  rw[gc q0o];exact h _ (by simpa using c)
 |some k =>
  rw[f9 q0o];obtain⟨v,i⟩:=Option.isSome_iff_exists.mp c.1;have z:gh=16777216:=iC;refine#[k,rfl,by show x.l.length<gh;lia,k,rfl,v,i,?_]
  cases v with
  |none=>exact#[0,q0a,rfl,q0o,gg _]
  |some e =>
   have g:=w k e i;exact#[a e+1,q0a,rfl,#[g.1,by simp;lia],gg _]
noncomputable abbrev zQ:gV:=BF (top 31) 25
noncomputable abbrev zR:List Str:=["self","low","high"]
def wq:uq ["self","low","high","earlier","waiting","tail","head","later"] zR (uh zQ):=by walk_at "sc"
abbrev IT(q:Cq)(C:ci)(k:Nat):=zd q C "ring_with" zR (Cy C) k
def GY(F:yo q.K "ring_with" "Field.ring_with" zQ f fd)(ct:Ab q.K C)(cf:Ob q.K C)(a:B8 q 3)(D:Mv q C 3):Gq q 4 f fd zR (Cy C):=by
 refine' uw (vV (D':=Unit) (ms:=[0]) (j:=5) F wq rfl rfl λaf A aa s H E P =>
   (ux (uz 3 wq.nd (W5 (vI 1 (pv 1))))
   (ux (uz 4 wq.nd (uD (uo (ss 1) uC)))
   (ux (DV (mb:=[0]) (D2:=(Bd C true)×Int×Int×(Dc (Option Int))×(OL Int)×Int×Int×Un×Unit) (uQ q0q) yx (tw_trueR (vQ 4))
   (ux (uz 5 wq.nd (uW (Mh 4 (pv 4) (OE lp n6 n8 OG (pv 4)))))
   (ux (uz 6 wq.nd (uW (Qw .ht 0 rfl ct.cl cf.nH (BY P) (pv 0) (vI 5 (pv 5)) (vI 2 (pv 2)))))
   (ux (uZ (tw_w (JW (tw_cm Pr (ss 5) (ss 1)) (Gg (tw_inT (ss 1) (Ac 0 ct.cl ct.nB (BY P) (pv 0) (vI 6 (pv 6))) (by with_unfolding_all rfl)))))
   (uk<|uF<|uv a<|uA 3<|uj (ss 5) ug)
   uN)
   (uk (wm (is:=[]) (mb:=[0]) (D1:=(Bd C true)×Int×Int×(Dc (Option Int))×(OL Int)×Int×Int×Int×Unit) (D2:=(Bd C true)×Int×Int×(Dc (Option Int))×(OL Int)×Int×Int×Int×Unit) (uQ q0q) yx rfl (vG (uE (vo 0 D (uj (ss 5) (uj (ss 6) ug))))) (uM 7 (uy wq.nd))
   (uk (uZ (tw_dcNin 3 (BY P) (ss 7) (pv 3))
   (ux (Qm 3 (BY P) (pv 3) (ss 7) (yP (ss 5)))
   (uk (vS 4 (ss 7))))
   uN)) q0q q0q))))) q0q)
   (uk (uF (uD (α:=Int) uC))))))) λp Kn Ke h=>?_
 walk_at "wl"
 obtain⟨L,hh,t1,t2,h⟩:=h
 have G:p.2.1∉vk p.1:=λz=>by have:=wK z;unfold vN at t1;rw[this]at t1;cases t1
 have n0:lk p.1.ht p.2.1=none:=Mp G;refine#[λm d=>d.1=p.1/\d.2.1=p.2.1/\d.2.2.1=p.2.2.1/\Rw p.1 p.2.1 d.2.2.2.1.l d.2.2.2.2.1.l (Ms p.1 p.2.1 p.2.2.1)/\2*Oc p.1 d.2.2.2.1.l+d.2.2.2.2.1.l.length<=m/\m<=200,#[_,rfl,rfl,rfl,QM L,gg _,a1D L],?_];intro m;refine EJ λd1 d2 d3 d4 d5 d6 d7 d8 d9=>?_;rintro⟨rfl,rfl,rfl,i,i5,i6⟩;rcases sx d5.l with e|⟨ys,y,e⟩
 ·rw[gc<|by rw[e];simp];refine h [] λ_=>?_;rw[e]at i;exact Ui (V:=d4.l.map (·.1)) L G (zO.mp i.lo) (λk o n=>i.tl k (zO.mpr o) n) λk o=>#[(i.dn k (zO.mpr o) q0o).1,λt c=>zO.mp<|(i.dn k (zO.mpr o) q0o).2 t c]
 ·rw[f9<|by rw[e];simp];rw[sy]at e;refine#[ys,y,e,?_];have W:(lk d4.l y).isSome=true:=i.wk y (by rw[e];simp)
  have hd:(lk p.1.ht y).getD p.2.2.1=if y=p.2.1 then p.2.2.1 else vD p.1 y:=by
   by_cases q:y=p.2.1
   ·rw[f9 q,q,n0];rfl
   ·rw[gc q,vT<|i.tl y W q];rfl
  have M:(lk p.1.rk<|if y=p.2.1 then p.2.2.1 else vD p.1 y).isSome=true:=by
   by_cases q:y=p.2.1
   ·rw[f9 q];exact hh
   ·rw[gc q];exact L.Gb<|i.tl y W q
  rw[hd]
  have I:(y≠p.2.1->p.2.1∉vt p.1 (vD p.1 y))->GN C (p.1,y,(if y=p.2.1 then p.2.2.1 else vD p.1 y),()) (λab p'=>Gh (λx (b:B0 C×Int×Int×Dc (Option Int)×OL Int×Int×Int×WL.Un×Unit) R Kr Ke =>
    if (!(lk b.2.2.2.1.l x).isSome)=true then b.2.2.2.1.l.length<gh/\b.2.2.2.2.1.l.length<gh/\R (b.1,b.2.1,b.2.2.1,#[pk b.2.2.2.1.l x<|↑b.2.2.2.2.2.1],#[b.2.2.2.2.1.l++[x]],b.2.2.2.2.2.1,b.2.2.2.2.2.2.1,#[],b.2.2.2.2.2.2.2.2)
    else R (b.1,b.2.1,b.2.2.1,b.2.2.2.1,b.2.2.2.2.1,b.2.2.2.2.2.1,b.2.2.2.2.2.2.1,#[],b.2.2.2.2.2.2.2.2)) ab.l (p'.1,p.2.1,p.2.2.1,d4,#[ys],y,(if y=p.2.1 then p.2.2.1 else vD p.1 y),d8,d9)
    (λN=>∃m',m'<m/\N.1=p.1/\N.2.1=p.2.1/\N.2.2.1=p.2.2.1/\Rw p.1 p.2.1 N.2.2.2.1.l N.2.2.2.2.1.l (Ms p.1 p.2.1 p.2.2.1)/\2*Oc p.1 N.2.2.2.1.l+N.2.2.2.2.1.l.length<=m'/\m'<=200) Kn Ke) (λae p'=>Ke ae (p'.1,#[],#[],())):=by
   intro hy;refine#[by rw[Av L.ok M];rfl,L.bl M,?_]
   refine vm (λ(r:List Int) (b:B0 C×Int×Int×Dc (Option Int)×OL Int×Int×Int×WL.Un×Unit)=>b.1=p.1/\b.2.1=p.2.1/\b.2.2.1=p.2.2.1/\b.2.2.2.2.2.1=y/\(lk b.2.2.2.1.l y).isSome=true/\(∀t∈r,t∈vk p.1) /\
    Rw p.1 p.2.1 b.2.2.2.1.l b.2.2.2.2.1.l (λk e=>if k=y then (∀t∈Bu p.1 y (if y=p.2.1 then p.2.2.1 else vD p.1 y),(lk e t).isSome=true\/t∈r) else Ms p.1 p.2.1 p.2.2.1 k e)/\2*Oc p.1 b.2.2.2.1.l+b.2.2.2.2.1.l.length+1<=m) _ ?_ ?_ ?_
   ·refine#[rfl,rfl,rfl,rfl,W,λt c=>(wz.mp c).2.2,#[i.lo,i.tl,λk o=>i.wk k (by rw[e];exact iw _ o),λk o O=>?_,i.ch,i.sz],?_]
    ·dsimp only;by_cases q:k=y
     ·rw[f9 q];exact λt c=>.inr c
     ·rw[gc q];exact i.dn k o (by rw[e];intro z;rcases List.mem_append.mp z with z|z;exact O z;exact q<|List.mem_singleton.mp z)
    ·rw[e,gz]at i5;simp only[gJ]at i5
     lia
   ·intro S r;refine EJ λb1 b2 b3 X b5 J b7 b8 b9=>?_;rintro _ ⟨rfl,rfl,rfl,rfl,Y,j6,u,j8⟩ K hK;have T:∀t∈r,t∈vk p.1:=λt c=>j6 t (gl _ c)
    cases q:lk X.l S with
    |none =>
     rw[f9 q0o];have z:gh=16777216:=iC;have s1:=u.sz;have nn:∀(k:Int) (e':List (Int×Option Int)),(∀t,(lk e' t).isSome=true->(lk (pk e' S<|some J) t).isSome=true):=λk e' t c=>by rw[xz];split;rfl;exact c
     obtain⟨Q,u2⟩:=u.add (t0:=J) (j6 S gk) q Y λk o U=>by
      by_cases B:k=J
      ·rw[f9 B]at U ⊢;exact λt c=>(U t c).imp (nn k _ t) id
      ·rw[gc B]at U ⊢;exact#[U.1,λt c=>nn k _ t<|U.2 t c]
     refine#[by show X.l.length<gh;lia,by show b5.l.length<gh;lia,hK _ #[rfl,rfl,rfl,rfl,nn 0 _ _ Y,T,?_,?_]]
     ·refine#[Q.lo,Q.tl,Q.wk,λk o O=>?_,Q.ch,Q.sz];have g:=Q.dn k o O;by_cases B:k=J
      ·rw[f9 B]at g ⊢;intro t c;rcases g t c with w|w
       ·exact .inl w
       ·rcases List.mem_cons.mp w with w|w
        ·left;rw[w,xz,f9 rfl];rfl
        ·exact .inr w
      ·rw[gc B]at g ⊢;exact g
     ·show 2*Oc p.1 (pk X.l S<|↑J)+(b5.l++[S]).length+1<=m;rw[gz];simp only[gJ]
      lia
    |some v =>
     rw[gc q0o];refine hK _ #[rfl,rfl,rfl,rfl,Y,T,#[u.lo,u.tl,u.wk,λk o O=>?_,u.ch,u.sz],j8];have g:=u.dn k o O;by_cases B:k=J
     ·rw[f9 B]at g ⊢;intro t c;rcases g t c with w|w
      ·exact .inl w
      ·rcases List.mem_cons.mp w with w|w
       ·left;rw[w,q];rfl
       ·exact .inr w
     ·rw[gc B]at g ⊢;exact g
   ·refine EJ λb1 b2 b3 X b5 J b7 b8 b9=>?_;rintro⟨rfl,rfl,rfl,rfl,Y,_,u,j8⟩;refine#[m-1,q0a,rfl,rfl,rfl,#[u.lo,u.tl,u.wk,λk o O=>?_,u.ch,u.sz],by dsimp only at j8 ⊢;lia,q0a];have g:=u.dn k o O;by_cases B:k=J
    ·rw[f9 B]at g;subst B;exact#[hy,λt c=>(g t c).elim id λw=>gA w q0o]
    ·rw[gc B]at g;exact g
  by_cases q:y=p.2.1
  ·rw[gc (by simp[q]),gc gw];exact I λz=>gA q z
  ·rw[f9<|by simp[q]];refine#[_,Av L.ok M,?_];by_cases Z:p.2.1∈vt p.1 (if y=p.2.1 then p.2.2.1 else vD p.1 y)
   ·rw[f9<|decide_eq_true Z];obtain⟨mm,m1,m2⟩:=i.ch;refine⟨⟨mm,λk=>by have:=m1 k;have:=i.sz;lia,W,m2⟩,λr P=>h r λz=>gA z P⟩
   ·rw[gc<|by simpa using Z];exact I λ_=>by rw[gc q]at Z;exact Z
noncomputable abbrev QV:gV:=BF (top 31) 13
abbrev QW:List Str:=["self","low","high"]
def QX:uq ["self","low","high","ring"] QW (uh QV):=by walk_at "sc"
abbrev ZB(q:Cq)(C XC XF XT XR:ci)(k:Nat):=zd q C "tie" QW (QK C XC XF XT XR) k
def Xh(F:yo q.K "tie" "Field.tie" QV f D)(o:Ab q.K C)(x:Ob q.K C)(b:vZ q C XC 4)(d:Ad q C 4)(e:IT q C 4)(g:Xc q.K q.mg "NotFace" XF)(k:Xc q.K q.mg "Tied" XT)(c:XcI q.P q.w q.K q.mg q.base 3 "RingOfArrows" XR "ring"):Gq q 5 f D QW (QK C XC XF XT XR):=by
 refine' uw (Cp (uQ q0q) (D':=(Bd C true)×Int×Int×(OL Int)×Unit) (ms:=[0]) (j:=1) F QX rfl rfl λG A v s H E l =>
   (ux (vf (uB (vo 0 b (uj (ss 1) ug))))
   (ux (vf (uB (vo 0 b (uj (ss 2) ug))))
   (ux (uZ (tw_ninT (ss 1) (Ac 0 o.cl o.nB (BY l) (pv 0) (vI 2 (pv 2))) (by with_unfolding_all rfl))
   (uk<|Au rfl g)
   uN)
   (ux (uZ (tw_w (Pu (tw_val (uB (vo 0 d (uj (ss 1) ug)))) (JV (tw_val (uB (vo 0 d (uj (ss 2) ug)))))))
   (uk<|Au rfl k)
   uN)
   (ux (uz 3 QX.nd (vo 0 e (uj (ss 1) (uj (ss 2) ug))))
   (ux (uZ (tw_trueR (vQ 3))
   (uk<|W3 (i:=3) (α:=Int) rfl c l<|pv 3)
   uN)
   (ux (Go .ht 0 rfl o.cl x.nH (BY l) (pv 0) (vI 1 (pv 1)) (ss 2))
   (uk (Go .th 0 rfl o.cl x.nT (BY l) (pv 0) (vI 2 (pv 2)) (ss 1))))))))))) λp I y h=>?_
 walk_at "wl"
 obtain⟨t,h⟩:=h;show if (lk p.1.rk p.2.1).isSome=true then _ else y XC (p.1,#[],#[],());by_cases B:(lk p.1.rk p.2.1).isSome=true
 ·rw[f9 B]at h ⊢;show if (lk p.1.rk p.2.2.1).isSome=true then _ else y XC (p.1,#[],#[],());by_cases ht:(lk p.1.rk p.2.2.1).isSome=true
  ·rw[f9 ht]at h ⊢;refine#[_,Av t.ok ht,?_];by_cases u:p.2.1∈vt p.1 p.2.2.1
   ·rw[f9 u]at h;rw[gc<|by simp[u]];show if vN p.1 p.2.1=true then _ else _;by_cases m:vN p.1 p.2.1=true
    ·rw[f9<|.inl m]at h;rw[f9 m,f9 rfl];exact h
    ·rw[gc m];show if vN p.1 p.2.2.1=true then _ else _;by_cases n:vN p.1 p.2.2.1=true
     ·rw[f9<|.inr n]at h;rw[f9 n];exact h
     ·rw[gc<|λz=>z.elim m n]at h;rw[gc n];refine#[t,ht,by simpa using m,by simpa using n,λr l=>?_]
      cases r with
      |nil =>
       rw[gc q0o];have z:gh=16777216:=iC;exact#[(by show p.1.ht.length<gh;have:=t.len;lia),(by show p.1.th.length<gh;have:=t.ZA;lia),h.2<|l rfl]
      |cons a r =>
       rw[f9 q0o];exact h.1
   ·rw[gc u]at h;rw[f9<|by simp[u]];exact h
  ·rw[gc ht]at h ⊢;exact h
 ·rw[gc B]at h ⊢;exact h
noncomputable abbrev GZ:gV:=BF (top 31) 21
noncomputable abbrev G0:List Str:=["self"]
def wM:uq ["self","tail","unmet","low","high","later","ready","told"] G0 (uh GZ):=by walk_at "sc"
def NP:(["tail","unmet"]:List Str).Nodup:=by decide +kernel
abbrev Ul(q:Cq)(C:ci)(k:Nat):=zd q C "order" G0 (Mo C) k
def QY(F:yo q.K "order" "Field.order" GZ f fd)(ct:Ab q.K C)(cf:Ob q.K C)(u:QT q C 3)(n:Mv q C 3)(v:Mw q C 3):Gq q 4 f fd G0 (Mo C):=by
 refine' uw (vV (D':=Unit) (ms:=[0]) (j:=7) F wM rfl rfl λab A aa s H E U =>
   (ux (uz 2 wM.nd (NH .ht 0 rfl ct.cl cf.nH rfl (pv 0) rfl q0s rfl q0s rfl) (hx:=tX rfl))
   (ux (wm (is:=[]) (mb:=[0]) (D1:=(Bd C true)×Un×(Dc Int)×Int×Int×Un×Un×Un×Unit) (D2:=(Bd C true)×Un×(Dc Int)×Int×Int×Un×Un×Un×Unit) (uQ q0q) yx rfl (vG (uE (Iw 0 u))) (Bc 3 4 (BH rfl (vP (uy (i:=3) wM.nd) (vP (uy (i:=4) wM.nd) zU))) q0q q0q)
   (uk (wm (is:=[]) (mb:=[0]) (D1:=(Bd C true)×Un×(Dc Int)×Int×Int×Int×Un×Un×Unit) (D2:=(Bd C true)×Un×(Dc Int)×Int×Int×Int×Un×Un×Unit) (uQ q0q) yx rfl (vG (uE (vo 0 n (uj (ss 3) (uj (ss 4) ug))))) (uM 5 (uy wM.nd))
   (uk (IK 2 (BY U) (pv 2) (vI 5 (pv 5)) P0 Oh)) q0q q0q)) q0q q0q)
   (ux (Aa (Ts:=["tail"]) (Fr:=["unmet"]) (idx:=[2]) (k:=1) (mb:=[1]) (is:=[]) (cl:=[("unmet",⇑s+1)]) 6 wM.nd rfl rfl rfl q0q rfl (vG (uE (Iw 0 v))) RV rfl (vY rfl) (λJ L C ex pn=>(uM 0 (uy NP))) (λJ L C ex pn=>(tws_one (tw_cm As (DZ 1 (BY U) (pv 1) (ss 0)) um))) (λJ L C ex pn=>(ss 0)))
   (ux (uz 7 wM.nd (uD (α:=Int) uC))
   (ux (DV (mb:=[0]) (D2:=(Bd C true)×Int×(Dc Int)×Un×Un×Un×(OL Int)×(OL Int)×Unit) (uQ q0q) yx (tw_trueR (vQ 6))
   (ux (uz 1 wM.nd (uW (Mh 6 (pv 6) (OE lp n6 n8 OG (pv 6)))))
   (ux (vS 7 (ss 1))
   (uk (wm (is:=[]) (mb:=[0]) (D1:=(Bd C true)×Int×(Dc Int)×Un×Un×Int×(OL Int)×(OL Int)×Unit) (D2:=(Bd C true)×Int×(Dc Int)×Un×Un×Int×(OL Int)×(OL Int)×Unit) (uQ q0q) yx rfl (vG (uE (vo 0 n (uj (ss 1) (uj (Gn .ht 0 rfl ct.cl cf.nH (BY U) (pv 0) (vI 1 (pv 1))) ug))))) (uM 5 (uy wM.nd))
   (ux (IK 2 (BY U) (pv 2) (vI 5 (pv 5)) P0 VX)
   (uk (uZ (tw_cm As (DZ 2 (BY U) (pv 2) (ss 5)) um)
   (uk<|vS 6<|ss 5)
   uN))) q0q q0q)))) q0q)
   (uk (x9 7 (pv 7))))))))) λp Kn Ke h=>?_
 walk_at "wl"
 obtain⟨g,h⟩:=h;have sl:gh=16777216:=iC;have W:(vk p.1).length<=63:=by have e:(vk p.1).length=p.1.ht.length:=gm _;have:=g.len;lia
 have N:(Ak<|vk p.1).Nodup:=(vR _).nodup_iff.mpr g.nd;refine⟨g.len,g.nd,?_⟩;refine vm (λ(r:List (Int×Int)) (b:B0 C×WL.Un×Dc Int×WL.Un×WL.Un×WL.Un×WL.Un×WL.Un×Unit)=>b.1=p.1/\b.2.2.1.l.map (·.1)=vk p.1/\(∀e∈r,e.1∈vk p.1/\e.2=vD p.1 e.1)/\∀t∈vk p.1,lk b.2.2.1.l t=↑(cnt p.1 (Ak<|vk p.1) t-cnt p.1 (r.map (·.1)) t)) _ ?_ ?_ ?_
 ·refine#[rfl,?_,λe he=>?_,λt c=>?_]
  ·show ((List.map (λx=>x.1) p.1.ht).map λk=>(k,(0:Int))).map (·.1)=vk p.1;rw[jR];exact List.map_id' _
  ·obtain⟨l,hl,rfl⟩:=List.mem_map.mp he;exact#[ya.mp hl,rfl]
  ·have e:((Ak<|vk p.1).map λl=>(l,vD p.1 l)).map (·.1)=Ak (vk p.1):=by rw[jR];exact List.map_id' _
   rw[e,Int.sub_self];exact Mr c
 ·rintro⟨l,hd⟩ r;refine EJ λb1 b2 b3 b4 b5 b6 b7 b8 b9=>?_;rintro _ ⟨rfl,j2,j3,R⟩ K hK;have l1:l∈vk p.1/\hd=vD p.1 l:=j3 (l,hd) gk;have hl:=l1.1;have e2:=l1.2;subst e2;have o:=g.Gb hl;refine#[by rw[Av g.ok o];rfl,g.bl o,?_];refine vm (λ(B:List Int)(b:B0 C×WL.Un×Dc Int×Int×Int×WL.Un×WL.Un×WL.Un×Unit)=>b.1=p.1/\b.2.2.1.l.map (·.1)=vk p.1/\B.Nodup/\(∀t∈B,t∈vk p.1)/\∀t∈vk p.1,lk b.2.2.1.l t=↑(cnt p.1 (Ak<|vk p.1) t-cnt p.1 (r.map (·.1)) t-if t∈B then 1 else 0)) _ ?_ ?_ ?_
  ·refine#[rfl,j2,QO g o,λt c=>(wz.mp c).2.2,λt c=>?_];rw[R t c,gN,cnt_cons,<- Int.sub_sub]
  ·intro G B;refine EJ λc1 c2 O c4 c5 c6 c7 c8 c9=>?_;rintro _ ⟨rfl,D,k3,X,k5⟩ K2 I;have T:=List.nodup_cons.mp k3;have e0:=k5 G<|X G gk;have cl:O.l.length<=63:=by rw[<- gm (f:=(·.1)) (as:=O.l),D];exact W
   refine#[_,e0,by show O.l.length<gh;lia,I _ #[rfl,(Mu<|by rw[e0];rfl).trans D,T.2,λt c=>X t<|gl _ c,λt c=>?_]];rw[xz];by_cases q:t=G
   ·rw[f9 q,q,f9 gk,gc T.1];congr 1;lia
   ·rw[gc q,k5 t c];simp[q]
  ·refine EJ λc1 c2 O c4 c5 c6 c7 c8 c9=>?_;rintro⟨rfl,D,_,_,k5⟩;refine hK _ #[rfl,D,λe he=>j3 e<|gl _ he,λt c=>?_];rw[k5 t c];simp
 ·refine EJ λb1 b2 b3 b4 b5 b6 b7 b8 b9=>?_;rintro⟨rfl,j2,_,R⟩
  have R:∀t∈vk p.1,lk b3.l t=↑(cnt p.1 (vk p.1) t):=λt c=>by rw[R t c,oa,IR<|vR<|vk p.1];unfold cnt;simp
  refine#[g.len,g.nd,?_];refine#[by rw[(vR _).length_eq];lia,?_];refine vA (q:=λt=>decide<|cnt p.1 (vk p.1) t=0) (λt c K hK=>#[_,R t<|ya.mp c,hK]) ?_
  have P:Kh p.1 b3.l ((Ak<|vk p.1).filter λt=>decide<|cnt p.1 (vk p.1) t=0) [] []:=by
   have u0:Ku p.1 []=vk p.1:=by unfold Ku;simp
   refine#[j2,by rw[mw];exact N.filter _,λt c=>?_,λt c=>?_,λt c _=>?_,λa ha=>gA ha q0o,gS]
   ·rw[mw,ik]at c;exact ya.mp c.1
   ·rw[u0,R t c];simp
   ·rw[u0,ik,ya,hX];simp[c]
  refine#[λm d=>d.1=p.1/\Kh p.1 d.2.2.1.l d.2.2.2.2.2.2.1.l d.2.2.2.2.2.2.2.1.l []/\64<=m+d.2.2.2.2.2.2.2.1.l.length,#[64,rfl,P,q0o],?_];intro m;refine EJ λd1 d2 d3 d4 d5 d6 d7 Q d9=>?_;rintro⟨rfl,M,i2⟩;rcases sx d7.l with e|⟨ys,y,e⟩
  ·rw[gc<|by rw[e];simp];rw[e]at M;exact h _<|M.done g
  ·rw[f9<|by rw[e];simp];rw[sy]at e;rw[e]at M;have yt:y∈vk p.1:=M.st y q0o;have o:=g.Gb yt;have ln:=M.len g;refine⟨ys,y,e,by show Q.l.length<gh;lia,_,vT yt,by rw[Av g.ok o];rfl,g.bl o,?_⟩;have K0:=M.pop g;refine vm (λ(B:List Int)(b:B0 C×Int×Dc Int×WL.Un×WL.Un×WL.Un×OL Int×OL Int×Unit)=>b.1=p.1/\b.2.2.2.2.2.2.2.1.l=Q.l++[y]/\Kh p.1 b.2.2.1.l b.2.2.2.2.2.2.1.l (Q.l++[y]) B/\B.Nodup/\∀t∈B,t∈vk p.1/\t∉Q.l++[y]) _ ?_ ?_ ?_
   ·refine#[rfl,rfl,K0,QO g o,λt c=>#[(wz.mp c).2.2,λz=>?_]];rcases List.mem_append.mp z with z|z
    ·have yn:y∉Q.l:=λw=>(List.nodup_append.mp M.nd).2.2 y w y q0o rfl;exact M.bk t z y yt yn c
    ·exact(wz.mp c).2.1<|List.mem_singleton.mp z
   ·intro G B;refine EJ λc1 c2 O c4 c5 c6 c7 c8 c9=>?_;rintro _ ⟨rfl,Y,D,k3,X⟩ K2 I;have T:=List.nodup_cons.mp k3;have x1:=X G gk;have hv:=D.ct G x1.1;have S:=D.step x1.1 x1.2 T.1 hv;have ae:=D.len g;refine#[_,hv,by show O.l.length<gh;lia,_,by rw[xz,f9 rfl],?_];have Z:∀t∈B,t∈vk p.1/\t∉Q.l++[y]:=λt c=>X t<|gl _ c;by_cases w:(cnt p.1 (Ku p.1<|Q.l++[y]) G+if G∈G::B then 1 else 0)-1=0
    ·rw[f9<|decide_eq_true w];rw[f9 w]at S;exact#[by show c7.l.length<gh;lia,I _ #[rfl,Y,S,T.2,Z]]
    ·rw[gc<|by simpa using w];rw[gc w]at S;exact I _ #[rfl,Y,S,T.2,Z]
   ·refine EJ λc1 c2 O c4 c5 c6 c7 c8 c9=>?_;rintro⟨rfl,Y,D,_,_⟩;exact#[m-1,q0a,rfl,by rw[Y];exact D,by rw[Y,gz,gJ];lia]
end
structure IU(l:List Int):Prop where
 ri:vE l
 lt:∀c∈l,0<=c/\c<63
def IU.xr(d:IU a)(e:IU b):IU (xr a b):=#[uX d.ri,λc f=>(AJ (ur e.ri) f).elim (d.lt c)<|e.lt c]
def IU.mem(b:IU a):∀k∈a,k∈xY 0 63:=λk c=>yU (b.lt k c).1 (b.lt k c).2
def My:Wf (List Int×List Int×Unit) (OL Int) (WL.Un×WL.Un×Unit):=λp a _=>IU p.1/\IU p.2.1/\a #[xr p.1 p.2.1] (#[],#[],())
section
variable{XS:ci}
def IV(h:vE row)(k:a () (#[],())):C7 XS (row,()) a b:=#[λ_=>k,λz=>by
 rw[(wH row).mpr h]at z
 cases z]
end
section
variable{C:ci}{x:B0 C}
def zh.VA(a:zh x){c:Int}(h:(lk x.rk c).isSome=true):IU (vt x c):=#[(a.ok.bo c _<|Av a.ok h).1,(a.ok.bo c _<|Av a.ok h).2]
def Xi{t h:Int}(d:t∈f h):∀{T:List Int},T.Nodup->(∀a∈T,a≠h->t∉f a)->Sf f t T=decide (h∈T):=by
 intro e
 induction e with
 |nil=>intro _ _;exact rfl
 |cons c T b =>
  intro n k;have n:=List.nodup_cons.mp n;show xor (decide<|t∈f c) (Sf f t T)=_;rw[b n.2 λa m=>k a<|gl _ m];by_cases q:c=h
  ·subst q;simp[d,n.1]
  ·have:=k c gk q;simp[this,Ne.symm q]
def QZ(g:zh x):∀{q T acc:List Int},q.Nodup->(∀t∈q,t∈vk x)->(q.Pairwise λa b=>a∉Bu x b (vD x b))->vE T->(∀h∈T,∃t∈q,vD x t=h)->(q.foldl (AM x) (uG (vt x) T,acc)).2.Perm (acc++T):=by
 intro N
 induction N with
 |nil =>
  intro T acc _ _ _ _ n
  cases T with
  |nil=>simp
  |cons h r=>obtain⟨t,z,_⟩:=n h gk;cases z
 |cons t q p =>
  intro T acc B D s o n;have B:=List.nodup_cons.mp B;have s:=List.pairwise_cons.mp s;have F:=D t gk;have G:=(g.ht t _<|vT F).2.2.1
  have O:∀a∈vk x,∀b∈vk x,vD x a=vD x b->a=b:=λa P b G e=>by have E:=(g.ht a _<|vT P).2.2.2;have Q:=(g.ht b _<|vT G).2.2.2;rw[e,Q]at E;injection E with E;exact E.symm
  have J:∀c∈T,(vt x c).Nodup:=λc u=>by obtain⟨d,m,e⟩:=n c u;rw[<- e];exact ur (g.VA<|g.Gb<|D d m).ri
  have v:t∈uG (vt x) T↔vD x t∈T:=by
   have:=wI (f:=vt x) (x:=t) (l:=T) J;rw[Xi G (ur o) λR m S z=>?_]at this
   ·exact decide_eq_decide.mp this
   ·obtain⟨d,y,e⟩:=n R m;have L:d≠t:=λw=>S (by rw[<- e,w]);have U:d∈q:=(List.mem_cons.mp y).elim (λw=>gA w L) id;refine s.1 d U<|wz.mpr #[?_,Ne.symm L,F];rw[e];exact z
  rw[lv];unfold AM;by_cases A:vD x t∈T
  ·rw[f9<|v.mpr A];have W:vE [vD x t]:=jh _ _;have H:=g.VA (g.Gb F)
   have X:uG (vt x) [vD x t]=vt x (vD x t):=xQ (uL _ _) H.ri λk=>by rw[wI<|λc u=>by rw[List.mem_singleton.mp u];exact ur H.ri];show xor (decide<|k∈vt x (vD x t)) false=_;rw[mW]
   have M:=xG (f:=vt x) o W J (λc u=>by rw[List.mem_singleton.mp u];exact ur H.ri);rw[X]at M;rw[<- M]
   have i:∀k,k∈xr T [vD x t]↔k∈T/\k≠vD x t:=λk=>by
    rw[yi q0o,lA];by_cases z:k=vD x t
    ·subst z;simp[A]
    ·simp[z]
   have Y:=p (T:=xr T [vD x t]) (acc:=acc++[vD x t]) B.2 (λk I=>D k<|gl _ I) s.2 (uX o) λh j=>by have j:=(i h).mp j;obtain⟨d,y,e⟩:=n h j.1;refine#[d,(List.mem_cons.mp y).elim (λw=>gA (by rw[<- e,w]) j.2) id,e]
   refine Y.trans ?_;rw[kE];refine nJ acc<|vH (List.nodup_cons.mpr ⟨λz=>((i _).mp z).2 rfl,ur<|uX o⟩) (ur o) λk=>?_;show k∈vD x t::xr T [vD x t]↔_;rw[gO,i];by_cases z:k=vD x t
   ·subst z;simp[A]
   ·simp[z]
  ·rw[gc λz=>A<|v.mp z]
   exact p B.2 (λk I=>D k<|gl _ I) s.2 o λh j=>by obtain⟨d,y,e⟩:=n h j;exact#[d,(List.mem_cons.mp y).elim (λw=>gA j<|by rw[<- e,w];exact A) id,e]
def FE(h:∀c∈row,c∉vk x):∀{o:List Int},(∀t∈o,t∈vk x)->o.foldl (AM x) (row,a)=(row,a)
 | [],_=>rfl
 |t::o,k=>by
  rw[lv];have:AM x (row,a) t=(row,a):=by unfold AM;rw[gc λz=>h t z<|k t gk]
  rw[this];exact FE h λt b=>k t<|gl _ b
end
def Eh(C d a:ci):Wf (B0 C×List Int×Unit) (OL Int) (B0 C×WL.Un×Unit):=λp b c =>
 zh p.1/\IU p.2.1/\if uV p.1 p.2.1=true then (∀o,Ord p.1 o->b #[Ak (o.foldl (AM p.1) (p.2.1,[])).2] (p.1,#[],())) else c a (p.1,#[],())
def G4(C a b:ci):Wf (B0 C×Int×Unit) Unit (B0 C×WL.Un×Unit):=λp c d=>vN p.1 p.2.1=false/\GH C a b p c d
abbrev Um(q:Cq)(C a b:ci)(k:Nat):=zd q C "take" zN (G4 C a b) k
section
variable{C:ci}{x:B0 C}
def wN{x:Int}(c:vE b):decide (x∈xr a b)=xor (decide<|x∈a) (decide<|x∈b):=by have e:=yi (l:=a) (x:=x)<|ur c;by_cases p:x∈a<;>by_cases q:x∈b<;>simp[p,q,e]
def Xj(f:vE a)(d:vE b)(h:xr a b=[]):a=b:=xQ f d λx=>by have e:=wN (a:=a) (x:=x) d;rw[h]at e;generalize decide (x∈a)=p at e ⊢;generalize decide (x∈b)=q at e ⊢;cases p<;>cases q<;>simp at e<;>rfl
/-- the c of a sum -/
structure Fl{C:ci}(x:B0 C)(row h:List Int):Prop where
 ri:vE h
 hs:∀k∈h,∃t∈vk x,vD x t=k
 nt:∀t∈vk x,t∉xr row (uG (vt x) h)
 od:∃o,Ord x o
def FF(ok:zh x){h:List Int}(a:∀k∈h,∃t∈vk x,vD x t=k):∀c∈h,(vt x c).Nodup:=λc b=>by obtain⟨t,m,e⟩:=a c b;rw[<- e];exact ur (ok.VA<|ok.Gb m).ri
def Mz(d:zh x)(f:∃o,Ord x o)(g:vE h)(i:∀k∈h,∃t∈vk x,vD x t=k)(j:∀t∈vk x,t∉uG (vt x) h):h=[]:=by
 obtain⟨o,a⟩:=f
 have p:=QZ d (q:=o) (T:=h) (acc:=[]) (a.pm.nodup_iff.mpr d.nd) (λt b=>a.pm.mem_iff.mp b) a.up g λk l=>by obtain⟨t,m,e⟩:=i k l;exact#[t,a.pm.mem_iff.mpr m,e]
 rw[FE (λc n z=>j c z n) λt b=>a.pm.mem_iff.mp b]at p;exact(List.nil_perm.mp p).trans rfl
def VB(c:vE b)(d:∀k∈a,∃t∈vk x,vD x t=k)(e:∀k∈b,∃t∈vk x,vD x t=k):∀k∈xr a b,∃t∈vk x,vD x t=k:=λk f=>(AJ (ur c) f).elim (d k)<|e k
def Fl.add(d:zh x)(k:vE c)(f:Fl x e h)(g:Fl x c i):Fl x (xr e c) (xr h i):=#[uX f.ri,VB g.ri f.hs g.hs,λt j=>by
 have a:=gH<|f.nt t j;have b:=gH<|g.nt t j;rw[wN<|uL _ _]at a b;refine nL ?_;rw[wN<|uL _ _,xG f.ri g.ri (FF d f.hs)<|FF d g.hs,wN k,wN<|uL _ _];revert a b;generalize decide (t∈e)=p;generalize decide (t∈c)=q;generalize decide (t∈uG (vt x) h)=l;generalize decide (t∈uG (vt x) i)=m
 cases p<;>cases q<;>cases l<;>cases m<;>simp,f.od]
def Fl.Xk(c:zh x)(f:Fl x r d)(g:Fl x r e):d=e:=by refine Xj f.ri g.ri<|Mz c f.od (uX f.ri) (VB g.ri f.hs g.hs) λt h=>nL ?_;have a:=gH<|f.nt t h;have b:=gH<|g.nt t h;rw[wN<|uL _ _]at a b;rw[xG f.ri g.ri (FF c f.hs)<|FF c g.hs,wN<|uL _ _];revert a b;generalize decide (t∈r)=p;generalize decide (t∈uG (vt x) d)=i;generalize decide (t∈uG (vt x) e)=j;cases p<;>cases i<;>cases j<;>simp
def Uo(l:zh x):∀{q R acc:List Int},q.Nodup->(∀t∈q,t∈vk x)->(q.Pairwise λa b=>a∉Bu x b (vD x b)) ->
  ∃d,(q.foldl (AM x) (R,acc)).2=acc++d/\d.Nodup/\(∀k∈d,∃t∈q,vD x t=k)/\∀t∈q,xor (decide<|t∈R) (Sf (vt x) t d)=false:=by
 intro q
 induction q with
 |nil=>exact λ_ _ _=>#[[],(jP _).symm,lP,(λk z=>by cases z),λt z=>by cases z]
 |cons t q D =>
  intro R acc g E m;have g:=List.nodup_cons.mp g;have m:=List.pairwise_cons.mp m;have n:=E t gk;have f:∀s∈q,s∈vk x:=λs d=>E s<|gl _ d;have G:=(l.ht t _<|vT n).2.2.1;have H:=(l.VA<|l.Gb n).ri
  have F:∀{d:List Int},(∀k∈d,∃s∈q,vD x s=k)->Sf (vt x) t d=false:=λ{d} h=>by
   induction d with
   |nil=>rfl
   |cons k d r =>
    show xor (decide<|t∈vt x k) (Sf (vt x) t d)=false;rw[r λj I=>h j<|gl _ I,mW];obtain⟨s,c,e⟩:=h k gk;refine gH λz=>m.1 s c<|wz.mpr ⟨by rw[e];exact z,λw=>g.1 (by rw[w];exact c),n⟩
  by_cases o:t∈R
  ·have u:AM x (R,acc) t=(xr R<|vt x<|vD x t,acc++[vD x t]):=f9 o;rw[lv,u];obtain⟨d,v,y,i,A⟩:=D (R:=xr R<|vt x<|vD x t) (acc:=acc++[vD x t]) g.2 f m.2;refine⟨vD x t::d,by rw[v,kE];rfl,List.nodup_cons.mpr ⟨λz=>?_,y⟩,λk B=>?_,λs c=>?_⟩
   ·obtain⟨s,c,e⟩:=i _ z;have J:=(l.ht t _<|vT n).2.2.2;have p:=(l.ht s _<|vT<|f s c).2.2.2;rw[e,J]at p;injection p with p;exact g.1 (by rw[p];exact c)
   ·rcases List.mem_cons.mp B with z|z
    ·exact#[t,gk,z.symm]
    ·obtain⟨s,c,e⟩:=i k z;exact#[s,gl _ c,e]
   ·show xor (decide<|s∈R) (xor (decide<|s∈vt x (vD x t))<|Sf (vt x) s d)=false;rcases List.mem_cons.mp c with z|z
    ·rw[z,F i,decide_eq_true o,decide_eq_true G];rfl
    ·have:=A s z;rw[wN H,lR]at this;exact this
  ·have u:AM x (R,acc) t=(R,acc):=gc o;rw[lv,u];obtain⟨d,v,y,i,A⟩:=D (R:=R) (acc:=acc) g.2 f m.2;refine#[d,v,y,λk B=>?_,λs c=>?_]
   ·obtain⟨s,c,e⟩:=i k B;exact#[s,gl _ c,e]
   ·rcases List.mem_cons.mp c with z|z
    ·rw[z,F i,gH o];rfl
    ·exact A s z
def KC(b:zh x)(a:Ord x o):Fl x row (Ak (o.foldl (AM x) (row,[])).2):=by
 obtain⟨c,g,h,i,j⟩:=Uo b (q:=o) (R:=row) (acc:=[]) (a.pm.nodup_iff.mpr b.nd) (λt d=>a.pm.mem_iff.mp d) a.up;rw[g,mw]
 have f:∀k∈Ak c,∃t∈vk x,vD x t=k:=λk l=>by obtain⟨t,m,e⟩:=i k<|ya.mp l;exact#[t,a.pm.mem_iff.mp m,e]
 refine#[PR (A8 _)<|(vR c).nodup_iff.mpr h,f,λt d=>nL ?_,o,a];rw[wN<|uL _ _,wI<|FF b f,Gr<|vR c];exact j t<|a.pm.mem_iff.mpr d
end
def w_up(C:ci):Wf (B0 C×List Int×Unit) (OL Int) (B0 C×WL.Un×Unit):=λp a _ =>
 (zh p.1/\IU p.2.1/\uV p.1 p.2.1=true/\(∀c∈p.2.1,vN p.1 c=false)/\uV p.1 (uG (vt p.1) p.2.1)=true/\∀c,(lk p.1.rk c).isSome=true->0<=c/\c<63)/\∀h,Fl p.1 (uG (vt p.1) p.2.1) h->a #[xr p.2.1 h] (p.1,#[],())
def FG(C:ci):Wf (B0 C×List Int×Unit) (OL Int) (B0 C×WL.Un×Unit):=λp a _=>p.2.1.length<=1000/\a #[p.2.1.filter λc=>!vN p.1 c] (p.1,#[],())
def yj(C:ci):Wf (B0 C×List Int×Unit) (OL Int) (B0 C×WL.Un×Unit):=λp a _ =>
 (zh p.1/\IU p.2.1/\uV p.1 p.2.1=true/\(∀c∈p.2.1,vN p.1 c=false)/\uV p.1 (uG (vt p.1) p.2.1)=true/\∀c,(lk p.1.rk c).isSome=true->0<=c/\c<63) /\
  ∀h,Fl p.1 (uG (vt p.1) p.2.1) h->(uV p.1 (xr p.2.1 h)=true/\(uG (vt p.1)<|xr p.2.1 h).length<=1000)/\a ⟨(uG (vt p.1)<|xr p.2.1 h).filter λc=>!vN p.1 c⟩ (p.1,#[],())
def KD(C:ci):Wf (B0 C×List Int×Unit) (OL Int) (B0 C×WL.Un×Unit):=λp a _ =>
 (zh p.1/\IU p.2.1/\uV p.1 p.2.1=true)/\∀h,Fl p.1 p.2.1 h->(uV p.1 h=true/\IU (uG (vt p.1) h)/\(xr p.2.1<|uG (vt p.1) h).length<=1000)/\a ⟨(xr p.2.1<|uG (vt p.1) h).filter λc=>!vN p.1 c⟩ (p.1,#[],())
section
variable{q:Cq}{C XC XS XO XB XP XV Xb XF XT XN XR XL:ci}
noncomputable abbrev G6:gV:=top 18
noncomputable abbrev G7:List Str:=["one","other"]
def Q0:uq ["one","other"] G7 (uh G6):=by walk_at "sc"
abbrev G8(q:Cq)(k:Nat):=wx q "added" G7 My k
def Q1(F:Cv q "added" G6 f e)(a:wx q "must_be_sum" ["row"] (C7 XS) 2)(B:Bn q.mg):Gq q 3 f e G7 My:=by
 refine' uw (vV (D':=Unit) (ms:=[]) (j:=0) F Q0 rfl rfl λg A b s H E k =>
   (ux (vf (uB (uv a (uj (ss 0) ug))))
   (ux (vf (uB (uv a (uj (ss 1) ug))))
   (uk (uF (TR 0 1 rfl rfl B.sorted rfl B.set (pv 0) (pv 1))))))) λp l m h=>?_
 walk_at "wl"
 obtain⟨c,d,i⟩:=h;exact IV c.ri<|IV d.ri #[#[c.ri,d.ri,xY 0 63,by rw[v7];decide,c.mem,d.mem],i]
noncomputable abbrev Ei:gV:=top 21
noncomputable abbrev Ej:List Str:=["field","row"]
def xJ:uq ["field","row","rest","heads","tail","head"] Ej (uh Ei):=by walk_at "sc"
abbrev Bx(q:Cq)(C XS XC:ci)(k:Nat):=wx q "filled" Ej (Eh C XS XC) k
def NQ(F:Cv q "filled" Ei f Q)(ct:Ab q.K C)(g:G8 q 4)(a:yb q C XS XC 4)(i:Ul q C 4)(c:NO q C XC 4)(d:QJ q C XC 4)(B:Bn q.mg):Gq q 5 f Q Ej (Eh C XS XC):=by
 refine' uw (vV (D':=Unit) (ms:=[0]) (j:=4) F xJ rfl rfl λR A y s H E hr =>
   (ux (vf (uB (vo 0 a (uj (ss 1) ug))))
   (ux (uz 2 xJ.nd (LZ rfl B.list (vz (ss 1))))
   (ux (uz 3 xJ.nd (uD (α:=Int) uC))
   (ux (wm (is:=[]) (mb:=[0]) (D1:=(Bd C true)×(List Int)×(OL Int)×(OL Int)×Int×Un×Unit) (D2:=(Bd C true)×(List Int)×(OL Int)×(OL Int)×Int×Un×Unit) (uQ q0q) yx rfl (vG (uE (Iw 0 i))) (uM 4 (uy xJ.nd))
   (uk (uZ (tw_cmI YR (ss 4) (vQ 2) (by with_unfolding_all rfl))
   (LW (D':=(Bd C true)×(List Int)×(OL Int)×(OL Int)×Int×Un×Unit) (ux (uz 5 xJ.nd (vo 0 c (uj (ss 4) ug)))
   (ux (vS 3 (zw (ss 5)))
   (uk (uz 2 xJ.nd (uv g (uJ 2 (uj (uE (vo 0 d (uj (zw (ss 5)) ug))) ug))))))))
   uN)) q0q q0q)
   (uk (uF (BS rfl B.sorted (vQ 3))))))))) λp Kn L h=>?_
 walk_at "wl"
 obtain⟨n,M,h⟩:=h;show if asc p.2.1=true then (if uV p.1 p.2.1=true then _ else L XC (p.1,#[],())) else L XS (p.1,#[],());rw[f9<|(wH p.2.1).mpr M.ri];by_cases N:uV p.1 p.2.1=true
 ·rw[f9 N]at h ⊢;refine#[n,λo z=>?_]
  have S:o.length<=63:=by rw[z.pm.length_eq];have e:(vk p.1).length=p.1.ht.length:=gm _;have:=n.len;lia
  refine vm (λ(r:List Int)(b:B0 C×List Int×OL Int×OL Int×WL.Un×WL.Un×Unit)=>b.1=p.1/\IU b.2.2.1.l/\(∀t∈r,t∈vk p.1)/\b.2.2.2.1.l.length+r.length<=63/\r.foldl (AM p.1) (b.2.2.1.l,b.2.2.2.1.l)=o.foldl (AM p.1) (p.2.1,[])) _ #[rfl,M,λt D=>z.pm.mem_iff.mp D,by simpa using S,rfl] ?_ ?_
  ·intro t r;refine Y1 λT U O v W X Y=>?_;rintro _ ⟨rfl,w,G,I,m⟩ K P;have x:=G t gk;have u:∀t∈r,t∈vk p.1:=λt D=>G t<|gl _ D;rw[gK]at I;rw[lv]at m;unfold AM at m;by_cases q:t∈O.l
   ·rw[f9<|decide_eq_true q];rw[f9 q]at m;have J:=n.Gb x;have Z:(lk p.1.rk t).isSome=true:=(n.ht t _<|vT x).1;have sl:gh=16777216:=iC;show if (lk p.1.rk t).isSome=true then _ else _;rw[f9 Z];refine#[_,vT x,by show v.l.length<gh;lia,_,vT x,n.ok,?_];rw[f9 J];refine#[w,n.VA J,P _ #[rfl,w.xr<|n.VA J,u,?_,m]];rw[gz,gJ];lia
   ·rw[gc<|by simpa using q];rw[gc q]at m;exact P _ #[rfl,w,u,by show v.l.length+r.length<=63;lia,m]
  ·refine Y1 λT U O v W X Y=>?_;rintro⟨rfl,w,G,I,m⟩;have k:=h o z;rw[<- m]at k;exact#[by show v.l.length<64;simp at I;lia,k]
 ·rw[gc N]at h ⊢;exact h
noncomputable abbrev Xl:gV:=top 23
abbrev Xm:List Str:=["field","row"]
def ZC:uq ["field","row"] Xm (uh Xl):=by walk_at "sc"
abbrev Xn(q:Cq)(C:ci)(k:Nat):=wx q "up" Xm (w_up C) k
def ZD(F:Cv q "up" Xl f D)(P:Ab q.K C)(l:G8 q 6)(i:Bx q C XS XC 6)(b:yb q C XS XC 6)(a:Ee q C 6)(g:yd q C XS XC 6):Gq q 7 f D Xm (w_up C):=by
 refine' uw (vV (D':=Unit) (ms:=[0]) (j:=0) F ZC rfl rfl λG A r s H E w =>
   (ux (vf (uB (vo 0 b (uj (ss 1) ug))))
   (ux (vf (uB (vo 0 a (uj (ss 1) ug))))
   (uk (uF (uv l (uj (ss 1) (uj (uE (uv i (uA 0 (uj (uE (vo 0 g (uj (ss 1) ug))) ug)))) ug)))))))) λp Q x h=>?_
 walk_at "wl"
 obtain⟨⟨n,y,u,I,J,w⟩,L⟩:=h;have z:asc p.2.1=true:=(wH p.2.1).mpr y.ri;show if asc p.2.1=true then (if uV p.1 p.2.1=true then _ else x XC (p.1,#[],())) else x XS (p.1,#[],());rw[f9 z,f9 u];refine#[I,n.ok,?_];rw[f9 z,f9 u];have B:∀c∈p.2.1,(lk p.1.rk c).isSome=true:=λc M=>List.all_eq_true.mp u c M;refine#[n,#[uL _ _,λd N=>?_],?_]
 ·obtain⟨c,m,q⟩:=yA (λc m=>ur (n.VA<|B c m).ri) N;exact(n.VA<|B c m).lt d q
 ·show if uV p.1 (uG (vt p.1) p.2.1)=true then _ else _;rw[f9 J];intro o O;have f:=KC n (row:=uG (vt p.1) p.2.1) O;refine#[y,#[f.ri,λk v=>?_],L _ f];obtain⟨t,m,e⟩:=f.hs k v;rw[<- e];exact w _<|n.Gb m
noncomputable abbrev B9:gV:=top 25
abbrev Ca:List Str:=["field","row"]
def KG:uq ["field","row"] Ca (uh B9):=by walk_at "sc"
def IY:(["cell","field"]:List Str).Nodup:=by decide +kernel
abbrev FH(q:Cq)(C:ci)(k:Nat):=wx q "lone_of" Ca (FG C) k
def KH(F:Cv q "lone_of" B9 f m)(v:Ab q.K C)(a:Ad q C 3):Gq q 4 f m Ca (FG C):=by
 refine' uw (vV (D':=Unit) (ms:=[0]) (j:=0) F KG rfl rfl λn A e s H E o =>
   (uk (uF (wp (Ts:=["cell"]) (Fr:=["field"]) (idx:=[0]) (k:=1) (mb:=[1]) (is:=[]) (cl:=[("field",⇑s+1)]) rfl (vG (ss 1)) RV rfl (vY rfl) (λb d C g l=>(uM 0 (uy (i:=0) IY rfl (lV rfl)) q0q)) (λb d C g l=>(tws_one (tw_not (tw_val (uB (vo 1 a (uj (ss 0) ug) (hr:=o) (hx:=Y3))))))) (λb d C g l=>(ss 0)))))) λp w x h=>?_
 walk_at "wl"
 obtain⟨r,t⟩:=h;exact#[vj r,vA (q:=λc=>!vN p.1 c) (λk _ K u=>u) t]
noncomputable abbrev yk:gV:=top 24
noncomputable abbrev ym:List Str:=["field","row"]
def Ek:uq ["field","row"] ym (uh yk):=by walk_at "sc"
abbrev Aw(q:Cq)(C:ci)(k:Nat):=wx q "slim_border" ym (yj C) k
def El(F:Cv q "slim_border" yk f l)(y:Ab q.K C)(b:FH q C 8)(c:Xn q C 8)(a:yd q C XS XC 8):Gq q 9 f l ym (yj C):=by
 refine' uw (vV (D':=Unit) (ms:=[0]) (j:=0) F Ek rfl rfl λm A d s H E e =>
   (uk (uF (uv b (uA 0 (uj (uE (vo 0 a (uj (uE (uv c (uA 0 (uj (ss 1) ug)))) ug))) ug)))))) λp z g h=>?_
 walk_at "wl"
 obtain⟨⟨i,k,n,o,r,e⟩,t⟩:=h;refine#[#[i,k,n,o,r,e],λh f=>?_];obtain⟨⟨u,v⟩,w⟩:=t h f;have x:asc (xr p.2.1 h)=true:=(wH _).mpr<|uX k.ri;refine#[i.ok,?_];show if asc (xr p.2.1 h)=true then (if uV p.1 (xr p.2.1 h)=true then _ else g XC (p.1,#[],())) else g XS (p.1,#[],());rw[f9 x,f9 u];exact#[v,w]
abbrev KI:gV:=top 22
abbrev KJ:List Str:=["field","row"]
def Uq:uq ["field","row"] KJ (uh KI):=by walk_at "sc"
abbrev Q2(q:Cq)(C:ci)(k:Nat):=wx q "down" KJ (KD C) k
def Ur(F:Cv q "down" KI f l)(z:Ab q.K C)(b:FH q C 8)(d:G8 q 8)(c:Bx q C XS XC 8)(a:yd q C XS XC 8):Gq q 9 f l KJ (KD C):=by
 refine' uw (vV (D':=Unit) (ms:=[0]) (j:=0) F Uq rfl rfl λm A e s H E B =>
   (uk (uF (uv b (uA 0 (uj (uE (uv d (uj (ss 1) (uj (uE (vo 0 a (uj (uE (uv c (uA 0 (uj (ss 1) ug)))) ug))) ug)))) ug)))))) λp D i h=>?_
 walk_at "wl"
 obtain⟨⟨g,k,n⟩,r⟩:=h;refine#[g,k,?_];show if uV p.1 p.2.1=true then _ else _;rw[f9 n];intro o t;have f:=KC g (row:=p.2.1) t;obtain⟨⟨u,v,w⟩,x⟩:=r _ f;have y:=(wH _).mpr f.ri;refine#[g.ok,?_];show if asc (Ak (o.foldl (AM p.1) (p.2.1,[])).2)=true then (if uV p.1 (Ak (o.foldl (AM p.1) (p.2.1,[])).2)=true then _ else i XC (p.1,#[],())) else i XS (p.1,#[],());rw[f9 y,f9 u];exact#[k,v,w,x]
end
noncomputable abbrev KL:gV:=top 39
abbrev xU:=Vt
abbrev RW:=Option<|Int×List Int
noncomputable def rowAt(a:List RW)(k:Int):RW:=if 0<=k then (a[k.toNat]?).join else none
noncomputable def eb(a:List RW)(k:Int):List Int:=((rowAt a k).map (·.2)).getD []
structure Vr(rows:List RW):Prop where
 ok:∀k r e,rowAt rows k=↑(r,e)->0<=r/\r<=12/\vE e/\(∀c∈e,c<k/\∃e',rowAt rows c=↑(r-1,e'))/\uG (eb rows) e=[]
 ln:rows.length<=60
 sm:∀k r e,rowAt rows k=↑(r,e)->∀c∈e,c<35
def Lp(a:List RW)(q:Int×List Int):Prop:=vE q.2/\(∀c∈q.2,∃e,rowAt a c=↑(q.1,e))/\uG (eb a) q.2=[]
noncomputable def CA(a:List RW):List Int:=(xY 0 a.length).filter λk=>(rowAt a k).isSome
noncomputable def BE:List RW:=[↑(0,[]),↑(0,[]),↑(0,[]),↑(0,[]),↑(1,[0,1]),↑(1,[0,2]),↑(1,[0,3]),↑(1,[1,2]),↑(1,[1,3]),↑(1,[2,3]),↑(2,[4,5,7]),↑(2,[4,6,8]),↑(2,[5,6,9]),↑(2,[7,8,9]),↑(3,[10,11,12,13])]
def G9:Wf (Bg×Unit) Int (Bg×Unit):=λp a _=>∀r,0<=r->r<=12->a r (#[],())
def Hc:Wf (List Int×List Int×Unit) (OL Int) (WL.Un×WL.Un×Unit):=λp a _=>(p.1.length<=1000/\p.2.1.length<=1000/\(p.1.filter λk=>!decide (k∈p.2.1)).length+(p.2.1.filter λk=>!decide (k∈p.1)).length<64)/\a #[jn p.1 p.2.1] (#[],#[],())
def KN:Wf (List RW×Unit) (OL Int) (WL.Un×Unit):=λp a _=>p.1.length<1000/\a #[CA p.1] (#[],())
def KO:Wf (Bg×List Int×Unit) (OL Int) (Bg×WL.Un×Unit):=λp a _=>p.2.1.length<60/\∀l,vE l->(∀x∈l,x∈p.2.1)->a #[l] (#[],#[],())
def KP:Wf (List RW×List Int×Unit) (OL Int) (WL.Un×WL.Un×Unit):=λp a _=>Vr p.1/\(∀c∈p.2.1,(rowAt p.1 c).isSome=true)/\a #[uG (eb p.1) p.2.1] (#[],#[],())
def MA:Wf (Int×Unit) Bool (WL.Un×Unit):=λp a _=>a true (#[],())
def Q3:Wf (List Int×Unit) Bool (WL.Un×Unit):=λp a _=>a true (#[],())
def KQ:Wf (List Int×List Int×Unit) Bool (WL.Un×WL.Un×Unit):=λp a _=>a (decide<|p.1=p.2.1) (#[],#[],())
def MB:Wf (Int×Unit) (OL RW) (WL.Un×Unit):=λp a _=>0<=p.1/\a #[BE.take p.1.toNat] (#[],())
def Ae:Wf (OL RW×OL (Int×List Int)×Int×Bg×Unit) (OL Int) (OL RW×OL (Int×List Int)×WL.Un×Bg×Unit):=λp a _ =>
 Vr p.1.l/\p.1.l.length<=34/\p.2.1.l.length<=100/\(∀q∈p.2.1.l,Lp p.1.l q)/\0<=p.2.2.1/\p.2.2.1<=12 /\
 ∀e q,Vr (p.1.l++[↑(p.2.2.1,e)])->(∀u∈p.2.1.l++q,Lp (p.1.l++[↑(p.2.2.1,e)]) u)->q.length<=1->a #[e] (p.1,#[p.2.1.l++q],#[],#[],())
def Q4:Wf (Bg×Int×Unit) (OL RW) (Bg×WL.Un×Unit):=λp b _=>(0<=p.2.1/\p.2.1<=20)/\∀a,Vr a->a.length<=35->b #[a] (#[],#[],())
structure xt{C:ci}(x:B0 C)(rows:List RW):Prop where
 up:x.up=rows.length
 rk:∀k,lk x.rk k=(rowAt rows k).map (·.1)
 bd:∀k,lk x.bd k=(rowAt rows k).map (·.2)
 ks:x.rk.map (·.1)=CA rows
 lb:x.bd.length<=rows.length
def Q5(C:ci):Wf (B0 C×List RW×Unit) (B0 C) (WL.Un×WL.Un×Unit):=λp a _=>p.1=#[[],[],0,[],[]]/\Vr p.2.1/\∀x:B0 C,xt x p.2.1->x.ht=[]->x.th=[]->a x (#[],#[],())
def xV{b:Type}{l:List b}{i:Int}(c:0<=i)(d:i<(l.length:Int)):∃x,EB l i=↑x/\l[i.toNat]?=↑x/\x∈l:=by
 have a:i.toNat<l.length:=by lia
 have e:l[i.toNat]?=↑l[i.toNat]:=iU a;have:=LM e;rw[show ((i.toNat:Nat):Int)=i by lia]at this;exact#[_,this,e,tZ a]
def MC{n k:Int}(h:k∈xY 0 n):0<=k/\k<n:=by
 unfold xY at h;obtain⟨i,a,e⟩:=List.mem_map.mp h;have:=List.mem_range.mp a
 lia
def uH{k:Int}(h:rowAt rows k=↑y):0<=k/\k<(rows.length:Int)/\rows[k.toNat]?=↑(some y)/\EB rows k=↑(some y):=by
 unfold rowAt at h;by_cases a:0<=k
 ·rw[f9 a]at h
  cases e:rows[k.toNat]? with
  |none=>rw[e]at h;cases h
  |some z =>
   rw[e]at h;have h:z=↑y:=h;subst h;have f:=(List.getElem?_eq_some_iff.mp e).1;have b:k<(rows.length:Int):=by omega
   obtain⟨x,d,c,_⟩:=xV a b;rw[e]at c;cases c;exact#[a,b,rfl,d]
 ·rw[gc a]at h;cases h
def Em{k:Int}(a:0<=k)(e:rows[k.toNat]?=↑z):rowAt rows k=z:=by unfold rowAt;rw[f9 a,e];rfl
def Vr.Hd(v:Vr rows){k:Int}(h:rowAt rows k=↑y):vE y.2/\∀x∈y.2,x∈xY 0 35:=by obtain⟨_,_,b,c,_⟩:=v.ok k y.1 y.2 h;refine#[b,λx a=>?_];obtain⟨_,f,d⟩:=c x a;obtain⟨e,g,_⟩:=uH d;exact yU e<|v.sm k y.1 y.2 h x a
def ww{k:Int}(h:rowAt rows k=↑y):eb rows k=y.2:=by unfold eb;rw[h];rfl
def Xo(a:List b){n:Int}(h:0<=n):EH a none ↑n=a.take n.toNat:=by unfold EH;rw[show ↑n=some ((n.toNat:Nat):Int) by rw[show ((n.toNat:Nat):Int)=n by lia],HT.LH,HT.HV];simp
def v0{n:Int}(a:0<n)(b:n<1073741824)(h:∀r,0<=r->r<n->c r (#[],#[],())):xU (g,n,()) c d:=#[a,b,h]
def vr:rowAt (rows++[z]) (rows.length:Int)=z:=by refine Em q0a ?_;rw[kH,jo<|gg _,pZ];rfl
def vL{a:List RW}{k:Int}(h:k≠(a.length:Int)):rowAt (a++[z]) k=rowAt a k:=by
 unfold rowAt;by_cases b:0<=k
 ·rw[f9 b,f9 b];by_cases c:k.toNat<a.length
  ·rw[kW c]
  ·rw[jL (by rw[gz,gJ];lia),jL q0a]
 ·rw[gc b,gc b]
def He{a:List RW}{k:Int}(h:k≠(a.length:Int)):eb (a++[z]) k=eb a k:=by unfold eb;rw[vL h]
def xn{k:Int}(h:rowAt rows k=↑y):k≠(rows.length:Int):=λz=>by
 have:=(uH h).2.1
 lia
def Hf(v:Vr rows)(p:rows.length<=35)(m:∀r e,z=↑(r,e)->0<=r/\r<=12/\vE e/\(∀c∈e,∃g,rowAt rows c=↑(r-1,g))/\uG (eb rows) e=[]):Vr (rows++[z]):=by
 refine#[λk r e h=>?_,by rw[gz,gJ];lia,λk r e h c n=>?_]
 rotate_left
 ·by_cases q:k=(rows.length:Int)
  ·rw[q,vr]at h;obtain⟨g,i⟩:=(m r e h).2.2.2.1 c n;have:=(uH i).2.1
   lia
  ·rw[vL q]at h;exact v.sm k r e h c n
 have j:∀{k r e},0<=r/\r<=12/\vE e/\(∀c∈e,c<k/\∃g,rowAt rows c=↑(r-1,g))/\uG (eb rows) e=[]->0<=r/\r<=12/\vE e/\(∀c∈e,c<k/\∃g,rowAt (rows++[z]) c=↑(r-1,g))/\uG (eb<|rows++[z]) e=[]:=λ{k r e} ⟨a,b,c,d,f⟩=>by
  refine#[a,b,c,λx l=>?_,?_]
  ·obtain⟨o,g,i⟩:=d x l;exact#[o,g,by rw[vL<|xn i];exact i]
  ·rw[<- f];refine vq λx l=>?_;obtain⟨_,g,i⟩:=d x l;exact He<|xn i
 by_cases q:k=(rows.length:Int)
 ·rw[q,vr]at h;obtain⟨a,b,c,d,f⟩:=m r e h;refine j #[a,b,c,λx l=>?_,f];obtain⟨g,i⟩:=d x l;exact#[by have:=(uH i).2.1;lia,g,i]
 ·rw[vL q]at h;exact j<|v.ok k r e h
def Eo(h:Lp rows u):Lp (rows++[z]) u:=by
 obtain⟨a,b,c⟩:=h;refine#[a,λx d=>?_,?_]
 ·obtain⟨e,q⟩:=b x d;exact#[e,by rw[vL<|xn q];exact q]
 ·rw[<- c];refine vq λx d=>?_;obtain⟨e,q⟩:=b x d;exact He<|xn q
def Q6{r:Int}:Lp (rows++[↑(r,[])]) (r,[(rows.length:Int)]):=by
 refine#[jh _ _,λx a=>#[[],?_],?_]
 ·rw[List.mem_singleton.mp a,vr]
 ·show xr [] (eb (rows++[↑(r,[])]) (rows.length:Int))=[];rw[ww (y:=(r,[])) vr];rfl
def Us(h:vE e):xr e e=[]:=CW (uX h) gS λk=>by rw[yi<|ur h];by_cases q:k∈e<;>simp[q]
def NR{c:Int}:uG f (l++[c])=xr (uG f l) (f c):=by unfold uG Oa;rw[jy,List.foldl_append];rfl
def NS{r:Int}(v:Vr rows)(p:vE l)(h:∀c∈l,∃e,rowAt rows c=↑(r,e)) :
  (∀c∈uG (eb rows) l,∃n,rowAt rows c=↑(r-1,n))/\uG (eb rows) (uG (eb rows) l)=[]/\Lp (rows++[↑(r,uG (eb rows) l)]) (r,l++[(rows.length:Int)]):=by
 have m:∀c∈l,vE (eb rows c)/\(∀d∈eb rows c,∃n,rowAt rows d=↑(r-1,n))/\uG (eb rows) (eb rows c)=[]:=λc i=>by obtain⟨e,j⟩:=h c i;obtain⟨_,_,a,b,f⟩:=v.ok c r e j;rw[ww j];exact#[a,λd k=>(b d k).2,f]
 have s:∀{d q},rowAt rows d=↑q->(eb rows d).Nodup:=λ{d q} k=>by rw[ww k];exact ur (v.Hd k).1
 refine#[λc i=>?_,Fp λc i=>#[(m c i).1,λd k=>?_,(m c i).2.2],?_,λx o=>?_,?_]
 ·obtain⟨d,k,o⟩:=yA (λc i=>ur (m c i).1) i;exact(m d k).2.1 c o
 ·obtain⟨n,q⟩:=(m c i).2.1 d k;exact s q
 ·refine List.pairwise_append.mpr #[p,jh _ _,λa t b u=>?_];obtain⟨e,j⟩:=h a t;rw[List.mem_singleton.mp u];exact(uH j).2.1
 ·rcases List.mem_append.mp o with z|z
  ·obtain⟨e,j⟩:=h x z;exact#[e,by rw[vL<|xn j];exact j]
  ·rw[List.mem_singleton.mp z];exact#[_,vr]
 ·show uG _ (l++[(rows.length:Int)])=[];rw[NR,ww (y:=(r,uG (eb rows) l)) vr,vq (g:=eb rows) λc i=>?_]
  ·exact Us<|uL _ _
  ·obtain⟨e,j⟩:=h c i;exact He<|xn j
def Lp.sub{a:List RW}(c:a.length<=35)(h:Lp a u):∀x∈u.2,x∈xY 0 35:=λx b=>by obtain⟨e,q⟩:=h.2.1 x b;have:=uH q;exact yU q0a q0a
def w9{k:Int}:k∈CA rows↔(rowAt rows k).isSome=true:=by unfold CA;rw[ik];refine#[λh=>h.2,λh=>#[?_,h]];obtain⟨y,a⟩:=Option.isSome_iff_exists.mp h;have:=uH a;exact yU this.1 this.2.1
def wA(a:List RW):(CA a).length<=a.length:=by
 have:=gX (λk=>(rowAt a k).isSome)<|xY 0 a.length;rw[v7]at this;unfold CA
 lia
def MD(c:List RW):vE (CA c):=by
 refine gU _ ?_;unfold xY;rw[List.pairwise_map];refine oo ?_<|rO;intro a b h
 lia
def Q7(n:Nat):xY 0 ((n+1:Nat):Int)=xY 0 (n:Int)++[(n:Int)]:=by unfold xY;rw[show (((n+1:Nat):Int)-0).toNat=n+1 by lia,show ((n:Int)-0).toNat=n by lia,List.range_succ,jy];simp
def Ut:CA (rows++[z])=CA rows++if z.isSome=true then [(rows.length:Int)] else []:=by
 unfold CA;rw[gz,gJ,Q7,List.filter_append];congr 1
 ·refine kF λk a=>?_;rw[vL (by have:=MC a;lia)]
 ·rw[iT,vr];rfl
def Q8:CA (rows++[↑y])=CA rows++[(rows.length:Int)]:=Ut
def FJ{a:List RW}{k:Int}(h:(a.length:Int)<=k):rowAt a k=none:=by
 cases e:rowAt a k with
 |none=>rfl
 |some y=>have:=(uH e).2.1;omega
def Cb{a:List RW}{j k:Int}(c:0<=j):rowAt (a.set j.toNat none) k=if k=j then none else rowAt a k:=by
 by_cases q:k=j
 ·rw[f9 q,q];unfold rowAt;rw[f9 c];by_cases d:j.toNat<a.length
  ·rw[n9 d];rfl
  ·rw[jL<|by rw[lu];lia];rfl
 ·rw[gc q];unfold rowAt;by_cases b:0<=k
  ·rw[f9 b,f9 b,mq q0a]
  ·rw[gc b,gc b]
def Q9{a:List RW}{j:Int}(b:0<=j):CA (a.set j.toNat none)=(CA a).filter λk=>!decide (k=j):=by unfold CA;rw[lu,List.filter_filter];refine kF λk _=>?_;rw[Cb b];by_cases q:k=j<;>simp[q]
section
variable{C XC XS XO XB XP XV:ci}{x:B0 C}{rows:List RW}
def xt.lr(c:xt x rows):x.rk.length<=rows.length:=by have:=congrArg ng c.ks;rw[gm]at this;rw[this];exact wA rows
def xt.okb(c:xt x rows)(v:Vr rows):QC x:=by
 have l:=v.ln;have g:=c.lr;have i:=c.lb;refine#[λk h=>?_,λk b h=>?_,by rw[c.ks];exact(MD rows).imp Int.le_of_lt,q0a,q0a]
 ·rw[c.rk,ic]at h;rw[c.bd,ic];exact h
 ·rw[c.bd]at h
  cases e:rowAt rows k with
  |none=>rw[e]at h;cases h
  |some y =>
   rw[e]at h;cases h;obtain⟨_,_,a,b,_⟩:=v.ok k y.1 y.2 e;refine#[a,λd f=>?_];obtain⟨j,q⟩:=(b d f).2;have:=uH q;exact#[this.1,by have:=v.sm k y.1 y.2 e d f;lia]
def xt.vt(c:xt x rows)(k:Int):vt x k=eb rows k:=by unfold K7.vt eb;rw[c.bd]
def xt.put(c:xt x rows){r:Int}:xt ({ x with rk:=pk x.rk x.up r,bd:=pk x.bd x.up e,up:=x.up+1}:B0 C) (rows++[↑(r,e)]):=by
 have n:rowAt rows x.up=none:=FJ (by rw[c.up];exact nC _);have a:lk x.rk x.up=none:=by rw[c.rk,n];rfl
 have b:lk x.bd x.up=none:=by rw[c.bd,n];rfl
 have d:=c.lr;have f:=c.lb;refine#[?_,λk=>?_,λk=>?_,?_,?_]
 ·show x.up+1=_;rw[c.up,gz,gJ]
  lia
 ·show lk (pk x.rk x.up r) k=_;rw[yY a,Kt a];by_cases q:k=x.up
  ·rw[f9 q,q,c.up,vr];rfl
  ·rw[gc q,vL (by rw[<- c.up];exact q),c.rk]
 ·show lk (pk x.bd x.up e) k=_;rw[yY b,Kt b];by_cases q:k=x.up
  ·rw[f9 q,q,c.up,vr];rfl
  ·rw[gc q,vL (by rw[<- c.up];exact q),c.bd]
 ·show (pk x.rk x.up r).map (·.1)=_;rw[yY a,jy,c.ks,Q8,<- c.up];rfl
 ·show (pk x.bd x.up e).length<=_;rw[yY b,gz,gz,gJ,gJ]
  lia
def xt.take(c:xt x rows){j:Int}(a:0<=j):xt ({ x with rk:=dk x.rk j,bd:=dk x.bd j}:B0 C) (rows.set j.toNat none):=by
 have d:=c.lr;have b:=c.lb;refine#[by rw[lu];exact c.up,λk=>?_,λk=>?_,?_,?_]
 ·show lk (dk x.rk j) k=_;rw[Bv,Cb a,c.rk];split<;>rfl
 ·show lk (dk x.bd j) k=_;rw[Bv,Cb a,c.bd];split<;>rfl
 ·show (dk x.rk j).map (·.1)=_;rw[Q9 a,<- c.ks];unfold dk;rw[qu];congr 1;refine kF λe _=>?_;by_cases q:e.1=j<;>simp[q]
 ·rw[lu];exact gW (gX _ _) b
def xt.uV(c:xt x rows)(h:∀k∈row,(rowAt rows k).isSome=true):uV x row=true:=List.all_eq_true.mpr λk a=>by rw[c.rk,ic];exact h k a
def Rc{r:Int}(c:xt x rows)(v:Vr rows)(l:0<=r)(m:r<=12)(i:vE e)(g:∀d∈e,∃b,rowAt rows d=↑(r-1,b))(j:uG (eb rows) e=[])
 (k:∀a:B0 C,xt a (rows++[↑(r,e)])->a.ht=x.ht->a.th=x.th->h x.up (a,#[],#[],())):IM C XB XS XC XO XP (x,r,e,()) h o:=by
  have n:rowAt rows x.up=none:=FJ (by rw[c.up];exact nC _)
  refine#[c.okb v,(by show lk x.bd x.up=none;rw[c.bd,n];rfl),?_]
  show if r<0\/12<r then _ else if asc e=true then (if K7.uV x e=true then (if Ub x e (r-1)=true then (if Oa (e.map<|K7.vt x)=[] then h x.up _ else _) else _) else _) else _
  rw[gc q0a,f9<|(wH e).mpr i,f9 (c.uV λd f=>by obtain⟨b,q⟩:=g d f;rw[q];rfl),f9,f9]
  · exact k _ c.put rfl rfl
  · rw[mC λd _ => c.vt d]
    exact j
  · refine List.all_eq_true.mpr λd f => decide_eq_true ?_
    obtain⟨b,q⟩:=g d f
    rw[c.rk,q]
    rfl
def ME(c:xt x rows){j h:Int}:h∈Xa x j↔(rowAt rows h).isSome=true/\j∈eb rows h:=by
 unfold Xa;rw[ik,hX,c.vt];constructor
 ·rintro⟨a,b⟩;have:=wK a;rw[c.rk,ic]at this;exact#[this,b]
 ·rintro⟨a,b⟩;exact#[yV (by rw[c.rk,ic];exact a),b]
def Uu(c:xt x rows){j:Int}:Xa x j=[]↔∀h,j∉eb rows h:=by
 rw[List.eq_nil_iff_forall_not_mem];constructor
 ·intro z h a;refine z h ((ME c).mpr #[?_,a])
  cases e:rowAt rows h with
  |none=>unfold eb at a;rw[e]at a;cases a
  |some y=>rfl
 ·intro z h a;exact z h ((ME c).mp a).2
def Uv{j:Int}(c:xt x rows)(v:Vr rows)(b:(rowAt rows j).isSome=true)(e:∀h,j∉eb rows h)(f:vN x j=false)
 (k:∀a:B0 C,xt a (rows.set j.toNat none)->a.ht=x.ht->a.th=x.th->d () (a,#[],())):G4 C XC XV (x,j,()) d i:=by
  refine#[f,c.okb v,?_]
  show if (lk x.rk j).isSome=true then (if Xa x j=[] then d () _ else _) else _
  rw[f9 (by rw[c.rk,ic];exact b),f9<|(Uu c).mpr e]
  obtain⟨y,g⟩:=Option.isSome_iff_exists.mp b
  exact k _ (c.take (uH g).1) rfl rfl
end
def wZ{a:List RW}{n:Nat}{j:Int}:rowAt (a.take n) j=if j<(n:Int) then rowAt a j else none:=by
 unfold rowAt;by_cases b:0<=j
 ·rw[f9 b,f9 b,sV];by_cases c:j<(n:Int)
  ·rw[f9 c,f9 q0d]
  ·rw[gc c,gc q0d];rfl
 ·rw[gc b,gc b];split<;>rfl
def Uw(v:Vr rows)(n:Nat):Vr (rows.take n):=by
 refine#[λk r e h=>?_,gW (List.length_take_le' _ _) v.ln,λk r e h=>?_]
 rotate_left
 ·rw[wZ]at h;split at h
  ·exact v.sm k r e h
  ·cases h
 rw[wZ]at h;by_cases q:k<(n:Int)
 ·rw[f9 q]at h;obtain⟨a,b,c,d,f⟩:=v.ok k r e h;refine#[a,b,c,λx g=>#[(d x g).1,?_],?_]
  ·obtain⟨l,i,j⟩:=d x g;exact#[i,by rw[wZ,f9 q0a];exact j]
  ·rw[<- f];refine vq λx g=>?_;have:=(d x g).1;unfold eb;rw[wZ,f9 q0a]
 ·rw[gc q]at h;cases h
noncomputable def ZE(a:List RW)(u:Int×List Int):Bool:=asc u.2&&u.2.all (λc=>decide ((rowAt a c).map (·.1)=↑u.1))&&decide (uG (eb a) u.2=[])
def MF{c r:Int}(h:(rowAt rows c).map (·.1)=↑r):∃e,rowAt rows c=↑(r,e):=by
 cases e:rowAt rows c with
 |none=>rw[e]at h;cases h
 |some y=>rw[e]at h;cases h;exact#[y.2,rfl]
def Re(h:ZE rows u=true):Lp rows u:=by unfold ZE at h;rw[hR,hR]at h;exact#[(wH _).mp h.1.1,λc a=>MF<|jr<|List.all_eq_true.mp h.1.2 c a,jr h.2]
noncomputable def VrB(rows:List RW):Bool:=decide (rows.length<=27)&&(gL rows.length).all λk=>match rowAt rows (k:Int) with
 |none=>true
 |some (r,e)=>decide (0<=r)&&decide (r<=12)&&asc e&&e.all (λc=>decide (c<(k:Int))&&decide ((rowAt rows c).map (·.1)=↑(r-1)))&&decide (uG (eb rows) e=[])
def Rf(h:VrB rows=true):Vr rows:=by
 unfold VrB at h;rw[hR]at h;have f:=jr h.1
 suffices g:∀k r e,rowAt rows k=↑(r,e)->0<=r/\r<=12/\vE e/\(∀c∈e,c<k/\∃d,rowAt rows c=↑(r-1,d))/\uG (eb rows) e=[] from#[g,q0d,λk r e a c b=>by
  have:=((g k r e a).2.2.2.1 c b).1;have:=uH a
  omega]
 intro k r e a;have q:=uH a;have z:=List.all_eq_true.mp h.2 k.toNat<|List.mem_range.mpr q0d;rw[show ((k.toNat:Nat):Int)=k by omega,a]at z;simp only[hR,hX,nQ]at z;exact⟨z.1.1.1.1,z.1.1.1.2,(wH _).mp z.1.1.2,λc b=>#[(z.1.2 c b).1,MF (z.1.2 c b).2],z.2⟩
noncomputable def X3(n:Nat):List (Int×List Int):=(xY 0 n).filterMap λk=>if decide (k<4)=true then some (0,[k]) else none
noncomputable def lp1:List (Int×List Int):=[(1,[4,5,7]),(1,[4,6,8]),(1,[5,6,9])]
noncomputable def chk(m:Nat):Bool:=VrB (BE.take m)&&(X3 (BE.take m).length).all (ZE<|BE.take m)&&decide ((X3 (BE.take m).length).length<=4)&&decide ((BE.take m).length<=15)&&(decide ((BE.take m).length<=9)||lp1.all (ZE<|BE.take m))
def Ux:(gL 16).all chk=true:=by decide +kernel
def KR(c:vE a)(d:vE b)(f:∀k∈a,k∈xY 0 35)(g:∀k∈b,k∈xY 0 35):a.length<=1000/\b.length<=1000/\(a.filter λk=>!decide (k∈b)).length+(b.filter λk=>!decide (k∈a)).length<64:=by
 have i:=vK c f;have j:=vK d g;have h:=SX.yu ((a.filter λk=>!decide (k∈b))++b.filter λk=>!decide (k∈a)) (xY 0 35) (List.nodup_append.mpr #[(ur c).filter _,(ur d).filter _,λx l y m e=>?_]) λk n=>?_
 ·rw[gz]at h;rw[v7]at i j h
  lia
 ·have q:=(List.mem_filter.mp l).2;rw[e]at q;simp[(List.mem_filter.mp m).1]at q
 ·rcases List.mem_append.mp n with z|z
  ·exact f k (List.mem_filter.mp z).1
  ·exact g k (List.mem_filter.mp z).1
def Uy{a b:List Int}(h:a.length+b.length<64):a.length<=1000/\b.length<=1000/\(a.filter λk=>!decide (k∈b)).length+(b.filter λk=>!decide (k∈a)).length<64:=by
 have c:=gX (λk=>!decide (k∈b)) a;have d:=gX (λk=>!decide (k∈a)) b
 lia
def C9(e:a=b)(k:c true (#[],#[],())):KQ (a,b,()) c d:=by show c (decide<|a=b) _;rw[decide_eq_true e];exact k
def ZF(v:Vr rows)(n:rows.length<=59):Vr (rows++[↑(0,[])]):=by
 refine#[λk r e h=>?_,by rw[gz,gJ];lia,λk r e h c j=>?_]
 ·by_cases q:k=(rows.length:Int)
  ·rw[q,vr]at h;cases h;exact#[nC 0,q0q,gS,(λ_ z=>by cases z),rfl]
  ·rw[vL q]at h;obtain⟨a,b,c,d,f⟩:=v.ok k r e h;refine#[a,b,c,λx i=>?_,?_]
   ·obtain⟨m,l,g⟩:=d x i;exact#[m,l,by rw[vL<|xn g];exact g]
   ·rw[<- f];refine vq λx i=>?_;obtain⟨_,l,g⟩:=d x i;exact He<|xn g
 ·by_cases q:k=(rows.length:Int)
  ·rw[q,vr]at h;cases h;cases j
  ·rw[vL q]at h;exact v.sm k r e h c j
def Uz:xt (#[[],[],0,[],[]]:B0 C) []:=by
 have n:∀k,rowAt [] k=none:=λk=>by unfold rowAt;split<;>rfl
 exact#[rfl,(λk=>by rw[n];rfl),(λk=>by rw[n];rfl),rfl,gg _]
structure Arr{C:ci}(x:B0 C)(a:List (Int×Int)):Prop where
 ok:zh x
 nt:(x.th.map (·.1)).Nodup
 pm:(a.map (·.1)).Perm (vk x)
 hd:∀e∈a,vD x e.1=e.2
def Rh(C:ci):Wf (B0 C×List RW×Bg×Int×Unit) (OL<|Int×Int) (B0 C×WL.Un×Bg×WL.Un×Unit):=λp b _ =>
 xt p.1 p.2.1/\Vr p.2.1/\p.2.1.length<=35/\p.1.ht=[]/\p.1.th=[]/\(0<=p.2.2.2.1/\p.2.2.2.1<=1000)/\∀x a,xt x p.2.1->Arr x a->b #[a] (x,#[],#[],#[],())
def MG(C:ci):Wf (Bg×Int×Unit) (T3 (B0 C) (OL RW)<|OL<|Int×Int) (Bg×WL.Un×Unit):=λp c _ =>
 (0<=p.2.1/\p.2.1<=20)/\∀x b a,xt x b->Vr b->b.length<=35->Arr x a->c #[x,#[b],#[a]] (#[],#[],())
def Hg:Wf (List (Int×Int)×Unit) (OL Int) (WL.Un×Unit):=λp a _=>p.1.length<64/\a #[Ak (p.1.map (·.2))] (#[],())
noncomputable def Ep(b:List RW)(a:List (Int×Int)):List Int:=(CA b).filter λk=>!decide (k∈a.map (·.1)++Ak (a.map (·.2)))
def Er:Wf (List (Int×Int)×Unit) (OL Int) (WL.Un×Unit):=λp a _=>p.1.length<64/\a #[p.1.map (·.1)] (#[],())
def KS:Wf (List RW×List (Int×Int)×Unit) (OL Int) (WL.Un×WL.Un×Unit):=λp a _=>p.1.length<1000/\p.2.1.length<64/\a #[Ep p.1 p.2.1] (#[],#[],())
def w_sum:Wf (List Int×Unit) Bool (WL.Un×Unit):=λp a _=>vE p.1/\p.1.length<=1000/\a true (#[],())
def Ri:Wf (List Int×List Int×Unit) (OL Int) (WL.Un×WL.Un×Unit):=λp a _=>p.1.length<=1000/\a #[p.1.filter λk=>decide<|k∈p.2.1] (#[],#[],())
def a1H(h:vE l){k:Int}(p:1<=k)(c:k<l.length):∃a b,EB l (k-1)=↑a/\EB l k=↑b/\a<b:=by obtain⟨a,d,e,_⟩:=xV (l:=l) (i:=k-1) q0a q0a;obtain⟨b,f,g,_⟩:=xV (l:=l) (i:=k) q0a c;obtain⟨j,m⟩:=List.getElem?_eq_some_iff.mp e;obtain⟨n,o⟩:=List.getElem?_eq_some_iff.mp g;refine#[a,b,d,f,?_];rw[<- m,<- o];exact(List.pairwise_iff_getElem.mp h) _ _ j n q0a
def a1I(k:a true (#[],())):Q3 (l,()) a b:=k
def ZG{n k:Int}(h:k∈xY 1 n):1<=k/\k<n:=by unfold xY at h;obtain⟨i,a,e⟩:=List.mem_map.mp h;have:=List.mem_range.mp a;omega
def wQ:∀{l:List b} {i:Nat},l[i]?=↑y->(y::l.eraseIdx i).Perm l
 | [],i,h=>by simp at h
 |a::l,0,h=>by
  have h:a=y:=by simpa using h
  rw[h];exact .refl _
 |a::l,i+1,h=>by rw[nM];exact(List.Perm.swap a y _).trans<|(wQ<|by simpa using h).cons a
def Dd{a:Type}{l:List (Int×a)}{k:Int}:(dk l k).map (·.1)=(l.map (·.1)).filter λj=>decide (j≠k):=by unfold dk;rw[qu];rfl
section
variable{C:ci}{x:B0 C}{rows:List RW}{a:List (Int×Int)}
def zh.ZH(b:zh x){l:Int}(n:l∈vk x):zh ({ x with ht:=dk x.ht l,th:=dk x.th (vD x l)}:B0 C):=by
 have o:∀{t:Int},t∈vk ({ x with ht:=dk x.ht l,th:=dk x.th (vD x l)}:B0 C)↔t∈vk x/\t≠l:=λ{t}=>by show t∈(dk x.ht l).map (·.1)↔_;rw[Dd,ik,hX];exact Iff.rfl
 refine#[#[b.ok.kb,b.ok.bo,b.ok.ri,b.ok.lr,b.ok.lb],?_,?_,?_,λd f e=>?_,λd f e=>?_,λc h i=>?_,?_]
 ·show ((dk x.ht l).map (·.1)).Nodup;rw[Dd];exact b.nd.filter _
 ·exact i8 (gX _ _) b.len
 ·exact i8 (gX _ _) b.ZA
 ·have e:lk (dk x.ht l) d=↑f:=e;rw[Bv]at e;by_cases q:d=l
  ·rw[f9 q]at e;cases e
  ·rw[gc q]at e;have g:=b.ht d f e;refine#[g.1,g.2.1,g.2.2.1,?_];show lk (dk x.th<|vD x l) f=some d;rw[Bv,gc λz=>?_]
   ·exact g.2.2.2
   ·have:=(b.ht l _<|vT n).2.2.2;rw[<- z,g.2.2.2]at this;injection this with this;exact q this
 ·have e:lk (dk x.th<|vD x l) f=↑d:=e;rw[Bv]at e;by_cases q:f=vD x l
  ·rw[f9 q]at e;cases e
  ·rw[gc q]at e;have g:=b.th d f e;show lk (dk x.ht l) d=↑f;rw[Bv,gc λz=>?_]
   ·exact g
   ·rw[z,vT n]at g;injection g with g;exact q g.symm
 ·have h:(lk (dk x.ht l) c).isSome=true:=h;have i:(lk (dk x.th<|vD x l) c).isSome=true:=i;rw[Bv]at h i;refine b.one c ?_ ?_
  ·by_cases q:c=l
   ·rw[f9 q]at h;cases h
   ·rw[gc q]at h;exact h
  ·by_cases q:c=vD x l
   ·rw[f9 q]at i;cases i
   ·rw[gc q]at i;exact i
 ·obtain⟨r,p⟩:=b.acy;refine#[r,λk m t j=>?_];have m:=o.mp m
  have s:vD ({ x with ht:=dk x.ht l,th:=dk x.th (vD x l)}:B0 C) k=vD x k:=by unfold vD;show (lk (dk x.ht l) k).getD 0=_;rw[Bv,gc m.2]
  rw[s]at j;have j:=wz.mp j;exact p k m.1 t<|wz.mpr #[j.1,j.2.1,(o.mp j.2.2).1]
def zh.Ey(d:zh x){low high:Int}(w:(lk x.rk low).isSome=true)(y:(lk x.rk high).isSome=true)(f:low∈vt x high)(A:vN x low=false)(B:vN x high=false)(D:low≠high)(ac:X2 (Ey x low high))(E:x.ht.length+1<64)(F:x.th.length+1<64):zh (Ey x low high):=by
 have p:=Bool.or_eq_false_iff.mp A;have r:=Bool.or_eq_false_iff.mp B;have o:lk x.ht low=none:=by simpa using p.1
 have G:lk x.th low=none:=by simpa using p.2
 have H:lk x.ht high=none:=by simpa using r.1
 have s:lk x.th high=none:=by simpa using r.2
 have t:(K7.Ey x low high).ht=x.ht++[(low,high)]:=yY o;have I:(K7.Ey x low high).th=x.th++[(high,low)]:=yY s;have j:∀k,lk (K7.Ey x low high).ht k=if k=low then some high else lk x.ht k:=λk=>xz;have l:∀k,lk (K7.Ey x low high).th k=if k=high then some low else lk x.th k:=λk=>xz;refine#[#[d.ok.kb,d.ok.bo,d.ok.ri,d.ok.lr,d.ok.lb],?_,by rw[t];simpa using E,by rw[I];simpa using F,λm n e=>?_,λm n e=>?_,λc h i=>?_,ac]
 ·show ((K7.Ey x low high).ht.map (·.1)).Nodup;rw[t,jy];refine List.nodup_append.mpr #[d.nd,q0o,λa u b f z=>?_];have f:b=low:=by simpa using f
  rw[z,f]at u;have:=wK u;rw[o]at this;cases this
 ·rw[j]at e;by_cases q:m=low
  ·rw[f9 q]at e;injection e with e;subst e;subst q;exact#[w,y,f,by rw[l,f9 rfl]]
  ·rw[gc q]at e;have g:=d.ht m n e;refine#[g.1,g.2.1,g.2.2.1,?_];rw[l,gc λz=>?_]
   ·exact g.2.2.2
   ·rw[z,s]at g;cases g.2.2.2
 ·rw[l]at e;by_cases q:n=high
  ·rw[f9 q]at e;injection e with e;subst e;subst q;rw[j,f9 rfl]
  ·rw[gc q]at e;have g:=d.th m n e;rw[j,gc λz=>?_]
   ·exact g
   ·rw[z,o]at g;cases g
 ·rw[j]at h;rw[l]at i;by_cases q:c=low
  ·rw[gc λz=>D<|q.symm.trans z,q,G]at i;cases i
  ·rw[gc q]at h;by_cases v:c=high
   ·rw[v,H]at h;cases h
   ·rw[gc v]at i;exact d.one c h i
def xt.same(c:xt x rows){y:B0 C}(b:y.rk=x.rk)(d:y.bd=x.bd)(e:y.up=x.up):xt y rows:=by obtain⟨f,g,h,i,j⟩:=c;exact#[e.trans f,by rw[b];exact g,by rw[d];exact h,by rw[b];exact i,by rw[d];exact j]
def Arr.mem(A:Arr x a)(h:e∈a):e.1∈vk x:=A.pm.mem_iff.mp<|List.mem_map.mpr #[e,h,rfl]
def Arr.pop(A:Arr x a){i:Nat}(h:a[i]?=↑y):Arr ({ x with ht:=dk x.ht y.1,th:=dk x.th (vD x y.1)}:B0 C) (a.eraseIdx i):=by
 have b:(y::a.eraseIdx i).Perm a:=wQ h;have g:y∈a:=b.mem_iff.mp gk;have j:=A.mem g
 have d:(y.1::(a.eraseIdx i).map (·.1)).Perm (vk x):=by
  have:=(b.map (λe:Int×Int=>e.1)).trans A.pm
  rwa [gN]at this
 have c:=List.nodup_cons.mp<|d.nodup_iff.mpr A.ok.nd;refine⟨A.ok.ZH j,?_,?_,λe f=>?_⟩
 ·show ((dk x.th<|vD x y.1).map (·.1)).Nodup;rw[Dd];exact A.nt.filter _
 ·show ((a.eraseIdx i).map (·.1)).Perm ((dk x.ht y.1).map (·.1));rw[Dd];refine vH c.2 (A.ok.nd.filter _) λk=>?_;rw[ik,hX];have:=d.mem_iff (a:=k);rw[gO]at this;constructor
  ·exact λz=>#[this.mp<|.inr z,λw=>c.1<|w▸z]
  ·exact λz=>(this.mpr z.1).elim (λw=>gA w z.2) id
 ·have l:e∈a:=b.mem_iff.mp<|gl _ f;have m:e.1≠y.1:=λz=>c.1<|z▸List.mem_map.mpr #[e,f,rfl];show (lk (dk x.ht y.1) e.1).getD 0=e.2;rw[Bv,gc m];exact A.hd e l
def Arr.UA(A:Arr x a)(c:xt x rows)(v:rows.length<=35):x.ht.length<=35/\x.th.length<=35/\a.length<=35:=by
 have i:=c.lr;have d:(x.rk.map (·.1)).Nodup:=by rw[c.ks];exact ur<|MD rows
 have g:(vk x).length<=(x.rk.map (·.1)).length:=Kv A.ok.nd d λk b=>yV (A.ok.ht k _<|vT b).1
 have f:(x.th.map (·.1)).length<=(x.rk.map (·.1)).length:=Kv A.nt d λk b=>by obtain⟨l,e⟩:=Option.isSome_iff_exists.mp<|wK b;exact yV (A.ok.ht l k<|A.ok.th l k e).2.1
 have h:=A.pm.length_eq;have e:(vk x).length=x.ht.length:=gm _;rw[gm]at g f h;rw[gm]at f
 lia
def Arr.add(A:Arr x a)(c:xt x rows)(v:rows.length<=35){low high:Int}(k:(lk x.rk low).isSome=true)(l:(lk x.rk high).isSome=true)(d:low∈vt x high)(f:vN x low=false)(g:vN x high=false)(m:low≠high)(ac:X2 (Ey x low high)):Arr (Ey x low high) (a++[(low,high)]):=by
 have q:=A.UA c v;have h:lk x.ht low=none:=by simpa using(Bool.or_eq_false_iff.mp f).1
 have i:lk x.th high=none:=by simpa using(Bool.or_eq_false_iff.mp g).2
 have n:(K7.Ey x low high).ht=x.ht++[(low,high)]:=yY h;have o:(K7.Ey x low high).th=x.th++[(high,low)]:=yY i;refine#[A.ok.Ey k l d f g m ac q0a q0a,?_,?_,λe p=>?_]
 ·rw[o,jy];refine List.nodup_append.mpr #[A.nt,q0o,λa j b d z=>?_];have d:b=high:=by simpa using d
  rw[z,d]at j;have:=wK j;rw[i]at this;cases this
 ·show ((a++[(low,high)]).map (·.1)).Perm ((K7.Ey x low high).ht.map (·.1));rw[n,jy,jy];exact A.pm.append_right _
 ·show (lk (pk x.ht low high) e.1).getD 0=e.2;rw[xz];rcases List.mem_append.mp p with z|z
  ·have:e.1≠low:=λw=>by have:=wK<|A.mem z;rw[w,h]at this;cases this
   rw[gc this];exact A.hd e z
  ·have z:e=(low,high):=by simpa using z
   rw[z,f9 rfl];rfl
def Rj(v:Vr rows){k:Int}(d:rowAt rows k=↑y):y.2.length<=95:=by
 have b:=v.ok k y.1 y.2 d
 have:=vK (U:=CA rows) b.2.2.1 λc e=>by obtain⟨_,g,f⟩:=b.2.2.2.1 c e;exact w9.mpr (by rw[f];rfl)
 have h:=wA rows;have i:=v.ln
 lia
def UB(i:QC x)(b:x.ht=[])(d:x.th=[]):Arr x []:=by
 have f:vk x=[]:=by unfold vk;rw[b];rfl
 refine#[#[i,by rw[f];exact lP,by rw[b];decide,by rw[d];decide,λl h e=>?_,λl h e=>?_,λc e=>?_,λ_=>0,λl g=>?_],by rw[d];exact lP,by rw[f];exact .refl _,λe j=>by cases j]
 ·rw[b]at e;cases e
 ·rw[d]at e;cases e
 ·rw[b]at e;cases e
 ·rw[f]at g;cases g
def Rl{i:Nat}(A:Arr x a)(c:xt x rows)(h:a[i]?=↑y)(k:∀v (b:B0 C),xt b rows->Arr b (a.eraseIdx i)->d v (b,#[],())):GO C g j (x,y.1,()) d l:=by have f:=A.mem<|jg h;have e:=vT f;refine#[A.ok,?_];show if (lk x.rk y.1).isSome=true then (if (lk x.ht y.1).isSome=true then d (vD x y.1) _ else _) else _;rw[f9 (A.ok.ht _ _ e).1,f9<|by rw[e];rfl];exact k _ _ (c.same rfl rfl rfl)<|A.pop h
def Xp{n:ci}{low high:Int}(A:Arr x a)(c:xt x rows)(v:Vr rows)(o:rows.length<=35)(b:rowAt rows high=↑y)(h:low∈y.2)
 (i:∀D∈[d,e],f D (x,#[],#[],()))(k:∀g:B0 C,xt g rows->Arr g (a++[(low,high)])->p () (g,#[],#[],())):QK C B n d e (x,low,high,()) p f:=by
  have r:=v.ok high y.1 y.2 b
  obtain⟨s,E,u⟩:=r.2.2.2.1 low h
  have j:(lk x.rk low).isSome=true:=by rw[c.rk,u];rfl
  have l:(lk x.rk high).isSome=true:=by rw[c.rk,b];rfl
  have m:low∈K7.vt x high:=by rw[c.vt,ww b];exact h
  refine#[A.ok,?_]
  show if (lk x.rk low).isSome=true then (if (lk x.rk high).isSome=true then (if low∈K7.vt x high then (if vN x low=true\/vN x high=true then f d _ else f e _/\_) else _) else _) else _
  rw[f9 j,f9 l,f9 m]
  by_cases t:vN x low=true\/vN x high=true
  · rw[f9 t]; exact i d q0o
  · rw[gc t]
    have w:vN x low=false:=by cases q:vN x low with|true=>exact gA (.inl q) t|false=>rfl
    have z:vN x high=false:=by cases q:vN x high with|true=>exact gA (.inr q) t|false=>rfl
    exact#[i e q0o,λac=>k _ (c.same rfl rfl rfl)<|A.add c o j l m w z (Int.ne_of_lt s) ac]
end
section
variable{q:Cq}{C XC XS XO XB XP XV Xb XF XT XN XR XL:ci}
noncomputable abbrev KU:gV:=top 41
noncomputable abbrev KW:List Str:=["_law_bag_here"]
def UC:uq ["_law_bag_here"] KW (uh KU):=by walk_at "sc"
abbrev Xq(q:Cq)(k:Nat):=wx q "_law_rank" KW G9 k
def UD(F:Cv q "_law_rank" KU f g)(a:wx q "_law_pull" ["_law_bag_here","_law_many"] xU 1):Gq q 2 f g KW G9:=by
 refine' uw (vV (D':=Unit) (ms:=[0]) (j:=0) F UC rfl rfl λi A c s H E n =>
   (ux (uZ (tw_cm As (uB (uv a (uA 0 (uj um ug)))) um)
   (uk<|uF<|uv a<|uA 0<|uj um ug)
   uN)
   (uk (uF (uW (zc (vz (uE (uD (uo um (uo um (uo um (uo um (uo um (uo um (uo um (uo um uC))))))))))) (uB (uv a (uA 0 (uj um ug)))))))))) λp k o h=>?_
 walk_at "wl"
 have h:∀r,0<=r->r<=12->k r (#[],()):=h;refine v0 q0q q0q λr t u=>?_
 try dsimp only
 by_cases q:r=11
 ·rw[f9<|decide_eq_true q];refine v0 q0q q0q λs d b=>h s d ?_;have b:s<13:=b
  lia
 ·rw[gc<|by simpa using q];refine v0 q0q q0q λs d b=>?_;have b:s<8:=b;obtain⟨x,m,_,e⟩:=xV (l:=[(0:Int),0,1,1,1,2,2,3]) d (by simpa using b);refine#[x,m,h x ?_ ?_]
  ·simp at e;lia
  ·simp at e;lia
noncomputable abbrev KY:gV:=top 34
noncomputable abbrev KZ:List Str:=["_law_one","_law_other"]
def MH:uq ["_law_one","_law_other","_law_left"] KZ (uh KY):=by walk_at "sc"
def Rm:(["_law_x","_law_other"]:List Str).Nodup:=by decide +kernel
def Rn:(["_law_x","_law_one"]:List Str).Nodup:=by decide +kernel
abbrev Hh(q:Cq)(k:Nat):=wx q "_law_join" KZ Hc k
def UE(F:Cv q "_law_join" KY f i)(B:Bn q.mg):Gq q 2 f i KZ Hc:=by
 refine' uw (vV (D':=Unit) (ms:=[]) (j:=1) F MH rfl rfl λl A e s H E n =>
   (ux (Aa (Ts:=["_law_x"]) (Fr:=["_law_other"]) (idx:=[1]) (k:=1) (mb:=[1]) (is:=[]) (cl:=[("_law_other",⇑s+1+1)]) 2 MH.nd rfl rfl rfl q0q rfl (vG (ss 0)) RV rfl (vY rfl) (λa b C c d=>(uM 0 (uy Rm))) (λa b C c d=>(tws_one (tw_cmI DH (ss 0) (vz (ss 1)) (by with_unfolding_all rfl)))) (λa b C c d=>(ss 0)))
   (uk (uF (BS rfl B.sorted (vz (uE (AI (vQ 2) (vz (uE (wp (Ts:=["_law_x"]) (Fr:=["_law_one"]) (idx:=[0]) (k:=1) (mb:=[1]) (is:=[]) (cl:=[("_law_one",⇑s+1)]) rfl (vG (ss 1)) RV rfl (vY rfl) (λa b C c d=>(uM 0 (uy Rn))) (λa b C c d=>(tws_one (tw_cmI DH (ss 0) (vz (ss 1)) (by with_unfolding_all rfl)))) (λa b C c d=>(ss 0))))))))))))) λp o r h=>?_
 walk_at "wl"
 obtain⟨⟨t,u,v⟩,m⟩:=h;refine#[vj q0d,vA (q:=λk=>!decide (k∈p.2.1)) (λk _ K g=>g) ?_];refine#[vj (show p.2.1.length<=1000 by omega),vA (q:=λk=>!decide (k∈p.1)) (λk _ K g=>g) ?_];have w:=gX (λk=>!decide (k∈p.2.1)) p.1;have x:=gX (λk=>!decide (k∈p.1)) p.2.1;refine#[vj ?_,?_,m]
 ·show (p.1.filter λk=>!decide (k∈p.2.1)).length+(p.2.1.filter λk=>!decide (k∈p.1)).length<=1000;omega
 ·rw[gz];show (p.1.filter λk=>!decide (k∈p.2.1)).length+(p.2.1.filter λk=>!decide (k∈p.1)).length<64;omega
noncomputable abbrev K3:gV:=top 42
noncomputable abbrev K4:List Str:=["_law_rows_here"]
def UF:uq ["_law_rows_here"] K4 (uh K3):=by walk_at "sc"
def Ro:(["_law_k","_law_rows_here"]:List Str).Nodup:=by decide +kernel
abbrev Hi(q:Cq)(k:Nat):=wx q "_law_here" K4 KN k
def UG(F:Cv q "_law_here" K3 f n)(B:Bn q.mg):Gq q 2 f n K4 KN:=by
 refine' uw (vV (D':=Unit) (ms:=[]) (j:=0) F UF rfl rfl λo A c s H E w =>
   (uk (uF (wp (Ts:=["_law_k"]) (Fr:=["_law_rows_here"]) (idx:=[0]) (k:=1) (mb:=[1]) (is:=[]) (cl:=[("_law_rows_here",⇑s+1)]) rfl (wS rfl B.range (xO rfl B.len (vz (ss 0)))) RV rfl (vY rfl) (λa b C g i=>(uM 0 (uy Ro))) (λa b C g i=>(tws_one (tw_cm L0 (zc (vz (ss 1)) (ss 0)) JS))) (λa b C g i=>(ss 0)))))) λp z D h=>?_
 walk_at "wl"
 obtain⟨G,r⟩:=h;refine#[#[q0a,q0a],?_,vA (q:=λk=>(rowAt p.1 k).isSome) (λk d K e=>?_) r]
 ·rw[v7];exact vj q0a
 ·obtain⟨m,t⟩:=MC d;obtain⟨x,u,v,_⟩:=xV (l:=p.1) m t;rw[Em m v]at e;refine#[x,u,?_]
  cases x with
  |none=>exact e
  |some y=>exact e
noncomputable abbrev K5:gV:=top 43
noncomputable abbrev K6:List Str:=["_law_bag_here","_law_row_here"]
def Af:uq ["_law_bag_here","_law_row_here","_law_found","_law_count","_law_k"] K6 (uh K5):=by walk_at "sc"
abbrev Rp(q:Cq)(k:Nat):=wx q "_law_some" K6 KO k
def UH(F:Cv q "_law_some" K5 f O)(a:wx q "_law_pull" ["_law_bag_here","_law_many"] xU 2)(d:Hh q 2)(B:Bn q.mg):Gq q 3 f O K6 KO:=by
 refine' uw (vV (D':=Unit) (ms:=[0]) (j:=3) F Af rfl rfl λP A v s H E Q =>
   (ux (uz 2 Af.nd (uD (α:=Int) uC))
   (ux (uZ (tw_cmL (DG Q.units) (vz (ss 1)) (vz (uE (uD (α:=Int) uC))))
   (uk<|x9 2<|pv 2)
   uN)
   (ux (uz 3 Af.nd (uv a (uA 0 (uj um ug))))
   (ux (uZ (tw_cm As (ss 3) um)
   (uk<|uz 3 Af.nd<|uW<|Pl AC (uB<|uv a<|uA 0<|uj um ug)<|xO rfl B.len<|vz<|ss 1)
   uN)
   (ux (wm (is:=[]) (mb:=[0]) (D1:=Bg×(List Int)×(OL Int)×Int×Int×Unit) (D2:=Bg×(List Int)×(OL Int)×Int×Int×Unit) (uQ q0q) yx rfl (wS rfl B.range (ss 3)) (uM 4 (uy Af.nd))
   (uk (uz 2 Af.nd (uv d (uJ 2 (uj (uE (uD (uo (zc (vz (ss 1)) (uB (uv a (uA 0 (uj (xO rfl B.len (vz (ss 1))) ug))))) uC))) ug))))) q0q q0q)
   (uk (x9 2 (pv 2))))))))) λp J o h=>?_
 walk_at "wl"
 obtain⟨Y,L⟩:=h;by_cases w:p.2.1=[]
 ·rw[f9<|decide_eq_true w];exact L [] gS λ_ z=>by cases z
 rw[gc<|by simpa using w]
 have D:0<(p.2.1.length:Int):=by
  have:=List.length_pos_iff.mpr w
  lia
 have g:∀(n c:Int),Gh (λ(x:Int)(b:Bg×List Int×OL Int×Int×WL.Un×Unit) G (Z:OL Int->Bg×WL.Un×Unit->Prop) o=>xU (b.1,(b.2.1.length:Int),()) (λx t=>∃k,EB b.2.1 x=↑k/\Hc (b.2.2.1.l,[k],()) (λx m=>G (t.1,b.2.1,x,b.2.2.2.1,#[],b.2.2.2.2.2)) λC m=>o C (t.1,#[],())) λC t=>o C (t.1,#[],()))
   (xY 0 n) (#[],p.2.1,#[[]],c,#[],p.2.2) (λM=>J M.2.2.1 (M.1,#[],())) J o:=by
  intro n c;refine vm (λ(r:List Int)(b:Bg×List Int×OL Int×Int×WL.Un×Unit)=>b.2.1=p.2.1/\vE b.2.2.1.l/\∀x∈b.2.2.1.l,x∈p.2.1) (xY 0 n) #[rfl,gS,(λ_ z=>by cases z)] ?_ ?_
  ·rintro x r b _ ⟨e,i,g2⟩ K R;rw[e];refine v0 D q0a λr N u=>?_;obtain⟨y,S,_,T⟩:=xV (l:=p.2.1) N u;have U:=vK i g2;refine#[y,S,Uy (show b.2.2.1.l.length+1<64 by lia),R _ #[rfl,Gm i<|jh _ _,λz W=>?_]];rcases Gk.mp W with⟨I,_⟩|⟨I,_⟩
   ·exact g2 z I
   ·rw[List.mem_singleton.mp I];exact T
  ·rintro b ⟨_,i,g2⟩;exact L _ i g2
 refine v0 q0q q0q λr N u=>?_
 try dsimp only
 have u:r<7:=u;by_cases q:r=6
 ·rw[f9<|decide_eq_true q];refine v0 q0q q0q λs X i=>?_;have i:s<3:=i
  have b1:s*(p.2.1.length:Int)<=2*60:=by
   have:s*(p.2.1.length:Int)<=2*(p.2.1.length:Int):=Int.mul_le_mul_of_nonneg_right q0a q0a
   lia
  have b0:0<=s*(p.2.1.length:Int):=Int.mul_nonneg X q0a;exact#[.inl #[q0a,q0a],#[q0a,q0a],g _ _]
 ·rw[gc<|by simpa using q];exact#[#[q0a,q0a],g _ _]
noncomputable abbrev K8:gV:=top 44
noncomputable abbrev K9:List Str:=["_law_rows_here","_law_row_here"]
def De:uq ["_law_rows_here","_law_row_here","_law_found","_law_cell"] K9 (uh K8):=by walk_at "sc"
abbrev Xr(q:Cq)(k:Nat):=wx q "_law_edge" K9 KP k
def UI(F:Cv q "_law_edge" K8 f o)(a:Hh q 2):Gq q 3 f o K9 KP:=by
 refine' uw (vV (D':=Unit) (ms:=[]) (j:=2) F De rfl rfl λt A i s H E N =>
   (ux (uz 2 De.nd (uD (α:=Int) uC))
   (ux (wm (is:=[]) (mb:=[]) (D1:=(List RW)×(List Int)×(OL Int)×Int×Unit) (D2:=(List RW)×(List Int)×(OL Int)×Int×Unit) (uQ q0q) yx rfl (vG (ss 1)) (uM 3 (uy De.nd))
   (uk (uz 2 De.nd (uv a (uJ 2 (uj (DD (zw (zc (vz (ss 0)) (ss 3)))) ug))))) q0q q0q)
   (uk (x9 2 (pv 2)))))) λp u O h=>?_
 walk_at "wl"
 obtain⟨v,w,B⟩:=h;refine vm (λ(r:List Int)(b:List RW×List Int×OL Int×WL.Un×Unit)=>b.1=p.1/\(∀c∈r,(rowAt p.1 c).isSome=true)/\vE b.2.2.1.l/\(∀x∈b.2.2.1.l,x∈xY 0 35)/\(r.map<|eb p.1).foldl xr b.2.2.1.l=uG (eb p.1) p.2.1) p.2.1 ⟨rfl,w,gS,(λ_ z=>by cases z),rfl⟩ ?_ ?_
 ·rintro c r b _ ⟨e,n,g1,g2,d⟩ K D;obtain⟨y,k⟩:=Option.isSome_iff_exists.mp<|n c gk;obtain⟨_,_,_,G⟩:=uH k;obtain⟨g,m⟩:=v.Hd k;rw[e];have I:=vK g1 g2;have J:=vK g m;rw[v7]at I J;refine⟨_,G,y,rfl,KR g1 g g2 m,D _ ⟨rfl,λc L=>n c<|gl _ L,Gm g1 g,λx M=>?_,?_⟩⟩
  ·rcases Gk.mp M with⟨z,_⟩|⟨z,_⟩
   ·exact g2 x z
   ·exact m x z
  ·rw[<- d];show (r.map<|eb p.1).foldl xr (jn b.2.2.1.l y.2)=(r.map<|eb p.1).foldl xr (xr b.2.2.1.l<|eb p.1 c);rw[PX g1 g,ww k]
 ·rintro b ⟨_,_,_,_,d⟩;have d:b.2.2.1.l=uG (eb p.1) p.2.1:=d;show u b.2.2.1 _;rw[show b.2.2.1=OL.mk b.2.2.1.l from rfl,d];exact B
noncomputable abbrev Hj:gV:=top 35
noncomputable abbrev Hk:List Str:=["_law_found"]
def Rq:uq ["_law_found"] Hk (uh Hj):=by walk_at "sc"
abbrev UJ(q:Cq)(k:Nat):=wx q "_law_whole" Hk MA k
def Rr(F:Cv q "_law_whole" Hj f b)(B:Bn q.mg):Gq q 2 f b Hk MA:=by
 refine' uw (vV (D':=Unit) (ms:=[]) (j:=0) F Rq rfl rfl λc A a s H E d =>
   (uk (uF (uW (JX (BX (ty:="int") rfl B.isinstance (FM (v:=.ty "int") rfl B.int PyProof.Rows.boot_int rfl) (ss 0)) (CT (WG (BX (ty:="bool") rfl B.isinstance (FM (v:=.ty "bool") rfl B.bool PyProof.Rows.boot_bool rfl) (ss 0))))))))) λp e g h=>?_
 walk_at "wl"
 exact h
noncomputable abbrev s_row:gV:=top 36
abbrev Rs:List Str:=["_law_found"]
def Rt:uq ["_law_found","_law_one"] Rs (uh s_row):=by walk_at "sc"
abbrev ZI(q:Cq)(k:Nat):=wx q "_law_row" Rs Q3 k
def Xs(F:Cv q "_law_row" s_row f d)(a:UJ q 2)(B:Bn q.mg):Gq q 3 f d Rs Q3:=by
 refine' uw (vV (D':=Unit) (ms:=[]) (j:=1) F Rt rfl rfl λe A c s H E i =>
   (ux (uZ (tw_not (tw_val (BX (ty:="list") rfl B.isinstance (FM (v:=.ty "list") rfl B.list jU rfl) (ss 0))))
   (uk<|uF<|uW Co)
   uN)
   (ux (wm (is:=[]) (mb:=[]) (D1:=(List Int)×Int×Unit) (D2:=(List Int)×Int×Unit) (uQ q0q) yx rfl (vG (ss 0)) (uM 1 (uy Rt.nd))
   (uk (uZ (tw_not (tw_val (uB (uv a (uj (ss 1) ug)))))
   (uk<|uF<|uW Co)
   uN)) q0q q0q)
   (uk (uF (uW Co)))))) λp k l h=>?_
 walk_at "wl"
 rw[gc q0q];exact vm (λ(r:List Int)(b:List Int×WL.Un×Unit)=>True) p.1 trivial (λx r b _ _ K g=>g _ trivial) λ_ _=>h
noncomputable abbrev s_same:gV:=top 37
noncomputable abbrev La:List Str:=["_law_found","_law_due"]
def UK:uq ["_law_found","_law_due"] La (uh s_same):=by walk_at "sc"
abbrev Xt(q:Cq)(k:Nat):=wx q "_law_same" La KQ k
def UL(F:Cv q "_law_same" s_same f c)(a:ZI q 3):Gq q 4 f c La KQ:=by
 refine' uw (vV (D':=Unit) (ms:=[]) (j:=0) F UK rfl rfl λd A b s H E e =>
   (uk (uF (uW (JX (uB (uv a (uj (ss 0) ug))) (CT (JU (DG e.units) (vz (ss 0)) (vz (ss 1)) (wB _)))))))) λp g i h=>?_
 walk_at "wl"
 exact h
noncomputable abbrev Hl:gV:=top 40
noncomputable abbrev Hm:List Str:=["_law_many"]
def zS:uq ["_law_many","_law_pairs","_law_threes","_law_rows_here"] Hm (uh Hl):=by walk_at "sc"
def NT:(["_law_k"]:List Str).Nodup:=by decide +kernel
def NU:(["_law_pair"]:List Str).Nodup:=by decide +kernel
def NW:(["_law_three"]:List Str).Nodup:=by decide +kernel
abbrev UM(q:Cq)(k:Nat):=wx q "_law_stock" Hm MB k
def Ru(F:Cv q "_law_stock" Hl f i)(B:Bn q.mg):Gq q 2 f i Hm MB:=by
 refine' uw (vV (D':=Unit) (ms:=[]) (j:=3) F zS rfl rfl λl A g s H E o =>
   (ux (uz 1 zS.nd (uD (uo (uE (uD (uo um (uo um uC)))) (uo (uE (uD (uo um (uo um uC)))) (uo (uE (uD (uo um (uo um uC)))) (uo (uE (uD (uo um (uo um uC)))) (uo (uE (uD (uo um (uo um uC)))) (uo (uE (uD (uo um (uo um uC)))) uC))))))))
   (ux (uz 2 zS.nd (uD (uo (uE (uD (uo um (uo um (uo um uC))))) (uo (uE (uD (uo um (uo um (uo um uC))))) (uo (uE (uD (uo um (uo um (uo um uC))))) (uo (uE (uD (uo um (uo um (uo um uC))))) uC))))))
   (ux (uz 3 zS.nd (AI (vz (uE (wp (Ts:=["_law_k"]) (Fr:=[]) (idx:=[]) (k:=1) (mb:=[]) (is:=[]) (cl:=[]) rfl (wS rfl B.range um) X1 rfl (vY rfl) (λa b C c d=>(uM 0 (uy NT))) (λa b C c d=>tws_nil) (λa b C c d=>(yP (v6 um (uE (uD (α:=Int) uC)))))))) (vz (uE (wp (Ts:=["_law_pair"]) (Fr:=[]) (idx:=[]) (k:=1) (mb:=[]) (is:=[1]) (cl:=[]) rfl (J1 1 (pv 1) q0q) X1 rfl (vY rfl) (λa b C c d=>(uM 0 (uy NU))) (λa b C c d=>tws_nil) (λa b C c d=>(yP (v6 um (ss 0)))))))))
   (ux (uz 3 zS.nd (AI (vz (uE (AI (vQ 3) (vz (uE (wp (Ts:=["_law_three"]) (Fr:=[]) (idx:=[]) (k:=1) (mb:=[]) (is:=[2]) (cl:=[]) rfl (J1 2 (pv 2) q0q) X1 rfl (vY rfl) (λa b C c d=>(uM 0 (uy NW))) (λa b C c d=>tws_nil) (λa b C c d=>(yP (v6 um (ss 0)))))))))) (vz (uE (uD (uo (yP (v6 um (uE (uD (uo um (uo um (uo um (uo um uC)))))))) uC))))))
   (uk (uF (Io (vQ 3) Gd (Ge (ss 0)))))))))) λp r t h=>?_
 walk_at "wl"
 obtain⟨m,n⟩:=h;refine#[q0q,(by rw[v7];exact vj q0q),vp (f:=λ_=>some<|some (0,[])) (λx _ K e=>e) ?_];refine#[vj q0q,vp (f:=λx=>some<|some (1,x)) (λx _ K e=>e) ?_];refine#[vj q0q,vj q0q,vp (f:=λx=>some<|some (2,x)) (λx _ K e=>e) ?_];refine#[vj q0q,vj q0q,?_];rw[Xo _ m];exact n
noncomputable abbrev Cc:gV:=top 45
noncomputable abbrev Cd:List Str:=["_law_rows_here","_law_loops","_law_rank_here","_law_bag_here"]
def wn:uq ["_law_rows_here","_law_loops","_law_rank_here","_law_bag_here","_law_number","_law_edge_here","_law_beneath","_law_k","_law_kin","_law_chosen"] Cd (uh Cc):=by walk_at "sc"
def CB:(["_law_at","_law_one","_law_rank_here"]:List Str).Nodup:=by decide +kernel
def IZ:(["_law_k","_law_rank_here","_law_rows_here"]:List Str).Nodup:=by decide +kernel
abbrev NX(q:Cq)(k:Nat):=wx q "_law_edge_by" Cd Ae k
def Ld(F:Cv q "_law_edge_by" Cc f fd)(a:wx q "_law_pull" ["_law_bag_here","_law_many"] xU 3)(G:Hh q 3)(I:Hi q 3)(J:Rp q 3)(L:Xr q 3)(B:Bn q.mg):Gq q 4 f fd Cd Ae:=by
 refine' uw (vV (D':=Unit) (ms:=[0,1,3]) (j:=6) F wn rfl rfl λae A aa s H E hr =>
   (ux (uz 4 wn.nd (uW (xO rfl B.len (vQ 0))))
   (ux (uz 5 wn.nd (uD (α:=Int) uC))
   (ux (uZ (tw_cm As (ss 2) um)
   (ux (vS 1 (v6 um (uE (uD (uo (ss 4) uC)))))
   (uk (x9 5 (pv 5))))
   uN)
   (ux (uZ (tw_cm Pq (uB (uv a (uA 3 (uj um ug)))) um)
   (ux (Aa (Ts:=["_law_at","_law_one"]) (Fr:=["_law_rank_here"]) (idx:=[2]) (k:=2) (mb:=[2]) (is:=[1]) (cl:=[("_law_rank_here",⇑s+1+1)]) 6 wn.nd rfl rfl rfl q0q rfl (J1 1 (pv 1) q0q) RV rfl (vY rfl) (λd g C T U=>(Bc 0 1 (BH rfl (vP (uy (i:=0) CB) (vP (uy (i:=1) CB) zU))) q0q q0q)) (λd g C T U=>(tws_one (tw_cm As (ss 0) (A6 Jo (ss 2) um)))) (λd g C T U=>(ss 1)))
   (ux (wm (is:=[]) (mb:=[0,1,3]) (D1:=(OL RW)×(OL (Int×(List Int)))×Int×Bg×Int×(OL Int)×(OL (List Int))×Int×Un×Un×Unit) (D2:=(OL RW)×(OL (Int×(List Int)))×Int×Bg×Int×(OL Int)×(OL (List Int))×Int×Un×Un×Unit) (uQ q0q) yx rfl (wS rfl B.range (zc (vz (uE (uD (uo um (uo um (uo um (uo um (uo um (uo um (uo um (uo um uC))))))))))) (uB (uv a (uA 3 (uj um ug)))))) (uM 7 (uy wn.nd))
   (uk (uZ (tw_cmL (BU hr.units) (vQ 6) (vz (uE (uD (α:=(List Int)) uC))))
   (uk<|uz 5 wn.nd<|uv G<|uJ 5<|uj (zc (vQ 6)<|uB<|uv a<|uA 3<|uj (xO rfl B.len<|vQ 6) ug) ug)
   uN)) q0q q0q)
   (ux (uZ (tw_cmL (DG hr.units) (vQ 5) (vz (uE (uD (α:=Int) uC))))
   (uk<|vS 1<|v6 (ss 2)<|uE<|uD<|uo (ss 4) uC)
   uN)
   (uk (x9 5 (pv 5))))))
   uN)
   (ux (Aa (Ts:=["_law_k"]) (Fr:=["_law_rank_here","_law_rows_here"]) (idx:=[2,0]) (k:=1) (mb:=[1,2]) (is:=[]) (cl:=[("_law_rows_here",⇑s+1),("_law_rank_here",⇑s+1+1)]) 8 wn.nd rfl rfl rfl q0q rfl (vG (uE (uv I (uJ 0 ug)))) bs2 rfl (vY rfl) (λd g C T U=>(uM 0 (uy IZ))) (λd g C T U=>(tws_one (tw_cm As (JT (zw (zc (vQ 2) (ss 0)))) (ss 1)))) (λd g C T U=>(ss 0)))
   (ux (uz 9 wn.nd (uv J (uA 3 (uJ 8 ug))))
   (ux (vS 1 (v6 (ss 2) (uE (AI (vQ 9) (vz (uE (uD (uo (ss 4) uC))))))))
   (uk (uF (uv L (uJ 0 (uJ 9 ug))))))))))))) λp Kn Ke h=>?_
 walk_at "wl"
 obtain⟨v,hn,hq,W,r0,r1,Y⟩:=h;by_cases h0:p.2.2.1=0
 ·rw[f9<|decide_eq_true h0];refine⟨Bp q0a,?_⟩;refine Y [] [(0,[(p.1.l.length:Int)])] (Hf v q0a λr e z=>?_) (λu M=>?_) q0o
  ·cases z;exact#[r0,r1,gS,(λ_ z=>by cases z),rfl]
  ·rcases List.mem_append.mp M with z|z
   ·exact Eo<|W u z
   ·rw[List.mem_singleton.mp z];have:=Q6 (rows:=p.1.l) (r:=p.2.2.1);rw[h0]at this ⊢;exact this
 ·rw[gc<|by simpa using h0];refine v0 q0q q0q λx g0 g1=>?_
  try dsimp only
  by_cases hx:x<3
  ·rw[f9<|decide_eq_true hx];refine⟨vj q0a,vp (f:=λu:Int×List Int=>if decide (u.1=p.2.2.1-1)=true then some u.2 else none) (λu _ K o=>?_) ?_⟩
   ·show if decide (u.1=p.2.2.1-1)=true then K ↑u.2 _ else K none _;by_cases z:decide (u.1=p.2.2.1-1)=true
    ·rw[f9 z]at o ⊢;exact o
    ·rw[gc z]at o ⊢;exact o
   ·have ly:(p.2.1.l.filterMap λu:Int×List Int=>if decide (u.1=p.2.2.1-1)=true then some u.2 else none).length<=100:=gW (List.length_filterMap_le _ _) hq
    have X:∀z∈(p.2.1.l.filterMap λu:Int×List Int=>if decide (u.1=p.2.2.1-1)=true then some u.2 else none),Lp p.1.l (p.2.2.1-1,z):=λz hz=>by
     obtain⟨u,M,e⟩:=List.mem_filterMap.mp hz;by_cases q:decide (u.1=p.2.2.1-1)=true
     ·rw[f9 q]at e;cases e;rw[<- jr q];exact W u M
     ·rw[gc q]at e;cases e
    generalize (p.2.1.l.filterMap λu:Int×List Int=>if decide (u.1=p.2.2.1-1)=true then some u.2 else none)=ys at ly X;refine v0 q0q q0q λs g2 g3=>?_;obtain⟨m,m1,_,m3⟩:=xV (l:=[(2:Int),2,2,2,0,1,3,4]) g2 (by simpa using g3);refine#[m,m1,#[by simp at m3;lia,by simp at m3;lia],?_];refine vm (λ(r:List Int) (b:OL RW×OL (Int×List Int)×Int×Bg×Int×OL Int×OL (List Int)×WL.Un×WL.Un×WL.Un×Unit)=>b.1=p.1/\b.2.1=p.2.1/\b.2.2.1=p.2.2.1/\b.2.2.2.2.1=(p.1.l.length:Int)/\b.2.2.2.2.2.2.1.l=ys/\Lp p.1.l (p.2.2.1-1,b.2.2.2.2.2.1.l)) (xY 0 m) #[rfl,rfl,rfl,rfl,rfl,gS,(λ_ z=>by cases z),rfl] ?_ ?_
    ·intro y r;refine Y2 λb1 b2 b3 b4 b5 N b7 b8=>?_;rintro _ ⟨P,Q,R,S,Z,n⟩ K o;dsimp only at P Q R S Z n ⊢;subst Z;by_cases q:b7.l=[]
     ·rw[gc<|by simp[q]];exact o _ #[P,Q,R,S,rfl,n]
     ·rw[f9<|by simp[q]];have:=List.length_pos_iff.mpr q;refine v0 q0a q0a λt t0 t1=>?_;obtain⟨z,z1,_,z3⟩:=xV (l:=b7.l) t0 t1;have D:=X z z3;have s1:=vK n.1<|n.sub q0a;have s2:=vK D.1<|D.sub q0a;rw[v7]at s1 s2;have s1:N.l.length<=35:=s1;have s2:z.length<=35:=s2;refine⟨z,z1,KR n.1 D.1 (n.sub q0a)<|D.sub q0a,o _ ⟨P,Q,R,S,rfl,?_⟩⟩;show Lp p.1.l (p.2.2.1-1,jn N.l z);have nn:∀c,(∃e,rowAt p.1.l c=some (p.2.2.1-1,e))->(eb p.1.l c).Nodup:=λc ⟨e,he⟩=>by rw[ww he];exact ur (v.Hd he).1
      refine#[Gm n.1 D.1,λc O=>?_,?_]
      ·rcases Gk.mp O with⟨w,_⟩|⟨w,_⟩
       ·exact n.2.1 c w
       ·exact D.2.1 c w
      ·show uG (eb p.1.l) (jn N.l z)=[];rw[PX n.1 D.1,xG n.1 D.1 (λc O=>nn c<|n.2.1 c O)<|λc O=>nn c<|D.2.1 c O,show uG (eb p.1.l) N.l=[] from n.2.2,show uG (eb p.1.l) z=[] from D.2.2];rfl
    ·refine Y2 λb1 b2 b3 b4 b5 N b7 b8=>?_;rintro⟨P,Q,R,S,Z,n⟩;dsimp only at P Q R S Z n ⊢;subst P Q R S
     have va:Vr (p.1.l++[↑(p.2.2.1,N.l)]):=Hf v q0a λr e z=>by
      cases z;exact#[r0,r1,n.1,n.2.1,n.2.2]
     by_cases q:N.l=[]
     ·rw[f9<|decide_eq_true q];refine⟨Bp q0a,Y N.l [(p.2.2.1,[(p.1.l.length:Int)])] va (λu M=>?_) q0o⟩;rcases List.mem_append.mp M with z|z
      ·exact Eo<|W u z
      ·rw[List.mem_singleton.mp z,q];exact Q6
     ·rw[gc<|by simpa using q];have:=Y N.l [] va (λu M=>Eo<|W u<|by simpa using M) q0o;rw[jP]at this;exact this
  ·rw[gc<|by simpa using hx];refine⟨(show p.1.l.length<1000 by lia),vj (by have:=wA p.1.l;show (CA p.1.l).length<=1000;lia),vA (q:=λk=>decide ((rowAt p.1.l k).map (·.1)=↑p.2.2.1)) (λk ab K o=>?_) ?_⟩
   ·obtain⟨y,X⟩:=Option.isSome_iff_exists.mp<|w9.mp ab;refine#[_,(uH X).2.2.2,y,rfl,?_];rw[X]at o;show if decide (y.1=p.2.2.1)=true then _ else _;by_cases z:y.1=p.2.2.1
    ·rw[f9<|by simp[z]]at o ⊢;exact o
    ·rw[gc<|by simpa using z]at o ⊢;exact o
   ·have hs:=gX (λk=>decide ((rowAt p.1.l k).map (·.1)=↑p.2.2.1))<|CA p.1.l;have af:=wA p.1.l;refine⟨(show ((CA p.1.l).filter _).length<60 by lia),λl l1 l2=>?_⟩
    have hl:∀c∈l,∃e,rowAt p.1.l c=↑(p.2.2.1,e):=λc O=>by
     have:=(List.mem_filter.mp<|l2 c O).2
     cases e:rowAt p.1.l c with
     |none=>rw[e]at this;simp at this
     |some y =>
      rw[e]at this;have this:y.1=p.2.2.1:=by simpa using this
      exact#[y.2,by rw[<- this]]
    obtain⟨c1,c2,c3⟩:=NS v l1 hl;have ll:l.length<=((CA p.1.l).filter λk=>decide ((rowAt p.1.l k).map (·.1)=↑p.2.2.1)).length:=vK l1 l2;refine#[vj (show l.length+1<=1000 by lia),Bp q0a,v,λc O=>?_,?_]
    ·obtain⟨e,he⟩:=hl c O;show (rowAt p.1.l c).isSome=true;rw[he];rfl
    ·refine Y _ [(p.2.2.1,l++[(p.1.l.length:Int)])] (Hf v q0a λr e z=>?_) (λu M=>?_) q0o
     ·cases z;exact#[r0,r1,uL _ _,c1,c2]
     ·rcases List.mem_append.mp M with z|z
      ·exact Eo<|W u z
      ·rw[List.mem_singleton.mp z];exact c3
noncomputable abbrev Le:gV:=top 46
noncomputable abbrev Lf:List Str:=["_law_bag_here","_law_most"]
def yZ:uq ["_law_bag_here","_law_most","_law_rows_here","_law_k","_law_loops","_law_rank_here"] Lf (uh Le):=by walk_at "sc"
def Rv:(["_law_k"]:List Str).Nodup:=by decide +kernel
abbrev Xu(q:Cq)(k:Nat):=wx q "_law_rows" Lf Q4 k
def UN(F:Cv q "_law_rows" Le f fd)(i:wx q "_law_pull" ["_law_bag_here","_law_many"] xU 4)(G:UM q 4)(L:Xq q 4)(w:NX q 4)(B:Bn q.mg):Gq q 5 f fd Lf Q4:=by
 refine' uw (vV (D':=Unit) (ms:=[0]) (j:=4) F yZ rfl rfl λaa A X s H E hr =>
   (ux (uz 2 yZ.nd (uD (α:=RW) uC))
   (ux (uZ (tw_cm As (uB (uv i (uA 0 (uj um ug)))) um)
   (uk<|uz 2 yZ.nd<|uv G<|uj (uB<|uv i<|uA 0<|uj um ug) ug)
   uN)
   (ux (Aa (Ts:=["_law_k"]) (Fr:=[]) (idx:=[]) (k:=1) (mb:=[]) (is:=[]) (cl:=[]) 4 yZ.nd rfl rfl rfl q0q rfl (wS rfl B.range (xO rfl B.len (vQ 2))) X1 rfl (vY rfl) (λM N C ex pn=>(uM 0 (uy Rv))) (λM N C ex pn=>(tws_one (tw_cm Pq (ss 0) um))) (λM N C ex pn=>(v6 um (uE (uD (uo (ss 0) uC))))))
   (ux (uZ (tw_cm Vq (xO rfl B.len (vQ 2)) um)
   (uk<|uz 4 yZ.nd<|AI (vQ 4)<|vz<|uE<|uD<|uo (v6 um<|uE<|uD<|uo um<|uo um<|uo um uC)<|uo (v6 um<|uE<|uD<|uo um<|uo um<|uo um uC)<|uo (v6 um<|uE<|uD<|uo um<|uo um<|uo um uC) uC)
   uN)
   (ux (wm (is:=[]) (mb:=[0]) (D1:=Bg×Int×(OL RW)×Int×(OL (Int×(List Int)))×Un×Unit) (D2:=Bg×Int×(OL RW)×Int×(OL (Int×(List Int)))×Un×Unit) (uQ q0q) yx rfl (wS rfl B.range (uB (uv i (uA 0 (uj (A6 AB (ss 1) um) ug))))) (uM 3 (uy yZ.nd))
   (uk (uZ (tw_cm As (uB (uv i (uA 0 (uj um ug)))) um)
   (uk<|vS 2 Td)
   (LW (D':=Bg×Int×(OL RW)×Int×(OL (Int×(List Int)))×Un×Unit) (ux (uz 5 yZ.nd (uv L (uA 0 ug)))
   (uk (vS 2 (yP (v6 (ss 5) (uE (uv w (uA 2 (uA 4 (uj (ss 5) (uA 0 ug)))))))))))))) q0q q0q)
   (uk (x9 2 (pv 2))))))))) λp W I h=>?_
 walk_at "wl"
 obtain⟨hm,hk⟩:=h
 have S:∀(a:List RW) (o:List (Int×List Int)) (n:Int),n<=20->Vr a->a.length<=15->(∀u∈o,Lp a u)->o.length<=20 ->
   Gh (λ(x:Int) (b:Bg×Int×OL RW×WL.Un×OL (Int×List Int)×WL.Un×Unit) J (Kr:OL RW->Bg×WL.Un×Unit->Prop) I =>
    xU (b.1,9,()) (λx d=>if decide (x=8)=true then b.2.2.1.l.length<gh/\J (d.1,b.2.1,#[b.2.2.1.l++[none]],#[],b.2.2.2.2.1,b.2.2.2.2.2.1,b.2.2.2.2.2.2) else
     G9 (d.1,()) (λx d=>Ae (b.2.2.1,b.2.2.2.2.1,x,d.1,()) (λO d=>d.1.l.length<gh/\J (d.2.2.2.1,b.2.1,#[d.1.l++[↑(x,O.l)]],#[],d.2.1,#[],b.2.2.2.2.2.2)) λC d=>I C (d.2.2.2.1,#[],())) λC d=>I C (d.1,#[],())) λC d=>I C (d.1,#[],()))
   (xY 0 n) (#[],p.2.1,#[a],#[],#[o],#[],p.2.2) (λT=>W T.2.2.1 (T.1,#[],())) W I:=by
  intro a o n hn v hl Y ab;refine vm (λ(r:List Int) (b:Bg×Int×OL RW×WL.Un×OL (Int×List Int)×WL.Un×Unit)=>Vr b.2.2.1.l/\(∀u∈b.2.2.2.2.1.l,Lp b.2.2.1.l u)/\b.2.2.1.l.length+r.length<=35/\b.2.2.2.2.1.l.length+r.length<=100) (xY 0 n) #[v,Y,(by rw[v7];show a.length+_<=35;lia),(by rw[v7];show o.length+_<=100;lia)] ?_ ?_
  ·rintro y r b _ ⟨R,g2,g3,g4⟩ K D;rw[gK]at g3 g4;refine v0 q0q q0q λs s0 s1=>?_;dsimp only;by_cases q:s=8
   ·rw[f9<|decide_eq_true q];refine⟨Bp q0a,D _ ⟨Hf R q0a (λr e z=>by cases z),λu P=>Eo<|g2 u P,?_,?_⟩⟩
    ·show (b.2.2.1.l++[none]).length+r.length<=35;rw[gz,gJ]
     lia
    ·show b.2.2.2.2.1.l.length+r.length<=100
     lia
   ·rw[gc<|by simpa using q];intro t t0 t1;refine⟨R,(show b.2.2.1.l.length<=34 by lia),(show b.2.2.2.2.1.l.length<=100 by lia),g2,t0,t1,λe u v1 v2 v3=>#[Bp (show b.2.2.1.l.length<1000 by lia),D _ #[v1,v2,?_,?_]]⟩
    ·show (b.2.2.1.l++[↑(t,e)]).length+r.length<=35;rw[gz,gJ]
     lia
    ·show (b.2.2.2.2.1.l++u).length+r.length<=100;rw[gz]
     lia
  ·rintro b ⟨R,_,g3,_⟩;exact hk _ R q0a
 have Q:∀(a:List RW) (U:List (Int×List Int)),Vr a->a.length<=15->(∀u∈U,Lp a u)->U.length<=20->∀g:Bg,xU (g,p.2.1+1,()) (λx d=>(-2 ^ 62<=x/\x<2 ^ 62)/\Gh (λ(x:Int) (b:Bg×Int×OL RW×WL.Un×OL (Int×List Int)×WL.Un×Unit) J (Kr:OL RW->Bg×WL.Un×Unit->Prop) I =>
    xU (b.1,9,()) (λx d=>if decide (x=8)=true then b.2.2.1.l.length<gh/\J (d.1,b.2.1,#[b.2.2.1.l++[none]],#[],b.2.2.2.2.1,b.2.2.2.2.2.1,b.2.2.2.2.2.2) else
     G9 (d.1,()) (λx d=>Ae (b.2.2.1,b.2.2.2.2.1,x,d.1,()) (λO d=>d.1.l.length<gh/\J (d.2.2.2.1,b.2.1,#[d.1.l++[↑(x,O.l)]],#[],d.2.1,#[],b.2.2.2.2.2.2)) λC d=>I C (d.2.2.2.1,#[],())) λC d=>I C (d.1,#[],())) λC d=>I C (d.1,#[],()))
   (xY 0 x) (d.1,p.2.1,#[a],#[],#[U],#[],p.2.2) (λT=>W T.2.2.1 (T.1,#[],())) W I) (λC d=>I C (d.1,#[],())):=by
  intro a U v l1 Y l2 g;exact v0 q0a q0a λr g0 R=>#[#[q0a,q0a],S a U r q0a v l1 Y l2]
 refine v0 q0q q0q λx g0 R=>?_;dsimp only;by_cases hx:x=1
 ·rw[f9<|decide_eq_true hx];refine v0 q0q q0q λm m0 m1=>#[m0,?_];dsimp only;have c:=List.all_eq_true.mp Ux m.toNat<|List.mem_range.mpr q0a;unfold chk at c;simp only[hR,Bool.or_eq_true,hX]at c;obtain⟨⟨⟨⟨c1,c2⟩,c3⟩,c4⟩,Z⟩:=c;have v:=Rf c1;refine⟨⟨q0a,q0a⟩,(by rw[v7];exact vj q0a),vp (f:=λk:Int=>if decide (k<4)=true then some (0,[k]) else none) (λk _ K D=>?_) ?_⟩
  ·show if decide (k<4)=true then K ↑(0,[k]) _ else K none _;by_cases z:decide (k<4)=true
   ·rw[f9 z]at D ⊢;exact D
   ·rw[gc z]at D ⊢;exact D
  ·have l0:∀u∈X3 (BE.take m.toNat).length,Lp (BE.take m.toNat) u:=λu P=>Re<|List.all_eq_true.mp c2 u P;by_cases h9:9<((BE.take m.toNat).length:Int)
   ·rw[f9<|decide_eq_true h9];have Z:lp1.all (ZE<|BE.take m.toNat)=true:=Z.elim (λz=>gA z q0a) id;refine#[vj (show (X3 (BE.take m.toNat).length).length+3<=1000 by lia),Q _ (X3 (BE.take m.toNat).length++lp1) v c4 (λu P=>?_) ?_ _]
    ·rcases List.mem_append.mp P with z|z
     ·exact l0 u z
     ·exact Re<|List.all_eq_true.mp Z u z
    ·rw[gz];show _+3<=20
     lia
   ·rw[gc<|by simpa using h9];exact Q _ (X3 (BE.take m.toNat).length) v c4 l0 q0a _
 ·rw[gc<|by simpa using hx];refine⟨⟨q0q,q0q⟩,vj q0q,vp (f:=λk:Int=>if decide (k<4)=true then some (0,[k]) else none) (λk _ K D=>?_) ?_⟩
  ·show if decide (k<4)=true then K ↑(0,[k]) _ else K none _;by_cases z:decide (k<4)=true
   ·rw[f9 z]at D ⊢;exact D
   ·rw[gc z]at D ⊢;exact D
  ·exact Q [] [] (Rf rfl) q0q (λu P=>by cases P) q0q _
noncomputable abbrev Lg:gV:=top 47
noncomputable abbrev Lh:List Str:=["_law_body","_law_rows_here"]
def Hn:uq ["_law_body","_law_rows_here","_law_number","_law_row_here"] Lh (uh Lg):=by walk_at "sc"
abbrev Xv(q:Cq)(C:ci)(k:Nat):=wx q "_law_fill" Lh (Q5 C) k
set_option tactic.hygienic true in
def UO(F:Cv q "_law_fill" Lg f U)(ct:Ab q.K C)(a:Zz q C XB XS XC XO XP 8)(g:Um q C XC XV 8)(B:Bn q.mg):Gq q 9 f U Lh (Q5 C):=by
 refine' uw (vV (D':=Unit) (ms:=[]) (j:=2) F Hn rfl rfl λW A D s H E hr =>
   (ux (wm (is:=[]) (mb:=[]) (D1:=(Bd C true)×(List RW)×Int×RW×Unit) (D2:=(Bd C true)×(List RW)×Int×RW×Unit) (uQ q0q) yx rfl (TJ rfl B.enumerate (ss 1)) (Bc 2 3 (BH rfl (vP (uy (i:=2) Hn.nd) (vP (uy (i:=3) Hn.nd) zU))) q0q q0q)
   (uk (uZ (tw_cm WF (ss 3) JS)
   (ux (vf (uB (vo 0 a (uj um (uj (uE (uD (α:=Int) uC)) ug)))))
   (uk (vf (uB (vo 0 g (uj (ss 2) ug))))))
   (uk (vf (uB (vo 0 a (uj (JT (zw (ss 3))) (uj (uE (LZ rfl B.list (vz (DD (zw (ss 3)))))) ug)))))))) q0q q0q)
   (uk (x9 0 (pv 0))))) λp Kn Ke h=>?_
 walk_at "wl"
 obtain⟨X,v,Y⟩:=h;refine vm (λ(r:List (Int×RW)) (b:B0 C×List RW×WL.Un×WL.Un×Unit)=>∃k,r=Ny k (p.2.1.drop k)/\k<=p.2.1.length/\xt b.1 (p.2.1.take k)/\b.1.ht=[]/\b.1.th=[]) (Ny 0 p.2.1) #[0,rfl,iz _,?_] ?_ ?_
 ·show xt p.1 []/\p.1.ht=[]/\p.1.th=[];rw[X];exact#[Uz,rfl,rfl]
 ·rintro x r b _ ⟨k,e,N,c,m,n⟩ K Z
  have l:k<p.2.1.length:=by
   rcases Nat.lt_or_ge k p.2.1.length with z|z
   ·exact z
   ·rw[List.drop_of_length_le z]at e;cases e
  rw[m7 l]at e;have e1:x=((k:Int),p.2.1[k]):=by cases e;rfl
  have e2:r=Ny (k+1) (p.2.1.drop<|k+1):=by cases e;rfl
  have tk:p.2.1.take (k+1)=p.2.1.take k++[p.2.1[k]]:=(List.take_append_getElem l).symm;have G:(p.2.1.take k).length=k:=List.length_take_of_le N;have I:=Uw v k;have next:∀o:B0 C,xt o (p.2.1.take k++[p.2.1[k]])->o.ht=[]->o.th=[]->K (o,b.2.1,#[],#[],b.2.2.2.2):=λo h m1 m2=>Z _ #[k+1,e2,l,by rw[tk];exact h,m1,m2]
  have O:rowAt p.2.1 (k:Int)=p.2.1[k]:=Em q0a (by rw[kH];exact iU l);have ln:=v.ln;subst e1;dsimp only
  cases z:p.2.1[k] with
  |none =>
   rw[f9<|show (none:RW).isNone=true from rfl];rw[z]at next
   refine Rc c I (nC 0) q0q gS (λ_ q=>by cases q) rfl λP J u w=>?_;have Q:Vr (p.2.1.take k++[↑(0,[])]):=ZF I q0a;refine Uv J Q (by have:=vr (rows:=p.2.1.take k) (z:=↑(0,[]));rw[G]at this;rw[this];rfl) (λh t=>?_) (by unfold vN;rw[u,w,m,n];rfl) λx2 R g3 g4=>next x2 ?_ (g3.trans<|u.trans m)<|g4.trans<|w.trans n
   ·cases q:rowAt (p.2.1.take k++[↑(0,[])]) h with
    |none=>unfold eb at t;rw[q]at t;cases t
    |some y =>
     rw[ww q]at t;have S:=((Q.ok h y.1 y.2 q).2.2.2.1 _ t).1;have L:=(uH q).2.1;rw[gz,gJ,G]at L
     lia
   ·rw[kH,List.set_append_right _ _ q0a,G,pZ]at R;exact R
  |some y =>
   rw[gc q0o];rw[z]at next O
   obtain⟨S,L,a3,T,a5⟩:=v.ok k y.1 y.2 O;refine#[y,rfl,y,rfl,Rc c I S L a3 (λd M=>?_) ?_ λP J u w=>next P J (u.trans m)<|w.trans n]
   ·obtain⟨q1,e',q2⟩:=T d M;exact#[e',by rw[wZ,f9 q1];exact q2]
   ·rw[<- a5];refine vq λd M=>?_;unfold eb;rw[wZ,f9 (T d M).1]
 ·rintro b ⟨k,e,N,c,m,n⟩
  have:k=p.2.1.length:=by
   rcases Nat.lt_or_ge k p.2.1.length with z|z
   ·rw[m7 z]at e;cases e
   ·lia
  rw[this,ue]at c;exact Y _ c m n
noncomputable abbrev Li:gV:=top 48
noncomputable abbrev Lj:List Str:=["_law_field","_law_rows_here","_law_bag_here","_law_tries"]
def yg:uq ["_law_field","_law_rows_here","_law_bag_here","_law_tries","_law_arrows","_law_k","_law_highs","_law_gone","_law_high","_law_low"] Lj (uh Li):=by walk_at "sc"
def Rx:(["_law_k","_law_rows_here"]:List Str).Nodup:=by decide +kernel
abbrev Xw(q:Cq)(C:ci)(k:Nat):=wx q "_law_ties" Lj (Rh C) k
def UP(F:Cv q "_law_ties" Li f fd)(ct:Ab q.K C)(m:Hi q 6)(d:wx q "_law_pull" ["_law_bag_here","_law_many"] xU 6)(g:Uk q C XC XN 6)(x:ZB q C XC XF XT XR 6)(a:Zt q XT XR "Tied" "RingOfArrows")(B:Bn q.mg):Gq q 7 f fd Lj (Rh C):=by
 refine' uw (vV (D':=Unit) (ms:=[0,2]) (j:=6) F yg rfl rfl λae A Q s H E L =>
   (ux (uz 4 yg.nd (uD (α:=(Int×Int)) uC))
   (ux (Aa (Ts:=["_law_k"]) (Fr:=["_law_rows_here"]) (idx:=[1]) (k:=1) (mb:=[1]) (is:=[]) (cl:=[("_law_rows_here",⇑s+1)]) 6 yg.nd rfl rfl rfl q0q rfl (vG (uE (uv m (uj (ss 1) ug)))) RV rfl (vY rfl) (λo t C ex pn=>(uM 0 (uy Rx))) (λo t C ex pn=>(tws_one (tw_cmL (BU L.units) (vz (DD (zw (zc (vz (ss 1)) (ss 0))))) (vz (uE (uD (α:=Int) uC)))))) (λo t C ex pn=>(ss 0)))
   (ux (wm (is:=[]) (mb:=[0,2]) (D1:=(Bd C true)×(List RW)×Bg×Int×(OL (Int×Int))×Int×(OL Int)×Un×Un×Un×Unit) (D2:=(Bd C true)×(List RW)×Bg×Int×(OL (Int×Int))×Int×(OL Int)×Un×Un×Un×Unit) (uQ q0q) yx rfl (wS rfl B.range (ss 3)) (uM 5 (uy yg.nd))
   (uk (uZ (tw_w (JW (tw_cmL (BU L.units) (vQ 4) (vz (uE (uD (α:=(Int×Int)) uC)))) (Gg (tw_cm As (uB (uv d (uA 2 (uj um ug)))) um))))
   (LW (D':=(Bd C true)×(List RW)×Bg×Int×(OL (Int×Int))×Int×(OL Int)×Un×Un×Un×Unit) (ux (uz 7 yg.nd (uW (NG 4 (pv 4) (uB (uv d (uA 2 (uj (xO rfl B.len (vQ 4)) ug)))) (λh=>Vd lp n6 n8 OI (pv 4) h))))
   (uk (vf (uB (vo 0 g (uj (JT (ss 7)) ug)))))))
   (uk (uZ (tw_cmL (BU L.units) (vQ 6) (vz (uE (uD (α:=Int) uC))))
   (LW (D':=(Bd C true)×(List RW)×Bg×Int×(OL (Int×Int))×Int×(OL Int)×Un×Un×Un×Unit) (ux (uz 8 yg.nd (uW (zc (vQ 6) (uB (uv d (uA 2 (uj (xO rfl B.len (vQ 6)) ug)))))))
   (ux (uz 9 yg.nd (uW (zc (vz (DD (zw (zc (vz (ss 1)) (ss 8))))) (uB (uv d (uA 2 (uj (xO rfl B.len (vz (DD (zw (zc (vz (ss 1)) (ss 8)))))) ug)))))))
   (ux (T0 rfl (W0 rfl a.m1 rfl a.m2 a.x1 a.x2) (Zs 0 x L ct.cl (λE1 Φ R=>(pv 0)) (λE1 Φ R=>(uj (ss 9) (uj (ss 8) ug)))) (λx' =>
   (uk (uz 8 yg.nd (uW (WT um))))))
   (uk (uZ (tw_cm Vs (ss 8) um)
   (uk<|vS 4<|v6 (ss 9)<|ss 8)
   uN))))))
   uN)))) q0q q0q)
   (uk (uF (Kj rfl B.sorted (vQ 4)))))))) λp Kn Ke h=>?_
 walk_at "wl"
 obtain⟨c0,v,S,n1,n2,tr,h⟩:=h;have sl:gh=16777216:=iC;refine#[by show p.2.1.length<1000;lia,by show (CA p.2.1).length<=gh;have:=wA p.2.1;lia,?_];refine vA (q:=λk=>!decide (eb p.2.1 k=[])) (λk hk K I=>?_) ?_
 ·obtain⟨y,n⟩:=Option.isSome_iff_exists.mp<|w9.mp hk;refine#[_,(uH n).2.2.2,y,rfl,?_];rw[ww n]at I;exact I
 dsimp only;refine#[q0a,?_];refine vm (λ(_:List Int) (b:B0 C×List RW×Bg×Int×OL (Int×Int)×WL.Un×OL Int×WL.Un×WL.Un×WL.Un×Unit)=>b.2.1=p.2.1/\b.2.2.2.2.2.2.1.l=(CA p.2.1).filter (λk=>!decide (eb p.2.1 k=[]))/\xt b.1 p.2.1/\Arr b.1 b.2.2.2.2.1.l) _ #[rfl,rfl,c0,UB (c0.okb v) n1 n2] ?_ ?_
 ·intro k r;refine Vv λM b2 b3 b4 J b6 N b8 b9 T U=>?_;rintro _ ⟨rfl,u,c,A⟩ K I;dsimp only at u c A ⊢;have al:=A.UA c S;refine' cutP (G:=_) (λel=>?_) ?_
  rotate_left
  ·by_cases W:J.l=[]
   ·rw[gc (by simp[W]),gc gw];exact el
   ·rw[f9<|by simp[W]];refine v0 q0q q0q λz z0 z1=>?_;by_cases e8:z=8
    ·rw[f9<|decide_eq_true e8];have p5:0<J.l.length:=List.length_pos_iff.mpr W;refine v0 q0a q0a λi O X=>?_;obtain⟨y,a1,Y,P⟩:=xV O X;exact#[O,y,Y,q0a,Rl A c Y λw x' Z A'=>I _ #[rfl,u,Z,A']]
    ·rw[gc<|by simpa using e8];exact el
  ·by_cases q:N.l=[]
   ·rw[gc<|by simp[q]];exact I _ #[rfl,u,c,A]
   ·rw[f9<|by simp[q]];have l7:N.l.length<=35:=by rw[u];have:=gX (λk=>!decide (eb p.2.1 k=[]))<|CA p.2.1;have:=wA p.2.1;lia
    have p7:0<N.l.length:=List.length_pos_iff.mpr q;refine v0 q0a q0a λi O X=>?_;obtain⟨hg,a1,Y,P⟩:=xV O X;rw[u,ik]at P;obtain⟨y,n⟩:=Option.isSome_iff_exists.mp<|w9.mp P.1;have yn:y.2≠[]:=λz=>by have:=P.2;rw[ww n,z]at this;simp at this
    have yl:y.2.length<=95:=by exact Rj v n
    have py:0<y.2.length:=List.length_pos_iff.mpr yn;refine#[hg,a1,_,(uH n).2.2.2,y,rfl,_,(uH n).2.2.2,y,rfl,v0 q0a q0a λi' aa ab=>?_];obtain⟨lo,l1,l2,l3⟩:=xV aa ab;refine#[lo,l1,Xp A c v S n l3 (λD hD=>#[hD,?_]) λx' Z A'=>?_]
    ·rw[gc<|λz=>gA (jr z) q0a];exact I _ #[rfl,u,c,A]
    ·rw[f9<|decide_eq_true (uH n).1];exact#[by show J.l.length<gh;lia,I _ #[rfl,u,Z,A']]
 ·refine Vv λM b2 b3 b4 J b6 N b8 b9 T U=>?_;rintro⟨rfl,u,c,A⟩;have c:xt M p.2.1:=c;have A:Arr M J.l:=A;have al:=A.UA c S;refine#[by show J.l.length<64;lia,λps hp _=>h M ps c #[A.ok,A.nt,(hp.map _).trans A.pm,λe he=>A.hd e<|hp.mem_iff.mp he]]
noncomputable abbrev Ho:gV:=top 49
abbrev Hq:List Str:=["_law_bag_here","_law_most"]
def By:uq ["_law_bag_here","_law_most","_law_rows_here","_law_field","_law_arrows"] Hq (uh Ho):=by walk_at "sc"
abbrev UQ(q:Cq)(C:ci)(k:Nat):=wx q "_law_house" Hq (MG C) k
def Ry(F:Cv q "_law_house" Ho f D)(e:Mk q.K C g)(i:uR q.P q.w q.K q.mg q.base (vd q.P q.w) 8 g b ["self"] (C3 C))(k:Binds q.K b ["self"] [])(d:q.mg "Field"=↑(.ref C))(l:Xu q 9)(m:Xv q C 9)(o:Xw q C 9)(r:wx q "_law_pull" ["_law_bag_here","_law_many"] xU 9)(B:Bn q.mg):Gq q 10 f D Hq (MG C):=by
 refine' uw (vV (D':=Unit) (ms:=[0]) (j:=3) F By rfl rfl λG A u s H E I =>
   (ux (uz 2 By.nd (uv l (uA 0 (uj (ss 1) ug))))
   (ux (uz 3 By.nd (uv m (Tk (Qh e i I rfl d k DB) (uJ 2 ug))))
   (ux (uz 4 By.nd (uv o (uA 3 (uJ 2 (uA 0 (uj (uB (uv r (uA 0 (uj (A6 AB (Pl AC um (xO rfl B.len (vQ 2))) um) ug)))) ug))))))
   (uk (TU 3 2 4 (pv 3) (pv 2) (pv 4))))))) λp Q R h=>?_
 walk_at "wl"
 obtain⟨J,h⟩:=h;refine#[J,λt v y=>?_];refine#[rfl,v,λx c L M=>?_];dsimp only;refine#[.inl q0q,v0 (n:=2*(t.length:Int)+1) q0a q0a λz S T=>?_];exact#[c,v,y,L,M,by show 0<=z/\z<=1000;lia,λN a O A=>h N t a O v y A]
noncomputable abbrev Es:gV:=top 50
noncomputable abbrev Et:List Str:=["_law_arrows"]
def NY:uq ["_law_arrows"] Et (uh Es):=by walk_at "sc"
def Eu:(["_law_low","_law_high"]:List Str).Nodup:=by decide +kernel
abbrev Rz(q:Cq)(k:Nat):=wx q "_law_tails" Et Er k
def NZ(F:Cv q "_law_tails" Es f l):Gq q 2 f l Et Er:=by
 refine' uw (vV (D':=Unit) (ms:=[]) (j:=0) F NY rfl rfl λm A c s H E o =>
   (uk (uF (wp (Ts:=["_law_low","_law_high"]) (Fr:=[]) (idx:=[]) (k:=2) (mb:=[]) (is:=[]) (cl:=[]) rfl (vG (ss 0)) X1 rfl (vY rfl) (λa b C d g=>(Bc 0 1 (BH rfl (vP (uy (i:=0) Eu) (vP (uy (i:=1) Eu) zU))) q0q q0q)) (λa b C d g=>tws_nil) (λa b C d g=>(ss 0)))))) λp r t h=>?_
 walk_at "wl"
 obtain⟨u,h⟩:=h;have v:gh=16777216:=iC;refine#[q0a,?_];refine vp (f:=λ(e:Int×Int)=>↑e.1) (λe w K n=>n) ?_;rw[oh];exact h
noncomputable abbrev Hr:gV:=top 51
abbrev Ht:List Str:=["_law_arrows"]
def RA:uq ["_law_arrows"] Ht (uh Hr):=by walk_at "sc"
def FK:(["_law_low","_law_high"]:List Str).Nodup:=by decide +kernel
abbrev UR(q:Cq)(k:Nat):=wx q "_law_heads" Ht Hg k
def RB(F:Cv q "_law_heads" Hr f l)(B:Bn q.mg):Gq q 2 f l Ht Hg:=by
 refine' uw (vV (D':=Unit) (ms:=[]) (j:=0) F RA rfl rfl λm A c s H E r =>
   (uk (uF (BS rfl B.sorted (vz (uE (wp (Ts:=["_law_low","_law_high"]) (Fr:=[]) (idx:=[]) (k:=2) (mb:=[]) (is:=[]) (cl:=[]) rfl (vG (ss 0)) X1 rfl (vY rfl) (λa b C d g=>(Bc 0 1 (BH rfl (vP (uy (i:=0) FK) (vP (uy (i:=1) FK) zU))) q0q q0q)) (λa b C d g=>tws_nil) (λa b C d g=>(ss 1))))))))) λp t u h=>?_
 walk_at "wl"
 obtain⟨n,h⟩:=h;have v:gh=16777216:=iC;refine#[q0a,?_];refine vp (f:=λ(e:Int×Int)=>↑e.2) (λe w K o=>o) ?_;rw[oh];exact#[by rw[gm];exact n,h]
noncomputable abbrev Lk:gV:=top 52
noncomputable abbrev Ll:List Str:=["_law_rows_here","_law_arrows"]
def MI:uq ["_law_rows_here","_law_arrows","_law_bound"] Ll (uh Lk):=by walk_at "sc"
def RC:(["_law_k","_law_bound"]:List Str).Nodup:=by decide +kernel
abbrev Xx(q:Cq)(k:Nat):=wx q "_law_lone" Ll KS k
def US(F:Cv q "_law_lone" Lk f o)(a:Rz q 2)(b:UR q 2)(c:Hi q 2):Gq q 3 f o Ll KS:=by
 refine' uw (vV (D':=Unit) (ms:=[]) (j:=1) F MI rfl rfl λr A g s H E i =>
   (ux (uz 2 MI.nd (AI (vz (uE (uv a (uj (ss 1) ug)))) (vz (uE (uv b (uj (ss 1) ug))))) (hx:=tX rfl))
   (uk (uF (wp (Ts:=["_law_k"]) (Fr:=["_law_bound"]) (idx:=[2]) (k:=1) (mb:=[1]) (is:=[]) (cl:=[("_law_bound",⇑s+1)]) rfl (vG (uE (uv c (uj (ss 0) ug)))) RV rfl (vY rfl) (λd e C l m=>(uM 0 (uy RC))) (λd e C l m=>(tws_one (tw_cmI DH (ss 0) (vQ 1) (by with_unfolding_all rfl)))) (λd e C l m=>(ss 0))))))) λp v w h=>?_
 walk_at "wl"
 obtain⟨i,n,t⟩:=h;have x:gh=16777216:=iC;have y:(p.2.1.map (·.1)).length=p.2.1.length:=gm _;have z:(Ak (p.2.1.map (·.2))).length=p.2.1.length:=by rw[(vR _).length_eq,gm]
 have B:=wA p.1;refine#[n,n,?_];refine#[by show (p.2.1.map (·.1)).length+(Ak (p.2.1.map (·.2))).length<=gh;lia,i,?_];exact#[by show (CA p.1).length<=gh;lia,vA (q:=λk=>!decide (k∈p.2.1.map (·.1)++Ak (p.2.1.map (·.2)))) (λk _ K u=>u) t]
end
noncomputable abbrev RD:gV:=top 38
def Xy{K:ga}{p:Scr K×Unit}{a:Bg->WL.Un×Unit->Prop}{b:ci->WL.Un×Unit->Prop}(k:a #[] (#[],())):P9 K p a b:=k
section
variable{C:ci}{x:B0 C}{rows:List RW}{a:List (Int×Int)}
def Arr.tail(A:Arr x a){k:Int}:k∈a.map (·.1)↔k∈vk x:=A.pm.mem_iff
def Arr.hdm(A:Arr x a){k:Int}(h:∃t∈vk x,vD x t=k):k∈a.map (·.2):=by obtain⟨t,m,e⟩:=h;obtain⟨b,c,q⟩:=List.mem_map.mp<|A.tail.mpr m;refine List.mem_map.mpr #[b,c,?_];rw[<- e,<- q];exact(A.hd b c).symm
def Arr.ZJ(A:Arr x a){k:Int}(h:k∈a.map (·.2)):∃t∈vk x,vD x t=k:=by obtain⟨e,b,rfl⟩:=List.mem_map.mp h;exact#[e.1,A.mem b,A.hd e b]
def v9(A:Arr x a){k:Int}:k∈Ep rows a↔(rowAt rows k).isSome=true/\k∉vk x/\k∉a.map (·.2):=by unfold Ep;rw[ik,w9,tS,decide_eq_false_iff_not,ko,ya,A.tail,oZ]
def MJ:(Ep rows a).length<=rows.length:=gW (gX _ _)<|wA rows
def RE(A:Arr x a){k:Int}(h:k∈Ep rows a):vN x k=false:=by
 have h:=(v9 A).mp h;unfold vN;rw[Mp h.2.1]
 cases e:lk x.th k with
 |none=>rfl
 |some l =>
  have b:=A.ok.th l k e;exact gA (A.hdm #[l,yV (by rw[b];rfl),by unfold vD;rw[b];rfl]) h.2.2
def N0(A:Arr x a){k:Int}(h:k∈a.map (·.2)):k∉vk x:=λz=>by obtain⟨t,m,e⟩:=A.ZJ h;refine A.ok.one k (wK z) ?_;rw[<- e,(A.ok.ht t _<|vT m).2.2.2];rfl
def BA(A:Arr x a)(c:xt x rows){k:Int}(h:k∈a.map (·.2)):(rowAt rows k).isSome=true:=by obtain⟨t,m,e⟩:=A.ZJ h;have:=A.ok.Gb m;rw[e,c.rk,ic]at this;exact this
structure Up{C:ci}(x:B0 C)(rows:List RW)(a:List (Int×Int))(l f:List Int):Prop where
 A:Arr x a
 c:xt x rows
 v:Vr rows
 ln:rows.length<=35
 ri:vE l
 ll:∀k∈l,k∈Ep rows a
 fl:∃h,f=xr l h/\Fl x (uG (vt x) l) h
def I0(A:Arr x a)(c:xt x rows)(v:Vr rows)(r:rows.length<=35)(o:vE l)(n:∀k∈l,k∈Ep rows a)(k:∀f,Up x rows a l f->Kn #[f] (x,#[],())):w_up C (x,l,()) Kn Ke:=by
 have g:∀k∈l,(rowAt rows k).isSome=true:=λk e=>((v9 A).mp<|n k e).1
 have p:∀{k:Int},(rowAt rows k).isSome=true->0<=k/\k<63:=λ{k} h=>by obtain⟨y,b⟩:=Option.isSome_iff_exists.mp h;have:=uH b;exact#[this.1,by have:=this.2.1;omega]
 refine#[#[A.ok,#[o,λk e=>p<|g k e],c.uV g,λk e=>RE A<|n k e,c.uV λd i=>?_,λd i=>p<|by rw[c.rk,ic]at i;exact i],λh f=>k _ #[A,c,v,r,o,n,h,rfl,f]];obtain⟨j,m,q⟩:=yA (λj m=>by rw[c.vt];obtain⟨y,b⟩:=Option.isSome_iff_exists.mp<|g j m;rw[ww b];exact ur (v.Hd b).1) i;obtain⟨y,b⟩:=Option.isSome_iff_exists.mp<|g j m;rw[c.vt,ww b]at q;obtain⟨_,t,s⟩:=(v.ok j y.1 y.2 b).2.2.2.1 d q;rw[s];rfl
namespace Up
variable{l f:List Int}(s:Up x rows a l f)
include s
def Xz:vE f:=by obtain⟨h,e,_⟩:=s.fl;rw[e];exact uX s.ri
def mem{k:Int}(h:k∈f):k∈l\/k∈a.map (·.2):=by obtain⟨b,e,g⟩:=s.fl;rw[e]at h;exact(AJ (ur g.ri) h).imp id λz=>s.A.hdm<|g.hs k z
def st{k:Int}(h:k∈f):(rowAt rows k).isSome=true:=(s.mem h).elim (λz=>((v9 s.A).mp<|s.ll k z).1) λz=>BA s.A s.c z
def nt{k:Int}(h:k∈f):k∉vk x:=(s.mem h).elim (λz=>((v9 s.A).mp<|s.ll k z).2.1) λz=>N0 s.A z
def low{k:Int}:k∈f/\k∈Ep rows a↔k∈l:=by refine#[λh=>(s.mem h.1).elim id λz=>gA z ((v9 s.A).mp h.2).2.2,λh=>#[?_,s.ll k h]];obtain⟨b,e,g⟩:=s.fl;rw[e];exact(yi<|ur g.ri).mpr ⟨λ_ z=>((v9 s.A).mp<|s.ll k h).2.2<|s.A.hdm<|g.hs k z,λ_=>h⟩
def len:f.length<=35:=by have:=vK s.Xz λk b=>w9.mpr<|s.st b;have:=wA rows;have:=s.ln;omega
def nf{k:Int}(h:(rowAt rows k).isSome=true):(vt x k).Nodup:=by obtain⟨y,b⟩:=Option.isSome_iff_exists.mp h;rw[s.c.vt,ww b];exact ur (s.v.Hd b).1
def ed{t:Int}(b:t∈vk x):t∉uG (eb rows) f:=by obtain⟨h,e,g⟩:=s.fl;rw[<- vq λk _=>s.c.vt k,e,xG s.ri g.ri (λk d=>s.nf ((v9 s.A).mp<|s.ll k d).1)<|FF s.A.ok g.hs];exact g.nt t b
def more(i:vE m)(j:∀k∈m,k∈a.map (·.2)):(∀t∈vk x,t∉uG (eb rows) (xr f m))↔m=[]:=by refine#[λh=>?_,λh=>by subst h;exact λt d=>s.ed d];obtain⟨n,e,g⟩:=s.fl;refine Mz s.A.ok g.od i (λk b=>s.A.ZJ<|j k b) λt d=>nL ?_;have q:=gH<|h t d;rw[<- vq λk _=>s.c.vt k,xG s.Xz i (λk b=>s.nf<|s.st b)<|λk b=>s.nf<|BA s.A s.c<|j k b,wN<|uL _ _,vq λk _=>s.c.vt k,gH<|s.ed d,oT]at q;exact q
def part:(f.filter λk=>decide<|k∈Ep rows a)=l:=CW (gU _ s.Xz) s.ri λk=>by rw[ik,hX];exact s.low
end Up
def MK(v:Vr rows)(e:∀k∈g,(rowAt rows k).isSome=true){d:Int}(f:d∈uG (eb rows) g):(rowAt rows d).isSome=true:=by obtain⟨c,m,q⟩:=yA (λc m=>by obtain⟨y,b⟩:=Option.isSome_iff_exists.mp<|e c m;rw[ww b];exact ur (v.Hd b).1) f;obtain⟨y,b⟩:=Option.isSome_iff_exists.mp<|e c m;rw[ww b]at q;obtain⟨_,i,h⟩:=(v.ok c y.1 y.2 b).2.2.2.1 d q;rw[h];rfl
def XA(v:Vr rows)(b:∀k∈g,(rowAt rows k).isSome=true):(uG (eb rows) g).length<=rows.length:=gW (vK (uL _ _) λd c=>w9.mpr<|MK v b c)<|wA rows
def RF(c:rows.length<=35){k:Int}(h:(rowAt rows k).isSome=true):k∈xY 0 35:=by obtain⟨y,b⟩:=Option.isSome_iff_exists.mp h;have:=uH b;exact yU this.1 (by have:=this.2.1;omega)
end
def X4{l k:List Int}(h:∀c∈l,c∉k):(l.filter λc=>decide<|c∈k)=[]:=List.filter_eq_nil_iff.mpr λc a z=>h c a<|jr z
def X5{l k:List Int}(h:∀c∈l,c∈k):(l.filter λc=>decide<|c∈k)=l:=List.filter_eq_self.mpr λc a=>decide_eq_true<|h c a
section
variable{C:ci}{x:B0 C}{rows:List RW}{a:List (Int×Int)}{l g:List Int}{Kb:Bool->WL.Un×Unit->Prop}{K1:OL Int->WL.Un×Unit->Prop}{K2:OL Int->WL.Un×WL.Un×Unit->Prop}{E1:ci->WL.Un×Unit->Prop}{E2:ci->WL.Un×WL.Un×Unit->Prop}
def N3{c:Bool}{P Q:Prop}(h:c=false)(k:Q):if c=true then P else Q:=by rw[gc<|by rw[h];decide];exact k
def a1J:(!decide (([]:List Int)=[]))=false:=rfl
def a2f:(!decide (l=l))=false:=by rw[decide_eq_true rfl];rfl
def a1K(h:vE l)(n:l.length<=35)(k:Kb true (#[],())):w_sum (l,()) Kb E1:=#[h,gW n q0q,k]
def a0i(n:l.length<=35)(e:(l.filter λc=>decide<|c∈g)=r)(k:K2 #[r] (#[],#[],())):Ri (l,g,()) K2 E2:=#[gW n q0q,by rw[<- e]at k;exact k]
def Ja(n:rows.length<=35)(k:K1 #[CA rows] (#[],())):KN (rows,()) K1 E1:=#[i8 n q0q,k]
def ZK(v:Vr rows)(h:∀c∈l,(rowAt rows c).isSome=true)(k:K2 #[uG (eb rows) l] (#[],#[],())):KP (rows,l,()) K2 E2:=#[v,h,k]
def ML(n:rows.length<=35)(m:a.length<=35)(k:K2 #[Ep rows a] (#[],#[],())):KS (rows,a,()) K2 E2:=#[i8 n q0q,i8 m q0q,k]
def ZL(m:a.length<=35)(k:K1 #[a.map (·.1)] (#[],())):Er (a,()) K1 E1:=#[i8 m q0q,k]
def ZM(m:a.length<=35)(k:K1 #[Ak (a.map (·.2))] (#[],())):Hg (a,()) K1 E1:=#[i8 m q0q,k]
def BB{b:Bg}{K2:OL Int->Bg×WL.Un×Unit->Prop}{E2:ci->Bg×WL.Un×Unit->Prop}(n:l.length<=35)(k:∀m,vE m->(∀x∈m,x∈l)->K2 #[m] (#[],#[],())):KO (b,l,()) K2 E2:=#[i8 n q0q,k]
def Ah(n:rows.length<=35)(c:vE l)(d:vE g)(e:∀k∈l,(rowAt rows k).isSome=true)(f:∀k∈g,(rowAt rows k).isSome=true)(k:K2 #[xr l g] (#[],#[],())):Hc (l,g,()) K2 E2 :=
 #[KR c d (λk b=>RF n<|e k b)<|λk b=>RF n<|f k b,by rw[<- PX c d]at k;exact k]
def a0j(m:a.length<=35):(Ak (a.map (·.2))).length<=35:=by rw[(vR _).length_eq,gm];exact m
def Arr.len(A:Arr x a)(c:xt x rows)(n:rows.length<=35):a.length<=35:=by have:=A.UA c n;lia
def Lm(v:Vr rows){a:List Int}(i:∀k∈a,(rowAt rows k).isSome=true):(∀k∈uG (eb rows) a,(rowAt rows k).isSome=true)/\uG (eb rows) (uG (eb rows) a)=[]/\∀k∈a,vE (eb rows k):=by
 have ed:∀k∈a,∃y,rowAt rows k=↑y:=λk e=>Option.isSome_iff_exists.mp<|i k e
 have f:∀k∈a,vE (eb rows k):=λk e=>by obtain⟨y,b⟩:=ed k e;rw[ww b];exact(v.Hd b).1
 refine#[λk e=>?_,Fp λk e=>#[f k e,λd hd=>?_,?_],f]
 ·obtain⟨d,hd,h⟩:=yA (λc j=>ur<|f c j) e;obtain⟨y,b⟩:=ed d hd;rw[ww b]at h;obtain⟨m,q⟩:=((v.ok d y.1 y.2 b).2.2.2.1 k h).2;rw[q];rfl
 ·obtain⟨y,b⟩:=ed k e;rw[ww b]at hd;obtain⟨m,q⟩:=((v.ok k y.1 y.2 b).2.2.2.1 d hd).2;rw[ww q];exact ur (v.Hd q).1
 ·obtain⟨y,b⟩:=ed k e;rw[ww b];exact(v.ok k y.1 y.2 b).2.2.2.2
def Up.Xk(s:Up x rows a l f)(t:Up x rows a l g):f=g:=by obtain⟨h,e,u⟩:=s.fl;obtain⟨d,b,c⟩:=t.fl;rw[e,b,Fl.Xk s.A.ok u c]
def Up.bst(s:Up x rows a l f){k:Int}(h:k∈uG (eb rows) f):(rowAt rows k).isSome=true:=MK s.v (λc d=>s.st d) h
/-- the slim b -/
noncomputable def RX(rows:List RW)(a:List (Int×Int))(f:List Int):List Int:=(uG (eb rows) f).filter λk=>decide<|k∈Ep rows a
def RG(A:Arr x a){k:Int}(h:(rowAt rows k).isSome=true):(!vN x k)=decide (k∈Ep rows a):=by
 by_cases q:k∈Ep rows a
 ·rw[RE A q,decide_eq_true q];rfl
 ·rw[gH q]
  cases e:vN x k with
  |true=>rfl
  |false =>
   refine gA ((v9 A).mpr #[h,λz=>?_,λz=>?_]) q
   ·unfold vN at e;rw[wK z]at e;cases e
   ·obtain⟨t,m,b⟩:=A.ZJ z;unfold vN at e;rw[<- b,(A.ok.ht t _<|vT m).2.2.2]at e;simp at e
def Df(A:Arr x a)(c:xt x rows)(v:Vr rows)(j:rows.length<=35)(m:vE l)(n:∀k∈l,k∈Ep rows a)(k:∀f,Up x rows a l f->i #[RX rows a f] (x,#[],())):yj C (x,l,()) i q:=by
 have u:=I0 (Kn:=λf p=>Up x rows a l f.l) (Ke:=λ_ _=>True) A c v j m n λf s=>s;refine#[u.1,λh o=>?_];have s:Up x rows a l (xr l h):=u.2 h o;have e:uG (vt x) (xr l h)=uG (eb rows) (xr l h):=vq λk _=>c.vt k;refine#[#[c.uV λk d=>s.st d,?_],?_]
 ·have:=XA v (g:=xr l h) λk d=>s.st d;show (uG (vt x)<|xr l h).length<=1000;rw[e];omega
 ·show i #[(uG (vt x)<|xr l h).filter λk=>!vN x k] (x,#[],());rw[e,kF λk d=>RG A<|s.bst d];exact k _ s
/-- up of the slim b is the b of up -/
def Up.slim(s:Up x rows a l f)(t:Up x rows a (RX rows a f) g):g=uG (eb rows) f:=by
 have st:∀k∈f,(rowAt rows k).isSome=true:=λk b=>s.st b;have bs:=Lm s.v st
 let hd:=(uG (eb rows) f).filter λk=>!decide (k∈Ep rows a)
 have h:vE (RX rows a f):=gU _<|uL _ _;have d:vE hd:=gU _<|uL _ _
 have e:xr (RX rows a f) hd=uG (eb rows) f:=xQ (uX h) (uL _ _) λk=>by rw[wN d];show xor (decide<|k∈(uG (eb rows) f).filter λk=>decide<|k∈Ep rows a) (decide<|k∈(uG (eb rows) f).filter λk=>!decide (k∈Ep rows a))=_;by_cases p:k∈uG (eb rows) f<;>by_cases q:k∈Ep rows a<;>simp[ik,p,q]
 have i:∀k∈hd,k∈a.map (·.2):=λk b=>by
  have b:=List.mem_filter.mp b;have nl:k∉Ep rows a:=λz=>by have:=b.2;rw[decide_eq_true z]at this;cases this
  refine Decidable.byContradiction λz=>nl<|(v9 s.A).mpr ⟨s.bst b.1,λy=>s.ed y b.1,z⟩
 obtain⟨n,j,u⟩:=t.fl;have m:∀k∈RX rows a f,(rowAt rows k).isSome=true:=λk b=>s.bst (List.mem_filter.mp b).1
 have F:Fl x (uG (vt x) (RX rows a f)) hd:=#[d,λk b=>s.A.ZJ (i k b),λy o=>by
  rw[<- xG h d (λk b=>s.nf<|m k b) (λk b=>s.nf<|BA s.A s.c<|i k b),e,vq λk _=>s.c.vt k,bs.2.1]
  exact gP,u.od]
 rw[j,Fl.Xk s.A.ok u F,e]
def BC:vE []:=gS
def Fl.st(A:Arr x a)(c:xt x rows)(f:Fl x l h):∀k∈h,(rowAt rows k).isSome=true:=λk b=>BA A c<|A.hdm<|f.hs k b
def Hu(c:xt x rows)(v:Vr rows)(s:∀k∈l,(rowAt rows k).isSome=true):∀k∈l,(vt x k).Nodup:=λk d=>by obtain⟨y,b⟩:=Option.isSome_iff_exists.mp<|s k d;rw[c.vt,ww b];exact ur (v.Hd b).1
def Lo(e:rows.length<=35)(b:vE l)(s:∀k∈l,(rowAt rows k).isSome=true):IU l:=#[b,λk c=>by
 obtain⟨y,d⟩:=Option.isSome_iff_exists.mp<|s k c;have:=uH d
 exact#[this.1,by have:=this.2.1;omega]]
def Hv(A:Arr x a)(c:xt x rows)(d:rows.length<=35)(e:vE l)(s:∀k∈l,(rowAt rows k).isSome=true)(k:∀h,Fl x l h->f #[h] (x,#[],())):Eh C j m (x,l,()) f n:=by refine#[A.ok,Lo d e s,?_];show if uV x l=true then _ else _;rw[f9<|c.uV s];exact λo i=>k _<|KC A.ok i
/-- b is carried down -/
def X6(rows:List RW)(a:List (Int×Int))(l h:List Int):List Int:=(xr l<|uG (eb rows) h).filter λk=>decide<|k∈Ep rows a
def Dg(A:Arr x a)(c:xt x rows)(v:Vr rows)(i:rows.length<=35)(j:vE l)(s:∀k∈l,(rowAt rows k).isSome=true)(k:∀h,Fl x l h->m #[X6 rows a l h] (x,#[],())):KD C (x,l,()) m o:=by refine#[#[A.ok,Lo i j s,c.uV s],λh f=>?_];have e:=f.st A c;have b:=Lo i (uL (eb rows) h) λk d=>MK v e d;have n:∀k∈xr l (uG (eb rows) h),(rowAt rows k).isSome=true:=λk d=>(AJ (ur b.ri) d).elim (s k)<|MK v e;have:=vK (uX j) λk d=>w9.mpr<|n k d;have:=wA rows;show (uV x h=true/\IU (uG (vt x) h)/\(xr l<|uG (vt x) h).length<=1000)/\m ⟨(xr l<|uG (vt x) h).filter λk=>!vN x k⟩ (x,#[],());rw[vq λk _=>c.vt k,kF λk d=>RG A<|n k d];exact#[#[c.uV e,b,q0d],k h f]
def MM(b:vE l):vE (X6 rows a l h):=gU _<|uX b
def Hw(A:Arr x a):∀k∈l.filter λk=>decide<|k∈Ep rows a,(rowAt rows k).isSome=true:=λk b=>((v9 A).mp<|jr (List.mem_filter.mp b).2).1
def ZN(e:l=[]):(!decide (l=[]))=false:=by rw[e];rfl
def RH(b:vE l)(c:vE m):(xr l m).filter p=xr (l.filter p) (m.filter p):=xQ (gU _<|uX b) (uX<|gU _ b) λk=>by
 rw[wN<|gU _ c];have e:=wN (a:=l) (x:=k) c;have q:∀r:List Int,decide (k∈r.filter p)=(decide (k∈r)&&p k):=λr=>by by_cases z:k∈r<;>cases w:p k<;>simp[ik,z,w]
 rw[q,q,q,e];cases decide (k∈l)<;>cases decide (k∈m)<;>cases p k<;>rfl
def xr4(b:vE l)(c:vE m)(d:vE f)(e:vE g):xr (xr l m) (xr f g)=xr (xr l f) (xr m g):=xQ (uX<|uX b) (uX<|uX b) λk=>by rw[wN<|uX d,wN<|uX c,wN c,wN d,wN e,wN e];cases decide (k∈l)<;>cases decide (k∈m)<;>cases decide (k∈f)<;>cases decide (k∈g)<;>rfl
def Fl.two(A:Arr x a)(c:vE m)(f:Fl x l d)(g:Fl x m e)(b:Fl x (xr l m) h):h=xr d e:=b.Xk A.ok<|f.add A.ok c g
def VC(A:Arr x a)(c:xt x rows)(v:Vr rows)(d:vE l)(e:vE m)(f:∀k∈l,(rowAt rows k).isSome=true)(h:∀k∈m,(rowAt rows k).isSome=true):uG (eb rows) (xr l m)=xr (uG (eb rows) l) (uG (eb rows) m) :=
 xG d e (λk b=>by have:=Hu c v f k b;rw[c.vt]at this;exact this) λk b=>by have:=Hu c v h k b;rw[c.vt]at this;exact this
def XD(A:Arr x a)(c:xt x rows)(v:Vr rows)(e:vE l)(d:vE m)(f:Fl x l i)(g:Fl x m j)(b:Fl x (xr l m) h):X6 rows a (xr l m) h=xr (X6 rows a l i) (X6 rows a m j):=by unfold X6;rw[b.Xk A.ok<|f.add A.ok d g,VC A c v f.ri g.ri (f.st A c)<|g.st A c,xr4 e d (uL _ _)<|uL _ _,RH (uX e)<|uX d]
def Up.two(s:Up x rows a l f1)(t:Up x rows a m f2)(b:Up x rows a (xr l m) f):f=xr f1 f2:=by obtain⟨p,n,i⟩:=s.fl;obtain⟨q,o,j⟩:=t.fl;obtain⟨h,e,u⟩:=b.fl;rw[xG s.ri t.ri (Hu s.c s.v λk d=>((v9 s.A).mp<|s.ll k d).1)<|Hu s.c s.v λk d=>((v9 s.A).mp<|t.ll k d).1]at u;rw[e,n,o,u.Xk s.A.ok<|i.add s.A.ok (uL _ _) j,xr4 s.ri t.ri i.ri j.ri]
def Up.a1M(s:Up x rows a l f1)(t:Up x rows a m f2)(b:Up x rows a (xr l m) f):RX rows a f=xr (RX rows a f1) (RX rows a f2):=by unfold RX;rw[s.two t b,VC s.A s.c s.v s.Xz t.Xz (λk d=>s.st d)<|λk d=>t.st d,RH (uL _ _)<|uL _ _]
def Fl.nil(A:Arr x a)(f:Fl x [] h):h=[]:=f.Xk A.ok #[BC,λk z=>(gP z).elim,(λt _ z=>(gP<|show t∈([]:List Int) from z).elim),f.od]
def Up.nil(s:Up x rows a [] f):f=[]:=by obtain⟨h,e,u⟩:=s.fl;have:=Fl.nil s.A u;rw[e,this];rfl
def RI(C:ci):Wf (B0 C×List Int×List Int×List Int×List Int×Unit) Bool (B0 C×WL.Un×WL.Un×WL.Un×WL.Un×Unit):=λp b _ =>
 (∃rows a,Arr p.1 a/\xt p.1 rows/\Vr rows/\rows.length<=35/\(vE p.2.1/\∀k∈p.2.1,(rowAt rows k).isSome=true)/\(vE p.2.2.1/\∀k∈p.2.2.1,(rowAt rows k).isSome=true)/\(vE p.2.2.2.1/\∀k∈p.2.2.2.1,k∈Ep rows a)/\vE p.2.2.2.2.1/\∀k∈p.2.2.2.2.1,k∈Ep rows a)/\b true (p.1,#[],#[],#[],#[],())
abbrev Lq:gV:=top 53
abbrev Lr:List Str:=["_law_field","_law_one","_law_other","_law_lone_here","_law_more"]
def y8:uq ["_law_field","_law_one","_law_other","_law_lone_here","_law_more","_law_both","_law_found"] Lr (uh Lq):=by walk_at "sc"
abbrev XG(q:Cq)(C:ci)(k:Nat):=wx q "_law_adds" Lr (RI C) k
def UT(F:Cv q "_law_adds" Lq f Q)(d:Hh q 9)(e:Bx q C U W 9)(i:Xt q 9)(m:Q2 q C 9)(r:Xn q C 9)(b:Aw q C 9):Gq q 10 f Q Lr (RI C):=by
 refine' uw (vV (D':=Unit) (ms:=[0]) (j:=2) F y8 rfl rfl λR A N s H E X =>
   (ux (uz 5 y8.nd (uv d (uj (ss 1) (uj (ss 2) ug))))
   (ux (uz 6 y8.nd (uv e (uA 0 (uJ 5 ug))))
   (ux (uZ (tw_not (tw_val (uB (uv i (uJ 6 (uj (uE (uv d (uj (uE (uv e (uA 0 (uj (ss 1) ug)))) (uj (uE (uv e (uA 0 (uj (ss 2) ug)))) ug)))) ug))))))
   (uk<|uF<|uW Co)
   uN)
   (ux (uz 6 y8.nd (uv m (uA 0 (uJ 5 ug))))
   (ux (uZ (tw_not (tw_val (uB (uv i (uJ 6 (uj (uE (uv d (uj (uE (uv m (uA 0 (uj (ss 1) ug)))) (uj (uE (uv m (uA 0 (uj (ss 2) ug)))) ug)))) ug))))))
   (uk<|uF<|uW Co)
   uN)
   (ux (uz 5 y8.nd (uv d (uj (ss 3) (uj (ss 4) ug))))
   (ux (uz 6 y8.nd (uv r (uA 0 (uJ 5 ug))))
   (ux (uZ (tw_not (tw_val (uB (uv i (uJ 6 (uj (uE (uv d (uj (uE (uv r (uA 0 (uj (ss 3) ug)))) (uj (uE (uv r (uA 0 (uj (ss 4) ug)))) ug)))) ug))))))
   (uk<|uF<|uW Co)
   uN)
   (ux (uz 6 y8.nd (uv b (uA 0 (uJ 5 ug))))
   (uk (uF (uv i (uJ 6 (uj (uE (uv d (uj (uE (uv b (uA 0 (uj (ss 3) ug)))) (uj (uE (uv b (uA 0 (uj (ss 4) ug)))) ug)))) ug))))))))))))))) λp Y Z h=>?_
 walk_at "wl"
 obtain⟨⟨rows,a,A,c,v,n,⟨t,G⟩,⟨u,I⟩,⟨z,J⟩,L,M⟩,o⟩:=h;have O:=λk o=>(AJ (ur u) o).elim (G k)<|I k;have P:=λk o=>(AJ (ur L) o).elim (J k)<|M k;refine Ah n t u G I<|Hv A c n (uX t) O λh f=>Hv A c n t G λS w=>Hv A c n u I λT y=>Ah n w.ri y.ri (w.st A c) (y.st A c)<|C9 (w.two A u y f)<|N3 rfl ?_;refine Dg A c v n (uX t) O λh f=>Dg A c v n t G λS w=>Dg A c v n u I λT y=>Ah n (MM t) (MM u) (Hw A) (Hw A)<|C9 (XD A c v t u w y f)<|N3 rfl ?_;refine Ah n z L (λk o=>((v9 A).mp<|J k o).1) (λk o=>((v9 A).mp<|M k o).1)<|I0 A c v n (uX z) P λf s=>I0 A c v n z J λw B=>I0 A c v n L M λy D=>Ah n B.Xz D.Xz (λk o=>B.st o) (λk o=>D.st o)<|C9 (B.two D s)<|N3 rfl ?_;exact Df A c v n (uX z) P λf s=>Df A c v n z J λw B=>Df A c v n L M λy D=>Ah n (gU _<|uL _ _) (gU _<|uL _ _) (Hw A) (Hw A)<|C9 (B.a1M D s) o
end
section
variable{q:Cq}{C XC XS XO XB XP XV Xb XF XT XN XR XL:ci}
noncomputable abbrev BD:gV:=top 54
def y9:uq ["_law_script","_law_bag_here","_law_field","_law_rows_here","_law_arrows","_law_one","_law_other","_law_lone_here","_law_more"] ["_law_script"] (uh BD):=by walk_at "sc"
def XH{f:ci}{I:hV}(F:Cv q "law" BD f I)(w:wx q "_law_bag" ["_law_script"] (P9 q.K) 10)(o:UQ q C 10)(d:Rp q 10)(g:Hi q 10)(l:Xx q 10)(r:XG q C 10)(m:Bx q C XS XC 10)(t:Q2 q C 10)(y:Xn q C 10)(e:Aw q C 10):Gq q 11 f I ["_law_script"] (Vx q.K):=by
 refine' uw (vV (D':=Unit) (ms:=[]) (j:=8) F y9 rfl rfl λN A D s H E B =>
   (ux (uz 1 y9.nd (uv w (uj (ss 0) ug)))
   (ux (TV 2 3 4 (BH rfl (vP (uy (i:=2) y9.nd rfl (lV rfl)) (vP (uy (i:=3) y9.nd rfl (lV rfl)) (vP (uy (i:=4) y9.nd rfl (lV rfl)) zU)))) q0q q0q q0q (uv o (uA 1 (uj um ug))))
   (ux (uz 5 y9.nd (uv d (uA 1 (uj (uE (uv g (uJ 3 ug))) ug))))
   (ux (uz 6 y9.nd (uv d (uA 1 (uj (uE (uv g (uJ 3 ug))) ug))))
   (ux (uz 7 y9.nd (uv d (uA 1 (uj (uE (uv l (uJ 3 (uJ 4 ug)))) ug))))
   (ux (uz 8 y9.nd (uv d (uA 1 (uj (uE (uv l (uJ 3 (uJ 4 ug)))) ug))))
   (ux (uZ (tw_not (tw_val (uB (uv r (uA 2 (uJ 5 (uJ 6 (uJ 7 (uJ 8 ug)))))))))
   (uk<|uF<|uW Co)
   uN)
   (ux (uZ (tw_w (Pu (tw_cmL (BU B.units) (vz (uE (uv m (uA 2 (uj (uE (uD (α:=Int) uC)) ug))))) (vz (uE (uD (α:=Int) uC))) (wB _)) (JV (tw_cmL (BU B.units) (vz (uE (uv t (uA 2 (uj (uE (uD (α:=Int) uC)) ug))))) (vz (uE (uD (α:=Int) uC))) (wB _)))))
   (uk<|uF<|uW Co)
   uN)
   (uk (uF (uW (JX (JU (DG B.units) (vz (uE (uv y (uA 2 (uj (uE (uD (α:=Int) uC)) ug))))) (vz (uE (uD (α:=Int) uC))) (wB _)) (CT (JU (DG B.units) (vz (uE (uv e (uA 2 (uj (uE (uD (α:=Int) uC)) ug))))) (vz (uE (uD (α:=Int) uC))) (wB _)))))))))))))))) λp J Z h=>?_
 walk_at "wl"
 have h:J true (#[],()):=h;refine Xy ?_;refine#[#[q0q,q0q],λx u a c v n A=>?_];have L:=A.len c n;have M:=gW (wA u) n;refine Ja n<|BB M λl1 O P=>Ja n<|BB M λl2 Q R=>ML n L<|BB (gW MJ n) λl3 S T=>ML n L<|BB (gW MJ n) λl4 U W=>#[#[u,a,A,c,v,n,#[O,λk G=>w9.mp<|P k G],⟨Q,λk G=>w9.mp<|R k G⟩,⟨S,T⟩,U,W],N3 rfl ?_];refine Hv A c n BC (λk z=>(gP z).elim) λh0 X=>N3 (ZN<|Fl.nil A X) ?_;refine Dg A c v n BC (λk z=>(gP z).elim) λh1 Y=>N3 (ZN<|by rw[Fl.nil A Y];rfl) ?_;refine I0 A c v n BC (λk z=>(gP z).elim) λf s=>?_;refine Eq.mpr (f9<|decide_eq_true s.nil)<|Df A c v n BC (λk z=>(gP z).elim) λf s=>?_;refine Eq.mpr (congrArg (λb=>J b _)<|decide_eq_true<|by rw[s.nil];rfl) h
end
section
variable{P:gY}{w:il}{K:ga}{mg:Str->Option cr}{base:h8}
def RJ:uq ["_law_bag_here","_law_many","_law_seed","_law_mixed","_law_drawn"] ["_law_bag_here","_law_many"] (uh KL):=#[rfl,rfl,rfl,q0s,rfl,q0s,q0s]
def UU(F:yo K "_law_pull" "_law_pull" KL f I)(c:mg "len"=none):uR P w K mg base OS 1 f I ["_law_bag_here","_law_many"] WL.PL:=by
 refine F.ok RJ (λJ H Q E h=>?_)<|λL A p s H J Q E N h=>?_
 ·obtain⟨g,q,m,i,z,s,e,rfl,_⟩:=h;rfl
 ·obtain⟨g,q,m,i,z,j,e,rfl,B,d,v,k⟩:=h;have l:=RJ.nd
  refine#[_,vF (LA (w6 U9 (xv v4 (pv 0) uK (λ_ _=>rfl)) uK (wB _))
    (vF (Sd (pv 0) uK O6 uK Oh set_list)
    (vF (zk (i:=2) l rfl (lV rfl) (xv v4 (pv 0) uK (λ_ _=>rfl)))
    (vF (LA (w6 U9 (xv v4 (pv 0) uK (λ_ _=>rfl)) (wj xB (by rfl) c mO (ut (xv v4 (pv 0) uK (λ_ _=>rfl)) uI)) (wB _))
     (w4 (zk (i:=2) l rfl (lV rfl) (xv v4 (xv v4 (pv 0) uK (λ_ _=>rfl)) (wg Jo (xv v4 (pv 0) uK (λ_ _=>rfl)) uK) (λ_ _=>rfl)))) yJ)
    (vF (LA (U1 (w6 Va (xv v4 (pv 0) uK (λ_ _=>rfl)) (wj xB (by rfl) c mO (ut (xv v4 (pv 0) uK (λ_ _=>rfl)) uI)) (wB _)) (Oe (w6 U8 (pv 2) (wg V3 uK uK) (wB _)))).pt
     (vF (zk (i:=3) l rfl (lV rfl) (wg BI (wg AB (wg AB (wg AC (pv 2) uK) (wg AC (xv v4 (pv 0) uK (λ_ _=>rfl)) uK)) uK) uK))
     (vF (zk (i:=3) l rfl (lV rfl) (wg BI (wg AC (pv 3) (pv 3)) uK))
     (w4 (BG (wg BI (wg LB (wg BI (wg AC (wg AB (pv 3) (xv v4 (pv 0) uK (λ_ _=>rfl))) uK) uK) uK) (pv 1)))))) yJ)
    (w4 (Jl (pv 2) (Og (pv 0) uK set_list))))))) yJ)
   (vF (zk (i:=4) l rfl (lV rfl) (wg BI (xv v4 (pv 0) uK (λ_ _=>rfl)) (pv 1)))
   (vF (Jl (wg LB (xv v4 (pv 0) uK (λ_ _=>rfl)) (pv 1)) (Og (pv 0) uK set_list))
   (w4 (BG (pv 4))))),?_]
  refine#[_,rfl,g,_,_,_,rfl,rfl,vJ.of B.ob,PJ _ _ _ _,_,_,rfl,rfl,_,rfl,?_];refine Sz (λ_=>?_)<|λ_=>?_
  ·-- r[1] += 1;x=r[3]
   refine#[_,rfl,g,_,_,_,rfl,rfl,B.ob,q0q,rfl,_,_,rfl,rfl,g,_,_,1,rfl,rfl,B.ob,rfl,?_];have a:Cu (upd H g<|.lst<|EI q (i+1) z j) g q m (i+1) z j:=B.put (by have:=B.i0;lia);refine⟨_,rfl,g,_,_,_,rfl,rfl,vJ.of a.ob,a1l _ _ _ _,?_⟩;refine⟨_,rfl,g,_,_,_,rfl,rfl,vJ.of a.ob,PH _ _ _ _,_,rfl,g,_,_,_,rfl,rfl,vJ.of a.ob,WQ _ _ _ _,q,_,rfl,.inl<|vJ.of a.sc,_,_,rfl,rfl,_,rfl,?_⟩;have b:=a;refine' cutG (α:=Int) (G:=_) (λy=>Sz (λC=>?_)<|λC=>?_) ?_
   rotate_left
   ·have t:i+1<=((m.map V.int).length:Int):=jr C;rw[gm]at t;obtain⟨n,M⟩:=Tj (ns:=m) (i:=i+1-1) (by have:=B.i0;lia) q0a;refine#[_,rfl,g,_,_,_,rfl,rfl,vJ.of a.ob,WQ _ _ _ _,_,rfl,g,_,_,_,rfl,rfl,vJ.of a.ob,PH _ _ _ _,_,_,rfl,rfl,q,_,_,_,rfl,rfl,vJ.of a.sc,M,?_];exact y n
   ·exact y j
   ·intro n;refine#[_,rfl,g,_,_,_,rfl,rfl,vJ.of a.ob,PH _ _ _ _,_,rfl,g,_,_,_,rfl,rfl,vJ.of a.ob,WQ _ _ _ _,q,_,rfl,.inl<|vJ.of a.sc,_,_,rfl,rfl,_,rfl,?_];refine' cutP (G:=_) (λD=>Sz (λ_=>a0U D)<|λ_=>?_) ?_
    ·refine#[_,rfl,_,_,rfl,rfl,#[q0q,q0q,q0q],_,_,rfl,rfl,_,rfl,?_];refine Sz (λ_=>D)<|λ_=>?_;refine#[_,rfl,_,rfl,g,_,_,2,rfl,rfl,a.ob,rfl,?_];have b:=a.put (z':=n) a.i0;have u:=(Kp.at (g:=g) (H:=H) (o:=.lst<|EI q (i+1) z j)).trans<|Kp.at (o:=.lst<|EI q (i+1) n j);refine#[_,rfl,g,_,_,_,rfl,rfl,vJ.of b.ob,PJ _ _ _ _,_,rfl,_,_,rfl,rfl,d,?_];refine#[_,rfl,g,_,_,_,rfl,rfl,vJ.of b.ob,PJ _ _ _ _,_,rfl,_,_,rfl,rfl,#[d,v],_,rfl,g,_,_,2,rfl,rfl,b.ob,rfl,?_];exact#[_,rfl,k _ _ _ _ (u.trans Kp.at) (b.put b.i0) (qH _ q0a)<|pL _ d]
    ·refine#[_,rfl,_,_,rfl,rfl,.inr #[q0q,q0q],_,rfl,g,_,_,_,rfl,rfl,vJ.of a.ob,PH _ _ _ _,_,_,rfl,rfl,.inr #[q0q,q0q],_,_,rfl,rfl,_,_,rfl,rfl,_,_,rfl,rfl,(by show (0:Int)<2147483647;decide),?_];refine#[_,rfl,_,rfl,_,_,rfl,rfl,.inl<|Y0 _,_,_,rfl,rfl,(by show (0:Int)<2147483629;decide),?_];refine#[_,rfl,_,rfl,g,_,_,_,rfl,rfl,vJ.of a.ob,PH _ _ _ _,_,_,rfl,rfl,_,_,rfl,rfl,.inr #[q0q,q0q],_,_,rfl,rfl,(by show (0:Int)<998244353;decide),_,_,rfl,rfl,#[q0q,q0q],_,rfl,_,_,rfl,rfl,d,?_];exact k _ _ _ _ Kp.at a (qH _ q0a)<|pL _ d
  ·have b:=B;have u:=Kp.refl g H;refine#[_,rfl,g,_,_,_,rfl,rfl,vJ.of b.ob,PJ _ _ _ _,_,rfl,_,_,rfl,rfl,d,?_];refine#[_,rfl,g,_,_,_,rfl,rfl,vJ.of b.ob,PJ _ _ _ _,_,rfl,_,_,rfl,rfl,#[d,v],_,rfl,g,_,_,2,rfl,rfl,b.ob,rfl,?_];exact#[_,rfl,k _ _ _ _ (u.trans Kp.at) (b.put b.i0) (qH _ q0a)<|pL _ d]
def MN:uq ["_law_script","_law_salt","_law_one"] ["_law_script"] (uh RD):=#[rfl,rfl,rfl,q0s,rfl,q0s,q0s]
def a1N(a:List Int)(b c:Option Int):∃d:List Int,Do (a.map V.int) b c=d.map V.int:=by unfold Do;exact#[_,by rw[<- List.map_drop,<- List.map_take]]
def XI(F:yo K "_law_bag" "_law_bag" RD f U)(m:mg "len"=none)(g:mg "list"=none):uR P w K mg base OS 1 f U ["_law_script"] (WL.Vw K):=by
 refine F.ok MN (λX H Q E h=>?_)<|λY A B s H X Q E hr h=>?_
 ·obtain⟨a,N,rfl,_⟩:=h;rfl
 ·obtain⟨a,N,rfl,C,k⟩:=h
  refine#[_,vF (zk (i:=1) MN.nd rfl (lV rfl) (wj xB (by rfl) m mO (ut (zo CN (pv 0) CL (CM uK)) uI)))
   (vF (Ol PassesOwn.never rfl (FO (zo CN (pv 0) CL (CM uK))) (uy (i:=2) MN.nd)
    (w4 (zk (i:=1) MN.nd rfl (lV rfl) (wg BI (wg AB (wg AC (pv 1) uK) (pv 2)) uK))))
   (w4 (BG (Ou (ut (wP xC rfl g jU (ut (zo CN (pv 0) CL (CM uK)) uI)) (ut uK (ut uK (ut (pv 1) uI)))))))),?_]
  obtain⟨b,j⟩:=a1N N none<|some 63;refine⟨_,rfl,63,rfl,a,_,rfl,C,λp Z=>?_⟩;rw[j];have O:CH H (upd H p<|.lst<|b.map V.int):=zy Z;refine⟨p,_,rfl,.inl<|vJ.of ul,?_⟩;refine⟨_,rfl,63,rfl,a,_,rfl,O.seq C,λn D=>?_⟩;rw[j];have s2:CH (upd H p<|.lst<|b.map V.int) (upd (upd H p<|.lst<|b.map V.int) n<|.lst<|b.map V.int):=zy D;have c:=O.trans s2;generalize G:upd (upd H p<|.lst<|b.map V.int) n (.lst<|b.map V.int)=H2 at c;have q:H2 n=↑(.lst<|b.map V.int):=by rw[<- G];exact ul
  refine#[n,rfl,#[_,vJ.of q],Om (K:=K) (a:=n) (xs:=b.map V.int) (λi u x=>x=H2/\∃(r:Int)(v:Option V),u=[some<|.ref a,some<|.int r,v]) ⟨rfl,_,none,rfl⟩ (λi u x _ z9=>e0a2 z9 λe _=>by rw[e];exact vJ.of q) ?_ ?_]
  ·rintro i y u x d ⟨rfl,r,v,rfl⟩
   obtain⟨z,rfl⟩:∃z,y=V.int z:=by
    rw[ja]at d
    cases e:b[i]? with
    |none=>rw[e]at d;cases d
    |some z=>rw[e]at d;exact#[z,(iq d).symm]
   exact#[_,rfl,_,_,rfl,rfl,.inr #[q0q,q0q],_,rfl,_,_,rfl,rfl,_,_,rfl,rfl,(by show (0:Int)<1000003;decide),rfl,_,_,rfl]
  ·rintro u x ⟨rfl,r,v,rfl⟩;refine#[_,rfl,63,rfl,a,_,rfl,c.seq C,λp3 I=>?_];rw[j];refine#[p3,_,rfl,.inl<|vJ.of ul,λJ t=>#[_,rfl,(by decide:4<=gh),λR l=>?_]];have L:=zy (o:=.lst<|b.map V.int) I;have S:=zy (o:=.lst<|b.map V.int) t;have T:=zy (o:=.lst<|EI J 0 0 r) l;have M:J≠R:=uu ul l;refine k _ R J b r (((c.trans L).trans S).trans T) #[ul,T _ _ ul,nC _,M] ?_ ?_
   ·exact(((c.trans L).trans S).free l)
   ·exact((c.trans L).free t)
end
section
variable{q:Cq}{C XC XS XO XB XP XV Xb XF XT XN XR XL:ci}
noncomputable abbrev Ls:gV:=BF (top 31) 1
def UV:xR Cw Cw (uh Ls):=by walk_at "ss"
noncomputable abbrev Ev:gV:=BF (top 31) 4
def N4:xR ye ye (uh Ev):=by walk_at "ss"
noncomputable abbrev Hx:gV:=BF (top 31) 8
def RK:xR zM zM (uh Hx):=by walk_at "ss"
noncomputable abbrev za:gV:=BF (top 31) 9
def ET:xR vW vW (uh za):=by walk_at "ss"
noncomputable abbrev Ce:gV:=BF (top 31) 7
def Lu:xR xm xm (uh Ce):=by walk_at "ss"
noncomputable abbrev Hy:gV:=BF (top 31) 2
def Jb:xR zN zN (uh Hy):=by walk_at "ss"
def UW{f:ci}{fd:hV}{k:Nat}(F:DY q.P q.K C "put" "Field.put" Ls f fd)(G:Fs q.P q.w q.K q.mg q.base C "put" Cw (xW q.T<|IM C XB XS XC XO XP) k):Gq q (k+1) f fd Cw (IM C XB XS XC XO XP) :=
 zC (m:="put") (ta:=(Ci (uT 1)<|Ci (uT 2) CF)) F UV rfl rfl (λ_=>#[_,rfl]) G (λyE cc A outer s H E=>(ut (pv 1)<|ut (pv 2) uI)) (λa r H Q hl h=>by obtain⟨u1,u2,rfl⟩:=lx2 r<|lE hl;exact⟨u1,rfl,u2,rfl,h⟩) (λf2 env h=>cw_cons h)
def N5{f:ci}{fd:hV}{k:Nat}(F:DY q.P q.K C "cells" "Field.cells" Ev f fd)(G:Fs q.P q.w q.K q.mg q.base C "cells" ye (xW q.T<|C8 C) k):Gq q (k+1) f fd ye (C8 C) :=
 zC (m:="cells") (ta:=CF) F N4 rfl rfl (λ_=>#[_,rfl]) G (λyE cc A outer s H E=>uI) (λa r H Q hl h=>by obtain rfl:=lx0 r<|lE hl;exact h) (λf2 env h=>cw_nil h)
def RL{f:ci}{fd:hV}{k:Nat}(F:DY q.P q.K C "over" "Field.over" Hx f fd)(G:Fs q.P q.w q.K q.mg q.base C "over" zM (xW q.T<|GG C XC) k):Gq q (k+1) f fd zM (GG C XC) :=
 zC (m:="over") (ta:=(Ci (uT 1) CF)) F RK rfl rfl (λ_=>#[_,rfl]) G (λyE cc A outer s H E=>(ut (pv 1) uI)) (λa r H Q hl h=>by obtain⟨u1,rfl⟩:=lx1 r<|lE hl;exact⟨u1,rfl,h⟩) (λf2 env h=>cw_cons h)
def EU{f:ci}{fd:hV}{k:Nat}(F:DY q.P q.K C "border_of" "Field.border_of" za f fd)(G:Fs q.P q.w q.K q.mg q.base C "border_of" vW (xW q.T<|xl C XS XC) k):Gq q (k+1) f fd vW (xl C XS XC) :=
 zC (m:="border_of") (ta:=(Ci (uT 1) CF)) F ET rfl rfl (λ_=>#[_,rfl]) G (λyE cc A outer s H E=>(ut (pv 1) uI)) (λa r H Q hl h=>by obtain⟨u1,rfl⟩:=lx1 r<|lE hl;exact⟨u1,rfl,h⟩) (λf2 env h=>cw_cons h)
def Lv{f:ci}{fd:hV}{k:Nat}(F:DY q.P q.K C "border" "Field.border" Ce f fd)(G:Fs q.P q.w q.K q.mg q.base C "border" xm (xW q.T<|Bo C XC) k):Gq q (k+1) f fd xm (Bo C XC) :=
 zC (m:="border") (ta:=(Ci (uT 1) CF)) F Lu rfl rfl (λ_=>#[_,rfl]) G (λyE cc A outer s H E=>(ut (pv 1) uI)) (λa r H Q hl h=>by obtain⟨u1,rfl⟩:=lx1 r<|lE hl;exact⟨u1,rfl,h⟩) (λf2 env h=>cw_cons h)
def RM{f:ci}{fd:hV}(F:DY q.P q.K C "take" "Field.take" Hy f fd)(ct:Ab q.K C)(wL:vZ q C XC 7)(N6:Ad q C 7)(G:Fs q.P q.w q.K q.mg q.base C "take" zN (xW q.T<|GH C XC XV) 7):Gq q 8 f fd zN (G4 C XC XV):=by
 refine' uw (Zm (A:=B0 C×Int×Unit) (PO:=B0 C×WL.Un×Unit) (ms:=[0]) (uQ q0q) F Jb rfl λyE cc A outer s H E D hr =>
  Vy (vf<|uB<|vo 0 wL (uj (ss 1) ug) (hx:=Qb))
   (Vy (uZ (tw_val (uB (vo 0 N6 (uj (ss 1) ug) (hx:=Qb)))) Pm uN)
    (TQ (m:="take") (ta:=Ci (uT 1) CF) D Jb rfl (λ_=>#[_,rfl]) G hr (ut (pv 1) uI) (λa r H Q hl h=>by obtain⟨u,rfl⟩:=lx1 r hl;exact#[u,rfl,h]) (λf2 env h=>cw_cons h)))) λp Kn Ke h=>?_
 walk_at "wl"
 obtain⟨t,ok,h⟩:=h;show if (lk p.1.rk p.2.1).isSome=true then (if vN p.1 p.2.1=true then False else GH C XC XV (p.1,p.2) (λx p=>Kn () p) Ke) else Ke XC (p.1,#[],());by_cases hs:(lk p.1.rk p.2.1).isSome=true
 ·rw[f9 hs,gc<|by simp[t]];exact#[ok,h]
 ·rw[gc hs]at h ⊢;exact h
noncomputable abbrev Hz:gV:=BF (top 31) 0
def RN:xR ["self"] ["self"] (uh Hz):=by walk_at "ss"
def RO{k:Nat}(F:DY q.P q.K C "__init__" "Field.__init__" Hz f b)(c:Ab q.K C)(d:Ob q.K C)(G:Fs q.P q.w q.K q.mg q.base C "__init__" ["self"] (Gp C) k):uR q.P q.w q.K q.mg q.base (vd q.P q.w) (k+1) f b ["self"] (C3 C) :=
 Qg (p3:=#[0,0,0,0]) (p4:=#[0,0,0,0]) F RN c d (λ_=>#[_,rfl]) rfl G (λ_=>rfl) λe g A a s H E=>vF (BJ (pv 0) AX rfl)<|w4<|BJ (pv 0) AX rfl
end
def us5{α:Type}{P:List α->Prop}(h:∀a b c d e,P [a,b,c,d,e])(us:List α)(e:us.length=5):P us:=by
 cases us with
 |nil=>cases e
 |cons a t=>exact us4 (P:=λt=>P (a::t)) (h a) t<|lE e
end K7
namespace K7
open PySem L2 WL
open WL.Rep (rp)
open WL.Ow (sl)
open WL.Sls (rel)
abbrev Lw:List cr:=[.type "ValueError",.type "Exception",.type "BaseException",.type "object"]
abbrev zb:gV:=BF (top 13) 0
abbrev Lx:gV:=BF (top 29) 0
def UX:uq ["self"] ["self"] (uh Lx):=#[rfl,rfl,rfl,q0s,rfl,q0s,q0s]
def RP:xR ["self","ring"] ["self","ring"] (uh zb):=#[rfl,rfl,rfl,q0s,rfl,q0s,q0s,q0s,rfl,rfl]
def UY[L2.GX]{K:ga}(F:yo K "__init__" "Body.__init__" Lx f fd)(ct:Ab K C):uR P w K mg base (vd P w) 1 f fd ["self"] (Gp C) :=
 TK F UX ct λb A a s H E=>vF (BJ (pv 0) AX rfl)<|vF (BJ (pv 0) AX rfl)<|w4<|BJ (pv 0) uK rfl
def gx0:L2.GX:=#[λ_ _ _=>True]
section
variable{P:gY}{K:ga}{C:ci}
/-- a method Zn calls super(),as it lies behind the top -/
structure Mx(P:gY)(K:ga)(C:ci)(m q:Str)(st:gV):Prop where
 ex:∃f fd,Meth K C m f/\∃(oc:cr)(od:Option ci)(kV doc pm:cr)(an:Option ci)(yE cc:ci)(ct:cr) (Na:Array (Option cr)) (ocD:cr) (odD:Option ci) (vsD:Array cr) (slD:Array (Option cr)) (file:Str) (tf:Tok) (occ:cr) (odc:Option ci) (slc:Array (Option cr)),
  fd=jO m q (vn st) (uP st) (uh st) [("__class__",cc)] .none kV doc pm an (.ref yE) ct/\K.lookup f=some #[oc,od,.func fd,Na]/\iR K (.ref yE) q=true/\iI K (.ref f)=true/\K.lookup yE=some #[ocD,odD,.fields vsD,slD]/\vsD[2]?=↑(.str file tf)/\((P.main.file:Str)==file)=true/\K.lookup cc=some #[occ,odc,.cell<|some<|.ref C,slc]
def ZO{st:gV}{g:cr}(a:gR K (.ref C) m=↑(some<|.ref f))(i:nI K (.ref f)=true)
 (l:K.lookup f=some #[z,od,.func<|jO m q (vn st) (uP st) (uh st) [("__class__",h)] .none g j pm A (.ref b) ct,n])(c:iR K (.ref b) q=true)(k:iI K (.ref f)=true)(o:K.lookup b=some #[p,r,.fields d,s])(t:d[2]?=↑(.str file B))(u:((P.main.file:Str)==file)=true)(v:K.lookup h=some #[w,x,.cell<|some<|.ref C,y]):Mx P K C m q st :=
  #[_,_,#[a,i,k],_,_,_,_,_,_,_,_,_,_,_,_,_,_,_,_,_,_,_,rfl,l,c,k,o,t,u,v]
/-- the method of the class above Zn super() e -/
structure Sx(K:ga)(C:ci)(m q:Str)(st:gV):Prop where
 ex:∃f fd,Sm K C m f/\yo K m q st f fd
def ZP{st:gV}{d:cr}(a:jq K C C m=↑(some<|.ref f))(ty:oj K (.ref f)=↑(.type "function"))(fn:lJ K f=true)
 (l:K.lookup f=some #[h,od,.func<|i7 m q (vn st) (uP st) (uh st) .none d e pm i b ct,g])(c:iR K b q=true)(k:iI K (.ref f)=true):Sx K C m q st:=#[_,_,#[a,ty,fn],Du l c k]
def Mx.fx{st:gV}(M:Mx P K C m q st)(cl:∃s,lY K C=↑s)(sub:kf K C (.ref C)=↑true)(g:gE K qD "thirdparty.any"=↑none)(top:(P.main.scope.names.lookup ("super":Str)).isSome=false)(h:((vn st).posonlyargs++(vn st).args).head?=↑p)(hs:p.arg="self")(ps:List Str)
 (b:∀(i d j:cr)(n:Option ci)(e o:ci)(ct:cr)(us:List cr),us.length=ps.length->rW (jO m q (vn st) (uP st) (uh st) [("__class__",o)] .none i d j n (.ref e) ct) #[us,[]]=pure (ps.zip us)):∃f fd,Meth K C m f/\DY P K C m q st f fd/\Binds K fd ps []:=by
  obtain⟨f,fd,t,H,I,i,d,j,n,e,o,ct,u,v,w,x,y,r,J,z,A,B,rfl,l,c,k,D,E,F,G⟩:=M.ex
  exact#[f,_,t,#[#[_,_,_,_,_,_,_,_,_,_,rfl,l,c,#[#[_,_,_,_,p,l,h,hs],#[_,_,_,_,_,_,D,E,F],#[_,_,_,G],cl,sub,g,top]],k],.all<|b i d j n e o ct]
end
set_option tactic.hygienic true in
def UZ{K:ga}(X:K.In h)(e:tV K N=true)(q:gE K N x=↑(some v)):h.nsMap N x=↑v:=by
 obtain⟨o,k,l,b,f,_,g⟩:=Heap.Ns.of_isNs<|o6 X e;unfold gE at q;split at q
 ·rename_i c d i m n z
  have a:=X _ _ z;rw[b]at a;cases a;cases f;split at q
  ·rename_i p j
   cases q;rw[<- g];unfold nsFind findBy;rw[<- sJ,j];rfl
  ·split at q<;>cases q
 ·cases q
def all_mk{l:pX}{K:ga}{XF XL:ci}{eL:Nat}{ey:List cr}{eM:Bool}(X:K.In h)(G:h.Ns gC mg)(eN:mg "law"=↑(.ref fa))
 (a1:gE K gC "is_sum"=↑(some<|.ref f1))
 (l1:K.lookup f1=some #[fp,ft,.func<|i7 "is_sum" "is_sum" (vn wv) (uP wv) (uh wv) .none fv fw fy fz (.ref c) fA,fB])
 (c1:iR K (.ref c) "is_sum"=true)
 (k1:iI K (.ref f1)=true)
 (lc:K.lookup c=some #[fC,fE,.fields eO,fF])
 (ev:eO[11]?=↑(.ref cq))
 (eP:K.lookup cq=none)
 (aL:gE K gC "law"=↑(some<|.ref fL))
 (lL:K.lookup fL=some #[fG,fH,.func<|i7 "law" "law" (vn BD) (uP BD) (uh BD) .none eQ eR eS eT eE eU,fJ])
 (cL:iR K eE "law"=true)
 (kL:iI K (.ref fL)=true)
 (T:Dq K "must_be_sum" Eb)
 (cs:Dq K "total" GF)
 (H:Dq K "row_from_first" wX)
 (cu:Dq K "added" G6)
 (b2:Dq K "filled" Ei)
 (ez:Dq K "up" Xl)
 (a8:Dq K "lone_of" B9)
 (U:Dq K "slim_border" yk)
 (dg:Dq K "down" KI)
 (d2:Dq K "_law_bag" RD)
 (dh:Dq K "_law_pull" KL)
 (di:Dq K "_law_rank" KU)
 (dj:Dq K "_law_join" KY)
 (dm:Dq K "_law_here" K3)
 (dq:Dq K "_law_some" K5)
 (dr:Dq K "_law_edge" K8)
 (cv:Dq K "_law_whole" Hj)
 (d3:Dq K "_law_row" s_row)
 (ds:Dq K "_law_same" s_same)
 (cw:Dq K "_law_stock" Hl)
 (a9:Dq K "_law_edge_by" Cc)
 (dt:Dq K "_law_rows" Le)
 (du:Dq K "_law_fill" Lg)
 (dv:Dq K "_law_ties" Li)
 (cx:Dq K "_law_house" Ho)
 (b3:Dq K "_law_tails" Es)
 (cy:Dq K "_law_heads" Hr)
 (dw:Dq K "_law_lone" Lk)
 (dx:Dq K "_law_adds" Lq)
 (aC:gE K gC "Field"=↑(some<|.ref C))
 (ai:Mq K C "must_stand" "Body.must_stand" yW)
 (aF:Mq K C "must_hold" "Body.must_hold" zJ)
 (I:Mq K C "must_have_rank" "Body.must_have_rank" wV)
 (ba:Mq K C "is_tied" "Field.is_tied" B4)
 (Q:Mq K C "must_be_lone" "Field.must_be_lone" xS)
 (cz:Mq K C "steps" "Field.steps" GP)
 (cA:Mq K C "tails" "Field.tails" GR)
 (b4:Mq K C "arrows" "Field.arrows" Ef)
 (bb:Mq K C "head_of" "Field.head_of" B6)
 (cB:Mq K C "untie" "Field.untie" GU)
 (aG:Mq K C "ring_with" "Field.ring_with" zQ)
 (d4:Mq K C "tie" "Field.tie" QV)
 (cC:Mq K C "order" "Field.order" GZ)
 (d5:Mx l.prog K C "put" "Field.put" Ls)
 (d6:Sx K C "put" "Body.put" QH)
 (cD:Mx l.prog K C "cells" "Field.cells" Ev)
 (cE:Sx K C "cells" "Body.cells" GL)
 (dy:Mx l.prog K C "over" "Field.over" Hx)
 (dz:Sx K C "over" "Body.over" Kq)
 (aH:Mx l.prog K C "border_of" "Field.border_of" za)
 (aI:Sx K C "border_of" "Body.border_of" zL)
 (b5:Mx l.prog K C "border" "Field.border" Ce)
 (b6:Sx K C "border" "Body.border" Ed)
 (dA:Mx l.prog K C "take" "Field.take" Hy)
 (dB:Sx K C "take" "Body.take" Ks)
 (aN:Mx l.prog K C "__init__" "Field.__init__" Hz)
 (aO:Sx K C "__init__" "Body.__init__" Lx)
 (pg:lS K C Str.empty=true)
 (hd:mQ K C=true)
 (po:pi K C=true)
 (sa:gR K (.ref C) "__setattr__"=↑(some<|.builtin "object.__setattr__"))
 (mk:pT K C=true)
 (kc:iI K (.ref C)=true)
 (nR:gR K (.ref C) "ranks"=↑none)
 (nB:gR K (.ref C) "borders"=↑none)
 (nU:gR K (.ref C) "upcoming"=↑none)
 (nH:gR K (.ref C) "head_by_tail"=↑none)
 (nT:gR K (.ref C) "tail_by_head"=↑none)
 (dd:lY K C=↑fK)
 (de:kf K C (.ref C)=↑true)
 (c7:gE K qD "thirdparty.any"=↑none)
 (c8:(l.prog.main.scope.names.lookup ("super":Str)).isSome=false)
 (bc:gE K gC "NotASum"=↑(some<|.ref XS))
 (be:iL K XS Lw "ValueError.__new__"=true)
 (b7:gE K gC "NoCell"=↑(some<|.ref XC))
 (b8:iL K XC Lw "ValueError.__new__"=true)
 (aJ:gE K gC "OtherRank"=↑(some<|.ref XO))
 (aK:iL K XO Lw "ValueError.__new__"=true)
 (bf:gE K gC "BadRank"=↑(some<|.ref XB))
 (bg:iL K XB Lw "ValueError.__new__"=true)
 (aj:gE K gC "OpenBorder"=↑(some<|.ref XP))
 (ak:iL K XP Lw "ValueError.__new__"=true)
 (dC:gE K gC "Full"=↑(some<|.ref eF))
 (dD:iL K eF Lw "ValueError.__new__"=true)
 (bh:gE K gC "Covered"=↑(some<|.ref XV))
 (bi:iL K XV Lw "ValueError.__new__"=true)
 (bj:gE K gC "NotFace"=↑(some<|.ref XF))
 (bm:iL K XF Lw "ValueError.__new__"=true)
 (bL:gE K gC "Tied"=↑(some<|.ref XT))
 (dE:iL K XT Lw "ValueError.__new__"=true)
 (bp:gE K gC "NotTied"=↑(some<|.ref XN))
 (bq:iL K XN Lw "ValueError.__new__"=true)
 (br:gE K gC "NotLone"=↑(some<|.ref XL))
 (bt:iL K XL Lw "ValueError.__new__"=true)
 (al:gE K gC "MOST_CELLS"=↑(some<|.int 120 c2))
 (aP:gE K gC "TOP_RANK"=↑(some<|.int 12 dW))
 (eG:gE K gC "RingOfArrows"=↑(some<|.ref XR))
 (fM:gE K gC "BodyError"=↑(some<|.ref XE))
 (lB:K.lookup XR=↑(i9 fN qB XR eh fO (.ref XE::Lw) true fP ey eM fh fQ fR fS fT fU fV "ValueError.__new__"))
 (eV:gE K eh "__init__"=↑(some<|.ref fI))
 (eH:tV K eh=true)
 (eW:PySem.W.tailIn K Lw (.ref XE::Lw)=true)
 (lI:K.lookup fI=some #[.type "function",fW,.func<|jO "__init__" "RingOfArrows.__init__" (vn zb) (uP zb) (uh zb) [("__class__",cc)] (.ref TD) eX eY eZ e0 (.ref ei) e1,fX])
 (cI:iR K (.ref ei) "RingOfArrows.__init__"=true)
 (lD:K.lookup ei=some #[fY,fZ,.fields e2,f0])
 (fD:e2[2]?=↑(.str d7 f3))
 (pD:((l.prog.main.file:Str)==d7)=true)
 (e3:K.lookup cc=some #[fi,fj,.cell<|some<|.ref XR,fo])
 (e4:lY K XR=↑f4)
 (e5:kf K XR (.ref XR)=↑true)
 (e6:jq K XR XR "__init__"=↑(some<|.builtin "ValueError.__init__"))
 (e7:kf K XR (.type "ValueError")=↑true)
 (sB:gR K (.ref XR) "__setattr__"=↑(some<|.builtin "object.__setattr__"))
 (e8:gR K (.ref XR) "ring"=↑none)
 (lT:K.lookup TD=some #[f5,f6,.seq #v[dT] eL,f7])
 (e9:kG K (.ref XT) [.ref XT,.ref XR]=↑true)
 (fb:kG K (.ref XR) [.ref XT,.ref XR]=↑true)
 (fe:gE K gC "super"=↑none)
 (zz:Bz K) :
    ∃(c cq:ci)(fd:hV),m4 K "is_sum"=↑(c,cq)/\K.lookup cq=none/\(∀(s:gn)(v:cr),rK s fd #[[v],[]] [("_law_script",v)])/\∀base:h8,K.In base->base.Ns gC mg->Ii mg base c cq->uR l.prog w K mg base OS 11 fa fd ["_law_script"] (Mb K cq):=by
  letI:L2.GX:=gx0
  have e:=eN.symm.trans<|ig X G aL
  cases e
  have ht:m4 K "is_sum"=↑(c,cq):=by
    unfold m4
    rw[a1]
    dsimp only
    rw[l1]
    dsimp only[i7]
    rw[lc]
    dsimp only
    rw[ev]
  have t:=Du (st:=wv) l1 c1 k1
  have ax:Fn K mg "is_sum" wv ["row"] f1 _:=#[t,ig X G a1,t.binds (ps:=["row"])<|λ_ _ _ _ _ _=>us1 λ_=>rfl]
  have d8:=Du (st:=BD) lL cL kL
  have b:=T.fn X G ["row"]<|λ_ _ _ _ _ _=>us1 λ_=>rfl
  have aS:=cs.fn X G ["rows"]<|λ_ _ _ _ _ _=>us1 λ_=>rfl
  have g:=H.fn X G ["earlier","last"]<|λ_ _ _ _ _ _=>us2 λ_ _=>rfl
  have aT:=cu.fn X G ["one","other"]<|λ_ _ _ _ _ _=>us2 λ_ _=>rfl
  have ay:=b2.fn X G ["field","row"]<|λ_ _ _ _ _ _=>us2 λ_ _=>rfl
  have d1:=ez.fn X G ["field","row"]<|λ_ _ _ _ _ _=>us2 λ_ _=>rfl
  have Y:=a8.fn X G ["field","row"]<|λ_ _ _ _ _ _=>us2 λ_ _=>rfl
  have n:=U.fn X G ["field","row"]<|λ_ _ _ _ _ _=>us2 λ_ _=>rfl
  have bM:=dg.fn X G ["field","row"]<|λ_ _ _ _ _ _=>us2 λ_ _=>rfl
  have da:=d2.fn X G ["_law_script"]<|λ_ _ _ _ _ _=>us1 λ_=>rfl
  have bN:=dh.fn X G ["_law_bag_here","_law_many"]<|λ_ _ _ _ _ _=>us2 λ_ _=>rfl
  have bO:=di.fn X G ["_law_bag_here"]<|λ_ _ _ _ _ _=>us1 λ_=>rfl
  have bP:=dj.fn X G ["_law_one","_law_other"]<|λ_ _ _ _ _ _=>us2 λ_ _=>rfl
  have bQ:=dm.fn X G ["_law_rows_here"]<|λ_ _ _ _ _ _=>us1 λ_=>rfl
  have bR:=dq.fn X G ["_law_bag_here","_law_row_here"]<|λ_ _ _ _ _ _=>us2 λ_ _=>rfl
  have bS:=dr.fn X G ["_law_rows_here","_law_row_here"]<|λ_ _ _ _ _ _=>us2 λ_ _=>rfl
  have aU:=cv.fn X G ["_law_found"]<|λ_ _ _ _ _ _=>us1 λ_=>rfl
  have db:=d3.fn X G ["_law_found"]<|λ_ _ _ _ _ _=>us1 λ_=>rfl
  have bT:=ds.fn X G ["_law_found","_law_due"]<|λ_ _ _ _ _ _=>us2 λ_ _=>rfl
  have aV:=cw.fn X G ["_law_many"]<|λ_ _ _ _ _ _=>us1 λ_=>rfl
  have aa:=a9.fn X G ["_law_rows_here","_law_loops","_law_rank_here","_law_bag_here"]<|λ_ _ _ _ _ _=>us4 λ_ _ _ _=>rfl
  have bU:=dt.fn X G ["_law_bag_here","_law_most"]<|λ_ _ _ _ _ _=>us2 λ_ _=>rfl
  have bV:=du.fn X G ["_law_body","_law_rows_here"]<|λ_ _ _ _ _ _=>us2 λ_ _=>rfl
  have bW:=dv.fn X G ["_law_field","_law_rows_here","_law_bag_here","_law_tries"]<|λ_ _ _ _ _ _=>us4 λ_ _ _ _=>rfl
  have aW:=cx.fn X G ["_law_bag_here","_law_most"]<|λ_ _ _ _ _ _=>us2 λ_ _=>rfl
  have az:=b3.fn X G ["_law_arrows"]<|λ_ _ _ _ _ _=>us1 λ_=>rfl
  have aX:=cy.fn X G ["_law_arrows"]<|λ_ _ _ _ _ _=>us1 λ_=>rfl
  have bX:=dw.fn X G ["_law_rows_here","_law_arrows"]<|λ_ _ _ _ _ _=>us2 λ_ _=>rfl
  have bY:=dx.fn X G ["_law_field","_law_one","_law_other","_law_lone_here","_law_more"]<|λ_ _ _ _ _ _=>us5 λ_ _ _ _ _=>rfl
  have A:=ai.fn ["self","cell"]<|λ_ _ _ _ _ _=>us2 λ_ _=>rfl
  have J:=aF.fn ["self","row"]<|λ_ _ _ _ _ _=>us2 λ_ _=>rfl
  have i:=I.fn ["self","row","rank"]<|λ_ _ _ _ _ _=>us3 λ_ _ _=>rfl
  have ab:=ba.fn ["self","cell"]<|λ_ _ _ _ _ _=>us2 λ_ _=>rfl
  have m:=Q.fn ["self","row"]<|λ_ _ _ _ _ _=>us2 λ_ _=>rfl
  have aY:=cz.fn ["self","low","high"]<|λ_ _ _ _ _ _=>us3 λ_ _ _=>rfl
  have aZ:=cA.fn ["self"]<|λ_ _ _ _ _ _=>us1 λ_=>rfl
  have aA:=b4.fn ["self"]<|λ_ _ _ _ _ _=>us1 λ_=>rfl
  have ae:=bb.fn ["self","cell"]<|λ_ _ _ _ _ _=>us2 λ_ _=>rfl
  have a0:=cB.fn ["self","low"]<|λ_ _ _ _ _ _=>us2 λ_ _=>rfl
  have L:=aG.fn ["self","low","high"]<|λ_ _ _ _ _ _=>us3 λ_ _ _=>rfl
  have dc:=d4.fn ["self","low","high"]<|λ_ _ _ _ _ _=>us3 λ_ _ _=>rfl
  have a2:=cC.fn ["self"]<|λ_ _ _ _ _ _=>us1 λ_=>rfl
  obtain⟨eA,eB,dF,dG,dH⟩:=d5.fx #[_,dd] de c7 c8 rfl rfl Cw<|λ_ _ _ _ _ _ _=>us3 λ_ _ _=>rfl
  obtain⟨eC,eD,dI,bZ⟩:=d6.ex
  obtain⟨ec,ee,b9,ca,cb⟩:=cD.fx #[_,dd] de c7 c8 rfl rfl ye<|λ_ _ _ _ _ _ _=>us1 λ_=>rfl
  obtain⟨ef,eg,cd,aB⟩:=cE.ex
  obtain⟨ej,ek,cF,cG,cH⟩:=dy.fx #[_,dd] de c7 c8 rfl rfl zM<|λ_ _ _ _ _ _ _=>us2 λ_ _=>rfl
  obtain⟨el,em,cJ,a3⟩:=dz.ex
  obtain⟨c3,c4,an,ao,aq⟩:=aH.fx #[_,dd] de c7 c8 rfl rfl vW<|λ_ _ _ _ _ _ _=>us2 λ_ _=>rfl
  obtain⟨c5,c6,ar,D⟩:=aI.ex
  obtain⟨dX,dY,bu,bv,bA⟩:=b5.fx #[_,dd] de c7 c8 rfl rfl xm<|λ_ _ _ _ _ _ _=>us2 λ_ _=>rfl
  obtain⟨dZ,d0,bB,af⟩:=b6.ex
  obtain⟨en,eo,cK,cM,cN⟩:=dA.fx #[_,dd] de c7 c8 rfl rfl zN<|λ_ _ _ _ _ _ _=>us2 λ_ _=>rfl
  obtain⟨ep,er,cO,a4⟩:=dB.ex
  obtain⟨es,et,a5,cP,cQ⟩:=aN.fx #[_,dd] de c7 c8 rfl rfl ["self"]<|λ_ _ _ _ _ _ _=>us1 λ_=>rfl
  obtain⟨eu,ew,cR,a6⟩:=aO.ex
  have B:=zz.bn X G
  have c9:=sv X G fe
  have au:=ig X G al
  have aQ:=ig X G aP
  have bC:Xc K mg "NotASum" XS:=#[#[_,_,_,_,ig X G bc,be,gM],λ_=>trivial]
  have cg:Xc K mg "NoCell" XC:=#[#[_,_,_,_,ig X G b7,b8,gM],λ_=>trivial]
  have aM:Xc K mg "OtherRank" XO:=#[#[_,_,_,_,ig X G aJ,aK,gM],λ_=>trivial]
  have bD:Xc K mg "BadRank" XB:=#[#[_,_,_,_,ig X G bf,bg,gM],λ_=>trivial]
  have av:Xc K mg "OpenBorder" XP:=#[#[_,_,_,_,ig X G aj,ak,gM],λ_=>trivial]
  have dJ:Xc K mg "Full" eF:=#[#[_,_,_,_,ig X G dC,dD,gM],λ_=>trivial]
  have bE:Xc K mg "Covered" XV:=#[#[_,_,_,_,ig X G bh,bi,gM],λ_=>trivial]
  have bF:Xc K mg "NotFace" XF:=#[#[_,_,_,_,ig X G bj,bm,gM],λ_=>trivial]
  have dL:Xc K mg "Tied" XT:=#[#[_,_,_,_,ig X G bL,dE,gM],λ_=>trivial]
  have bG:Xc K mg "NotTied" XN:=#[#[_,_,_,_,ig X G bp,bq,gM],λ_=>trivial]
  have bH:Xc K mg "NotLone" XL:=#[#[_,_,_,_,ig X G br,bt,gM],λ_=>trivial]
  have M:Ab K C:=#[#[pg,hd,po,sa],nR,nB,nU]
  have cf:Ob K C:=#[nH,nT]
  have cS:=ig X G aC
  refine#[c,cq,i7 "law" "law" (vn BD) (uP BD) (uh BD) .none eQ eR eS eT eE eU,ht,eP,λs v=>.of_eq rfl,λbase _ _ Bt=>?_]
  let q:Cq:=#[l.prog,w,K,mg,base,cq]
  have SD:L2.J8 l.prog K XR fI ei cc "self":=#[#[_,_,_,_,_,lI,rfl,rfl],#[_,_,_,_,_,_,lD,fD,pD],#[_,_,_,e3],#[_,e4],e5,c7,c8]
  have cj:uR l.prog w K mg base (vd l.prog w) 3 fI _ ["self","ring"] (W2 K XR "ring"):=T5 (P:=l.prog) (w:=w) (mg:=mg) (base:=base) (k:=2) (r:="ring") (fl:="ring") lI cI rfl RP SD (λ_=>#[_,rfl]) c9 B.list rfl lB e6 e7 rfl (λx=>by rw[PySem.refuseLoop_ref];exact PySem.F.store_ValueError.passes _) sB e8 q0q q0q
  have ff:∀h:h8,K.In h->∃mN,h.Ns eh mN/\mN "__init__"=↑(.ref fI):=λh Z=>#[_,.of_isNs<|o6 Z eH,UZ Z eH eV]
  have hB:Binds K (jO "__init__" "RingOfArrows.__init__" (vn zb) (uP zb) (uh zb) [("__class__",cc)] (.ref TD) eX eY eZ e0 (.ref ei) e1) ["self","ring"] []:=λs us Z hl=>by
    have hl:us.length=2:=by simpa using hl
    obtain⟨u1,u2,rfl⟩:=lx2 us hl
    exact PySem.W.binds_K Z rfl lT rfl rfl rfl
  have R:XcI l.prog w K mg base 3 "RingOfArrows" XR "ring":=#[#[fI,eh,_,_,_,_,_,_,Lw,_,_,_,_,_,_,_,_,_,_,_,_,_,_,_,ig X G eG,lB,ff,λh Z=>su Z eW,lI,rfl,gM,rfl,cj,hB],λ_ _ _ _ _ _=>trivial]
  have o:Zt q XT XR "Tied" "RingOfArrows":=#[ig X G bL,ig X G eG,e9,fb]
  obtain⟨bx,f8,bz,bw,eI,eJ,eK⟩:=bC.ex
  have cT:=Qz b.fn ax (Km (P:=l.prog) (w:=w) t rfl Bt B.all B.zip) eI eJ eK λ_=>trivial
  have cU:=QA b.fn ax (Ko (P:=l.prog) (w:=w) t rfl Bt B.all B.zip) eI eJ eK λ_=>trivial
  have dM:=RO (q:=q) cP M cf #[#[_,_,cR,UY (P:=l.prog) (w:=w) (mg:=mg) (base:=base) a6 M,a6.binds<|λ_ _ _ _ _ _=>us1 λ_=>rfl,c9]]
  have a7:wx q _ _ _ _:=b.fk cT
  have cV:wx q _ _ _ _:=aS.fk<|QB aS.fn b cU B.set B.sorted
  have a:zd q C _ _ _ _:=A.fm<|EN (q:=q) A.fn M cg
  have d:zd q C _ _ _ _:=J.fm<|GI (q:=q) J.fn M (a7.up q0q)<|a.up q0q
  have E:zd q C _ _ _ _:=i.fm<|Br (q:=q) i.fn M aM
  have f:zd q C _ _ _ _:=#[_,_,EU (q:=q) ao #[#[_,_,ar,(GK (q:=q) D M (cV.up q0q)<|d.up q0q),D.binds<|λ_ _ _ _ _ _=>us2 λ_ _=>rfl,c9]],an,aq]
  have ck:zd q C _ _ _ _:=#[_,_,N5 (q:=q) ca #[#[_,_,cd,(QF (q:=q) aB M B),aB.binds<|λ_ _ _ _ _ _=>us1 λ_=>rfl,c9]],b9,cb]
  have cW:zd q C _ _ _ _:=#[_,_,RL (q:=q) cG #[#[_,_,cJ,(Uf (q:=q) a3 M (a.up q0q)<|ck.up q0q),a3.binds<|λ_ _ _ _ _ _=>us2 λ_ _=>rfl,c9]],cF,cH]
  have dN:zd q C _ _ _ _:=#[_,_,UW (q:=q) dG #[#[_,_,dI,(Xe (q:=q) bZ M (d.up q0q) (E.up q0q) (f.up q0q) bD dJ av au aQ B),bZ.binds<|λ_ _ _ _ _ _=>us3 λ_ _ _=>rfl,c9]],dF,dH]
  have bI:zd q C _ _ _ _:=#[_,_,Lv (q:=q) bv #[#[_,_,bB,(NK (q:=q) af M (a.up q0q) B),af.binds<|λ_ _ _ _ _ _=>us2 λ_ _=>rfl,c9]],bu,bA]
  have j:zd q C _ _ _ _:=ab.fm<|Kx (q:=q) ab.fn M cf
  have cX:zd q C _ _ _ _:=#[_,_,RM (q:=q) cM M (a.up q0q) (j.up q0q) #[#[_,_,cO,((Uh (q:=q) a4 M (cW.up q0q) bE)).mono q0q,a4.binds<|λ_ _ _ _ _ _=>us2 λ_ _=>rfl,c9]],cK,cN]
  have O:zd q C _ _ _ _:=m.fm<|CK (q:=q) m.fn M (j.up q0q) bH
  have aD:zd q C _ _ _ _:=aY.fm<|QQ (q:=q) aY.fn M cf
  have aE:zd q C _ _ _ _:=aZ.fm<|QS (q:=q) aZ.fn M cf B
  have bJ:zd q C _ _ _ _:=aA.fm<|NN (q:=q) aA.fn M cf<|aE.up q0q
  have aR:zd q C _ _ _ _:=ae.fm<|KA (q:=q) ae.fn M cf<|a.up q0q
  have cm:zd q C _ _ _ _:=a0.fm<|QU (q:=q) a0.fn M cf (a.up q0q) bG
  have N:wx q _ _ _ _:=g.fk<|Bw (q:=q) g.fn
  have aw:zd q C _ _ _ _:=L.fm<|GY (q:=q) L.fn M cf (N.up q0q)<|aD.up q0q
  have dO:zd q C _ _ _ _:=dc.fm<|Xh (q:=q) dc.fn M cf (a.up q0q) (j.up q0q) (aw.up q0q) bF dL R
  have cn:zd q C _ _ _ _:=a2.fm<|QY (q:=q) a2.fn M cf (bJ.up q0q) (aD.up q0q)<|aE.up q0q
  have ah:wx q _ _ _ _:=aT.fk<|Q1 (q:=q) aT.fn (a7.up q0q) B
  have u:wx q _ _ _ _:=ay.fk<|NQ (q:=q) ay.fn M (ah.up q0q) (d.up q0q) (cn.up q0q) (aR.up q0q) (bI.up q0q) B
  have df:wx q _ _ _ _:=d1.fk<|ZD (q:=q) d1.fn M (ah.up q0q) (u.up q0q) (d.up q0q) (O.up q0q)<|f.up q0q
  have ag:wx q _ _ _ _:=Y.fk<|KH (q:=q) Y.fn M<|j.up q0q
  have p:wx q _ _ _ _:=n.fk<|El (q:=q) n.fn M (ag.up q0q) (df.up q0q)<|f.up q0q
  have b0:wx q _ _ _ _:=bM.fk<|Ur (q:=q) bM.fn M (ag.up q0q) (ah.up q0q) (u.up q0q)<|f.up q0q
  have d9:wx q _ _ _ _:=da.fk<|Zf<|XI da.fn B.len B.list
  have y:wx q _ _ _ _:=bN.fk<|WR<|UU bN.fn B.len
  have dP:wx q _ _ _ _:=bO.fk<|UD (q:=q) bO.fn<|y.up q0q
  have S:wx q _ _ _ _:=bP.fk<|UE (q:=q) bP.fn B
  have k_here:wx q _ _ _ _:=bQ.fk<|UG (q:=q) bQ.fn B
  have b1:wx q _ _ _ _:=bR.fk<|UH (q:=q) bR.fn (y.up q0q) (S.up q0q) B
  have dQ:wx q _ _ _ _:=bS.fk<|UI (q:=q) bS.fn<|S.up q0q
  have k_whole:wx q _ _ _ _:=aU.fk<|Rr (q:=q) aU.fn B
  have ea:wx q _ _ _ _:=db.fk<|Xs (q:=q) db.fn (k_whole.up q0q) B
  have k_same:wx q _ _ _ _:=bT.fk<|UL (q:=q) bT.fn<|ea.up q0q
  have cY:wx q _ _ _ _:=aV.fk<|Ru (q:=q) aV.fn B
  have bK:wx q _ _ _ _:=aa.fk<|Ld (q:=q) aa.fn (y.up q0q) (S.up q0q) (k_here.up q0q) (b1.up q0q) (dQ.up q0q) B
  have dR:wx q _ _ _ _:=bU.fk<|UN (q:=q) bU.fn (y.up q0q) (cY.up q0q) (dP.up q0q) (bK.up q0q) B
  have k_fill:wx q _ _ _ _:=bV.fk<|UO (q:=q) bV.fn M (dN.up q0q) (cX.up q0q) B
  have dS:wx q _ _ _ _:=bW.fk<|UP (q:=q) bW.fn M (k_here.up q0q) (y.up q0q) (cm.up q0q) (dO.up q0q) o B
  have cZ:wx q _ _ _ _:=aW.fk<|Ry (q:=q) aW.fn #[mk,a5.at_,a5.fn,kc] (dM.mono q0q) cQ cS (dR.up q0q) (k_fill.up q0q) (dS.up q0q) (y.up q0q) B
  have cp:wx q _ _ _ _:=az.fk<|NZ (q:=q) az.fn
  have c0:wx q _ _ _ _:=aX.fk<|RB (q:=q) aX.fn B
  have dU:wx q _ _ _ _:=bX.fk<|US (q:=q) bX.fn (cp.up q0q) (c0.up q0q)<|k_here.up q0q
  have dV:wx q _ _ _ _:=bY.fk<|UT (q:=q) bY.fn (S.up q0q) (u.up q0q) (k_same.up q0q) (b0.up q0q) (df.up q0q)<|p.up q0q
  exact Zh (Zg<|XH (q:=q) d8 (d9.up q0q) (cZ.up q0q) (b1.up q0q) (k_here.up q0q) (dU.up q0q) (dV.up q0q) (u.up q0q) (b0.up q0q) (df.up q0q)<|p.up q0q) λ_ _ _ _ z=>z
def walk{l:pX}{q:gY}{loose:List Str}{XP:(Str->Option cr)->h8->Prop}{YP:il->h8->Prop}{d:DefRec}{K:Params->ga}{dx:DefRec}(hn:l.most=↑63)(hdf:d.params.defaults=[])
  (hY:∀(w:il)(h:h8),YP w h->(K w.params).In h) (a1O:(PyProof.Rows.recsOf q).find? (λe=>e.name==("is_sum":Str))=↑dx)
  (F:∀(w:il)(mg:Str->Option cr)(fa:ci)(h:h8),(K w.params).In h->h.Ns gC mg->mg d.name=↑(.ref fa) ->
   ∃(c tab:ci)(fd:hV),m4 (K w.params) "is_sum"=↑(c,tab)/\(K w.params).lookup tab=none/\(∀(s:gn)(u:cr),rK s fd #[[u],[]] [("_law_script",u)]) /\
    ∀base:h8,(K w.params).In base->base.Ns gC mg->Ii mg base c tab->uR l.prog w (K w.params) mg base OS 11 fa fd ["_law_script"] (Mb (K w.params) tab)) :
  t7 q loose XP YP l.row.toRowW d [] (λf vs=>sN f vs) :=
 L2.Pa (n:=63) (k:=11) (x:="_law_script") (tx:="is_sum") (CX:=OS) (sp:=λ_ K tab=>Mb K tab) hn q0q hdf #[rfl,q0q,q0q] hY a1O F (λ_ K H a tab ns _ hS hH=>#[a,ns,rfl,hS,#[#v[],hH,trivial],λ_=>rfl]) λ_ _ _ _ z=>z
end K7
open WL
open K7
set_option tactic.hygienic true
set_option hygiene true
namespace PySem.W.Fast
def tw11783119840578249751:=0
def tw7031884744298632977:=0
def tw15880318733435771409:=0
def tw16984631755790868614:=0
def tw6242626856347362711:=0
def tw655982436671060072:=0
def tw6709539171499946451:=0
def tw328724510048548374:=0
def tw15416710378606338836:=0
def tw12950911660784339076:=0
def tw8040736893447944429:=0
def tw14087955393831618476:=0
def tw17525607716174353137:=0
def tw3930259440701324935:=0
def tw9623276723205047240:=0
def tw3997587712658385576:=0
def tw2315513540151221452:=0
def tw11520303842247655268:=0
def tw2495764399468869220:=0
def tw913642309486197374:=0
def tw18012311026223896094:=0
def tw17127261484886834111:=0
def tw1014863889078819233:=0
def tw3100463251391879036:=0
def tw438532073717096383:=0
def tw13379138271129972413:=0
def tw16963041716106201976:=0
def tw12806436134195628916:=0
def tw1502590279275339577:=0
def tw18192029051895971666:=0
def tw9249162005814014460:=0
def tw8210583053164235484:=0
def tw15748770160308617287:=0
def tw4311854153624709169:=0
def tw8871434962739279098:=0
def tw6344907089227676954:=0
def tw1390503975494479291:=0
def tw4541084147037877666:=0
def tw7820804086110132546:=0
def tw15254195239338136451:=0
def tw16548147174528816050:=0
def tw6835181976670899290:=0
def tw11547621794088889531:=0
def tw9306568457643769486:=0
def tw8842677636638162015:=0
def tw7814314660560373365:=0
def tw137634563153806106:=0
def tw10750173209096896600:=0
def tw15486993655089254848:=0
def tw10626176461672602298:=0
def tw9282321028727351132:=0
def tw15492440681744937449:=0
def tw12175033278890701076:=0
def tw6668063056681748179:=0
def tw13182288907399365698:=0
def tw6714634848074659345:=0
def tw9901265730846482649:=0
def tw16575017329111017450:=0
def tw7039724651816542100:=0
def tw15340438544161343690:=0
def tw14435361294918465538:=0
def tw7624418515242879863:=0
def tw18184740340290617614:=0
def tw16728242283809570942:=0
def tw248148687611348291:=0
def tw516047935799219622:=0
def tw15686434816503946589:=0
def tw17914437797183664993:=0
def tw9662489204206050132:=0
def tw2984491395140158048:=0
def tw18099467659265366765:=0
def tw18395830424988888698:=0
def tw9836226404268255121:=0
def tw4982008647733721692:=0
def tw13277718698155490527:=0
def tw6545896499237865020:=0
def tw16236062925041754788:=0
def tw8654694608681246359:=0
def tw2357555346093448264:=0
def tw10589027287860895612:=0
def tw17706549988619347887:=0
def tw712424376893843793:=0
def tw14254157628337342769:=0
def tw8719621560311773694:=0
def tw9967327508182420238:=0
def tw13398291530496560968:=0
def tw10721747591287336711:=0
def tw7671960390409112908:=0
def tw4974563730896958114:=0
def tw13526637485052374056:=0
def tw1904317768681708796:=0
def tw1151719260132558450:=0
def tw16251514767419831258:=0
def tw16337621680047106782:=0
def tw17003362734699393550:=0
def tw5424335731908501916:=0
def tw8051571137856299653:=0
def tw14520623235950264496:=0
def tw9062499587368121417:=0
def tw1949620077325617841:=0
def tw13479874098616309668:=0
def tw6380537800346034941:=0
def tw5391222562726909010:=0
def tw1644922495316150289:=0
def tw18414385247512108076:=0
def tw2301647280677335251:=0
def tw1796075465317220207:=0
def tw2017392183402544355:=0
def tw13963877576441640647:=0
def tw13031033043084663697:=0
def tw12944557049224380044:=0
def tw1102868133706424066:=0
def tw6077507498340739627:=0
def tw7285993171625964600:=0
def tw5304522961616687829:=0
def tw14088992032602599421:=0
def tw15102715598623213686:=0
def tw12942750526461407853:=0
def tw2566135382229523268:=0
def tw10052316738021746709:=0
def tw7790769304884560994:=0
def tw6875345267802695534:=0
def tw6642297075977898884:=0
def tw14532785451625437131:=0
def tw7371074151590442059:=0
def tw2918519909880511631:=0
def tw10718622957023675153:=0
def tw7450997832576436648:=0
def tw1742298317327538468:=0
def tw101985203900820734:=0
def tw1542484878066979146:=0
def tw7356395994256574183:=0
def tw16611992497269746474:=0
def tw4705625571418968706:=0
def tw3939548477453023069:=0
def tw353016320959226274:=0
def tw4389395207617309721:=0
def tw16368897823824824068:=0
def tw6668867598684782987:=0
def tw16063987649719190023:=0
def tw10141200305090675227:=0
def tw17439915956869189504:=0
def tw7553962647430437475:=0
def tw5528691551235076756:=0
def tw10555664653689023244:=0
def tw16770561814023171359:=0
def tw10742523472197190892:=0
def tw14076062305015058045:=0
def tw936602572904238010:=0
def tw11242591733006222843:=0
def tw3919910586746652840:=0
def tw4729063036003948979:=0
def tw5336894344803099709:=0
def tw8836969479470895690:=0
def tw923625486127452283:=0
def tw1587510359495957959:=0
def tw2829525312245292314:=0
def tw6088443367695227912:=0
def tw18048686049788925163:=0
def tw12661170896096161507:=0
def tw2261719969407015990:=0
def tw13226110564240760701:=0
def tw12748214399432994878:=0
def tw8280639954881445791:=0
def tw11128717279553570011:=0
def tw17427252167842941998:=0
def tw6754069410070816568:=0
def tw11407224826132893004:=0
def tw11365161086877162292:=0
def tw6089273205443849243:=0
def tw9594970270542359493:=0
def tw849794934125007385:=0
def tw4625078930575117910:=0
def tw6192337361355789563:=0
def tw876119123609872936:=0
def tw1145953991252775866:=0
def tw2393147746778579398:=0
def tw5831005058606722378:=0
def tw12126970464860635991:=0
def tw8979458870035624583:=0
def tw12997606214578008408:=0
def tw721727350925825237:=0
def tw337052868592694311:=0
def tw7068251390742156179:=0
def tw1264250742129335700:=0
def tw4998488233432385041:=0
def tw5392395533586511092:=0
def tw5362935542548685738:=0
def tw16557256756210808637:=0
def tw9979832982930106446:=0
def tw9344596360686167452:=0
def tw2790575074390395004:=0
def tw17277892033268550433:=0
def tw13252515105895018929:=0
def tw11317747372191230855:=0
def tw12199933092900618166:=0
def tw3699433038293450909:=0
def tw6511019991848103545:=0
def tw16333874869885602786:=0
def tw4233030491426044316:=0
def tw10339905671836609804:=0
def tw2431410305535388707:=0
def tw3349937479152416886:=0
def tw13042581874824780285:=0
def tw14925894658869676337:=0
def tw6656395993533845394:=0
def tw5033977859655160575:=0
def tw9203016978433696291:=0
def tw8031131603616754715:=0
def tw8031262436004363996:=0
def tw7276423152838134103:=0
def tw308749104151671498:=0
def tw17972514298361644845:=0
def tw17470400030547284660:=0
def tw14636142659745766678:=0
def tw13023243667718098108:=0
def tw12441303699065890588:=0
def tw17271239580523964106:=0
def tw15151801648533985626:=0
def tw5257804840594120590:=0
def tw16416189272589820219:=0
def tw17583223291015498171:=0
def tw650667664108725093:=0
def tw4727754580920306156:=0
def tw3646441358463425038:=0
def tw2589511935488755200:=0
def tw15954394397415000738:=0
def tw16446820344745399901:=0
def tw7151286499780025581:=0
def tw4546316127888997630:=0
def tw192015850711655508:=0
def tw18378883215508143773:=0
def tw1049535166806730808:=0
def tw7610617665371524515:=0
def tw9225196143656437390:=0
def tw3526186395253898401:=0
def tw13904430111635162669:=0
def tw10641239553470555912:=0
def tw16066444949184826189:=0
def tw6318231262297021094:=0
def tw4166444204159526395:=0
def tw18130623427639844755:=0
def tw6661075261402968694:=0
def tw1145484353455781950:=0
def tw3274355717829978794:=0
def tw9712844554025847741:=0
def tw17924036000643059891:=0
def tw14583618103992088514:=0
def tw10938735299014878876:=0
def tw1048865882305459556:=0
def tw16044305192702687682:=0
def tw1330059671747410197:=0
def tw9146815045035352401:=0
def tw6880303491585959594:=0
def tw6494731739414885760:=0
def tw632573427316891203:=0
def tw15551189590463965922:=0
def tw1948918214263447860:=0
def tw178190806793927723:=0
def tw3044344515843582955:=0
def tw8998695727946119337:=0
def tw8839517281190537920:=0
def tw8158297743873462577:=0
def tw740897475135701203:=0
def tw465310963430053147:=0
def tw3211810222653281811:=0
def tw16047136977120557585:=0
def tw15388029083853497341:=0
def tw15182502935852981822:=0
def tw6718976942397796942:=0
def tw4915566896919580886:=0
def tw4541878103943629383:=0
def tw4082527990698422567:=0
def tw6716919061865646950:=0
def tw5401867427663060424:=0
def tw11675002888560553545:=0
def tw10059375064381612523:=0
def tw628423601955389620:=0
def tw16392499262998898405:=0
def tw12393578801544065815:=0
def tw10963312908518169064:=0
def tw9289538557007762407:=0
def tw4816941156476947167:=0
def tw10026784536793678479:=0
def tw3541849258799437565:=0
def tw7372643970861233318:=0
def tw10102384899911313484:=0
def tw8185319706419383979:=0
def tw17109105985111905673:=0
def tw18066139642927830481:=0
def tw9130293616131425809:=0
def tw7112083585192206410:=0
def tw16190387844153555609:=0
def tw12912703119671295985:=0
def tw4605756357371163593:=0
def tw17010900789065811061:=0
def tw14086485547157198766:=0
def tw3791368321784327663:=0
def tw11022166380174101968:=0
def tw18082151499705608343:=0
def tw2562810480281111357:=0
def tw595307535033789721:=0
def tw5167007175171965224:=0
def tw17635414423007443085:=0
def tw18342967678488516159:=0
def tw11536294018418172903:=0
def tw10926653530464761671:=0
def tw16936609184921137932:=0
def tw14912256090298444424:=0
def tw14789934105131019927:=0
def tw7385360211936574519:=0
def tw7298773768887604822:=0
def tw5544917122809140824:=0
def tw13471475220462324943:=0
def tw9166097619224409440:=0
def tw8815047163749798810:=0
def tw8183869839826674697:=0
def tw6701257080768772620:=0
def tw6155617067100689861:=0
def tw5537613430492449548:=0
def tw5498732541135225710:=0
def tw4325458857001718482:=0
def tw399550648038663496:=0
def tw3768203690482148558:=0
def tw3614419717545615558:=0
def tw3435338644337589667:=0
def tw3277107754565929418:=0
def tw2944602729801492687:=0
def tw2167000921816686757:=0
def tw1971629483255935036:=0
def tw1901523064340210321:=0
def tw16199552691068425635:=0
def tw16157998492973074394:=0
def tw11146659059642978242:=0
def tw10697925742657356325:=0
def tw10627336145630501694:=0
def tw8455481088838687420:=0
def tw5950849277538108458:=0
def tw12807325134558894645:=0
def tw14408744975289573021:=0
def tw9215662282031582939:=0
def tw8527263002715549007:=0
def tw8032932919381386197:=0
def tw6945621375531076872:=0
def tw6051888142661137066:=0
def tw3651877182670510045:=0
def tw12616402077123983763:=0
def tw12814049637555513268:=0
def tw1448526452823693681:=0
def tw11693876985107862400:=0
def tw2467495291394403384:=0
def tw7839500845841829841:=0
def tw5798086441381052837:=0
def tw5500536831942938668:=0
def tw2226814314489008523:=0
def tw18034972305521384480:=0
def tw1330647168551662092:=0
def tw12269748368308699608:=0
def tw8918153152830714498:=0
def tw8514750528283041326:=0
def tw8393188907801463821:=0
def tw7394304325014235331:=0
def tw671408007457661309:=0
def tw6578825123949965662:=0
def tw6452285688884540586:=0
def tw5000130461512116719:=0
def tw482006426501656367:=0
def tw4655375592877787047:=0
def tw4219547302912136115:=0
def tw4204328093336708367:=0
def tw4184349033487234509:=0
def tw4056446575684806824:=0
def tw3141012827123626560:=0
def tw18309706807432747810:=0
def tw1727599325217451641:=0
def tw16984064346325603206:=0
def tw16611300230914027718:=0
def tw16278149498075721173:=0
def tw15871088501102785071:=0
def tw1507603120316272613:=0
def tw14493571656258818872:=0
def tw13397342254247462159:=0
def tw12910191211947839411:=0
def tw12547787419489815762:=0
def tw11308910912820333642:=0
def tw7846637109754849934:=0
def tw9563881569072190713:=0
def tw7502671782983409074:=0
def tw2590954457095891627:=0
def tw6835599684278860025:=0
def tw11181106648372693083:=0
def tw12888825645077808965:=0
def tw11822119184116458486:=0
def tw7852319006265242017:=0
def tw8126677587567676963:=0
def tw16123307172909981806:=0
def tw15291533081836808194:=0
def tw3149073630686312504:=0
def tw9214654998861918002:=0
def tw9072446212621883454:=0
def tw7906765237180475923:=0
def tw7593827432013159656:=0
def tw6757269319992266529:=0
def tw5720893272550841333:=0
def tw4744808559983064853:=0
def tw4023453314994733277:=0
def tw3559414117153096455:=0
def tw3497834990748690337:=0
def tw3191596888730220680:=0
def tw2050219296231227351:=0
def tw15502080303871244167:=0
def tw13292437145045975879:=0
def tw1091517052235937181:=0
def tw16089063302215707250:=0
def tw4833623106346255236:=0
def tw15256262135844600811:=0
def tw9411504986038806467:=0
def tw9409654723552888812:=0
def tw3737726671975105483:=0
def tw12528503854826008254:=0
def tw4005134503568262760:=0
def tw17747469171448252029:=0
def tw16221614569312682717:=0
def tw13744596424781767864:=0
def tw10170061300993219141:=0
def tw2948898310404926218:=0
end PySem.W.Fast
open PySem PySem.W PyProof.Rows
set_option maxHeartbeats 0 in
theorem PySem.Challenge.cw_slimbody_k21_carriers_of_sums_added_holds : PySem.Challenge.rw_slimbody_k21_carriers_of_sums_added.Holds := by
  w_on; o_law; k_head; (case hw => w_witness2)
  k_fill
  refine K7.walk (l := PySem.Challenge.rw_slimbody_k21_carriers_of_sums_added) rfl rfl (fun w h Y => PySem.W.kIn_of Y) (by rfl) ?j0a
  case j0a =>
    intro w mg fa h KX G hmg
    refine' K7.all_mk KX G hmg ?_ ?_ ?_ ?_ ?_ ?_ ?_ ?_ ?_ ?_ ?_ ?_ ?_ ?_ ?_ ?_ ?_ ?_ ?_ ?_ ?_ ?_ ?_ ?_ ?_ ?_ ?_ ?_ ?_ ?_ ?_ ?_ ?_ ?_ ?_ ?_ ?_ ?_ ?_ ?_ ?_ ?_ ?_ ?_ ?_ ?_ ?_ ?_ ?_ ?_ ?_ ?_ ?_ ?_ ?_ ?_ ?_ ?_ ?_ ?_ ?_ ?_ ?_ ?_ ?_ ?_ ?_ ?_ ?_ ?_ ?_ ?_ ?_ ?_ ?_ ?_ ?_ ?_ ?_ ?_ ?_ ?_ ?_ ?_ ?_ ?_ ?_ ?_ ?_ ?_ ?_ ?_ ?_ ?_ ?_ ?_ ?_ ?_ ?_ ?_ ?_ ?_ ?_ ?_ ?_ ?_ ?_ ?_ ?_ ?_ ?_ ?_ ?_ ?_ ?_ ?_ ?_ ?_ ?_ ?_ ?_ ?_ ?_ ?_ ?_ ?_ ?_ ?_ ?_ ?_
    all_goals try first | k_is | k_exc | exact Zi (by k_is) (by k_is) (by k_is) (by k_is) | exact Zj (by k_is) (by k_is) (by k_is) (by k_is) (by k_is) | exact ZO (by k_is) (by k_is) (by k_is) (by k_is) (by k_is) (by k_is) (by rfl) (by rfl) (by k_is) | exact ZP (by rfl) (by k_is) (by k_is) (by k_is) (by k_is) (by k_is) | rfl | kernel_rfl
    constructor <;> k_is
