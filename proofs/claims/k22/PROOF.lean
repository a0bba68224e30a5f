import PyProof.Rows.All
import Wide.All
import OpenK.AllK
import Wide.FinOn
import Lean
import PyProof.EqAt
import PyProof.EqKinds
import PyProof.TupleCall
import PyProof.Rows.SetFrom
import PyProof.Rows.SortWalkRead
import PyProof.Rows.EqDataRows
import PyProof.CompFree
import PyProof.ZipIter
import PyProof.Rows.ZipGen
import PyProof.GenCompD
import PyProof.CodeObjX
import KE.KNest
import PyProof.DictWalks
import PyProof.AutoListH
import PyProof.WalksMore
import PyProof.Draws
import PyProof.EnumFor
import PyProof.EnumMake
import PyProof.EnumStmt
import PyProof.Rows.EnumRows
import KE.KSuper
import PyProof.WalkInts
import KE.KTryMore
import PyProof.ExcClass2
import PyProof.ExcInit
import PyProof.InstStore
import PyProof.ExcBaseAll.ValueError
import PyProof.InstStoreFacts
import KE.KSortTup
import PyProof.Rows.SortShellK
import PyProof.DictCompW
import KE.KRevSl
import PySem.Challenge.RW_slimbody_k22_the_border_of_a_head
set_option Elab.async false
set_option linter.all false
set_option tactic.hygienic false
set_option compiler.extract_closed false
set_option hygiene false
set_option genSizeOf false
set_option genInjectivity false
set_option maxRecDepth 100000
set_option maxHeartbeats 4000000
theorem QJ  {p0:Prop} {p1:Prop} {G:Prop} (h:p0/\p1) (k:p0->p1->G):G:=by obtain ⟨h0,h1⟩:=h;exact k h0 h1
theorem yi  {p0:Prop} {p1:Prop} {p2:Prop} {G:Prop} (h:p0/\p1/\p2) (k:p0->p1->p2->G):G:=by obtain ⟨h0,h1,h2⟩:=h;exact k h0 h1 h2
theorem LB  {p0:Prop} {p1:Prop} {p2:Prop} {p3:Prop} {G:Prop} (h:p0/\p1/\p2/\p3) (k:p0->p1->p2->p3->G):G:=by obtain ⟨h0,h1,h2,h3⟩:=h;exact k h0 h1 h2 h3
theorem a0G  {p0:Prop} {p1:Prop} {p2:Prop} {p3:Prop} {p4:Prop} {G:Prop} (h:p0/\p1/\p2/\p3/\p4) (k:p0->p1->p2->p3->p4->G):G:=by obtain ⟨h0,h1,h2,h3,h4⟩:=h;exact k h0 h1 h2 h3 h4
theorem DS  {p0:Prop} {p1:Prop} {p2:Prop} {p3:Prop} {p4:Prop} {p5:Prop} {G:Prop} (h:p0/\p1/\p2/\p3/\p4/\p5) (k:p0->p1->p2->p3->p4->p5->G):G:=by obtain ⟨h0,h1,h2,h3,h4,h5⟩:=h;exact k h0 h1 h2 h3 h4 h5
theorem MZ {uN:Sort _} {p0:uN->Prop} {G:Prop} (h:∃ x0:uN,p0 x0) (k:∀ x0:uN,p0 x0->G):G:=by obtain ⟨x0,h0⟩:=h;exact k x0 h0
theorem tX {uN:Sort _} {p0:uN->Prop} {p1:uN->Prop} {G:Prop} (h:∃ x0:uN,p0 x0/\p1 x0) (k:∀ x0:uN,p0 x0->p1 x0->G):G:=by obtain ⟨x0,h0,h1⟩:=h;exact k x0 h0 h1
theorem ux {uN:Sort _} {p0:uN->Prop} {p1:uN->Prop} {p2:uN->Prop} {G:Prop} (h:∃ x0:uN,p0 x0/\p1 x0/\p2 x0) (k:∀ x0:uN,p0 x0->p1 x0->p2 x0->G):G:=by obtain ⟨x0,h0,h1,h2⟩:=h;exact k x0 h0 h1 h2
theorem Bb {uN:Sort _} {p0:uN->Prop} {p1:uN->Prop} {p2:uN->Prop} {p3:uN->Prop} {G:Prop} (h:∃ x0:uN,p0 x0/\p1 x0/\p2 x0/\p3 x0) (k:∀ x0:uN,p0 x0->p1 x0->p2 x0->p3 x0->G):G:=by obtain ⟨x0,h0,h1,h2,h3⟩:=h;exact k x0 h0 h1 h2 h3
theorem vS {uN:Sort _} {vf:Sort _} {p0:uN->vf->Prop} {p1:uN->vf->Prop} {G:Prop} (h:∃ x0:uN,∃ x1:vf,p0 x0 x1/\p1 x0 x1) (k:∀ x0:uN,∀ x1:vf,p0 x0 x1->p1 x0 x1->G):G:=by obtain ⟨x0,x1,h0,h1⟩:=h;exact k x0 x1 h0 h1
theorem ut {uN:Sort _} {vf:Sort _} {p0:uN->vf->Prop} {p1:uN->vf->Prop} {p2:uN->vf->Prop} {G:Prop} (h:∃ x0:uN,∃ x1:vf,p0 x0 x1/\p1 x0 x1/\p2 x0 x1) (k:∀ x0:uN,∀ x1:vf,p0 x0 x1->p1 x0 x1->p2 x0 x1->G):G:=by obtain ⟨x0,x1,h0,h1,h2⟩:=h;exact k x0 x1 h0 h1 h2
theorem vt {uN:Sort _} {vf:Sort _} {p0:uN->vf->Prop} {p1:uN->vf->Prop} {p2:uN->vf->Prop} {p3:uN->vf->Prop} {G:Prop} (h:∃ x0:uN,∃ x1:vf,p0 x0 x1/\p1 x0 x1/\p2 x0 x1/\p3 x0 x1) (k:∀ x0:uN,∀ x1:vf,p0 x0 x1->p1 x0 x1->p2 x0 x1->p3 x0 x1->G):G:=by obtain ⟨x0,x1,h0,h1,h2,h3⟩:=h;exact k x0 x1 h0 h1 h2 h3
theorem Uo {uN:Sort _} {vf:Sort _} {p0:uN->vf->Prop} {p1:uN->vf->Prop} {p2:uN->vf->Prop} {p3:uN->vf->Prop} {p4:uN->vf->Prop} {G:Prop} (h:∃ x0:uN,∃ x1:vf,p0 x0 x1/\p1 x0 x1/\p2 x0 x1/\p3 x0 x1/\p4 x0 x1) (k:∀ x0:uN,∀ x1:vf,p0 x0 x1->p1 x0 x1->p2 x0 x1->p3 x0 x1->p4 x0 x1->G):G:=by obtain ⟨x0,x1,h0,h1,h2,h3,h4⟩:=h;exact k x0 x1 h0 h1 h2 h3 h4
theorem wT {uN:Sort _} {vf:Sort _} {vQ:Sort _} {p0:uN->vf->vQ->Prop} {p1:uN->vf->vQ->Prop} {G:Prop} (h:∃ x0:uN,∃ x1:vf,∃ x2:vQ,p0 x0 x1 x2/\p1 x0 x1 x2) (k:∀ x0:uN,∀ x1:vf,∀ x2:vQ,p0 x0 x1 x2->p1 x0 x1 x2->G):G:=by obtain ⟨x0,x1,x2,h0,h1⟩:=h;exact k x0 x1 x2 h0 h1
theorem YG {uN:Sort _} {vf:Sort _} {vQ:Sort _} {p0:uN->vf->vQ->Prop} {p1:uN->vf->vQ->Prop} {p2:uN->vf->vQ->Prop} {G:Prop} (h:∃ x0:uN,∃ x1:vf,∃ x2:vQ,p0 x0 x1 x2/\p1 x0 x1 x2/\p2 x0 x1 x2) (k:∀ x0:uN,∀ x1:vf,∀ x2:vQ,p0 x0 x1 x2->p1 x0 x1 x2->p2 x0 x1 x2->G):G:=by obtain ⟨x0,x1,x2,h0,h1,h2⟩:=h;exact k x0 x1 x2 h0 h1 h2
theorem xU {uN:Sort _} {vf:Sort _} {vQ:Sort _} {p0:uN->vf->vQ->Prop} {p1:uN->vf->vQ->Prop} {p2:uN->vf->vQ->Prop} {p3:uN->vf->vQ->Prop} {G:Prop} (h:∃ x0:uN,∃ x1:vf,∃ x2:vQ,p0 x0 x1 x2/\p1 x0 x1 x2/\p2 x0 x1 x2/\p3 x0 x1 x2) (k:∀ x0:uN,∀ x1:vf,∀ x2:vQ,p0 x0 x1 x2->p1 x0 x1 x2->p2 x0 x1 x2->p3 x0 x1 x2->G):G:=by obtain ⟨x0,x1,x2,h0,h1,h2,h3⟩:=h;exact k x0 x1 x2 h0 h1 h2 h3
theorem YH {uN:Sort _} {vf:Sort _} {vQ:Sort _} {p0:uN->vf->vQ->Prop} {p1:uN->vf->vQ->Prop} {p2:uN->vf->vQ->Prop} {p3:uN->vf->vQ->Prop} {p4:uN->vf->vQ->Prop} {G:Prop} (h:∃ x0:uN,∃ x1:vf,∃ x2:vQ,p0 x0 x1 x2/\p1 x0 x1 x2/\p2 x0 x1 x2/\p3 x0 x1 x2/\p4 x0 x1 x2) (k:∀ x0:uN,∀ x1:vf,∀ x2:vQ,p0 x0 x1 x2->p1 x0 x1 x2->p2 x0 x1 x2->p3 x0 x1 x2->p4 x0 x1 x2->G):G:=by obtain ⟨x0,x1,x2,h0,h1,h2,h3,h4⟩:=h;exact k x0 x1 x2 h0 h1 h2 h3 h4
theorem xH {uN:Sort _} {vf:Sort _} {vQ:Sort _} {xy:Sort _} {p0:uN->vf->vQ->xy->Prop} {p1:uN->vf->vQ->xy->Prop} {p2:uN->vf->vQ->xy->Prop} {p3:uN->vf->vQ->xy->Prop} {G:Prop} (h:∃ x0:uN,∃ x1:vf,∃ x2:vQ,∃ x3:xy,p0 x0 x1 x2 x3/\p1 x0 x1 x2 x3/\p2 x0 x1 x2 x3/\p3 x0 x1 x2 x3) (k:∀ x0:uN,∀ x1:vf,∀ x2:vQ,∀ x3:xy,p0 x0 x1 x2 x3->p1 x0 x1 x2 x3->p2 x0 x1 x2 x3->p3 x0 x1 x2 x3->G):G:=by obtain ⟨x0,x1,x2,x3,h0,h1,h2,h3⟩:=h;exact k x0 x1 x2 x3 h0 h1 h2 h3
theorem YI {uN:Sort _} {vf:Sort _} {vQ:Sort _} {xy:Sort _} {p0:uN->vf->vQ->xy->Prop} {p1:uN->vf->vQ->xy->Prop} {p2:uN->vf->vQ->xy->Prop} {p3:uN->vf->vQ->xy->Prop} {p4:uN->vf->vQ->xy->Prop} {p5:uN->vf->vQ->xy->Prop} {G:Prop} (h:∃ x0:uN,∃ x1:vf,∃ x2:vQ,∃ x3:xy,p0 x0 x1 x2 x3/\p1 x0 x1 x2 x3/\p2 x0 x1 x2 x3/\p3 x0 x1 x2 x3/\p4 x0 x1 x2 x3/\p5 x0 x1 x2 x3) (k:∀ x0:uN,∀ x1:vf,∀ x2:vQ,∀ x3:xy,p0 x0 x1 x2 x3->p1 x0 x1 x2 x3->p2 x0 x1 x2 x3->p3 x0 x1 x2 x3->p4 x0 x1 x2 x3->p5 x0 x1 x2 x3->G):G:=by obtain ⟨x0,x1,x2,x3,h0,h1,h2,h3,h4,h5⟩:=h;exact k x0 x1 x2 x3 h0 h1 h2 h3 h4 h5
theorem YJ {uN:Sort _} {vf:Sort _} {vQ:Sort _} {xy:Sort _} {z8:Sort _} {p0:uN->vf->vQ->xy->z8->Prop} {p1:uN->vf->vQ->xy->z8->Prop} {p2:uN->vf->vQ->xy->z8->Prop} {G:Prop} (h:∃ x0:uN,∃ x1:vf,∃ x2:vQ,∃ x3:xy,∃ x4:z8,p0 x0 x1 x2 x3 x4/\p1 x0 x1 x2 x3 x4/\p2 x0 x1 x2 x3 x4) (k:∀ x0:uN,∀ x1:vf,∀ x2:vQ,∀ x3:xy,∀ x4:z8,p0 x0 x1 x2 x3 x4->p1 x0 x1 x2 x3 x4->p2 x0 x1 x2 x3 x4->G):G:=by obtain ⟨x0,x1,x2,x3,x4,h0,h1,h2⟩:=h;exact k x0 x1 x2 x3 x4 h0 h1 h2
theorem YK {uN:Sort _} {vf:Sort _} {vQ:Sort _} {xy:Sort _} {z8:Sort _} {p0:uN->vf->vQ->xy->z8->Prop} {p1:uN->vf->vQ->xy->z8->Prop} {p2:uN->vf->vQ->xy->z8->Prop} {p3:uN->vf->vQ->xy->z8->Prop} {G:Prop} (h:∃ x0:uN,∃ x1:vf,∃ x2:vQ,∃ x3:xy,∃ x4:z8,p0 x0 x1 x2 x3 x4/\p1 x0 x1 x2 x3 x4/\p2 x0 x1 x2 x3 x4/\p3 x0 x1 x2 x3 x4) (k:∀ x0:uN,∀ x1:vf,∀ x2:vQ,∀ x3:xy,∀ x4:z8,p0 x0 x1 x2 x3 x4->p1 x0 x1 x2 x3 x4->p2 x0 x1 x2 x3 x4->p3 x0 x1 x2 x3 x4->G):G:=by obtain ⟨x0,x1,x2,x3,x4,h0,h1,h2,h3⟩:=h;exact k x0 x1 x2 x3 x4 h0 h1 h2 h3
theorem YL {uN:Sort _} {vf:Sort _} {vQ:Sort _} {xy:Sort _} {z8:Sort _} {p0:uN->vf->vQ->xy->z8->Prop} {p1:uN->vf->vQ->xy->z8->Prop} {p2:uN->vf->vQ->xy->z8->Prop} {p3:uN->vf->vQ->xy->z8->Prop} {p4:uN->vf->vQ->xy->z8->Prop} {p5:uN->vf->vQ->xy->z8->Prop} {G:Prop} (h:∃ x0:uN,∃ x1:vf,∃ x2:vQ,∃ x3:xy,∃ x4:z8,p0 x0 x1 x2 x3 x4/\p1 x0 x1 x2 x3 x4/\p2 x0 x1 x2 x3 x4/\p3 x0 x1 x2 x3 x4/\p4 x0 x1 x2 x3 x4/\p5 x0 x1 x2 x3 x4) (k:∀ x0:uN,∀ x1:vf,∀ x2:vQ,∀ x3:xy,∀ x4:z8,p0 x0 x1 x2 x3 x4->p1 x0 x1 x2 x3 x4->p2 x0 x1 x2 x3 x4->p3 x0 x1 x2 x3 x4->p4 x0 x1 x2 x3 x4->p5 x0 x1 x2 x3 x4->G):G:=by obtain ⟨x0,x1,x2,x3,x4,h0,h1,h2,h3,h4,h5⟩:=h;exact k x0 x1 x2 x3 x4 h0 h1 h2 h3 h4 h5
theorem YM {uN:Sort _} {vf:Sort _} {vQ:Sort _} {xy:Sort _} {z8:Sort _} {QK:Sort _} {p0:uN->vf->vQ->xy->z8->QK->Prop} {p1:uN->vf->vQ->xy->z8->QK->Prop} {G:Prop} (h:∃ x0:uN,∃ x1:vf,∃ x2:vQ,∃ x3:xy,∃ x4:z8,∃ x5:QK,p0 x0 x1 x2 x3 x4 x5/\p1 x0 x1 x2 x3 x4 x5) (k:∀ x0:uN,∀ x1:vf,∀ x2:vQ,∀ x3:xy,∀ x4:z8,∀ x5:QK,p0 x0 x1 x2 x3 x4 x5->p1 x0 x1 x2 x3 x4 x5->G):G:=by obtain ⟨x0,x1,x2,x3,x4,x5,h0,h1⟩:=h;exact k x0 x1 x2 x3 x4 x5 h0 h1
theorem YN {uN:Sort _} {vf:Sort _} {vQ:Sort _} {xy:Sort _} {z8:Sort _} {QK:Sort _} {Yh:Sort _} {p0:uN->vf->vQ->xy->z8->QK->Yh->Prop} {p1:uN->vf->vQ->xy->z8->QK->Yh->Prop} {G:Prop} (h:∃ x0:uN,∃ x1:vf,∃ x2:vQ,∃ x3:xy,∃ x4:z8,∃ x5:QK,∃ x6:Yh,p0 x0 x1 x2 x3 x4 x5 x6/\p1 x0 x1 x2 x3 x4 x5 x6) (k:∀ x0:uN,∀ x1:vf,∀ x2:vQ,∀ x3:xy,∀ x4:z8,∀ x5:QK,∀ x6:Yh,p0 x0 x1 x2 x3 x4 x5 x6->p1 x0 x1 x2 x3 x4 x5 x6->G):G:=by obtain ⟨x0,x1,x2,x3,x4,x5,x6,h0,h1⟩:=h;exact k x0 x1 x2 x3 x4 x5 x6 h0 h1
theorem YO {α:Type} {P:List α->Prop} (h:P []) (us:List α) (e:us.length=0):P us:=by
 cases us with
 | nil=>exact h
 | cons=>cases e
theorem EN {α:Type} {P:List α->Prop} (h:∀ a,P [a]) (us:List α) (e:us.length=1):P us:=by
 cases us with
 | nil=>cases e
 | cons a t=>exact YO (P:=fun t=>P (a :: t)) (h a) t (Nat.succ.inj e)
theorem BS {α:Type} {P:List α->Prop} (h:∀ a b,P [a,b]) (us:List α) (e:us.length=2):P us:=by
 cases us with
 | nil=>cases e
 | cons a t=>exact EN (P:=fun t=>P (a :: t)) (h a) t (Nat.succ.inj e)
theorem Up {α:Type} {P:List α->Prop} (h:∀ a b c,P [a,b,c]) (us:List α) (e:us.length=3):P us:=by
 cases us with
 | nil=>cases e
 | cons a t=>exact BS (P:=fun t=>P (a :: t)) (h a) t (Nat.succ.inj e)
theorem YQ {α:Type} {P:List α->Prop} (h:∀ a b c d,P [a,b,c,d]) (us:List α) (e:us.length=4):P us:=by
 cases us with
 | nil=>cases e
 | cons a t=>exact Up (P:=fun t=>P (a :: t)) (h a) t (Nat.succ.inj e)
theorem us5 {α:Type} {P:List α->Prop} (h:∀ a b c d e,P [a,b,c,d,e]) (us:List α) (e:us.length=5):P us:=by
 cases us with
 | nil=>cases e
 | cons a t=>exact YQ (P:=fun t=>P (a :: t)) (h a) t (Nat.succ.inj e)
theorem YR {α:Sort _} {G:α->Prop} {P:Prop} (k:(∀ a,G a)->P) (h:∀ a,G a):P:=k h
theorem Ws {G P:Prop} (k:G->P) (h:G):P:=k h
theorem lx0 {α:Type} (us:List α) (e:us.length=0):us=[]:=YO (P:=fun us=>us=[]) rfl us e
theorem Yi {α:Type} (us:List α) (e:us.length=1):∃ a,us=[a]:=EN (P:=fun us=>∃ a,us=[a]) (fun a=>⟨a,rfl⟩) us e
theorem lx2 {α:Type} (us:List α) (e:us.length=2):∃ a b,us=[a,b]:=BS (P:=fun us=>∃ a b,us=[a,b]) (fun a b=>⟨a,b,rfl⟩) us e
open PySem renaming wpAny_bind->am,wpAny_pure->ap,Addr->ci,Value->cr,starEach->fG,Shared->fH,sizeLine->fK,wpAny->fO,model->fS,mainGlobals->f7,Program->gf,World->gu,Stmt->gy,Expr->gA,wpAny_holding->gC,Heap->gE,FuncData->gF,attributeBase->gH,Around->gJ,wpAny_newObj_type->gN,wpAny_call_entry->gR,wpAny_mono->hJ,wpAny_field->hL,wpAny_setState_of->hV,sizeLine_eq->hX,behindInMarks->ic,backTo->ij,compareOp->iB,SetTable->iH,excClassObj->iI,wpAny_askSetting->iL,wpAny_loadPart_at->iO,codeAny_builtin->iQ,wpAny_setField_rec->iU,codeAny_mono->iY,swapsWith->i4,mem_of_lookup->jc,wpAny_truthy_bool->jf,foldedSetIterable->jg,intKind->jk,ExcBaseFacts->jm,wpAny_Call_Name_kw->js,cLine->ju,wpAny_loadName_local->jy,holding->jz,keywordEach->jA,wpAny_typeOf->jB,sysModules->jF,plainId_quiet->jH,Scope->jO,wpAny_seqItems->jP,unsupported->jW,tupleKind_room_in1->jY,wpAny_passesOwn->j5,rawInt->kg,builtinLookup_eq_fast->ki,wpAny_rule->kE,getMethod->kH,wpAny_isInstance->kK,binaryOp->kS,codeAny->kW,codeAny_of_tree->kY,wpAny_call->k8,typeLookup->k9,wpAny_of_eq->lh,bootBuiltins->lv,standAt->lw,backToKw->lx,wpAny_setField->lG,setsByText->lU,hashInt->lW,wpAny_standAt->lY,callWith->lZ,sliceBounds->l6,codeAny_call_builtin->ma,boot_len->md,wpAny_execs_nil->mr,typeLookup_type->my,getItem->mF,call_meetsIn->mI,builtinsNs->mS,wpAny_attempt->nN,wpAny_comprehension_free->nO,wpAny_onRaise->nP,tupleKind->nV,GenState->nX,Obj->oq,wpAny_Name->ot,assignEach->ou,Keyword->oy,intKind_is->oB,sub_set_self->oC,letOwnedTupleGo->oF,wpAny_specialOf->oG,wpAny_updateSeq->oK,IsPart->oV,firstArgMember->oY,IsPair->o5,wpAny_updateSeq_pair->o6,spliced->o7,valueAt->o9,relabel->pf,wpAny_loadName_free->pr,wpAny_setEntries_of->pE,wpAny_isSubtype_exc->pH,isTrue->pK,assign->pL,wpAny_load->pM,wpAny_pyIter_tuple->pN,leaving->qc,wpAny_Call_method->qd,callerA->qe,cStatics->qh,ks_wpAt_mono->qi,plainObj_wpAny_Assign_Attribute->qk,wpAny_eqBool_int->qt,PassesOwn->qu,argsOk->qw,noteFrame->qx,CmpOp->qF,subscripted->qI,IsZip->qP,wpAny_letGo->qQ,Within->qR,wpAny_AugAssign_SubscriptAny->qU,wpAny_tests_nil->qX,setItem->rc,BindsTo->rg,OwnTail->rq,wpAny_Compare1->ry,pyNext->rA,recursionLimit->rC,bindArgs->rD,atKey->rH,relayAll->rL,storeSet->rM,entryFor->rN,entryFor_alias->rO,wpAny_runValue->rP,isSubtype_type->rQ,compEnvC->rS,closureFor->rT,isInstance->rX,refuseLoop->rY,evalPart_none->su,wpAny_getItem_list_slice->sv,call->sw,setWalkUnseen->sy,wpAny_newList->sA,wpAt->sD,bindL->sH,bindC->sI,table->sN,pickOrder->sO,updateSeq->sR,TriplesOk->sS,field->sT,truthy->sZ,seqIndex_neg->tm,wpAny_Call_method_late->tz,setAddHashed->tF,collect->tH,newList->tJ,wpAny_isTrue_Compare1->tN,weight_type_call_type->tQ
open PySem.Heap renaming get?_push_of_some->ce,lt_size->fQ,get?_push_size->fU,get?_update_other->gG,get?_update_self->gP,SameBut->gX,size_push->iF,FlyingW->ko,get?_none_of_le->lJ,get?_push_at->mM,size_update->m4,get?_update_ne->oM,IsTuple->ph,MadeExcOf->qr
open PySem.W renaming Frag->fB,nsIn->f9,findIn->gr,envX->gU,mg_of->gW,keepIn->h8,excIn->im,codeIn->iu,fnOf->iG,kia_one->iM,Looks->iR,emptyDict->iT,ks_superIn->iZ,instObj->jp,fnX->jr,mroIn->jK,methodObj->jQ,exmAny->j0,hideAll->kB,fnIn->kR,plainGet->kZ,clsIn->lj,kas_rev_size->lH,of_hideAll->lR,hasDictIn->mh,tabIn->mz,isFn->mU,methodCall_KW->m8,lookIn->nA,typeIn->nC,looks_findIn->nE,hideAll_get->nW,plainGet_of->nY,looks_clsIn->nZ,callWith_of->og,looks_mroIn->oh,ks_superObj->oi,callWith_K->ov,isNs_of_in->oE,plainOver->oO,kas_rev->pi,takerIn->pw,makesIn->pA,OpenLaw->pF,kitOne->pO,CodeHd->pS,tabObj->pT,ks_loadName_global->pU,MethP->qj,cellsFrom_some->qv,funFrames_hide->qz,hideAll_none->qS,looks_opaque->q7,callWith_K0->rh,codeRec_of->rF,tail_of_in->rV,mg_none_of->rW,kitx_list->sd,kitx_dict->se,handedIn->sr,kat_cons->sF,keeps_M->sU,alongIn->sV,kas_place->sX,kat_yes->sY,kat_go->tK,kat_no->tL,nsOkIn->tM,WalkO->tR
open Nat renaming le_refl->fJ,ne_of_lt->fX,lt_of_lt_of_le->ga,le_trans->gZ,zero_le->g9,ne_of_gt->ii,lt_succ_self->iA,lt_irrefl->iV,le_of_lt_succ->ja,le_succ->kh,le_of_lt->kq,lt_trans->l8,succ_pos->l9,lt_of_le_of_lt->mu,mod_lt->mw,lt_succ_of_lt->mP,le_add_right->m9,le_of_eq->pB,sub_self->pG,le_of_not_lt->pP,zero_add->rK,div_lt_of_lt_mul->sx,lt_trichotomy->tO
open List renaming mem_cons_self->fM,length_map->fN,mem_cons_of_mem->fP,length_append->fV,size_toArray->fW,mem_append_right->gg,length_singleton->gh,length_cons->gk,range->gl,map_cons->gn,mem_cons->gp,length_filter_le->gD,find?_cons->gQ,mem_append_left->g8,not_mem_nil->ie,lookup_cons->ig,getD_eq_getElem?_getD->il,take_of_length_le->iq,mem_filter->iv,filter_cons->iw,getElem?_eq_getElem->iz,pairwise_singleton->iC,getElem?_map->iK,mem_of_getElem?->iP,getElem?_append_right->iW,map_append->jb,filterMap_cons->jd,getElem?_eq_none->jo,map_map->jt,replicate->jD,append_nil->jR,length_range->jZ,lookup->j7,getElem?_of_mem->j9,length_take->kj,getElem?_append_left->ku,length_set->kI,mem_append->kJ,mem_singleton->kN,append_assoc->kX,perm_append_comm->lm,length_drop->lq,getElem?_set_ne->lK,take_append_of_le_length->lM,length_nil->lO,nil_append->lP,map_congr_left->lV,nodup_nil->mj,drop_eq_getElem_cons->mC,length->mG,reverse_cons->mH,filter_congr->mK,any_cons->mO,eraseIdx_cons_succ->mX,all_eq_true->m6,getElem?_set_self->nw,map_nil->ny,of_mem_zip->nI,foldl_cons->nK,all_cons->oR,ext_getElem?->pc,eraseIdxIfInBounds_toArray->pC,filter_map->pZ,getElem?_take_of_lt->qH,findIdx?->qL,getElem?_replicate->qV,getElem?_cons_succ->qZ,pairwise_lt_range->ro,filterMap_eq_map'->rr,length_replicate->rE,take_append_drop->rJ,eq_nil_or_concat->rZ,concat_eq_append->r8,getElem?_range->sC,filterMap_map->sJ,getElem?_take->sK,getElem?_drop->sL,map_filterMap->sM,contains_cons->sW,take_sublist->tj,getElem_mem->tP,any_eq_true->tS,drop_length->tT,zipIdx_cons->tU,take_length->tV,getElem_map->tW
open Array renaming length_toList->fR,getElem?_toList->gI,getElem?_eq_getElem->io,getD_eq_getD_getElem?->jU,size_map->kT,toList_extract->lF,toList_append->oA,append_assoc->oN,toList_push->oW,toList->qT,getElem?_eq_none->qY,find?_toList->sk
open Bool renaming false_ne_true->fT,and_eq_true->gK,false_eq_true->jM,eq_iff_iff->kG,xor_assoc->mo,xor_false->mq,and_self->oT,false_xor->qq,or_false->qM
open PySem.Value renaming ref->fZ,type->i8,int->kd,isInt->lu,bool->qa,float->rs
open PySem.SetTable renaming below->f8,sizeAbove->gO,eraseAt->gY,bits->hR,runEnd->hW,insertAt->hZ,leap->iJ,fresh->jh,has->jq,turns->jv,fill->jJ,Probe->jV,advance->j1,grown->kM,laid->mi,freeSlot->oH,layClean->oJ,probe->pI,slot->pX,roomFor->sh,fits->tE,road->tG
open Or renaming inl->gc
open Sum renaming inl->gm,inr->pq
open PySem.F renaming plainAttrs_list->gv,excBase_ValueError->gw,slot_list_append->gL,type_list_append->gM,slot_dict_get->ji,slot_tuple_iterator_next->kA,entry_dict_get->kO,plainAttrs_dict->mJ,plain_list_iadd->mZ,slot_list_pop->nj,type_list_pop->nq,plain_set_new->om,slot_zip_next->oo,plain_extend_loop->oZ,slot_dict_delitem->pW,args_dict_get_2->qm,args_dict_get_3->qo,args_tuple_iterator_next_1->qA,slot_dict_pop->qJ,type_dict_get->qK,entry_tuple_iterator_next->qO,entry_proto_collect->sP,plain_proto_collect->sQ
open List.Pairwise renaming nil->gx,filter->iX,imp->nJ
open False renaming elim->gB
open Option.some renaming inj->gV
open Option renaming isSome_map->hI,getD_none->o8,map->sf
open PySem.SetTable.layClean renaming free->hO
open PySem.Builtin.SmallTypes renaming nextOf->ik,ownedTupleIsFree->i7,ownedTupleHandOut->mn
open PySem.Around renaming under_plainId->iD,under->qG,frames_deeper->rj,under_plain->sj
open PySem.Calls renaming evalArgs_plain->iE,spliced_cons->i5,callWith_builtin->je,spliced_nil->jT,loadGlobal_builtin->mE,Name_function_global->qb,call_function_entry->qp
open PySem.SetTable.probe renaming go->iN
open Int renaming toNat_natCast->i9,emod_lt_of_pos->kP,emod_nonneg->lS,le_refl->mQ
open PyProof.Rows renaming boot_sorted->jj,slot_tuple_getitem->jl,boot_list->jw,callWith_type1->jG,IntsAre->jL,seqObj->kQ,AllBare->lX,boot_set->mD,envOfC->m7,callWith_builtin1->oj,Subscript_->rG,size_push'->rR,listUpdate_at->sG,subscriptTail_builtinR->tq
open PySem.Spec renaming sameAll->jx,same->jE
open PySem.Builtin.List renaming listExtendWith->jI,listSameRef->j4,listLengthHint->oS
open PySem.W.KasT renaming kasWp->jN,kasWp_bind->lQ
open PySem.Builtin.Slice renaming slicePlaces->jS,sliceAdjust->lA,sliceApplied->oP
open PySem.Builtin.Tuple renaming tupleExact->jX,tupleItemsOf->oQ
open PySem.Str renaming ofString->ky
open PySem.Heap.SameBut renaming refl->kC,update->mY
open PySem.Shared renaming TypeIs->kD
open PySem.SeqAt renaming noMixAll->kU,noMix->n9,shaped->qW
open ForInStep renaming yield->lp
open PySem.SetTable.below renaming go->lE
open Nat.succ renaming inj->lN
open Sum.inl renaming inj->mf
open PySem.Code renaming quiet_builtin->ml,isFrame->rf
open PySem.PyData renaming canLayAll0->mB,depthAll->ng,canLay0->nS,depth->qN
open List.Perm renaming append_left->mW,cons->nc,refl->ni,of_eq->sg
open PySem.Builtin.Frozenset renaming updateFrom->nL,unchanged->nQ,isAnySet->n6,newClass->n8,oneOther->oa,newFrom->ol
open PyProof.Rows.F renaming plain_set_update_loop->nM,entry_set_update_loop->si
open String renaming splitOnAux->oU,splitOn->pY
open PySem.Heap.UpToSlots renaming of_keeps->o4
open Classical renaming byContradiction->pJ
open PyProof.Rows.IntsAre renaming int_at->pQ,length->pR
open PySem.Heap.IsSliceOf renaming new->pV
open PySem.pickOrder renaming go->qf
open PySem.EntryCells renaming newEntry->qy
open PySem.W.Looks renaming ld->qC
open PySem.SeqAt.EqAt renaming int_str->qD,str_int->qE
open PySem.Heap.DictOf renaming new->rn
open PySem.Heap.Ns1 renaming of_empty->rB
open PySem.Data renaming fields->r9
open PySem.Builtin.BaseException renaming bexcPut->sE
open Function renaming comp->tD
abbrev fE:=@if_pos
abbrev fF:=@if_neg
abbrev fY:=@absurd
abbrev gz:=@decide_eq_false
abbrev gS:=@decide_eq_true_eq
abbrev jC:=@of_decide_eq_true
abbrev kF:=@or_false
abbrev mV:=@if_false
abbrev oz:=@if_true
abbrev oX:=@not_or
abbrev qg:=@bne_self_eq_false
theorem q0q{p:Prop}(h:p:=by decide):p:=h
theorem q0d{p:Prop}(h:p:=by omega):p:=h
theorem q0o{p:Prop}(h:p:=by simp):p:=h
theorem q0s{p:Prop}(h:p:=by decide +kernel):p:=h
theorem q0a{p:Prop}(h:p:=by lia):p:=h
namespace L2
open PySem PySem.Spec PyProof.Rows
abbrev Key:=Sum Int Str
def yR:Key->cr->Bool
 | .inl k,v=>lu k v
 | .inr x,v=>Value.isStrOf x v
def YS(w:gu):Key->Int
 | .inl k=>lW k
 | .inr x=>hashStr w x
theorem vg:∀{k:Key} {v:cr},yR k v=true->(∃i t,k=gm i/\v=kd i t)\/(∃x t,k=pq x/\v=Value.str x t)
 | .inl i,v,h=>by
  obtain⟨t,e⟩:=Value.isInt_shape (k:=i) (v:=v) h;exact .inl ⟨i,t,rfl,e⟩
 | .inr x,v,h=>by obtain⟨t,e⟩:=Value.isStrOf_shape (x:=x) (v:=v) h;exact .inr ⟨x,t,rfl,e⟩
theorem LC(i:Int)(t:Tok):yR (.inl i) (.int i t)=true:=by simp[yR,lu]
theorem LD(x:Str)(t:Tok):yR (.inr x) (.str x t)=true:=by simp[yR,Value.isStrOf]
theorem Uq(a b:Int):decide ((gm a:Key)=gm b)=(a==b):=by
 by_cases e:a=b
 ·subst e;simp
 ·have h:¬(gm a:Key)=gm b:=λq=>e<|mf q;rw[gz h];exact(beq_eq_false_iff_ne.mpr e).symm
theorem Ur(a b:Str):decide ((pq a:Key)=pq b)=decide (a=b):=by
 by_cases e:a=b
 ·subst e;simp
 ·have h:¬(pq a:Key)=pq b:=λq=>e<|Sum.inr.inj q;rw[gz h,gz e]
theorem Us(a:Int)(b:Str):decide ((gm a:Key)=pq b)=false:=gz<|λq=>nomatch q
theorem Ut(a:Str)(b:Int):decide ((pq a:Key)=gm b)=false:=gz<|λq=>nomatch q
def uB(prog:gf)(w:gu):PySem.KeyKind prog w Key where
 is:=yR
 hash:=YS w
 inj:=λv a b ha hb=>by
  rcases vg ha with⟨i,t,rfl,rfl⟩|⟨x,t,rfl,rfl⟩
  ·rcases vg hb with⟨j,u,rfl,e⟩|⟨y,u,rfl,e⟩
   ·injection e with e1 _;rw[e1]
   ·exact nomatch e
  ·rcases vg hb with⟨j,u,rfl,e⟩|⟨y,u,rfl,e⟩
   ·exact nomatch e
   ·injection e with e1 _;rw[e1]
 byValue:=λk v h=>by rcases vg h with⟨i,t,rfl,rfl⟩|⟨x,t,rfl,rfl⟩<;>rfl
 pyHash:=λhv h=>by
  rcases vg hv with⟨i,t,rfl,rfl⟩|⟨x,t,rfl,rfl⟩
  ·exact wpAny_pyHash_int h
  ·exact wpAny_pyHash_str h
 eqBool:=λhu hv h=>by
  rcases vg hu with⟨i,t,rfl,rfl⟩|⟨x,t,rfl,rfl⟩
  ·rcases vg hv with⟨j,u,rfl,rfl⟩|⟨y,u,rfl,rfl⟩
   ·rw[Uq] at h;exact qt h
   ·rw[Us] at h;exact qD i t y u _ _ _ _ h
  ·rcases vg hv with⟨j,u,rfl,rfl⟩|⟨y,u,rfl,rfl⟩
   ·rw[Ut] at h;exact qE x t j u _ _ _ _ h
   ·rw[Ur] at h;exact wpAny_eqBool_str h
 «strs»:=λk x t v h=>by
  rcases vg h with⟨i,u,rfl,e⟩|⟨y,u,rfl,e⟩
  ·exact nomatch e
  ·injection e with e1 _;subst e1;cases v<;>rfl
theorem GJ(a:gf)(w:gu)(i:Int)(t:Tok):(uB a w).is (.inl i) (.int i t)=true:=LC i t
theorem GK(a:gf)(w:gu)(x:Str)(t:Tok):(uB a w).is (.inr x) (.str x t)=true:=LD x t
set_option genInjectivity true in
inductive V where
 | vC|bl (b:Bool)|int (i:Int)|str (x:Str)|Kb (b:Array UInt8)|Uu (b:UInt64)|ref (a:ci)|ty (n:String)
 deriving DecidableEq
def RelV:V->cr->Prop
 | .vC,u=>u=Value.none
 | .bl b,u=>u=qa b
 | .int i,u=>∃t,u=kd i t
 | .str x,u=>∃t,u=Value.str x t
 | .Kb b,u=>∃t,u=Value.bytes b t
 | .Uu b,u=>∃t,u=rs b t
 | .ref a,u=>u=fZ a
 | .ty n,u=>u=i8 n
abbrev Vals:List V->List cr->Prop:=Paired RelV
theorem Vals.length{xs:List V}{us:List cr}(r:Vals xs us):xs.length=us.length:=Paired.length r
theorem Vals.get:∀{a:List V} {b:List cr} {i:Nat} {x:V},Vals a b->a[i]?=some x->∃u,b[i]?=some u/\RelV x u:=by
 intro _ _ i x z
 induction z generalizing i with
 | nil=>intro e;simp at e
 | cons r t c =>
  intro e
  cases i with
  | zero=>simp at e;subst e;exact⟨_,rfl,r⟩
  | succ i=>exact tX (c<|by simpa using e) λu d f=>⟨u,by simpa using d,f⟩
theorem Vals.set(r:RelV x u):∀{a:List V} {b:List cr} (i:Nat),Vals a b->Vals (a.set i x) (b.set i u)
 | _,_,_,.nil=>.nil
 | _,_,0,.cons _ t=>.cons r t
 | _,_,i+1,.cons q t=>.cons q<|Vals.set r i t
theorem Vals.append:∀{a b:List V} {c d:List cr},Vals a c->Vals b d->Vals (a++b) (c++d):=by
 intro _ _ _ _ z s
 induction z with
 | nil=>exact s
 | cons h t e=>exact .cons h e
theorem Vals.take:∀{a:List V} {b:List cr} (n:Nat),Vals a b->Vals (a.take n) (b.take n)
 | _,_,0,_=>.nil
 | _,_,_+1,.nil=>.nil
 | _,_,n+1,.cons r t=>.cons r<|Vals.take n t
theorem Vals.drop:∀{a:List V} {b:List cr} (n:Nat),Vals a b->Vals (a.drop n) (b.drop n)
 | _,_,0,r=>r
 | _,_,_+1,.nil=>.nil
 | _,_,n+1,.cons _ t=>Vals.drop n t
def yj:Option V->Option cr->Prop
 | some v,some u=>RelV v u
 | none,none=>True
 | _,_=>False
def KV{a:Type}:List (a×V)->List (a×cr)->Prop:=Paired λ(p:a×V)(q:a×cr)=>p.1=q.1/\RelV p.2 q.2
def kV:Key->V
 | .inl i=>.int i
 | .inr x=>.str x
inductive HO where
 | lst (xs:List V)
 | tup (xs:List V)
 | dK (vR:List (Key×V))|dT (vR:List (List Key×V))
 | set (S:Int->Bool) (n:Nat)
 | ins (C dx:ci) (fs:List (Str×V))
 | own (x:ci)
 | xd (fs:List (Str×V))
 | met (f x:ci)
 | ye (lo hi:Int)
 | Ig (o:Obj) (u:HO)
 | DP (ps:Array cr)
 | ext (φ:gE->Prop)
abbrev Hp:=ci->Option HO
def upd(H:Hp)(a:ci)(o:HO):Hp:=λb=>if b=a then some o else H b
theorem tZ:upd H a o a=some o:=by unfold upd;rw[fE rfl]
theorem ss(h:b≠a):upd H a o b=H b:=by unfold upd;rw[fF h]
theorem QL:upd (upd H a o) a u=upd H a u:=by funext b;unfold upd;split<;>rfl
theorem Wt{H:Hp}{a b:ci}{o u:HO}(h:H a=some o)(c:H b=some u)(d:o≠u):a≠b:=by intro e;subst e;rw[h] at c;exact d<|gV c
theorem uf{H:Hp}{a b:ci}{o:HO}(h:H a=some o)(c:H b=none):a≠b:=by intro e;subst e;rw[h] at c;cases c
section
variable(P:gf)(w:gu)
def u7(H:Hp)(h:gE)(a:ci):HO->Prop
 | .lst xs=>xs.length<=fK/\∃(yP:List cr)(n:Nat),Vals xs yP/\h.get? a=some { cls:=.type "list",data:=.seq yP.toArray n}
 | .tup xs=>xs.length<=fK/\∃yP:List cr,Vals xs yP/\IsTup h a yP.toArray
 | .dK vR=>vR.length<=fK/\(a==jF)=false/\∃vs,KV vR vs/\h.DictOf (uB P w) a vs
 | .dT vR=>vR.length<=fK/\(a==jF)=false/\∃xs:List (List Key×ci×cr),
   Paired (λ(p:List Key×V)(q:List Key×ci×cr)=>p.1=q.1/\H q.2.1=some (.tup<|p.1.map kV)/\RelV p.2 q.2.2) vR xs /\
   ∃o es ep,h.get? a=some o/\o.ExactDict/\o.data=.dict es ep/\es.toList=xs.map (entryOfKey<|nV<|uB P w)/\(xs.map (·.1)).Nodup
 | .set S n=>h.SetOf (jk P w) a S n
 | .ins C dx fs=>H dx=some (.own a)/\fs.length<=1000/\dx≠a/\h.get? a=some (jp C dx) /\
   ∃mA,h.Ns1 dx mA/\(∀f,yj (fs.lookup f)<|mA f)/\qR mA (fs.map (·.1))
 | .own _=>∃o,h.get? a=some o
 | .xd fs=>∃mA,h.Ns1 a mA/\∀f,yj (fs.lookup f)<|mA f
 | .ye lo hi=>∃t u v,h.get? a=some { cls:=.type "range",data:=.fields #[.int lo t,.int hi u,.int 1 v]}
 | .Ig o u=>h.get? a=some o/\u7 H h a u
 | .DP ps=>h.get? a=some { cls:=.none,data:=.fields ps}
 | .met f x=>h.get? a=some (jQ (.ref f)<|.ref x)
 | .ext φ=>φ h/\(∃o,h.get? a=some o)/\∀h1 h2:gE,φ h1->(∀o,h1.get? a=some o->h2.get? a=some o)->φ h2
def wU(H:Hp)(h:gE):Prop:=∀a o,H a=some o->u7 P w H h a o
end
section
variable{P:gf}{w:gu}{H H':Hp}{h h':gE}{a:ci}{o:HO}
theorem u7.lt(x:u7 P w H h a o):a<h.objs.size:=by
 cases o with
 | lst c=>obtain⟨_,_,_,_,e⟩:=x;exact fQ e
 | tup c=>obtain⟨_,_,_,p⟩:=x;exact p.lt
 | dK b=>obtain⟨_,_,_,_,o,_,_,e,_⟩:=x;exact fQ e
 | dT b=>obtain⟨_,_,_,_,o,_,_,e,_⟩:=x;exact fQ e
 | set S n=>obtain⟨o,_,_,_,e,_⟩:=x;exact fQ e
 | ins C d fs=>obtain⟨_,_,_,e,_⟩:=x;exact fQ e
 | own y=>obtain⟨_,e⟩:=x;exact fQ e
 | xd fs=>obtain⟨_,⟨_,_,_,e,_⟩,_⟩:=x;exact fQ e
 | ye lo g=>obtain⟨_,_,_,e⟩:=x;exact fQ e
 | Ig i u=>obtain⟨e,_⟩:=x;exact fQ e
 | DP j=>exact fQ<|show h.get? a=some _ from x
 | met f y=>exact fQ<|show h.get? a=some _ from x
 | ext k=>obtain⟨_,⟨_,e⟩,_⟩:=x;exact fQ e
theorem Paired.Uv:∀{c:List g} {d:List i},Paired F c d->(∀a b,F a b->G a b)->Paired G c d:=by
 intro _ _ z f
 induction z with
 | nil=>exact .nil
 | cons h t e=>exact .cons (f _ _ h) e
theorem u7.Ca(x:u7 P w H h a o)(k:∀b u,(b=a\/H b=some (.own a))->h.get? b=some u->h'.get? b=some u)
 (F:∀b,H b=some (.own a)->H' b=some (.own a))(G:∀b m,H b=some (.tup m)->H' b=some (.tup m)):u7 P w H' h' a o:=by
  induction o with
  | lst m=>obtain⟨z,l,n,r,e⟩:=x;exact⟨z,l,n,r,k _ _ (.inl rfl) e⟩
  | tup m=>obtain⟨z,l,r,g,e,c⟩:=x;exact⟨z,l,r,g,k _ _ (.inl rfl) e,c⟩
  | dK s=>obtain⟨z,y,I,r,g,i,j,e,c⟩:=x;exact⟨z,y,I,r,g,i,j,k _ _ (.inl rfl) e,c⟩
  | dT s =>
    obtain⟨z,y,m,r,g,i,j,e,c⟩:=x
    exact⟨z,y,m,Paired.Uv r λp q z=>⟨z.1,G _ _ z.2.1,z.2.2⟩,g,i,j,k _ _ (.inl rfl) e,c⟩
  | set S n=>obtain⟨g,i,j,t,e,c⟩:=x;exact⟨g,i,j,t,k _ _ (.inl rfl) e,c⟩
  | ins C M fs =>
    obtain⟨d,z,J,e,A,⟨B,i,j,K,c⟩,r⟩:=x
    exact⟨F _ d,z,J,k _ _ (.inl rfl) e,A,⟨B,i,j,k _ _ (.inr d) K,c⟩,r⟩
  | own y=>obtain⟨g,e⟩:=x;exact⟨g,k _ _ (.inl rfl) e⟩
  | xd fs=>obtain⟨A,⟨B,i,j,e,c⟩,r⟩:=x;exact⟨A,⟨B,i,j,k _ _ (.inl rfl) e,c⟩,r⟩
  | ye lo N=>obtain⟨t,u,v,e⟩:=x;exact⟨t,u,v,k _ _ (.inl rfl) e⟩
  | Ig g u L=>obtain⟨e,q⟩:=x;exact⟨k _ _ (.inl rfl) e,L q⟩
  | DP D =>
    have e:h.get? a=some { cls:=.none,data:=.fields D}:=x
    show h'.get? a=some { cls:=.none,data:=.fields D}
    exact k a _ (.inl rfl) e
  | met f y =>
    have e:h.get? a=some (jQ (.ref f)<|.ref y):=x
    show h'.get? a=some (jQ (.ref f)<|.ref y)
    exact k a _ (.inl rfl) e
  | ext O=>obtain⟨p,⟨o,e⟩,E⟩:=x;exact⟨E _ _ p λo q=>k _ _ (.inl rfl) q,⟨o,k _ _ (.inl rfl) e⟩,E⟩
theorem wU.lt(x:wU P w H h)(e:H a=some o):a<h.objs.size:=(x a o e).lt
theorem wU.fresh(x:wU P w H h)(e:h.objs.size<=a):H a=none:=by
 cases q:H a with
 | none=>rfl
 | some u=>exact fY (ga (x.lt q) e)<|iV _
theorem wU.kept(x:wU P w H h)(k:∀b u,h.get? b=some u->h'.get? b=some u):wU P w H h':=λa o e =>
 (x a o e).Ca (λb u _ q=>k b u q) (λ_ q=>q) λ_ _ q=>q
theorem wU.laid(x:wU P w H h)(k:∀b u,h.get? b=some u->h'.get? b=some u)(i:h.objs.size<=a)(d:u7 P w (upd H a o) h' a o):wU P w (upd H a o) h':=λb u e=>by
 have f:=x.fresh i;by_cases g:b=a
 ·subst g;rw[tZ] at e;cases e;exact d
 ·rw[ss g] at e;exact(x b u e).Ca (λc v _ q=>k c v q) (λc q=>by rw[ss<|uf q f];exact q) λc j q=>by rw[ss<|uf q f];exact q
end
def Rd(H:Hp)(a:ci)(u:HO):Prop:=H a=some u\/∃o,H a=some (.Ig o u)
theorem Rd.of(h:H a=some u):Rd H a u:=.inl h
theorem Rd.ok(r:Rd H a u)(x:wU P w H h):u7 P w H h a u:=by
 rcases r with r|⟨o,r⟩
 ·exact x a u r
 ·obtain⟨_,q⟩:=x a _ r;exact q
def Wu:Option HO->Prop
 | some (.lst _)=>True
 | some (.dK _)=>True
 | some (.dT _)=>True
 | some (.set _ _)=>True
 | some (.ins _ _ _)=>True
 | some (.ext _)=>True
 | _=>False
section
variable{P:gf}{w:gu}{H:Hp}{h h':gE}{x e:ci}{o':HO}
theorem wU.write(s:wU P w H h)(g:Wu (H x))(o:e=x\/H e=some (.own x))(k:∀b u,b≠e->h.get? b=some u->h'.get? b=some u)(m:∃u,h'.get? e=some u)
 (n:u7 P w (upd H x o') h' x o'):wU P w (upd H x o') h':=λb u q=>by
  have d:∀c y,H c=some (.own y)->c≠x:=λc y r z=>by subst z;rw[r] at g;exact g
  have f:∀c i,H c=some (.tup i)->c≠x:=λc i r z=>by subst z;rw[r] at g;exact g
  by_cases j:b=x
  · subst j; rw[tZ] at q; cases q; exact n
  · rw[ss j] at q
    by_cases a:b=e
    · have p : H b = some (.own x) := by
        rcases o with z|z
        · exact fY (a.trans z) j
        · rw[a]; exact z
      rw[q] at p;cases p
      obtain⟨v,t⟩:=m
      exact⟨v,by rw[a];exact t⟩
    · refine(s b u q).Ca (λc v l r => k c v ?_ r) (λc r => by rw[ss<|d c b r]; exact r) λc i r => by rw[ss<|f c i r]; exact r
      rcases l with rfl|l
      · exact a
      · rintro rfl
        rcases o with z|z
        · exact d c b l z
        · rw[l] at z; cases z; exact j rfl
end
structure Un(fs ex:List ci)(H H':Hp)(h h':gE):Prop where
 keep:∀b o,h.get? b=some o->H b=none->b∉fs->b∉ex->h'.get? b=some o
 slot:∀b o,h.get? b=some o->H b=none->b∈fs->b∉ex->∃sl,h'.get? b=some { o with slots:=sl}
 free:∀b o,h.get? b=some o->H b=none->b∉ex->H' b=none
 there:∀b o,h.get? b=some o->b∉ex->∃o',h'.get? b=some o'
 Ap:∀b xs,H b=some (.tup xs)->H' b=some (.tup xs)
 Aa:∀b o u,H b=some (.Ig o u)->H' b=some (.Ig o u)
 Ab:∀b ps,H b=some (.DP ps)->∃more,H' b=some (.DP<|ps++more)
section
variable{fs fs' ex ex':List ci}{H H1 H2:Hp}{h h1 h2 h':gE}{a x e:ci}{o:HO}
theorem Un.any(u:Un fs ex H H1 h h1)(q:h.get? b=some c)(n:H b=none)(d:b∉ex):∃g,h1.get? b=some { c with slots:=g}:=by
 by_cases f:b∈fs
 ·exact u.slot b c q n f d
 ·exact⟨c.slots,u.keep b c q n f d⟩
theorem Un.trans(a:Un fs ex H H1 h h1)(b:Un fs ex H1 H2 h1 h2):Un fs ex H H2 h h2 where
 keep:=λc ob q n hc hx=>b.keep c ob (a.keep c ob q n hc hx) (a.free c ob q n hx) hc hx
 slot:=λc ob q n hc hx=>by obtain⟨sl,e1⟩:=a.slot c ob q n hc hx;obtain⟨YT,e2⟩:=b.slot c _ e1 (a.free c ob q n hx) hc hx;exact⟨YT,e2⟩
 free:=λc ob q n hx=>by obtain⟨o',e1⟩:=a.there c ob q hx;exact b.free c o' e1 (a.free c ob q n hx) hx
 there:=λc ob q hx=>by obtain⟨o',e1⟩:=a.there c ob q hx;exact b.there c o' e1 hx
 Ap:=λc xs q=>b.Ap c xs<|a.Ap c xs q
 Aa:=λc ob xs q=>b.Aa c ob xs<|a.Aa c ob xs q
 Ab:=λc ps q=>by obtain⟨m1,e1⟩:=a.Ab c ps q;obtain⟨m2,e2⟩:=b.Ab c _ e1;exact⟨m1++m2,by rw[e2,oN]⟩
theorem Un.kept(k:∀b u,h.get? b=some u->h'.get? b=some u):Un fs ex H H h h' :=
 ⟨λb c q _ _ _=>k b c q,λb c q _ _ _=>⟨c.slots,k b c q⟩,λ_ _ _ n _=>n,λb c q _=>⟨c,k b c q⟩,λ_ _ q=>q,λ_ _ _ q=>q,λ_ d q=>⟨#[],by rw[q];simp⟩⟩
theorem Un.refl:Un fs ex H H h h:=Un.kept λ_ _ q=>q
theorem Un.laid(k:∀b u,h.get? b=some u->h'.get? b=some u)(hp:h.objs.size<=a)(hn:H a=none):Un fs ex H (upd H a o) h h' where
 keep:=λb u q _ _ _=>k b u q
 slot:=λb u q _ _ _=>⟨u.slots,k b u q⟩
 free:=λb u q n _=>by rw[ss<|fX<|ga (fQ q) hp];exact n
 there:=λb u q _=>⟨u,k b u q⟩
 Ap:=λb xs q=>by rw[ss<|uf q hn];exact q
 Aa:=λb u xs q=>by rw[ss<|uf q hn];exact q
 Ab:=λb ps q=>⟨#[],by rw[ss<|uf q hn,q];simp⟩
theorem Un.write(d:Wu (H x))(l:e=x\/H e=some (.own x))(k:∀b u,b≠e->h.get? b=some u->h'.get? b=some u)(f:∃u,h'.get? e=some u):Un fs ex H (upd H x o) h h':=by
 have i:∀b,H b=none->b≠x:=λb n z=>by subst z;rw[n] at d;exact d
 have j:∀b,H b=none->b≠e:=λb n z=>by
  subst z;rcases l with r|r
  ·exact i b n r
  ·rw[n] at r;cases r
 have g:∀b u,H b=some u->¬Wu (some u)->b≠x:=λb u q m z=>by subst z;rw[q] at d;exact m d
 refine⟨λb u q n _ _=>k b u (j b n) q,λb u q n _ _=>⟨u.slots,k b u (j b n) q⟩,λb u q n _=>by rw[ss (i b n)];exact n,λb u q _=>?_,
  λb p q=>by rw[ss (g b _ q λz=>z)];exact q,λb u p q=>by rw[ss (g b _ q λz=>z)];exact q,λb s q=>⟨#[],by rw[ss (g b _ q λz=>z),q];simp⟩⟩
 by_cases c:b=e
 ·subst c;exact f
 ·exact⟨u,k b u c q⟩
end
def Yj(h:gE)(H:Hp):List ci:=(gl h.objs.size).filter λa=>(H a).isSome
def GL(h:gE)(H:Hp):gE:=kB h<|Yj h H
theorem LF(h:gE)(H:Hp):(GL h H).objs.size=h.objs.size:=PySem.W.hideAll_size _ _
theorem CL{h:gE}(e:h.get? b=some o)(n:H b=none):(GL h H).get? b=some o :=
 nW _ e λa=>by have q:(H b).isSome=true:=(List.mem_filter.mp a).2;rw[n] at q;simp at q
theorem QM(e:(GL h H).get? b=some o):h.get? b=some o/\H b=none:=by
 have a:h.get? b=some o:=lR (Yj h H) e;refine⟨a,?_⟩
 cases q:H b with
 | none=>rfl
 | some x =>
  have c:b∈Yj h H:=List.mem_filter.mpr ⟨List.mem_range.mpr<|fQ a,by simp[q]⟩;have z:(GL h H).get? b=none:=qS (Yj h H) c;rw[z] at e;cases e
def QN(g h:gE)(L:ci):List (ci×Obj):=(gl h.objs.size).filterMap λa=>if a=L\/(g.get? a).isSome=true then none else (h.get? a).map λo=>(a,o)
def rest(g h:gE)(L d:ci):List (ci×Obj):=(QN g h L).filter λp=>decide<|p.1≠d
structure Mod(K:fB)(mg:Str->Option cr)(base:gE):Prop where
 Ao:K.In base
 glob:base.Ns f7 mg
 blt:∃mb,base.Ns mS mb/\∀x:Str,x≠"__name__"->mb x=lv x
 nolimit:base.NoLimit
structure Cx where
 prog:gf
 w:gu
 K:fB
 mg:Str->Option cr
 base:gE
 A:gJ
 N:List Str
 s₀:fH
 H₀:Hp
 env:Env
 outer:List Env
 stack:List Env
 ex:List ci
 fn:Str->Bool
 calm:Bool
 pn:List (ci×Obj)
 xe:cr->fH->Prop
def yf(l:List Env):List ci:=l.filterMap (·.frame)
abbrev Cx.fs(X:Cx):List ci:=yf X.outer
def YU(a:jO)(x:Str):Prop:=a.names.lookup x=some .local\/a.names.lookup x=some .cell\/a.names.lookup x=some .free
def Loc(a:jO)(x:Str):Prop:=a.names.lookup x=some .local\/a.names.lookup x=some .cell
def Look(a:Env)(h:gE)(m:Str->Option cr)(x:Str)(u:cr):Prop :=
 (a.kindOf x=some .local/\m x=some u)\/((a.kindOf x=some .cell\/a.kindOf x=some .free)/\∃c,a.cells.lookup x=some c/\h.IsCell c (some u))
structure Cx.Ok(X:Cx):Prop where
 mod:Mod X.K X.mg X.base
 kind:X.env.scope.kind=.function
 glob:X.env.globals=f7
 blt:X.env.builtins=mS
 above:X.s₀.heap.objs.size<=X.env.locals
 inj:∀x y c,X.env.cells.lookup x=some c->X.env.cells.lookup y=some c->x=y
 has:∀x,(X.env.kindOf x=some .cell\/X.env.kindOf x=some .free)->∃c,X.env.cells.lookup x=some c
 MV:∀x c,X.fn x=true->X.env.cells.lookup x=some c->X.s₀.heap.objs.size<=c
 hd:X.calm=true->X.A.handled=none
 frames:X.A.frames=some X.stack
 A9:X.stack=X.outer\/(X.stack=X.env::X.outer/\X.env.frame=some X.env.locals)
 QO:∀b∈X.ex,b≠X.env.locals/\∀x c,X.env.cells.lookup x=some c->c≠b
 bs:∀b o,X.base.get? b=some o->X.s₀.heap.get? b=some o/\X.H₀ b=none
 GN:X.base.objs.size<=X.s₀.heap.objs.size
 Cb:∀b o,X.base.get? b=some o->b∉X.ex
 CM:∀b∈X.ex,b∉X.fs
 xz:X.s₀.heap.FunFrames X.base X.outer
 H0:∀b∈X.fs,X.H₀ b=none
structure Inv(X:Cx)(pins:List (ci×Obj))(σ:List (Option V))(H:Hp)(s:fH):Prop where
 ok:X.Ok
 os:s.os=X.s₀.os
 bare:lX s.gens
 base:Un X.fs X.ex X.H₀ H X.s₀.heap s.heap
 loc:∃m,s.heap.Ns X.env.locals m/\∀(i:Nat)(x:Str)(v:V),X.N[i]?=some x->σ[i]?=some (some v)->YU X.env.scope x->∃u,RelV v u/\Look X.env s.heap m x u
 cell:∀x c,X.env.cells.lookup x=some c->∃v,s.heap.IsCell c v
 free:H X.env.locals=none
 xg:∀x c,X.env.cells.lookup x=some c->H c=none
 pin:∀p∈X.pn++pins,s.heap.get? p.1=some p.2/\H p.1=none/\p.1≠X.env.locals/\p.1∉X.fs/\∀v,p.2.data≠.cell v
 uO:wU X.prog X.w H s.heap
 len:σ.length=X.N.length
section
variable{X:Cx}{pins:List (ci×Obj)}{σ:List (Option V)}{H H':Hp}{s:fH}{h':gE}
theorem Cx.Ok.YV(a:X.Ok)(e:X.base.get? b=some o):b∉X.fs:=λc=>by have:=(a.xz.mem c).1;rw[e] at this;cases this
theorem Inv.bs(I:Inv X pins σ H s):∀b o,X.base.get? b=some o->s.heap.get? b=some o/\H b=none:=λb o e =>
 ⟨I.base.keep b o (I.ok.bs b o e).1 (I.ok.bs b o e).2 (I.ok.YV e)<|I.ok.Cb b o e,I.base.free b o (I.ok.bs b o e).1 (I.ok.bs b o e).2<|I.ok.Cb b o e⟩
theorem Inv.bk(I:Inv X pins σ H s):∀b o,X.base.get? b=some o->s.heap.get? b=some o:=λb o e=>(I.bs b o e).1
theorem Inv.mod(I:Inv X pins σ H s):Mod X.K X.mg X.base:=I.ok.mod
theorem Inv.xI(I:Inv X pins σ H s):X.K.In s.heap:=I.ok.mod.Ao.keeps I.bk
theorem Inv.nolimit(I:Inv X pins σ H s):s.heap.NoLimit:=I.ok.mod.nolimit.keeps I.bk
theorem Inv.lt(I:Inv X pins σ H s):X.env.locals<s.heap.objs.size:=tX I.loc λ_ a _=> a.lt
theorem Inv.sz(I:Inv X pins σ H s):X.s₀.heap.objs.size<=s.heap.objs.size:=gZ I.ok.above<|kq I.lt
theorem Inv.YW(I:Inv X pins σ H s)(h:s.heap.objs.size<=a):a∉X.fs:=λb=>by obtain⟨_,o,c,_⟩:=I.ok.xz.mem b;exact fY (ga (fQ c)<|gZ I.sz h)<|iV _
theorem Inv.YX(I:Inv X pins σ H s):∀x c,X.env.cells.lookup x=some c->c≠X.env.locals:=λx c e z=>by refine vS (I.cell x c e) λv o d f=>?_;obtain⟨m,⟨g,h,i,a,b,_⟩,_⟩:=I.loc;rw[z,a] at d;cases d;rw[b] at f;cases f
theorem Inv.xz(I:Inv X pins σ H s):s.heap.FunFrames X.base X.outer:=by
 have a:∀(l:List Env),(∀b∈yf l,b∈X.fs)->X.s₀.heap.FunFrames X.base l->s.heap.FunFrames X.base l:=by
  intro l
  induction l with
  | nil=>intro _ _;trivial
  | cons h r i =>
   intro g j;obtain⟨k,⟨L,o,c,m,n,p⟩,q⟩:=j;have d:L∈X.fs:=g L (by unfold yf;rw[jd,c];exact fM);obtain⟨t,e⟩:=I.base.slot L o n (I.ok.H0 L d) d λz=>I.ok.CM L z d;exact⟨k,⟨L,_,c,m,e,p⟩,i (λb f=>g b<|by unfold yf;rw[jd,c];exact fP _ f) q⟩
 exact a X.outer (λ_ f=>f) I.ok.xz
theorem Inv.stack(I:Inv X pins σ H s):s.heap.FunFrames X.base X.stack:=by
 rcases I.ok.A9 with e|⟨e,a⟩
 ·rw[e];exact I.xz
 ·rw[e];refine tX I.loc λm b _=>?_;refine .cons (by rw[I.ok.kind];decide) a b ?_ I.xz;exact lJ<|gZ I.ok.GN I.ok.above
theorem Inv.CN(I:Inv X pins σ H s):∀b∈yf X.stack,b∈X.env.locals::X.fs:=λb a=>by
 rcases I.ok.A9 with e|⟨e,c⟩
 ·rw[e] at a;exact fP _ a
 ·rw[e] at a;unfold yf at a;rw[jd,c] at a;exact a
theorem Inv.Kc(I:Inv X pins σ H s):∀b∈yf X.stack,H b=none:=λb a=>by
 rcases List.mem_cons.mp (I.CN b a) with e|a
 ·rw[e];exact I.free
 ·obtain⟨_,o,c,_⟩:=I.ok.xz.mem a;exact I.base.free b o c (I.ok.H0 b a) λz=>I.ok.CM b z a
theorem Inv.step{g':Array nX}{t':Nat}{ch:List ci}(I:Inv X pins σ H s)
 (g:∀b∈ch,(b∈X.ex\/X.s₀.heap.objs.size<=b)/\b≠X.env.locals/\(∀x c,X.env.cells.lookup x=some c->c≠b)/\∀p∈X.pn++pins,p.1≠b)
 (h:∀b o,b≠X.env.locals->b∉X.fs->b∉ch->s.heap.get? b=some o->H b=none->h'.get? b=some o)
 (B:∀b o,b≠X.env.locals->b∈X.fs->b∉ch->s.heap.get? b=some o->H b=none->∃Q,h'.get? b=some { o with slots:=Q}) (f:∀b o,b∉ch->s.heap.get? b=some o->H b=none->H' b=none)
 (D:∀b o,b∉ch->s.heap.get? b=some o->∃G,h'.get? b=some G)
 (J:∀b C,H b=some (.tup C)->H' b=some (.tup C)) (K:∀b o u,H b=some (.Ig o u)->H' b=some (.Ig o u)) (L:∀b P,H b=some (.DP P)->∃M,H' b=some (.DP<|P++M))
 (ns:∀m,s.heap.Ns X.env.locals m->h'.Ns X.env.locals m) (R:wU X.prog X.w H' h') (hg:lX g') :
    Inv X pins σ H' { s with heap:=h',gens:=g',drawn:=d',toks:=t'}:=by
  have N:∀b o,X.s₀.heap.get? b=some o->b≠X.env.locals:=λb o e=>fX<|ga (fQ e) I.ok.above
  have y:∀b o,X.s₀.heap.get? b=some o->b∉X.ex->b∉ch:=λb o e a E=>by
    rcases(g b E).1 with z|z
    · exact a z
    · exact fY (ga (fQ e) z)<|iV _
  have j:∀x c,X.env.cells.lookup x=some c->∀v,s.heap.IsCell c v->h'.IsCell c v:=λx c e v z9=>tX z9 λo F S=>by
    have t:c∉ch:=λz=>(g c z).2.2.1 x c e rfl
    by_cases U:c∈X.fs
    · obtain⟨Q, q⟩ := B c o (I.YX x c e) U t F (I.xg x c e)
      exact⟨_,q,S⟩
    · exact⟨o, h c o (I.YX x c e) U t F<|I.xg x c e, S⟩
  refine⟨I.ok,I.os,hg,⟨λb o e n E a=>?_,λb o e n E a=>?_,λb o e n a=>?_,λb o e a=>?_,λb C e=>J b C<|I.base.Ap b C e,λb o C e=>K b o C<|I.base.Aa b o C e,λb P e=>?_⟩,?_,λx c e=>?_,?_,λx c e=>?_,λp W=>?_,R,I.len⟩
  · exact h b o (N b o e) E (y b o e a) (I.base.keep b o e n E a)<|I.base.free b o e n a
  · obtain⟨Q, A⟩ := I.base.slot b o e n E a
    obtain⟨T,O⟩:=B b _ (N b o e) E (y b o e a) A<|I.base.free b o e n a
    exact⟨T,O⟩
  · obtain⟨G, A⟩ := I.base.there b o e a
    exact f b G (y b o e a) A<|I.base.free b o e n a
  · obtain⟨G, A⟩ := I.base.there b o e a
    exact D b G (y b o e a) A
  · obtain⟨m1, A⟩ := I.base.Ab b P e
    obtain⟨m2,O⟩:=L b _ A
    exact⟨m1++m2,by rw[O,oN]⟩
  · refine tX I.loc λm hn hl => ?_
    refine⟨m,ns m hn,λi x v A O e3=>?_⟩
    refine tX (hl i x v A O e3) λu r l=>?_
    refine⟨u,r,?_⟩
    rcases l with l|⟨k,c,e,z⟩
    · exact .inl l
    · exact .inr ⟨k, c, e, j x c e _ z⟩
  · obtain⟨v, z⟩ := I.cell x c e
    exact⟨v,j x c e v z⟩
  · obtain⟨m, ⟨o, _, _, F, _⟩, _⟩ := I.loc
    exact f _ o (λz=>(g _ z).2.1 rfl) F I.free
  · refine vS (I.cell x c e) λv o F S => ?_
    exact f c o (λz=>(g c z).2.2.1 x c e rfl) F<|I.xg x c e
  · obtain⟨e, n, Y, Z, d⟩ := I.pin p W
    have t:p.1∉ch:=λz=>(g p.1 z).2.2.2 p W rfl
    exact⟨h p.1 p.2 Y Z t e n,f p.1 p.2 t e n,Y,Z,d⟩
theorem Inv.un{t':Nat}(I:Inv X pins σ H s)(u:Un X.fs [] H H' s.heap h')(c:wU X.prog X.w H' h'):Inv X pins σ H' { s with heap:=h',toks:=t'}:=by
 obtain⟨m,⟨o,l,p,h,r⟩,_⟩:=id I.loc;obtain⟨q,i⟩:=u.any h I.free q0o
 exact I.step (g':=s.gens) (d':=s.drawn) (ch:=[]) (λ_ z=>nomatch z) (λb o _ d _ e n=>u.keep b o e n d q0o) (λb o _ d _ e n=>u.slot b o e n d q0o) (λb o _ e n=>u.free b o e n q0o) (λb o _ e=>u.there b o e q0o) u.Ap u.Aa u.Ab (λt j=>by
  refine wT j λv f g a k=>?_;rw[h] at a;cases a
  exact⟨_,f,g,i,k⟩) c I.bare
theorem Inv.call{g':Array nX}{t':Nat}{ch:List ci}(I:Inv X pins σ H s)(u:Un (yf X.stack) ch H H' s.heap h')(g:wU X.prog X.w H' h')(l:lX g')
 (d:∀b∈ch,(b∈X.ex\/X.s₀.heap.objs.size<=b)/\b≠X.env.locals/\(∀x c,X.env.cells.lookup x=some c->c≠b)/\∀p∈X.pn++pins,p.1≠b) :
    Inv X pins σ H' { s with heap:=h',gens:=g',drawn:=d',toks:=t'}:=by
  obtain⟨m,⟨o,y,A,k,r⟩,_⟩:=id I.loc
  obtain⟨B,h⟩:=u.any k I.free λz=>(d _ z).2.1 rfl
  exact I.step (ch:=ch) d (λb o h q a e n=>u.keep b o e n (λz=>(List.mem_cons.mp (I.CN b z)).elim h q) a) (λb o _ _ a e n=>u.any e n a) (λb o a e n=>u.free b o e n a) (λb o a e=>u.there b o e a) u.Ap u.Aa u.Ab (λC t=>by
    refine wT t λD i j f v=>?_
    rw[k] at f;cases f
    exact⟨_,i,j,h,v⟩) g l
theorem Inv.turned{t':Nat}(I:Inv X pins σ H s)(k:∀b o,b≠a->s.heap.get? b=some o->h'.get? b=some o)(h:H a=none)(g:a≠X.env.locals)
 (i:a∈X.ex\/X.s₀.heap.objs.size<=a)(j:∀x c,X.env.cells.lookup x=some c->c≠a)(l:∀p∈X.pn++pins,p.1≠a):Inv X pins σ H { s with heap:=h',toks:=t'}:=by
  have f:∀b u,H b=some u->b≠a:=λb u e z=>by rw[z,h] at e;cases e
  refine I.step (g':=s.gens) (d':=s.drawn) (ch:=[a]) (λb t=>?_) (λb o _ _ d e _=>k b o (λz=>d<|by simp[z]) e) (λb o _ _ d e _=>⟨o.slots,k b o (λz=>d<|by simp[z]) e⟩) (λ_ _ _ _ n=>n)
    (λb o d e=>⟨o,k b o (λz=>d<|by simp[z]) e⟩) (λ_ _ e=>e) (λ_ _ _ e=>e) (λb C e=>⟨#[],by rw[e];simp⟩) (λm w=>?_) (λb u e=>?_) I.bare
  · have e : b = a := by simpa using t
    subst e
    exact⟨i,g,j,l⟩
  · refine wT w λo y A B r => ?_
    exact⟨o,y,A,k _ o (Ne.symm g) B,r⟩
  · refine(I.uO b u e).Ca (λc v d q => k c v ?_ q) (λ_ q => q) λ_ _ q => q
    rcases d with z|z
    · rw[z]; exact f b u e
    · exact f c _ z
theorem Inv.tok(I:Inv X pins σ H s)(t:Nat):Inv X pins σ H { s with toks:=t}:=I.un (h':=s.heap) (t':=t) Un.refl I.uO
theorem Inv.kept{t':Nat}(I:Inv X pins σ H s)(k:∀b u,s.heap.get? b=some u->h'.get? b=some u):Inv X pins σ H { s with heap:=h',toks:=t'}:=I.un (Un.kept k)<|I.uO.kept k
theorem Inv.laid{t':Nat}(I:Inv X pins σ H s)(k:∀b u,s.heap.get? b=some u->h'.get? b=some u)(c:s.heap.objs.size<=a)(d:u7 X.prog X.w (upd H a o) h' a o) :
  Inv X pins σ (upd H a o) { s with heap:=h',toks:=t'}:=I.un (Un.laid k c<|I.uO.fresh c)<|I.uO.laid k c d
theorem Inv.write{t':Nat}(I:Inv X pins σ H s)(d:Wu (H x))(f:e=x\/H e=some (.own x))(k:∀b u,b≠e->s.heap.get? b=some u->h'.get? b=some u)(a:∃u,h'.get? e=some u)
 (c:u7 X.prog X.w (upd H x o) h' x o):Inv X pins σ (upd H x o) { s with heap:=h',toks:=t'}:=I.un (Un.write d f k a)<|I.uO.write d f k a c
theorem Inv.ym(I:Inv X pins σ H s)(h:∀p∈pins',s.heap.get? p.1=some p.2/\H p.1=none/\p.1≠X.env.locals/\p.1∉X.fs/\∀v,p.2.data≠.cell v):Inv X pins' σ H s :=
 ⟨I.ok,I.os,I.bare,I.base,I.loc,I.cell,I.free,I.xg,λp a=>(List.mem_append.mp a).elim (λz=>I.pin p<|g8 _ z)<|h p,I.uO,I.len⟩
theorem GO{N:List Str}(c:N.Nodup){i j:Nat}(a:N[i]?=some x)(b:N[j]?=some x):i=j:=by obtain⟨f,d⟩:=List.getElem?_eq_some_iff.mp a;obtain⟨g,e⟩:=List.getElem?_eq_some_iff.mp b;exact(List.getElem_inj c).mp<|d.trans e.symm
theorem Ed{E:cr->fH->Prop}{i:Nat}{Q:Unit->fH->Prop}(I:Inv X pins σ H s)(hN:X.N.Nodup)(P:X.N[i]?=some x)(B:Loc X.env.scope x)(r:RelV v u)
 (h:∀s',Inv X pins (σ.set i<|some v) H s'->(∃a,gX a s.heap s'.heap/\(a=X.env.locals\/X.env.cells.lookup x=some a))->Q () s')(hf:X.fn x=true\/X.env.scope.names.lookup x=some .local:=by first|exact .inl rfl|exact .inr rfl|assumption):fO M A (storeName X.env x u) Q E s:=by
  refine tX (id I.loc) λm hn hl=>?_
  have R:(X.env.scope.kind==.class||(X.env.scope.kind==.module&&X.env.locals != X.env.globals))=false:=by rw[I.ok.kind];rfl
  have F:i<σ.length:=by rw[I.len];exact(List.getElem?_eq_some_iff.mp P).1
  have J:=I.YX
  have g:∀{a:ci} {h':gE},(∃o,s.heap.get? a=some o/\H a=none)->gX a s.heap h'->wU X.prog X.w H h':=λ{a h'} ha f b ob e=>by
    refine tX ha λ_ _ C=>?_
    refine(I.uO b ob e).Ca (λc Y t q=>(f.2 c ?_).trans q) (λ_ q=>q) λ_ _ q=>q
    rintro rfl
    rcases t with rfl|t
    · rw[C] at e; cases e
    · rw[C] at t; cases t
  rcases B with G|G
  · refine wpAny_storeName_local G hn (λh' aa f => ?_) R
    refine wT (id hn) λoL _ _ ab _=>?_
    refine h _ ⟨I.ok,I.os,I.bare,⟨λb o e n K B=>?_,λb o e n K B=>?_,I.base.free,λb o e B=>?_,I.base.Ap,I.base.Aa,I.base.Ab⟩,⟨_,aa,λj y v' l D e3=>?_⟩,λy c e=>?_,I.free,I.xg,λp hp=>?_,g ⟨oL,ab,I.free⟩ f,by simpa using I.len⟩ ⟨_,f,.inl rfl⟩
    · exact(f.2 b<|fX<|ga (fQ e) I.ok.above).trans<|I.base.keep b o e n K B
    · obtain⟨sl, l⟩ := I.base.slot b o e n K B
      exact⟨sl,(f.2 b<|fX<|ga (fQ e) I.ok.above).trans l⟩
    · obtain⟨o', l⟩ := I.base.there b o e B
      exact⟨o',(f.2 b<|fX<|ga (fQ e) I.ok.above).trans l⟩
    · by_cases L : j = i
      · subst L
        rw[P] at l;cases l
        rw[nw F] at D
        cases D
        exact⟨u,r,.inl ⟨G,q0o⟩⟩
      · rw[lK<|Ne.symm L] at D
        refine tX (hl j y v' l D e3) λu' r' q=>?_
        refine⟨u',r',?_⟩
        rcases q with⟨k,e⟩|⟨k,c,e,z⟩
        · refine .inl ⟨k, ?_⟩
          have:y≠x:=λe=>L<|GO hN l<|e▸P
          simp[this,e]
        · exact .inr ⟨k, c, e, z.sameBut f<|J y c e⟩
    · obtain⟨Y, z⟩ := I.cell y c e
      exact⟨Y,z.sameBut f<|J y c e⟩
    · obtain⟨e, n, Z, nf, d⟩ := I.pin p hp
      exact⟨(f.2 p.1 Z).trans e,n,Z,nf,d⟩
  · have O : X.fn x = true := by
      rcases hf with z|z
      · exact z
      · rw[z] at G; cases G
    obtain⟨c,t⟩:=I.ok.has x<|.inl G
    obtain⟨Y,z⟩:=I.cell x c t
    refine wpAny_storeName_cell I.ok.kind G t z<|λh' S f=>?_
    refine tX (id z) λoc T U=>?_
    refine h { s with heap:=h'} ⟨I.ok,I.os,I.bare,⟨λb o e n K B=>?_,λb o e n K B=>?_,I.base.free,λb o e B=>?_,I.base.Ap,I.base.Aa,I.base.Ab⟩,⟨m,hn.sameBut f<|Ne.symm<|J x c t,λj y v' l D e3=>?_⟩,λy c' e=>?_,I.free,I.xg,λp hp=>?_,g ⟨oc,T,I.xg x c t⟩ f,by simpa using I.len⟩ ⟨c,f,.inr t⟩
    · exact(f.2 b<|fX<|ga (fQ e)<|I.ok.MV x c O t).trans<|I.base.keep b o e n K B
    · obtain⟨sl, l⟩ := I.base.slot b o e n K B
      exact⟨sl,(f.2 b<|fX<|ga (fQ e)<|I.ok.MV x c O t).trans l⟩
    · obtain⟨o', l⟩ := I.base.there b o e B
      exact⟨o',(f.2 b<|fX<|ga (fQ e)<|I.ok.MV x c O t).trans l⟩
    · by_cases L : j = i
      · subst L
        rw[P] at l;cases l
        rw[nw F] at D
        cases D
        exact⟨u,r,.inr ⟨.inl G,c,t,S⟩⟩
      · rw[lK<|Ne.symm L] at D
        refine tX (hl j y v' l D e3) λu' r' q=>?_
        refine⟨u',r',?_⟩
        rcases q with q|⟨k,c',e,z'⟩
        · exact .inl q
        · refine .inr ⟨k, c', e, z'.sameBut f ?_⟩
          rintro rfl
          exact L<|GO hN l<|I.ok.inj _ _ _ e t▸P
    · by_cases W : c' = c
      · subst W; exact⟨_, S⟩
      · obtain⟨w2, z2⟩ := I.cell y c' e
        exact⟨w2,z2.sameBut f W⟩
    · obtain⟨e, n, Z, nf, d⟩ := I.pin p hp
      refine⟨(f.2 p.1 ?_).trans e,n,Z,nf,d⟩
      intro q
      rw[q,T] at e
      have q':oc=p.2:=gV e
      exact d Y (by rw[<- q'];exact U)
theorem GP{i:Nat}(I:Inv X pins σ H s)(b:X.N.Nodup)(c:X.N[i]?=some x)(d:Loc X.env.scope x)(r:RelV v u)
 (h:∀a,Inv X pins (σ.set i<|some v) H a->Q () a)(e:X.fn x=true\/X.env.scope.names.lookup x=some .local:=by first|exact .inl rfl|exact .inr rfl|assumption):fO M A (storeName X.env x u) Q E s :=
  Ed I b c d r (λa f _=>h a f) e
theorem Inv.TH{a:fH}(I:Inv X pins σ H s)(g:a.os=s.os)(u:Un (yf X.stack) ch H H' s.heap a.heap)(d:wU X.prog X.w H' a.heap)(h:lX a.gens)
 (f:∀b∈ch,(b∈X.ex\/X.s₀.heap.objs.size<=b)/\b≠X.env.locals/\(∀x c,X.env.cells.lookup x=some c->c≠b)/\∀p∈X.pn++pins,p.1≠b):Inv X pins σ H' a:=by
  obtain⟨h',i,j,k,l⟩:=a
  have e:l=s.os:=g
  subst e
  exact I.call (g':=i) (t':=k) (d':=j) u d h f
end
abbrev XK:=cr->Option ci->Hp->Prop
abbrev St:=List<|Option V
abbrev VK:=V->Hp->Prop
abbrev TE:=St->Hp->VK->Prop
abbrev TT:=St->Hp->(Bool->Hp->Prop)->Prop
abbrev TA:=St->Hp->(List V->Hp->Prop)->Prop
structure Ends where
 nx:St->Hp->Prop
 rt:VK
 bk:St->Hp->Prop:=λ_ _=>False
 ct:St->Hp->Prop:=λ_ _=>False
abbrev TS:=Ends->St->Hp->Prop
def EP(X:Cx)(a:List (ci×Obj))(c:St)(Q:VK)(u:cr)(d:fH):Prop:=∃v b,Inv X a c b d/\RelV v u/\Q v b
def TP(X:Cx)(a:List (ci×Obj))(d:St)(Q:Bool->Hp->Prop)(b:Bool)(e:fH):Prop:=∃c,Inv X a d c e/\Q b c
def AP(X:Cx)(a:List (ci×Obj))(d:St)(Q:List V->Hp->Prop)(e:List cr)(f:fH):Prop:=∃b c,Inv X a d c f/\Vals b e/\Q b c
def SP(X:Cx)(b:List (ci×Obj))(D:Ends)(f:Flow)(d:fH):Prop :=
 match f with
 | .next=>∃a c,Inv X b a c d/\D.nx a c
 | .brk=>∃a c,Inv X b a c d/\D.bk a c
 | .cont=>∃a c,Inv X b a c d/\D.ct a c
 | .ret u=>∃v a c,Inv X b a c d/\RelV v u/\D.rt v c
def PE(X:Cx)(e:gA)(t:TE):Prop :=
 ∀(a:List (ci×Obj)) (s:fH) (b:St) (H:Hp) (Q:VK),Inv X a b H s->t b H Q->fO (fS X.prog X.w) X.A (eval e X.env) (EP X a b Q) X.xe s
def PT(X:Cx)(e:gA)(t:TT):Prop :=
 ∀(a:List (ci×Obj)) (s:fH) (b:St) (H:Hp) (Q:Bool->Hp->Prop),Inv X a b H s->t b H Q->fO (fS X.prog X.w) X.A (pK e X.env<|eval e X.env) (TP X a b Q) X.xe s
def PW(X:Cx)(e:gA)(t:TT):Prop :=
 ∀(b:Sem cr) (a:List (ci×Obj)) (s:fH) (c:St) (H:Hp) (Q:Bool->Hp->Prop),Inv X a c H s->t c H Q->fO (fS X.prog X.w) X.A (pK e X.env b) (TP X a c Q) X.xe s
theorem PW.pt(h:PW X e t):PT X e t:=h _
def PA(X:Cx)(d:List gA)(t:TA):Prop :=
 ∀(b:Pos) (a:List (ci×Obj)) (s:fH) (c:St) (H:Hp) (Q:List V->Hp->Prop),Inv X a c H s->t c H Q->fO (fS X.prog X.w) X.A (o7<|ij b<|fG d X.env) (AP X a c Q) X.xe s
def PS(X:Cx)(c:gy)(t:TS):Prop :=
 ∀(a:List (ci×Obj)) (s:fH) (b:St) (H:Hp) (D:Ends),Inv X a b H s->t D b H->fO (fS X.prog X.w) X.A (exec c X.env) (SP X a D) X.xe s
def DT(X:Cx)(c:List gy)(t:TS):Prop :=
 ∀(a:List (ci×Obj)) (s:fH) (b:St) (H:Hp) (D:Ends),Inv X a b H s->t D b H->fO (fS X.prog X.w) X.A (execs c X.env) (SP X a D) X.xe s
theorem uL{b:Type}{t:Sem b}{Q c:b->fH->Prop}{M:Model}{A:gJ}{E:cr->fH->Prop}{s:fH}(h:fO M A t Q E s)(d:∀a s,Q a s->c a s):fO M A t c E s:=hJ h d λ_ _ x=>x
section
variable{X:Cx}
def uH(i:Nat):TE:=λa H Q=>∃v,a[i]?=some (some v)/\Q v H
def tC(v:V):TE:=λ_ H Q=>Q v H
theorem Ih{i:Nat}(n:X.N[i]?=some x)(o:YU X.env.scope x)(g:(x==("__debug__":Str))=false:=by decide)(j:(x==("__classdict__":Str))=false:=by decide):PE X (.Name x pos) (uH i):=by
 intro f s p H Q I h;refine tX h λv e h=>?_;refine tX I.loc λm q t=>?_;refine tX (t i x v n e o) λu r l=>?_;have b:EP X f p Q u s:=⟨v,H,I,r,h⟩;rcases l with⟨d,w⟩|⟨d,c,k,a⟩
 ·exact ot (jy I.ok.kind d q w b) g
 ·rcases d with d|d
  ·exact ot (wpAny_loadName_cell I.ok.kind d k a b) g
  ·exact ot (pr I.ok.kind d k a b j) g
theorem uw{i j pos}:PE X (.Constant (.int i) j pos) (tC<|.int i):=λ_ _ _ H _ I h=>wpAny_Constant_int ⟨.int i,H,I.tok _,⟨_,rfl⟩,h⟩
theorem Wv{b j pos}:PE X (.Constant (.bool b) j pos) (tC<|.bl b):=λ_ _ _ H _ I h=>Constant_bool ⟨.bl b,H,I,rfl,h⟩
theorem Ii{j pos}:PE X (.Constant .none j pos) (tC .vC):=λ_ _ _ H _ I h=>Constant_none ⟨.vC,H,I,rfl,h⟩
theorem EQ{x j pos}:PE X (.Constant (.str x) j pos) (tC<|.str x):=λ_ _ _ H _ I h=>Calls.Constant_str ⟨.str x,H,I.tok _,⟨_,rfl⟩,h⟩
def Gl(X:Cx)(x:Str):Prop:=X.env.kindOf x=some .globalImplicit
theorem yo(I:Inv X a e H s)(b:Gl X x)(c:X.mg x=some u)(h:Q u s)
 (d:(x==("__debug__":Str))=false:=by decide):fO (fS X.prog X.w) X.A (eval (.Name x pos) X.env) Q E s :=
  qb I.ok.kind b (Calls.loadGlobal_global (by rw[I.ok.glob];exact I.mod.glob.keeps I.bk) c h) d
theorem yS(I:Inv X a j H s)(b:Gl X x)(c:X.mg x=none)(d:lv x=some u)(h:Q u s)
 (e:x≠"__name__":=by decide)(f:(x==("__debug__":Str))=false:=by decide):fO (fS X.prog X.w) X.A (eval (.Name x pos) X.env) Q E s:=by
  refine tX I.mod.blt λk g i=>?_
  exact qb I.ok.kind b (mE (by rw[I.ok.glob];exact I.mod.glob.keeps I.bk) c (by rw[I.ok.blt];exact g.keeps I.bk) ((i x e).trans d) h) f
theorem QP(a:Gl X x)(b:X.mg x=some u)(r:RelV v u)(c:(x==("__debug__":Str))=false:=by decide):PE X (.Name x pos) (tC v) :=
 λ_ _ _ H _ I h=>yo I a b ⟨v,H,I,r,h⟩ c
theorem ES(a:Gl X x)(b:X.mg x=none)(c:lv x=some u)(r:RelV v u)(d:x≠"__name__":=by decide)(e:(x==("__debug__":Str))=false:=by decide):PE X (.Name x pos) (tC v) :=
 λ_ _ _ H _ I h=>yS I a b c ⟨v,H,I,r,h⟩ d e
variable{a b:gA}{ta tb:TE}{pos:Pos}
def PC(X:Cx)(g:qF)(a b:gA)(t:TE):Prop :=
 ∀(c:List (ci×Obj)) (s:fH) (f:St) (H:Hp) (Q:VK),Inv X c f H s->t f H Q ->
  fO (fS X.prog X.w) X.A (eval a X.env) (λv d=>fO (fS X.prog X.w) X.A (eval b X.env) (λu e=>fO (fS X.prog X.w) X.A (iB g v u) (EP X c f Q) X.xe e) X.xe d) X.xe s
theorem GQ(b:gA)(h:op≠.In)(c:op≠.NotIn):ic op b=false:=by
 have d:(op==CmpOp.In)=false:=by cases op<;>first|rfl|exact fY rfl h
 have e:(op==CmpOp.NotIn)=false:=by cases op<;>first|rfl|exact fY rfl c
 cases b<;>simp[ic,d,e]
def tB(t:TE):TT:=λd H Q=>t d H λx e=>∃c,x=.bl c/\Q c e
theorem M0(h:PC X op a b t)(d:ic op b=false:=by first|exact GQ _ q0q q0q|rfl):PE X (.Compare a [op] [b] pos) t:=λc s e H Q I f=>ry (h c s e H Q I f) d
theorem Ij{f:qF}{t:TE}(h:PC X f a b t)(g:ic f b=false:=by first|exact GQ _ q0q q0q|rfl):PT X (.Compare a [f] [b] pos) (tB t):=by intro e s i H Q I j;refine tN (uL (h e s i H _ I j) λv r g=>uL g λu w k=>uL k λc y l=>ut l λx m n o p=>?_) g;obtain⟨d,rfl,q⟩:=p;cases o;exact jf ⟨m,n,q⟩
theorem Uw{e:gA}{t:TE}(h:PE X e t)(g:∀c,pK e X.env c=(do let v <- c;lw e.pos;jz [v] (sZ v)):=by intro _;rfl):PT X e (tB t):=by intro f s i H Q I j;refine isTrue_plain (uL (h f s i H _ I j) λv p k=>ut k λx l m n o=>?_)<|g _;obtain⟨d,rfl,q⟩:=o;cases n;exact jf ⟨l,m,q⟩
variable{tA Yk:TT}{rest:List gA}
def YY(t u:TT):TT:=λd H Q=>t d H λc e=>if c=true then u d e Q else Q false e
def tOr(t u:TT):TT:=λd H Q=>t d H λc e=>if c=true then Q true e else u d e Q
def YZ(t:TT):TT:=λd H Q=>t d H λc e=>Q (!c) e
theorem QQ(f:PT X a tA):PW X (.BoolOp .And [a] pos) tA:=by
 intro i d s g H Q I h;refine isTrue_and<|uL (f d s g H Q I h) λc j e=>?_
 cases c with
 | true=>exact isTrue_and_nil e
 | false=>exact e
theorem M3(f:PT X a tA):PW X (.BoolOp .Or [a] pos) tA:=by
 intro i d s g H Q I h;refine isTrue_or<|uL (f d s g H Q I h) λc j e=>?_
 cases c with
 | false=>exact isTrue_or_nil e
 | true=>exact e
theorem Ux(j:PT X a tA)(k:PW X (.BoolOp .And (b::rest) pos) Yk):PW X (.BoolOp .And (a::b::rest) pos) (YY tA Yk):=by
 intro l d s e H Q I h;refine isTrue_and<|uL (j d s e H _ I h) λc m n=>tX n λf g i=>?_
 cases c with
 | true=>exact k l d m e f Q g i
 | false=>exact⟨f,g,i⟩
theorem TJ(j:PT X a tA)(k:PW X (.BoolOp .Or (b::rest) pos) Yk):PW X (.BoolOp .Or (a::b::rest) pos) (tOr tA Yk):=by
 intro l d s e H Q I h;refine isTrue_or<|uL (j d s e H _ I h) λc m n=>tX n λf g i=>?_
 cases c with
 | true=>exact⟨f,g,i⟩
 | false=>exact k l d m e f Q g i
theorem Uy(e:PT X a tA):PT X (.UnaryOp .Not a pos) (YZ tA):=by intro d s f H Q I h;exact isTrue_not<|e d s f H (λc g=>Q (!c) g) I h
def Ww(ta tb:TE):TE:=λd H Q=>ta d H λx e=>∃c,x=.bl c/\if c=true then tb d e Q else Q (.bl false) e
def Y0(ta tb:TE):TE:=λd H Q=>ta d H λx e=>∃c,x=.bl c/\if c=true then Q (.bl true) e else tb d e Q
def Wx(ta:TE):TE:=λd H Q=>ta d H λx e=>∃c,x=.bl c/\Q (.bl<|!c) e
theorem Uz{op}(h:PE X a t):PE X (.BoolOp op [a] pos) t:=λc s d H Q I e=>BoolOp_one<|h c s d H Q I e
theorem UA(j:PE X a ta)(k:PE X (.BoolOp .And (b::rest) pos) tb):PE X (.BoolOp .And (a::b::rest) pos) (Ww ta tb):=by
 intro d s f H Q I h;refine BoolOp_and<|uL (j d s f H _ I h) λv l m=>ut m λx g i n e=>?_;obtain⟨c,rfl,e⟩:=e;cases n;refine jf ?_
 cases c with
 | true=>exact k d l f g Q i e
 | false=>exact⟨.bl false,g,i,rfl,e⟩
theorem Wy(j:PE X a ta)(k:PE X (.BoolOp .Or (b::rest) pos) tb):PE X (.BoolOp .Or (a::b::rest) pos) (Y0 ta tb):=by
 intro d s f H Q I h;refine BoolOp_or<|uL (j d s f H _ I h) λv l m=>ut m λx g i n e=>?_;obtain⟨c,rfl,e⟩:=e;cases n;refine jf ?_
 cases c with
 | false=>exact k d l f g Q i e
 | true=>exact⟨.bl true,g,i,rfl,e⟩
theorem UB(f:PE X a ta):PE X (.UnaryOp .Not a pos) (Wx ta):=by intro d s g H Q I h;refine UnaryOp_<|uL (f d s g H _ I h) λv m i=>ut i λx j k l e=>?_;obtain⟨c,rfl,e⟩:=e;cases l;exact not_of<|jf ⟨.bl<|!c,j,k,rfl,e⟩
end
def vn(K:fB)(H:Hp)(a:ci)(c:List V):Prop :=
 Rd H a (.lst c) \/
  ∃(o:Obj)(b:Array cr)(n:Nat),K.lookup a=some o/\o.cls=.type "list"/\o.dict=none/\o.data=.seq b n/\b.size<=fK/\Vals c b.toList
def yg(K:fB)(H:Hp)(a:ci)(c:List V):Prop :=
 Rd H a (.tup c) \/
  ∃(o:Obj)(b:Array cr)(n:Nat),K.lookup a=some o/\o.cls=.type "tuple"/\o.data=.seq b n/\b.size<=fK/\Vals c b.toList
def Y1:cr->Option V
 | .none=>some .vC
 | .bool b=>some<|.bl b
 | .int i _=>some<|.int i
 | .str x _=>some<|.str x
 | .bytes b _=>some<|.Kb b
 | .float b _=>some<|.Uu b
 | .ref a=>some<|.ref a
 | .type n=>some<|.ty n
 | _=>none
theorem RelV.abs(r:RelV x u):Y1 u=some x:=by
 cases x with
 | vC=>cases r;rfl
 | bl _=>cases r;rfl
 | int _=>obtain⟨t,rfl⟩:=r;rfl
 | str _=>obtain⟨t,rfl⟩:=r;rfl
 | Kb _=>obtain⟨t,rfl⟩:=r;rfl
 | Uu _=>obtain⟨t,rfl⟩:=r;rfl
 | ref _=>cases r;rfl
 | ty _=>cases r;rfl
theorem RelV.inj(r:RelV x u)(q:RelV y u):x=y:=gV<|r.abs.symm.trans q.abs
theorem Vals.inj:∀{d c:List V} {e:List cr},Vals d e->Vals c e->d=c:=by
 intro _ c _ z
 induction z generalizing c with
 | nil=>intro q;cases q;rfl
 | cons h t f=>intro q;cases q with|cons a b=>rw[h.inj a,f b]
section
variable{X:Cx}{pins:List (ci×Obj)}{σ:St}{H:Hp}{s:fH}{a:ci}{xs ys:List V}
theorem vn.of{K:fB}(h:H a=some (.lst xs)):vn K H a xs:=.inl<|.inl h
theorem yg.of{K:fB}(h:H a=some (.tup xs)):yg K H a xs:=.inl<|.inl h
theorem Inv.list(I:Inv X pins σ H s)(h:vn X.K H a xs):∃b:List cr,Vals xs b/\PlainL s.heap a b.toArray/\xs.length<=fK:=by
 rcases h with h|⟨o,b,n,c,d,hd,f,g,r⟩
 ·obtain⟨z,b,n,r,e⟩:=h.ok I.uO;exact⟨b,r,⟨_,n,e,rfl,rfl,rfl⟩,z⟩
 ·refine⟨b.toList,r,⟨o,n,I.xI a o c,d,hd,by simpa using f⟩,?_⟩;have e:=r.length;simp only[fR] at e
  lia
theorem Inv.tuple(I:Inv X pins σ H s)(h:yg X.K H a xs):∃b:List cr,Vals xs b/\IsTup s.heap a b.toArray/\xs.length<=fK:=by
 rcases h with h|⟨o,b,n,c,d,f,g,r⟩
 ·obtain⟨z,b,r,p⟩:=h.ok I.uO;exact⟨b,r,p,z⟩
 ·refine⟨b.toList,r,⟨o,I.xI a o c,d,n,by simpa using f⟩,?_⟩;have e:=r.length;simp only[fR] at e
  lia
theorem Inv.GR(I:Inv X pins σ H s)(h:vn X.K H a xs)(i:vn X.K H a ys):xs=ys:=by
 obtain⟨c,r,⟨o,n,e,_,_,d⟩,_⟩:=I.list h;obtain⟨b,j,⟨l,m,f,_,_,g⟩,_⟩:=I.list i;rw[e] at f;cases f;rw[d] at g;injection g with k _;have:c=b:=by simpa using congrArg qT k
 subst this;exact r.inj j
theorem Inv.LG(I:Inv X pins σ H s)(h:yg X.K H a xs)(i:yg X.K H a ys):xs=ys:=by
 obtain⟨c,r,⟨o,e,_,n,d⟩,_⟩:=I.tuple h;obtain⟨b,j,⟨l,f,_,m,g⟩,_⟩:=I.tuple i;rw[e] at f;cases f;rw[d] at g;injection g with k _;have:c=b:=by simpa using congrArg qT k
 subst this;exact r.inj j
end
abbrev Cx.DU(X:Cx)(E:cr->fH->Prop):Cx:={ X with xe:=E}
abbrev Cx.Yl(X:Cx):Cx:=X.DU λ_ _=>False
theorem Cx.Ok.DU{X:Cx}(a:X.Ok)(E:cr->fH->Prop):(X.DU E).Ok :=
 ⟨a.mod,a.kind,a.glob,a.blt,a.above,a.inj,a.has,a.MV,a.hd,a.frames,a.A9,a.QO,a.bs,a.GN,a.Cb,a.CM,a.xz,a.H0⟩
theorem Cx.Ok.yT{X:Cx}{E:cr->fH->Prop}(a:(X.DU E).Ok):X.Ok :=
 ⟨a.mod,a.kind,a.glob,a.blt,a.above,a.inj,a.has,a.MV,a.hd,a.frames,a.A9,a.QO,a.bs,a.GN,a.Cb,a.CM,a.xz,a.H0⟩
section
variable{X:Cx}{pins:List (ci×Obj)}{σ:St}{H:Hp}{s:fH}{E:cr->fH->Prop}
theorem Inv.DU(I:Inv X pins σ H s)(E:cr->fH->Prop):Inv (X.DU E) pins σ H s:=⟨I.ok.DU E,I.os,I.bare,I.base,I.loc,I.cell,I.free,I.xg,I.pin,I.uO,I.len⟩
theorem Inv.yT(I:Inv (X.DU E) pins σ H s):Inv X pins σ H s:=⟨I.ok.yT,I.os,I.bare,I.base,I.loc,I.cell,I.free,I.xg,I.pin,I.uO,I.len⟩
theorem SP.yT(h:SP (X.DU E) pins D f c):SP X pins D f c:=by
 cases f with
 | next=>obtain⟨a,b,I,q⟩:=h;exact⟨a,b,I.yT,q⟩
 | brk=>obtain⟨a,b,I,q⟩:=h;exact⟨a,b,I.yT,q⟩
 | cont=>obtain⟨a,b,I,q⟩:=h;exact⟨a,b,I.yT,q⟩
 | ret u=>obtain⟨v,a,b,I,r,q⟩:=h;exact⟨v,a,b,I.yT,r,q⟩
theorem DT.Yl{a:List gy}(h:DT X.Yl a t):DT X a t:=λpins s σ H D I b =>
 hJ (h pins s σ H D (I.DU _) b) (λ_ _ q=>q.yT) λ_ _ z=>gB z
end
section
variable{X:Cx}{st:gy}{rest:List gy}{t u:TS}{e:gA}{te:TE}{pos:Pos}
def TK:TS:=λD a H=>D.nx a H
def Ik(t u:TS):TS:=λD a H=>t { D with nx:=u D} a H
theorem yp:DT X [] TK:=λ_ _ a H _ I h=>mr ⟨a,H,I,h⟩
theorem vi(c:PS X st t)(d:DT X rest u):DT X (st::rest) (Ik t u):=by
 intro a s g H D I h;refine wpAny_execs_cons<|uL (c a s g H { D with nx:=u D} I h) λf i q=>?_
 cases f with
 | next =>
  refine vS q λb j k q=>?_;exact d a i b j D k q
 | ret v=>exact q
 | brk=>exact q
 | cont=>exact q
theorem wP(b:PS X st t):DT X [st] t:=by
 intro a s c H D I h;refine wpAny_execs_cons<|uL (b a s c H D I h) λf d q=>?_
 cases f with
 | next=>exact mr q
 | ret v=>exact q
 | brk=>exact q
 | cont=>exact q
theorem Inv.quiet(I:Inv X a b H s):interactive X.env=false:=by simp[interactive,I.ok.kind]
def GS(te:TE):TS:=λD a H=>te a H λ_ b=>D.nx a b
theorem vF(c:PE X e te)(d:i4 e none pos.line X.env=pure false:=by rfl):PS X (.Expr e pos) (GS te):=by intro a s b H D I h;exact wpAny_Expr_any (uL (c a s b H _ I h) λv k f=>ut f λx g i l j=>⟨b,g,i,j⟩) I.quiet d
def UC(te:TE):TS:=λD a H=>te a H D.rt
theorem Bc(c:PE X e te):PS X (.Return (some e) pos) (UC te):=by intro a s b H D I h;exact wpAny_Return_some<|uL (c a s b H _ I h) λv k d=>ut d λx f g i j=>⟨x,b,f,g,i,j⟩
def Y2(c:TT)(t u:TS):TS:=λD a H=>c a H λb d=>if b=true then t D a d else u D a d
theorem Kd{c:gA}{a b:List gy}{i:TT}(n:PT X c i)(o:DT X a t)(p:DT X b u):PS X (.If c a b pos) (Y2 i t u):=by
 intro f s g H D I h;refine wpAny_If<|uL (n f s g H _ I h) λd j q=>tX q λk l m=>?_
 cases d with
 | true=>exact o f j g k D l m
 | false=>exact p f j g k D l m
def UD:TS:=λ_ _ _=>False
theorem LH:DT X a UD:=λ_ _ _ _ _ _ h=>h.elim
end
abbrev TG:=V->St->Hp->(St->Hp->Prop)->Prop
abbrev Wi:=List V->St->Hp->(St->Hp->Prop)->Prop
def PG(X:Cx)(a:gA)(t:TG):Prop :=
 ∀(b:List (ci×Obj)) (s:fH) (d:St) (H:Hp) (v:V) (u:cr) (Q:St->Hp->Prop),Inv X b d H s->RelV v u->t v d H Q ->
  fO (fS X.prog X.w) X.A (pL a X.env u) (λ_ f=>∃c e,Inv X b c e f/\Q c e) X.xe s
def Ym(X:Cx)(g:List gA)(t:Wi):Prop :=
 ∀(a:List (ci×Obj)) (s:fH) (c:St) (H:Hp) (d:List V) (e:List cr) (Q:St->Hp->Prop),Inv X a c H s->Vals d e->t d c H Q ->
  fO (fS X.prog X.w) X.A (assignInOrder ((ou g X.env).map (·.2)) e) (λ_ h=>∃b f,Inv X a b f h/\Q b f) X.xe s
abbrev M4:=V->V->V->Hp->(Hp->Prop)->Prop
def UE(X:Cx)(t:M4):Prop :=
 ∀(a:List (ci×Obj)) (s:fH) (b:St) (H:Hp) (o i v:V) (c d u:cr) (Q:Hp->Prop),Inv X a b H s->RelV o c->RelV i d->RelV v u->t o i v H Q ->
  fO (fS X.prog X.w) X.A (rc c d u) (λ_ f=>∃e,Inv X a b e f/\Q e) X.xe s
abbrev Yn:=V->V->Hp->VK->Prop
def Y3(X:Cx)(c:Operator)(t:Yn):Prop :=
 ∀(a:List (ci×Obj)) (s:fH) (b:St) (H:Hp) (x y:V) (v u:cr) (Q:VK),Inv X a b H s->RelV x v->RelV y u->t x y H Q ->
  fO (fS X.prog X.w) X.A (inplaceOp c v u) (EP X a b Q) X.xe s
section
variable{X:Cx}{pos:Pos}
def BU(i:Nat):TG:=λv a H Q=>Q (a.set i<|some v) H
theorem uk{i:Nat}(b:X.N.Nodup)(c:X.N[i]?=some x)(d:Loc X.env.scope x)(e:X.fn x=true\/X.env.scope.names.lookup x=some .local:=by first|exact .inl rfl|exact .inr rfl|assumption):PG X (.Name x pos) (BU i):=by intro a s g H v u Q I r h;exact wpAny_assign_Name<|GP I b c d r (λj f=>⟨_,H,f,h⟩) e
def UF:Wi:=λa b H Q=>a=[]/\Q b H
def Ee(t:TG)(u:Wi):Wi:=λb c H Q=>∃v r,b=v::r/\t v c H λa d=>u r a d Q
theorem Aq:Ym X [] UF:=by intro a s b H c d Q I r h;obtain⟨e,h⟩:=h;subst e;cases r;exact assignInOrder_nil ⟨b,H,I,h⟩
theorem vT{e:gA}{b:List gA}{t:TG}{u:Wi}(d:PG X e t)(f:Ym X b u)
  (g:(ou (e::b) X.env).map (·.2)=pL e X.env::(ou b X.env).map (·.2):=by rfl):Ym X (e::b) (Ee t u):=by
 intro a s i H q w Q I r h;obtain⟨v,x,j,h⟩:=h;subst j
 cases r with
 | cons r k =>
  rw[g];refine assignInOrder_cons<|uL (d a s i H _ _ _ I r h) λ_ l m=>vS m λc n o p=>?_;exact f a l c n _ _ Q o k p
def UG(K:fB)(n:Nat)(t:Wi):TG:=λv c H Q=>∃a b,v=.ref a/\yg K H a b/\b.length=n/\t b c H Q
theorem CO{k:Nat}{n:Nat}(l:X.calm=true)(h:Ym X d t)
 (m:(ou d X.env).length=n:=by rfl)(f:(ou d X.env).findIdx? (·.1)=none:=by rfl):PG X (.Tuple d k pos) (UG X.K n t):=by
  intro c s i H v u Q I r g
  obtain⟨a,p,q,w,x,g⟩:=g
  subst q
  cases r
  obtain⟨y,j,z,D⟩:=I.tuple w
  refine assign_Tuple_tuple (I.ok.hd l) z (by simp[m,<- x,j.length]) f λA B=>?_
  have C:Inv X c i H { s with heap:=A}:=I.kept (t':=s.toks) λb o e=>B b o (fX<|fQ e) e
  exact h c _ i H p _ Q C (by simpa using j) g
def Y4(b c:TE)(t:M4):TG:=λv a H Q=>b a H λo d=>c a d λi e=>t o i v e λf=>Q a f
theorem M5{o i:gA}{f g:TE}{t:M4}(j:PE X o f)(k:PE X i g)(l:UE X t)
  (m:∀v,pL (.Subscript o i pos) X.env v=(do
   let b <- jz [v] (eval o X.env)
   let c <- jz [v,b] (eval i X.env)
   lw pos
   jz [v,b,c] (rc b c v)
   release [v,b,c] []):=by intro _;rfl):PG X (.Subscript o i pos) (Y4 f g t):=by
 intro a s e H v u Q I r h;rw[m];refine am<|gC<|uL (j a s e H _ I h) λb n d=>ut d λx p q w z=>?_;refine am<|gC<|uL (k a n e p _ q z) λc A d=>ut d λy B C D E=>?_;refine am<|lY<|am<|gC<|uL (l a A e B x y v b c u _ C w D r E) λ_ K d=>tX d λF G J=>?_;exact wpAny_release ⟨e,F,G,J⟩
def UH(b:TE)(g:TG):TS:=λD a H=>b a H λx c=>g x a c D.nx
theorem Il{b e:gA}{c:TE}{g:TG}(f:PE X e c)(i:PG X b g)(j:swapsWithSole [b] e pos.line X.env=pure false:=by rfl)(hw:swappedStores [b] e X.env=pure none:=by rfl)
  (k:(ou [b] X.env).map (·.2)=[pL b X.env]:=by rfl):PS X (.Assign [b] e pos) (UH c g):=by
 intro a s d H D I h;refine wpAny_Assign_stores (uL (f a s d H _ I h) λv l m=>ut m λx n o p r=>?_) j hw;rw[k];exact uL (i a l d n x v _ o p r) λ_ t q=>q
theorem yU{i:Nat}{x:Str}{e:gA}{c:TE}{a:Pos}(d:X.N.Nodup)(f:X.N[i]?=some x)(g:Loc X.env.scope x)(j:PE X e c)(k:i4 e (some<|.Name x a) pos.line X.env=pure false:=by rfl)(l:X.fn x=true\/X.env.scope.names.lookup x=some .local:=by first|exact .inl rfl|exact .inr rfl|assumption) :
  PS X (.Assign [.Name x a] e pos) (UH c<|BU i):=by
 intro b s m H D I h;refine wpAny_Assign_Name (uL (j b s m H _ I h) λv u n=>ut n λy o p q r=>?_) k;exact GP p d f g q (λw t=>⟨_,o,t,r⟩) l
def Wz(e f g:TE)(a:V->V->Hp->VK->Prop)(d:Yn)(b:M4):TS:=λD c H=>e c H λo h=>f c h λi j=>a o i j λx k=>g c k λy l=>d x y l λz m=>b o i z m λn=>D.nx c n
def WA(X:Cx)(t:V->V->Hp->VK->Prop):Prop :=
 ∀(a:List (ci×Obj)) (s:fH) (b:St) (H:Hp) (o i:V) (c d:cr) (Q:VK),Inv X a b H s->RelV o c->RelV i d->t o i H Q ->
  fO (fS X.prog X.w) X.A (mF c d) (EP X a b Q) X.xe s
theorem QR{o i e:gA}{p q r:TE}{d:V->V->Hp->VK->Prop}{l:Yn}{f:M4}{t:Operator}{m:Pos}(z:PE X o p)(A:PE X i q)(B:WA X d)(C:PE X e r)(E:Y3 X t l)(F:UE X f)
  (G:∀g j b,augStore i g j b=(do jz [b,g,j] (rc g j b);release [b,g,j] [];pure .next):=by intros;rfl):PS X (.AugAssign (.Subscript o i m) t e pos) (Wz p q r d l f):=by
 intro a s k H D I h;refine qU (uL (z a s k H _ I h) λg J c=>ut c λu K L w M=>?_) G;refine uL (A a J k K _ L M) λj N c=>ut c λx O P y Q=>?_;refine uL (B a N k O u x g j _ P w y Q) λn R c=>ut c λS T U W Y=>?_;refine uL (C a R k T _ U Y) λv Z c=>ut c λx4 H4 I4 r4 q4=>?_;refine uL (E a Z k H4 S x4 n v _ I4 W r4 q4) λb s5 c=>ut c λx5 H5 I5 r5 q5=>?_;exact uL (F a s5 k H5 u x x5 g j b _ I5 w y r5 q5) λ_ s6 c=>tX c λH6 I6 q6=>⟨k,H6,I6,q6⟩
def Y5(f:Int->Int->Int):Yn:=λx y H Q=>∃i j,x=.int i/\y=.int j/\Q (.int<|f i j) H
theorem M6:Y3 X .Add (Y5 λi j=>i+j):=by intro a s f H x y v u Q I b c h;obtain⟨i,j,d,e,q⟩:=h;subst d;subst e;obtain⟨t,rfl⟩:=b;obtain⟨g,rfl⟩:=c;exact iadd_int ⟨.int _,H,I.tok _,⟨_,rfl⟩,q⟩
theorem UI:Y3 X .Sub (Y5 λi j=>i-j):=by intro a s f H x y v u Q I b c h;obtain⟨i,j,d,e,q⟩:=h;subst d;subst e;obtain⟨t,rfl⟩:=b;obtain⟨g,rfl⟩:=c;exact isub_int ⟨.int _,H,I.tok _,⟨_,rfl⟩,q⟩
end
section
variable{X:Cx}{pos:Pos}
def UJ(c:TT)(h:TS):TS:=λD a H=>∃W:Nat->St->Hp->Prop,(∃m,W m a H)/\∀m a H,W m a H ->
 c a H λb e=>if b=true then ∃N:St->Hp->Prop,(∀d f,N d f->∃g,g<m/\W g d f)/\h { D with nx:=N,ct:=N,bk:=D.nx} a e else D.nx a e
theorem M7{c:gA}{g:List gy}{u:TT}{x:TS}(y:qu (fS X.prog X.w) X.A X.env X.xe)(F:PT X c u)(G:DT X g x):PS X (.While c g [] pos) (UJ u x):=by
 intro a s J H D I h;obtain⟨W,⟨K,L⟩,i⟩:=h;refine wpAny_While<|codeAny_whileLoop (λn M=>∃j z,Inv X a j z M/\W n j z) ?_ K ⟨J,H,I,L⟩;rintro n O ⟨e,H1,P,Q⟩;refine j5 y<|uL (F a O e H1 _ P<|i n e H1 Q) λb R S=>tX S λB C l=>?_
 cases b with
 | true =>
  refine tX l λN E l=>?_;rw[fE rfl];refine j5 y<|uL (G a R e B _ C l) λf T m=>?_
  cases f with
  | next =>
   refine vS m λd k o p=>?_;refine tX (E d k p) λq r t=>?_;exact⟨q,r,d,k,o,t⟩
  | cont =>
   refine vS m λd k o p=>?_;refine tX (E d k p) λq r t=>?_;exact⟨q,r,d,k,o,t⟩
  | brk=>exact m
  | ret v=>exact m
 | false =>
  rw[fF fT];exact mr ⟨e,B,C,l⟩
end
structure It where
 go:Nat->Hp->Prop
 GF:Nat->Hp->V->Hp->Prop
 stop:Nat->Hp->Prop
def Ac(X:Cx)(a:List (ci×Obj))(H:Hp)(b:ci):Prop :=
 H b=none/\b≠X.env.locals/\b∉X.fs/\(b∈X.ex\/X.s₀.heap.objs.size<=b)/\(∀x c,X.env.cells.lookup x=some c->c≠b)/\∀p∈X.pn++a,p.1≠b
theorem Inv.ET(I:Inv X a i H s)(d:s.heap.objs.size<=b)(f:g b=none):Ac X a g b:=by
 refine⟨f,ii<|ga I.lt d,I.YW d,.inr<|gZ I.sz d,λx c e z=>?_,λp h z=>?_⟩
 ·obtain⟨v,q⟩:=I.cell x c e;exact fY (ga q.lt<|by rw[z];exact d)<|iV _
 ·exact fY (ga (fQ (I.pin p h).1)<|by rw[z];exact d)<|iV _
structure Turn(P:gf)(w:gu)(K:fB)(tg:gA)(J:It)(fp:List ci)(it:ci)(tn:Nat->gE->Prop):Prop where
 mem:it∈fp
 obj:∀i h,tn i h->∀b∈fp,∃o,h.get? b=some o/\∀v,o.data≠.cell v
 keep:∀i h h',tn i h->(∀b∈fp,∀o,h.get? b=some o->h'.get? b=some o)->tn i h'
 item:∀(X:Cx),X.prog=P->X.w=w->X.K=K->X.calm=true->∀(i:Nat) (pins:List (ci×Obj)) (s:fH) (σ:St) (H:Hp) (E:cr->fH->Prop),Inv X pins σ H s->(∀b∈fp,Ac X pins H b)->tn i s.heap->J.go i H ->
  fO (fS P w) X.A (rA (.ref it)) (λr s1=>∃u,r=some u /\
   fO (fS P w) X.A (oF tg (.ref it) u) (λ_ s2=>∃x H',Inv X pins σ H' s2/\RelV x u/\J.GF i H x H'/\tn (i+1) s2.heap/\∀b∈fp,H' b=none) E s1) E s
 done:∀(X:Cx),X.prog=P->X.w=w->X.K=K->X.calm=true->∀(i:Nat) (pins:List (ci×Obj)) (s:fH) (σ:St) (H:Hp) (E:cr->fH->Prop),Inv X pins σ H s->(∀b∈fp,Ac X pins H b)->tn i s.heap->J.stop i H ->
  fO (fS P w) X.A (rA<|.ref it) (λr s1=>r=none/\Inv X pins σ H s1) E s
 self:∀(A:gJ)(i:Nat)(s:fH)(Q:cr->fH->Prop)(E:cr->fH->Prop),tn i s.heap->Q (.ref it) s->fO (fS P w) A (pyIter<|.ref it) Q E s
abbrev TI:=St->Hp->(It->Hp->Prop)->Prop
def PIE(X:Cx)(a:List (ci×Obj))(i:St)(j:gA)(R:It->Hp->Prop)(c:cr)(e:fH):Prop :=
 ∃(f:ci)(g:List ci)(h:Nat->gE->Prop)(J:It)(d:Hp),c=.ref f/\Inv X a i d e/\Turn X.prog X.w X.K j J g f h/\h 0 e.heap/\(∀b∈g,Ac X a d b)/\R J d
def PI(X:Cx)(d b:gA)(e:TI):Prop :=
 ∀(a:List (ci×Obj)) (s:fH) (c:St) (H:Hp) (R:It->Hp->Prop),Inv X a c H s->e c H R ->
  fO (fS X.prog X.w) X.A (eval b X.env) (λv f=>fO (fS X.prog X.w) X.A (pyIter v) (PIE X a c d R) X.xe f) X.xe s
theorem M8{s:fH}(b:s.heap.get? c=some o)(d:o.cls=.type n)(e:o.data=.fields f)
 (g:["enumerate","zip","dict_itemiterator","dict_reverseitemiterator","odict_iterator","itertools.zip_longest","itertools.pairwise"].contains n=false)(a:Q () s):fO M A (oF i (.ref c) u) Q E s:=by
  unfold oF
  cases i<;>first
    | exact ap a
    | (cases u<;>first
        | exact ap a
        | (refine am (pM b ?_)
           rw[d,e]
           show fO M A (if (["enumerate","zip","dict_itemiterator","dict_reverseitemiterator","odict_iterator","itertools.zip_longest","itertools.pairwise"].contains n&&f[0]?==some (kg _))=true then _ else _) Q E s
           rw[fF<|by intro h;rw[g,Bool.false_and] at h;cases h]
           exact ap a))
def Wj(K:fB)(a:ci):It :=
 ⟨λi H=>∃b x,vn K H a b/\b[i]?=some x,λi H x c=>c=H/\∀b,vn K H a b->b[i]?=some x,λi H=>∃b,vn K H a b/\b.length<=i⟩
def Y6(K:fB)(a:ci):It :=
 ⟨λi H=>∃b x,yg K H a b/\b[i]?=some x,λi H x c=>c=H/\∀b,yg K H a b->b[i]?=some x,λi H=>∃b,yg K H a b/\b.length<=i⟩
def WB(a:Int)(n:Nat):It:=⟨λi _=>i<n,λi H x b=>b=H/\x=.int (a+i),λi _=>n<=i⟩
theorem LI{P:gf}{w:gu}{K:fB}{tg:gA}(a it:ci):Turn P w K tg (Wj K a) [it] it (λi h=>h.IsListIter it a i) where
 mem:=by simp
 obj:=λi h st b hb=>by
  have e:b=it:=by simpa using hb
  subst e;refine ux st λo e c d=>?_;exact⟨o,e,λv z=>by rw[d] at z;cases z⟩
 keep:=λi h h' st k=>st.at λo e=>k it q0o o e
 item:=by intro X hP hw hK hc i pins s σ H E I hf st hg;subst hP hw hK;refine vS hg λxs x hq hx=>?_;refine ux (I.list hq) λyP rv p hz=>?_;refine tX (rv.get hx) λu hu ru=>?_;refine DS (hf it q0o) λf0 f1 f2 f3 f4 f5=>?_;refine wpAny_pyNext_list_item st p.isList (x:=u) (by simpa using hu) λh' TL sb=>?_;have I1:Inv X pins σ H { s with heap:=h'}:=I.turned (t':=s.toks) (λb o hb e=>(sb.2 b hb).trans e) f0 f1 f3 f4 f5;refine ux (id TL) λo e c d=>?_;exact⟨u,rfl,M8 (s:={ s with heap:=h'}) e c d q0q ⟨x,H,I1,ru,⟨rfl,λys hy=>by rw[I.GR hy hq];exact hx⟩,TL,λb hb=>(hf b hb).1⟩⟩
 done:=by intro X hP hw hK hc i pins s σ H E I hf st hg;subst hP hw hK;refine tX hg λxs hq hx=>?_;refine ux (I.list hq) λyP rv p hz=>?_;refine DS (hf it q0o) λf0 f1 f2 f3 f4 f5=>?_;have hl:=rv.length;exact wpAny_pyNext_list_end (I.ok.hd hc) st p.isList (by simp;lia) λh' eb=>⟨rfl,I.turned (t':=s.toks) (λb o hb e=>eb b o hb e) f0 f1 f3 f4 f5⟩
 self:=λ_ _ _ _ _ st h=>wpAny_pyIter_listiter st h
theorem Im{P:gf}{w:gu}{K:fB}{tg:gA}(a it:ci):Turn P w K tg (Y6 K a) [it] it (λi h=>h.IsTupleIter it a i) where
 mem:=by simp
 obj:=λi h st b hb=>by
  have e:b=it:=by simpa using hb
  subst e;refine ux st λo e c d=>?_;exact⟨o,e,λv z=>by rw[d] at z;cases z⟩
 keep:=λi h h' st k=>st.at λo e=>k it q0o o e
 item:=by intro X hP hw hK hc i pins s σ H E I hf st hg;subst hP hw hK;refine vS hg λxs x hq hx=>?_;refine ux (I.tuple hq) λyP rv p hz=>?_;refine tX (rv.get hx) λu hu ru=>?_;refine DS (hf it q0o) λf0 f1 f2 f3 f4 f5=>?_;refine wpAny_pyNext_tuple_item st (show s.heap.IsTuple a yP.toArray from p) (x:=u) (by simpa using hu) λh' TL sb=>?_;have I1:Inv X pins σ H { s with heap:=h'}:=I.turned (t':=s.toks) (λb o hb e=>(sb.2 b hb).trans e) f0 f1 f3 f4 f5;refine ux (id TL) λo e c d=>?_;exact⟨u,rfl,M8 (s:={ s with heap:=h'}) e c d q0q ⟨x,H,I1,ru,⟨rfl,λys hy=>by rw[I.LG hy hq];exact hx⟩,TL,λb hb=>(hf b hb).1⟩⟩
 done:=by intro X hP hw hK hc i pins s σ H E I hf st hg;subst hP hw hK;refine tX hg λxs hq hx=>?_;refine ux (I.tuple hq) λyP rv p hz=>?_;refine DS (hf it q0o) λf0 f1 f2 f3 f4 f5=>?_;have hl:=rv.length;exact wpAny_pyNext_tuple_end (I.ok.hd hc) st (show s.heap.IsTuple a yP.toArray from p) (by simp;lia) λh' eb=>⟨rfl,I.turned (t':=s.toks) (λb o hb e=>eb b o hb e) f0 f1 f3 f4 f5⟩
 self:=λ_ _ _ _ _ st h=>wpAny_pyIter_tupleiter st h
theorem Io{P:gf}{w:gu}{K:fB}{tg:gA}(it:ci)(lo:Int)(n:Nat):Turn P w K tg (WB lo n) [it] it (λi h=>IsRangeIter h it (lo+(i:Nat)*1) ((n:Int)-(i:Nat)) 1) where
 mem:=by simp
 obj:=λi h st b hb=>by
  have e:b=it:=by simpa using hb
  subst e
  exact⟨_,st,λv z=>by
   have z':r9 _=Data.cell v:=z
   cases z'⟩
 keep:=λi h h' st k=>k it q0o _ st
 item:=by intro X hP hw hK hc i pins s σ H E I hf st hg;subst hP hw hK;refine DS (hf it q0o) λf0 f1 f2 f3 f4 f5=>?_;have W:=Walks.range (prog:=X.prog) (w:=X.w) (I.ok.hd hc) it lo 1 n;refine W.item i s _ _ hg st λv h' tk hv TL kk=>?_;obtain⟨t,rfl⟩:=hv;have I1:Inv X pins σ H { s with heap:=h',toks:=tk}:=I.turned (λb o hb e=>kk b o (by simpa using hb) e) f0 f1 f3 f4 f5;refine⟨_,rfl,M8 (s:={ s with heap:=h',toks:=tk}) (n:="range_iterator") TL rfl rfl q0q ⟨.int<|lo+i,H,I1,⟨t,?_⟩,⟨rfl,rfl⟩,TL,λb hb=>(hf b hb).1⟩⟩;rw[Int.mul_one]
 done:=by intro X hP hw hK hc i pins s σ H E I hf st hg;subst hP hw hK;refine DS (hf it q0o) λf0 f1 f2 f3 f4 f5=>?_;exact wpAny_pyNext_range_end (I.ok.hd hc) st (by have:n<=i:=hg;lia) λh' eb=>⟨rfl,I.turned (t':=s.toks) (λb o hb e=>eb b o hb e) f0 f1 f3 f4 f5⟩
 self:=λ_ _ _ _ _ st h=>wpAny_pyIter_rangeiter st h
section
variable{X:Cx}{tg:gA}
def WC(K:fB)(c:TE):TI:=λd H R=>c d H λx b=>∃a,x=.ref a/\(∃e,vn K b a e)/\R (Wj K a) b
def Y7(K:fB)(c:TE):TI:=λd H R=>c d H λx b=>∃a,x=.ref a/\(∃e,yg K b a e)/\R (Y6 K a) b
theorem EU{l:gA}{g:TE}(i:PE X l g):PI X tg l (WC X.K g):=by
 intro c s j H R I h;refine uL (i c s j H _ I h) λv d k=>ut k λx m f n r=>?_;obtain⟨a,e,⟨y,t⟩,q⟩:=r;subst e;cases n;refine ux (f.list t) λu z p A=>?_;refine wpAny_pyIter_list p.isList ?_;refine⟨d.heap.objs.size,[d.heap.objs.size],_,_,m,rfl,f.kept (t':=d.toks) λb o e=>ce _ e,LI a _,⟨_,fU _ rfl,rfl,rfl⟩,λb w=>?_,q⟩;have e:b=d.heap.objs.size:=by simpa using w
 subst e;exact f.ET (fJ _)<|f.uO.fresh<|fJ _
theorem UK{l:gA}{i:TE}(j:PE X l i):PI X tg l (Y7 X.K i):=by
 intro c s k H R I h;refine uL (j c s k H _ I h) λv d m=>ut m λx n f r t=>?_;obtain⟨a,e,⟨y,u⟩,q⟩:=t;subst e;cases r;refine ux (f.tuple u) λg z p A=>?_;refine pN (show d.heap.IsTuple a g.toArray from p) ?_;refine⟨d.heap.objs.size,[d.heap.objs.size],_,_,n,rfl,f.kept (t':=d.toks) λb o e=>ce _ e,Im a _,⟨_,fU _ rfl,rfl,rfl⟩,λb w=>?_,q⟩;have e:b=d.heap.objs.size:=by simpa using w
 subst e;exact f.ET (fJ _)<|f.uO.fresh<|fJ _
theorem M9{a c:Int}{f:Nat}(I:Inv X d h H s)(i:-(2 ^ 62)<=a)(j:a<2 ^ 62)(k:-(2 ^ 62)<=c)(l:c<2 ^ 62)
 (q:R (WB a (c-a).toNat) H):fO (fS X.prog X.w) X.A (pyIter<|.ref s.heap.objs.size) (PIE X d h tg R) E { s with heap:=s.heap.push { cls:=.type "range",data:=.fields #[.int a t,.int c u,.int 1 v]},toks:=f}:=by
  refine wpAny_pyIter_range (IsRange.new ..) (small_one i j k l) ?_
  have g:Inv X d h H { s with heap:=s.heap.push { cls:=.type "range",data:=.fields #[.int a t,.int c u,.int 1 v]},toks:=f}:=I.kept λb o e=>ce _ e
  refine⟨(s.heap.push { cls:=.type "range",data:=.fields #[.int a t,.int c u,.int 1 v]}).objs.size,[(s.heap.push { cls:=.type "range",data:=.fields #[.int a t,.int c u,.int 1 v]}).objs.size],_,_,H,rfl,
    g.kept (t':=f) λb o e=>ce _ e,Io _ a (c-a).toNat,?_,λb m=>?_,q⟩
  · have n : a+((0 : Nat) : Int)*1 = a := by simp
    have p:(((c-a).toNat:Nat):Int)-((0:Nat):Int)=Builtin.Range.rangeSize a c 1:=by rw[rangeSize_one];split<;>lia
    show IsRangeIter _ _ (a+((0:Nat):Int)*1) ((((c-a).toNat:Nat):Int)-((0:Nat):Int)) 1
    rw[n,p]
    exact fU _ rfl
  · have e : b = (s.heap.push { cls := .type "range", data := .fields #[.int a t, .int c u, .int 1 v] }).objs.size := by simpa using m
    subst e
    exact g.ET (fJ _)<|g.uO.fresh<|fJ _
def WD(a:TA):TI:=λb H R=>a b H λc d=>∃j:Int,c=[.int j]/\-(2 ^ 62)<=j/\j<2 ^ 62/\R (WB 0 j.toNat) d
theorem LJ{a:gA}{f:TA}{p b:Pos}(g:Gl X "range")(i:X.mg "range"=none)(k:PA X [a] f)(l:fG [a] X.env=[(false,eval a X.env)]:=by rfl):PI X tg (.Call (.Name "range" p) [a] [] b) (WD f):=by
 intro c s m H R I h;refine Call_<|yS I g i boot_range<|jG (uL (k b c s m H _ I h) λx y n=>ut n λz A o u d=>?_) l rfl;obtain⟨j,e,d,v,q⟩:=d;subst e
 cases u with
 | cons r w =>
  cases w;obtain⟨t,rfl⟩:=r;exact call_range_1<|M9 o q0a q0a d v (by simpa using q)
def Y8(f:TI)(g:TG)(h:TS):TS:=λD a H=>f a H λJ j=>∃W:Nat->Nat->St->Hp->Prop,(∃m,W 0 m a j)/\∀i m a H,W i m a H ->
 (J.stop i H/\D.nx a H)\/(J.go i H/\∃N:St->Hp->Prop,(∀b c,N b c->∃e,e<m/\W (i+1) e b c)/\∀x c,J.GF i H x c->g x a c λd k=>h { D with nx:=N,ct:=N,bk:=D.nx} d k)
def Be(a:List ci)(h:gE):List (ci×Obj):=a.filterMap λb=>(h.get? b).map λo=>(b,o)
theorem wC{h:gE}(a:b∈c)(e:h.get? b=some o):(b,o)∈Be c h:=List.mem_filterMap.mpr ⟨b,a,by rw[e];rfl⟩
theorem Ef(a:p∈Be c h):p.1∈c/\h.get? p.1=some p.2:=by
 refine tX (List.mem_filterMap.mp a) λb d e=>?_
 cases q:h.get? b with
 | none=>rw[q] at e;cases e
 | some o =>
  rw[q] at e;have f:(b,o)=p:=gV e;subst f;exact⟨d,q⟩
theorem Inv.pinned(I:Inv X a g H s)(h:∀b∈fp,Ac X a H b)(i:∀b∈fp,∃o,s.heap.get? b=some o/\∀v,o.data≠.cell v):Inv X (a++Be fp s.heap) g H s :=
 I.ym λp j=>(List.mem_append.mp j).elim (λz=>I.pin p<|gg _ z) λz=>by obtain⟨c,e⟩:=Ef z;obtain⟨k,l,m,_⟩:=h p.1 c;refine tX (i p.1 c) λo f d=>?_;rw[e] at f;cases f;exact⟨e,k,l,m,d⟩
theorem Inv.yV(I:Inv X (a++d) b H s):Inv X a b H s:=I.ym λp c=>I.pin p<|gg _<|g8 _ c
theorem Na{j:gA}{C:List gy}{wi:TI}{g:TG}{tb:TS}{U:Pos}(L:qu (fS X.prog X.w) X.A X.env X.xe)(hc:X.calm=true)(hi:PI X tg j wi)(hg:PG X tg g)(k:DT X C tb)
  (hs:∀x,jg j X.env x=pure x:=by intro _;rfl):PS X (.For tg j C [] U) (Y8 wi g tb):=by
 intro a s σ H D I h;refine wpAny_For (uL (hi a s σ H _ I h) λv s1 h1=>uL h1 λah s2 h2=>?_) hs;obtain⟨it,M,tn,J,H2,e,I2,T,V,f2,W,⟨m0,w0⟩,O⟩:=h2;subst e
 -- af Y true of the E P through the ag
 have l:∀{B:Hp},(∀b∈M,B b=none)->∀b∈M,Ac X a B b:=λhn b k=>⟨hn b k,(f2 b k).2⟩;refine codeAny_forLoop_any (λn s'=>∃i p B,Inv X a p B s'/\tn i s'.heap/\(∀b∈M,B b=none)/\W i n p B) ?_ m0 ⟨0,σ,H2,I2,V,λb k=>(f2 b k).1,w0⟩;rintro n s3 ⟨i,q,H3,I3,Q,R,w3⟩;rcases O i n q H3 w3 with⟨stop,qn⟩|⟨go,N,hN,step⟩
 ·refine j5 L<|uL (T.done X rfl rfl rfl hc i a s3 q H3 X.xe I3 (l R) Q stop) λr s4 G=>QJ G λZ I4=>?_;subst Z;exact mr ⟨q,H3,I4,qn⟩
 ·refine j5 L<|uL (T.item X rfl rfl rfl hc i a s3 q H3 X.xe I3 (l R) Q go) λr s4 G=>tX G λu Z h4=>?_;subst Z;refine j5 L<|uL h4 λ_ s5 G=>Uo G λx H5 I5 r5 y5 K aa=>?_;have ab:=I5.pinned (l aa)<|T.obj _ _ K;refine j5 L<|uL (hg _ s5 q H5 x u _ ab r5<|step x H5 y5) λ_ s6 G=>vS G λae H6 I6 q6=>?_;refine j5 L (uL (k _ s6 ae H6 _ I6 q6) λf s7 F=>?_)
  have t:∀{c:St} {y:Hp},Inv X (a++Be M s5.heap) c y s7->N c y->∃m,m<n/\∃i p B,Inv X a p B s7/\tn i s7.heap/\(∀b∈M,B b=none)/\W i m p B:=λ{c y} z S=>by refine tX (hN c y S) λm' hm w7=>?_;refine⟨m',hm,i+1,c,y,z.yV,T.keep _ _ _ K λb k o e=>(z.pin (b,o)<|gg _<|gg _<|wC k e).1,λb k=>?_,w7⟩;refine tX (T.obj _ _ K b k) λo e d=>?_;exact(z.pin (b,o)<|gg _<|gg _<|wC k e).2.1
  cases f with
  | next=>obtain⟨c,y,z,S⟩:=F;exact t z S
  | cont=>obtain⟨c,y,z,S⟩:=F;exact t z S
  | brk=>obtain⟨c,y,z,F⟩:=F;exact⟨c,y,z.yV,F⟩
  | ret v=>obtain⟨x7,c,y,z,r7,F⟩:=F;exact⟨x7,c,y,z.yV,r7,F⟩
end
theorem Nb{K:fB}{a:ci}{xs:List V}{g:TG}{l:TS}{D:Ends}{b:St}{H:Hp}(c:Nat->St->Hp->Prop)(o:c 0 b H)(r:∀i b H,i<=xs.length->c i b H->vn K H a xs)
  (s:∀i x b H,xs[i]?=some x->c i b H->g x b H λd k=>l { D with nx:=c<|i+1,ct:=c<|i+1,bk:=D.nx} d k) (t:∀b H,c xs.length b H->D.nx b H) :
  ∃W:Nat->Nat->St->Hp->Prop,(∃m,W 0 m b H)/\∀i m b H,W i m b H ->
   ((Wj K a).stop i H/\D.nx b H)\/((Wj K a).go i H/\∃N:St->Hp->Prop,(∀f h,N f h->∃n,n<m/\W (i+1) n f h)/\∀x h,(Wj K a).GF i H x h->g x b h λd k=>l { D with nx:=N,ct:=N,bk:=D.nx} d k):=by
 refine⟨λi m b H=>m=xs.length-i/\i<=xs.length/\c i b H,⟨xs.length,q0o,g9 _,o⟩,?_⟩;rintro i m b H ⟨rfl,u,p⟩;have q:=r i b H u p;by_cases j:i<xs.length
 ·refine .inr ⟨⟨xs,xs[i],q,by simp[j]⟩,c<|i+1,λf h v=>⟨xs.length-(i+1),q0d,rfl,j,v⟩,λx h y=>?_⟩;obtain⟨e,y⟩:=y;subst e;exact s i x b _ (y xs q) p
 ·have e:i=xs.length:=by omega
  subst e;exact .inl ⟨⟨xs,q,fJ _⟩,t b H p⟩
abbrev R2:=V->V->Hp->VK->Prop
def zO(X:Cx)(f:cr->cr->Sem cr)(r:R2):Prop :=
 ∀(a:List (ci×Obj)) (s:fH) (b:St) (H:Hp) (x y:V) (v u:cr) (Q:VK),Inv X a b H s->RelV x v->RelV y u->r x y H Q ->
  fO (fS X.prog X.w) X.A (f v u) (EP X a b Q) X.xe s
def Y9(X:Cx)(f:cr->Sem cr)(r:V->Hp->VK->Prop):Prop :=
 ∀(a:List (ci×Obj)) (s:fH) (b:St) (H:Hp) (x:V) (v:cr) (Q:VK),Inv X a b H s->RelV x v->r x H Q ->
  fO (fS X.prog X.w) X.A (f v) (EP X a b Q) X.xe s
def xJ(X:Cx)(f:cr)(r:List V->Hp->VK->Prop):Prop :=
 ∀(a:List (ci×Obj)) (s:fH) (b:St) (H:Hp) (c:List V) (d:List cr) (Q:VK),Inv X a b H s->Vals c d->r c H Q ->
  fO (fS X.prog X.w) X.A (call f d) (EP X a b Q) X.xe s
def Za(X:Cx)(r:V->Hp->(Bool->Hp->Prop)->Prop):Prop :=
 ∀(a:List (ci×Obj)) (s:fH) (b:St) (H:Hp) (x:V) (v:cr) (Q:Bool->Hp->Prop),Inv X a b H s->RelV x v->r x H Q ->
  fO (fS X.prog X.w) X.A (sZ v) (TP X a b Q) X.xe s
def Wk(r:R2)(b c:TE):TE:=λa H Q=>b a H λx d=>c a d λy e=>r x y e Q
def tUn(r:V->Hp->VK->Prop)(a:TE):TE:=λb H Q=>a b H λx c=>r x c Q
def rI(C:Int->Int->Prop)(g:Int->Int->V):R2:=λx y H Q=>∃i j,x=.int i/\y=.int j/\C i j/\Q (g i j) H
def QE(g:Int->Int->V):R2:=λx y H Q=>∃i j,x=.int i/\y=.int j/\Q (g i j) H
def rU(g:Int->V):V->Hp->VK->Prop:=λx H Q=>∃i,x=.int i/\Q (g i) H
section
variable{X:Cx}{a b c:gA}{ta tb tc:TE}{pos:Pos}
theorem UL(n:PE X a ta)(o:PE X b tb){d:List (ci×Obj)}{s:fH}{e:St}{H:Hp}{R:V->V->Hp->Prop}(I:Inv X d e H s)
  (h:ta e H λx l=>tb e l λy g=>R x y g) {Q:cr->fH->Prop} {f:cr->cr->Sem cr}
  (p:∀v u k x y g,Inv X d e g k->RelV x v->RelV y u->R x y g->fO (fS X.prog X.w) X.A (f v u) Q X.xe k) :
  fO (fS X.prog X.w) X.A (eval a X.env) (λv i=>fO (fS X.prog X.w) X.A (eval b X.env) (λu j=>fO (fS X.prog X.w) X.A (f v u) Q X.xe j) X.xe i) X.xe s:=by
 refine uL (n d s e H _ I h) λv q m=>ut m λx l r t z=>?_;refine uL (o d q e l _ r z) λu k m=>ut m λy g B C D=>?_;exact p v u k x y g B t C D
theorem vU(e:zO X (kS op) r)(f:PE X a ta)(g:PE X b tb):PE X (.BinOp a op b pos) (Wk r ta tb):=by intro d s i H Q I h;exact wpAny_BinOp<|UL f g I h λv u j x y k l m n q=>e d j i k x y v u Q l m n q
theorem TM{e:UnaryOp}{r:V->Hp->VK->Prop}(g:Y9 X (unaryOp e) r)(i:PE X a ta):PE X (.UnaryOp e a pos) (tUn r ta):=by intro d s f H Q I h;exact UnaryOp_<|uL (i d s f H _ I h) λv j k=>ut k λx l m n o=>g d j f l x v Q m n o
theorem Yo{f:cr->cr->Sem cr}{C:Int->Int->Prop}{g:Int->Int->Int}
 (d:∀(i j:Int)(t u:Tok)(s:fH)(Q:cr->fH->Prop)(E:cr->fH->Prop),C i j->Q (.int (g i j) s.toks) { s with toks:=s.toks+1}->fO (fS X.prog X.w) X.A (f (.int i t)<|.int j u) Q E s) :
    zO X f (rI C λi j=>.int<|g i j):=by
  intro e s o H x y v u Q I k l h
  obtain⟨i,j,rfl,rfl,m,q⟩:=h
  obtain⟨t,rfl⟩:=k
  obtain⟨n,rfl⟩:=l
  exact d i j t n s _ _ m ⟨.int<|g i j,H,I.tok _,⟨_,rfl⟩,q⟩
theorem WE{f:cr->cr->Sem cr}{g:Int->Int->Int}
 (d:∀(i j:Int)(t u:Tok)(s:fH)(Q:cr->fH->Prop)(E:cr->fH->Prop),Q (.int (g i j) s.toks) { s with toks:=s.toks+1}->fO (fS X.prog X.w) X.A (f (.int i t)<|.int j u) Q E s) :
    zO X f (QE λi j=>.int<|g i j):=by
  intro e s n H x y v u Q I k l h
  obtain⟨i,j,rfl,rfl,q⟩:=h
  obtain⟨t,rfl⟩:=k
  obtain⟨m,rfl⟩:=l
  exact d i j t m s _ _ ⟨.int<|g i j,H,I.tok _,⟨_,rfl⟩,q⟩
theorem QS{f:cr->cr->Sem cr}{g:Int->Int->Bool}
 (d:∀(i j:Int)(t u:Tok)(s:fH)(Q:cr->fH->Prop)(E:cr->fH->Prop),Q (.bool<|g i j) s->fO (fS X.prog X.w) X.A (f (.int i t)<|.int j u) Q E s) :
    zO X f (QE λi j=>.bl<|g i j):=by
  intro e s n H x y v u Q I k l h
  obtain⟨i,j,rfl,rfl,q⟩:=h
  obtain⟨t,rfl⟩:=k
  obtain⟨m,rfl⟩:=l
  exact d i j t m s _ _ ⟨.bl<|g i j,H,I,rfl,q⟩
def Zb(i j:Int):Prop:=0<j/\j<1073741824
def Zc(i j:Int):Prop:=0<=j/\j<=1000000/\i.natAbs<2 ^ 64
def UM(i j:Int):Prop:=(-(2 ^ 64)<i/\i<2 ^ 64)\/(-(2 ^ 64)<j/\j<2 ^ 64)
theorem UM.ok{i j:Int}(h:UM i j):IntMulOk i j:=by
 rcases h with⟨d,e⟩|⟨d,e⟩
 ·exact .of_left<|intBits_le_64 d e
 ·exact .of_right<|intBits_le_64 d e
theorem Ad:zO X (kS .Add) (QE λi j=>.int<|i+j):=WE λ_ _ _ _ _ _ _ q=>add_int q
theorem Ip:zO X (kS .Sub) (QE λi j=>.int<|i-j):=WE λ_ _ _ _ _ _ _ q=>sub_int q
theorem Ae:zO X (kS .Mult) (rI UM λi j=>.int<|i*j):=Yo λ_ _ _ _ _ _ _ d q=>mul_int q d.ok
theorem Kf:zO X (kS .FloorDiv) (rI Zb λi j=>.int<|i / j):=Yo λi j _ _ _ _ _ d q=>by have e:(0:Int)<j:=d.1;have f:j<1073741824:=d.2;exact floordiv_int q0d (by rw[Int.fdiv_eq_ediv_of_nonneg i q0d];exact q)<|.inl<|PyProof.noPylong_small q0d
theorem Bf:zO X (kS .Mod) (rI (λ_ j=>0<j) λi j=>.int<|i%j):=Yo λi j _ _ _ _ _ d q=>by have e:(0:Int)<j:=d;exact mod_int' q0a (by rw[Int.fmod_eq_emod_of_nonneg i q0a];exact q)
theorem UN:zO X (kS .Pow) (rI Zc λi j=>.int<|i ^ j.toNat):=Yo λ_ _ _ _ _ _ _ d q=>pow_int_small d.1 d.2.1 d.2.2 q
theorem unI{f:cr->Sem cr}{g:Int->Int}
 (d:∀(i:Int)(t:Tok)(s:fH)(Q:cr->fH->Prop)(E:cr->fH->Prop),Q (.int (g i) s.toks) { s with toks:=s.toks+1}->fO (fS X.prog X.w) X.A (f<|.int i t) Q E s) :
    Y9 X f (rU λi=>.int<|g i):=by
  intro e s k H x v Q I j h
  obtain⟨i,rfl,q⟩:=h
  obtain⟨t,rfl⟩:=j
  exact d i t s _ _ ⟨.int<|g i,H,I.tok _,⟨_,rfl⟩,q⟩
theorem Nc:Y9 X (unaryOp .USub) (rU λi=>.int (-i)):=unI λ_ _ _ _ _ q=>neg_int q
end
def UO:V->V->Bool
 | .vC,.vC=>true|.vC,.int _=>true|.int _,.vC=>true|.vC,.bl _=>true|.bl _,.vC=>true|.vC,.str _=>true|.str _,.vC=>true
 | .int _,.int _=>true|.bl _,.bl _=>true|.str _,.str _=>true|.Kb _,.Kb _=>true
 | .int _,.str _=>true|.str _,.int _=>true|.bl _,.str _=>true|.str _,.bl _=>true
 | _,_=>false
def rEq:R2:=λx y H Q=>UO x y=true/\Q (.bl<|decide<|x=y) H
def rNe:R2:=λx y H Q=>UO x y=true/\Q (.bl<|!decide (x=y)) H
theorem Kg{i j:Int}:decide (V.int i=V.int j)=(i==j):=by rw[kG];simp
theorem Nd{i j:Bool}:decide (V.bl i=V.bl j)=(i==j):=by rw[kG];simp
theorem Ki:decide (V.str i=V.str j)=(i==j):=by rw[kG];simp
theorem Kj:decide (V.Kb i=V.Kb j)=(i.toList==j.toList):=by rw[kG];cases i;cases j;simp
section
variable{X:Cx}{a b c:gA}{ta tb tc:TE}{pos:Pos}
theorem uI{k f:Bool}(I:Inv X d g H s)(q:Q (.bl k) H)(e:k=f):EP X d g Q (.bool f) s:=by subst e;exact⟨.bl k,H,I,rfl,q⟩
theorem WF:zO X (iB .Eq) rEq:=by
 intro k s l H x y v u Q I g d h;obtain⟨f,q⟩:=h
 cases x with
 | vC =>
  cases g
  cases y with
  | vC=>cases d;exact PySem.EqNone.eq_none_none<|uI I q q0o
  | bl j=>cases d;exact PySem.EqNone.eq_none_bool<|uI I q q0o
  | int j=>obtain⟨e,rfl⟩:=d;exact PySem.EqNone.eq_none_int<|uI I q q0o
  | str j=>obtain⟨e,rfl⟩:=d;exact PySem.EqNone.eq_none_str<|uI I q q0o
  | _=>exact fY (show false=true from f) fT
 | bl i =>
  cases g
  cases y with
  | vC=>cases d;exact PySem.EqNone.eq_bool_none<|uI I q q0o
  | bl j=>cases d;exact eq_bool<|uI I q Nd
  | str j=>obtain⟨e,rfl⟩:=d;exact PySem.EqMixed.eq_bool_str<|uI I q q0o
  | _=>exact fY (show false=true from f) fT
 | int i =>
  obtain⟨t,rfl⟩:=g
  cases y with
  | vC=>cases d;exact PySem.EqNone.eq_int_none<|uI I q q0o
  | int j=>obtain⟨e,rfl⟩:=d;exact eq_int<|uI I q Kg
  | str j=>obtain⟨e,rfl⟩:=d;exact PySem.EqMixed.eq_int_str<|uI I q q0o
  | _=>exact fY (show false=true from f) fT
 | str i =>
  obtain⟨t,rfl⟩:=g
  cases y with
  | vC=>cases d;exact PySem.EqNone.eq_str_none<|uI I q q0o
  | bl j=>cases d;exact PySem.EqMixed.eq_str_bool<|uI I q q0o
  | int j=>obtain⟨e,rfl⟩:=d;exact PySem.EqMixed.eq_str_int<|uI I q q0o
  | str j=>obtain⟨e,rfl⟩:=d;exact eq_str<|uI I q Ki
  | _=>exact fY (show false=true from f) fT
 | Kb i =>
  obtain⟨t,rfl⟩:=g
  cases y with
  | Kb j=>obtain⟨e,rfl⟩:=d;exact PySem.W.eq_bytes<|uI I q Kj
  | _=>exact fY (show false=true from f) fT
 | _=>cases y<;>exact fY (show false=true from f) fT
theorem WG:zO X (iB .NotEq) rNe:=by
 intro k s l H x y v u Q I g d h;obtain⟨f,q⟩:=h
 cases x with
 | vC =>
  cases g
  cases y with
  | vC=>cases d;exact PySem.EqNone.ne_none_none<|uI I q q0o
  | bl j=>cases d;exact PySem.EqNone.ne_none_bool<|uI I q q0o
  | int j=>obtain⟨e,rfl⟩:=d;exact PySem.EqNone.ne_none_int<|uI I q q0o
  | str j=>obtain⟨e,rfl⟩:=d;exact PySem.EqNone.ne_none_str<|uI I q q0o
  | _=>exact fY (show false=true from f) fT
 | bl i =>
  cases g
  cases y with
  | vC=>cases d;exact PySem.EqNone.ne_bool_none<|uI I q q0o
  | bl j=>cases d;exact ne_bool<|uI I q<|congrArg not Nd
  | str j=>obtain⟨e,rfl⟩:=d;exact PySem.EqMixed.ne_bool_str<|uI I q q0o
  | _=>exact fY (show false=true from f) fT
 | int i =>
  obtain⟨t,rfl⟩:=g
  cases y with
  | vC=>cases d;exact PySem.EqNone.ne_int_none<|uI I q q0o
  | int j=>obtain⟨e,rfl⟩:=d;exact ne_int<|uI I q<|congrArg not Kg
  | str j=>obtain⟨e,rfl⟩:=d;exact PySem.EqMixed.ne_int_str<|uI I q q0o
  | _=>exact fY (show false=true from f) fT
 | str i =>
  obtain⟨t,rfl⟩:=g
  cases y with
  | vC=>cases d;exact PySem.EqNone.ne_str_none<|uI I q q0o
  | bl j=>cases d;exact PySem.EqMixed.ne_str_bool<|uI I q q0o
  | int j=>obtain⟨e,rfl⟩:=d;exact PySem.EqMixed.ne_str_int<|uI I q q0o
  | str j=>obtain⟨e,rfl⟩:=d;exact ne_str<|uI I q<|congrArg not Ki
  | _=>exact fY (show false=true from f) fT
 | Kb i =>
  obtain⟨t,rfl⟩:=g
  cases y with
  | Kb j=>obtain⟨e,rfl⟩:=d;exact PySem.W.ne_bytes<|uI I q<|congrArg not Kj
  | _=>exact fY (show false=true from f) fT
 | _=>cases y<;>exact fY (show false=true from f) fT
theorem TN:zO X (iB .Lt) (QE λi j=>.bl<|decide<|i<j):=QS λ_ _ _ _ _ _ _ q=>lt_int q
theorem TQ:zO X (iB .LtE) (QE λi j=>.bl<|decide<|i<=j):=QS λ_ _ _ _ _ _ _ q=>le_int q
theorem TR:zO X (iB .Gt) (QE λi j=>.bl<|decide<|j<i):=QS λ_ _ _ _ _ _ _ q=>gt_int q
theorem WH:zO X (iB .GtE) (QE λi j=>.bl<|decide<|j<=i):=QS λ_ _ _ _ _ _ _ q=>ge_int q
theorem UP:zO X (iB .Is) (λx y H Q=>y=.vC/\Q (.bl<|decide<|x=.vC) H):=by
 intro d s g H x y v u Q I e f h;obtain⟨rfl,q⟩:=h;cases f;refine is_none_gen<|uI I q ?_
 cases x<;>first
  | (cases e;rfl)
  | (obtain⟨t,rfl⟩:=e;rfl)
theorem QT:zO X (iB .IsNot) (λx y H Q=>y=.vC/\Q (.bl<|!decide (x=.vC)) H):=by
 intro d s g H x y v u Q I e f h;obtain⟨rfl,q⟩:=h;cases f;refine isnot_none_gen<|uI I q ?_
 cases x<;>first
  | (cases e;rfl)
  | (obtain⟨t,rfl⟩:=e;rfl)
theorem uA(b:gA)(h:op≠.In:=by decide)(d:op≠.NotIn:=by decide):ic op b=false:=by
 have e:(op==CmpOp.In)=false:=by cases op<;>first|rfl|exact fY rfl h
 have f:(op==CmpOp.NotIn)=false:=by cases op<;>first|rfl|exact fY rfl d
 cases b<;>simp[ic,e,f]
theorem QU(e:zO X (iB op) r)(f:PE X a ta)(g:PE X b tb)(i:ic op b=false):PE X (.Compare a [op] [b] pos) (Wk r ta tb):=by intro d s j H Q I h;exact ry (UL f g I h λv u k x y l m n o q=>e d k j l x y v u Q m n o q) i
def WI(t:TE):TT:=λd H Q=>t d H λx e=>∃k,x=.bl k/\Q k e
theorem wQ{g:qF}{r:R2}(l:zO X (iB g) r)(m:PE X a ta)(n:PE X b tb)(o:ic g b=false):PT X (.Compare a [g] [b] pos) (WI<|Wk r ta tb):=by
 intro d s i H Q I h
 refine tN (uL (m d s i H _ I h) λv p f=>ut f λx q t w A=>uL (n d p i q _ t A) λu B f=>ut f λy C D E F =>
  uL (l d B i C x y v u _ D w E F) λc M f=>ut f λz G J K j=>tX j λk e L=>?_) o
 subst e;cases K;exact jf ⟨G,J,L⟩
def WJ(K:fB)(x:V)(H:Hp)(k:Bool):Prop :=
 match x with
 | .vC=>k=false
 | .bl b=>k=b
 | .int i=>k=(i != 0)
 | .str y=>y.length<=fK/\k=((y.length:Int) != 0)
 | .Kb y=>y.size<=fK/\k=((y.size:Int) != 0)
 | .ref p=>(∃d,vn K H p d/\k=!d.isEmpty)\/(∃d,yg K H p d/\k=!d.isEmpty)\/∃e,H p=some (.dK e)/\k=!e.isEmpty
 | _=>False
theorem Iq(r:KV d e):(!e.isEmpty)=!d.isEmpty:=by
 cases r<;>rfl
theorem CP(r:Vals e d):(!d.toArray.isEmpty)=!e.isEmpty:=by
 cases r<;>simp
theorem Bh:(fK:Nat)<2 ^ 63:=by rw[hX];decide
theorem UQ:Za X (λx H Q=>∃k,WJ X.K x H k/\Q k H):=by
 intro A s E H x v Q I l h;refine tX h λk e q=>?_;have F:=Bh;have G:fK=16777216:=hX
 cases x with
 | vC =>
  cases l;have d:k=false:=e;subst d;exact truthy_none ⟨H,I,q⟩
 | bl b =>
  cases l;have d:k=b:=e;subst d;exact jf ⟨H,I,q⟩
 | int i =>
  obtain⟨t,rfl⟩:=l;have d:k=(i != 0):=e;subst d;exact PySem.P.truthy_int ⟨H,I,q⟩
 | str y =>
  obtain⟨t,rfl⟩:=l;obtain⟨C,d⟩:y.length<=fK/\k=((y.length:Int) != 0):=e;subst d;exact PySem.P.truthy_str q0a ⟨H,I.tok _,q⟩
 | Kb y =>
  obtain⟨t,rfl⟩:=l;obtain⟨C,d⟩:y.size<=fK/\k=((y.size:Int) != 0):=e;subst d;exact PySem.W.truthy_bytes q0a ⟨H,I.tok _,q⟩
 | ref p =>
  cases l;have d:(∃j,vn X.K H p j/\k=!j.isEmpty)\/(∃j,yg X.K H p j/\k=!j.isEmpty)\/∃f,H p=some (.dK f)/\k=!f.isEmpty:=e;rcases d with⟨j,n,d⟩|⟨j,n,d⟩|⟨f,n,d⟩
  ·subst d;refine ux (I.list n) λu r z B=>?_;have g:=r.length;exact wpAny_truthy_list z.isList (by simp only[fW];lia) ⟨H,I.tok _,by rw[CP r];exact q⟩
  ·subst d;refine ux (I.tuple n) λu r z B=>?_;have g:=r.length;exact truthy_tuple z (by simp only[fW];lia) ⟨H,I.tok _,by rw[CP r];exact q⟩
  ·subst d;obtain⟨B,D,o,r,m⟩:f.length<=fK/\(p==jF)=false/\∃o,KV f o/\s.heap.DictOf (uB X.prog X.w) p o:=I.uO p _ n;have g:f.length=o.length:=Paired.length r;exact wpAny_truthy_dict D m q0a ⟨H,I.tok _,by rw[Iq r];exact q⟩
 | _=>exact(show False from e).elim
theorem GU(i:PE X a ta)(j:∀d,pK a X.env d=(do let v <- d;lw a.pos;jz [v] (sZ v))) :
  PT X a (λf H Q=>ta f H λx g=>∃k,WJ X.K x g k/\Q k g):=by
 intro e s f H Q I h;exact isTrue_plain (uL (i e s f H _ I h) λv l m=>ut m λx n o p q=>UQ e l f n x v Q o p q)<|j _
theorem vals1(r:Vals [x] d):∃u,d=[u]/\RelV x u:=by
 cases r with
 | cons e f=>cases f;exact⟨_,rfl,e⟩
theorem vals2(r:Vals [x,y] e):∃u d,e=[u,d]/\RelV x u/\RelV y d:=by
 cases r with
 | cons f g =>
  cases g with
  | cons h i=>cases i;exact⟨_,_,rfl,f,h⟩
end
structure Ir(h:gE)(x dx C:ci)(mA:Str->Option cr):Prop where
 obj:h.get? x=some (jp C dx)
 ns:h.Ns1 dx mA
 ne:dx≠x
set_option tactic.hygienic true in
theorem LK{h:gE}{c:ci}{d:Str->Option cr}(n:h.Ns1 c d):∃f,h.get? c=some f/\∀name,nA name f=some (d name):=by
 obtain⟨o,g,r,i,j,k,_,l⟩:=n;refine⟨o,i,λname=>?_⟩;have e:=l name;unfold nsFind findBy at e;rw[<- sk] at e;unfold nA;rw[j];dsimp only;split
 ·rename_i y q
  rw[q] at e;exact congrArg some e
 ·rename_i q
  rw[q] at e
  have a:g.toList.any (·.refKey)=false:=by rw[List.any_eq_false];intro y m;obtain⟨z,t,b⟩:=k y<|Array.mem_toList_iff.mp m;simp[DictEntry.refKey,b]
  have p:¬g.toList.any (·.refKey)=true:=by rw[a];exact fT
  rw[fF p];exact congrArg some e
theorem Ir.look(I:Ir h x b C c):∃a,PySem.W.InstAt h x (jp C b) C (some a)/\∀name,nA name a=some (c name) :=
 tX (LK I.ns) λa d e =>
 ⟨a,⟨I.obj,rfl,rfl,d⟩,e⟩
section
variable{prog:gf}{w:gu}{A:gJ}{E:cr->fH->Prop}{s:fH}{K:fB}{x dx C f:ci}{mA:Str->Option cr}{name:Str}{v:cr}
theorem get_map{a:Bool}(X:K.In s.heap)(I:Ir s.heap x dx C mA)(c:kZ K C name=true)(d:mh K C=true)
 (e:gr K (.ref C) name=some none) (g:mA name=some v) (b:sr v=true) (h:Q v { s with toks:=s.toks+1}) :
    fO (fS prog w) A (getAttr (.ref x) name a) Q E s:=by
  refine tX I.look λj J i=>?_
  exact PySem.W.get_value X J (nY c).1 (PySem.W.findObj_own d e rfl<|by rw[i,g]) b h
theorem Nf(X:K.In s.heap)(I:Ir s.heap x dx C mA)(a:kZ K C name=true)
 (b:gr K (.ref C) name=some (some<|.ref f)) (c:mU K (.ref f)=true) (d:mA name=none) (h:Q (.ref f,[.ref x]) s) :
    fO (fS prog w) A (kH (.ref x) name i) Q E s:=by
  refine tX I.look λe J g=>?_
  exact PySem.W.method_fn X J (nY a).1 (nY a).2 b (beq_iff_eq.mp c) (by show (nA name e).map (·.isSome)=some false;rw[g,d];rfl) h
theorem QV(X:K.In s.heap)(I:Ir s.heap x dx C mA)
 (l:gr K (.ref C) "__setattr__"=some (some<|.builtin "object.__setattr__")) (m:oO K C=true) (n:pw K C name=some none) (o:mh K C=true)
 (hw:qR mA p) (q:p.length<=fK)
 (h:∀e,Ir e x dx C (λy=>if y=name then some v else mA y)->gX dx s.heap e->Q () { s with heap:=e,toks:=s.toks+2}) :
    fO (fS prog w) A (setAttr (.ref x) name v) Q E s:=by
  refine tX I.look λD J F=>?_
  refine PySem.W.set_plain X J l<|PySem.W.osa_open (s:={ s with toks:=s.toks+1}) (r:=none) X J m n λb=>?_
  refine tX (PySem.W.any_some o) λG t g=>?_
  have u:s.heap.get? x=some ⟨.ref C,some dx,.plain,#[]⟩:=I.obj
  refine am<|ap<|am<|am<|wpAny_loadPart u<|am<|PySem.W.Looks.here (s:={ s with toks:=s.toks+1}) (nZ X t) ?_
  rw[g]
  refine ap (a:=some dx)<|am<|ap<|am ?_
  refine wpAny_nsSet1 (s:={ s with toks:=s.toks+1}) I.ns λe c d=>?_
  obtain⟨H,z,B,i,j,k⟩:=c.count<|PySem.Within.cons name v hw
  refine am<|wpAny_lookBehind i (by rw[j];exact pastItsLine_dict<|gZ k<|by rw[gk];lia) ?_
  exact ap<|h _ ⟨(d.2 _<|Ne.symm I.ne).trans I.obj,c,I.ne⟩ d
theorem Ng(X:K.In s.heap)(c:pA K C=true)
 (e:gr K (.ref C) "__init__"=some (some<|.ref f)) (i:nC K (.ref f)=some (.type "function"))
 (h:kW (fS prog w) (A.under (.builtin "type.__call__" ⟨.ref C::a,b⟩)) (.call (.ref f) ⟨.ref (s.heap.objs.size+1)::a,b⟩) (PySem.W.InitBack (s.heap.objs.size+1) R)
 { s with heap:=(s.heap.push iT).push (jp C s.heap.objs.size)}) :
    kW (fS prog w) A (.call (.ref C) ⟨a,b⟩) R s:=by
  obtain⟨j,g,d,t,k⟩:=s
  exact PySem.W.make_core (PySem.W.makes_of X c) (nE X e) (λself=>PySem.W.bind_fn X self i) (.inl rfl) h
end
def yW(f:Str)(v:V):List (Str×V)->List (Str×V)
 | []=>[(f,v)]
 | (g,x)::r=>if g=f then (g,v)::r else (g,x)::yW f v r
theorem GV(f g:Str)(v:V):∀d:List (Str×V),(yW f v d).lookup g=if g=f then some v else d.lookup g:=by
 intro i
 induction i with
 | nil =>
  show j7 g [(f,v)]=_;by_cases h:g=f
  ·have a:(g==f)=true:=beq_iff_eq.mpr h;simp only[j7,a,fE h]
  ·have a:(g==f)=false:=beq_eq_false_iff_ne.mpr h;simp only[j7,a,fF h]
 | cons j r c =>
  obtain⟨k,x⟩:=j;have l:=c;rw[show yW f v ((k,x)::r)=(if k=f then (k,v)::r else (k,x)::yW f v r) from rfl];by_cases b:k=f
  ·rw[fE b];by_cases h:g=k
   ·have a:(g==k)=true:=beq_iff_eq.mpr h;simp only[j7,a,fE<|h.trans b]
   ·have a:(g==k)=false:=beq_eq_false_iff_ne.mpr h;simp only[j7,a,fF (λe:g=f=>h<|e.trans b.symm)]
  ·rw[fF b];by_cases h:g=k
   ·have a:(g==k)=true:=beq_iff_eq.mpr h;simp only[j7,a,fF (λe:g=f=>b<|h.symm.trans e)]
   ·have a:(g==k)=false:=beq_eq_false_iff_ne.mpr h;simp only[j7,a];exact l
theorem Eg(f:Str)(v:V):∀a:List (Str×V),f∈(yW f v a).map (·.1)/\∀g,g∈a.map (·.1)->g∈(yW f v a).map (·.1):=by
 intro d
 induction d with
 | nil=>exact⟨by simp[yW],λg h=>by simp at h⟩
 | cons i r b =>
  obtain⟨k,x⟩:=i;obtain⟨j,l⟩:=b;rw[show yW f v ((k,x)::r)=(if k=f then (k,v)::r else (k,x)::yW f v r) from rfl];by_cases c:k=f
  ·rw[fE c];subst c;exact⟨q0o,λg h=>by simpa using h⟩
  ·rw[fF c];refine⟨?_,λg h=>?_⟩
   ·rw[gn];exact fP _ j
   ·rw[gn] at h ⊢;rcases List.mem_cons.mp h with e|e
    ·exact List.mem_cons.mpr<|.inl e
    ·exact fP _<|l g e
theorem BV(f:Str)(v:V):∀a:List (Str×V),(yW f v a).length<=a.length+1
 | []=>by simp[yW]
 | (k,x)::r=>by
  have c:=BV f v r;rw[show yW f v ((k,x)::r)=(if k=f then (k,v)::r else (k,x)::yW f v r) from rfl];by_cases b:k=f
  ·rw[fE b,gk,gk];lia
  ·rw[fF b,gk,gk];lia
theorem yj.some_of(r:yj (some v) o):∃u,o=some u/\RelV v u:=by
 cases o with
 | none=>exact(show False from r).elim
 | some u=>exact⟨u,rfl,r⟩
theorem yj.none_of(r:yj none o):o=none:=by
 cases o with
 | none=>rfl
 | some u=>exact(show False from r).elim
theorem LL(r:RelV v u):sr u=true:=by
 cases v with
 | vC=>cases (show u=Value.none from r);rfl
 | bl b=>cases (show u=qa b from r);rfl
 | int i=>obtain⟨t,e⟩:=(show ∃t,u=kd i t from r);cases e;rfl
 | str x=>obtain⟨t,e⟩:=(show ∃t,u=Value.str x t from r);cases e;rfl
 | Kb b=>obtain⟨t,e⟩:=(show ∃t,u=Value.bytes b t from r);cases e;rfl
 | Uu b=>obtain⟨t,e⟩:=(show ∃t,u=rs b t from r);cases e;rfl
 | ref a=>cases (show u=fZ a from r);rfl
 | ty n=>cases (show u=i8 n from r);rfl
section
variable{P:gf}{w:gu}{H H':Hp}{h h':gE}{a C dx:ci}{fs fs':List (Str×V)}
theorem As(c:wU P w H h)(e:H a=some (.ins C dx fs)):∃b,Ir h a dx C b/\(∀f,yj (fs.lookup f)<|b f)/\qR b (fs.map (·.1))/\fs.length<=1000/\H dx=some (.own a):=by obtain⟨d,z,g,i,b,n,r,q⟩:=(show u7 P w H h a (.ins C dx fs) from c a _ e);exact⟨b,⟨i,n,g⟩,r,q,z,d⟩
end
structure zP(K:fB)(C:ci):Prop where
 pg:kZ K C Str.empty=true
 hd:mh K C=true
 po:oO K C=true
 sa:gr K (.ref C) "__setattr__"=some (some<|.builtin "object.__setattr__")
theorem zP.get{K:fB}{C:ci}(c:zP K C)(f:Str):kZ K C f=true:=c.pg
def uS(K:fB)(C:ci)(f:Str):Prop:=gr K (.ref C) f=some none
theorem uS.WK{K:fB}{C:ci}{f:Str}(n:uS K C f):pw K C f=some none:=by unfold pw;rw[show gr K (.ref C) f=some none from n];rfl
structure Meth(K:fB)(C:ci)(m:Str)(f:ci):Prop where
 at_:gr K (.ref C) m=some (some<|.ref f)
 fn:mU K (.ref f)=true
 kp:h8 K (.ref f)=true
section
variable{X:Cx}{pins:List (ci×Obj)}{σ:St}{H:Hp}{s:fH}{a C dx:ci}{fs:List (Str×V)}{f:Str}{v:V}{A:gJ}{E:cr->fH->Prop}
theorem Iu{b:Bool}(I:Inv X pins σ H s)(e:H a=some (.ins C dx fs))(c:zP X.K C)(n:uS X.K C f)(l:fs.lookup f=some v)
 (h:∀u d,Inv X pins σ H d->RelV v u->Q u d):fO (fS X.prog X.w) A (getAttr (.ref a) f b) Q E s:=by
  obtain⟨i,O,r,_,_,_⟩:=As I.uO e
  obtain⟨u,j,g⟩:=yj.some_of (v:=v) (o:=i f) (by rw[<- l];exact r f)
  exact get_map I.xI O (c.get f) c.hd n j (LL g)<|h u _ (I.tok _) g
theorem Af(I:Inv X pins σ H s)(e:H a=some (.ins C dx fs))(c:zP X.K C)(k:Meth X.K C m g)(l:fs.lookup m=none)
 (h:Q (.ref g,[.ref a]) s):fO (fS X.prog X.w) A (kH (.ref a) m i) Q E s:=by
  obtain⟨b,O,r,_,_,_⟩:=As I.uO e
  have d:b m=none:=yj.none_of (by rw[<- l];exact r m)
  exact Nf I.xI O (c.get m) k.at_ k.fn d h
theorem Iv(I:Inv X pins σ H s)(e:H a=some (.ins C dx fs))(c:zP X.K C)(n:uS X.K C f)(L:fs.length<1000)(m:RelV y u)
 (h:∀i,Inv X pins σ (upd H a<|.ins C dx<|yW f y fs) i->Q () i):fO (fS X.prog X.w) A (setAttr (.ref a) f u) Q E s:=by
  obtain⟨j,O,r,k,_,l⟩:=As I.uO e
  have p:(fs.map (·.1)).length<=fK:=by rw[fN,hX];lia
  refine QV I.xI O c.sa c.po n.WK c.hd k p λt d B=>h _ ?_
  have D:∃o,t.get? dx=some o:=wT d.ns λo _ _ F _=> ⟨o,F⟩
  refine I.write (x:=a) (e:=dx) (by rw[e];exact True.intro) (.inr l) (λb q G z=>(B.2 b G).trans z) D ?_
  refine⟨by rw[ss O.ne];exact l,?_,O.ne,d.obj,_,d.ns,λg=>?_,λg J=>?_⟩
  · have := BV f y fs; lia
  · show yj ((yW f y fs).lookup g) (if g = f then some u else j g)
    rw[GV]
    by_cases q:g=f
    · rw[fE q, fE q]; exact m
    · rw[fF q, fF q]; exact r g
  · by_cases q : g = f
    · rw[q]; exact(Eg f y fs).1
    · refine(Eg f y fs).2 g (k g λz => J ?_)
      show (if g=f then some u else j g)=none
      rw[fF q];exact z
theorem Inv.made(I:Inv X pins σ H s):Inv X pins σ (upd (upd H s.heap.objs.size<|.own<|s.heap.objs.size+1) (s.heap.objs.size+1)<|.ins C s.heap.objs.size [])
  { s with heap:=(s.heap.push iT).push (jp C s.heap.objs.size)}:=by
 have c:(s.heap.push iT).get? s.heap.objs.size=some iT:=fU s.heap rfl
 have g:((s.heap.push iT).push<|jp C s.heap.objs.size).get? (s.heap.objs.size+1)=some (jp C s.heap.objs.size):=by
  have:=fU (s.heap.push iT) (o:=jp C s.heap.objs.size) rfl
  rwa [iF] at this
 have h:(s.heap.push iT).Ns s.heap.objs.size (λ_=>none):=⟨iT,#[],_,c,rfl,(λe i=>fY i q0o),λ_=>rfl⟩;have j:=I.laid (a:=s.heap.objs.size) (o:=.own<|s.heap.objs.size+1) (h':=s.heap.push iT) (t':=s.toks) (λb u q=>ce _ q) (fJ _) ⟨_,c⟩;refine j.laid (a:=s.heap.objs.size+1) (o:=.ins C s.heap.objs.size []) (t':=s.toks) (λb u q=>ce _ q) (pB<|iF _ _) ?_;have d:s.heap.objs.size≠s.heap.objs.size+1:=fX<|iA _;refine⟨by rw[ss d,tZ],g9 _,d,g,λ_=>none,(rB h).at λo q=>ce _ q,λ_=>True.intro,λy k=>fY rfl k⟩
theorem QW(g:gH e f b (eval e b)=eval e b)
 (h:fO (fS c w) A (eval e b) (λo d=>fO (fS c w) A (getAttr o f true) Q E d) E s):fO (fS c w) A (eval (.Attribute e f pos) b) Q E s :=
  Attribute_any_ h (by rw[arm_eval_Attribute,g])
end
def UR(K:fB)(d:TE)(f:Str):TE:=λe H Q=>d e H λx b=>∃a C g c v,x=.ref a/\b a=some (.ins C g c)/\zP K C/\uS K C f/\c.lookup f=some v/\Q v b
def LM(K:fB)(g h:TE)(f:Str):TS:=λD b H=>h b H λy i=>g b i λx d=>∃a C e c,x=.ref a/\d a=some (.ins C e c)/\zP K C/\uS K C f/\c.length<1000 /\
 D.nx b (upd d a<|.ins C e<|yW f y c)
def WM(X:Cx)(c:Operator)(d:V->V->Hp->VK->Prop):Prop :=
 ∀(a:List (ci×Obj)) (s:fH) (b:St) (H:Hp) (x y:V) (u v:cr) (Q:VK),Inv X a b H s->RelV x u->RelV y v->d x y H Q->fO (fS X.prog X.w) X.A (inplaceOp c u v) (EP X a b Q) X.xe s
section
variable{X:Cx}{o e value:gA}{f:Str}{pos pos' US:Pos}{ta tv:TE}
theorem vV(g:PE X e ta)(i:gH e f X.env (eval e X.env)=eval e X.env):PE X (.Attribute e f pos) (UR X.K ta f):=by intro b s j H Q I h;refine QW i<|uL (g b s j H _ I h) λu z k=>ut k λx H1 m p d=>YL d λa C A fs v r t c n l q=>?_;subst r;obtain rfl:u=fZ a:=p;exact Iu m t c n l λB D w y=>⟨v,H1,w,y,q⟩
theorem Bi(j:PE X o ta)(k:PE X value tv)(m:i4 value (some<|.Attribute o f pos') pos.line X.env=pure false):PS X (.Assign [.Attribute o f pos'] value pos) (LM X.K ta tv f):=by intro b s g H D I h;refine qk (uL (k b s g H _ I h) λu p i=>ut i λy H1 r t q=>uL (j b p g H1 _ r q) λv G i=>ut i λx H2 w z d=>YI d λa C J fs A B c n l E=>?_) m;subst A;obtain rfl:v=fZ a:=z;exact Iv w B c n l t λL F=>⟨g,_,F,E⟩
end
section
variable{X:Cx}{pins:List (ci×Obj)}{σ:St}{H:Hp}{s:fH}{A:gJ}{E:cr->fH->Prop}{Q:cr->fH->Prop}{c:cr}{b:Bool}
inductive yX(K:fB)(H:Hp):V->cr->Prop where
 | vC:yX K H .vC (.type "NoneType")
 | bl (x:Bool):yX K H (.bl x) (.type "bool")
 | int (i:Int):yX K H (.int i) (.type "int")
 | str (x:Str):yX K H (.str x) (.type "str")
 | Uu (x:UInt64):yX K H (.Uu x) (.type "float")
 | lst {a:ci} {xs:List V} (e:H a=some (.lst xs)):yX K H (.ref a) (.type "list")
 | Ig {a:ci} {o:Obj} {xs:List V} (e:H a=some (.Ig o<|.lst xs)):yX K H (.ref a) (.type "list")
 | tup {a:ci} {xs:List V} (e:H a=some (.tup xs)):yX K H (.ref a) (.type "tuple")
 | dK {a:ci} {vR:List (Key×V)} (e:H a=some (.dK vR)):yX K H (.ref a) (.type "dict")
 | dT {a:ci} {vR:List (List Key×V)} (e:H a=some (.dT vR)):yX K H (.ref a) (.type "dict")
 | ins {a C dx:ci} {fs:List (Str×V)} (e:H a=some (.ins C dx fs)) (cl:zP K C) (ha:gr K (.ref C) "__class__"=some (some<|.builtin "object.__class__"))
   (hn:PySem.W.specialIn K (.builtin "object.__class__") "__get__"=some (some<|.builtin "getset_descriptor.__get__")) (htk:PySem.W.takesIn K (.builtin "object.__class__")=some true)
   (hm:jK K C (.type "object")=some true):yX K H (.ref a) (.ref C)
theorem LN(I:Inv X pins σ H s)(d:RelV x u)(v:yX X.K H x t)(e:pO X.K t c=some b)(h:∀B,Q (.bool b) { s with toks:=B}) :
  fO (fS X.prog X.w) A (call (.builtin "isinstance") [u,c]) Q E s:=by
 cases v with
 | vC=>cases (show u=Value.none from d);exact iM PySem.W.kitx_none I.xI True.intro e (λz=>nomatch z) h
 | bl y=>cases (show u=qa y from d);exact iM PySem.W.kitx_bool I.xI True.intro e (λz=>nomatch z) h
 | int i=>obtain⟨t,q⟩:=(show ∃t,u=kd i t from d);cases q;exact iM PySem.W.kitx_int I.xI True.intro e (λz=>nomatch z) h
 | str y=>obtain⟨t,q⟩:=(show ∃t,u=Value.str y t from d);cases q;exact iM PySem.W.kitx_str I.xI True.intro e (λz=>nomatch z) h
 | Uu y=>obtain⟨t,q⟩:=(show ∃t,u=rs y t from d);cases q;exact iM PySem.W.kitx_float I.xI True.intro e (λz=>nomatch z) h
 | @lst a k f =>
  cases (show u=fZ a from d);obtain⟨_,_,n,_,g⟩:=(show u7 X.prog X.w H s.heap a (.lst k) from I.uO a _ f);exact iM sd I.xI ⟨_,g,rfl⟩ e (λz=>nomatch z) h
 | @Ig a D k f =>
  cases (show u=fZ a from d);obtain⟨_,_,_,n,_,g⟩:=(show u7 X.prog X.w H s.heap a (.Ig D<|.lst k) from I.uO a _ f);exact iM sd I.xI ⟨_,g,rfl⟩ e (λz=>nomatch z) h
 | @tup a k f =>
  cases (show u=fZ a from d);obtain⟨_,_,_,p⟩:=(show u7 X.prog X.w H s.heap a (.tup k) from I.uO a _ f);refine ux p λo g l _=>?_;exact iM PySem.W.kitx_tuple I.xI ⟨o,g,l⟩ e (λz=>nomatch z) h
 | @dK a j f =>
  cases (show u=fZ a from d);obtain⟨_,_,P,_,p⟩:=(show u7 X.prog X.w H s.heap a (.dK j) from I.uO a _ f);obtain⟨o,F,G,g,l,_⟩:=p;exact iM se I.xI ⟨o,g,l.1⟩ e (λz=>nomatch z) h
 | @dT a j f =>
  cases (show u=fZ a from d);obtain⟨_,_,k,_,o,F,G,g,l,_⟩:=(show u7 X.prog X.w H s.heap a (.dT j) from I.uO a _ f);exact iM se I.xI ⟨o,g,l.1⟩ e (λz=>nomatch z) h
 | @ins a C R fs f r L M m N =>
  cases (show u=fZ a from d);refine tX (As I.uO f) λS O _=>?_;refine tX O.look λT J _=>?_;exact iM (PySem.W.kitx_own (r.get _) r.hd L M m N) I.xI J e (λz=>nomatch z) h
end
structure vq(k:Nat)(A:gJ):Prop where
 hd:A.handled=none
 dp:A.depth+3*k+5<rC
 un:A.units+16*k+200<ju
theorem vq.mono{j k:Nat}(r:vq k A)(h:j<=k):vq j A:=⟨r.hd,by have:=r.dp;lia,by have:=r.un;lia⟩
theorem vq.deeper{k:Nat}(r:vq (k+1) A)(a:Env):vq k (A.deeper a) :=
 ⟨r.hd,by have:=r.dp;show A.depth+1+3*k+5<_;lia,by have:=r.un;show A.units+3+16*k+200<_;lia⟩
theorem Iw{A:gJ}{C:ci}{a:List cr}{b:List (Str×cr)}:(A.under<|.builtin "type.__call__" ⟨.ref C::a,b⟩).depth=A.depth+1:=by
 first|rfl|simp[qG,Code.weight,Code.isCreation,Code.isGuard,Code.isCaller,Code.frames,rf,guardIds]
theorem Ix{A:gJ}{C:ci}{a:List cr}{b:List (Str×cr)}:(A.under<|.builtin "type.__call__" ⟨.ref C::a,b⟩).units=A.units+1:=by
 first|rfl|simp[qG,Code.cUnits,Code.frames,rf]
theorem vq.make{k:Nat}(r:vq (k+1) A)(C:ci)(a:List cr)(b:List (Str×cr)):vq k (A.under<|.builtin "type.__call__" ⟨.ref C::a,b⟩) :=
 ⟨r.hd,by have:=r.dp;rw[Iw];lia,by have:=r.un;rw[Ix];lia⟩
theorem vq.depth{k:Nat}(r:vq k A):A.depth<rC:=by have:=r.dp;lia
theorem vq.units{k:Nat}(r:vq k A):A.units+64<ju:=by have:=r.un;lia
def Cc:TA:=λ_ H Q=>Q [] H
def BX(b:TE)(c:TA):TA:=λa H Q=>b a H λx d=>c a d λe f=>Q (x::e) f
section
variable{X:Cx}{e:gA}{es:List gA}{te:TE}{t:TA}{pos:Pos}
theorem uu:PA X [] Cc:=λ_ _ _ _ H Q I h=>jT ⟨[],H,I,.nil,h⟩
theorem ue(d:PE X e te)(f:PA X es t)(g:fG (e::es) X.env=(false,eval e X.env)::fG es X.env:=by rfl):PA X (e::es) (BX te t):=by intro pos a s c H Q I h;rw[g];show fO _ _ (o7 ((false,eval e X.env)::ij pos (fG es X.env))) _ _ s;refine i5<|uL (d a s c H _ I h) λu i b=>ut b λx j k l m=>?_;exact uL (f pos a i c j _ k m) λv w b=>ut b λn o p q r=>⟨x::n,o,p,.cons l q,r⟩
def Zd(t:TA):TE:=λc H Q=>t c H λa b=>a.length<=fK/\∀p,b p=none->Q (.ref p) (upd b p<|.tup a)
def Ze(t:TA):TE:=λc H Q=>t c H λa b=>a.length<=fK/\∀p,b p=none->Q (.ref p) (upd b p<|.lst a)
theorem Nh{g}(h:PA X es t):PE X (.Tuple es g pos) (Zd t):=by intro a s i H Q I j;refine wpAny_Tuple_spliced<|uL (h pos a s i H _ I j) λk c l=>vt l λm d f r z q=>⟨by rw[<- r.length];exact z,?_⟩;have n:d c.heap.objs.size=none:=f.uO.fresh<|fJ _;refine⟨.ref c.heap.objs.size,upd d c.heap.objs.size<|.tup m,f.laid (t':=c.toks) (λb u e=>ce _ e) (fJ _) ?_,rfl,q _ n⟩;exact⟨z,k,r,⟨_,fU _ rfl,rfl,_,rfl⟩⟩
theorem Ni(h:PA X es t):PE X (.List es pos) (Ze t):=by intro a s g H Q I i;refine wpAny_List_spliced<|uL (h pos a s g H _ I i) λj c k=>vt k λl d f r z q=>⟨by rw[<- r.length];exact z,?_⟩;have m:d c.heap.objs.size=none:=f.uO.fresh<|fJ _;refine⟨.ref c.heap.objs.size,upd d c.heap.objs.size<|.lst l,f.laid (t':=c.toks) (λb u e=>ce _ e) (fJ _) ?_,rfl,q _ m⟩;exact⟨z,j,0,r,fU _ rfl⟩
end
abbrev Sp:=List V->Hp->VK->XK->Prop
abbrev LO:=List Env->Hp->fH->XK->cr->fH->Prop
structure GY(P:gf)(w:gu)(K:fB)(mg:Str->Option cr)(base:gE)(A:gJ)(outer:List Env)(s:fH)(H:Hp):Prop where
 frames:A.frames=some outer
 mod:Mod K mg base
 bs:∀b o,base.get? b=some o->s.heap.get? b=some o/\H b=none
 GN:base.objs.size<=s.heap.objs.size
 xz:s.heap.FunFrames base outer
 H0:∀b∈yf outer,H b=none
 uO:wU P w H s.heap
 bare:lX s.gens
def CE(a:List Env)(P:gf)(w:gu)(H:Hp)(s:fH)(Q:VK)(u:cr)(b:fH):Prop :=
 ∃v c,b.os=s.os/\lX b.gens/\Un (yf a) [] H c s.heap b.heap/\wU P w c b.heap/\RelV v u/\Q v c
def CR(c:LO)(a:List Env)(P:gf)(w:gu)(H:Hp)(s:fH)(Q:VK)(E:XK)(r:Result)(b:fH):Prop :=
 match r with
 | .ok (.ret u)=>CE a P w H s Q u b
 | .ok _=>False
 | .error e=>c a H s E e b
structure uE(P:gf)(w:gu)(K:fB)(mg:Str->Option cr)(base:gE)(CX:LO)(k:Nat)(f:ci)(fd:gF)(ps:List Str)(sp:Sp):Prop where
 len:∀vs H Q E,sp vs H Q E->vs.length=ps.length
 run:∀(A:gJ)(outer:List Env)(s:fH)(H:Hp)(args:Args)(us:List cr)(vs:List V)(Q:VK)(E:XK),vq k A->GY P w K mg base A outer s H->rg s fd args (ps.zip us)->Vals vs us->sp vs H Q E ->
  kW (fS P w) A (.call (.ref f) args) (CR CX outer P w H s Q E) s
theorem uE.mono{P:gf}{w:gu}{K:fB}{c:Str->Option cr}{a:gE}{d:LO}{j k:Nat}{f:ci}{e:gF}{g:List Str}{i:Sp}(F:uE P w K c a d j f e g i)(h:j<=k) :
  uE P w K c a d k f e g i:=⟨F.len,λA b s H args l m Q E n=>F.run A b s H args l m Q E<|n.mono h⟩
theorem uE.imp{P:gf}{w:gu}{K:fB}{e:Str->Option cr}{a:gE}{g:LO}{k:Nat}{f:ci}{i:gF}{j:List Str}{l d:Sp}(F:uE P w K e a g k f i j l)
  (h:∀c H Q E,d c H Q E->l c H Q E):uE P w K e a g k f i j d :=
 ⟨λc H Q E q=>F.len c H Q E<|h _ _ _ _ q,λA b s H args m c Q E n o p r t=>F.run A b s H args m c Q E n o p r<|h _ _ _ _ t⟩
theorem GY.make{P:gf}{w:gu}{K:fB}{c:Str->Option cr}{b:gE}{A:gJ}{a:List Env}{s:fH}{H:Hp}(e:GY P w K c b A a s H)(C:ci)(d:List cr)(f:List (Str×cr)) :
  GY P w K c b (A.under<|.builtin "type.__call__" ⟨.ref C::d,f⟩) a s H:=⟨by first|exact e.frames|(simpa[qG,Code.envs,rf,pushEnvs] using e.frames),e.mod,e.bs,e.GN,e.xz,e.H0,e.uO,e.bare⟩
section
variable{X:Cx}{pins:List (ci×Obj)}{σ:St}{H:Hp}{s s':fH}
theorem Inv.GZ(I:Inv X pins σ H s):GY X.prog X.w X.K X.mg X.base X.A X.stack s H :=
 ⟨I.ok.frames,I.ok.mod,I.bs,gZ I.ok.GN I.sz,I.stack,I.Kc,I.uO,I.bare⟩
theorem Inv.after(I:Inv X pins σ H s)(h:CE X.stack X.prog X.w H s Q u s'):EP X pins σ Q u s':=by obtain⟨v,f,i,a,j,c,r,q⟩:=h;obtain⟨k,g,d,t,e⟩:=s';obtain rfl:e=s.os:=i;exact⟨v,f,I.call (h':=k) (g':=g) (d':=d) (t':=t) (ch:=[]) j c a<|λb z=>fY z q0o,r,q⟩
end
def WN(b:Sp)(a:List V)(E:XK)(t:TA):TE:=λc H Q=>t c H λd e=>b (d++a) e Q E
def Eh(C:ci)(m:Str)(f:Sp)(b:List V)(E:XK)(g:TE)(t:TA):TE:=λc H Q=>g c H λx d=>∃a h e,x=.ref a/\d a=some (.ins C h e)/\e.lookup m=none /\
 t c d λi j=>f (x::(i++b)) j Q E
def WO(C:ci)(d:Sp)(b:List V)(E:XK)(t:TA):TE:=λe H Q=>t e H λf c=>∀x a,c x=none->c a=none->a≠x ->
 d (.ref x::(f++b)) (upd (upd c a<|.own x) x<|.ins C a []) (λv g=>v=.vC/\Q (.ref x) g) E
def Binds(K:fB)(d:gF)(b:List Str)(c:List cr):Prop :=
 ∀(s:fH)(a:List cr),K.In s.heap->(a++c).length=b.length->rg s d ⟨a,[]⟩ (b.zip<|a++c)
theorem Binds.all{K:fB}{b:List Str}(h:∀a:List cr,a.length=b.length->rD d ⟨a,[]⟩=pure (b.zip a)):Binds K d b []:=λs a _ c=>by rw[jR] at c ⊢;exact .of_eq<|h a c
def Passes(c:LO)(X:Cx)(E:XK):Prop:=∀(a:List (ci×Obj)) (d:St) (H:Hp) (s:fH) (e:cr) (b:fH),Inv X a d H s->c X.stack H s E e b->X.xe e b
section
variable{X:Cx}{CX:LO}{k:Nat}{f C:ci}{fd:gF}{ps:List Str}{sp:Sp}{Cg:List V}{ds:List cr}{E:XK}{x m:Str}{p pos apos:Pos}{e o:gA}{es:List gA}{ta:TE}{t:TA}
theorem Iy(F:uE X.prog X.w X.K X.mg X.base CX k f fd ps sp)(g:vq k X.A)(i:Binds X.K fd ps ds)(j:Vals Cg ds)(l:Passes CX X E)
 (I:Inv X a c H s)(r:Vals vs us)(h:sp (vs++Cg) H Q E):fO (fS X.prog X.w) X.A (call (.ref f) us) (EP X a c Q) X.xe s:=by
  have d:Vals (vs++Cg) (us++ds):=r.append j
  have n:(us++ds).length=ps.length:=by rw[<- d.length];exact F.len _ _ _ _ h
  refine k8<|iY (F.run X.A X.stack s H ⟨us,[]⟩ (us++ds) (vs++Cg) Q E g I.GZ (i s us I.xI n) d h) λr q b=>?_
  cases r with
  | error e=>exact l a c H s e q I b
  | ok v =>
    cases v with
    | ret u=>exact I.after b
    | next=>exact gB b
    | brk=>exact gB b
    | cont=>exact gB b
theorem QX(F:uE X.prog X.w X.K X.mg X.base CX k f fd ps sp)(g:vq k X.A)(i:Gl X x)(j:X.mg x=some (.ref f))(l:h8 X.K (.ref f)=true)(n:Binds X.K fd ps ds)(u:Vals Cg ds)(v:Passes CX X E)
 (y:PA X (e::es) t) (b:(x==("__debug__":Str))=false:=by decide) (z:fG (e::es) X.env=(false,eval e X.env)::fG es X.env:=by rfl) (c:(ij pos<|fG es X.env).any (·.1)=false:=by rfl) :
    PE X (.Call (.Name x p) (e::es) [] pos) (WN sp Cg E t):=by
  intro a s B H Q I h
  refine js<|yo I i j ?_ b
  refine ov (h₀:=X.base) I.ok.mod.Ao l (uL (y pos a s B H _ I h) λG J D=>ut D λL M d r q=>⟨d.xI,?_⟩) z c
  exact Iy F g n u v d r q
theorem QY(D:PE X o ta)(c:zP X.K C)(n:Meth X.K C m f)(F:uE X.prog X.w X.K X.mg X.base CX k f fd ps sp)(G:vq k X.A)(J:Binds X.K fd ps ds)(L:Vals Cg ds)(M:Passes CX X E)(N:PA X (e::es) t)
 (g:fG (e::es) X.env=(false,eval e X.env)::fG es X.env:=by rfl) (i:(ij pos<|fG es X.env).any (·.1)=false:=by rfl)
 (O:eval (.Call (.Attribute o m apos) (e::es) [] pos) X.env=(do
 let v <- eval o X.env
 lw apos.atName
 let (f,first) <- jz [v] (kH v m P)
 lZ pos f first (ij pos (fG (e::es) X.env)) (lx pos (jA [] X.env))):=by rfl) :
    PE X (.Call (.Attribute o m apos) (e::es) [] pos) (Eh C m sp Cg E ta t):=by
  intro b s y H Q I h
  refine m8 (pl:=P) (uL (D b s y H _ I h) λu R j=>ut j λx S z T d=>xU d λa dx fs U Y l q=>?_) O
  subst U
  obtain rfl:u=fZ a:=T
  refine Af z Y c n l ?_
  refine ov (first:=[.ref a]) (h₀:=X.base) I.ok.mod.Ao n.kp (uL (N pos b R y S _ z q) λZ s2 j=>ut j λvs H2 B r q2=>⟨B.xI,?_⟩) g i
  exact Iy (us:=.ref a::Z) (vs:=.ref a::vs) F G J L M B (.cons rfl r) q2
theorem Nj(n:PE X o ta)(c:zP X.K C)(i:Meth X.K C m f)(F:uE X.prog X.w X.K X.mg X.base CX k f fd ps sp)(r:vq k X.A)(v:Binds X.K fd ps ds)(y:Vals Cg ds)(z:Passes CX X E)
 (B:eval (.Call (.Attribute o m apos) [] [] pos) X.env=(do
 let j <- eval o X.env
 lw apos.atName
 let (f,first) <- jz [j] (kH j m D)
 lZ pos f first (ij pos (fG [] X.env)) (lx pos (jA [] X.env))):=by rfl) :
    PE X (.Call (.Attribute o m apos) [] [] pos) (Eh C m sp Cg E ta Cc):=by
  intro b s G H Q I h
  refine m8 (pl:=D) (uL (n b s G H _ I h) λu O J=>ut J λx P g L d=>xU d λa R S M N l q=>?_) B
  subst M
  obtain rfl:u=fZ a:=L
  refine Af g N c i l ?_
  exact rh (first:=[.ref a]) g.xI i.kp<|Iy (us:=[.ref a]) (vs:=[.ref a]) F r v y z g (.cons rfl .nil) q
structure Mk(K:fB)(C f:ci):Prop where
 makes:pA K C=true
 init:gr K (.ref C) "__init__"=some (some<|.ref f)
 fn:mU K (.ref f)=true
 kp:h8 K (.ref C)=true
theorem Nk(M:Mk X.K C f)(F:uE X.prog X.w X.K X.mg X.base CX k f fd ps sp)(n:vq (k+1) X.A)(q:Binds X.K fd ps ds)(y:Vals Cg ds)
 (z:Passes CX X E) (I:Inv X b g H s) (r:Vals i us)
 (h:∀x c,H x=none->H c=none->c≠x->sp (.ref x::(i++Cg)) (upd (upd H c<|.own x) x<|.ins C c []) (λv B=>v=.vC/\Q (.ref x) B) E) :
    fO (fS X.prog X.w) X.A (call (.ref C) us) (EP X b g Q) X.xe s:=by
  have j:=h (s.heap.objs.size+1) s.heap.objs.size (I.uO.fresh<|kh _) (I.uO.fresh<|fJ _)<|fX<|iA _
  have d:=Inv.made (C:=C) I
  have l:Vals (V.ref (s.heap.objs.size+1)::(i++Cg)) (fZ (s.heap.objs.size+1)::(us++ds)):=.cons rfl<|r.append y
  have D:(fZ (s.heap.objs.size+1)::us++ds).length=ps.length:=by
    have e:=l.length
    rw[F.len _ _ _ _ j] at e
    exact e.symm
  refine k8 (Ng (f:=f) I.xI M.makes M.init (beq_iff_eq.mp M.fn) (iY (F.run _ X.stack _ _ ⟨fZ (s.heap.objs.size+1)::us,[]⟩ (fZ (s.heap.objs.size+1)::(us++ds)) _ _ E (n.make C us [])
    (d.GZ.make C us []) (q _ (fZ (s.heap.objs.size+1)::us) d.xI D) l j) λr G a=>?_))
  cases r with
  | error e=>exact z b g _ _ e G d a
  | ok J =>
    cases J with
    | ret u =>
      refine vt (d.after a) λv L N O P R=>?_
      subst P
      exact⟨O,⟨V.ref<|s.heap.objs.size+1,L,N,rfl,R⟩⟩
    | next=>exact gB a
    | brk=>exact gB a
    | cont=>exact gB a
theorem Nl(M:Mk X.K C f)(F:uE X.prog X.w X.K X.mg X.base CX k f fd ps sp)(c:vq (k+1) X.A)(d:Gl X x)(g:X.mg x=some (.ref C))(i:Binds X.K fd ps ds)(j:Vals Cg ds)(l:Passes CX X E)
 (a:(x==("__debug__":Str))=false:=by decide):PE X (.Call (.Name x p) [] [] pos) (WO C sp Cg E Cc):=by
  intro b s n H Q I h
  refine js<|yo I d g ?_ a
  exact rh I.xI M.kp<|Nk (us:=[]) M F c i j l I .nil h
end
def PK(X:Cx)(b:List oy)(t:TA):Prop :=
 ∀(c:Pos) (a:List (ci×Obj)) (s:fH) (d:St) (H:Hp) (Q:List V->Hp->Prop),Inv X a d H s->t d H Q->fO (fS X.prog X.w) X.A (evalAll ((lx c<|jA b X.env).map (·.2))) (AP X a d Q) X.xe s
structure ug(N P:List Str)(sc:jO):Prop where
 kind:sc.kind=.function
 co:sc.isCoroutine=false
 gen:sc.isGenerator=false
 nd:N.Nodup
 pre:N.take P.length=P
 par:∀x∈P,sc.names.lookup x=some .local\/sc.names.lookup x=some .cell
 UT:∀y∈sc.names,y.2≠.free
theorem Ei{b:Str->Option NameKind}:∀{a:List (Str×cr)} {m:Str->Option cr},(∀v,(x,v)∉a)->sH b a m x=m x
 | [],_,_=>rfl
 | (n,v)::r,m,h=>by
  unfold sH;rw[Ei λw c=>h w<|fP _ c];split
  ·have:x≠n:=by rintro rfl;exact h v fM
   simp[this]
  ·rfl
theorem Ej{b:Str->Option NameKind}:∀{a:List (Str×cr)} {m:Str->Option cr},(∀v,(x,v)∉a)->sI b a m x=m x
 | [],_,_=>rfl
 | (n,v)::r,m,h=>by
  unfold sI;rw[Ej λw c=>h w<|fP _ c];split
  ·rfl
  ·have:x≠n:=by rintro rfl;exact h v fM
   simp[this]
theorem LP{a:Str->Option NameKind}:∀{P:List Str} {b:List cr} {i:Nat} {m:Str->Option cr},P.Nodup->P[i]?=some x->b[i]?=some v->a x=some .local ->
  sH a (P.zip b) m x=some v:=by
 intro P
 induction P with
 | nil=>intro _ _ _ _ h;simp at h
 | cons p P g =>
  intro b i m e d c f
  cases b with
  | nil=>simp at c
  | cons w b =>
  cases i with
  | zero =>
   simp at d c;subst d;subst c;show sH a ((p,w)::P.zip b) m p=_;unfold sH;rw[Ei λv j=>(List.nodup_cons.mp e).1 (nI j).1,fE f];simp
  | succ i =>
   show sH a ((p,w)::P.zip b) m x=_;unfold sH;exact g (i:=i) (List.nodup_cons.mp e).2 (by simpa using d) (by simpa using c) f
theorem LQ{a:Str->Option NameKind}:∀{P:List Str} {b:List cr} {i:Nat} {m:Str->Option cr},P.Nodup->P[i]?=some x->b[i]?=some v->a x≠some .local ->
  sI a (P.zip b) m x=some v:=by
 intro P
 induction P with
 | nil=>intro _ _ _ _ h;simp at h
 | cons p P g =>
  intro b i m e d c f
  cases b with
  | nil=>simp at c
  | cons w b =>
  cases i with
  | zero =>
   simp at d c;subst d;subst c;show sI a ((p,w)::P.zip b) m p=_;unfold sI;rw[Ej λv j=>(List.nodup_cons.mp e).1 (nI j).1,fF f];simp
  | succ i =>
   show sI a ((p,w)::P.zip b) m x=_;unfold sI;exact g (i:=i) (List.nodup_cons.mp e).2 (by simpa using d) (by simpa using c) f
def start(N:List Str)(a:List V):St:=a.map some++jD (N.length-a.length) none
def uR(CX:LO)(P:gf)(w:gu)(K:fB)(mg:Str->Option cr)(base:gE)(N:List Str)(qual:Str)(scope:jO)(f:ci)(cd:cr)(A:gJ)(outer:List Env)(s:fH)(H:Hp)(E:XK):Cx where
 prog:=P
 w:=w
 K:=K
 mg:=mg
 base:=base
 A:=A.deeper<|m7 qual scope s.heap.objs.size f cd
 N:=N
 s₀:=s
 H₀:=H
 env:=m7 qual scope s.heap.objs.size f cd
 outer:=outer
 stack:=m7 qual scope s.heap.objs.size f cd::outer
 ex:=[]
 calm:=true
 fn:=λ_=>true
 pn:=[]
 xe:=λe s'=>fO (fS P w) (A.deeper<|m7 qual scope s.heap.objs.size f cd) (qc (m7 qual scope s.heap.objs.size f cd) e) (λ_ QZ=>CX outer H s E e QZ) (λe' QZ=>CX outer H s E e' QZ) s'
theorem G0{a:jO}{n:Nat}(h:a.names.lookup x=some .cell):∃c,(cellsFrom n a.names []).lookup x=some c:=by have q:=qv a.names n []<|.inl h;exact Option.isSome_iff_exists.mp q
theorem LR{K:fB}{A:gJ}{o:List V}
 (S:ug N C d) (R:A.handled=none) (m:GY P w K L base A j s H) (hl:o.length=C.length) (r:Vals o M)
 (x:InCallC s s.heap.objs.size (sH (m7 l d s.heap.objs.size f J).kindOf (C.zip M) λ_=>none) (cellsFrom (s.heap.objs.size+1) d.names []) (sI (m7 l d s.heap.objs.size f J).kindOf (C.zip M) λ_=>none) T) :
    Inv (uR U P w K L base N l d f J A j s H E) [] (start N o) H T:=by
  have X:C.length<=N.length:=by have:=congrArg mG S.pre;rw[kj] at this;lia
  obtain⟨G,tk,rfl,O⟩:=x.done
  have t:∀b:ci,b∉(uR U P w K L base N l d f J A j s H E).ex:=λb z=>fY (show b∈([]:List ci) from z) q0o
  refine⟨⟨m.mod,S.kind,rfl,rfl,fJ _,λy z c G g=>?_,λy B=>?_,λy c _ h=>?_,λ_=>R,rj m.frames,.inr ⟨rfl,rfl⟩,λb z=>fY z (t b),m.bs,m.GN,λb _ _=>t b,λb z=>fY z (t b),m.xz,m.H0⟩,
    rfl,m.bare,Un.kept O,⟨_,x.toInCall.ns,λi y v G g h3=>?_⟩,λy c h=>⟨_,x.cell y c h⟩,m.uO.fresh (fJ _),λy c h=>?_,λp D=>fY (show p∈([]:List (ci×Obj)) from D) q0o,m.uO.kept O,?_⟩
  · exact name_of_addr x.apart (jc G)<|jc g
  · have B : d.names.lookup y = some .cell \/ d.names.lookup y = some .free := B
    rcases B with B|B
    · exact G0 B
    · exact fY rfl<|S.UT _<|jc B
  · exact kq<|x.above y c<|jc h
  · have I : i<o.length := by
      unfold start at g
      by_cases I:i<o.length
      · exact I
      · rw[iW<|by simpa using I] at g
        rw[qV] at g
        split at g<;>cases g
    have Y:o[i]?=some v:=by
      unfold start at g
      rw[ku (by simpa using I),iK] at g
      cases e:o[i]? with
      | none=>rw[e] at g;cases g
      | some a=>rw[e] at g;cases g;rfl
    refine tX (r.get Y) λu Q Z=>?_
    have D:C[i]?=some y:=by
      rw[<- S.pre,qH q0a];exact G
    have F:C.Nodup:=by rw[<- S.pre];exact S.nd.sublist<|tj _ _
    refine⟨u,Z,?_⟩
    rcases S.par y (iP D) with k|k
    · exact .inl ⟨k, LP F D Q k⟩
    · obtain⟨c, e⟩ := G0 (n := s.heap.objs.size+1) k
      refine .inr ⟨.inl k,c,e,?_⟩
      have q:=x.cell y c e
      rw[LQ F D Q<|by show d.names.lookup y≠_;rw[k];decide] at q
      exact q
  · exact m.uO.fresh<|kq<|x.above y c<|jc h
  · unfold start
    show _=N.length
    rw[fV,fN,rE]
    lia
theorem G4{K:fB}{k:Nat}{Z:cr} 
 (lk:K.lookup f=some ⟨oc,od,.func<|iG name d h body a dV Z G pm an g ct,aa⟩) (L:iu K g d=true) (S:ug N M a)
 (B:∀i H Q E,sp i H Q E->i.length=M.length)
 (m:∀(A:gJ)(c:List Env)(s:fH)(H:Hp)(i:List V)(Q:VK)(E:XK),vq k (A.deeper (m7 d a s.heap.objs.size f g))->sp i H Q E ->
 ∃t,DT (uR O P w K R base N d a f g A c s H E) body t/\t { nx:=λ_ l=>Q .vC l,rt:=Q} (start N i) H) :
    uE P w K R base O (k+1) f (iG name d h body a dV Z G pm an g ct) M sp:=by
  refine⟨B,λA c s H args us i Q E T C hb r D=>?_⟩
  have hl:=B _ _ _ _ D
  have KX:K.In s.heap:=C.mod.Ao.keeps λb o e=>(C.bs b o e).1
  have U:s.heap.NoLimit:=C.mod.nolimit.keeps λb o e=>(C.bs b o e).1
  have p:∀y∈M.zip us,a.names.lookup y.1=some .local\/(a.names.lookup y.1=some .cell/\((cellsFrom (s.heap.objs.size+1) a.names []).lookup y.1).isSome=true):=λ⟨n,v⟩ hy=>by
    rcases S.par n (nI hy).1 with q|q
    · exact .inl q
    · exact .inr ⟨q, qv _ _ _<|.inl q⟩
  refine codeAny_call_function T.depth (KX _ _ lk) rfl S.co S.gen rfl (rF KX L)<|hb _ _ _ _ ?_
  refine wpAny_newFunctionEnv_cells S.kind p λab he s1 x=>?_
  subst he
  refine⟨U.keeps x.toInCall.keep,codeAny_func ?_⟩
  refine tX (m A c s H i Q E (T.deeper _) D) λt ht hq=>?_
  have I:Inv (uR O P w K R base N d a f g A c s H E) [] (start N i) H s1:=LR S T.hd C hl r x
  refine hJ (ht [] s1 (start N i) H _ I hq) (λfl X z=>?_) λe X z=>z
  have F:∀{j:St} {l:Hp} {v:V} {u:cr},Inv (uR O P w K R base N d a f g A c s H E) [] j l X->RelV v u->Q v l->CE c P w H s Q u X :=
    λ{j l v u} J Y q=>⟨v,l,J.os,J.bare,J.base,J.uO,Y,q⟩
  cases fl with
  | ret u =>
    obtain⟨v,j,l,J,Y,q⟩:=z
    exact F J Y q
  | next =>
    refine vS z λj l J q=>?_
    exact F (v:=V.vC) (u:=Value.none) J rfl q
  | brk =>
    refine vS z λ_ _ _ q=>?_
    exact gB q
  | cont =>
    refine vS z λ_ _ _ q=>?_
    exact gB q
section
variable{X:Cx}{x:Str}{p pos:Pos}{e:gA}{es:List gA}{t:TA}{id T:String}{r:List V->Hp->VK->Prop}
def Zf(r:List V->Hp->VK->Prop)(t:TA):TE:=λa H Q=>t a H λb c=>r b c Q
theorem vW(d:xJ X (.builtin id) r)(f:Gl X x)(g:X.mg x=none)(i:lv x=some (.builtin id))(j:PA X (e::es) t)(k:x≠"__name__":=by decide)(b:(x==("__debug__":Str))=false:=by decide)
 (he:fG (e::es) X.env=(false,eval e X.env)::fG es X.env:=by rfl) (hpl:(ij pos<|fG es X.env).any (·.1)=false:=by rfl):PE X (.Call (.Name x p) (e::es) [] pos) (Zf r t):=by
  intro a s c H Q I h
  refine js<|yS I f g i ?_ k b
  exact oj (uL (j pos a s c H _ I h) λl m n=>ut n λo q u v w=>d a m c q o l Q u v w) he hpl
theorem wD(f:xJ X (.type T) r)(g:Gl X x)(i:X.mg x=none)(j:lv x=some (.type T))(k:PA X (e::es) t)(l:x≠"__name__":=by decide)(b:(x==("__debug__":Str))=false:=by decide)
 (he:fG (e::es) X.env=(false,eval e X.env)::fG es X.env:=by rfl) (c:(ij pos<|fG es X.env).any (·.1)=false:=by rfl):PE X (.Call (.Name x p) (e::es) [] pos) (Zf r t):=by
  intro a s d H Q I h
  refine js<|yS I g i j ?_ l b
  exact jG (uL (k pos a s d H _ I h) λm n o=>ut o λq u v w y=>f a n d u q m Q v w y) he c
theorem Iz(c:xJ X (.type T) r)(d:Gl X x)(f:X.mg x=none)(g:lv x=some (.type T))(i:x≠"__name__":=by decide)(b:(x==("__debug__":Str))=false:=by decide) :
  PE X (.Call (.Name x p) [] [] pos) (Zf r Cc):=by
 intro a s j H Q I h;refine js<|yS I d f g ?_ i b;exact PyProof.Rows.callWith_type0<|c a s j H [] [] Q I .nil h
end
end L2
namespace HT
open PySem PyProof.Rows
section
variable{prog:gf}{w:gu}{A:gJ}{E:cr->fH->Prop}{s:fH}
def v6(n d:Nat):Option Int->Nat
 | none=>d
 | some v=>if v<0 then (v+(n:Int)).toNat else min v.toNat n
theorem G6(n d:Nat):v6 n d none=d:=rfl
theorem Kk(n d k:Nat):v6 n d (some (k:Int))=min k n:=by show (if (k:Int)<0 then ((k:Int)+(n:Int)).toNat else min (k:Int).toNat n)=min k n;rw[fF q0a,i9]
theorem UU(n d:Nat)(b:d<=n)(o:Option Int):v6 n d o<=n:=by
 cases o with
 | none=>exact b
 | some v =>
  show (if v<0 then (v+(n:Int)).toNat else min v.toNat n)<=n;by_cases a:v<0
  ·rw[fE a];lia
  ·rw[fF a];exact Nat.min_le_right _ _
theorem Kl(v:Int)(n d:Nat):(if v<0 then max (v+(n:Int)) 0 else min v (n:Int))=((v6 n d (some v):Nat):Int):=by
 show (if v<0 then max (v+(n:Int)) 0 else min v (n:Int))=(((if v<0 then (v+(n:Int)).toNat else min v.toNat n):Nat):Int);by_cases a:v<0
 ·simp only[fE a];lia
 ·simp only[fF a];lia
theorem IA(lo a:Option Int)(n:Nat):lA lo a 1 (n:Int)=(((v6 n 0 lo:Nat):Int),((v6 n n a:Nat):Int)):=by
 have b:¬((1:Int)<0):=by lia
 unfold lA;simp only[b,mV];refine Prod.ext ?_ ?_
 ·cases lo with
  | none=>rfl
  | some v=>exact Kl v n 0
 ·cases a with
  | none=>rfl
  | some v=>exact Kl v n n
theorem IB(i j:Nat):jS (i:Int) (j:Int) 1=j-i:=by
 unfold jS;have a:(1:Int)>0:=by lia
 simp only[a,oz,Int.ediv_one];split<;>lia
theorem CQ(p:oV v o)(h:Q o s):fO (fS prog w) A (Builtin.Slice.slicePartIndex v) Q E s:=by
 cases p with
 | none=>exact slicePart_none h
 | int i t=>exact slicePart_int h
theorem xV{lo:Option Int}{n:Nat}(f:s.heap.IsSliceOf g d e .none)(i:oV d lo)(j:oV e c)
 (h:Q (((v6 n 0 lo:Nat):Int),1,v6 n n c-v6 n 0 lo) s):fO (fS prog w) A (oP (.ref g)<|pure (n:Int)) Q E s:=by
  refine ux (id f) λos a k b=>?_
  unfold oP Builtin.Slice.sliceFields
  refine am<|am<|hL a b (x:=d) rfl<|am<|hL a b (x:=e) rfl<|am<|hL a b (x:=.none) rfl<|ap ?_
  refine am<|slicePart_none ?_
  show fO _ _ (if ((1:Int)==0)=true then _ else _) _ _ s
  rw[fF q0q]
  refine am<|CQ i<|am<|CQ j<|am<|ap ?_
  show fO _ _ (match lA lo c 1 (n:Int) with|(lo,c)=>pure (lo,(1:Int),jS lo c 1)) _ _ s
  rw[IA lo c n]
  show fO _ _ (pure (((v6 n 0 lo:Nat):Int),(1:Int),jS ((v6 n 0 lo:Nat):Int) ((v6 n n c:Nat):Int) 1)) _ _ s
  rw[IB]
  exact ap h
theorem Nm(a:Array cr)(i k:Nat):((gl k).filterMap λ(m:Nat)=>a[((i:Int)+(m:Int)*1).toNat]?).toArray=((a.toList.drop i).take k).toArray:=by
 have e:(λ(m:Nat)=>a[((i:Int)+(m:Int)*1).toNat]?)=λm=>a[i+m]?:=by
  funext m
  have:((i:Int)+(m:Int)*1).toNat=i+m:=by lia
  rw[this]
 rw[e];have:=pick_run a i k;rw[sJ] at this;have b:((λx=>a[x]?)∘λx=>i+x)=λm=>a[i+m]?:=rfl;rw[b] at this;rw[this]
theorem Au{t sl:ci}{items:Array cr}{vl vu:cr}{lo hi:Option Int}{Q:cr->fH->Prop}(ht:IsTup s.heap t items)(hs:s.heap.IsSliceOf sl vl vu .none)(pl:oV vl lo)(pu:oV vu hi)
  (hw:¬(v6 items.size 0 lo=0/\v6 items.size items.size hi=items.size))
  (h:Q (.ref s.heap.objs.size) { s with heap:=s.heap.push { cls:=.type "tuple",data:=.seq ((items.toList.drop<|v6 items.size 0 lo).take<|v6 items.size items.size hi-v6 items.size 0 lo).toArray}})
  (hsz:items.size<=fK):fO (fS prog w) A (mF (.ref t)<|.ref sl) Q E s:=by
 have Km:sizeOk (.seq ((items.toList.drop<|v6 items.size 0 lo).take<|v6 items.size items.size hi-v6 items.size 0 lo).toArray):=by show ((items.toList.drop<|v6 items.size 0 lo).take<|v6 items.size items.size hi-v6 items.size 0 lo).toArray.size<=fK;rw[fW,kj,lq,fR];omega
 have hj:v6 items.size items.size hi<=items.size:=UU _ _ (fJ _) hi;refine ux (id hs) λos hos hcs hds=>?_;have hTs:s.TypeIs (.ref sl) "slice":=⟨os,hos,hcs⟩;unfold mF
 try with_reducible refine gC ?_
 first|refine am (ap ?_)|skip
 refine am<|wpAny_sequenceKey ht.typeIs q0q ?_
 refine am (wpAny_callSpecial?_slot (name:=ky "__getitem__") ht.typeIs jl
  (gR jl ht.typeIs entry_tuple_getitem ?_ (args_tuple_getitem _ _)))
 show fO _ _ (oQ (.ref t) >>= _) _ _ s;refine am<|tupleItemsOf_ ht ?_;refine am<|jB hTs ?_;rw[fE q0q];refine am<|xV hs pl pu ?_
 have hno:¬((((v6 items.size 0 lo:Nat):Int)==0&&(1:Int)==1&&(v6 items.size items.size hi-v6 items.size 0 lo)==items.size)=true):=by intro q;rw[gK,gK] at q;have q1:((v6 items.size 0 lo:Nat):Int)=0:=eq_of_beq q.1.1;have q2:v6 items.size items.size hi-v6 items.size 0 lo=items.size:=eq_of_beq q.2;exact hw ⟨q0d,q0d⟩
 show fO _ _ (if (((v6 items.size 0 lo:Nat):Int)==0&&(1:Int)==1&&(v6 items.size items.size hi-v6 items.size 0 lo)==items.size)=true then _ else _) _ _ s;rw[fF hno,Nm]
 first
  | exact am (m:=jX _)<|gN (ap ⟨_,rfl,ap h⟩) Km
  | exact am (m:=jX _)<|gN (am<|ap<|ap ⟨_,rfl,ap h⟩) Km
  | exact am<|am (m:=jX _)<|gN (ap<|ap ⟨_,rfl,ap h⟩) Km
  | exact am<|am (m:=jX _)<|gN (ap ⟨_,rfl,ap h⟩) Km
end
end HT
namespace L2
open PySem PySem.Spec PyProof.Rows
abbrev TO:=St->Hp->(Option Int->Hp->Prop)->Prop
def PO(X:Cx)(e:Option gA)(t:TO):Prop :=
 ∀(a:List (ci×Obj)) (s:fH) (b:St) (H:Hp) (Q:Option Int->Hp->Prop),Inv X a b H s->t b H Q ->
  fO (fS X.prog X.w) X.A (evalPart e X.env) (λu d=>∃o c,Inv X a b c d/\oV u o/\Q o c) X.xe s
def Q0:TO:=λ_ H Q=>Q none H
def WP(t:TE):TO:=λa H Q=>t a H λx b=>∃i,x=.int i/\Q (some i) b
theorem intsAre_of{a:List Int}:∀{b:List cr},Vals (a.map V.int) b->jL b a:=by
 induction a with
 | nil=>intro b r;rw[ny] at r;cases r;exact .nil
 | cons n a c =>
  intro b r;rw[gn] at r
  cases r with
  | cons d f =>
   obtain⟨t,e⟩:=d;subst e;exact .cons n t<|c f
section
variable{X:Cx}{e:gA}{te:TE}{lo hi:Option gA}{tl th:TO}{pos p2:Pos}
theorem Ci:PO X none Q0:=by intro a s b H Q I h;rw[su];exact ap ⟨none,H,I,.none,h⟩
theorem Cj(h:PE X e te):PO X (some e) (WP te):=by intro a s b H Q I c;rw[evalPart_some];refine uL (h a s b H _ I c) λu l d=>ut d λx f g j k=>?_;obtain⟨i,rfl,q⟩:=k;obtain⟨t,rfl⟩:=j;exact⟨some i,f,g,.int i t,q⟩
def TU(X:Cx)(r:V->Option Int->Option Int->Hp->VK->Prop):Prop :=
 ∀(a:List (ci×Obj)) (s:fH) (b:St) (H:Hp) (x:V) (v c d:cr) (lo hi:Option Int) (f:ci) (Q:VK),Inv X a b H s->RelV x v->s.heap.IsSliceOf f c d .none->oV c lo->oV d hi->r x lo hi H Q ->
  ∃T g,k9 (.type T) "__getitem__"=pure (some<|.builtin g)/\s.TypeIs v T/\fO (fS X.prog X.w) X.A (mF v<|.ref f) (EP X a b Q) X.xe s
theorem TU.or(h:TU X r)(l:TU X m):TU X (λx lo hi H Q=>r x lo hi H Q\/m x lo hi H Q):=by
 intro a s b H x v c d lo hi f Q I g i j k q;rcases q with q|q
 ·exact h a s b H x v c d lo hi f Q I g i j k q
 ·exact l a s b H x v c d lo hi f Q I g i j k q
def tSl(r:V->Option Int->Option Int->Hp->VK->Prop)(te:TE)(tl th:TO):TE:=λa H Q=>te a H λx b=>tl a b λl c=>th a c λu d=>r x l u d Q
theorem yY(k:TU X r)(m:PE X e te)(n:PO X lo tl)(o:PO X hi th):PE X (.Subscript e (.Slice lo hi none p2) pos) (tSl r te tl th):=by intro a s d H Q I h;refine rG<|uL (m a s d H _ I h) λv p f=>ut f λx t y z B=>?_;refine wpAny_Slice<|uL (n a p d t _ y B) λg C f=>ut f λl D E F G=>uL (o a C d D _ E G) λi c f=>ut f λu j J K L=>?_;rw[su];refine ap ?_;have M:Inv X a d j { c with heap:=c.heap.push { cls:=.type "slice",data:=.fields #[g,i,.none]}}:=J.kept (t':=c.toks) λb R q=>ce _ q;obtain⟨T,S,N,O,P⟩:=k a { c with heap:=c.heap.push { cls:=.type "slice",data:=.fields #[g,i,.none]}} d j x v g i l u c.heap.objs.size Q M z (pV ..) F K L;show fO (fS X.prog X.w) X.A (subscriptTail e (.Slice lo hi none p2) v<|.ref c.heap.objs.size) (EP X a d Q) X.xe { c with heap:=c.heap.push { cls:=.type "slice",data:=.fields #[g,i,.none]}};exact tail_any (ops:=[.ref c.heap.objs.size,v]) O N P (by with_unfolding_all rfl)
def CS(a:List V)(lo hi:Option Int):List V:=(a.drop<|HT.v6 a.length 0 lo).take<|HT.v6 a.length a.length hi-HT.v6 a.length 0 lo
theorem BY(a:List V)(lo hi:Option Int):(CS a lo hi).length<=a.length:=by unfold CS;rw[kj,lq];omega
def Zg(K:fB):V->Option Int->Option Int->Hp->VK->Prop:=λx lo hi H Q=>∃a b,x=.ref a/\yg K H a b /\
 ¬(HT.v6 b.length 0 lo=0/\HT.v6 b.length b.length hi=b.length)/\∀p,H p=none->Q (.ref p) (upd H p<|.tup<|CS b lo hi)
theorem UV:TU X (Zg X.K):=by
 intro g s u H x v w y lo hi z Q I k l m n h;obtain⟨a,d,rfl,p,t,q⟩:=h;cases k;refine ux (I.tuple p) λf r i j=>?_;have c:f.toArray.size=d.length:=by rw[fW];exact r.length.symm
 refine⟨"tuple",_,PyProof.Rows.slot_tuple_getitem.lookup,i.typeIs,?_⟩;refine HT.Au i l m n (by rw[c];exact t) ?_ (by rw[c];exact j);rw[c];refine⟨.ref s.heap.objs.size,_,I.laid (t':=s.toks) (o:=.tup<|CS d lo hi) (λb A q=>ce _ q) (fJ _) ?_,rfl,q _<|I.uO.fresh<|fJ _⟩;exact⟨gZ (BY d lo hi) j,_,(r.drop<|HT.v6 d.length 0 lo).take<|HT.v6 d.length d.length hi-HT.v6 d.length 0 lo,IsTup.new _ _⟩
end
def TV(n:Nat)(i:Int):Option Nat:=if 0<=i then (if i<n then some i.toNat else none) else if -(n:Int)<=i then some (i+n).toNat else none
def EX{a:Type}(b:List a)(i:Int):Option a:=(TV b.length i).bind λj=>b[j]?
theorem Ko{n:Nat}{i:Int}{j:Nat}(h:TV n i=some j):seqIndex? i n=some j/\j<n/\-(n:Int)<=i/\i<n:=by
 unfold TV at h;by_cases b:0<=i
 ·rw[fE b] at h;by_cases a:i<n
  ·rw[fE a] at h;have e:i.toNat=j:=gV h;exact⟨by rw[seqIndex_of b a,e],q0a,q0a,a⟩
  ·rw[fF a] at h;cases h
 ·rw[fF b] at h;by_cases a:-(n:Int)<=i
  ·rw[fE a] at h;have e:(i+n).toNat=j:=gV h;exact⟨by rw[tm q0a a,e],q0a,a,q0a⟩
  ·rw[fF a] at h;cases h
theorem Kq{α:Type}{xs:List α}{i:Int}{v:α}(h:EX xs i=some v):∃j,seqIndex? i xs.length=some j/\xs[j]?=some v/\j<xs.length/\-(xs.length:Int)<=i/\i<xs.length:=by
 unfold EX at h
 cases e:TV xs.length i with
 | none=>rw[e] at h;cases h
 | some j =>
  rw[e] at h;obtain⟨h1,h2,h3,h4⟩:=Ko e;exact⟨j,h1,h,h2,h3,h4⟩
theorem Ks{α:Type}{xs:List α}{j:Nat}{v:α}(h:xs[j]?=some v):EX xs (j:Int)=some v:=by
 have hj:j<xs.length:=(List.getElem?_eq_some_iff.mp h).1
 have e:TV xs.length (j:Int)=some j:=by unfold TV;rw[fE q0a,fE q0a];simp
 unfold EX;rw[e];exact h
def Kt(b:gA):Prop:=∀o i,qI b false o i=operate [o,i] (mF o i)
def Zh(X:Cx)(r:R2):Prop :=
 ∀(c a:gA) (b:List (ci×Obj)) (s:fH) (d:St) (H:Hp) (x y:V) (v u:cr) (Q:VK),Inv X b d H s->RelV x v->RelV y u->r x y H Q ->
  qI a false v u=operate [v,u] (mF v u)->fO (fS X.prog X.w) X.A (subscriptTail c a v u) (EP X b d Q) X.xe s
def MtR(X:Cx)(e:String)(r:V->List V->Hp->VK->Prop):Prop :=
 ∀(a:List (ci×Obj)) (s:fH) (b:St) (H:Hp) (x:V) (c:List V) (v:cr) (d:List cr) (Q:VK),Inv X a b H s->RelV x v->Vals c d->r x c H Q ->
  fO (fS X.prog X.w) X.A (call (.builtin e) (v::d)) (EP X a b Q) X.xe s
section
variable{X:Cx}{a b:gA}{ta tb:TE}{pos:Pos}
theorem xh(d:Zh X r)(e:PE X a ta)(f:PE X b tb)(g:Kt b):PE X (.Subscript a b pos) (Wk r ta tb):=by intro c s i H Q I h;exact rG<|UL e f I h λv u j x y k l m n q=>d a b c j i k x y v u Q l m n q<|g _ _
def Zi(K:fB):R2:=λx y H Q=>∃p c i v,x=.ref p/\y=.int i/\vn K H p c/\EX c i=some v/\Q v H
def Zj(K:fB):R2:=λx y H Q=>∃p c i v,x=.ref p/\y=.int i/\yg K H p c/\EX c i=some v/\Q v H
theorem vM:Zh X (Zi X.K):=by
 intro value slice c s l H x y v u Q I A B h m;obtain⟨p,M,i,z,rfl,rfl,C,D,q⟩:=h;cases A;obtain⟨t,rfl⟩:=B;refine ux (I.list C) λe r f N=>?_;obtain⟨j,d,E,O,F,G⟩:=Kq D;refine tX (r.get E) λw n g=>?_;have J:=r.length;have P:=Bh;have fin:EP X c l Q w s:=⟨z,H,I,g,q⟩;by_cases o:0<=i
 ·have k:i.toNat=j:=by rw[seqIndex_of o G] at d;exact gV d
  exact item_listR f.isList o q0a (by rw[k];simpa using n) fin m
 ·have k:(i+(e.toArray.size:Int)).toNat=j:=by rw[tm q0a F] at d;rw[fW,<- J];exact gV d
  exact tq (x:=w) f.isList.typeIs slot_list_getitem.lookup
   (wpAny_getItem_list_neg (Q:=λr L=>r=w/\EP X c l Q r L) f.isList q0a (by rw[fW]<;>lia) q0a (by rw[k];simpa using n) ⟨rfl,fin⟩) m
theorem Nn:Zh X (Zj X.K):=by
 intro value slice c s e H x y v u Q I g k h l;obtain⟨p,F,i,z,rfl,rfl,m,n,q⟩:=h;cases g;obtain⟨t,rfl⟩:=k;refine ux (I.tuple m) λo r f G=>?_;obtain⟨j,A,B,J,L,M⟩:=Kq n;refine tX (r.get B) λw C d=>?_;have D:=r.length;have N:=Bh;have fin:EP X c e Q w s:=⟨z,H,I,d,q⟩
 exact tq (x:=w) f.typeIs slot_tuple_getitem.lookup
  (getItem_tuple (j:=j) (Q:=λr E=>r=w/\EP X c e Q r E) f q0a q0a (by rw[fW,<- D];exact A) (by simpa using C) ⟨rfl,fin⟩) l
theorem IC(c:List cr)(n j:Nat)(u:cr):Obj.mapSeq (·.setIfInBounds j u) { cls:=.type "list",data:=.seq c.toArray n}={ cls:=.type "list",data:=.seq (c.set j u).toArray n}:=by simp[Obj.mapSeq]
theorem Inv.lst(I:Inv X d g H s)(h:H p=some (.lst f)) :
  ∃(c:List cr)(n:Nat),Vals f c/\s.heap.get? p=some { cls:=.type "list",data:=.seq c.toArray n}/\f.length<=fK:=by
 obtain⟨z,c,n,r,e⟩:=I.uO p _ h;exact⟨c,n,r,e,z⟩
theorem Inv.UW{d c:List cr}{n i:Nat}(I:Inv X g l H s)(h:H p=some (.lst w))
 (m:s.heap.get? p=some { cls:=.type "list",data:=.seq d.toArray n}) (j:f { cls:=.type "list",data:=.seq d.toArray n}={ cls:=.type "list",data:=.seq c.toArray i}) (r:Vals k c) (o:k.length<=fK) (t:Nat) :
    Inv X g l (upd H p<|.lst k) { s with heap:=s.heap.update p f,toks:=t}:=by
  have e:(s.heap.update p f).get? p=some { cls:=.type "list",data:=.seq c.toArray i}:=by
    rw[gP f m (by rw[j]<;>rfl),j]
  refine I.write (x:=p) (e:=p) (by rw[h];trivial) (.inl rfl) (λb u v q=>(gG _ _<|Ne.symm v).trans q) ⟨_,e⟩ ?_
  exact⟨o,c,i,r,e⟩
def WQ:V->V->V->Hp->(Hp->Prop)->Prop:=λo i v H Q=>∃p c k j,o=.ref p/\i=.int k/\H p=some (.lst c)/\TV c.length k=some j/\Q (upd H p<|.lst<|c.set j v)
theorem set_list:UE X WQ:=by
 intro c s A H o i v J K u Q I B C D h;obtain⟨p,E,k,j,rfl,rfl,m,F,q⟩:=h;cases B;obtain⟨t,rfl⟩:=C;obtain⟨d,n,r,f,G⟩:=I.lst m;obtain⟨e,L,w,x⟩:=Ko F;have g:=r.length;have M:=Bh
 have y:Inv X c A (upd H p<|.lst<|E.set j v) { s with heap:=s.heap.update p (Obj.mapSeq (·.setIfInBounds j u))} :=
  I.UW m f (IC d n j u) (r.set D j) (by rw[kI];exact G) s.toks
 by_cases z:0<=k
 ·have l:k.toNat=j:=by rw[seqIndex_of z x] at e;exact gV e
  exact PySem.W.ki_setAt f z q0a (by rw[fW,<- g];exact x) (by rw[l];exact⟨_,y,q⟩)
 ·have l:(k+(d.toArray.size:Int)).toNat=j:=by rw[tm q0a w] at e;rw[fW,<- g];exact gV e
  exact PySem.W.ki_setBack f q0a (by rw[fW,<- g];exact w) q0a (by rw[l];exact⟨_,y,q⟩)
theorem EY(c d:Option Int)(n:Nat):(l6 c d none n).1=((HT.v6 n 0 c:Nat):Int)/\(l6 c d none n).2.1=((HT.v6 n n d:Nat):Int)/\(l6 c d none n).2.2=1:=by
 refine⟨?_,?_,rfl⟩
 ·cases c with
  | none=>simp[l6,HT.v6]
  | some i =>
   simp only[l6,HT.v6,o8,show (1:Int)>0 by decide,oz];by_cases h:i<0
   ·simp only[h,oz]<;>lia
   ·simp only[h,mV]<;>lia
 ·cases d with
  | none=>simp[l6,HT.v6]
  | some i =>
   simp only[l6,HT.v6,o8,show (1:Int)>0 by decide,oz];by_cases h:i<0
   ·simp only[h,oz]<;>lia
   ·simp only[h,mV]<;>lia
theorem DV(c:List cr)(d e:Option Int):slicePick c.toArray d e none=((c.drop<|HT.v6 c.length 0 d).take<|HT.v6 c.length c.length e-HT.v6 c.length 0 d).toArray:=by refine yi (EY d e c.toArray.size) λf g h=>?_;unfold slicePick;rw[f,g,h];simp only[sliceRange_one,pick_run,fW]<;>rfl
def Zk(K:fB):V->Option Int->Option Int->Hp->VK->Prop:=λx d e H Q=>∃a c,x=.ref a/\vn K H a c/\∀p,H p=none->Q (.ref p) (upd H p<|.lst<|CS c d e)
theorem Ck:TU X (Zk X.K):=by intro g s u H x v w y e f z Q I j k l m h;obtain⟨a,c,rfl,n,q⟩:=h;cases j;refine ux (I.list n) λp r i t=>?_;have d:=r.length;refine⟨"list",_,slot_list_getitem.lookup,i.isList.typeIs,?_⟩;refine sv i.isList k l m .none q0o ?_ (by rw[fW]<;>lia);rw[DV,<- d];refine⟨.ref s.heap.objs.size,_,I.laid (t':=s.toks) (o:=.lst<|CS c e f) (λb A q=>ce _ q) (fJ _) ?_,rfl,q _<|I.uO.fresh<|fJ _⟩;exact⟨gZ (BY c e f) t,_,0,(r.drop<|HT.v6 c.length 0 e).take<|HT.v6 c.length c.length f-HT.v6 c.length 0 e,fU _ rfl⟩
def Av:V->Bool
 | .vC=>true
 | .bl _=>true
 | .int _=>true
 | .str _=>true
 | _=>false
def QF:V->V->Bool
 | .vC,.vC=>true
 | .bl a,.bl b=>a==b
 | .bl a,.int b=>(if a then 1 else 0)==b
 | .int a,.bl b=>a==(if b then 1 else 0)
 | .int a,.int b=>a==b
 | .str a,.str b=>a==b
 | _,_=>false
theorem UX(e:RelV y u)(c:RelV x v)(g:Av y=true)(f:Av x=true):SeqAt.EqAt A s u v (QF y x):=by
 cases y with
 | vC =>
  cases e
  cases x with
  | vC=>cases c;exact SeqAt.EqAt.same _
  | bl b=>cases c;exact SeqAt.EqAt.none_bool b
  | int b=>obtain⟨t,rfl⟩:=c;exact SeqAt.EqAt.none_int b t
  | str b=>obtain⟨t,rfl⟩:=c;exact SeqAt.EqAt.none_str b t
  | _=>exact fY (show false=true from f) fT
 | bl a =>
  cases e
  cases x with
  | vC=>cases c;exact SeqAt.EqAt.bool_none a
  | bl b=>cases c;exact SeqAt.EqAt.bool_bool a b
  | int b=>obtain⟨t,rfl⟩:=c;exact SeqAt.EqAt.bool_int a b t
  | str b=>obtain⟨t,rfl⟩:=c;exact SeqAt.EqAt.bool_str a b t
  | _=>exact fY (show false=true from f) fT
 | int a =>
  obtain⟨d,rfl⟩:=e
  cases x with
  | vC=>cases c;exact SeqAt.EqAt.int_none a d
  | bl b=>cases c;exact SeqAt.EqAt.int_bool a d b
  | int b=>obtain⟨t,rfl⟩:=c;exact SeqAt.EqAt.int_int a d b t
  | str b=>obtain⟨t,rfl⟩:=c;exact qD a d b t
  | _=>exact fY (show false=true from f) fT
 | str a =>
  obtain⟨d,rfl⟩:=e
  cases x with
  | vC=>cases c;exact SeqAt.EqAt.str_none a d
  | bl b=>cases c;exact SeqAt.EqAt.str_bool a d b
  | int b=>obtain⟨t,rfl⟩:=c;exact qE a d b t
  | str b=>obtain⟨t,rfl⟩:=c;exact SeqAt.EqAt.str_str a d b t
  | _=>exact fY (show false=true from f) fT
 | _=>exact fY (show false=true from g) fT
def IE(x:V)(u:cr):Bool:=match u with
 | .none=>QF .vC x
 | .bool b=>QF (.bl b) x
 | .int i _=>QF (.int i) x
 | .str z _=>QF (.str z) x
 | _=>false
theorem No(r:RelV y u)(f:Av y=true):IE x u=QF y x:=by
 cases y with
 | vC=>cases r;rfl
 | bl b=>cases r;rfl
 | int i=>obtain⟨t,rfl⟩:=r;rfl
 | str z=>obtain⟨t,rfl⟩:=r;rfl
 | _=>exact fY (show false=true from f) fT
theorem Cn:∀{c:List V} {d:List cr},Vals c d->c.all Av=true->d.any (IE x)=c.any λy=>QF y x:=by
 intro _ _ z f
 induction z with
 | nil=>rfl
 | cons h t e =>
  rw[oR,gK] at f;rw[mO,mO,No h f.1,e f.2]
theorem yZ(g:RelV x v)(h:Av x=true):∀{d:List V} {e:List cr},Vals d e->d.all Av=true->∀u∈e,SeqAt.EqAt A s u v (IE x u)
 | _,_,.nil,_=>λu c=>by cases c
 | y::d,u::e,.cons r t,f=>λi c=>by
  rw[oR,gK] at f;rcases List.mem_cons.mp c with rfl|c
  ·rw[No r f.1];exact UX r g f.1 h
  ·exact yZ g h t f.2 i c
def Yp(x:V)(c:List V):Bool:=c.any λy=>QF y x
def rIn(K:fB)(d:Bool):R2:=λx y H Q=>∃p c,y=.ref p/\(vn K H p c\/yg K H p c)/\Av x=true/\c.all Av=true/\Q (.bl<|if d then !Yp x c else Yp x c) H
theorem Ek:zO X (iB .In) (rIn X.K false):=by
 intro i s n H x y v u Q I j l h;obtain⟨p,o,rfl,d,k,e,q⟩:=h;cases l;rcases d with d|d
 ·refine ux (I.list d) λc r f m=>?_;refine SeqAt.in_listAt (IE x) f.isList (λw g=>yZ j k r e w<|by simpa using g) ⟨.bl _,H,I,rfl,?_⟩;rw[show c.toArray.any (IE x)=c.any (IE x) by simp,Cn r e];exact q
 ·refine ux (I.tuple d) λc r f m=>?_;refine SeqAt.in_tupleAt (IE x) f (λw g=>yZ j k r e w<|by simpa using g) ⟨.bl _,H,I,rfl,?_⟩;rw[show c.toArray.any (IE x)=c.any (IE x) by simp,Cn r e];exact q
theorem Aw:zO X (iB .NotIn) (rIn X.K true):=by
 intro i s n H x y v u Q I j l h;obtain⟨p,o,rfl,d,k,e,q⟩:=h;cases l;rcases d with d|d
 ·refine ux (I.list d) λc r f m=>?_;refine SeqAt.notIn_listAt (IE x) f.isList (λw g=>yZ j k r e w<|by simpa using g) ⟨.bl _,H,I,rfl,?_⟩;rw[show c.toArray.any (IE x)=c.any (IE x) by simp,Cn r e];exact q
 ·refine ux (I.tuple d) λc r f m=>?_;refine SeqAt.notIn_tupleAt (IE x) f (λw g=>yZ j k r e w<|by simpa using g) ⟨.bl _,H,I,rfl,?_⟩;rw[show c.toArray.any (IE x)=c.any (IE x) by simp,Cn r e];exact q
theorem xl:xJ X (.builtin "len") (λj H Q=>∃p d,j=[.ref p]/\(vn X.K H p d\/yg X.K H p d)/\Q (.int d.length) H):=by
 intro k s n H j o Q I r h;obtain⟨p,d,rfl,e,q⟩:=h;obtain⟨u,rfl,l⟩:=vals1 r;cases l;have t:=Bh;rcases e with e|e
 ·refine ux (I.list e) λf g i m=>?_;have c:=g.length;exact Calls.call_len_list i.isList (by simp only[fW]<;>lia) ⟨.int d.length,H,I.tok _,⟨s.toks+1,by rw[fW,c]⟩,q⟩
 ·refine ux (I.tuple e) λf g i m=>?_;have c:=g.length;exact len_tuple i (by simp only[fW]<;>lia) ⟨.int d.length,H,I.tok _,⟨s.toks+1,by rw[fW,c]⟩,q⟩
theorem xm:xJ X (.type "list") (λC H Q=>∃p f,C=[.ref p]/\(vn X.K H p f\/yg X.K H p f)/\∀l,H l=none->Q (.ref l) (upd H l<|.lst f)):=by
 intro j s E H C G Q I r h;obtain⟨p,f,rfl,k,q⟩:=h;obtain⟨u,rfl,F⟩:=vals1 r;cases F
 have m:∀(c:List cr),Vals f c->f.length<=fK->∀(d:gE)(g:Nat),(∀b D,s.heap.get? b=some D->d.get? b=some D) ->
   d.get? s.heap.objs.size=some { cls:=.type "list",dict:=none,data:=.seq c.toArray g,slots:=#[]}->EP X j E Q (.ref s.heap.objs.size) { s with heap:=d}:=λc i t d g v e =>
  ⟨.ref s.heap.objs.size,_,I.laid (t':=s.toks) v (fJ _)<|show u7 X.prog X.w _ d _ (.lst f) from⟨t,c,g,i,e⟩,rfl,q _<|I.uO.fresh<|fJ _⟩
 rcases k with k|k
 ·refine ux (I.list k) λc i y t=>?_;have x:=i.length;obtain⟨o,z,A,n,B⟩:=y.isList;exact call_list_seq p (.inl rfl) z A B (λd g v e=>m c i t d g v e) (by simp only[fW]<;>lia)
 ·refine ux (I.tuple k) λc i y t=>?_;have x:=i.length;obtain⟨o,z,A,n,B⟩:=y;exact call_list_seq p (.inr rfl) z A B (λd g v e=>m c i t d g v e) (by simp only[fW]<;>lia)
theorem DW:xJ X (.type "tuple") (λm H Q=>∃p f,m=[.ref p]/\((vn X.K H p f/\∀l,H l=none->Q (.ref l) (upd H l<|.tup f))\/(yg X.K H p f/\Q (.ref p) H))):=by
 intro c s n H m B Q I r h;obtain⟨p,f,rfl,h⟩:=h;obtain⟨u,rfl,y⟩:=vals1 r;cases y;rcases h with⟨i,q⟩|⟨i,q⟩
 ·refine ux (I.list i) λd j k t=>?_;have v:=j.length;refine call_tuple_list k.isList (λg z=>?_) (by simp only[fW]<;>lia);have x:Inv X c n H { s with heap:=g}:=I.kept (t':=s.toks) z
  have A:Inv X c n (upd H g.objs.size<|.tup f) { s with heap:=g.push { cls:=.type "tuple",data:=.seq d.toArray}} :=
   x.laid (t':=s.toks) (λb o e=>ce _ e) (fJ _) (show u7 X.prog X.w _ _ _ (.tup f) from⟨t,d,j,IsTup.new _ _⟩)
  exact⟨.ref g.objs.size,_,A,rfl,q _<|x.uO.fresh<|fJ _⟩
 ·refine ux (I.tuple i) λd j k t=>?_;exact call_tuple_same k ⟨.ref p,H,I,rfl,q⟩
def Zl(K:fB)(T:String)(x:V)(H:Hp):Prop:=match x with
 | .str _=>T="str"
 | .int _=>T="int"
 | .ref p=>(T="list"/\∃xs,vn K H p xs)\/(T="tuple"/\∃o,K.lookup p=some o/\o.cls=.type "tuple"/\o.dict=none) \/
   (T="dict"/\((∃vR,H p=some (.dK vR))\/∃vR,H p=some (.dT vR)))\/(T="set"/\∃S n,H p=some (.set S n))
 | _=>False
theorem Np(I:Inv X l A H s)(r:RelV x v)(g:Zl X.K T x H) :
  s.TypeIs v T/\∀a,v=.ref a->∃m,s.heap.get? a=some m/\m.dict=none:=by
 cases x with
 | str z =>
  obtain⟨t,rfl⟩:=r;cases (show T="str" from g);exact⟨typeIs_str s z t,λ_ e=>nomatch e⟩
 | int i =>
  obtain⟨t,rfl⟩:=r;cases (show T="int" from g);exact⟨typeIs_int s i t,λ_ e=>nomatch e⟩
 | ref p =>
  cases r;rcases g with⟨rfl,B,u⟩|⟨rfl,o,d,w,h⟩|⟨rfl,d⟩|⟨rfl,S,n,d⟩
  ·refine ux (I.list u) λy _ q _=>?_;refine⟨q.isList.typeIs,λa e=>?_⟩;cases e;refine vt q λo n e c h _=>?_;exact⟨o,e,h⟩
  ·refine⟨⟨o,I.xI p o d,w⟩,λa e=>?_⟩;cases e;exact⟨o,I.xI _ o d,h⟩
  ·have z:∃o,s.heap.get? p=some o/\o.ExactDict:=by
    rcases d with⟨j,d⟩|⟨j,d⟩
    ·obtain⟨_,_,_,_,o,_,_,e,f,_⟩:=I.uO p _ d;exact⟨o,e,f⟩
    ·obtain⟨_,_,_,_,o,_,_,e,f,_⟩:=I.uO p _ d;exact⟨o,e,f⟩
   refine tX z λo e f=>?_;refine⟨⟨o,e,f.1⟩,λa k=>?_⟩;cases k;exact⟨o,e,f.2.1⟩
  ·obtain⟨o,_,_,_,e,f,_⟩:=I.uO p _ d;refine⟨⟨o,e,f.1⟩,λa k=>?_⟩;cases k;exact⟨o,e,f.2.1⟩
 | _=>exact gB g
def WR(K:fB)(T:String)(r:V->List V->Hp->VK->Prop)(d:TE):TE:=λe H Q=>d e H λx c=>Zl K T x c/\r x [] c Q
def Zm(K:fB)(T:String)(r:V->List V->Hp->VK->Prop)(e:TE)(t:TA):TE:=λc H Q=>e c H λx d=>Zl K T x d/\t c d λf g=>r x f g Q
variable{o e:gA}{es:List gA}{to:TE}{t:TA}{name:Str}{apos cpos:Pos}{T id:String}{r:V->List V->Hp->VK->Prop}
theorem Nq(m:PlainAttrs T)(g:Slot T name id)(i:typeOf (.builtin id)=pure (.type "method_descriptor"))(n:MtR X id r)(p:PE X o to)
 (d:gH o name X.env (eval o X.env)=eval o X.env:=by rfl)(f:(apos.endLine==cpos.line)=true:=by rfl):PE X (.Call (.Attribute o name apos) [] [] cpos) (WR X.K T r to):=by
  intro c s j H Q I h
  refine wpAny_Call_method0_late d f<|uL (p c s j H _ I h) λv q u=>vt u λx w k l y z=>?_
  obtain⟨A,B⟩:=Np k l y
  exact⟨T,id,m,g,i,A,B,je rfl<|PySem.evalArgs_none<|n c q j w x [] v [] Q k l .nil z⟩
theorem yL(u:PlainAttrs T)(i:Slot T name id)(k:typeOf (.builtin id)=pure (.type "method_descriptor"))(w:MtR X id r)(y:PE X o to)(z:PA X (e::es) t)
 (f:gH o name X.env (eval o X.env)=eval o X.env:=by rfl)
 (j:((ij cpos (fG (e::es) X.env)).all (λx=>!x.1)&&(lx cpos (jA [] X.env)).all (λx=>x.1.isSome)
&&decide ((e::es).length+([]:List oy).length+(if ([]:List oy).isEmpty then 0 else 1)<30))=true:=by rfl)
 (g:(apos.endLine==cpos.line)=true:=by rfl) (A:fG (e::es) X.env=(false,eval e X.env)::fG es X.env:=by rfl) (d:(ij cpos<|fG es X.env).any (·.1)=false:=by rfl) :
    PE X (.Call (.Attribute o name apos) (e::es) [] cpos) (Zm X.K T r to t):=by
  intro c s l H Q I h
  refine tz f j g rfl<|uL (y c s l H _ I h) λv B m=>vt m λx C n p D E=>?_
  obtain⟨F,G⟩:=Np n p D
  refine⟨T,id,u,i,k,F,G,?_⟩
  have q:=z cpos c B l C _ n E
  rw[A] at q ⊢
  refine je (by show (false||(ij cpos<|fG es X.env).any (·.1))=false;rw[d]<;>rfl)<|iE ?_
  exact uL q λJ L m=>ut m λM N O P R=>w c L l N x M v J Q O p P R
end
def Wl(X:Cx)(e:String)(r:V->List V->Hp->VK->Prop):Prop :=
 ∀(a:List (ci×Obj)) (s:fH) (b:St) (H:Hp) (x:V) (c:List V) (v:cr) (d:List cr) (Q:VK),Inv X a b H s->RelV x v->Vals c d->r x c H Q ->
  fO (fS X.prog X.w) X.A (call (.builtin e) (v::d)) (EP X a b Q) X.xe s
theorem Vals.one:∀{x:V} {a:List cr},Vals [x] a->∃u,a=[u]/\RelV x u:=by intro _ _ z;cases z with|cons h t=>cases t;exact⟨_,rfl,h⟩
theorem Vals.zero:∀{a:List cr},Vals [] a->a=[]
 | _,.nil=>rfl
theorem Vals.dropLast(h:Vals a b):Vals a.dropLast b.dropLast:=by
 induction h with
 | nil=>exact .nil
 | cons r t c =>
  cases t with
  | nil=>exact .nil
  | cons q d=>exact .cons r c
theorem Vals.eraseIdx:∀{a:List V} {b:List cr} (i:Nat),Vals a b->Vals (a.eraseIdx i) (b.eraseIdx i)
 | _,_,_,.nil=>.nil
 | _,_,0,.cons _ t=>t
 | _,_,i+1,.cons r t=>.cons r<|Vals.eraseIdx i t
theorem Vals.reverse(h:Vals a b):Vals a.reverse b.reverse:=by
 induction h with
 | nil=>exact .nil
 | cons r t c=>rw[mH,mH];exact Vals.append c<|.cons r .nil
theorem IF(l:List d):l.eraseIdx (l.length-1)=l.dropLast:=by
 induction l with
 | nil=>rfl
 | cons a r c =>
  cases r with
  | nil=>rfl
  | cons b r =>
   have e:(a::b::r).length-1=((b::r).length-1)+1:=by
    have f:(a::b::r).length=r.length+2:=rfl;have g:(b::r).length=r.length+1:=rfl
    lia
   rw[e,mX,c]
   all_goals rfl
theorem El:∀(l:List a)(i:Nat),(l.eraseIdx i).length<=l.length
 | [],_=>fJ _
 | _::_,0=>kh _
 | _::r,i+1=>Nat.succ_le_succ<|El r i
section
variable{X:Cx}{pins:List (ci×Obj)}{σ:St}{H:Hp}{s:fH}{l b:ci}{xs ys zs:List V}
theorem Inv.UY{a its':List cr}{n:Nat}{c:Nat}(I:Inv X pins σ H s)(d:H l=some (.lst xs))
 (e:s.heap.get? l=some { cls:=.type "list",data:=.seq a.toArray n}) (g:f a.toArray=its'.toArray) (h:Vals ys its') (i:ys.length<=fK) :
    Inv X pins σ (upd H l<|.lst ys) { s with heap:=s.heap.update l<|Obj.mapSeq f,toks:=c}:=by
  have q:=PySem.IsL.update e f
  rw[g] at q
  refine I.write (x:=l) (e:=l) (by rw[d];exact trivial) (.inl rfl) (λm u j k=>(gG s.heap (Obj.mapSeq f)<|Ne.symm j).trans k) ⟨_,q⟩ ?_
  exact⟨i,its',_,h,q⟩
theorem Inv.Zn{t':Nat}(I:Inv X pins σ H s)(c:Vals ys a)(d:ys.length<=fK) :
  Inv X pins σ (upd H s.heap.objs.size<|.lst ys) { s with heap:=s.heap.push { cls:=.type "list",data:=.seq a.toArray},toks:=t'} :=
 I.laid (λ_ _ q=>ce _ q) (fJ _) ⟨d,a,0,c,fU _ rfl⟩
theorem Inv.fresh(I:Inv X pins σ H s):H s.heap.objs.size=none:=I.uO.fresh<|fJ _
theorem Inv.Nr(I:Inv X pins σ H s)(c:H l=some (.lst xs)):xs.length<=fK/\∃(a:List cr)(n:Nat),Vals xs a/\xs.length=a.length/\s.heap.get? l=some { cls:=.type "list",data:=.seq a.toArray n}:=by obtain⟨z,a,n,r,e⟩:=I.uO l _ c;exact⟨z,a,n,r,r.length,e⟩
end
section
variable{X:Cx}
def Ku:V->List V->Hp->VK->Prop:=λx b H Q=>∃l a y,x=.ref l/\b=[y]/\H l=some (.lst a)/\a.length<fK/\Q .vC (upd H l<|.lst<|a++[y])
theorem vw:Wl X "list.append" Ku:=by
 intro b s i H x j v k Q I d f h;obtain⟨l,m,y,rfl,rfl,c,o,q⟩:=h;cases d;obtain⟨u,rfl,g⟩:=f.one;obtain⟨z,a,n,r,p,e⟩:=I.Nr c;refine call_meets gL ⟨_,e,rfl⟩ F.entry_list_append (F.args_list_append_2 _ _) (PySem.list_append l a.toArray n u<|by rw[fW];lia) ⟨e,?_⟩;refine⟨.vC,_,I.UY (its':=a++[u]) c e q0o (r.append<|.cons g .nil) ?_,rfl,q⟩;rw[fV,gh]
 lia
def WT:V->List V->Hp->VK->Prop:=λx b H Q=>∃l a y,x=.ref l/\b=[]/\H l=some (.lst a)/\a[a.length-1]?=some y/\Q y (upd H l<|.lst a.dropLast)
theorem Nt:Wl X "list.pop" WT:=by
 intro d s p H x t v w Q I g i h;obtain⟨l,A,y,rfl,rfl,f,j,q⟩:=h;cases g;have b:=i.zero;subst b;obtain⟨z,a,n,r,k,e⟩:=I.Nr f;refine tX (r.get j) λu m o=>?_
 have c:a.toArray[a.toArray.size-1]?=some u:=by show a.toArray[a.length-1]?=some u;rw[<- gI,<- k];exact m
 refine call_meets nj ⟨_,e,rfl⟩ F.entry_list_pop (F.args_list_pop_1 _) (MeetsSeq.list_pop_last l a.toArray n u c<|by rw[fW];omega) ⟨e,?_⟩;refine⟨y,_,I.UY (its':=a.dropLast) f e ?_ r.dropLast ?_,o,q⟩
 ·show a.toArray.eraseIdxIfInBounds (a.toArray.size-1)=a.dropLast.toArray;rw[fW,pC,IF]
 ·rw[List.length_dropLast];omega
def Nu:V->List V->Hp->VK->Prop:=λx b H Q=>∃l a i k y,x=.ref l/\b=[.int i]/\H l=some (.lst a)/\-(2 ^ 63)<=i/\i<2 ^ 63/\seqIndex? i a.length=some k/\a[k]?=some y/\Q y (upd H l<|.lst<|a.eraseIdx k)
theorem Nv:Wl X "list.pop" Nu:=by
 intro c s E H x G v J Q I f g h;obtain⟨l,j,i,k,y,rfl,rfl,d,m,o,p,A,q⟩:=h;cases f;obtain⟨u,rfl,B⟩:=g.one;obtain⟨t,rfl⟩:=B;obtain⟨z,a,n,r,C,e⟩:=I.Nr d;refine tX (r.get A) λw D b=>?_
 refine call_meets nj ⟨_,e,rfl⟩ F.entry_list_pop (F.args_list_pop_2 _ _)
  (MeetsSeq.list_pop_at l a.toArray n i t k w (fitsIndex_both m o) (by rw[fW,<- C];exact p) (by rw[<- gI];exact D)<|by rw[fW];lia) ⟨e,?_⟩
 refine⟨y,_,I.UY (its':=a.eraseIdx k) d e ?_ (r.eraseIdx k) ?_,b,q⟩
 ·show a.toArray.eraseIdxIfInBounds k=(a.eraseIdx k).toArray;rw[pC]
 ·have:=El j k
  lia
def Zo:R2:=λx y H Q=>∃l b a c,x=.ref l/\y=.ref b/\H l=some (.lst a)/\H b=some (.lst c)/\a.length+c.length<=fK/\∀p,H p=none->Q (.ref p) (upd H p<|.lst<|a++c)
theorem UZ:zO X (kS .Add) Zo:=by
 intro d s t H x y v u Q I f g h;obtain⟨l,b,w,A,rfl,rfl,i,j,B,q⟩:=h;cases f;cases g;obtain⟨z,c,n,r,C,e⟩:=I.Nr i;obtain⟨D,a,E,k,m,o⟩:=I.Nr j;refine PySem.P.add_list e o ?_ (by rw[fW,fW];lia);have p:c.toArray++a.toArray=(c++a).toArray:=by simp
 rw[p];exact⟨.ref _,_,I.Zn (t':=s.toks) (r.append k) (by rw[fV];lia),rfl,q _ I.fresh⟩
end
section
variable{κ:Type}[DecidableEq κ]
def xn(vR:List (κ×V))(k:κ):Option V:=(vR.find? λkv=>decide<|kv.1=k).map (·.2)
def putK(vR:List (κ×V))(k:κ)(v:V):List (κ×V) :=
 if (vR.any λkv=>decide<|kv.1=k)=true then vR.map (λkv=>if kv.1=k then (kv.1,v) else kv) else vR++[(k,v)]
def y8(a:List (κ×V))(k:κ):List (κ×V):=a.filter λb=>decide<|b.1≠k
theorem xW{p:κ×V}{r:List (κ×V)}(e:p.1=k):xn (p::r) k=some p.2:=by simp[xn,gQ,e]
theorem xX{p:κ×V}{r:List (κ×V)}(e:¬p.1=k):xn (p::r) k=xn r k:=by simp[xn,gQ,e]
theorem y9(k:κ):∀a:List (κ×V),(a.any λb=>decide<|b.1=k)=(xn a k).isSome
 | []=>rfl
 | p::r=>by
  rw[mO];by_cases e:p.1=k
  ·simp only[xW e,decide_eq_true e,Bool.true_or,Option.isSome_some]
  ·rw[xX e,gz e,Bool.false_or];exact y9 k r
theorem za(a:List (κ×V))(k:κ)(v:V):(putK a k v).length<=a.length+1:=by
 unfold putK;split
 ·rw[fN];lia
 ·rw[fV,gk,lO];lia
theorem Nx{a:List (κ×V)}(v:V)(h:xn a k=none):putK a k v=a++[(k,v)]:=by unfold putK;rw[y9,h];exact fF q0q
theorem yj.xt(r:yj o u):o.isSome=u.isSome:=by
 cases o with
 | none=>cases u with
  | none=>rfl
  | some _=>exact(show False from r).elim
 | some _=>cases u with
  | none=>exact(show False from r).elim
  | some _=>rfl
theorem yj.getD(r:yj o u)(a:RelV d b):RelV (o.getD d) (u.getD b):=by
 cases o with
 | none=>cases u with
  | none=>exact a
  | some _=>exact(show False from r).elim
 | some _=>cases u with
  | none=>exact(show False from r).elim
  | some _=>exact r
theorem KV.val(r:KV a g)(k:κ):yj (xn a k) (o9 g k):=by
 unfold KV at r
 induction r with
 | nil=>exact True.intro
 | @cons p q l c h t i =>
  obtain⟨f,j⟩:=h;by_cases e:p.1=k
  ·have d:q.1=k:=f.symm.trans e;have b:o9 (q::c) k=some q.2:=by simp[o9,gQ,d]
   rw[xW e,b];exact j
  ·have d:¬q.1=k:=λz=>e<|f.trans z;have b:o9 (q::c) k=o9 c k:=by simp[o9,gQ,d]
   rw[xX e,b];exact i
theorem KV.any(r:KV a c)(k:κ):(a.any λb=>decide<|b.1=k)=c.any λb=>decide (b.1=k):=by
 unfold KV at r
 induction r with
 | nil=>rfl
 | cons h t d=>rw[mO,mO,d,h.1]
theorem KV.U0(r:KV c d)(k:κ)(f:RelV y u) :
  KV (c.map λa=>if a.1=k then (a.1,y) else a) (d.map λa=>if a.1=k then (a.1,u) else a):=by
 unfold KV at r ⊢
 induction r with
 | nil=>exact .nil
 | @cons p q j l h t g =>
  rw[gn,gn];refine .cons ?_ g;obtain⟨b,i⟩:=h;by_cases e:p.1=k
  ·rw[fE e,fE<|b.symm.trans e];exact⟨b,f⟩
  ·rw[fF e,fF<|λz=>e<|b.trans z];exact⟨b,i⟩
theorem KV.put(r:KV a b)(k:κ)(c:RelV y u):KV (putK a k y) (stored b k u):=by
 unfold putK stored;rw[r.any k];by_cases e:(b.any λd=>decide<|d.1=k)=true
 ·rw[fE e,fE e];exact r.U0 k c
 ·rw[fF e,fF e];exact Paired.snoc r ⟨rfl,c⟩
theorem KV.drop(r:KV c g)(k:κ):KV (y8 c k) (without g k):=by
 unfold KV at r ⊢;unfold y8 without
 induction r with
 | nil=>exact .nil
 | @cons p q l m h t f =>
  obtain⟨d,i⟩:=h;rw[iw,iw];by_cases e:p.1=k
  ·have a:¬decide (p.1≠k)=true:=by simp[e]
   have b:¬decide (q.1≠k)=true:=by simp[d.symm.trans e]
   rw[fF a,fF b];exact f
  ·have j:¬q.1=k:=λz=>e<|d.trans z;have a:decide (p.1≠k)=true:=by simp[e]
   have b:decide (q.1≠k)=true:=by simp[j]
   rw[fE a,fE b];exact .cons ⟨d,i⟩ f
theorem KV.length{vR:List (κ×V)}{vs:List (κ×cr)}(r:KV vR vs):vR.length=vs.length:=Paired.length r
theorem G7(a:List (κ×V))(k:κ):(y8 a k).length<=a.length:=gD _ _
end
theorem zU(r:RelV (kV k) u):(uB P w).is k u=true:=by
 cases k with
 | inl i=>obtain⟨t,e⟩:=(show ∃t,u=kd i t from r);subst e;exact GJ P w i t
 | inr x=>obtain⟨t,e⟩:=(show ∃t,u=Value.str x t from r);subst e;exact GK P w x t
theorem LS:∀{a:List Key} {c:List cr},Vals (a.map kV) c->ItemsAre (uB P w) a c:=by
 intro d
 induction d with
 | nil=>intro _ r;rw[ny] at r;cases r;exact .nil
 | cons k a b =>
  intro _ r;rw[gn] at r
  cases r with
  | cons h t=>exact .cons (zU h)<|b t
abbrev KT(H:Hp):List (List Key×V)->List (List Key×ci×cr)->Prop:=Paired λp q=>p.1=q.1/\H q.2.1=some (.tup<|p.1.map kV)/\RelV p.2 q.2.2
theorem KT.val(r:KT H a g)(k:List Key):yj (xn a k) ((rH g k).map (·.2)):=by
 induction r with
 | nil=>exact True.intro
 | @cons p q l c h t i =>
  refine yi h λf _ j=>?_;by_cases e:p.1=k
  ·have d:q.1=k:=f.symm.trans e;have b:rH (q::c) k=some q.2:=by simp[rH,gQ,d]
   rw[xW e,b];exact j
  ·have d:¬q.1=k:=λz=>e<|f.trans z;have b:rH (q::c) k=rH c k:=by simp[rH,gQ,d]
   rw[xX e,b];exact i
theorem KT.U0(r:KT H b f)(k:List Key)(g:RelV y u) :
  KT H (b.map λc=>if c.1=k then (c.1,y) else c) (f.map<|putAt k u):=by
 induction r with
 | nil=>exact .nil
 | @cons p q l m h t i =>
  rw[gn,gn];refine .cons ?_ i;refine yi h λa d j=>?_;unfold putAt;by_cases e:p.1=k
  ·rw[fE e,fE<|a.symm.trans e];exact⟨a,d,g⟩
  ·rw[fF e,fF<|λz=>e<|a.trans z];exact⟨a,d,j⟩
theorem KT.put(r:KT H a c)(k:List Key)(f:H b=some (.tup<|k.map kV))(d:RelV y u) :
  KT H (putK a k y) (storedH c k b u):=by
 have e:(a.any λg=>decide<|g.1=k)=(rH c k).isSome:=by rw[y9,(r.val k).xt,hI]
 unfold putK storedH;rw[e];by_cases q:(rH c k).isSome=true
 ·rw[fE q,fE q];exact r.U0 k d
 ·rw[fF q,fF q];exact Paired.snoc r ⟨rfl,f,d⟩
theorem KT.keeps(r:KT H a d)(e:∀b c,H b=some (.tup c)->f b=some (.tup c)):KT f a d :=
 Paired.Uv r λ_ _ z=>⟨z.1,e _ _ z.2.1,z.2.2⟩
section
variable{P:gf}{w:gu}{H:Hp}{h:gE}{a:ci}
theorem TX(b:wU P w H h)(e:Rd H a u):u7 P w H h a u:=e.ok b
theorem Ax(d:wU P w H h)(e:Rd H a (.dK b)):b.length<=fK/\(a==jF)=false/\∃c,KV b c/\h.DictOf (uB P w) a c :=
 show u7 P w H h a (.dK b) from TX d e
theorem Kv(d:wU P w H h)(e:H a=some (.dK b)):b.length<=fK/\(a==jF)=false/\∃c,KV b c/\h.DictOf (uB P w) a c:=Ax d<|.inl e
theorem Ah{b:List Key}(d:wU P w H h)(e:H a=some (.tup<|b.map kV)):(nV<|uB P w).is h b a:=by obtain⟨_,c,r,o,f,g,n,i⟩:=(show u7 P w H h a (.tup<|b.map kV) from d a _ e);exact⟨o,c.toArray,n,f,g,i,by simpa using LS r⟩
theorem BZ(g:wU P w H h)(e:Rd H a (.dT b)):b.length<=fK/\(a==jF)=false /\
  ∃d,KT H b d/\h.DictOfH (nV<|uB P w) a d:=by
 obtain⟨z,y,d,r,o,j,k,n,s,u,v,A⟩:=(show u7 P w H h a (.dT b) from TX g e);refine⟨z,y,d,r,o,j,k,n,s,u,v,λx c=>?_,A⟩
 have f:∀{l:List (List Key×V)} {m:List (List Key×ci×cr)},KT H l m->∀x∈m,(nV<|uB P w).is h x.1 x.2.1:=by
  intro l m q
  induction q with
  | nil=>intro x c;exact nomatch c
  | @cons p q C D i t B =>
   intro x c;rcases List.mem_cons.mp c with e|c
   ·subst e;exact Ah g (by rw[<- i.1];exact i.2.1)
   ·exact B x c
 exact f r x c
theorem WU(d:wU P w H h)(e:H a=some (.dT b)):b.length<=fK/\(a==jF)=false /\
  ∃c,KT H b c/\h.DictOfH (nV<|uB P w) a c:=BZ d<|.inl e
end
def xf(H:Hp)(a:ci)(y:V)(r:Option V):Prop :=
 (∃vR k,Rd H a (.dK vR)/\y=kV k/\r=xn vR k)\/∃vR k b,Rd H a (.dT vR)/\y=.ref b/\H b=some (.tup<|k.map kV)/\r=xn vR k
def EZ(H:Hp)(a:ci)(y v:V)(H':Hp):Prop :=
 (∃vR k,H a=some (.dK vR)/\y=kV k/\vR.length<fK/\H'=upd H a (.dK<|putK vR k v)) \/
 ∃vR k b,H a=some (.dT vR)/\y=.ref b/\H b=some (.tup<|k.map kV)/\vR.length<fK/\H'=upd H a (.dT<|putK vR k v)
theorem xf.k{H:Hp}{a:ci}{vR:List (Key×V)}{k:Key}(e:H a=some (.dK vR)):xf H a (kV k) (xn vR k):=.inl ⟨vR,k,.inl e,rfl,rfl⟩
theorem EZ.k{H:Hp}{a:ci}{vR:List (Key×V)}{k:Key}{v:V}(e:H a=some (.dK vR))(hl:vR.length<fK):EZ H a (kV k) v (upd H a<|.dK<|putK vR k v):=.inl ⟨vR,k,e,rfl,hl,rfl⟩
section
variable{X:Cx}{pins:List (ci×Obj)}{σ:St}{H:Hp}{s:fH}{a:ci}{y v:V}{u r:cr}{o:Option V}{A:gJ}{E:cr->fH->Prop}
theorem Inv.big(I:Inv X pins σ H s):jF<s.heap.objs.size:=by have h:f7<s.heap.objs.size:=(I.mod.glob.keeps I.bk).lt;exact l8 q0q h
theorem Em(B:A.units+1<ju)(I:Inv X pins σ H s)(g:xf H a y (some v))(t:RelV y u)(h:∀f x,Inv X pins σ H x->RelV v f->Q f x) :
  fO (fS X.prog X.w) A (mF (.ref a) u) Q E s:=by
 rcases g with⟨i,k,e,j,l⟩|⟨i,k,b,e,j,eb,l⟩
 ·subst j;obtain⟨z,C,D,c,m⟩:=Ax I.uO e;obtain⟨f,n,d⟩:=yj.some_of (v:=v) (o:=o9 D k) (by rw[l];exact c.val k);exact wpAny_getItem_of (zU t) m.mapOf n<|h f _ (I.tok _) d
 ·subst j;cases (show u=fZ b from t);obtain⟨z,C,F,c,m⟩:=BZ I.uO e;obtain⟨f,n,d⟩:=yj.some_of (v:=v) (o:=(rH F k).map (·.2)) (by rw[l];exact c.val k);refine tX (Option.map_eq_some_iff.mp n) λp G q=>?_;refine wpAny_getItem_heap (jY B) (Ah I.uO eb) m G ?_;rw[q];exact h f _ (I.tok _) d
theorem Zp(p:A.units+1<ju)(I:Inv X pins σ H s)(g:xf H a y o)(m:RelV y u)(h:∀n,Inv X pins σ H n->Q (.bool o.isSome) n) :
  fO (fS X.prog X.w) A (iB .In u<|.ref a) Q E s:=by
 rcases g with⟨d,k,e,f,l⟩|⟨d,k,b,e,f,eb,l⟩
 ·subst f;obtain⟨z,i,t,c,j⟩:=Ax I.uO e;refine wpAny_in_of (zU m) i j.mapOf ?_;rw[<- (c.val k).xt,<- l];exact h _<|I.tok _
 ·subst f;cases (show u=fZ b from m);obtain⟨z,i,x,c,j⟩:=BZ I.uO e;refine wpAny_in_heap (jY p) (Ah I.uO eb) i j ?_;have q:=(c.val k).xt;rw[hI] at q;rw[<- q,<- l];exact h _<|I.tok _
theorem Q1(p:A.units+1<ju)(I:Inv X pins σ H s)(g:xf H a y o)(m:RelV y u)(h:∀n,Inv X pins σ H n->Q (.bool<|!o.isSome) n) :
  fO (fS X.prog X.w) A (iB .NotIn u<|.ref a) Q E s:=by
 rcases g with⟨d,k,e,f,l⟩|⟨d,k,b,e,f,eb,l⟩
 ·subst f;obtain⟨z,i,t,c,j⟩:=Ax I.uO e;refine wpAny_notIn_of (zU m) i j.mapOf ?_;rw[<- (c.val k).xt,<- l];exact h _<|I.tok _
 ·subst f;cases (show u=fZ b from m);obtain⟨z,i,x,c,j⟩:=BZ I.uO e;refine wpAny_notIn_heap (jY p) (Ah I.uO eb) i j ?_;have q:=(c.val k).xt;rw[hI] at q;rw[<- q,<- l];exact h _<|I.tok _
theorem Ay{g:Nat}(I:Inv X pins σ H s)(h:Wu (H a))(i:gX a s.heap c)(j:∃q,c.get? a=some q)(d:u7 X.prog X.w (upd H a f) c a f) :
  Inv X pins σ (upd H a f) { s with heap:=c,toks:=g} :=
 I.write (x:=a) (e:=a) h (.inl rfl) (λb q k z=>(i.2 b k).trans z) j d
theorem CT{d:gE}{b:List (Key×V)}(z:b.length<=fK)(f:(a==jF)=false)(c:KV b e)(g:d.DictOf (uB P w) a e) :
  u7 P w h d a (.dK b):=⟨z,f,e,c,g⟩
theorem Eo(L:A.units+1<ju)(I:Inv X pins σ H s)(g:EZ H a y v M)(D:RelV y u)(F:RelV v r)(h:∀G,Inv X pins σ M G->Q () G) :
  fO (fS X.prog X.w) A (rc (.ref a) u r) Q E s:=by
 rcases g with⟨d,k,e,m,l,n⟩|⟨d,k,b,e,m,eb,l,n⟩
 ·subst m n;obtain⟨z,p,N,f,t⟩:=Kv I.uO e;have x:N.length<=fK:=by rw[<- f.length];exact z
  have B:(putK d k v).length<=fK:=by have:=za d k v;lia
  refine wpAny_setItem_pairs (hsz:=x) (zU D) t λJ i C=>h _ ?_;have O:∃q,J.get? a=some q:=wT i λq _ _ j _=> ⟨q,j⟩;exact Ay I (by rw[e];exact True.intro) C O<|CT B p (f.put k F) i
 ·subst m n;cases (show u=fZ b from D);obtain⟨z,p,P,f,t⟩:=WU I.uO e;have x:P.length<=fK:=by rw[<- Paired.length f];exact z
  have B:(putK d k v).length<=fK:=by have:=za d k v;lia
  refine wpAny_setItem_heap (hsz:=x) (jY L) (Ah I.uO eb) t λJ i C=>h _ ?_;obtain⟨q,R,S,j,T,U,W,_,Y⟩:=i;refine Ay I (by rw[e];exact True.intro) C ⟨q,j⟩ ⟨B,p,_,(f.put k eb F).keeps λc Z K=>?_,q,R,S,j,T,U,W,Y⟩;rw[ss<|Wt K e<|λz=>nomatch z];exact K
end
section
variable{X:Cx}{pins:List (ci×Obj)}{σ:St}{H:Hp}{s:fH}{a:ci}{vR:List (Key×V)}{k:Key}{u:cr}{A:gJ}{E:cr->fH->Prop}
theorem LU(I:Inv X pins σ H s)(e:H a=some (.dK vR))(g:RelV (kV k) u)(l:(xn vR k).isSome=true)(h:∀f,Inv X pins σ (upd H a<|.dK<|y8 vR k) f->Q () f) :
  fO (fS X.prog X.w) A (delItem (.ref a) u) Q E s:=by
 obtain⟨z,i,j,b,d⟩:=Kv I.uO e
 refine wpAny_delItem_slot d.typeIs q0q pW
  (mI pW d.typeIs PySem.F.entry_dict_delitem (PySem.F.args_dict_delitem_2 _ _) (meets_dict_delitem_pairs (uB X.prog X.w) a<|zU g) ⟨j,d,by rw[<- b.length];exact z,by rw[<- (b.val k).xt];exact l,λm c n=>h _ ?_⟩)
 have o:∃q,m.get? a=some q:=wT c λq _ _ p _=> ⟨q,p⟩;exact Ay I (by rw[e];exact True.intro) n o<|CT (gZ (G7 vR k) z) i (b.drop k) c
theorem WV(I:Inv X pins σ H s)(e:H a=some (.dK vR))(f:RelV (kV k) u)(l:xn vR k=some v)(j:more=[]\/∃x,more=[x])
 (h:∀c m,Inv X pins σ (upd H a<|.dK<|y8 vR k) m->RelV v c->Q c m):fO (fS X.prog X.w) A (call (.builtin "dict.pop") (.ref a::u::more)) Q E s:=by
  obtain⟨z,r,n,b,p⟩:=Kv I.uO e
  obtain⟨c,y,g⟩:=yj.some_of (v:=v) (o:=o9 n k) (by rw[<- l];exact b.val k)
  have B:(keyPart u).isSome=true:=by
    cases k with
    | inl i=>obtain⟨t,q⟩:=(show ∃t,u=kd i t from f);subst q;rfl
    | inr x=>obtain⟨t,q⟩:=(show ∃t,u=Value.str x t from f);subst q;rfl
  have C:qw "dict.pop" ⟨.ref a::u::more,[]⟩:=by
    rcases j with q|⟨x,q⟩
    · subst q; exact PySem.F.args_dict_pop_2 _ _
    · subst q; exact PySem.F.args_dict_pop_3 _ _ _
  refine mI qJ p.typeIs PySem.F.entry_dict_pop C (meets_dict_pop_there (uB X.prog X.w) a (zU f) more j B)
    ⟨n,c,p,by rw[<- b.length];exact z,y,λD d G=>h c _ ?_ g⟩
  have J:∃q,D.get? a=some q:=wT d λq _ _ K _=> ⟨q,K⟩
  exact Ay I (by rw[e];exact True.intro) G J<|CT (gZ (G7 vR k) z) r (b.drop k) d
theorem WX(I:Inv X pins σ H s)(e:Rd H a (.dK vR))(h:∀t c,Inv X pins σ H c->Q (.int vR.length t) c):fO (fS X.prog X.w) A (call (.builtin "len") [.ref a]) Q E s:=by obtain⟨z,d,g,b,f⟩:=Ax I.uO e;refine call_len_dict d f (by rw[<- b.length];rw[hX] at z;lia) ?_;rw[<- b.length];exact h _ _<|I.tok _
end
def Ny(i:gA):Prop:=∀a b,qI i false a b=operate [a,b] (mF a b)
theorem Q2{m:String} 
 (n:k9 (.type T) "__getitem__"=pure (some<|.builtin m)) (p:Ny slice)
 (h:fO (fS a w) A (eval value g) (λo d=>fO (fS a w) A (eval slice g) (λi b=>b.TypeIs o T/\fO (fS a w) A (mF o i) Q E b) E d) E s) :
    fO (fS a w) A (eval (.Subscript value slice pos) g) Q E s:=by
  refine rG<|hJ h (λo d j=>hJ j (λi b c=>?_) λ_ _ x=>x) λ_ _ x=>x
  obtain⟨l,c⟩:=c
  unfold subscriptTail
  refine am ?_
  rw[getitemInPython_of_ne l.not_modules]
  refine am<|oG l n ?_
  have f:fO (fS a w) A (qI slice false o i) (λr e=>fO (fS a w) A (letTemporaryGo value o r >>= λ_=>pure r) Q E e) E b:=by
    rw[p o i]
    exact wpAny_operating<|hJ c (λr e k=>am<|wpAny_letTemporaryGo<|ap k) λ_ _ x=>x
  first
    | exact ap<|am f
    | exact am<|ap<|am f
    | exact am f
theorem G8(I:Inv X f h H s)(g:xf H a y o):s.TypeIs (.ref a) "dict":=by
 rcases g with⟨c,k,e,_,_⟩|⟨c,k,b,e,_,_,_⟩
 ·obtain⟨_,_,i,_,d⟩:=Ax I.uO e;exact d.typeIs
 ·obtain⟨_,_,j,_,d⟩:=BZ I.uO e;exact d.typeIs
def WY(d e:TE):TE:=λb H Q=>d b H λx f=>e b f λy c=>∃a v,x=.ref a/\xf c a y (some v)/\Q v c
def Zq(d e:TE):TE:=λb H Q=>d b H λy f=>e b f λx c=>∃a o,x=.ref a/\xf c a y o/\Q (.bl o.isSome) c
def Q3(d e:TE):TE:=λb H Q=>d b H λy f=>e b f λx c=>∃a o,x=.ref a/\xf c a y o/\Q (.bl<|!o.isSome) c
def WZ(d e f:TE):TS:=λD b H=>f b H λv g=>d b g λx h=>e b h λy i=>∃a c,x=.ref a/\EZ i a y v c/\D.nx b c
def W0(e f g:TE)(h:V->V->Hp->VK->Prop):TS:=λD b H=>e b H λx i=>f b i λy c=>∃a v,x=.ref a/\xf c a y (some v) /\
 g b c λj k=>h v j k λz l=>∃d,EZ l a y z d/\D.nx b d
def Nz(e f:TE):TS:=λD c H=>e c H λx g=>f c g λy d=>∃a b k,x=.ref a/\d a=some (.dK b)/\y=kV k/\(xn b k).isSome=true/\D.nx c (upd d a<|.dK<|y8 b k)
section
variable{X:Cx}{o i e value:gA}{pos pos' US:Pos}{td ty tv:TE}
theorem E4(l:X.A.units+1<ju)(m:PE X o td)(n:PE X i ty)(p:Ny i):PE X (.Subscript o i pos) (WY td ty):=by intro b s j H Q I h;refine Q2 PySem.F.slot_dict_getitem.lookup p<|uL (m b s j H _ I h) λu q c=>ut c λx H1 r t w=>uL (n b q j H1 _ r w) λE G c=>ut c λy H2 k z d=>ut d λa v B g C=>?_;subst B;obtain rfl:u=fZ a:=t;exact⟨G8 k g,Em l k g z λJ K D f=>⟨v,H2,D,f,C⟩⟩
theorem NA(j:X.A.units+1<ju)(k:PE X i ty)(l:PE X o td):PC X .In i o (Zq ty td):=by intro b s f H Q I h;refine uL (k b s f H _ I h) λC m c=>ut c λy H1 n p q=>uL (l b m f H1 _ n q) λu D c=>ut c λx H2 r t d=>ut d λa v w g z=>?_;subst w;obtain rfl:u=fZ a:=t;exact Zp j r g p λE B=>⟨.bl v.isSome,H2,B,rfl,z⟩
theorem Bj(j:X.A.units+1<ju)(k:PE X i ty)(l:PE X o td):PC X .NotIn i o (Q3 ty td):=by intro b s f H Q I h;refine uL (k b s f H _ I h) λC m c=>ut c λy H1 n p q=>uL (l b m f H1 _ n q) λu D c=>ut c λx H2 r t d=>ut d λa v w g z=>?_;subst w;obtain rfl:u=fZ a:=t;exact Q1 j r g p λE B=>⟨.bl<|!v.isSome,H2,B,rfl,z⟩
theorem E5(j:X.A.units+1<ju)(k:PE X o td)(l:PE X i ty)(m:PE X value tv)(n:i4 value (some<|.Subscript o i pos') pos.line X.env=pure false) :
  PS X (.Assign [.Subscript o i pos'] value pos) (WZ td ty tv):=by
 intro b s d H D I h;refine wpAny_Assign_Subscript (uL (m b s d H _ I h) λr p c=>ut c λv H1 q t w=>uL (k b p d H1 _ q w) λu z c=>ut c λx H2 B C E=>uL (l b z d H2 _ B E) λM N c=>ut c λy H3 F G f=>ut f λa H4 J g K=>?_) n;subst J;obtain rfl:u=fZ a:=C;exact Eo j F g G t λO L=>⟨d,H4,L,K⟩
theorem Q4(q:X.A.units+1<ju)(t:PE X o td)(w:PE X i ty)(B:PE X value tv)(k:WM X op C)
 (E:∀j d new,augStore i j d new=(do jz [new,j,d] (rc j d new);release [new,j,d] [];pure .next)):PS X (.AugAssign (.Subscript o i US) op value pos) (W0 td ty tv C):=by
  intro b s f H D I h
  refine qU (uL (t b s f H _ I h) λu F c=>ut c λx H1 G J K=>uL (w b F f H1 _ G K) λd s2 c=>ut c λy H2 L r l=>ut l λa v M g N=>?_) E
  subst M
  obtain rfl:u=fZ a:=J
  refine Em q L g r λO P Q m=>uL (B b P f H2 _ Q N) λR S c=>ut c λT H3 U n V=>uL (k b S f H3 v T O R _ U m n V) λw3 s5 c=>ut c λz H4 W Y p=>tX p λH5 Z q4=>?_
  exact Eo q W Z r Y λs6 I6=>⟨f,H5,I6,q4⟩
theorem E6(g:PE X o td)(j:PE X i ty):PS X (.Delete [.Subscript o i US] pos) (Nz td ty):=by intro b s d H D I h;refine wpAny_Delete<|wpAny_deleteEach_cons<|wpAny_delete_Subscript<|uL (g b s d H _ I h) λu m f=>ut f λx H1 n p q=>uL (j b m d H1 _ n q) λC E f=>ut f λy H2 r t c=>YH c λa v k w e z l A=>?_;subst w z;obtain rfl:u=fZ a:=p;exact LU r e t l λF B=>wpAny_deleteEach_nil ⟨d,_,B,A⟩
end
theorem G9(h:gE)(a:jF<h.objs.size):u7 P w H (h.push { cls:=.type "dict",data:=.dict #[]}) h.objs.size (.dK []) :=
 ⟨g9 _,beq_eq_false_iff_ne.mpr<|Ne.symm<|fX a,[],.nil,rn h⟩
def CU:TE:=λ_ H Q=>∀p,H p=none->Q (.ref p) (upd H p<|.dK [])
section
variable{X:Cx}{pos:Pos}
theorem Az:PE X (.Dict [] [] pos) CU:=λb s c H Q I h =>
 wpAny_Dict_empty ⟨.ref s.heap.objs.size,_,I.laid (a:=s.heap.objs.size) (o:=.dK []) (t':=s.toks) (λ_ _ q=>ce _ q) (fJ _)<|G9 s.heap I.big,rfl,h _<|I.uO.fresh<|fJ _⟩
end
def IG:List (TE×TE)->St->Hp->(List (V×V)->Hp->Prop)->Prop
 | [],_,H,Q=>Q [] H
 | (tk,tv)::r,σ,H,Q=>tk σ H λx H1=>tv σ H1 λy H2=>IG r σ H2 λps H3=>Q ((x,y)::ps) H3
abbrev VV:List (V×V)->List (cr×cr)->Prop:=Paired λp q=>RelV p.1 q.1/\RelV p.2 q.2
def Yq(X:Cx)(d:Pos)(c:List (Option gA))(a:List gA)(e:List (TE×TE)):Prop :=
 ∀(b:List (ci×Obj)) (s:fH) (f:St) (H:Hp) (Q:List (V×V)->Hp->Prop),Inv X b f H s->IG e f H Q ->
  fO (fS X.prog X.w) X.A (evalPairs<|pairTrees c a X.env d) (λi j=>∃g h,Inv X b f h j/\VV g i/\Q g h) X.xe s
theorem Q5:Yq X pos [] [] []:=λa s b H Q I h=>pairTrees_nil_walk ⟨[],H,I,.nil,h⟩
theorem NB(e:PE X k f)(g:PE X v i)(j:Yq X pos l m c) :
  Yq X pos (some k::l) (v::m) ((f,i)::c):=λa s d H Q I h =>
 pairTrees_cons_walk (uL (e a s d H _ I h) λu n b=>ut b λx H1 o p q=>uL (g a n d H1 _ o q) λD r b=>ut b λy H2 t w z =>
  uL (j a r d H2 _ t z) λE F b=>ut b λA H3 B rel C=>⟨(x,y)::A,H3,B,.cons ⟨p,w⟩ rel,C⟩)
def CV(b a:List (Key×V)):List (Key×V):=a.foldl (λc d=>putK c d.1 d.2) b
theorem KV.merge:∀{a:List (Key×V)} {d:List (Key×cr)} {b:List (Key×V)} {c:List (Key×cr)},KV a d->KV b c->KV (CV b a) (merged c d):=by
 intro a d b c r;unfold KV at r
 induction r generalizing b c with
 | nil=>intro q;exact q
 | @cons p q i j h t f =>
  intro g
  have e:KV (putK b p.1 p.2) (stored c q.1 q.2):=by have:=g.put p.1 h.2;rw[<- h.1];exact this
  exact f e
theorem zV:∀(b a:List (Key×V)),(CV a b).length<=a.length+b.length
 | [],a=>by show a.length<=a.length+0;lia
 | p::r,a=>by have c:=zV r<|putK a p.1 p.2;have d:=za a p.1 p.2;show (CV (putK a p.1 p.2) r).length<=_;rw[gk];lia
theorem IH:∀{d:List (Key×V)} {g:List (cr×cr)},VV (d.map λi=>(kV i.1,i.2)) g->∃e,Carries (uB P w) g e/\KV d e:=by
 intro j
 induction j with
 | nil=>intro _ r;rw[ny] at r;cases r;exact⟨[],True.intro,.nil⟩
 | cons p d f =>
  intro _ r;rw[gn] at r
  cases r with
  | @cons a b as bs h t =>
   refine tX (f t) λe c q=>?_;obtain⟨l,k⟩:=b;exact⟨(p.1,k)::e,⟨zU h.1,rfl,c⟩,.cons ⟨rfl,h.2⟩ q⟩
def W2(b:List (TE×TE)):TE:=λe H Q=>∀p,H p=none->IG b e (upd H p<|.dK []) λf c=>c p=some (.dK [])/\∃a:List (Key×V),f=a.map (λd=>(kV d.1,d.2))/\a.length<=15/\Q (.ref p) (upd c p<|.dK<|CV [] a)
theorem Q6(h:Yq X pos keys values i)(b:keys.all (·.isSome)=true)(n:keys.length=values.length)(p:keys≠[])
 (j:keys.length<=15):PE X (.Dict keys values pos) (W2 i):=by
  intro d s r H Q I q
  have t:=I.uO.fresh<|fJ s.heap.objs.size
  have u:=I.laid (a:=s.heap.objs.size) (o:=.dK []) (h':=s.heap.push { cls:=.type "dict",data:=.dict #[]}) (t':=s.toks) (λ_ _ q=>ce _ q) (fJ _)<|G9 s.heap I.big
  refine wpAny_Dict_walk (knd:=uB X.prog X.w) b n p j<|uL (h d _ r _ _ u<|q _ t) λO R v=>vt v λS T m k e l=>ux l λf x lk y=>?_
  subst x
  refine tX (IH (P:=X.prog) (w:=X.w) k) λA c B=>?_
  obtain⟨z,C,D,E,F⟩:=Kv m.uO e
  cases E
  refine⟨A,c,F,λG g J=>⟨.ref s.heap.objs.size,_,?_,rfl,y⟩⟩
  have K:(CV [] f).length<=fK:=by
    have L:=zV f []
    rw[lO] at L
    rw[hX];lia
  have M:∃q,G.get? s.heap.objs.size=some q:=wT g λq _ _ N _=> ⟨q,N⟩
  exact Ay m (by rw[e];exact True.intro) J M<|CT K C (B.merge .nil) g
structure M1(X:Cx)(o:gA)(m:Str)(apos:Pos)(e:gA)(cpos:Pos):Prop where
 base:gH o m X.env (eval o X.env)=eval o X.env
 Yr:((ij cpos (fG [e] X.env)).all (λx=>!x.1)&&(lx cpos (jA [] X.env)).all (λx=>x.1.isSome)
  && decide (([e]:List gA).length+([]:List oy).length+(if ([]:List oy).isEmpty then 0 else 1)<30))=true
 line:(apos.endLine==cpos.line)=true
 trees:ij cpos (fG [e] X.env)=[(false,eval e X.env)]
structure M2(X:Cx)(o:gA)(m:Str)(apos:Pos)(e f:gA)(cpos:Pos):Prop where
 base:gH o m X.env (eval o X.env)=eval o X.env
 Yr:((ij cpos (fG [e,f] X.env)).all (λx=>!x.1)&&(lx cpos (jA [] X.env)).all (λx=>x.1.isSome)
  && decide (([e,f]:List gA).length+([]:List oy).length+(if ([]:List oy).isEmpty then 0 else 1)<30))=true
 line:(apos.endLine==cpos.line)=true
 trees:ij cpos (fG [e,f] X.env)=[(false,eval e X.env),(false,eval f X.env)]
def Ys(H:Hp)(a:ci):Prop:=(∃b,Rd H a<|.dK b)\/∃b,Rd H a<|.dT b
theorem II(I:Inv X k l H s)(d:Ys H a) :
  s.TypeIs (.ref a) "dict"/\(∀b,fZ a=.ref b->∃c,s.heap.get? b=some c/\c.dict=none)/\(a==jF)=false:=by
 rcases d with⟨g,e⟩|⟨g,e⟩
 ·obtain⟨_,h,m,_,f⟩:=Ax I.uO e;refine⟨f.typeIs,λb q=>?_,h⟩;cases q;obtain⟨c,_,_,i,j,_⟩:=f;exact⟨c,i,j.2.1⟩
 ·obtain⟨_,h,n,_,f⟩:=BZ I.uO e;refine⟨f.typeIs,λb q=>?_,h⟩;cases q;obtain⟨c,_,_,i,j,_⟩:=f;exact⟨c,i,j.2.1⟩
section
variable{X:Cx}{pins:List (ci×Obj)}{σ:St}{H:Hp}{s:fH}{a:ci}{y d:V}{u r:cr}{o:Option V}{A:gJ}{E:cr->fH->Prop}
theorem U1(t:A.units+1<ju)(I:Inv X pins σ H s)(g:xf H a y o)(n:RelV y u)(h:∀p q,Inv X pins σ H q->RelV (o.getD .vC) p->Q p q) :
  fO (fS X.prog X.w) A (call (.builtin "dict.get") [.ref a,u]) Q E s:=by
 rcases g with⟨i,k,e,j,l⟩|⟨i,k,b,e,j,eb,l⟩
 ·subst j;obtain⟨z,m,x,c,f⟩:=Ax I.uO e;refine mI ji f.typeIs kO (qm _ _) (meets_dict_get (uB X.prog X.w) a (zU n) m) ⟨_,f.mapOf,h _ _ (I.tok _) ?_⟩;rw[l];exact(c.val k).getD rfl
 ·subst j;cases (show u=fZ b from n);obtain⟨z,m,v,c,f⟩:=BZ I.uO e;refine mI ji f.typeIs kO (qm _ _) (meetsH_dict_get (nV<|uB X.prog X.w) a b m) ⟨jY t,k,v,Ah I.uO eb,f,h _ _ (I.tok _) ?_⟩;rw[l];exact(c.val k).getD rfl
theorem U4(v:A.units+1<ju)(I:Inv X pins σ H s)(g:xf H a y o)(n:RelV y u)(p:RelV d r)(h:∀q t,Inv X pins σ H t->RelV (o.getD d) q->Q q t) :
  fO (fS X.prog X.w) A (call (.builtin "dict.get") [.ref a,u,r]) Q E s:=by
 rcases g with⟨i,k,e,j,l⟩|⟨i,k,b,e,j,eb,l⟩
 ·subst j;obtain⟨z,m,B,c,f⟩:=Ax I.uO e;refine mI ji f.typeIs kO (qo _ _ _) (meets_dict_get_default (uB X.prog X.w) a (zU n) m r) ⟨_,f.mapOf,h _ _ (I.tok _) ?_⟩;rw[l];exact(c.val k).getD p
 ·subst j;cases (show u=fZ b from n);obtain⟨z,m,x,c,f⟩:=BZ I.uO e;refine mI ji f.typeIs kO (qo _ _ _) (meetsH_dict_get_default (nV<|uB X.prog X.w) a b m r) ⟨jY v,k,x,Ah I.uO eb,f,h _ _ (I.tok _) ?_⟩;rw[l];exact(c.val k).getD p
end
def U5(e f:TE):TE:=λb H Q=>e b H λx c=>∃a,x=.ref a/\Ys c a/\f b c λy d=>∃o,xf d a y o/\Q (o.getD .vC) d
def U6(e f g:TE):TE:=λb H Q=>e b H λx c=>∃a,x=.ref a/\Ys c a/\f b c λy h=>g b h λz d=>∃o,xf d a y o/\Q (o.getD z) d
def U7(f g:TE):TE:=λc H Q=>f c H λx d=>∃a,x=.ref a/\Ys d a/\g c d λy e=>∃b k v,e a=some (.dK b)/\y=kV k/\xn b k=some v/\Q v (upd e a<|.dK<|y8 b k)
section
variable{X:Cx}{o e f:gA}{apos cpos:Pos}{td ty tx:TE}
theorem NC(p:X.A.units+1<ju)(q:PE X o td)(r:PE X e ty)(m:M1 X o "get" apos e cpos):PE X (.Call (.Attribute o "get" apos) [e] [] cpos) (U5 td ty):=by intro b s l H Q I h;refine qd m.base m.Yr m.line mJ ji qK<|uL (q b s l H _ I h) λu t c=>ut c λx H1 n v i=>ux i λa w d z=>?_;subst w;obtain rfl:u=fZ a:=v;refine yi (II n d) λB C _=>?_;refine⟨B,C,?_⟩;rw[m.trees];refine je rfl<|iE<|i5<|uL (r b t l H1 _ n z) λK L c=>ut c λy H2 D E j=>tX j λM g G=>jT ?_;exact U1 p D g E λN O J k=>⟨_,H2,J,k,G⟩
theorem ND(p:X.A.units+1<ju)(q:PE X o td)(r:PE X e ty)(t:PE X f tx)(m:M2 X o "get" apos e f cpos):PE X (.Call (.Attribute o "get" apos) [e,f] [] cpos) (U6 td ty tx):=by
 intro b s i H Q I h;refine qd m.base m.Yr m.line mJ ji qK<|uL (q b s i H _ I h) λu v c=>ut c λx H1 n w j=>ux j λa B d C=>?_;subst B;obtain rfl:u=fZ a:=w;refine yi (II n d) λD E _=>?_;refine⟨D,E,?_⟩;rw[m.trees]
 refine je rfl (iE (i5 (uL (r b v i H1 _ n C) λR G c=>ut c λy H2 J K L =>
  i5 (uL (t b G i H2 _ J L) λS T c=>ut c λz H3 M N k=>tX k λU g O=>jT ?_))))
 exact U4 p M g K N λV W P l=>⟨_,H3,P,l,O⟩
theorem NE(q:PE X o td)(r:PE X e ty)(m:M1 X o "pop" apos e cpos):PE X (.Call (.Attribute o "pop" apos) [e] [] cpos) (U7 td ty):=by intro b s n H Q I h;refine qd m.base m.Yr m.line mJ qJ PySem.F.type_dict_pop<|uL (q b s n H _ I h) λu t g=>ut g λx H1 p w i=>ux i λa z d A=>?_;subst z;obtain rfl:u=fZ a:=w;refine yi (II p d) λB C _=>?_;refine⟨B,C,?_⟩;rw[m.trees];refine je rfl<|iE<|i5<|uL (r b t n H1 _ p A) λN O g=>ut g λy H2 D E c=>xU c λG k v J K l L=>jT ?_;subst K;exact WV D J E l (.inl rfl) λP R M j=>⟨v,_,M,j,L⟩
end
end L2
namespace Att
open PySem PySem.W PySem.Calls PyProof.Rows
theorem Cd:∀(c:List Int)(d:List cr),WellAll P h d (c.map WData.int)->jL d c:=by
 intro c
 induction c with
 | nil =>
  intro d w;rw[ny] at w;cases w;exact .nil
 | cons n c e =>
  intro d w;rw[gn] at w
  cases w with
  | cons a b =>
   cases a;exact .cons _ _<|e _ b
theorem LV{l:pF}{n:Nat}(p:l.most=some n) 
 (c:l.row.toRowW.claim.pre args=true) (j:WellAll P h vals args) :
    ∃a m b,vals=[fZ a]/\args=[WData.list<|b.map WData.int]/\h.get? a=some { cls:=.type "list",data:=.seq m.toArray}/\jL m b/\b.length<=n:=by
  have k:WShape.hasAll [] args [.list .int]=true:=(pre_splitW c).1
  have o:l.pre.holds [] { args:=args}=true:=(pre_splitW c).2
  obtain⟨d,r,rfl,s,t⟩:=hasAllW_cons k
  obtain rfl:=hasAllW_nil t
  obtain⟨z,rfl,u⟩:=hasW_list s
  obtain⟨b,rfl⟩:=items_int u
  have e:b.length<=n:=by
    unfold OpenLaw.pre at o
    have g:(WTm.not<|.lt (.lit<|.int (n:Int))<|.len<|.arg 0).holds [] { args:=[.list<|b.map .int]}=true:=by
      have g:=(holds_andW o).1
      rw[p] at g
      exact g
    have i:=condW_of g<|w_not<|w_lt w_lit<|w_len_list<|w_arg rfl
    rw[fN] at i
    refine pP λq=>?_
    have v:(n:Int)<((b.length:Nat):Int):=by omega
    first
      | (rw[decide_eq_true v] at i;exact fY i q0q)
      | (simp at i;omega)
  cases j with
  | cons w x =>
    cases x
    cases w with
    | list y f=>exact⟨_,_,b,rfl,rfl,y,Cd b _ f,e⟩
theorem LW(l:pF)(args:List WData):l.row.toRowW.claim.post args (.bool true) args=true :=
 postW_of (r:=l.row.toRowW) (X:=(true==true))
  (show WShape.has [] (.bool true) .bool=true by first|rfl|decide|simp[WShape.has,WShape.arms,WShape.armsAll])
  (show (WTm.eq .res<|.lit<|.bool true).value [] { args:=args,res:=some<|.bool true,after:=args}=some (.bool<|true==true) from w_eq_bool (w_res rfl) w_lit) rfl
theorem Hc{l:pF}{n:Nat}{d:DefRec}
 (E:l.most=some n) (x:d.params.defaults=[])
 (call:∀(w:gu)(c b:fH)(s y:Str->Option cr)(j:ci)(o:Obj)(pm t e:cr)(a:ci)(i:List cr)(u:List Int),
 Ground q g [] F w c s y b.heap->H w b.heap ->
 b.heap.get? j=some o->o.data=.func (docDef d.name d.params d.body d.scope pm t e)->b.heap.CodeRec t d.name->s d.name=some (.ref j) ->
 b.heap.get? a=some { cls:=.type "list",data:=.seq i.toArray}->jL i u->u.length<=n->b.gens=#[] ->
 kW (fS l.prog w) qe (.call (.ref j) ⟨[.ref a],[]⟩) (λr v=>r=.ok (.ret (.bool true))/\OldK b.heap v.heap/\v.os=b.os/\lX v.gens) b) :
    tR q g F H l.row.toRowW d [] (λf i=>sw f i):=by
  intro w c b s y G Y j o pm t e I kV J hd z C A K args vals as k D L B M
  obtain rfl:I=.none:=Dflts.none C x
  obtain rfl:kV=.none:=Dflts.noKw C
  obtain⟨a,i,u,rfl,rfl,m,h,p⟩:=LV E k B
  refine enter_call<|iY (call w c b s y j o pm t e a i u G Y J (fd_plain hd) z A m h p K) λr v N=>?_
  obtain⟨rfl,O,P,Q⟩:=N
  exact⟨.inl ⟨.bool true,.bool true,[],rfl,λ_=>rfl,.bool true,LW l _,λ_=>⟨gx,λ_ R=>(nomatch R)⟩⟩,O,P,Q⟩
end Att
namespace L2
open PySem PySem.Spec PyProof.Rows
theorem Ep:∀{a:List cr} {b:List Int},jL a b->Vals (b.map V.int) a:=by
 intro _ _ z
 induction z with
 | nil=>exact .nil
 | cons n t h c=>exact .cons ⟨t,rfl⟩ c
def uX(s:gy):Arguments:=match s with
 | .FunctionDef _ a _ _ _ _ _ _ _ _=>a
 | _=>{ posonlyargs:=[],args:=[],vararg:=none,kwonlyargs:=[],kw_defaults:=[],kwarg:=none,defaults:=[]}
def uC(s:gy):List gy:=match s with
 | .FunctionDef _ _ b _ _ _ _ _ _ _=>b
 | _=>[]
def tY(s:gy):jO:=match s with
 | .FunctionDef _ _ _ _ _ _ sc _ _ _=>sc
 | _=>{ kind:=.function,names:=[],isGenerator:=false,isCoroutine:=false}
abbrev NF:LO:=λ_ _ _ _ _ _=>False
abbrev E0:XK:=λ_ _ _=>False
structure xY(K:fB)(x qual:Str)(st:gy)(f:ci)(fd:gF):Prop where
 ex:∃(oc:cr)(od:Option ci)(kV doc pm:cr)(an:Option ci)(Q7 ct:cr) (LX:Array (Option cr)),
  fd=iG x qual (uX st) (uC st) (tY st) .none kV doc pm an Q7 ct/\K.lookup f=some ⟨oc,od,.func fd,LX⟩/\iu K Q7 qual=true
 kp:h8 K (.ref f)=true
section
variable{P:gf}{w:gu}{K:fB}{mg:Str->Option cr}{base:gE}
theorem xY.ok{g:gy}{k:Nat}(F:xY K x c g f o)(S:ug N m (tY g))(i:∀d H Q E,n d H Q E->d.length=m.length)
 (e:∀(b:cr)(A:gJ)(a:List Env)(s:fH)(H:Hp)(d:List V)(Q:VK)(E:XK),vq k (A.deeper (m7 c (tY g) s.heap.objs.size f b))->n d H Q E ->
 ∃t,DT (uR NF P w K mg base N c (tY g) f b A a s H E).Yl (uC g) t/\t { nx:=λ_ p=>Q .vC p,rt:=Q} (start N d) H):uE P w K mg base NF (k+1) f o m n:=by
  obtain⟨y,z,B,r,C,D,b,G,u,rfl,lk,j⟩:=F.ex
  refine G4 lk j S i λA a s H d Q E v l=>?_
  refine tX (e b A a s H d Q E v l) λt h q=>?_
  exact⟨t,h.Yl,q⟩
theorem xY.binds{d:gy}{ps:List Str}(F:xY K x c d f l)
 (h:∀(e a g:cr)(i:Option ci)(b j:cr)(k:List cr),k.length=ps.length->rD (iG x c (uX d) (uC d) (tY d) .none e a g i b j) ⟨k,[]⟩=pure (ps.zip k)):Binds K l ps []:=by
  obtain⟨o,p,e,a,g,i,b,j,m,rfl,lk,n⟩:=F.ex
  exact .all<|h e a g i b j
theorem CW{st:gy}{e:cr}(l:K.lookup f=some ⟨j,m,.func<|iG x a (uX st) (uC st) (tY st) .none e d pm h b i,g⟩)
 (c:iu K b a=true)(k:h8 K (.ref f)=true):xY K x a st f (iG x a (uX st) (uC st) (tY st) .none e d pm h b i):=⟨⟨j,m,e,d,pm,h,b,i,g,rfl,l,c⟩,k⟩
end
theorem LY{n:Nat}(h:n<=1000):n<fK:=mu h q0q
section
variable{X:Cx}
theorem pv(i:Nat)(b:X.N[i]?=some x:=by rfl)(c:YU X.env.scope x:=by first|exact gc rfl|exact Or.inr (gc rfl)|exact Or.inr<|Or.inr rfl)(d:(x==("__debug__":Str))=false:=by decide)
 (a:(x==("__classdict__":Str))=false:=by decide):PE X (.Name x pos) (uH i):=Ih b c d a
theorem LZ:xJ X (.builtin "len") (λc H Q=>∃a b,c=[V.ref a]/\H a=some (.dK b)/\Q (.int b.length) H):=by intro d s i H c j Q I r h;obtain⟨a,b,rfl,e,q⟩:=h;obtain⟨u,rfl,f⟩:=vals1 r;cases f;exact WX I (.inl e) λt k g=>⟨.int b.length,H,g,⟨t,rfl⟩,q⟩
end
theorem Zr{A B:Prop}(h:A):if true=true then A else B:=by rw[fE rfl];exact h
theorem Q8{c A B:Prop}[Decidable c](a:c->A)(b:¬c->B):if c then A else B:=by
 by_cases h:c
 ·rw[fE h];exact a h
 ·rw[fF h];exact b h
def Ce(H a:Hp):Prop:=∀b o,H b=some o->a b=some o
theorem Ce.trans{d e:Hp}(a:Ce H d)(b:Ce d e):Ce H e:=λc o h=>b c o<|a c o h
theorem Ce.free(e:Ce H a)(h:a l=Option.none):H l=Option.none:=by
 cases q:H l with
 | none=>rfl
 | some o =>
  rw[e l o q] at h;cases h
theorem Ce.seq{K:fB}(e:Ce H b)(h:vn K H a c):vn K b a c:=by
 rcases h with(h|⟨o,h⟩)|h
 ·exact .inl<|.inl<|e _ _ h
 ·exact .inl<|.inr ⟨o,e _ _ h⟩
 ·exact .inr h
end L2
namespace SX
open PySem
def yO(a:Array Nat):Prop:=a.toList.Pairwise (· < ·)
theorem Co(r:yO c){i j a b:Nat}(d:c.toList[i]?=some a)(e:c.toList[j]?=some b)(h:i<j):a<b:=by obtain⟨f,g⟩:=List.getElem?_eq_some_iff.mp d;obtain⟨k,l⟩:=List.getElem?_eq_some_iff.mp e;have:=List.pairwise_iff_getElem.mp r i j f k h;rw[g,l] at this;exact this
theorem Q9(f:Array Nat)(j:Nat)(r:yO f):∀(b d c:Nat),d<=c->c<=f.size->c-d<=b ->
  (∀i a,i<d->f.toList[i]?=some a->a<j)->(∀i a,c<=i->f.toList[i]?=some a->j<=a) ->
  lE f j b d c<=f.size/\(∀i a,i<lE f j b d c->f.toList[i]?=some a->a<j) /\
   (∀i a,lE f j b d c<=i->f.toList[i]?=some a->j<=a):=by
 intro b
 induction b with
 | zero =>
  intro d c t k u l m;have e:d=c:=by omega
  subst e;exact⟨k,l,m⟩
 | succ b s =>
  intro d c t k u l m;unfold lE;by_cases h:d<c
  ·rw[fE h];dsimp only;have w:(d+c) / 2<c:=by omega
   have v:d<=(d+c) / 2:=by omega
   have n:(d+c) / 2<f.size:=by omega
   have g:f.toList[(d+c) / 2]?=some (f.getD ((d+c) / 2) j):=by rw[gI,jU];rw[io n];rfl
   by_cases o:f.getD ((d+c) / 2) j<j
   ·rw[fE o];refine s _ _ q0d k q0d (λi a p e=>?_) m;by_cases q:i=(d+c) / 2
    ·subst q;rw[g] at e;cases e;exact o
    ·have:=Co r e g q0d;omega
   ·rw[fF o];refine s _ _ q0d q0d q0d l<|λi a p e=>?_;by_cases q:i=(d+c) / 2
    ·subst q;rw[g] at e;cases e;omega
    ·have:=Co r g e q0d;omega
  ·rw[fF h];have e:d=c:=by omega
   subst e;exact⟨k,l,m⟩
theorem yq(r:yO b)(j:Nat):f8 b j<=b.size/\(∀i a,i<f8 b j->b.toList[i]?=some a->a<j) /\
  (∀i a,f8 b j<=i->b.toList[i]?=some a->j<=a):=by
 refine Q9 b j r b.size 0 b.size (g9 _) (fJ _) q0a (λi a h=>by lia)<|λi a h e=>?_;have:=(List.getElem?_eq_some_iff.mp e).1;rw[fR] at this
 lia
theorem below_at(r:yO b){i j:Nat}(h:b.toList[i]?=some j):f8 b j=i:=by
 obtain⟨f,c,d⟩:=yq r j;rcases tO (f8 b j) i with q|q|q
 ·cases e:b.toList[f8 b j]? with
  | none =>
   have:=List.getElem?_eq_none_iff.mp e;have:=(List.getElem?_eq_some_iff.mp h).1
   lia
  | some a =>
   have:=Co r e h q;have:=d _ a (fJ _) e
   lia
 ·exact q
 ·have:=c i j q h
  lia
theorem IJ(r:yO b){i j:Nat}(h:b.toList[i]?=some j):f8 b (j+1)=i+1:=by
 obtain⟨f,c,d⟩:=yq r<|j+1;rcases tO (f8 b<|j+1) (i+1) with q|q|q
 ·have:=d i j q0a h
  lia
 ·exact q
 ·cases e:b.toList[i+1]? with
  | none =>
   have:=List.getElem?_eq_none_iff.mp e;rw[fR] at this
   lia
  | some a =>
   have:=Co r h e q0a;have:=c (i+1) a q e
   lia
theorem IK(r:yO b):f8 b 0=0:=by
 obtain⟨f,d,g⟩:=yq r 0
 cases e:f8 b 0 with
 | zero=>rfl
 | succ k =>
  cases c:b.toList[0]? with
  | none =>
   have:=List.getElem?_eq_none_iff.mp c;rw[fR] at this
   lia
  | some a =>
   have:=d 0 a q0a c
   lia
theorem toList_erase(a:Array b)(p:Nat):(gY a p).toList=a.toList.take p++a.toList.drop (p+1):=by unfold gY;rw[oA,lF,lF];simp[iq]
theorem CY(a:Array b)(p:Nat)(x:b):(hZ a p x).toList=a.toList.take p++x::a.toList.drop p:=by unfold hZ;rw[oA,oW,lF,lF];simp[iq]
theorem IL(r:yO a)(p:Nat):yO (gY a p):=by
 unfold yO;rw[toList_erase];refine List.Pairwise.sublist ?_ r
 conv=>rhs;rw[<- rJ p a.toList]
 exact List.Sublist.append (List.Sublist.refl _)<|List.drop_sublist_drop_left _<|kh p
theorem NG(r:yO c){j:Nat}(f:j∉c.toList):yO (hZ c (f8 c j) j):=by
 obtain⟨t,g,h⟩:=yq r j;unfold yO;rw[CY];have k:(c.toList.take (f8 c j)++c.toList.drop (f8 c j)).Pairwise (· < ·):=by rw[rJ];exact r
 obtain⟨l,m,n⟩:=List.pairwise_append.mp k
 have o:∀a∈c.toList.take (f8 c j),a<j:=λa d=>by
  obtain⟨i,e⟩:=j9 d;rw[sK] at e;split at e
  ·exact g i a (by assumption) e
  ·cases e
 have p:∀a∈c.toList.drop (f8 c j),j<a:=λa d=>by
  obtain⟨i,e⟩:=j9 d;rw[sL] at e;have:=h _ a (m9 _ i) e;have:j≠a:=λq=>f (by rw[q];exact List.mem_of_mem_drop d)
  lia
 refine List.pairwise_append.mpr ⟨l,List.pairwise_cons.mpr ⟨p,m⟩,λa d b s=>?_⟩;rcases List.mem_cons.mp s with q|q
 ·rw[q];exact o a d
 ·exact n a d b q
theorem L0{t:iH}(r:yO t.place){j:Nat}(h:∀i,t.slot j≠.live i):j∉t.place.toList:=λa=>by obtain⟨i,e⟩:=j9 a;have b:=below_at r e;refine h (f8 t.place j) ?_;unfold pX;dsimp only;rw[fE];rw[b,<- gI,e];simp
theorem IM{t:iH}{h:Int}:∀(b:Nat)(p:jV),(∀d,p.dummy=some d->∀i,t.slot d≠.live i) ->
  ∀j c,iN t o h b p=some (.empty j c)->∀i,t.slot (c.getD j)≠.live i:=by
 intro b
 induction b with
 | zero=>intro p _ j c e;cases e
 | succ b f =>
  intro p g j c e;unfold iN at e
  cases q:t.slot p.j with
  | empty =>
   rw[q] at e;dsimp only at e;injection e with e;injection e with l m;subst l m
   cases n:p.dummy with
   | none=>intro i z;rw[o8,q] at z;cases z
   | some d=>exact g d n
  | dummy =>
   rw[q] at e;dsimp only at e;refine f _ (λd a i z=>?_) j c e
   have:d=p.j:=by
    unfold j1 at a;split at a
    ·injection a with a;exact a.symm
    ·injection a with a;exact a.symm
   rw[this,q] at z;cases z
  | live k =>
   rw[q] at e;dsimp only at e;split at e
   ·cases e
   ·refine f _ (λd a=>?_) j c e
    have:p.dummy=some d:=by unfold j1 at a;split at a<;>exact a
    exact g d this
set_option tactic.hygienic true in
theorem Hd{t:iH}{h:Int}{j:Nat}{b:Bool}(r:yO t.place)(e:t.freeSlot h=some (j,b)):j∉t.place.toList:=by
 refine L0 r ?_;unfold oH pI at e;split at e
 ·rename_i a c f
  injection e with e;injection e with g i;subst g;exact IM _ _ (λd q=>by cases q) a c f
 ·cases e
theorem Bk{c k l:Nat}{d i:Bool}(e:mi c k l d i m=some (t,n)) :
  yO t.place/\t.led=d/\t.plain=i/\t.mask=c/\t.dummies=#[]/\t.place.size=n.size:=by
 unfold mi at e
 cases q:oJ c m with
 | none=>rw[q] at e;cases e
 | some j =>
  rw[q] at e;injection e with e;injection e with o p;subst o p;refine⟨?_,rfl,rfl,rfl,rfl,q0o⟩;unfold yO;dsimp only;rw[sM];show List.Pairwise (· < ·) (List.filterMap _ _);rw[List.pairwise_filterMap];refine nJ ?_ ro;intro a b f x r y s
  have g:x=a:=by revert r;cases (j.getD a none)<;>simp;intro z;exact z.symm
  have h:y=b:=by revert s;cases (j.getD b none)<;>simp;intro z;exact z.symm
  subst g h;exact f
def MW(m i:Nat):Nat:=(i*5+1)%(m+1)
def NH(m:Nat):Nat->Nat->Nat
 | 0,i=>i
 | n+1,i=>NH m n<|MW m i
def Zs(m:Nat):Nat->Nat->List Nat
 | 0,_=>[]
 | n+1,i=>i::Zs m n (MW m i)
theorem E7(m a b i:Nat):NH m (a+b) i=NH m b (NH m a i):=by
 induction a generalizing i with
 | zero=>rw[rK];rfl
 | succ a c=>rw[Nat.succ_add];exact c _
theorem Rc(m:Nat):∀(n i k:Nat),k∈Zs m n i->∃a,a<n/\NH m a i=k:=by
 intro n
 induction n with
 | zero=>intro i k h;cases h
 | succ n b =>
  intro i k h;rcases List.mem_cons.mp h with q|q
  ·exact⟨0,q0a,q.symm⟩
  ·obtain⟨a,c,e⟩:=b _ _ q;exact⟨a+1,q0a,e⟩
def E8(m:Nat):Bool:=NH m (m+1) 0==0&&(gl<|m+1).all λk=>(Zs m (m+1) 0).contains k
theorem Er{m:Nat}(h:E8 m=true):∀i k,i<=m->k<=m->∃n,n<=m/\NH m n i=k:=by
 obtain⟨d,j⟩:=Bool.and_eq_true_iff.mp h;have d:NH m (m+1) 0=0:=by simpa using d
 have c:∀k,k<=m->∃a,a<m+1/\NH m a 0=k:=λk e=>by have:=List.all_eq_true.mp j k<|List.mem_range.mpr q0d;exact Rc m _ _ _ (by simpa using this)
 intro i k l e;obtain⟨a,p,f⟩:=c i l;obtain⟨b,q,g⟩:=c k e;by_cases o:a<=b
 ·refine⟨b-a,q0d,?_⟩;rw[<- f,<- E7,show a+(b-a)=b by omega,g]
 ·refine⟨m+1-a+b,q0d,?_⟩;rw[<- f,<- E7,show a+(m+1-a+b)=(m+1)+b by omega,E7,d,g]
theorem Es{m i:Nat}(h:i<=m):hW m i<=m/\i<=hW m i:=by unfold hW;split<;>lia
set_option tactic.hygienic true in
theorem Re{m:Nat}:∀(a i p:Nat),i<=m->∀j,hO m c a i p=some j->j<=m/\c.getD j (some 0)=none:=by
 intro a
 induction a with
 | zero=>intro i p _ j e;cases e
 | succ a d =>
  intro i p f j e;unfold hO at e;split at e
  ·rename_i k b
   injection e with e;subst e;have g:=List.find?_some b;have h:=List.mem_range.mp<|List.mem_of_find?_eq_some b;have:=Es f;refine⟨q0d,?_⟩;simpa[Option.isNone_iff_eq_none] using g
  ·dsimp only at e;refine d _ _ ?_ j e;show (iJ m i p).1<=m;unfold iJ;have:=mw (i*5+1+p / 32)<|l9 m;exact ja this
set_option tactic.hygienic true in
theorem IN{m:Nat}{b:Array (Option Nat)}{k:Nat}(d:b.getD k (some 0)=none):∀(n a i:Nat),i<=m->n<a->NH m n i=k->∃j,hO m b a i 0=some j:=by
 intro n
 induction n with
 | zero =>
  intro a i c g e;obtain⟨a,rfl⟩:∃f,a=f+1:=⟨a-1,q0a⟩;have e:i=k:=e;subst e;unfold hO;split
  ·exact⟨_,rfl⟩
  ·rename_i q
   have:=List.find?_eq_none.mp q 0<|List.mem_range.mpr (by have:=(Es c).2;lia);rw[Nat.add_zero,d] at this;exact fY rfl this
 | succ n h =>
  intro a i c g e;obtain⟨a,rfl⟩:∃f,a=f+1:=⟨a-1,q0a⟩;unfold hO;split
  ·exact⟨_,rfl⟩
  ·dsimp only
   have l:iJ m i 0=(MW m i,0):=by unfold iJ MW;simp
   rw[l];exact h a (MW m i) (ja<|mw _<|l9 m) q0a e
theorem L4{m:Nat}{h:Array (Option Nat)}(l:E8 m=true){k:Nat}(d:k<=m)(o:h.getD k (some 0)=none):∀(c a i p:Nat),i<=m->p<32 ^ c->c+m+1<=a->∃j,hO m h a i p=some j:=by
 intro c
 induction c with
 | zero =>
  intro a i p g b q;have:p=0:=by rw[Nat.pow_zero] at b;lia
  subst this;obtain⟨n,s,e⟩:=Er l i k g d;exact IN o n a i g q0a e
 | succ c r =>
  intro a i p g b q;obtain⟨a,rfl⟩:∃f,a=f+1:=⟨a-1,q0a⟩;unfold hO;split
  ·exact⟨_,rfl⟩
  ·dsimp only;unfold iJ;dsimp only;refine r a _ (p / 32) (ja<|mw _<|l9 m) ?_ q0a;rw[Nat.pow_succ] at b;exact sx (by rw[Nat.mul_comm];exact b)
theorem NI(x:Nat):∀(l:List (Option Nat)) (j:Nat),l[j]?=some none->((l.set j<|some x).filterMap id).Perm (x::l.filterMap id):=by
 intro l
 induction l with
 | nil=>intro j h;simp at h
 | cons a l b =>
  intro j h
  cases j with
  | zero =>
   have:a=none:=by simpa using h
   subst this;simp
  | succ j =>
   have c:l[j]?=some none:=by simpa using h
   cases a with
   | none=>simpa using b j c
   | some y =>
    have:=b j c;simp only[List.set_cons_succ,jd,id];exact(nc y this).trans<|List.Perm.swap x y _
theorem has_none:∀(l:List (Option Nat)),(l.filterMap id).length<l.length->∃j:Nat,l[j]?=some none:=by
 intro l
 induction l with
 | nil=>intro h;simp at h
 | cons a l b =>
  intro h
  cases a with
  | none=>exact⟨0,rfl⟩
  | some y =>
   obtain⟨j,e⟩:=b (by simpa using h);exact⟨j+1,by simpa using e⟩
theorem Kw(h:Int):hR h<32 ^ 13:=by
 unfold hR;have b:h%(2 ^ 64:Int)<2 ^ 64:=kP _ q0q;have c:0<=h%(2 ^ 64:Int):=lS _ q0q;have a:(h%(2 ^ 64:Int)).toNat<2 ^ 64:=by lia
 exact ga a q0q
theorem NJ{m:Nat}(w:E8 m=true):∀(c:List Int) (a:Array (Option Nat)) (k:Nat),a.size=m+1->(a.toList.filterMap id).Perm (gl k)->k+c.length<=m ->
  ∃b,(c.foldl (init:=some (a,k)) λi h=>do
   let (owner,k) <- i
   let j <- hO m owner (jv m) (hR h%(m+1)) (hR h)
   pure (owner.setIfInBounds j (some k),k+1))=some (b,k+c.length)/\b.size=m+1/\(b.toList.filterMap id).Perm (gl (k+c.length)):=by
 intro c
 induction c with
 | nil=>intro a k d g r;exact⟨a,rfl,d,g⟩
 | cons h c x =>
  intro a k d g r
  have e:(a.toList.filterMap id).length<a.toList.length:=by
   rw[g.length_eq,jZ,fR,d]
   lia
  obtain⟨s,t⟩:=has_none _ e
  have l:s<m+1:=by have:=(List.getElem?_eq_some_iff.mp t).1;rw[fR,d] at this;exact this
  have n:a.getD s (some 0)=none:=by rw[jU,<- gI,t];rfl
  have u:hR h%(m+1)<=m:=ja<|mw _<|l9 m;obtain⟨j,v⟩:=L4 w (ja l) n 13 (jv m) (hR h%(m+1)) (hR h) u (Kw h) (by unfold jv;lia);obtain⟨y,f⟩:=Re _ _ _ u j v
  have o:a.toList[j]?=some none:=by
   rw[jU] at f;rw[gI]
   cases q:a[j]? with
   | none=>rw[q] at f;cases f
   | some z=>rw[q] at f;have p:z=none:=f;rw[p]
  obtain⟨b,A,B,C⟩:=x (a.setIfInBounds j (some k)) (k+1) (by rw[Array.size_setIfInBounds];exact d) (by
   rw[Array.toList_setIfInBounds];refine(NI k _ _ o).trans<|(nc k g).trans ?_;rw[List.range_succ]
   exact(lm (l₁:=[k]) (l₂:=gl k))) (by simp at r;lia)
  refine⟨b,?_,B,?_⟩
  ·rw[nK]
   have:(do
     let (owner,k) <- some (a,k)
     let j <- hO m owner (jv m) (hR h%(m+1)) (hR h)
     pure (owner.setIfInBounds j (some k),k+1))=some (a.setIfInBounds j (some k),k+1):=by
    show (hO m a (jv m) (hR h%(m+1))<|hR h).bind _=_;rw[v];rfl
   rw[this,A];simp only[gk];congr 2
   lia
  ·rw[gk,show k+(c.length+1)=k+1+c.length by lia];exact C
theorem L5(l:List (Option Nat)):(gl l.length).map (λj=>l.getD j none)=l:=by
 apply pc;intro i;by_cases h:i<l.length
 ·simp[il,h]
 ·rw[List.getElem?_eq_none_iff.mpr (by simpa using pP h),List.getElem?_eq_none_iff.mpr<|pP h]
theorem Bl{m fg mv:Nat}{led pl:Bool}{hs:Array Int}(c:E8 m=true)(d:hs.size<=m):∃t b,mi m fg mv led pl hs=some (t,b)/\b.toList.Perm (gl hs.size):=by
 obtain⟨a,e,s,p⟩:=NJ c hs.toList (Array.replicate (m+1) none) 0 q0o q0o (by simpa using d)
 have f:oJ m hs=some a:=by unfold oJ;rw[<- Array.foldl_toList];exact congrArg (sf Prod.fst) e
 refine⟨_,_,by unfold mi;rw[f];rfl,?_⟩;dsimp only;rw[sM]
 have q:(gl<|m+1).filterMap (λj=>sf (λx:Nat×Nat=>x.2)<|sf (λx=>(j,x))<|a.getD j none)=a.toList.filterMap id:=by
  conv=>rhs;rw[<- L5 a.toList]
  rw[sJ,fR,s];congr 1
  funext j
  simp only[tD,id,Option.map_map];rw[jU,il,gI];cases (a[j]?.getD none)<;>rfl
 refine List.Perm.trans (sg q) ?_;simpa using p
theorem picked{es:Array (Int×cr)}{a:Array Nat}(h:a.toList.Perm (gl es.size)):(a.filterMap (es[·]?)).toList.Perm es.toList:=by
 rw[Array.toList_filterMap];refine(List.Perm.filterMap _ h).trans<|sg ?_;apply pc;intro i
 have:(gl es.size).filterMap (λx=>es[x]?)=es.toList:=by
  have e:(gl es.size).filterMap (λx=>es[x]?)=(gl es.toList.length).filterMap (λx=>es.toList[x]?):=by simp
  rw[e];exact List.filterMap_getElem?_range_length es.toList
 rw[this]
theorem Zt:E8 7=true:=by decide +kernel
theorem W3:E8 15=true:=by decide +kernel
theorem W4:E8 31=true:=by decide +kernel
theorem W5:E8 63=true:=by decide +kernel
theorem U8:E8 127=true:=by decide +kernel
theorem U9:E8 255=true:=by decide +kernel
theorem Va:E8 511=true:=by decide +kernel
def QG(t:iH)(h:Int)(a:Nat)(p:jV):Prop:=∃j d,iN t (λ_=>h+1) h a p=some (.empty j d)
def begin_(m i a:Nat)(b:Option Nat):jV:={ j:=i,more:=hW m i-i,i:=i,perturb:=a,dummy:=b}
theorem Kx{h:Int}:∀(k a:Nat)(p:jV),p.more=k->(∀b,QG t h a<|begin_ t.mask (iJ t.mask p.i p.perturb).1 (iJ t.mask p.i p.perturb).2 b)->QG t h (a+k+1) p:=by
 intro k
 induction k with
 | zero =>
  intro a p g d
  have c:∀b,t.advance { p with dummy:=b}=begin_ t.mask (iJ t.mask p.i p.perturb).1 (iJ t.mask p.i p.perturb).2 b:=λb=>by unfold j1;rw[fF<|by show ¬p.more>0;lia];rfl
  unfold QG iN
  cases q:t.slot p.j with
  | empty=>exact⟨_,_,rfl⟩
  | dummy=>dsimp only;rw[c];exact d _
  | live i =>
   dsimp only;rw[fF<|by simp;lia];have:=c p.dummy;have e:({ p with dummy:=p.dummy}:jV)=p:=rfl;rw[e] at this;rw[this];exact d _
 | succ k l =>
  intro a p g d
  have f:∀b,QG t h (a+k+1) (t.advance { p with dummy:=b}):=λb=>by
   have e:t.advance { p with dummy:=b}={ p with j:=p.j+1,more:=p.more-1,dummy:=b}:=by unfold j1;rw[fE<|by show p.more>0;lia]
   rw[e];exact l a _ (by show p.more-1=k;lia) d
  unfold QG iN
  cases q:t.slot p.j with
  | empty=>exact⟨_,_,rfl⟩
  | dummy=>exact f _
  | live i =>
   dsimp only;rw[fF<|by simp;lia];exact f p.dummy
theorem Rf{t:iH}{h:Int}{p:jV}(e:t.slot p.j=.empty)(a:Nat):QG t h (a+1) p:=by unfold QG iN;rw[e];exact⟨_,_,rfl⟩
theorem Ky(m i:Nat):hW m i-i<=9:=by unfold hW;split<;>lia
theorem Zu{t:iH}{h:Int}{k:Nat}(d:t.slot k=.empty):∀(n i a:Nat),NH t.mask n i=k->10*(n+1)<=a->∀c,QG t h a (begin_ t.mask i 0 c):=by
 intro n
 induction n with
 | zero =>
  intro i a e g c;obtain⟨f,rfl⟩:∃f,a=f+1:=⟨a-1,q0a⟩;have e:i=k:=e;subst e;exact Rf d f
 | succ n j =>
  intro i a e g c;have m:=Ky t.mask i
  have z:=Kx (t:=t) (h:=h) (hW t.mask i-i) (a-(hW t.mask i-i)-1) (begin_ t.mask i 0 c) rfl (λb=>by
   have l:iJ t.mask i 0=(MW t.mask i,0):=by unfold iJ MW;simp
   show QG t h _ (begin_ t.mask (iJ t.mask i 0).1 (iJ t.mask i 0).2 b);rw[l]
   exact j (MW t.mask i) _ e q0a b)
  rw[show a-(hW t.mask i-i)-1+(hW t.mask i-i)+1=a by lia] at z;exact z
theorem Zv{t:iH}{h:Int}{k:Nat}(m:E8 t.mask=true)(g:k<=t.mask)(o:t.slot k=.empty):∀(c i b a:Nat),i<=t.mask->b<32 ^ c->10*(c+t.mask+1)<=a->∀d,QG t h a (begin_ t.mask i b d):=by
 intro c
 induction c with
 | zero =>
  intro i b a l f p d;have:b=0:=by rw[Nat.pow_zero] at f;lia
  subst this;obtain⟨n,r,e⟩:=Er m i k l g;exact Zu o n i a e q0a d
 | succ c q =>
  intro i b a l f p d;have s:=Ky t.mask i
  have z:=Kx (t:=t) (h:=h) (hW t.mask i-i) (a-(hW t.mask i-i)-1) (begin_ t.mask i b d) rfl (λj=>by
   refine q _ _ _ (ja<|mw _<|l9 _) ?_ q0a j;show b / 32<32 ^ c;rw[Nat.pow_succ] at f
   exact sx (by rw[Nat.mul_comm];exact f))
  rw[show a-(hW t.mask i-i)-1+(hW t.mask i-i)+1=a by lia] at z;exact z
theorem xZ[DecidableEq d]:∀(l m:List d),l.Nodup->(∀x∈l,x∈m)->l.length<=m.length:=by
 intro l
 induction l with
 | nil=>intro m _ _;exact g9 _
 | cons x r e =>
  intro m f b;obtain⟨g,h⟩:=List.nodup_cons.mp f;have a:=b x fM;have i:=e (m.erase x) h λy c=>(List.mem_erase_of_ne<|λ(z:y=x)=>g<|by rw[<- z];exact c).mpr<|b y<|fP _ c;rw[List.length_erase_of_mem a] at i;have:0<m.length:=List.length_pos_of_mem a;rw[gk];omega
theorem He(l:List Nat)(m:Nat)(h:l.length<=m):∃j,j<=m/\j∉l:=by
 refine pJ λb=>?_;have a:∀j,j<=m->j∈l:=λj c=>pJ λq=>b ⟨j,c,q⟩;have:=xZ (gl<|m+1) l List.nodup_range λx d=>a x<|ja<|List.mem_range.mp d;rw[jZ] at this
 lia
theorem IP{t:iH}{n:Nat}(e:t.fits n=true):∃j,j<=t.mask/\t.slot j=.empty:=by
 have c:t.place.size+t.dummies.size<=t.mask:=by simp only[tE,gK,gS] at e;exact e.2
 obtain⟨j,f,d⟩:=He (t.place.toList++t.dummies.toList) t.mask (by simpa using c);refine⟨j,f,?_⟩;rw[kJ,oX] at d
 have b:∀(a:Array Nat),j∉a.toList->(a[f8 a j]?==some j)=false:=λa g=>by
  cases q:a[f8 a j]? with
  | none=>rfl
  | some x =>
   have h:x∈a.toList:=by rw[<- gI] at q;exact iP q
   have:x≠j:=λz=>g<|z▸h;simp[this]
 unfold pX;dsimp only;rw[b _ d.1];unfold jq;rw[b _ d.2];rfl
theorem DX{t:iH}{n:Nat}(c:E8 t.mask=true)(f:t.fits n=true)(h:Int):∃j b,t.freeSlot h=some (j,b):=by obtain⟨k,a,g⟩:=IP f;obtain⟨j,d,e⟩:=Zv (h:=h) c a g 13 (hR h%(t.mask+1)) (hR h) (10*jv t.mask) (ja<|mw _<|l9 _) (Kw h) (by unfold jv;lia) none;refine⟨d.getD j,d.isSome,?_⟩;unfold oH pI SetTable.probeStart;dsimp only;have l:iN t (λ_=>h+1) h (10*jv t.mask) { j:=hR h%(t.mask+1),more:=hW t.mask (hR h%(t.mask+1))-hR h%(t.mask+1),i:=hR h%(t.mask+1),perturb:=hR h,dummy:=none}=some (.empty j d):=e;rw[l]
theorem Hf{t:iH}{h:Int}:∀(b:Nat)(p:jV),(∀d,p.dummy=some d->jq t.dummies d=true) ->
  ∀j d,iN t l h b p=some (.empty j<|some d)->jq t.dummies d=true:=by
 intro b
 induction b with
 | zero=>intro p _ j d e;cases e
 | succ b f =>
  intro p g j d e;unfold iN at e
  cases q:t.slot p.j with
  | empty =>
   rw[q] at e;dsimp only at e;injection e with e;injection e with m i;exact g d i
  | dummy =>
   rw[q] at e;dsimp only at e;refine f _ (λc a=>?_) j d e
   have:c=p.j:=by
    unfold j1 at a;split at a
    ·injection a with a;exact a.symm
    ·injection a with a;exact a.symm
   rw[this];unfold pX at q;dsimp only at q;split at q
   ·cases q
   ·split at q
    ·assumption
    ·cases q
  | live k =>
   rw[q] at e;dsimp only at e;split at e
   ·cases e
   ·refine f _ (λc a=>?_) j d e
    have:p.dummy=some c:=by unfold j1 at a;split at a<;>exact a
    exact g c this
set_option tactic.hygienic true in
theorem CZ{t:iH}{h:Int}{j:Nat}(e:t.freeSlot h=some (j,true)):jq t.dummies j=true:=by
 unfold oH pI at e;split at e
 ·rename_i a b c
  injection e with e;injection e with f g
  cases b with
  | none=>cases g
  | some d =>
   subst f;exact Hf _ _ (λd q=>by cases q) a d c
 ·cases e
theorem NK{j:Nat}(h:jq a j=true):f8 a j<a.size:=by
 unfold jq at h;have b:a[f8 a j]?=some j:=by simpa using h
 exact(Array.getElem?_eq_some_iff.mp b).1
theorem Ai(a:Array b)(p:Nat)(h:p<a.size):(gY a p).size=a.size-1:=by
 rw[<- fR,toList_erase,fV,kj,lq,fR]
 lia
theorem x8(a:Array b)(p:Nat)(x:b):(hZ a p x).size=a.size+1:=by rw[<- fR,CY,fV,gk,kj,lq,fR];omega
theorem wV{t:iH}{n:Nat}:t.fits n=true↔t.place.size=n/\t.place.size+t.dummies.size<=t.mask:=by unfold tE jJ;simp
def Good(m:Nat):Prop:=m=7\/m=15\/m=31\/m=63\/m=127\/m=255\/m=511
theorem Good.E8{m:Nat}(h:Good m):E8 m=true:=by
 rcases h with q|q|q|q|q|q|q<;>rw[q]
 ·exact Zt
 ·exact W3
 ·exact W4
 ·exact W5
 ·exact U8
 ·exact U9
 ·exact Va
theorem C0{n:Nat}(h:n<=511):Good (gO n-1)/\n<gO n:=by
 have q:((gl 512).all λn=>[8,16,32,64,128,256,512].contains (gO n)&&decide (n<gO n))=true:=by decide +kernel
 have q:=List.all_eq_true.mp q n<|List.mem_range.mpr q0a;obtain⟨q1,q2⟩:=Bool.and_eq_true_iff.mp q;refine⟨?_,by simpa using q2⟩;have q1:gO n=8\/gO n=16\/gO n=32\/gO n=64\/gO n=128\/gO n=256\/gO n=512:=by simpa using q1
 rcases q1 with e|e|e|e|e|e|e<;>rw[e]<;>unfold Good<;>decide
structure W6(t:iH)(n:Nat):Prop where
 fits:t.fits n=true
 rise:yO t.place
 plain:t.plain=true
 good:Good t.mask
 room:t.fill*5<t.mask*3
set_option tactic.hygienic true in
theorem Rh{t:iH}{c:Array (Int×cr)}{h:Int}{x:cr}(k:W6 t c.size)(q:c.size<=126) :
  ∃d g,layNew t c h x=(hZ c (f8 t.place ((t.freeSlot h).getD (0,false)).1) (h,x),d,g,false)/\d.led=t.led/\d.plain=true/\d.fits (c.size+1)=true/\yO d.place/\Good d.mask/\(g=true->d.fill*5<d.mask*3):=by
 obtain⟨j,b,e⟩:=DX k.good.E8 k.fits h;obtain⟨n,r⟩:=wV.mp k.fits;have s:7<=t.mask:=by rcases k.good with q|q|q|q|q|q|q<;>lia
 have f:=k.room;unfold jJ at f
 have l:(if jq t.dummies j=true then gY t.dummies (f8 t.dummies j) else t.dummies).size<=t.dummies.size/\(b=true->(if jq t.dummies j=true then gY t.dummies (f8 t.dummies j) else t.dummies).size+1<=t.dummies.size):=by
  split
  ·rename_i i
   rw[Ai _ _<|NK i];have:=NK i;exact⟨q0a,λ_=>by lia⟩
  ·rename_i i
   refine⟨fJ _,λm=>?_⟩;subst m;exact fY (CZ e) i
 have a:(t.put j).1.fits (c.size+1)=true:=by
  refine wV.mpr ⟨?_,?_⟩
  ·show (hZ t.place (f8 t.place j) j).size=_;rw[x8,n]
  ·show (hZ t.place (f8 t.place j) j).size+(if jq t.dummies j=true then gY t.dummies (f8 t.dummies j) else t.dummies).size<=t.mask;rw[x8]
   lia
 refine⟨(t.put j).1,b,?_,rfl,k.plain,a,NG k.rise<|Hd k.rise e,k.good,λm=>?_⟩
 ·unfold layNew;rw[e];dsimp only;have o:(t.put j).2=f8 t.place j:=rfl;have p:(hZ c (f8 t.place j) (h,x)).size=c.size+1:=x8 _ _ _;rw[o,p];unfold SetTable.orStandIn;rw[fE a,a];rfl
 ·have:=l.2 m;show ((hZ t.place (f8 t.place j) j).size+(if jq t.dummies j=true then gY t.dummies (f8 t.dummies j) else t.dummies).size)*5<t.mask*3;rw[x8]
  lia
theorem L6{t:iH}{es:Array (Int×cr)}(v:1<=es.size)(h:es.size<=127)(m:t.plain=true):∃a c,rL t es (kM es.size)=(a,c,false)/\a.toList.Perm es.toList/\W6 c a.size/\c.led=t.led:=by
 have o:kM es.size=es.size*4:=by unfold kM;rw[fF q0a]
 obtain⟨j,w⟩:=C0 (n:=es.size*4) q0a;obtain⟨c,f,e,p⟩:=Bl (fg:=t.finger) (mv:=t.movedTo<|gO (es.size*4)-1) (led:=t.led) (pl:=t.plain) (hs:=es.map (·.1)) j.E8 (by rw[kT];lia);obtain⟨q,r,s,g,k,i⟩:=Bk e;rw[kT] at p;have l:=picked p;have u:(f.filterMap (es[·]?)).size=es.size:=by rw[<- fR,l.length_eq,fR]
 have b:f.size=es.size:=by rw[<- fR,p.length_eq,jZ]
 have d:c.fits (f.filterMap (es[·]?)).size=true:=by
  refine wV.mpr ⟨by rw[i,u,b],?_⟩;rw[i,k,b,g];show es.size+0<=_
  lia
 refine⟨f.filterMap (es[·]?),c,?_,l,⟨d,q,s.trans m,by rw[g];exact j,?_⟩,r⟩
 ·unfold rL;rw[o];unfold SetTable.relaid;rw[e];dsimp only;rw[fE];rw[d,Bool.and_true];unfold coversAll;exact List.isPerm_iff.mpr p
 ·unfold jJ;rw[i,k,b,g];show (es.size+0)*5<_
  lia
open PyProof.Rows
def xL(e:Int×cr)(k:Int):Prop:=e.1=lW k/\∃t,e.2=kd k t
abbrev wo(a:Array (Int×cr))(b:Nat)(t:iH):Obj:={ cls:=.type "set",dict:=none,data:=.set a b t,slots:=#[]}
structure TY(w:gu)(es:Array (Int×cr))(t:iH)(ks:List Int):Prop where
 ent:Paired xL es.toList ks
 nd:ks.Nodup
 small:es.size<=127
 tab:W6 t es.size
 led:w.params.followText "set-order"=true\/t.led=true
theorem yr{n:Nat}(h:n<=127):n<scanBound:=by have e:scanBound=4096:=rfl;rw[e];lia
theorem xB{n:Nat}(h:n<=127):n<=fK:=fits_of_scanBound<|yr h
def uT(w:gu)(a:ci)(c:List Int)(h:gE):Prop:=∃b d t,h.get? a=some (wo b d t)/\TY w b t c
theorem wW{k n:Type}{F:k->n->Prop}{l o:List k}(p:l.Perm o):∀{m:List n},Paired F l m->∃e,m.Perm e/\Paired F o e:=by
 induction p with
 | nil=>intro m h;exact⟨m,.refl _,h⟩
 | cons x _ q =>
  intro m h
  cases h with
  | cons a b =>
   refine tX (q b) λe f g=>?_;exact⟨_,.cons _ f,.cons a g⟩
 | swap x y l =>
  intro m h
  cases h with
  | cons a b =>
   cases b with
   | cons c d=>exact⟨_,.swap _ _ _,.cons c<|.cons a d⟩
 | trans _ _ i j =>
  intro m h;refine tX (i h) λu f g=>?_;refine tX (j g) λr s t=>?_;exact⟨r,f.trans s,t⟩
theorem E9:∀{g:List (Int×cr)} {h:List Int},Paired xL g h->∀k,(k∈h↔∃e∈g,lu k e.2=true):=by
 intro o p l
 induction l with
 | nil=>intro k;simp
 | @cons e j _ _ m r b =>
  intro k;have n:=b k;obtain⟨_,t,c⟩:=m
  have i:lu k e.2=true↔k=j:=by rw[c];simp[lu];exact eq_comm
  rw[gp,n];constructor
  ·rintro(z|⟨d,f,a⟩)
   ·exact⟨e,fM,i.mpr z⟩
   ·exact⟨d,fP _ f,a⟩
  ·rintro⟨d,f,a⟩;rcases List.mem_cons.mp f with z|z
   ·rw[z] at a;exact .inl<|i.mp a
   ·exact .inr ⟨d,z,a⟩
theorem Bm{a:gf}{w:gu}:∀{d:List (Int×cr)} {g:List Int},Paired xL d g->ElemsOf (jk a w) d:=by
 intro l m h
 induction h with
 | nil=>exact λe b=>by cases b
 | @cons x j _ _ i r c =>
  intro e b;rcases List.mem_cons.mp b with z|z
  ·subst z;obtain⟨k,t,f⟩:=i;refine⟨⟨j,?_,k⟩,?_⟩
   ·rw[f];exact oB _ _ _ _
   ·rw[f];rfl
  ·exact c e z
theorem Kz(h:Paired xL a b):a.length=b.length:=Paired.length h
theorem TY.size{w:gu}{a:Array (Int×cr)}{t:iH}{b:List Int}(h:TY w a t b):a.size=b.length:=by rw[<- fR];exact Kz h.ent
theorem uT.nodup(x:uT w a b h):b.Nodup:=by refine wT x λc d t e k=>?_;exact k.nd
theorem uT.of{b:gf}{w:gu}{a:ci}{c:List Int}{h:gE}(x:uT w a c h):h.SetOf (jk b w) a (λk=>decide<|k∈c) c.length:=by refine wT x λd f t e k=>?_;exact⟨_,d,f,t,e,⟨rfl,rfl,rfl⟩,rfl,Bm k.ent,λj=>by rw[gS];exact E9 k.ent j,yr k.small,k.tab.fits,k.size⟩
theorem uT.keep{b:gE}(x:uT w a c h)(k:∀o,h.get? a=some o->b.get? a=some o):uT w a c b:=by refine wT x λd f t e r=>?_;exact⟨d,f,t,k _ e,r⟩
theorem uT.lt(x:uT w a b h):a<h.objs.size:=by refine wT x λc d t e r=>?_;exact fQ e
theorem uT.typeIs{w:gu}{a:ci}{b:List Int}{s:fH}(x:uT w a b s.heap):s.TypeIs (.ref a) "set":=by refine wT x λc d t e r=>?_;exact⟨_,e,rfl⟩
theorem Ri{h:gE}{a:ci}{f b:Array (Int×cr)}{d:Nat}{t c:iH}(e:h.get? a=some (wo f d t)):(h.update a<|Obj.putSet b c).get? a=some (wo b (d+1) c):=by have z:=gP (Obj.putSet b c) e (by rw[putSet_of b c rfl];rfl);rw[putSet_of b c rfl] at z;exact z
section
variable{prog:gf}{w:gu}{A:gJ}{E:cr->fH->Prop}{s:fH}{a:ci}{ks:List Int}
theorem zA{g b:Array (Int×cr)}{d:Nat}{t f:iH}{Q:Unit->fH->Prop}(e:s.heap.get? a=some (wo g d t))(i:b.size<=fK)
  (h:∀c,gX a s.heap c->c.get? a=some (wo b (d+1) f)->Q () { s with heap:=c}):fO (fS prog w) A (rM a b f) Q E s :=
 wpAny_storeSet_of e rfl (h _ (mY ..)<|Ri e) i
set_option tactic.hygienic true in
theorem TZ{k:Int}{u:Tok}{Q:Bool->fH->Prop}(S:uT w a ks s.heap)(room:ks.length+1<=127)
  (h:∀g B,gX a s.heap g->uT w a B g->B.Perm (if k∈ks then ks else k::ks)->Q (!decide (k∈ks)) { s with heap:=g}) :
  fO (fS prog w) A (tF a (.int k u)<|lW k) Q E s:=by
 refine wT S λi ep t e K=>?_;have Y:ElemsOf (jk prog w) i.toList:=Bm K.ent;have hk:(jk prog w).is k (.int k u)=true:=oB _ _ _ _;have C:(jk prog w).hash k=lW k:=rfl;unfold tF setAddHashedIn;refine gC<|am<|hV e rfl K.tab.fits ?_;dsimp only;rw[byScan_of (knd:=jk prog w) rfl (yr K.small) Y,fE rfl];unfold setAddByScan;refine am<|am<|kE<|am ?_;rw[<- C];refine wpAny_setScan_of (knd:=jk prog w) hk e rfl K.tab.fits Y ?_;have D:=E9 K.ent k
 cases Z:qL (λe=>(jk prog w).is k e.2) i.toList with
 | some j =>
  dsimp only;refine tX (List.findIdx?_eq_some_iff_getElem.mp Z) λhj hp _=>?_;have F:k∈ks:=D.mpr ⟨_,tP hj,hp⟩;have z:=h s.heap ks (kC a s.heap) ⟨i,ep,t,e,K⟩ (by rw[fE F]);rw[decide_eq_true F] at z;exact ap<|ap z
 | none =>
  dsimp only
  have d:k∉ks:=λq=>by refine tX (D.mp q) λx hx N=>?_;have:=List.findIdx?_eq_none_iff.mp Z x hx;rw[show (jk prog w).is k x.2=true from N] at this;cases this
  have O:i.size<=126:=by rw[K.size];lia
  obtain⟨m,G,le,ll,H,lf,lr,lg,ld⟩:=Rh (h:=lW k) (x:=.int k u) K.tab O;have v:=layNew_perm t i (lW k)<|.int k u;rw[C];rw[le] at v ⊢;generalize hZ i (f8 t.place ((t.freeSlot<|lW k).getD (0,false)).1) (lW k,kd k u)=b at v ⊢;dsimp only at v ⊢;rw[oW] at v;have p1:Paired xL ((lW k,kd k u)::i.toList) (k::ks):=.cons ⟨rfl,u,rfl⟩ K.ent;refine tX (wW (v.trans lm).symm p1) λP pk pe=>?_;have R:b.size=i.size+1:=by rw[<- fR,v.length_eq];simp
  rw[<- R] at lf;have n:b.size<=127:=by lia
  have T:P.Nodup:=pk.nodup_iff.mp<|List.nodup_cons.mpr ⟨d,K.nd⟩;have f:b.size<=fK:=xB n
  -- aa the end wants,for any sN of U entries
  have I:∀(g:gE) (c:Array (Int×cr)) (o:Nat) (y:iH),gX a s.heap g->g.get? a=some (wo c o y)->c.toList.Perm b.toList->W6 y c.size->y.led=t.led->Q true { s with heap:=g}:=by
   intro g c o y sb V pp f2 l2;refine tX (wW pp.symm pe) λW q1 q2=>?_;have hs:c.size=b.size:=by rw[<- fR,pp.length_eq,fR]
   have z:=h g W sb ⟨c,o,y,V,q2,q1.nodup_iff.mp T,by rw[hs];exact n,f2,by rw[l2];exact K.led⟩ (by rw[fF d];exact q1.symm.trans pk.symm);rw[gz d] at z;exact z
  refine am<|ap ?_
  have l:fO (fS prog w) A (do
    rM a b m
    if (!G&&m.tooFull)=true then do
      (match (rL m b<|kM b.size).2.2 with|true=>rule "set.scan.the-table-gave-way" | false=>pure ())
      rM a (rL m b<|kM b.size).1 (rL m b<|kM b.size).2.1
      pure (some true)
     else pure (some true)) (λr J=>fO (fS prog w) A (match r with|some p=>pure p|none=>setAddHashedIn a (.int k u) (lW k) 99999) Q E J) E s:=by
   refine am<|zA e f λh1 L o1=>?_;split
   ·refine vt (L6 (t:=m) (es:=b) q0a n H) λc y re rp rt rl=>?_;rw[re];refine am<|ap<|am<|zA (s:={ s with heap:=h1}) o1 ?_ λh2 X V=>ap<|ap<|I h2 _ _ _ (L.trans X) V rp rt<|rl.trans ll;have:c.size=b.size:=by rw[<- fR,rp.length_eq,fR]
    rw[this];exact f
   ·rename_i M
    refine ap<|ap<|I h1 _ _ _ L o1 (.refl _) ⟨lf,lr,H,lg,?_⟩ ll
    cases G with
    | true=>exact ld rfl
    | false =>
     have:m.tooFull=false:=by simpa using M
     unfold SetTable.tooFull at this;simpa using this
  split
  ·rw[hashByValue_scannable 8 rfl];exact am<|ap l
  ·exact am<|ap l
theorem T0{k:Int}(S:uT w a ks s.heap)(room:ks.length+1<=127)
 (h:∀c b d,gX a s.heap c->uT w a b c->b.Perm (if k∈ks then ks else k::ks)->s.toks<=d->Q (!decide (k∈ks)) { s with heap:=c,toks:=d}) :
    fO (fS prog w) A (setAdd a<|.int k u) Q E s:=by
  unfold setAdd
  refine gC<|am<|(jk prog w).pyHash (k:=k) (oB _ _ _ _) ?_
  exact TZ (s:={ s with toks:=s.toks+1}) S room λc b e f p=>h c b _ e f p<|kh _
theorem NL{b:Array (Int×cr)}{k:Int}:∀{ks:List Int},Paired xL b.toList ks->ks.Nodup->∀{j:Nat},qL (λe=>(jk prog w).is k e.2) b.toList=some j->ks[j]?=some k:=by
 intro ks P _ j f;refine tX (List.findIdx?_eq_some_iff_getElem.mp f) λg h _=>?_
 have:∀{b:List (Int×cr)} {ks:List Int},Paired xL b ks->∀(j:Nat)(e:Int×cr),b[j]?=some e->∃d,ks[j]?=some d/\xL e d:=by
  intro b ks P
  induction P with
  | nil=>intro j e z;simp at z
  | cons x _ i =>
   intro j e z
   cases j with
   | zero =>
    have l:=gV z;subst l;exact⟨_,rfl,x⟩
   | succ j=>exact i j e (by simpa using z)
 obtain⟨d,m,_,u,n⟩:=this P j b.toList[j] (by simp[g]);have c:lu k b.toList[j].2=true:=h;rw[n] at c;have:d=k:=by simpa[lu] using c
 rw[<- this];exact m
theorem yu:∀{l:List c} {m:List d},Paired F l m->∀i,Paired F (l.take i++l.drop (i+1)) (m.take i++m.drop (i+1)):=by
 intro _ _ z
 induction z with
 | nil=>intro i;simpa using Paired.nil
 | cons x r b =>
  intro i
  cases i with
  | zero=>simpa using r
  | succ i=>simpa using Paired.cons x (b i)
theorem wE{k:Int}:∀{ks:List Int} {j:Nat},ks[j]?=some k->ks.Perm (k::(ks.take j++ks.drop (j+1)))
 | [],j,e=>by simp at e
 | x::r,0,e=>by
  have:x=k:=by simpa using e
  subst this;simp
 | x::r,j+1,e=>by have:=wE (ks:=r) (j:=j) (by simpa using e);simpa using(nc x this).trans (List.Perm.swap k x _)
theorem Et{k:Int}{Q:Bool->fH->Prop}(S:uT w a ks s.heap)
 (h:∀n d,gX a s.heap n->uT w a d n->(if k∈ks then ks.Perm (k::d) else d=ks)->Q (decide<|k∈ks) { s with heap:=n}) :
    fO (fS prog w) A (setDiscardHashed a (.int k u)<|lW k) Q E s:=by
  refine wT S λb H t e K=>?_
  have C:ElemsOf (jk prog w) b.toList:=Bm K.ent
  have I:(jk prog w).is k (.int k u)=true:=oB _ _ _ _
  unfold setDiscardHashed setFind setFindIn
  refine am<|am<|hV e rfl K.tab.fits ?_
  dsimp only
  rw[byScan_of (knd:=jk prog w) rfl (yr K.small) C,fE rfl]
  refine am<|kE<|am ?_
  rw[show lW k=(jk prog w).hash k from rfl]
  refine wpAny_setScan_of (knd:=jk prog w) I e rfl K.tab.fits C ?_
  have o:=E9 K.ent k
  cases p:qL (λe=>(jk prog w).is k e.2) b.toList with
  | none =>
    dsimp only
    have c:k∉ks:=λq=>by
      refine tX (o.mp q) λx J r=>?_
      have:=List.findIdx?_eq_none_iff.mp p x J
      rw[show (jk prog w).is k x.2=true from r] at this
      cases this
    have z:=h s.heap ks (kC a s.heap) ⟨b,H,t,e,K⟩ (by rw[fF c])
    rw[gz c] at z
    exact ap<|ap z
  | some j =>
    dsimp only
    have f:=NL (prog:=prog) (w:=w) K.ent K.nd p
    have l:k∈ks:=iP f
    have v:j<b.size:=by
      have:=(List.findIdx?_eq_some_iff_getElem.mp p).1
      rwa [fR] at this
    rw[rK]
    refine ap<|am<|hV e rfl K.tab.fits ?_
    dsimp only
    have D:=wV.mp K.tab.fits
    have y:t.place[j]?=some t.place[j]!:=by
      rw[io q0a,getElem!_pos]
    have F:t.drop j={ t with place:=gY t.place j,dummies:=hZ t.dummies (f8 t.dummies t.place[j]!) t.place[j]!}:=by
      unfold SetTable.drop
      rw[y]
    have m:(gY b j).size=b.size-1:=Ai _ _ v
    have g:(gY t.place j).size=b.size-1:=by rw[Ai _ _ q0a];lia
    have G:TY w (gY b j) (t.drop j) (ks.take j++ks.drop (j+1)):=by
      refine⟨by rw[toList_erase];exact yu K.ent j,?_,by rw[m];have:=K.small;lia,?_,?_⟩
      · have := (wE f).nodup_iff.mp K.nd
        exact(List.nodup_cons.mp this).2
      · have i := K.tab.room
        unfold jJ at i
        rw[F]
        refine⟨wV.mpr ⟨?_,?_⟩,IL K.tab.rise j,K.tab.plain,K.tab.good,?_⟩
        · show (gY t.place j).size = _
          rw[g,m]
        · show (gY t.place j).size+(hZ t.dummies _ _).size <= t.mask
          rw[g,x8]
          lia
        · show ((gY t.place j).size+(hZ t.dummies _ _).size)*5<t.mask*3
          rw[g,x8]
          lia
      · rw[F]; exact K.led
    refine am<|zA e (xB G.small) λL B M=>?_
    refine am<|wpAny_point ?_
    have z:=h L _ B ⟨_,_,_,M,G⟩ (by rw[fE l];exact wE f)
    rw[decide_eq_true l] at z
    exact ap z
end
theorem C3:∀(l:List a)(i:Nat)(x:a),l[i]?=some x->(x::l.eraseIdx i).Perm l
 | [],i,x,e=>by simp at e
 | y::r,0,x,e=>by
  have:y=x:=by simpa using e
  subst this;simp
 | y::r,i+1,x,e=>by have:=C3 r i x (by simpa using e);rw[mX];exact(List.Perm.swap y x _).trans<|nc y this
set_option tactic.hygienic true in
theorem Rj(c:Nat->Nat):∀(a k:Nat)(left:List d)(b:Array d),left.length<=a->(qf c a k left b).toList.Perm (b.toList++left):=by
 intro a
 induction a with
 | zero =>
  intro k left b h;have:left=[]:=List.length_eq_zero_iff.mp q0a;subst this;simp[qf]
 | succ a f =>
  intro k left b h;unfold qf;split
  ·rename_i x e
   have g:=(List.getElem?_eq_some_iff.mp e).1;refine(f _ _ _<|by rw[List.length_eraseIdx];split<;>lia).trans ?_;rw[oW,kX];refine mW _ ?_;exact C3 _ _ _ e
  ·rename_i e
   cases left with
   | nil=>simp
   | cons y r =>
    have:=List.getElem?_eq_none_iff.mp e;have i:=mw (c k) (show 0<(y::r).length by simp)
    lia
theorem Bo(b:Nat->Nat)(a:Array c):(sO b a).toList.Perm a.toList:=by unfold sO;have:=Rj b a.size 0 a.toList #[] q0o;simpa using this
section
variable{prog:gf}{w:gu}{A:gJ}{E:cr->fH->Prop}{s:fH}{a:ci}{ks:List Int}
set_option tactic.hygienic true in
theorem Vb(S:uT w a ks s.heap)(h:∀(c:Array (Int×cr)) (b:List Int),Paired xL c.toList b->b.Perm ks->Q c s):fO (fS prog w) A (setWalk a) Q E s:=by
 refine wT S λd i t e K=>?_;unfold setWalk lU;refine am<|hV e rfl K.tab.fits<|am<|am<|iL<|ap ?_;dsimp only;split
 ·refine am<|iL<|ap ?_;obtain⟨b,p,q⟩:=wW (Bo _ d).symm K.ent;exact h _ b q p.symm
 ·rename_i f
  rw[fF<|by show ¬((!t.plain&&decide (d.size>1))=true);rw[K.tab.plain];simp]
  have g:t.led=true:=by
   rcases K.led with z|z
   ·exact fY z f
   ·exact z
  refine am<|show fO _ A (if (!t.led&&decide (d.size>1))=true then jW "set:maker-not-led" else pure ()) _ _ _ from ?_;rw[g,fF q0o];exact ap<|ap<|h d ks K.ent<|.refl _
theorem NM(S:uT w a ks s.heap)(h:∀(b:Array (Int×cr)) (c:List Int),Paired xL b.toList c->c.Perm ks->Q b s) :
  fO (fS prog w) A (sy a d f) Q E s:=by
 refine wT (id S) λi j t e K=>?_;unfold sy lU;refine am<|hV e rfl K.tab.fits<|am<|am<|iL<|ap ?_;dsimp only
 rw[fE (by
  rcases K.led with z|z
  ·have g:(fS prog w).w.params.followText "set-order"=true:=z;rw[g];simp
  ·rw[z,K.tab.plain];simp)]
 exact Vb S h
theorem Cp{b:Nat}{n:Nat}(e:s.heap.get? a=some (wo c b t))(k:t.fits c.size=true)(h:Q b s):fO (fS prog w) A (setEpoch a) Q E s :=
 wpAny_setEpoch_of e rfl k h
theorem T1{es:Array (Int×cr)}{c:Array Nat}{Q:Array (Int×cr)×iH->fH->Prop}(p:c.toList.Perm (gl es.size))(h:Q (c.filterMap (es[·]?),d) s) :
  fO (fS prog w) A (do
   let some (t,order):=some (d,c)|jW "internal:set-table-without-room"
   let b:=order.filterMap (es[·]?)
   if b.size != es.size then jW "internal:set-table-lost-an-element"
   pure (b,t)) Q E s:=by
 have e:(c.filterMap (es[·]?)).size=es.size:=by rw[<- fR,(picked p).length_eq,fR]
 dsimp only;rw[fF<|by rw[e];simp];exact ap h
def B2(w:gu)(r:ci)(h:gE):Prop:=∃c b,h.get? r=some (wo #[] c<|jh 0 0 b)/\(w.params.followText "set-order"=true\/b=true)
theorem Bp(b:Bool):W6 (jh 0 0 b) 0:=⟨rfl,gx,rfl,.inl rfl,by show 0*5<7*3;decide⟩
theorem B2.set(x:B2 w r h):uT w r [] h:=by refine vS x λc b e l=>?_;exact⟨#[],c,_,e,.nil,mj,q0q,Bp b,l⟩
set_option tactic.hygienic true in
theorem Rl{m:Sem Unit}{Q:Unit->fH->Prop}(F:B2 w r s.heap)(S:uT w a ks s.heap)(ne:r≠a)
 (h:∀V l,gX r s.heap V->uT w r l V->l.Perm ks->Q () { s with heap:=V}):fO (fS prog w) A (setMerge r a m) Q E s:=by
  refine vS (id F) λW c O lr=>?_
  refine wT (id S) λb ep t e K=>?_
  unfold setMerge
  rw[fF<|by simpa using ne]
  refine am<|hV e rfl K.tab.fits ?_
  dsimp only
  by_cases P:b.isEmpty=true
  · rw[fE P]
    have X:b=#[]:=by simpa using P
    subst X
    have:ks=[]:=by
      have:=K.ent
      cases this
      rfl
    subst this
    exact ap<|h s.heap [] (kC _ _) F.set<|.refl _
  · rw[fF P]
    have ae:1<=b.size:=by
      have:b.size≠0:=λz=>P (by simpa using Array.size_eq_zero_iff.mp z)
      lia
    have R:=K.small
    -- the room
    have go:∀(o:gE)(I:Nat)(d:iH),gX r s.heap o->o.get? r=some (wo #[] I d)->d.place=#[]->d.dummies=#[]->d.plain=true->d.led=c->Good d.mask->b.size*5<d.mask*3 ->
        fO (fS prog w) A (setState r >>= λx=>match x with
          | (_,_,k)=>match k.road t with
            | .slotForSlot=>rM r b { t with finger:=k.finger,led:=k.led&&t.led,moves:=k.moves,plain:=k.plain&&t.plain}
            | .clean=>do
              let (b,t) <- (do
                let some (t,order):=(mi k.mask k.finger k.moves (led:=k.led&&t.led) (plain:=k.plain&&t.plain) (b.map (·.1)))|jW "internal:set-table-without-room"
                let J:=order.filterMap (b[·]?)
                if J.size != b.size then jW "internal:set-table-lost-an-element"
                pure (J,t))
              rM r b t
            | .oneByOne=>do
              for (h,x) in <- sy a [r] (some r) do
                let _ <- jz [x] (tF r x h)
                m
                if (<- setState a).2.1 != ep then jW "set.changed-during-merge") Q E { s with heap:=o}:=by
      intro o I d sb Y Z d1 L l1 C rm
      have f1:d.fits (#[]:Array (Int×cr)).size=true:=wV.mpr ⟨by rw[Z];rfl,by rw[Z,d1];exact g9 _⟩
      refine am<|hV (s:={ s with heap:=o}) Y rfl f1 ?_
      dsimp only
      have u:w.params.followText "set-order"=true\/(d.led&&t.led)=true:=by
        rcases lr with z|z
        · exact .inl z
        · rcases K.led with y|y
          · exact .inl y
          · exact .inr (by rw[l1, z, y]; rfl)
      have v:d.road t=.slotForSlot\/d.road t=.clean:=by
        unfold tG jJ
        rw[Z,d1]
        simp only[fW,lO,Nat.add_zero,qg,jM,mV]
        split
        · exact .inl rfl
        · exact .inr rfl
      have aa:d.road t=.slotForSlot->t.dummies.isEmpty=true:=λz=>by
        unfold tG at z
        split at z
        · cases z
        · split at z
          · rename_i q
            exact(Bool.and_eq_true_iff.mp q).2
          · cases z
      have up:∀f,gX r o f->gX r s.heap f:=λf q=>sb.trans q
      rcases v with z|z
      · have hd := aa z
        rw[z]
        dsimp only
        refine zA (s:={ s with heap:=o}) Y (xB R) λf g D=>?_
        refine h f ks (up f g) ⟨b,_,_,D,K.ent,K.nd,R,⟨K.tab.fits,K.tab.rise,?_,K.tab.good,K.tab.room⟩,u⟩<|.refl _
        show (d.plain&&t.plain)=true
        rw[L,K.tab.plain];rfl
      · rw[z]
        dsimp only
        have i:b.size<=d.mask:=by lia
        obtain⟨t2,B,M,p⟩:=Bl (fg:=d.finger) (mv:=d.moves) (led:=d.led&&t.led) (pl:=d.plain&&t.plain) (hs:=b.map (·.1)) C.E8 (by rw[kT];exact i)
        refine DS (Bk M) λr1 r2 r3 G T N=>?_
        rw[M]
        rw[kT] at p
        have U:=picked p
        have H:(B.filterMap (b[·]?)).size=b.size:=by rw[<- fR,U.length_eq,fR]
        have j:B.size=b.size:=by rw[<- fR,p.length_eq,jZ]
        refine am<|T1 p ?_
        dsimp only
        refine zA (s:={ s with heap:=o}) Y (by rw[H];exact xB R) λf g D=>?_
        refine tX (wW U.symm K.ent) λl q1 q2=>?_
        refine h f l (up f g) ⟨_,_,_,D,q2,q1.nodup_iff.mp K.nd,by rw[H];exact R,⟨wV.mpr ⟨by rw[N,H,j],?_⟩,r1,?_,by rw[G];exact C,?_⟩,by rw[r2];exact u⟩ q1.symm
        · rw[N, T, j, G]; exact i
        · rw[r3, L, K.tab.plain]; rfl
        · unfold jJ
          rw[N,T,j,G]
          exact rm
    unfold setRoomFor
    refine am<|am<|hV O rfl (Bp c).fits ?_
    dsimp only
    by_cases hr:b.size*5>=7*3
    · have e1 : (jh 0 0 c).roomFor b.size = some (b.size*2) := by
        unfold sh jJ jh
        dsimp only
        rw[fE<|by simpa using hr]
        simp
      rw[e1]
      dsimp only
      obtain⟨C,g2⟩:=C0 (n:=b.size*2) q0a
      obtain⟨t2,B,M,p⟩:=Bl (fg:=0) (mv:=(jh 0 0 c).movedTo<|gO (b.size*2)-1) (led:=c) (pl:=true) (hs:=(#[]:Array (Int×cr)).map (·.1)) C.E8 (by rw[kT];exact g9 _)
      refine DS (Bk M) λr1 r2 r3 G T N=>?_
      have ab:(jh 0 0 c).relaid ((#[]:Array (Int×cr)).map (·.1)) (b.size*2)=some (t2,B):=M
      unfold setRelay
      refine am<|hV O rfl (Bp c).fits ?_
      dsimp only
      rw[fF (by
        have:gO (b.size*2)<=512:=by rcases C with q|q|q|q|q|q|q<;>lia
        have e3:(512:Nat)<=fK:=by rw[hX];decide
        lia),ab]
      rw[kT] at p
      have U:=picked (es:=#[]) p
      have H:(B.filterMap ((#[]:Array (Int×cr))[·]?)).size=0:=by rw[<- fR,U.length_eq];rfl
      have j:B.size=0:=by rw[<- fR,p.length_eq];rfl
      refine am<|T1 (es:=#[]) p ?_
      dsimp only
      refine zA O (by rw[H];exact g9 _) λf g D=>?_
      have o3:B.filterMap ((#[]:Array (Int×cr))[·]?)=#[]:=Array.size_eq_zero_iff.mp H
      rw[o3] at D
      refine go f _ t2 g D (Array.size_eq_zero_iff.mp<|by rw[N,j]) T r3 r2 (by rw[G];exact C) (by rw[G];lia)
    · have e1 : (jh 0 0 c).roomFor b.size = none := by
        unfold sh jJ jh
        dsimp only
        rw[fF<|by simpa using hr]
      rw[e1]
      dsimp only
      refine ap ?_
      exact go s.heap W (jh 0 0 c) (kC _ _) O rfl rfl rfl rfl (.inl rfl) (by show b.size*5<7*3;lia)
end
theorem L7:rN sN "set.__xor__"=some Builtin.«frozenset.__xor__» :=
 rO (id':="frozenset.__xor__") (by kernel_rfl) (by first|rfl|decide +kernel|(unfold pY;simp +decide [oU])) q0s (by kernel_rfl)
section
variable{prog:gf}{w:gu}{A:gJ}{E:cr->fH->Prop}{s:fH}{a b:ci}{ka kb:List Int}
theorem NN(h:∀d,B2 w s.heap.objs.size d->(∀c o,s.heap.get? c=some o->d.get? c=some o)->Q (.ref s.heap.objs.size) { s with heap:=d}):fO (fS prog w) A (newSet<|.type "set") Q E s:=by
 unfold newSet lU;refine am<|am<|iL<|ap ?_;dsimp only;simp only[newObj];refine am<|wpAny_alloc<|ap<|h _ ⟨0,_,fU _ rfl,?_⟩ λc o e=>ce _ e
 cases q:w.params.followText "set-order" with
 | true=>exact .inl rfl
 | false=>exact .inr (by show (!(w.params.followText "set-order"))=true;rw[q];rfl)
theorem AA(S:uT w a ka s.heap)(h:Q true s):fO (fS prog w) A (n6<|.ref a) Q E s:=by unfold n6;refine am<|kK S.typeIs oC<|ap ?_;exact h
theorem L8{l:String}{Q:cr->fH->Prop}(S:uT w a ka s.heap)
  (h:∀g d,uT w s.heap.objs.size d g->d.Perm ka->(∀c o,s.heap.get? c=some o->g.get? c=some o)->Q (.ref s.heap.objs.size) { s with heap:=g}) :
  fO (fS prog w) A (ol l (.type "set")<|.ref a) Q E s:=by
 unfold ol;refine am<|NN λf m k=>?_;have i:uT w a ka f:=S.keep λo e=>k a o e;have r:s.heap.objs.size≠a:=ii S.lt;refine am<|ap<|am<|gC ?_;unfold nL;refine am<|AA (s:={ s with heap:=f}) i ?_;rw[fE rfl];refine am<|ap ?_;unfold Builtin.Frozenset.merge;have j:=i;refine wT j λy z t e K=>?_;refine am<|Cp (n:=0) (s:={ s with heap:=f}) e K.tab.fits ?_;refine Rl (s:={ s with heap:=f}) m i r λu d v x p=>?_;exact ap<|h u d x p λc o q=>v.extBut c o (fX<|fQ q)<|k c o q
set_option tactic.hygienic true in
theorem W7{Q:cr->fH->Prop}(Sa:uT w a ka s.heap)(Sb:uT w b kb s.heap)(hl:ka.length+kb.length<=126)
  (h:∀h' ks,uT w s.heap.objs.size ks h'->(∀k,k∈ks↔((k∈kb/\k∉ka)\/(k∉kb/\k∈ka)))->(∀c o,s.heap.get? c=some o->h'.get? c=some o)->Q (.ref s.heap.objs.size) { s with heap:=h'}) :
  fO (fS prog w) A (kS .BitXor (.ref a)<|.ref b) Q E s:=by
 refine wpAny_binaryOp_same (op:=.BitXor) (T:="set") Sa.typeIs Sb.typeIs F.fills_set_xor F.slot_set_xor ?_;refine gR F.slot_set_xor Sa.typeIs L7 ?_<|F.args_set_xor_2 _ _;show fO _ _ (Builtin.Frozenset.slot1 "__xor__" ⟨[.ref a,.ref b],[]⟩ >>= _) _ _ _;refine am<|am<|ap<|ap ?_;dsimp only;rw[fF fT];dsimp only;refine am<|am<|AA Sa<|AA Sb ?_;rw[fF q0o];refine am<|ap<|am ?_
 wp_delta
 unfold Builtin.Frozenset.baseOf;refine am<|am<|kK Sa.typeIs oC<|ap ?_;rw[fE rfl];refine am<|L8 Sb λh1 Rm S1 p1 k1=>?_;have Yt:uT w a ka h1:=Sa.keep λo e=>k1 a o e;have ne:s.heap.objs.size≠a:=ii Sa.lt;refine am<|ap<|am<|gC ?_;unfold Builtin.Frozenset.symmetricDifferenceUpdate;rw[fF<|by simpa using Ne.symm ne];dsimp only;refine am<|jB (s:={ s with heap:=h1}) (uT.typeIs (s:={ s with heap:=h1}) Yt) ?_;rw[fF q0q];refine am<|AA (s:={ s with heap:=h1}) Yt ?_;rw[fE rfl];refine am<|ap<|am<|ap ?_;have Zw:=Yt;refine wT Zw λes ep t e K=>?_;refine am<|Cp (n:=0) (s:={ s with heap:=h1}) e K.tab.fits ?_;refine gC<|am<|NM (s:={ s with heap:=h1}) Yt λes' W8 P' p'=>?_;have nd':W8.Nodup:=p'.nodup_iff.mpr Sa.nodup;have a0U:=p'.length_eq;have a0V:=p1.length_eq
 refine am (wpAny_forIn_array' _ (λrest _ s2=>∃dn kr h2 k2,W8=dn++kr/\Paired xL rest kr/\s2={ s with heap:=h2}/\gX s.heap.objs.size h1 h2/\uT w s.heap.objs.size k2 h2/\k2.length<=Rm.length+dn.length /\
   ∀k,k∈k2↔((k∈Rm/\k∉dn)\/(k∉Rm/\k∈dn))) _ ?turn ?fin es' _ ⟨[],W8,h1,Rm,rfl,P',rfl,kC _ _,S1,fJ _,λk=>by simp⟩)
 case fin =>
  rintro _ s2 ⟨dn,kr,h2,k2,e0,P,rfl,sb,S2,_,m⟩;cases P;rw[jR] at e0;subst e0;refine ap<|ap<|ap ⟨_,rfl,q0o,?_⟩;refine h h2 k2 S2 (λk=>?_) λc o q=>sb.extBut c o (fX<|fQ q)<|k1 c o q;rw[m k,p1.mem_iff,p'.mem_iff]
 case turn =>
  rintro x rest _ s2 ⟨dn,kr,h2,k2,e0,P,rfl,sb,S2,l2,m⟩
  cases P with
  | cons hx hr =>
   rename_i k kr
   obtain⟨hx1,u,hx2⟩:=hx;rw[hx1,hx2];have nd2:=nd';rw[e0] at nd2
   have hkd:k∉dn:=λq=>by have:=(List.nodup_append.mp nd2).2.2 k q k fM;exact this rfl
   have a0Z:dn.length+(kr.length+1)=W8.length:=by rw[e0,fV,gk]
   have ea:∀h3,gX s.heap.objs.size h2 h3->h3.get? a=some (wo es ep t):=λh3 q=>q.extBut a _ (Ne.symm ne)<|sb.extBut a _ (Ne.symm ne) e
   have T2:∀(R:ForInStep PUnit->fH->Prop) h3 k3,gX s.heap.objs.size h2 h3->uT w s.heap.objs.size k3 h3->k3.length<=k2.length+1->(∀j,j∈k3↔((j∈k2/\j≠k)\/(j∉k2/\j=k))) ->
     (∀s':fH,(∃dn kr h2 k2,W8=dn++kr/\Paired xL rest kr/\s'={ s with heap:=h2}/\gX s.heap.objs.size h1 h2/\uT w s.heap.objs.size k2 h2/\k2.length<=Rm.length+dn.length/\∀k,k∈k2↔((k∈Rm/\k∉dn)\/(k∉Rm/\k∈dn)))->R (.yield ⟨⟩) s') ->
     fO (fS prog w) A.in1 (nQ (toString "frozenset."++toString "__xor__") a ep >>= λ_=>pure<|lp PUnit.unit) R E { s with heap:=h3}:=by
    intro R h3 k3 W9 S3 l3 m3 fin;unfold nQ;refine am<|am<|Cp (n:=0) (s:={ s with heap:=h3}) (ea h3 W9) K.tab.fits ?_;rw[fF q0o];refine ap<|ap<|fin _ ⟨dn++[k],kr,h3,k3,by rw[e0];simp,hr,rfl,sb.trans W9,S3,by rw[fV];simp;lia,λj=>?_⟩;rw[m3 j,m j,kJ,kN];by_cases q2:j=k
    ·subst q2;by_cases q1:j∈Rm<;>simp[q1,hkd]
    ·by_cases q1:j∈Rm<;>by_cases q3:j∈dn<;>simp[q1,q2,q3]
   refine am<|gC<|am ?_;refine Et (s:={ s with heap:=h2}) S2 λh3 k3 W9 S3 p3=>?_;by_cases Wm:k∈k2
   ·rw[decide_eq_true Wm,fF q0o];rw[fE Wm] at p3;have nd3:=p3.nodup_iff.mp S2.nodup;refine ap<|T2 _ h3 k3 W9 S3 (by have:=p3.length_eq;rw[gk] at this;lia) (λj=>?_) λ_ z=>z;have q:=p3.mem_iff (a:=j);rw[gp] at q;rw[q];have hk1:=(List.nodup_cons.mp nd3).1;by_cases q2:j=k
    ·subst q2;simp[hk1]
    ·simp[q2]
   ·rw[gz Wm,fE q0o];rw[fF Wm] at p3;subst p3;refine am<|TZ (s:={ s with heap:=h3}) S3 q0a λh4 k4 Xa S4 p4=>?_;rw[fF Wm] at p4;refine ap<|T2 _ h4 k4 (W9.trans Xa) S4 (by have:=p4.length_eq;rw[gk] at this;lia) (λj=>?_) λ_ z=>z;rw[p4.mem_iff,gp];by_cases q2:j=k
    ·subst q2;simp[Wm]
    ·simp[q2]
end
section
variable{prog:gf}{w:gu}{A:gJ}{E:cr->fH->Prop}{R:Result->fH->Prop}{I:ci}{fp wr:List ci}{G:Array nX->Array nX->Prop}{n:Nat}{P:Nat->cr->Prop}{St:Nat->fH->Prop}
set_option tactic.hygienic true in
theorem Vc(W:WalksS prog w A.in1 I fp wr G n P St)(r:ci)(O:r∉fp)(a:Nat->Int)(g:∀i v,P i v->∃t,v=.int (a i) t)(hb:n<=126) :
  ∀(m i:Nat)(s:fH)(b:List Int),i+m=n->St i s->uT w r b s.heap->(∀k,k∈b↔∃j,j<i/\a j=k)->b.length<=i ->
   (∀h l,Moved (r::wr) G s h->uT w r l h.heap->(∀k,k∈l↔∃j,j<n/\a j=k)->R (.ok<|.ret .none) h) ->
   kW (fS prog w) A (.builtin "set.update.loop" ⟨[.ref r,.ref I],[]⟩) R s:=by
 have Q:r∉wr:=λq=>O<|W.sub _ q;have x:∀c∈wr,c∈r::wr:=λc B=>fP _ B;intro m
 induction m with
 | zero =>
  intro i s b V J S d X f;obtain rfl:i=n:=by lia
  refine iQ si ?_;rw[iD nM _];refine am<|W.done s _ _ J λh C=>?_;exact ap<|f h b (C.mono x) (S.keep λo e=>C.heap r o Q e) d
 | succ m Y =>
  intro i s b V J S d X f;refine iQ si ?_;rw[iD nM _];refine am<|W.item i s _ _ q0a J λv T Z K C=>?_;obtain⟨u,rfl⟩:=g i v Z;have S1:uT w r b T.heap:=S.keep λo e=>C.heap r o Q e;refine am<|gC<|T0 S1 q0a λh2 D tk U S2 p H=>?_
  have l2:D.length<=i+1:=by
   have:=p.length_eq;split at this
   ·lia
   ·rw[gk] at this;lia
  refine ap ⟨jH nM _,Y (i+1) _ D q0a (W.frame _ T _ _ K H λc B o e=>?_) S2 (λk=>?_) l2 λs3 L M S3 m3=>?_⟩
  ·rw[U.2 c (λz:c=r=>O<|by rw[<- z];exact B)];exact e
  ·rw[p.mem_iff]
   have q:(k∈if a i∈b then b else a i::b)↔(k=a i\/k∈b):=by
    split
    ·rename_i z
     constructor
     ·exact .inr
     ·rintro(y|y)
      ·rw[y];exact z
      ·exact y
    ·exact gp
   rw[q,d k];constructor
   ·rintro(z|⟨j,hj,e⟩)
    ·exact⟨i,q0a,z.symm⟩
    ·exact⟨j,q0a,e⟩
   ·rintro⟨j,hj,e⟩;by_cases N:j=i
    ·subst N;exact .inl e.symm
    ·exact .inr ⟨j,q0a,e⟩
  ·refine f s3 L (Moved.trans W.gtrans ((C.mono x).then_heap H λc o B e=>?_) M) S3 m3;rw[U.2 c (λz:c=r=>B<|by rw[z];exact fM)];exact e
end
section
variable{prog:gf}{w:gu}{A:gJ}{E:cr->fH->Prop}{s:fH}
theorem L9(x:cr)(h:∀a,B2 w s.heap.objs.size a->(∀c o,s.heap.get? c=some o->a.get? c=some o)->Q (.ref s.heap.objs.size) { s with heap:=a}) :
  kW (fS prog w) A (.call (.builtin "set.__new__") ⟨[.type "set",x],[]⟩) (wants Q E) s:=by
 refine kY ?_;refine am<|lh (F.newCall_set_1 x)<|ap ⟨jH om _,iQ F.entry_set_new ?_⟩;rw[iD om _];unfold Builtin.«set.__new__» n8;have f:=oC;obtain⟨g,i,j,k,l⟩:=s;dsimp only;generalize b:newSet=m
 wp_walk
 subst b;refine NN λa d e=>?_;exact ap<|h a d e
theorem IQ(hh:A.handled=none)(hl:s.heap.IsList l b)(Y:jL b.toList x)(hb:b.size<=126)
 (h:∀f G g,uT w s.heap.objs.size g f->(∀k,k∈g↔k∈x)->(∀c o,s.heap.get? c=some o->f.get? c=some o)->Q (.ref s.heap.objs.size) { s with heap:=f,toks:=G}) :
    fO (fS prog w) A (call (.type "set") [.ref l]) Q E s:=by
  obtain⟨c0,tl,Z⟩:=F.called_set.mro
  have J:=F.called_set.made
  have aa:=F.called_set.sub
  refine k8<|kY ?_
  refine ap ⟨ml _ q0s,iQ F.entry_type_call ?_⟩
  rw[sj (tQ "set" [.ref l] []) rfl]
  have ae:=F.called_set.notType
  have af:=F.called_set.canCreate
  have ag:=F.typeCall_set_1<|.ref l
  repeat (any_goals (first|assumption|wp_step))
  refine iY (L9 (.ref l) (E:=E) (Q:=λy z=>y=.ref s.heap.objs.size/\∃a,z={ s with heap:=a}/\B2 w s.heap.objs.size a/\∀c o,s.heap.get? c=some o->a.get? c=some o) λa H u=>⟨rfl,a,rfl,H,u⟩) λr1 s1 m=>?_
  cases r1 with
  | error e=>exact m
  | ok f1 =>
    cases f1 with
    | ret y =>
      obtain⟨rfl,a,rfl,H,u⟩:=m
      have K:uT w s.heap.objs.size [] a:=H.set
      have hT:kD { s with heap:=a} (.ref s.heap.objs.size) "set":=uT.typeIs (s:={ s with heap:=a}) K
      have ah:=F.called_set.init.lookup
      have ai:=F.called_set.init.bind<|.ref s.heap.objs.size
      repeat (any_goals (first|assumption|wp_step))
      refine iY (ma (R:=wants (λr B=>r=.none/\∃f G g,B={ s with heap:=f,toks:=G}/\uT w s.heap.objs.size g f/\(∀k,k∈g↔k∈x)/\∀c o,s.heap.get? c=some o->f.get? c=some o) E) F.called_set.init.plain F.entry_set_init<|check_set_init_1 hT ?_) λr2 s2 n=>?_
      · obtain⟨L, p, M, nl, N⟩ := id hl
        have q:a.IsList l b:=⟨L,u l L p,M,nl,N⟩
        have aj:kD { s with heap:=a} (.ref l) "list":=q.typeIs
        have q1:=F.sub_list_set
        have q2:=F.sub_list_frozenset
        have q3:(i8 "list" == i8 "dict")=false:=by decide
        refine vS (id H) λak ab e1 l1=>?_
        unfold Builtin.«set.__init__» noKeywords nL
        generalize O:pyIter=PI
        wp_walk
        subst O
        refine wpAny_pyIter_list q<|am<|rP ?_
        have P:l<a.objs.size:=fQ<|u l L p
        have S:s.heap.objs.size<a.objs.size:=K.lt
        have T:A.in1.in1.in1.handled=none:=by simp[hh]
        have nr:s.heap.objs.size∉[a.objs.size,l]:=by
          simp only[gp,ie,kF,oX]
          exact⟨fX S,ii<|fQ p⟩
        have C:∀(i:Nat)(v:cr),b[i]?=some v->∃t,v=.int ((λi=>x.getD i 0) i) t:=λi v hv=>pQ Y i v (by rw[gI];exact hv)
        have d:∀c o,a.get? c=some o->(a.push { cls:=.type "list_iterator",data:=.fields #[.ref l,.int 0 0]}).get? c=some o:=λc o e=>ce _ e
        have D:=pR Y
        rw[fR] at D
        refine Vc ((Walks.list T _ l (fX P) b).toS) s.heap.objs.size nr (λi=>x.getD i 0) C hb b.size 0 _ [] q0a ⟨⟨_,fU _ rfl,rfl,rfl⟩,q.push _⟩ (K.keep λo e=>d _ o e) (λk=>by simp) (g9 _) λs2 U I S2 m2=>?_
        obtain⟨h2,g2,d2,V,W⟩:=s2
        have eg:g2=s.gens:=I.gens
        have ed:d2=s.drawn:=I.drawn
        have eo:W=s.os:=I.os
        subst eg ed eo
        refine ap<|ap ⟨rfl,h2,V,U,rfl,S2,λk=>?_,λc o e=>?_⟩
        · rw[m2 k]
          constructor
          · rintro⟨j, X, e⟩
            rw[<- e]
            have:j<x.length:=by lia
            simp[il,this]
          · intro hk
            obtain⟨j,X⟩:=j9 hk
            refine⟨j,by have:=(List.getElem?_eq_some_iff.mp X).1;lia,?_⟩
            simp[il,X]
        · refine I.heap c o ?_ (d c o<|u c o e)
          simp only[gp,ie,kF,oX]
          exact⟨fX<|fQ e,fX<|fQ<|u c o e⟩
      · cases r2 with
        | error e=>exact n
        | ok f2 =>
          cases f2 with
          | ret r =>
            obtain⟨rfl,f,G,g,rfl,S',m',k'⟩:=n
            repeat (any_goals (first|assumption|wp_step))
            exact h _ _ g S' m' k'
          | _=>exact n.elim
    | _=>exact m.elim
end
theorem v0:Slot "set_iterator" "__next__" "set_iterator.__next__" :=
 .of (owner:="set_iterator") (n:="__next__") (by rw[my,ki];kernel_rfl) q0s q0s q0s (by first|exact .inl q0s|exact .inr q0s) (by rw[rQ];kernel_rfl)
theorem NO:Manifest.owners.lookup (String.ofList ['r','o','t','a','r','e','t','i','_','t','e','s'].reverse)=some Manifest.sig_set_iterator:=by kernel_rfl
theorem AB(a:cr):qw "set_iterator.__next__" ⟨[a],[]⟩:=by unfold qw;rw[signature?_of (id:="set_iterator.__next__") (n:=['_','_','t','x','e','n','_','_']) (o:=['r','o','t','a','r','e','t','i','_','t','e','s']) (by kernel_rfl) NO];kernel_rfl
theorem zW:rN sN "set_iterator.__next__"=some Builtin.«set_iterator.__next__»:=entryFor_of_tree (by kernel_rfl)
theorem AC:Slot "set_iterator" "__iter__" "set_iterator.__iter__" :=
 .of (owner:="set_iterator") (n:="__iter__") (by rw[my,ki];kernel_rfl) q0s q0s q0s (by first|exact .inl q0s|exact .inr q0s) (by rw[rQ];kernel_rfl)
theorem Fa(a:cr):qw "set_iterator.__iter__" ⟨[a],[]⟩:=by unfold qw;rw[signature?_of (id:="set_iterator.__iter__") (n:=['_','_','r','e','t','i','_','_']) (o:=['r','o','t','a','r','e','t','i','_','t','e','s']) (by kernel_rfl) NO];kernel_rfl
theorem DY:rN sN "set_iterator.__iter__"=some Builtin.«dict_keyiterator.__iter__» :=
 rO (id':="dict_keyiterator.__iter__") (by kernel_rfl) (by first|rfl|decide +kernel|(unfold pY;simp +decide [oU])) q0s (by kernel_rfl)
theorem C4:rN sN "set.__iter__"=some Builtin.«frozenset.__iter__» :=
 rO (id':="frozenset.__iter__") (by kernel_rfl) (by first|rfl|decide +kernel|(unfold pY;simp +decide [oU])) q0s (by kernel_rfl)
abbrev Xb(b i n c:Nat)(a:ci):Obj:={ cls:=.type "set_iterator",dict:=none,data:=.fields #[kg b,kg i,.ref a,kg n,kg c],slots:=#[]}
def IR(w:gu)(a:ci)(b:Array (Int×cr))(c:Nat):Array (Int×cr):=if w.params.followText "set-order"=true then sO (w.params.setOrder a c) b else b
theorem Bq(w:gu)(a:ci)(b:Array (Int×cr))(c:Nat):(IR w a b c).toList.Perm b.toList:=by
 unfold IR;split
 ·exact Bo _ b
 ·exact .refl _
def Zx(w:gu)(e a:ci)(c:Array (Int×cr))(d:Nat)(t:iH)(i:Nat)(h:gE):Prop :=
 ∃b,(w.params.followText "set-order"=false->f8 t.place b=i)/\h.get? e=some (Xb b i c.size d a)/\h.get? a=some (wo c d t)
section
variable{prog:gf}{w:gu}{A:gJ}{E:cr->fH->Prop}{s:fH}{a it:ci}{ks:List Int}{es:Array (Int×cr)}{ep:Nat}{t:iH}
theorem Hg(e:s.heap.get? b=some { cls:=cls,dict:=none,data:=.fields c,slots:=#[]})(h:Q c s):fO (fS prog w) A (fieldsOf<|.ref b) Q E s:=by unfold fieldsOf;exact am<|pM e<|ap h
set_option tactic.hygienic true in
theorem Ma{c i:Nat}(e:s.heap.get? a=some (wo es ep t))(K:TY w es t ks)(k:w.params.followText "set-order"=false->f8 t.place c=i)
 (d:(IR w a es ep)[i]?=some x)(h:∀g,(w.params.followText "set-order"=false->f8 t.place g=i+1)->Q (some (x.2,g)) s):fO (fS prog w) A (setNext a c i ep) Q E s:=by
  have m:=wV.mp K.tab.fits
  unfold setNext lU
  refine am<|hV e rfl K.tab.fits<|am<|am<|iL<|ap ?_
  dsimp only
  unfold IR at d
  split
  · rename_i f
    have b:w.params.followText "set-order"=true:=f
    rw[fE b] at d
    rw[fF q0o]
    unfold setWalk lU
    refine am<|am<|hV e rfl K.tab.fits<|am<|am<|iL<|ap ?_
    dsimp only
    rw[fE f]
    refine am<|iL<|ap<|ap ?_
    dsimp only
    rw[show (fS prog w).w=w from rfl,d]
    exact h c λz=>by rw[b] at z;cases z
  · rename_i f
    have b:w.params.followText "set-order"=false:=Bool.eq_false_iff.mpr f
    rw[fF<|by rw[b];simp] at d
    rw[fF<|by show ¬((!t.plain&&decide (es.size>1))=true);rw[K.tab.plain];simp]
    have l:t.led=true:=by
      rcases K.led with z|z
      · rw[b] at z; cases z
      · exact z
    refine am<|show fO _ A (if (!t.led&&!es.isEmpty)=true then jW "set:maker-not-led" else pure ()) _ _ _ from ?_
    rw[l,fF q0o]
    have n:=(Array.getElem?_eq_some_iff.mp d).1
    rw[k b,d]
    have j:t.place[i]?=some t.place[i]!:=by rw[io q0a,getElem!_pos]
    rw[j]
    refine ap<|ap<|h _ λ_=>?_
    exact IJ K.tab.rise (by rw[gI];exact j)
set_option tactic.hygienic true in
theorem Mb{b:Nat}(e:s.heap.get? a=some (wo es ep t))(K:TY w es t ks)(f:w.params.followText "set-order"=false->f8 t.place b=es.size)(h:Q none s):fO (fS prog w) A (setNext a b es.size ep) Q E s:=by
 unfold setNext lU;refine am<|hV e rfl K.tab.fits<|am<|am<|iL<|ap ?_;dsimp only;split
 ·rename_i d
  rw[fF q0o];unfold setWalk lU;refine am<|am<|hV e rfl K.tab.fits<|am<|am<|iL<|ap ?_;dsimp only;rw[fE d];refine am<|iL<|ap<|ap ?_;dsimp only
  have:(sO ((fS prog w).w.params.setOrder a ep) es)[es.size]?=none:=by rw[Array.getElem?_eq_none_iff,<- fR,(Bo _ es).length_eq,fR];exact fJ _
  rw[this];exact h
 ·rename_i d
  have c:w.params.followText "set-order"=false:=Bool.eq_false_iff.mpr d;rw[fF<|by show ¬((!t.plain&&decide (es.size>1))=true);rw[K.tab.plain];simp]
  have g:t.led=true:=by
   rcases K.led with z|z
   ·rw[c] at z;cases z
   ·exact z
  refine am<|show fO _ A (if (!t.led&&!es.isEmpty)=true then jW "set:maker-not-led" else pure ()) _ _ _ from ?_;rw[g,fF q0o,f c];rw[show es[es.size]?=none from by simp];exact ap<|ap h
theorem Mc(hh:A.handled=none)(K:TY w es t ks)(ne:a≠it):Walks prog w A it [it,a] [it] es.size (λi v=>∃x,(IR w a es ep)[i]?=some x/\v=x.2) (Zx w it a es ep t) where
 sub:=λb hb=>by simp at hb;simp[hb]
 frame:=λi h h' z9=>ux z9 λsl z e1 e2 k=>⟨sl,z,k it q0o _ e1,k a q0o _ e2⟩
 item:=by
  rintro i s Q E hi ⟨sl,z,e1,e2⟩ hQ;have hT:s.TypeIs (.ref it) "set_iterator":=⟨_,e1,rfl⟩;unfold rA;refine am<|nN<|wpAny_callSpecial?_slot (name:=ky "__next__") hT v0<|gR v0 hT zW ?_<|AB _;unfold Builtin.«set_iterator.__next__»;refine am<|ap<|am<|Hg e1 ?_;dsimp only;refine am<|pE e2 rfl K.tab.fits ?_;rw[fF q0o]
  obtain⟨x,hx⟩:∃x,(IR w a es ep)[i]?=some x:=by
   have hl:i<(IR w a es ep).size:=by rw[<- fR,(Bq w a es ep).length_eq,fR];exact hi
   exact⟨_,io hl⟩
  simp only[i9];refine am<|Ma e2 K z hx λYT z'=>?_;dsimp only;refine am<|iU e1 q0o λh1 o1 Zy=>am<|iU (s:={ s with heap:=h1}) o1 q0o λh2 o2 sb2=>ap ⟨_,rfl,ap ?_⟩;have sb:=Zy.trans sb2;exact hQ _ h2 _ ⟨x,hx,rfl⟩ ⟨YT,z',o2,sb.extBut a _ ne e2⟩ λb o hb q=>sb.extBut b o (by simpa using hb) q
 done:=by
  rintro s Q E ⟨sl,z,e1,e2⟩ hQ;have hT:s.TypeIs (.ref it) "set_iterator":=⟨_,e1,rfl⟩;unfold rA;refine am<|nN<|wpAny_callSpecial?_slot (name:=ky "__next__") hT v0<|gR v0 hT zW ?_<|AB _;unfold Builtin.«set_iterator.__next__»;refine am<|ap<|am<|Hg e1 ?_;dsimp only;refine am<|pE e2 rfl K.tab.fits ?_;rw[fF q0o];simp only[i9];refine am<|Mb e2 K z ?_;dsimp only;refine am<|iU e1 q0o λh1 o1 Zy=>am ?_;simp only[newExc,newTuple];refine am<|gN ?_ (by size_fits);refine am (m:=oY _ _)<|lh (a:=Value.none) (by first|rfl|(simp only[oY];rfl))<|gN ?_ (by size_fits)
  refine wpAny_raiseNew_none hh<|am<|kK (T:="StopIteration") (b:=true) ⟨_,fU _ rfl,rfl⟩ isSubtype_stop<|ap ?_;exact hQ _ _ λb o hb q=>ce _<|ce _<|Zy.extBut b o (by simpa using hb) q
 self:=by rintro i s Q E ⟨sl,z,e1,e2⟩ hQ;have hT:s.TypeIs (.ref it) "set_iterator":=⟨_,e1,rfl⟩;refine wpAny_pyIter_slot hT AC<|gR AC hT DY ?_<|Fa _;exact ap ⟨_,rfl,"set_iterator",_,hT,v0.lookup,hQ⟩
theorem Vd(e:s.heap.get? a=some (wo es ep t))(K:TY w es t ks)
 (h:∀b,Zx w s.heap.objs.size a es ep t 0 b->(∀c o,s.heap.get? c=some o->b.get? c=some o)->b.objs.size=s.heap.objs.size+1->Q (.ref s.heap.objs.size) { s with heap:=b}):fO (fS prog w) A (pyIter<|.ref a) Q E s:=by
  have d:s.TypeIs (.ref a) "set":=⟨_,e,rfl⟩
  refine wpAny_pyIter_slot d F.slot_set_iter<|gR F.slot_set_iter d C4 ?_<|F.args_set_iter_1 _
  unfold Builtin.«frozenset.__iter__» Builtin.Frozenset.slot0 Builtin.Frozenset.sizeOf setDrawn lU
  refine am<|am<|ap<|ap<|am<|am<|pE e rfl K.tab.fits<|ap ?_
  refine am<|am<|hV e rfl K.tab.fits<|am<|am<|iL<|ap<|ap ?_
  dsimp only
  rw[fF<|by show ¬((!(fS prog w).w.params.followText "set-order"&&(!t.plain&&decide (es.size>1)))=true);rw[K.tab.plain];simp]
  refine am<|ap<|am<|Cp (n:=0) e K.tab.fits ?_
  unfold newFields
  refine am<|gN ?_ (by size_fits)
  refine ap ⟨_,rfl,"set_iterator",_,⟨_,fU _ rfl,rfl⟩,v0.lookup,?_⟩
  exact h _ ⟨0,λ_=>IK K.tab.rise,fU _ rfl,ce _ e⟩ (λc o q=>ce _ q)<|iF _ _
end
theorem Fb:k9 (.type "set") "__len__"=pure (some<|.builtin "set.__len__"):=by rw[my,ki];kernel_rfl
theorem Rn(P:Paired xL a b):∀(j:Nat)(e:Int×cr),a[j]?=some e->∃k,b[j]?=some k/\xL e k:=by
 induction P with
 | nil=>intro j e z;simp at z
 | cons x _ c =>
  intro j e z
  cases j with
  | zero =>
   have d:=gV z;subst d;exact⟨_,rfl,x⟩
  | succ j=>exact c j e (by simpa using z)
theorem zb:∀{a:List cr} {b:List Int},a.length=b.length->(∀(i:Nat)(v:cr),a[i]?=some v->∃k u,b[i]?=some k/\v=kd k u)->jL a b
 | [],[],_,_=>.nil
 | [],_::_,h,_=>by simp at h
 | _::_,[],h,_=>by simp at h
 | v::a,n::b,h,k=>by
  refine vS (k 0 v rfl) λc u d f=>?_;have:n=c:=by simpa using d
  subst this;subst f
  exact .cons _ _ (zb (by simpa using h) λi g e=>by
   refine vS (k (i+1) g<|by simpa using e) λj l m o=>?_
   exact⟨j,l,by simpa using m,o⟩)
section
variable{prog:gf}{w:gu}{A:gJ}{E:cr->fH->Prop}{s:fH}{a:ci}{ks:List Int}
theorem Md(hh:A.handled=none)(S:uT w a ks s.heap)
 (h:∀M tk Y G,jL Y G->G.Perm ks->(∀c o,s.heap.get? c=some o->M.get? c=some o)->s.heap.objs.size<=M.objs.size->Q Y { s with heap:=M,toks:=tk}):fO (fS prog w) A (tH<|.ref a) Q E s:=by
  refine wT (id S) λH I t e K=>?_
  have d:a<s.heap.objs.size:=fQ e
  unfold tH
  refine am<|rP<|iQ sP ?_
  rw[iD sQ _]
  refine am (m:=tJ [])<|gN<|ap ⟨jH mZ _,iQ F.entry_list_iadd ?_⟩
  rw[iD mZ _]
  have l:∀c o,s.heap.get? c=some o->(s.heap.push { cls:=.type "list",data:=.seq ([]:List cr).toArray}).get? c=some o:=λc o q=>ce _ q
  have Z:(s.heap.push { cls:=.type "list",data:=.seq ([]:List cr).toArray}).get? s.heap.objs.size=some { cls:=.type "list",data:=.seq ([]:List cr).toArray}:=fU _ rfl
  have f:(s.heap.push { cls:=.type "list",data:=.seq ([]:List cr).toArray}).objs.size=s.heap.objs.size+1:=iF _ _
  generalize s.heap.push { cls:=.type "list",data:=.seq ([]:List cr).toArray}=n at l Z f ⊢
  show fO _ A.in1 (jI (.ref s.heap.objs.size) (.ref a)<|.ref s.heap.objs.size) _ _ { s with heap:=n}
  unfold jI
  have hT:kD { s with heap:=n} (.ref a) "set":=⟨_,l a _ e,rfl⟩
  refine am<|jB hT ?_
  have n1:j4 (.ref s.heap.objs.size) (.ref a)=false:=by simp[j4,ii d]
  have n2:(i8 "set" == i8 "list")=false:=by decide
  have n3:(i8 "set" == i8 "tuple")=false:=by decide
  simp only[n1,n2,n3,qM,jM,mV]
  refine am<|Vd (s:={ s with heap:=n}) (l a _ e) K λp I2 N ae=>?_
  have j:kD { s with heap:=p} (.ref a) "set":=⟨_,N a _<|l a _ e,rfl⟩
  refine am<|gC ?_
  unfold oS
  refine am<|oG j Fb ?_
  generalize r:("set.__len__":String)=O
  dsimp only
  rw[show splitId O=some ("set","__len__") from by subst r;decide +kernel]
  subst r
  dsimp only
  refine am<|kK (b:=true) j oC ?_
  rw[fF q0o]
  rw[fE q0s]
  refine am<|jB j<|ap ?_
  rw[fE q0s]
  refine am<|kE<|am ?_
  have y:=N _ _ Z
  have P:A.in1.handled=none:=by simp[hh]
  have ne:a≠n.objs.size:=fX<|l8 d (by rw[f];exact iA _)
  have W:=(Mc (prog:=prog) (A:=A.in1) (ep:=I) P K ne).toS
  show fO _ A.in1 (sR s.heap.objs.size (·.push .none) >>= λ_=>sR s.heap.objs.size (·.pop)) _ _ _
  refine am<|oK y rfl ?_
  have B:=gP (Obj.mapSeq (·.push Value.none)) y rfl
  refine oK B rfl ?_
  have C:=gP (Obj.mapSeq (·.pop)) B rfl
  have J:∀c o,c≠s.heap.objs.size->p.get? c=some o->((p.update s.heap.objs.size (Obj.mapSeq (·.push Value.none))).update s.heap.objs.size (Obj.mapSeq (·.pop))).get? c=some o :=
    λc o hc q=>(gG _ _<|Ne.symm hc).trans<|(gG _ _<|Ne.symm hc).trans q
  have R:((p.update s.heap.objs.size (Obj.mapSeq (·.push Value.none))).update s.heap.objs.size (Obj.mapSeq (·.pop))).objs.size=p.objs.size:=by rw[m4,m4]
  have T:s.heap.objs.size∉[n.objs.size,a]:=by
    simp only[gp,ie,kF,oX]
    exact⟨by rw[f];exact fX<|iA _,ii d⟩
  generalize (p.update s.heap.objs.size (Obj.mapSeq (·.push Value.none))).update s.heap.objs.size (Obj.mapSeq (·.pop))=h4 at C J R ⊢
  refine ux I2 λsl z i1 i2=>?_
  have I4:Zx w n.objs.size a H I t 0 h4:=⟨sl,z,J _ _ (by rw[f];exact ii<|iA _) i1,J _ _ (fX d) i2⟩
  refine ap ⟨jH oZ _,codeAny_extend_loopS W (xB K.small) _ T _ H.size 0 _ _ _ rfl (g9 _) I4 C (ItemsOf.nil _) λs5 U c5 L D g=>?_⟩
  show fO _ A (load s.heap.objs.size >>= _) _ _ s5
  refine am<|pM D<|ap ?_
  obtain⟨h5,g5,d5,V,X⟩:=s5
  have eg:g5=s.gens:=L.gens
  have ed:d5=s.drawn:=L.drawn
  have eo:X=s.os:=L.os
  subst eg ed eo
  -- aa ab
  refine tX (wW (Bq w a H I).symm K.ent) λG pp pe=>?_
  have k5:∀c o,s.heap.get? c=some o->h5.get? c=some o:=λc o q=>L.heap c o (by
    simp only[gp,ie,kF,oX]
    exact⟨fX (fQ q),fX (fQ (l c o q))⟩) (J c o (fX (fQ q)) (N c o (l c o q)))
  refine h h5 V U.toList G (zb ?_ λi v hv=>?_) pp.symm k5<|kq<|fQ D
  · rw[fR, g.1, <- Kz pe, fR, <- fR, <- fR, (Bq w a H I).length_eq]
  · obtain⟨x, hx, rfl⟩ := g.2 i v (by rw[<- gI]; exact hv)
    obtain⟨k,hk,_,u,hu⟩:=Rn pe i x (by rw[gI];exact hx)
    exact⟨k,u,hk,hu⟩
theorem Br 
 (B:∀(u:List cr->fH->Prop),(∀d f b e,jL b e->e.Perm ks->(∀c o,s.heap.get? c=some o->d.get? c=some o)->s.heap.objs.size<=d.objs.size->u b { s with heap:=d,toks:=f})->fO (fS prog w) A.in1 (tH v) u E s)
 (k:ks.length<64) (h:∀d f r b e,s.heap.objs.size<=r->jL b e->e.Perm ks->e.Pairwise (·<=·)->(∃n,d.get? r=some { cls:=.type "list",data:=.seq b.toArray n})->(∀c o,s.heap.get? c=some o->d.get? c=some o)->Q (.ref r) { s with heap:=d,toks:=f}) :
    fO (fS prog w) A (call (.builtin "sorted") [v]) Q E s:=by
  refine qp kind_sorted plain_sorted entry_sorted (args_sorted1 _) ?_
  unfold Builtin.«sorted»
  refine am (m:=checkCount "sorted" 1 1 _)<|ap ?_
  refine am<|B _ λl f b e x y z C=>?_
  have g:b.length<64:=by rw[pR x,y.length_eq];exact k
  refine am<|sA ?_
  have p:(l.push<|kQ "list" b.toArray 0).get? l.objs.size=some (kQ "list" b.toArray 0):=fU _ rfl
  refine am<|gC<|gR slot_list_sort ⟨_,p,rfl⟩ entry_list_sort (list_sort_tree p x g λi t D F G=>⟨_,rfl,?_⟩)<|args_list_sort _
  obtain⟨H,I⟩:=sortedHeap_at (out:=i) p
  refine ap ⟨_,rfl,h _ f l.objs.size i.toList t C D (F.trans y) G ⟨H,by simpa using I⟩ λc o q=>?_⟩
  have j:=fQ<|z c o q
  rw[sortedHeap_old (fX j)<|by rw[rR];exact mP j]
  exact ce _<|z c o q
theorem Fc(g:A.handled=none)(S:uT w a ks s.heap)(b:ks.length<64)
 (h:∀d i r f e,s.heap.objs.size<=r->jL f e->e.Perm ks->e.Pairwise (·<=·)->(∃n,d.get? r=some { cls:=.type "list",data:=.seq f.toArray n})->(∀c o,s.heap.get? c=some o->d.get? c=some o)->Q (.ref r) { s with heap:=d,toks:=i}) :
    fO (fS prog w) A (call (.builtin "sorted") [.ref a]) Q E s :=
  Br (λ_ k=>Md (by simp[g]) S k) b h
theorem DZ{b:List cr}(m:s.heap.IsList l b.toArray)(d:jL b ks)(f:ks.length<64)
 (h:∀g p r j i,s.heap.objs.size<=r->jL j i->i.Perm ks->i.Pairwise (·<=·)->(∃n,g.get? r=some { cls:=.type "list",data:=.seq j.toArray n})->(∀c o,s.heap.get? c=some o->g.get? c=some o)->Q (.ref r) { s with heap:=g,toks:=p}) :
    fO (fS prog w) A (call (.builtin "sorted") [.ref l]) Q E s :=
  Br (λ_ k=>collect_list m (k _ s.toks _ _ d (.refl _) (λc o q=>(gG _ _ (ii (fQ q))).trans (ce _ q)) (by rw[m4,rR];exact kh _)) (by
    have:=pR d
    have e:(64:Nat)<=fK:=by rw[hX];decide
    lia)) f h
end
end SX
namespace L2
open PySem PySem.Spec PyProof.Rows SX
theorem zB{a:List Int}(h:Vals (a.map V.int) b):jL b a:=intsAre_of h
theorem Ro(h:jL a b):Vals (b.map V.int) a:=Ep h
def wl(w:gu)(p:ci)(a:List Int):HO:=.ext<|uT w p a
section
variable{X:Cx}
theorem yw(I:Inv X a c H s)(h:H p=some (wl X.w p b)):uT X.w p b s.heap:=(I.uO p _ h).1
theorem Fd(x:uT w p a h):u7 P w H h p (wl w p a) :=
 ⟨x,(wT x λ_ _ _ e _=> ⟨_,e⟩),λ_ _ q k=>q.keep k⟩
theorem Hh(i:X.calm=true):xJ X (.type "set") (λe H Q=>∃(a:ci)(c:List Int),e=[.ref a]/\vn X.K H a (c.map V.int)/\c.length<=126/\∀(p:ci)(b:List Int),H p=none->b.Nodup->b.length<=c.length->(∀k,k∈b↔k∈c)->Q (.ref p) (upd H p<|wl X.w p b)):=by intro f s z H e A Q I r h;obtain⟨a,c,rfl,j,B,q⟩:=h;obtain⟨u,rfl,l⟩:=vals1 r;cases l;refine ux (I.list j) λn g o C=>?_;have t:=zB g;have d:=g.length;rw[fN] at d;refine IQ (I.ok.hd i) o.isList (by simpa using t) (by rw[fW];lia) λD v b S m k=>?_;refine⟨.ref s.heap.objs.size,_,I.laid (t':=v) k (fJ _)<|Fd S,rfl,q _ b (I.uO.fresh<|fJ _) S.nodup (xZ _ _ S.nodup λx y=>(m x).mp y) m⟩
theorem Rp:zO X (kS .BitXor) (λx y H Q=>∃(a b:ci)(c d:List Int),x=.ref a/\y=.ref b/\H a=some (wl X.w a c)/\H b=some (wl X.w b d)/\c.length+d.length<=126 /\
  ∀(p:ci)(e:List Int),H p=none->e.Nodup->(∀k,k∈e↔((k∈d/\k∉c)\/(k∉d/\k∈c)))->Q (.ref p) (upd H p (wl X.w p e))):=by
 intro f s o H x y v u Q I g i h;obtain⟨a,b,c,d,rfl,rfl,j,l,n,q⟩:=h;cases g;cases i;refine W7 (yw I j) (yw I l) n λr e S m k=>?_;exact⟨.ref s.heap.objs.size,_,I.laid (t':=s.toks) k (fJ _)<|Fd S,rfl,q _ e (I.uO.fresh<|fJ _) S.nodup m⟩
theorem Aj{g:List Int}(I:Inv X b k H s)(l:g.length<64)(q:∀(p:ci)(a:List Int),H p=none->a.Perm g->a.Pairwise (·<=·)->Q (.ref p) (upd H p<|.lst<|a.map V.int)) :
  ∀(d:gE)(h:Nat)(r:ci)(f:List cr)(a:List Int),s.heap.objs.size<=r->jL f a->a.Perm g->a.Pairwise (·<=·)->(∃n,d.get? r=some { cls:=.type "list",data:=.seq f.toArray n})->(∀c o,s.heap.get? c=some o->d.get? c=some o)->EP X b k Q (.ref r) { s with heap:=d,toks:=h}:=by
 intro d h r f a i m j t u v;obtain⟨n,e⟩:=u;have w:(64:Nat)<=fK:=by rw[hX];decide
 exact⟨.ref r,_,I.laid (t':=h) (o:=.lst<|a.map V.int) v i ⟨by rw[fN,j.length_eq];lia,f,n,Ro m,e⟩,rfl,q r a (I.uO.fresh i) j t⟩
theorem AD(g:X.calm=true):xJ X (.builtin "sorted") (λe H Q=>∃(a:ci)(c:List Int),e=[.ref a]/\H a=some (wl X.w a c)/\c.length<64/\∀(p:ci)(d:List Int),H p=none->d.Perm c->d.Pairwise (·<=·)->Q (.ref p) (upd H p<|.lst<|d.map V.int)):=by intro f s k H e l Q I r h;obtain⟨a,c,rfl,i,b,q⟩:=h;obtain⟨u,rfl,j⟩:=vals1 r;cases j;exact Fc (I.ok.hd g) (yw I i) b<|Aj I b q
theorem Fe:xJ X (.builtin "sorted") (λe H Q=>∃(a:ci)(c:List Int),e=[.ref a]/\vn X.K H a (c.map V.int)/\c.length<64/\∀(p:ci)(d:List Int),H p=none->d.Perm c->d.Pairwise (·<=·)->Q (.ref p) (upd H p<|.lst<|d.map V.int)):=by intro f s m H e n Q I r h;obtain⟨a,c,rfl,g,b,q⟩:=h;obtain⟨u,rfl,i⟩:=vals1 r;cases i;refine ux (I.list g) λj k l o=>?_;exact DZ l.isList (zB k) b<|Aj I b q
def Eu(X:Cx)(H:Hp)(x:V)(d:PyData):Prop:=∀(a:List (ci×Obj)) (b:St) (s:fH) (u:cr),Inv X a b H s->RelV x u->∃c,Reads s.heap u d c
theorem Eu.int(i:Int):Eu X H (.int i) (.int i):=λ_ _ _ _ _ r=>by obtain⟨t,rfl⟩:=r;exact⟨_,Reads.int i t⟩
theorem Ev(I:Inv X a e H s):∀{c:List V} {d:List cr} {b:List PyData},Vals c d->Paired (Eu X H) c b->∃f,ReadsAll s.heap d b f:=by
 intro _ _ b z
 induction z generalizing b with
 | nil=>intro w;cases w;exact⟨_,.nil⟩
 | cons r t g=>intro w;cases w with|cons q p =>
  obtain⟨j,h⟩:=q a e s _ I r;obtain⟨k,i⟩:=g p;exact⟨_,.cons h i⟩
theorem Eu.lst(h:vn X.K H a c)(p:Paired (Eu X H) c d):Eu X H (.ref a) (.list d):=λb m s u I r=>by
 cases r;refine ux (I.list h) λe f g _=>?_;obtain⟨q,i⟩:=Ev I f p;obtain⟨o,j,k,n,l⟩:=g.isList;exact⟨_,Reads.list j k l<|by simpa using i⟩
def Xd(X:Cx)(a:Bool):R2:=λx y H Q=>∃d e,Eu X H x d/\Eu X H y e/\qW d=true/\qW e=true/\n9 d e=true/\Q (.bl<|if a then !PySem.Spec.same d e else jE d e) H
theorem Ve(c:X.A.units+64<ju):zO X (iB .Eq) (Xd X false):=by intro a s b H x y v u Q I f g h;obtain⟨d,e,i,j,k,l,m,q⟩:=h;obtain⟨p,n⟩:=i a b s v I f;obtain⟨r,o⟩:=j a b s u I g;exact eq_dataH_same n o k l c m ⟨.bl _,H,I,rfl,q⟩
theorem Vf(c:X.A.units+64<ju):zO X (iB .NotEq) (Xd X true):=by intro a s b H x y v u Q I f g h;obtain⟨d,e,i,j,k,l,m,q⟩:=h;obtain⟨p,n⟩:=i a b s v I f;obtain⟨r,o⟩:=j a b s u I g;exact ne_dataH_same n o k l c m ⟨.bl _,H,I,rfl,q⟩
theorem Hi:xJ X (.builtin "isinstance") (λa H Q=>∃(x:V)(T:String)(t:cr)(b:Bool),a=[x,.ty T]/\yX X.K H x t/\pO X.K t (.type T)=some b/\Q (.bl b) H):=by intro c s j H a k Q I r h;obtain⟨x,T,t,b,rfl,d,e,q⟩:=h;obtain⟨u,v,rfl,f,g⟩:=vals2 r;cases g;exact LN I f d e λi=>⟨.bl b,H,I.tok i,rfl,q⟩
def Xe:V->V->Hp->VK->Prop:=λo i H Q=>∃(p:ci)(a:List V)(k:Int)(v:V),o=.ref p/\i=.int k/\H p=some (.lst a)/\0<=k/\a[k.toNat]?=some v/\Q v H
theorem NP:WA X Xe:=by intro a s w H o i x y Q I c d h;obtain⟨p,z,k,v,rfl,rfl,e,f,b,q⟩:=h;cases c;obtain⟨t,rfl⟩:=d;refine ux (I.list<|vn.of (K:=X.K) e) λg r j A=>?_;refine tX (r.get b) λu l m=>?_;have B:=Bh;have n:=(List.getElem?_eq_some_iff.mp b).1;exact wpAny_getItem_list j.isList f q0a (by simpa using l) ⟨v,H,I,m,q⟩
end
abbrev DQ(X:Cx)(a:jO)(d:List (Str×ci))(e:List Str)(b:fH)(c:Hp)(C:ci)(f:List ci)(g:List (ci×Obj)):Cx :=
 { X with N:=e,s₀:=b,H₀:=c,env:=rS a d C X.env,outer:=X.stack,stack:=X.stack,ex:=f,fn:=λ_=>false,pn:=g,xe:=λ_ _=>False}
structure Ak(X:Cx)(scope:jO)(cl:List (Str×ci))(T Fr:List Str)(idx:List Nat):Prop where
 kind:scope.kind=.function
 Xf:rT scope X.env=pure cl
 Al:∀y∈scope.names,y.2≠.cell
 names:∀y∈scope.names,y.2=.local->scope.names.lookup y.1=some .local
 sub:∀x c,cl.lookup x=some c->X.env.cells.lookup x=some c
 frl:∀y∈scope.names,y.2=.free->∃c,cl.lookup y.1=some c
 fr:∀(j:Nat)(x:Str),Fr[j]?=some x->∃i c,idx[j]?=some i/\X.N[i]?=some x/\(X.env.kindOf x=some .cell\/X.env.kindOf x=some .free)/\cl.lookup x=some c/\((pf scope X.env).names.lookup x=some .cell\/(pf scope X.env).names.lookup x=some .free)
 len:idx.length=Fr.length
def wp(T:List Str)(a:List Nat)(b:St):St:=T.map (λ_=>none)++a.map λi=>b[i]?.join
theorem lookup_mem{β:Type}:∀{l:List (Str×β)} {x:Str} {v:β},l.lookup x=some v->(x,v)∈l:=by
 intro l
 induction l with
 | nil=>intro _ _ h;cases h
 | cons p r ih =>
  intro x v h;obtain⟨y,z⟩:=p;rw[ig] at h
  cases q:x==y with
  | true =>
   rw[q] at h;cases h;rw[eq_of_beq q];exact fM
  | false =>
   rw[q] at h;exact fP _<|ih h
theorem Ak.has{l:List Str}(B:Ak X a m T l idx)(h:(pf a X.env).names.lookup x=some .cell\/(pf a X.env).names.lookup x=some .free):∃c,m.lookup x=some c:=by
 have b:∃k,(x,k)∈(pf a X.env).names/\(k=.cell\/k=.free):=by
  rcases h with h|h
  ·exact⟨_,lookup_mem h,.inl rfl⟩
  ·exact⟨_,lookup_mem h,.inr rfl⟩
 obtain⟨k,b,o⟩:=b;unfold pf at b;obtain⟨⟨n,f⟩,i,e⟩:=List.mem_map.mp b;dsimp only at e
 have:n=x/\f=.free:=by
  by_cases d:(f==NameKind.free&&X.env.scope.kind==ScopeKind.function&&X.env.kindOf n==some NameKind.cell)=true
  ·rw[fE d] at e;have g:n=x:=congrArg Prod.fst e;simp only[gK,beq_iff_eq] at d;exact⟨g,d.1.1⟩
  ·rw[fF d] at e;have g:n=x:=congrArg Prod.fst e;have j:f=k:=congrArg Prod.snd e;rcases o with q|q
   ·exact fY (j.trans q)<|B.Al _ i
   ·exact⟨g,j.trans q⟩
 obtain⟨rfl,rfl⟩:=this;exact B.frl _ i rfl
theorem wU.T4(x:wU P w H h)(f:H a=none)(d:u7 P w (upd H a o) h a o):wU P w (upd H a o) h:=λb u e=>by
 by_cases g:b=a
 ·subst g;rw[tZ] at e;cases e;exact d
 ·rw[ss g] at e;exact(x b u e).Ca (λ_ _ _ q=>q) (λc q=>by rw[ss<|uf q f];exact q) λc i q=>by rw[ss<|uf q f];exact q
section
variable{X:Cx}{elt iter tg:gA}{scope:jO}{cl:List (Str×ci)}{T Fr:List Str}{idx:List Nat}{wi:TI}{g:TG}{tt:TT}{te:TE}{pos:Pos}{ifs:List gA}
def Vg(X:Cx)(ifs:List gA)(tt:TT):Prop:=∀(a:List (ci×Obj)) (s:fH) (b:St) (H:Hp) (Q:Bool->Hp->Prop),Inv X a b H s->tt b H Q ->
 fO (fS X.prog X.w) X.A (forIn ifs true λc r=>if r=true then do let ok <- pK c X.env (eval c X.env);pure (lp ok) else pure (lp r)) (TP X a b Q) X.xe s
theorem Rq:Vg X [] (λ_ H Q=>Q true H):=λ_ _ _ H _ I h=>qX ⟨H,I,h⟩
theorem Rr(h:PT X c b):Vg X [c] b:=λa s d H Q I q=>wpAny_tests_one<|h a s d H Q I q
theorem NQ(u:Nat->fH->Prop)
 (y:∀n s,u n s->fO (fS a w) A (rA H) (λr d=>match r with
 | none=>R (.ok .next) d
 | some v=>fO (fS a w) A (oF target H v) (λ_ f=>fO (fS a w) A (pL target b v) (λ_ i =>
 fO (fS a w) A (forIn ifs true λc r=>if r=true then do let z <- pK c b (eval c b);pure (lp z) else pure (lp r)) (λz e =>
 if z=true then fO (fS a w) A (eval elt b) (λx j=>fO (fS a w) A (call (.builtin "list.append") [B,x]) (λ_ k=>∃m,m<n/\u m k) (λ_ _=>False) j) (λ_ _=>False) e
 else ∃m,m<n/\u m e) (λ_ _=>False) i) (λ_ _=>False) f) (λ_ _=>False) d) (λ_ _=>False) s)
 (n:Nat) (h:u n s):kW (fS a w) A (.compLoop (.ListComp elt [⟨target,iter,ifs,0⟩] scope pos) 0 H B b) R s:=by
  refine codeAny_loop rfl u (λn s J=>?_) n h
  show fO _ A ((compTurn (.ListComp elt [⟨target,iter,ifs,0⟩] scope pos) 0 H B b).onRaise<|λx=>do qx x b;theTreesLotGoes x) _ _ s
  refine wpAny_noted ?_
  rw[compTurn_list]
  have l:∀{I:Type} {t:Sem I} {Q:I->fH->Prop} {E:cr->fH->Prop} {s:fH},fO (fS a w) A t Q (λ_ _=>False) s->fO (fS a w) A t Q E s:=λh=>hJ h (λ_ _ q=>q) λ_ _ q=>q.elim
  refine am<|lY<|am<|l<|uL (y n s J) λr d o=>?_
  cases r with
  | none=>exact l<|ap o
  | some v =>
    refine am<|l<|uL o λ_ f C=>am<|l<|uL C λ_ i D=>am<|l<|uL D λz e p=>?_
    cases z with
    | false=>exact l<|ap ⟨rfl,p⟩
    | true=>exact am<|am<|l<|uL p λx j F=>am<|l<|uL F λ_ k G=>ap<|ap ⟨rfl,G⟩
end
structure Vh(X:Cx)(c P:ci):Prop where
 code:X.env.code=.ref c
 hd:pS X.base c P
 blt:∃bm ob,X.mg "__builtins__"=some (.ref bm)/\bm≠mS/\X.base.get? bm=some ob/\ob.cls=.type "module"/\ob.dict=some mS/\ob.data=.plain
def TabAt(H:Hp)(P:ci):Prop:=∃a,H P=some (.DP a)/\sS a.toList
theorem AE{a b:Int}:∀(l:List cr),sS l->sS (l++[.int a 0,.int b 0,c])
 | [],_=>trivial
 | .int _ _::.int _ _::_::r,h=>AE r h
def yx(a b:List Int):Bool:=(a.zip b).all λp=>decide<|p.1<p.2
theorem Rs(a b:List Int):(gl<|min a.length b.length).all (λj=>decide<|a.getD j 0<b.getD j 0)=yx a b:=by
 unfold yx;rw[kG,m6,m6];constructor
 ·intro h p f;obtain⟨j,c⟩:=j9 f;obtain⟨d,e⟩:=List.getElem?_zip_eq_some.mp c;have l:=(List.getElem?_eq_some_iff.mp d).1;have m:=(List.getElem?_eq_some_iff.mp e).1;have:=h j<|List.mem_range.mpr q0a;rw[il,il,d,e] at this;exact this
 ·intro h j c;have c:=List.mem_range.mp c;have g:a[j]?=some (a.getD j 0):=by rw[il,iz q0a];rfl
  have i:b[j]?=some (b.getD j 0):=by rw[il,iz q0a];rfl
  have k:(a.zip b)[j]?=some (a.getD j 0,b.getD j 0):=List.getElem?_zip_eq_some.mpr ⟨g,i⟩;exact h _<|iP k
def IS(S:Hp->ci->List V->Prop)(P:ci)(g:TA):TE:=λh H Q=>g h H λi c=>∃(a b:ci)(e f:List Int),i=[.ref a,.ref b]/\S c a (e.map V.int)/\S c b (f.map V.int)/\TabAt c P /\
 ∀d,(∀b o,b≠P->c b=some o->d b=some o)->(∀b,b≠P->c b=none->d b=none)->TabAt d P->Q (.bl<|yx e f) d
abbrev Xg(K:fB)(P:ci)(a:TA):TE:=IS (vn K) P a
abbrev Vi(K:fB)(P:ci)(a:TA):TE:=IS (yg K) P a
structure NR(X:Cx)(S:Hp->ci->List V->Prop)(P:ci):Prop where
 go:∀{pins:List (ci×Obj)} {σ:St} {H1:Hp} {s1:fH} {a b:ci} {us vs:List V} {ps:Array cr},Inv X pins σ H1 s1->X.A.handled=none->S H1 a us->S H1 b vs->H1 P=some (.DP ps) ->
  ∃ia ib:List cr,Vals us ia/\Vals vs ib/\a<s1.heap.objs.size/\b<s1.heap.objs.size/\a≠P/\b≠P/\∀(Q:cr->fH->Prop)(E:cr->fH->Prop),
   (∀h2 St Mid,(∀A':gJ,A'.handled=none->WalksU X.prog X.w A' (s1.heap.objs.size+4) [s1.heap.objs.size+4,s1.heap.objs.size+2,s1.heap.objs.size+3,s1.heap.objs.size,s1.heap.objs.size+1,a,b] [s1.heap.objs.size+4,s1.heap.objs.size+3,s1.heap.objs.size,s1.heap.objs.size+1] (min ia.toArray.size ib.toArray.size) (λi vals=>∃x y,ia.toArray[i]?=some x/\ib.toArray[i]?=some y/\vals=#[x,y]) St Mid) ->
    St 0 h2->h2.objs.size=s1.heap.objs.size+5->(∀c o,s1.heap.get? c=some o->h2.get? c=some o)->Q (.ref (s1.heap.objs.size+4)) { s1 with heap:=h2})->fO (fS X.prog X.w) X.A (call (.type "zip") [.ref a,.ref b]) Q E s1
section
variable{X:Cx}
theorem Inv.tabled{s':fH}(I:Inv X d l H s)(h:H P=some (.DP j))(m:s'.os=s.os)(p:lX s'.gens)
 (k:∀b o,b≠P->s.heap.get? b=some o->s'.heap.get? b=some o)(e:s'.heap.get? P=some { cls:=.none,data:=.fields (j++more)}):Inv X d l (upd H P<|.DP<|j++more) s':=by
  have i:∀b,H b=none->b≠P:=λb n z=>by rw[z,h] at n;cases n
  have g:∀b u,H b=some u->(∀q,u≠.DP q)->b≠P:=λb u n f z=>by rw[z,h] at n;cases n;exact f _ rfl
  refine I.TH (ch:=[]) m ⟨λb o q n _ _=>k b o (i b n) q,λb o q n _ _=>⟨o.slots,k b o (i b n) q⟩,λb o q n _=>by rw[ss<|i b n];exact n,λb o q _=>?_,λb r q=>by rw[ss<|g b _ q<|λ_ z=>nomatch z];exact q,λb o u q=>by rw[ss<|g b _ q<|λ_ z=>nomatch z];exact q,λb w q=>?_⟩ (λb u q=>?_) p λb a=>by cases a
  · by_cases a : b = P
    · rw[a]; exact⟨_, e⟩
    · exact⟨o, k b o a q⟩
  · by_cases a : b = P
    · subst a
      rw[h] at q
      cases q
      exact⟨more,tZ⟩
    · exact⟨#[], by rw[ss a, q]; simp⟩
  · by_cases a : b = P
    · subst a
      rw[tZ] at q
      cases q
      exact e
    · rw[ss a] at q
      refine(I.uO b u q).Ca (λc v t z=>k c v ?_ z) (λc z=>by rw[ss<|g c _ z<|λ_ y=>nomatch y];exact z) λc r z=>by rw[ss<|g c _ z<|λ_ y=>nomatch y];exact z
      rcases t with y|y
      · rw[y]; exact a
      · exact g c _ y<|λ_ x => nomatch x
theorem NS{s:fH}{a:Env}{i j:Int}(d:a.scope.kind=.function)(g:a.kindOf b=some .local)(k:a.kindOf c=some .local)(e:s.heap.Ns a.locals m)
 (l:m b=some (.int i t))(n:m c=some (.int j u))(o:(b==("__debug__":Str))=false)(p:(c==("__debug__":Str))=false)(h:Q (.bool<|decide<|i<j) s):fO (fS f w) A (eval (.Compare (.Name b q) [.Lt] [.Name c r] v) a) Q E s:=by
  refine ry (ot (jy d g e l<|ot (jy d k e n<|lt_int h) p) o)<|uA _
variable{e1 e2:gA}{ta:TA}{xa xb:Str}{p1 p2 p3 p4 q1 q2 q3 pa pb pt NT:Pos}{kt:Nat}{QH:jO}{c P:ci}
theorem Hj(Z:NR X S P)(az:X.calm=true)(G:Vh X c P)(Y:X.A.depth<rC)(aA:Gl X "all")(ag:X.mg "all"=none)(aB:Gl X "zip")(aC:X.mg "zip"=none)(aa:PA X [e1,e2] ta)
 (hk:QH.kind=.function) (aD:QH.isCoroutine=false) (ab:rT QH X.env=pure []) (ae:∀y∈QH.names,y.2≠.cell) (h0:QH.names.lookup (".0":Str)=some NameKind.local) (ak:QH.names.lookup xa=some .local) (al:QH.names.lookup xb=some .local) (aE:xa≠xb)
 (da:(xa==("__debug__":Str))=false) (db:(xb==("__debug__":Str))=false)
 (aF:fG [e1,e2] X.env=(false,eval e1 X.env)::fG [e2] X.env:=by rfl) (aG:(ij p3<|fG [e2] X.env).any (·.1)=false:=by rfl) :
    PE X (.Call (.Name "all" p1) [.GeneratorExp (.Compare (.Name xa q1) [.Lt] [.Name xb q2] q3) [⟨.Tuple [.Name xa pa,.Name xb pb] kt pt,.Call (.Name "zip" p2) [e1,e2] [] p3,[],0⟩] QH NT] [] p4) (IS S P ta):=by
  intro n s σ H Q I h
  have hh:X.A.handled=none:=I.ok.hd az
  refine js<|yS I aA ag boot_all<|oj ?_ rfl rfl
  show fO _ _ (o7 [(false,eval (.GeneratorExp (.Compare (.Name xa q1) [.Lt] [.Name xb q2] q3) [⟨.Tuple [.Name xa pa,.Name xb pb] kt pt,.Call (.Name "zip" p2) [e1,e2] [] p3,[],0⟩] QH NT) X.env)]) _ _ s
  refine i5<|wpAny_GeneratorExp_walksQTD hh aD ab ae h0 ak al aE hk Y (js<|yS I aB aC boot_zip<|jG (uL (aa p3 n s σ H _ I h) λus m z9=>ut z9 λvs H1 I1 r1 q1=>?_) aF aG)<|λ_=>rfl
  obtain⟨a,b,ns,ms,rfl,ha,f,⟨O,hP,tr⟩,q⟩:=q1
  obtain⟨ua,ub,rfl,ra,rb⟩:=vals2 r1
  cases ra
  cases rb
  obtain⟨ia,ib,va,vb,aH,aI,aP,bP,aJ⟩:=Z.go I1 hh ha f hP
  have u:m.heap.get? P=some (pT O):=I1.uO P _ hP
  have an:P<m.heap.objs.size:=fQ u
  refine aJ _ _ λh2 St ao W aq aK k2=>?_
  refine(W X.A hh).self 0 { m with heap:=h2} _ _ aq ?_
  have I2:Inv X n σ H1 { m with heap:=h2}:=I1.kept (t':=m.toks) k2
  refine⟨I2.nolimit,?_⟩
  have ar:pS h2 c P:=G.hd.keeps λb o e=>I2.bk b o e
  have au:=ar.code (k2 P _ u) tr
  have aL:=ar.tab<|k2 P _ u
  obtain⟨bm,ob,b1,b2,b3,b4,b5,b6⟩:=G.blt
  -- aj the D: the sN is O++l,all else is kept
  have R:∀(D:cr)(C:gE)(M:Nat)(l:Array cr),(∀b o,b≠P->h2.get? b=some o->C.get? b=some o)->h2.objs.size<=C.objs.size->C.get? P=some { cls:=.none,data:=.fields (O++l)}->sS (O++l).toList ->
      fO (fS X.prog X.w) X.A (builtinsFor X.env.globals X.env.builtins) (λbi d=>∃I fp wr p Pt E ao pz F,fZ (m.heap.objs.size+4)=.ref I/\(∀A':gJ,A'.handled=none->WalksU X.prog X.w A' I fp wr p Pt E ao)/\(∀i J,Pt i J->∃va vb,J=#[va,vb])/\E 0 d.heap/\(∀b∈fp,b<d.heap.objs.size)/\d.heap.NoLimit/\qh∉wr /\
          (∀K:gE,(∀b o,d.heap.get? b=some o->K.get? b=some o) ->
            QuietGenTD X.prog X.w (genEnv QH [] d.heap.objs.size D bi X.env) xa xb [] (.Compare (.Name xa q1) [.Lt] [.Name xb q2] q3) (gl d.heap.objs.size) wr Pt pz F K (X.A.depth+1) (X.A.units+8)) /\
          (∀a B M gs,gs.bare=true->d.heap.objs.size<a->B.objs.size=a+1->(∀b o,d.heap.get? b=some o->B.get? b=some o) ->
            WalksS X.prog X.w X.A.in4 a (a::d.heap.objs.size::gl d.heap.objs.size) (d.heap.objs.size::wr) (GenOnlyQ d.gens.size) (passing pz p 0).length
              (λj y=>∃i,(passing pz p 0)[j]?=some i/\F i y) (GenAt X.prog X.w X.A.in4 a d.gens.size d.heap.objs.size (gl d.heap.objs.size) wr pz p F) ->
            GenAt X.prog X.w X.A.in4 a d.gens.size d.heap.objs.size (gl d.heap.objs.size) wr pz p F 0 { d with gens:=d.gens.push gs,toks:=M,heap:=B} ->
            fO (fS X.prog X.w) X.A (o7 []) (λus ah=>fO (fS X.prog X.w) X.A (call (.builtin "all") (.ref a::us)) (EP X n σ Q) X.xe ah) X.xe { d with gens:=d.gens.push gs,toks:=M,heap:=B})) X.xe { m with heap:=C,toks:=M}:=by
    intro D C M l k3 aM e3 aN
    have I3:Inv X n σ (upd H1 P<|.DP<|O++l) { m with heap:=C,toks:=M}:=Inv.tabled (s:={ m with heap:=h2}) (s':={ m with heap:=C,toks:=M}) I2 hP rfl I2.bare k3 e3
    have av:=I3.bk
    refine wpAny_builtinsFor (by rw[I3.ok.glob];exact I3.mod.glob.keeps av) b1 b2 (av _ _ b3) b4 b5 b6 ?_
    have nz:∀k,m.heap.objs.size+k≠P:=λk=>ii<|ga an<|m9 _ _
    have aO:qh<m.heap.objs.size:=by obtain⟨mc,T,_⟩:=I1.nolimit;exact T.lt
    have U:=va.length
    have V:=vb.length
    rw[fN] at U V
    have aQ:∀(i:Nat)(x:cr),ia.toArray[i]?=some x->∃t,x=.int (ns.getD i 0) t:=λi x hx=>pQ (zB va) i x (by simpa using hx)
    have aR:∀(i:Nat)(x:cr),ib.toArray[i]?=some x->∃t,x=.int (ms.getD i 0) t:=λi x hx=>pQ (zB vb) i x (by simpa using hx)
    have r:∀k,k<5->m.heap.objs.size+k<C.objs.size:=λk hk=>ga (Nat.add_lt_add_left hk _)<|gZ (pB aK.symm) aM
    refine⟨_,_,_,_,_,_,_,(λ_=>true),(λi y=>y=.bool (decide<|ns.getD i 0<ms.getD i 0)),rfl,W,λi J z9=>ut z9 λx y _ _ e=>⟨x,y,e⟩,(W X.A hh).frame _ _ _ aq λb f o e=>k3 b o ?_ e,λb f=>?_,I3.nolimit,?_,λK aY=>?_,λg h5 aS gs gb g1 g2 k5 WS GA=>?_⟩
    · simp only[gp, ie, kF] at f
      rcases f with z|z|z|z|z|z|z<;>rw[z]
      · exact nz 4
      · exact nz 2
      · exact nz 3
      · exact nz 0
      · exact nz 1
      · exact aP
      · exact bP
    · simp only[gp, ie, kF] at f
      rcases f with z|z|z|z|z|z|z<;>rw[z]
      · exact r 4 q0q
      · exact r 2 q0q
      · exact r 3 q0q
      · exact r 0 q0q
      · exact r 1 q0q
      · exact l8 aH<|r 0 q0q
      · exact l8 aI<|r 0 q0q
    · intro f
      simp only[gp,ie,kF] at f
      have N:∀k,qh≠m.heap.objs.size+k:=λk=>fX<|ga aO<|m9 _ _
      rcases f with z|z|z|z
      · exact N 4 z
      · exact N 3 z
      · exact N 0 z
      · exact N 1 z
    · refine⟨λA' E' i aw ax s2 m2 _ _ _ _ _ _ _ _ => qX ⟨rfl, s2.heap, s2.toks, rfl, λ_ _ e => e⟩, λA' E' i aw ax s2 m2 hA _ _ aT _ T ag aU _ => ?_⟩
      obtain⟨x,y,hx,hy,e⟩:=aT
      obtain⟨ex,ey⟩:aw=x/\ax=y:=by simpa using congrArg qT e
      subst ex ey
      obtain⟨t1,rfl⟩:=aQ i _ hx
      obtain⟨t2,rfl⟩:=aR i _ hy
      exact NS hk ak al T ag aU da db ⟨rfl,s2.heap,s2.toks,rfl,λ_ _ e=>e⟩
    · have af : passing (λ_ => true) (min ia.toArray.size ib.toArray.size) 0 = gl (min ia.toArray.size ib.toArray.size) := by
        unfold passing
        simp
      rw[af] at WS
      have W1:=WS.in4_1
      refine jT<|call_all_walkS<|W1.self 0 _ _ _ GA ⟨g,_,_,_,_,_,_,(λj=>decide<|ns.getD j 0<ms.getD j 0),rfl,W1,GA,λj v s7 Q' E' hv hq=>?_,λs7 mv=>?_⟩
      · obtain⟨i, hi, rfl⟩ := hv
        have:i=j:=by
          obtain⟨hl,he⟩:=List.getElem?_eq_some_iff.mp hi
          rw[List.getElem_range] at he
          exact he.symm
        subst this
        exact jf hq
      · have k7 : ∀b o, b<C.objs.size -> (∀k, b ≠ m.heap.objs.size+k) -> C.get? b = some o -> s7.heap.get? b = some o := λb o f T e => mv.heap b o (by
          simp only[gp,ie,kF,oX]
          exact⟨fX f,T 4,T 3,T 0,T 1⟩) (k5 b o e)
        have L:∀b,b<m.heap.objs.size->∀k,b≠m.heap.objs.size+k:=λb f k=>fX<|ga f<|m9 _ _
        have e7:s7.heap.get? P=some { cls:=.none,data:=.fields (O++l)}:=k7 P _ (fQ e3) (L P an) e3
        have I7:Inv X n σ (upd H1 P<|.DP<|O++l) s7:=Inv.tabled I1 hP mv.os (AllBare.movedS (s:={ m with heap:=h5,gens:=m.gens.push gs,toks:=aS}) (I1.bare.push gb) mv) (λb o f e=>k7 b o (fQ<|k3 b o f<|k2 b o e) (L b<|fQ e)<|k3 b o f<|k2 b o e) e7
        refine⟨.bl _,_,I7,rfl,?_⟩
        have ai:(gl (gl<|min ia.toArray.size ib.toArray.size).length).all (λj=>decide<|ns.getD j 0<ms.getD j 0)=yx ns ms:=by
          rw[jZ,fW,fW,<- U,<- V]
          exact Rs ns ms
        rw[ai]
        exact q _ (λb o f e=>by rw[ss f];exact e) (λb f e=>by rw[ss f];exact e) ⟨_,tZ,aN⟩
  cases ay:codeAmong NT O.toList with
  | none =>
    refine wpAny_genexprCodeX G.code au aL ay λc' C M hx aV aW _ _ aX _=>?_
    refine R (.ref c') C M #[kg NT.line,kg NT.col,.ref c'] (λb o f e=>hx b o f e) (gZ aV<|kq aW) aX.2 ?_
    rw[oA]
    exact AE _ tr
  | some cv =>
    refine wpAny_genexprCode_hit G.code au ay ?_
    have:=R cv h2 m.toks #[] (λb o _ e=>e) (fJ _) (by simpa using k2 P _ u) (by simpa using tr)
    exact this
end
theorem Zz:NR X (vn X.K) P:=⟨λ{v M H1 j a b N O A} m R B C D=>by
 refine ux (m.list B) λx F d S=>?_;refine ux (m.list C) λy G f T=>?_;have i:j.heap.get? P=some (pT A):=m.uO P _ D
 have h:∀(l:ci)(g:Array cr),j.heap.IsList l g->l≠P:=λl g n=>ux n λo e c _ z=>by rw[z,i] at e;cases e;cases c
 have k:∀(l:ci)(g:Array cr),j.heap.IsList l g->l<j.heap.objs.size:=λl g n=>tX n λo e _=>fQ e;refine⟨x,y,F,G,k _ _ d.isList,k _ _ f.isList,h _ _ d.isList,h _ _ f.isList,λQ E H=>call_zip_2 d.isList f.isList λI J p q r s t u=>?_⟩
 exact H I _ _ (λU L=>(WalksT.zip2 (prog:=X.prog) (w:=X.w) L _ _ _ _ _ _ _ (zipApart_new (k _ _ d.isList) (k _ _ f.isList)) x.toArray y.toArray).toU) ⟨J,p,⟨_,_,q⟩,r,s,d.isList.at λo e=>u _ o e,f.isList.at λo e=>u _ o e⟩ t u⟩
theorem Me{K:fB}{k:Nat}{f:fH}{C:List cr} 
 (KX:K.In f.heap) (I:f.heap.Ns f7 U) (hb:f.heap.Ns mS mb) (ab:∀x:Str,x≠"__name__"->mb x=lv x) (J:f.heap.NoLimit) (hg:f.gens=#[])
 (D:f.heap.get? a=some { cls:=.type "list",data:=.seq C.toArray}) (hi:jL C X) (hl:X.length<=fK) (hr:vq k qe)
 (hT:f.heap.TableAt c tab #[]) (ae:K.lookup tab=none)
 (F:∀base:gE,K.In base->base.Ns f7 U->(∀b o,f.heap.get? b=some o->o.cls≠.type "list"->o.cls≠.none->base.get? b=some o)->uE P w K U base CX k fa fd [x] sp) (E:∀(s:fH)(u:cr),rg s fd ⟨[u],[]⟩ [(x,u)])
 (af:∀H:Hp,vn K H a (X.map V.int)->H tab=some (.DP #[])->sp [.ref a] H (λv _=>v=.bl true) λ_ _ _=>False)
 (ag:∀H e j,CX [] H f (λ_ _ _=>False) e j->False) :
    kW (fS P w) qe (.call (.ref fa) ⟨[.ref a],[]⟩) (λr j=>r=.ok (.ret<|.bool true)/\OldK f.heap j.heap/\j.os=f.os/\lX j.gens) f:=by
  have rv:=Ep hi
  have L:=hi.length
  have l:f.heap.get? tab=some { cls:=.none,data:=.fields #[]}:=hT.2
  have nat:a≠tab:=λz=>by rw[z,l] at D;cases D
  -- from an abstract ah in aa nothing ai the Y and the sN aj be M
  have core:∀H:Hp,(∀b,H b=none\/(b=a/\∃o xs,H b=some (.Ig o<|.lst xs))\/(b=tab/\H b=some (.DP #[])))->vn K H a (X.map V.int)->H tab=some (.DP #[])->wU P w H f.heap->(H a≠none->K.lookup a=none) ->
      kW (fS P w) qe (.call (.ref fa) ⟨[.ref a],[]⟩) (λr j=>r=.ok (.ret<|.bool true)/\OldK f.heap j.heap/\j.os=f.os/\lX j.gens) f:=by
    intro H Z hS N O hK
    have freeOf:∀{b:ci} {o:Obj},f.heap.get? b=some o->o.cls≠.type "list"->o.cls≠.none->H b=none:=λ{b o} e c1 c2=>by
      rcases Z b with z|⟨z,_⟩|⟨z,_⟩
      · exact z
      · rw[z, D] at e; cases e; exact fY rfl c1
      · rw[z, l] at e; cases e; exact fY rfl c2
    have y:∀{b:ci} {m:Str->Option cr},f.heap.Ns b m->(GL f.heap H).Ns b m:=λ{b m} z9=>YG z9 λo es ep e d r=>by
      refine⟨o,es,ep,CL e ?_,d,r⟩
      rcases Z b with z|⟨z,_⟩|⟨z,_⟩
      · exact z
      · rw[z, D] at e; cases e; have d' : Data.seq C.toArray _ = Data.dict es ep := d; cases d'
      · rw[z, l] at e; cases e; have d' : r9 #[] = Data.dict es ep := d; cases d'
    have Q:K.In (GL f.heap H):=λb o e=>CL (KX b o e) (by
      rcases Z b with z|⟨z,_,_,z2⟩|⟨z,_⟩
      · exact z
      · rw[z] at e z2; rw[hK<|by rw[z2]; simp] at e; cases e
      · rw[z, ae] at e; cases e)
    have hM:Mod K U (GL f.heap H):=⟨Q,y I,⟨mb,y hb,ab⟩,tX J λmc h1 h2=> ⟨mc,y h1,h2⟩⟩
    have e0:GY P w K U (GL f.heap H) qe [] f H:=⟨rfl,hM,λb o e=>QM e,pB<|LF _ _,trivial,λb hb=>fY (show b∈([]:List ci) from hb) q0o,O,.of_eq hg⟩
    refine iY ((F _ Q (y I) λb o e c1 c2=>CL e<|freeOf e c1 c2).run qe [] f H ⟨[.ref a],[]⟩ [.ref a] [.ref a] _ _ hr e0 (E f<|.ref a) (.cons rfl .nil)<|af H hS N) λr j h=>?_
    cases r with
    | error e=>exact(ag H e j h).elim
    | ok fl =>
      cases fl with
      | next=>exact gB h
      | brk=>exact gB h
      | cont=>exact gB h
      | ret u =>
        obtain⟨v,H',os,R,un,B,r',q⟩:=h
        have q':v=.bl true:=q
        subst q'
        obtain rfl:u=qa true:=r'
        have G:∀b o,f.heap.get? b=some o->H b=none->j.heap.get? b=some o:=λb o e n=>un.keep b o e n (by intro z;exact fY (show b∈([]:List ci) from z) q0o) q0o
        obtain⟨more,hm⟩:=un.Ab tab _ N
        have S:j.heap.get? tab=some { cls:=.none,data:=.fields (#[]++more)}:=B tab _ hm
        have p:∀b o,f.heap.get? b=some o->b≠tab->j.heap.get? b=some o:=λb o e n=>by
          rcases Z b with z|⟨_,ob,xs,z⟩|⟨z,_⟩
          · exact G b o e z
          · have z2 := un.Aa b ob _ z
            obtain⟨e1,_⟩:=O b _ z
            obtain⟨e2,_⟩:=B b _ z2
            rw[e] at e1;cases e1
            exact e2
          · exact fY z n
        refine⟨rfl,⟨λb o e=>?_,λb o e=>?_⟩,os,R⟩
        · by_cases t : b = tab
          · subst t
            rw[l] at e
            cases e
            exact .inr<|.inl ⟨hT.isCodeTable,rfl,#[],more,rfl,S⟩
          · exact .inl<|p b o e t
        · by_cases t : b = tab
          · rw[t]; exact⟨_, S⟩
          · exact⟨o, p b o e t⟩
  have T:∀H:Hp,u7 P w H f.heap tab (.DP #[]):=λH=>l
  cases hk:K.lookup a with
  | some o =>
    have e:=KX a o hk
    rw[D] at e
    cases e
    refine core (λb=>if b=tab then some (.DP #[]) else none) (λb=>?_) (.inr ⟨_,C.toArray,_,hk,rfl,rfl,rfl,by rw[fW,L];exact hl,by simpa using rv⟩) (fE rfl) (λb u z=>?_) λz=>fY (fF nat) z
    · by_cases g : b = tab
      · exact .inr<|.inr ⟨g, fE g⟩
      · exact .inl<|fF g
    · by_cases g : b = tab
      · have A := (fE g).symm.trans z
        cases A
        rw[g]
        exact T _
      · have A := (fF g).symm.trans z
        cases A
  | none =>
    refine core (λb=>if b=tab then some (.DP #[]) else if b=a then some (.Ig { cls:=.type "list",data:=.seq C.toArray} (.lst<|X.map V.int)) else none) (λb=>?_) (.inl<|.inr ⟨{ cls:=.type "list",data:=.seq C.toArray},(fF nat).trans<|fE rfl⟩) (fE rfl) (λb u z=>?_) λ_=>hk
    · by_cases g : b = tab
      · exact .inr<|.inr ⟨g, fE g⟩
      · by_cases i : b = a
        · exact .inr<|.inl ⟨i, _, _, (fF g).trans<|fE i⟩
        · exact .inl<|(fF g).trans<|fF i
    · by_cases g : b = tab
      · have A := (fE g).symm.trans z
        cases A
        rw[g]
        exact T _
      · by_cases i : b = a
        · have A := ((fF g).trans<|fE i).symm.trans z
          cases A
          subst i
          exact⟨D,by rw[fN];exact hl,C,_,rv,D⟩
        · have A := ((fF g).trans<|fF i).symm.trans z
          cases A
structure Hk(mg:Str->Option cr)(base:gE)(c tab:ci):Prop where
 hd:pS base c tab
 blt:∃bm ob,mg "__builtins__"=some (.ref bm)/\bm≠mS/\base.get? bm=some ob/\ob.cls=.type "module"/\ob.dict=some mS/\ob.data=.plain
theorem NU{l:pF}{n k:Nat}{p:List Str}{XP:(Str->Option cr)->gE->Prop}{YP:gu->gE->Prop}{d:DefRec}{K:Params->fB}{sp:gu->fB->ci->Sp} 
 (hn:l.most=some n) (L:n<=fK) (M:d.params.defaults=[]) (hr:vq k qe)
 (hY:∀(w:gu)(h:gE),YP w h->(K w.params).In h) (z:(recsOf q).find? (λe=>e.name==tx)=some dx)
 (F:∀(w:gu)(r:Str->Option cr)(I:ci)(h:gE),(K w.params).In h->h.Ns f7 r->r d.name=some (.ref I) ->
 ∃(c j:ci)(N:gF),mz (K w.params) tx=some (c,j)/\(K w.params).lookup j=none/\(∀(s:fH)(u:cr),rg s N ⟨[u],[]⟩ [(x,u)]) /\
 ∀i:gE,(K w.params).In i->i.Ns f7 r->Hk r i c j->uE l.prog w (K w.params) r i CX k I N [x] (sp w (K w.params) j))
 (O:∀(w:gu)(K:fB)(H:Hp)(a j:ci)(J:List Int),J.length<=n->vn K H a (J.map V.int)->H j=some (.DP #[])->sp w K j [.ref a] H (λv _=>v=.bl true) λ_ _ _=>False)
 (P:∀(H:Hp)(s:fH)(e:cr)(Q:fH),CX [] H s (λ_ _ _=>False) e Q->False) :
    tR q p XP YP l.row.toRowW d [] (λf vs=>sw f vs):=by
  refine Att.Hc hn M λw ab A r mb I o pm cd ae a vs J G Y ho hd af R B t m hg=>?_
  have S:=hY w _ Y
  obtain⟨c,j,N,ht,U,hb,hF⟩:=F w r I _ S G.T.g R
  obtain⟨C,hP⟩:=PySem.W.tab_of G.T S z ht
  obtain⟨bm,ob,b1,b2,b3,X,b5,b6⟩:=G.T.bmain
  refine Me S G.T.g G.T.b G.T.builtins G.T.nolimit hg B t (gZ m L) hr (C.tab hP) U (λi kb nb bk=>hF i kb nb ⟨?_,bm,ob,b1,b2,bk _ _ b3 (by rw[X];simp) (by rw[X];simp),X,b5,b6⟩) hb (λH hS hH=>O w _ H a j J m hS hH) λH e Q=>P H A e Q
  obtain⟨o,Z,D,tf,y,tg,aa,E,tt,e1,r1,r2⟩:=C
  exact⟨o,Z,D,tf,y,tg,aa,E,tt,bk _ _ e1 (by rw[r1];simp) (by rw[r1];simp),r1,r2⟩
end L2
namespace SX
open PySem PyProof.Rows
section
variable{prog:gf}{w:gu}{A:gJ}{E:cr->fH->Prop}{s:fH}{a b:ci}{ks ka kb:List Int}
theorem ZA{k:Int}(S:uT w a ks s.heap)(h:Q (.bool<|decide<|k∈ks) { s with toks:=s.toks+1}):fO (fS prog w) A (iB .In (.int k u)<|.ref a) Q E s :=
 wpAny_inSet_of (knd:=jk prog w) (k:=k) (oB _ _ _ _) rfl S.of h
theorem Vj{k:Int}(S:uT w a ks s.heap)(room:ks.length+1<=127)
 (h:∀d c e,gX a s.heap d->uT w a c d->c.Perm (if k∈ks then ks else k::ks)->Q .none { s with heap:=d,toks:=e}) :
    fO (fS prog w) A (call (.builtin "set.add") [.ref a,.int k u]) Q E s:=by
  refine gR F.slot_set_add S.typeIs F.entry_set_add ?_<|F.args_set_add_2 _ _
  show fO _ _ (oa "add" ⟨[.ref a,.int k u],[]⟩ >>= _) _ _ _
  refine am<|am<|ap<|ap<|am ?_
  refine T0 S room λd c e f g p _=>ap ⟨_,rfl,h d c e f g p⟩
theorem Rt{k:Int}(S:uT w a ks s.heap)
 (h:∀d c e,gX a s.heap d->uT w a c d->(if k∈ks then ks.Perm (k::c) else c=ks)->Q .none { s with heap:=d,toks:=e}) :
    fO (fS prog w) A (call (.builtin "set.discard") [.ref a,.int k u]) Q E s:=by
  refine gR F.slot_set_discard S.typeIs F.entry_set_discard ?_<|F.args_set_discard_2 _ _
  show fO _ _ (oa "discard" ⟨[.ref a,.int k u],[]⟩ >>= _) _ _ _
  refine am<|am<|ap<|ap<|am ?_
  unfold Builtin.Frozenset.withSetAsKey setDiscard
  refine wpAny_tryCatch ?_
  refine gC<|am<|(jk prog w).pyHash (k:=k) (oB _ _ _ _) ?_
  exact Et (s:={ s with toks:=s.toks+1}) S λd c f g p=>ap ⟨_,rfl,h d c _ f g p⟩
theorem IT(h:∀d,B2 w s.heap.objs.size d->(∀c o,s.heap.get? c=some o->d.get? c=some o)->Q (.ref s.heap.objs.size) { s with heap:=d}) :
  kW (fS prog w) A (.call (.builtin "set.__new__") ⟨[.type "set"],[]⟩) (wants Q E) s:=by
 refine kY<|am<|lh F.newCall_set_0<|ap ⟨jH om _,iQ F.entry_set_new ?_⟩;rw[iD om _];unfold Builtin.«set.__new__» n8;have i:=oC;obtain⟨j,k,l,m,n⟩:=s;dsimp only;generalize e:newSet=p
 wp_walk
 subst e;refine NN λd f g=>?_;exact ap<|h d f g
theorem Hl(h:∀m,uT w s.heap.objs.size [] m->(∀c o,s.heap.get? c=some o->m.get? c=some o)->Q (.ref s.heap.objs.size) { s with heap:=m}):fO (fS prog w) A (call (.type "set") []) Q E s:=by
 obtain⟨J,K,q⟩:=F.called_set.mro;have n:=F.called_set.made;have t:=F.called_set.sub;refine k8<|kY<|ap ⟨ml _ q0s,iQ F.entry_type_call ?_⟩;rw[sj (tQ "set" [] []) rfl];have x:=F.called_set.notType;have y:=F.called_set.canCreate;have z:=F.typeCall_set_0
 repeat (any_goals (first|assumption|wp_step))
 refine iY (IT (E:=E) (Q:=λi j=>i=.ref s.heap.objs.size/\∃d,j={ s with heap:=d}/\B2 w s.heap.objs.size d/\∀c o,s.heap.get? c=some o->d.get? c=some o) λd l p=>⟨rfl,d,rfl,l,p⟩) λB L f=>?_
 cases B with
 | error e=>exact f
 | ok f1 =>
  cases f1 with
  | ret i =>
   obtain⟨rfl,d,rfl,l,p⟩:=f;have u:uT w s.heap.objs.size [] d:=l.set;have C:kD { s with heap:=d} (.ref s.heap.objs.size) "set":=uT.typeIs (s:={ s with heap:=d}) u;have D:=F.called_set.init.lookup;have G:=F.called_set.init.bind<|.ref s.heap.objs.size
   repeat (any_goals (first|assumption|wp_step))
   refine iY (ma (R:=wants (λr k=>r=.none/\k={ s with heap:=d}) E) F.called_set.init.plain F.entry_set_init<|check_set_init C ?_) λH M g=>?_
   ·obtain⟨I,v,N,O⟩:=id l;unfold Builtin.«set.__init__» noKeywords
    wp_walk
    exact⟨rfl,rfl⟩
   ·cases H with
    | error e=>exact g
    | ok f2 =>
     cases f2 with
     | ret r =>
      obtain⟨rfl,rfl⟩:=g
      repeat (any_goals (first|assumption|wp_step))
      exact h _ u p
     | _=>exact g.elim
  | _=>exact f.elim
end
end SX
namespace L2
open PySem PySem.Spec PyProof.Rows SX
section
variable{X:Cx}
theorem Mg:xJ X (.type "set") (λa H Q=>a=[]/\∀p:ci,H p=none->Q (.ref p) (upd H p<|wl X.w p [])):=by intro b s c H a d Q I r h;obtain⟨rfl,q⟩:=h;cases r;exact Hl λe S k=>⟨.ref s.heap.objs.size,_,I.laid (t':=s.toks) k (fJ _)<|Fd S,rfl,q _<|I.uO.fresh<|fJ _⟩
def ZB(w:gu):R2:=λx y H Q=>∃(k:Int)(a:ci)(b:List Int),x=.int k/\y=.ref a/\H a=some (wl w a b)/\Q (.bl<|decide<|k∈b) H
theorem Vk:zO X (iB .In) (ZB X.w):=by intro b s f H x y v u Q I c d h;obtain⟨k,a,g,rfl,rfl,e,q⟩:=h;obtain⟨t,rfl⟩:=c;cases d;exact ZA (yw I e) ⟨.bl _,H,I.tok _,rfl,q⟩
theorem Inv.sset{f:Nat}(I:Inv X c h H s)(i:H a=some (wl X.w a k))(j:gX a s.heap g)(S:uT X.w a d g) :
  Inv X c h (upd H a<|wl X.w a d) { s with heap:=g,toks:=f} :=
 I.write (t':=f) (by rw[i];trivial) (.inl rfl) (λb u n e=>j.extBut b u n e) (wT S λ_ _ _ e _=> ⟨_,e⟩) (Fd S)
theorem Ru:Wl X "set.add" (λx d H Q=>∃(a:ci)(c:List Int)(k:Int),x=.ref a/\d=[.int k]/\H a=some (wl X.w a c)/\c.length+1<=127/\∀b:List Int,b.Nodup->b.Perm (if k∈c then c else k::c)->Q .vC (upd H a<|wl X.w a b)):=by intro e s m H x d v n Q I g i h;obtain⟨a,c,k,rfl,rfl,f,j,q⟩:=h;cases g;obtain⟨u,rfl,t,rfl⟩:=i.one;exact Vj (yw I f) j λo b r l S p=>⟨.vC,_,I.sset f l S,rfl,q b S.nodup p⟩
theorem NW:Wl X "set.discard" (λx d H Q=>∃(a:ci)(c:List Int)(k:Int),x=.ref a/\d=[.int k]/\H a=some (wl X.w a c)/\∀b:List Int,b.Nodup->(if k∈c then c.Perm (k::b) else b=c)->Q .vC (upd H a<|wl X.w a b)):=by intro e s l H x d v m Q I g i h;obtain⟨a,c,k,rfl,rfl,f,q⟩:=h;cases g;obtain⟨u,rfl,t,rfl⟩:=i.one;exact Rt (yw I f) λn b o j S p=>⟨.vC,_,I.sset f j S,rfl,q b S.nodup p⟩
def Vl(w:gu)(r:V->List V->Hp->VK->Prop)(d:TE)(t:TA):TE:=λb H Q=>d b H λx c=>(∃(a:ci)(e:List Int),x=.ref a/\c a=some (wl w a e))/\t b c λf g=>r x f g Q
variable{o e:gA}{es:List gA}{to:TE}{t:TA}{name:Str}{apos cpos:Pos}{id:String}{r:V->List V->Hp->VK->Prop}
theorem NX(i:Slot "set" name id)(k:typeOf (.builtin id)=pure (.type "method_descriptor"))(q:Wl X id r)(u:PE X o to)(y:PA X (e::es) t)
 (f:gH o name X.env (eval o X.env)=eval o X.env:=by rfl)
 (j:((ij cpos<|fG (e::es) X.env).all (λx=>!x.1)&&(lx cpos<|jA [] X.env).all (λx=>x.1.isSome)&&decide ((e::es).length+([]:List oy).length+(if ([]:List oy).isEmpty then 0 else 1)<30))=true:=by rfl)
 (g:(apos.endLine==cpos.line)=true:=by rfl) (z:fG (e::es) X.env=(false,eval e X.env)::fG es X.env:=by rfl) (d:(ij cpos<|fG es X.env).any (·.1)=false:=by rfl) :
    PE X (.Call (.Attribute o name apos) (e::es) [] cpos) (Vl X.w r to t):=by
  intro c s l H Q I h
  refine tz f j g rfl<|uL (u c s l H _ I h) λv A m=>vt m λx B n C D E=>?_
  obtain⟨a,U,rfl,G⟩:=D
  cases C
  have S:=yw n G
  refine⟨"set",id,F.plainAttrs_set,i,k,S.typeIs,λb J=>?_,?_⟩
  · cases J
    refine wT S λ_ _ _ K _=>?_
    exact⟨_,K,rfl⟩
  have p:=y cpos c A l B _ n E
  rw[z] at p ⊢
  refine je (by show (false||(ij cpos<|fG es X.env).any (·.1))=false;rw[d]<;>rfl)<|iE ?_
  exact uL p λL M m=>ut m λN O P R T=>q c M l O (.ref a) N (.ref a) L Q P rfl R T
end
def DK(e:ci)(d:Option ci)(h:gE):Prop:=∃o,h.get? e=some o/\o.dict=d
theorem Rv(o:Obj)(f:Array cr->Array cr):(o.mapFields f).dict=o.dict:=by obtain⟨c,d,a,b⟩:=o;cases a<;>rfl
section
variable{M:Model}{A:gJ}{E:cr->fH->Prop}{s:fH}{base:gE}{env:Env}{outer:List Env}{L e:ci}{oe:Obj}{vs:Array cr}{a0 cls:cr}{d:Option ci}
theorem T5{c:Bool}(m:A.frames=some (env::outer))(k:s.heap.FunFrames base (env::outer))(I:env.frame=some L)(n:s.heap.get? e=some oe)(p:base.StaysIn s.heap)(r:base.get? e=none)(g:oe.data=.fields vs)(i:1<vs.size)(J:vs[0]?=some a0)
 (h:∀t,Heap.NotedW base (env::outer) e oe.cls a0 (kg L) s.heap t->DK e oe.dict t->Q () { s with heap:=t}) :
    fO M A (do setField (.ref e) 1 (<- qy head (<- frameOf env) .none (kg L) .none (<- entryPlaceOf L c))) Q E s:=by
  have K:e∉(env::outer).filterMap (·.frame):=λz=>by
    obtain⟨_,o,w,N⟩:=k.mem z
    rw[n] at w;cases w;exact N _ g
  refine am<|wpAny_frameOf_fun m k I λa l=>am<|wpAny_entryPlaceOf λx j=>?_
  have B:a.get? e=some oe:=(l.2.1 e K).trans n
  have C:base.StaysIn a:=λb o q=>(l.2.1 b λz=>by rw[(k.mem z).1] at q;cases q).trans<|p b o q
  unfold qy newFields
  refine am<|gN ?_<|j.sizeOk5 _ _ _ _ _
  have O:∃f:Array cr,(([head,.ref L,.none,kg L,.none]++(if x.isEmpty then jD 6 Value.none else x)).toArray=f)/\f[3]?=some (kg L):=⟨_,rfl,by first|(simp;done)|(rcases j with rfl|⟨_,_,_,_,_,_,_,rfl⟩<;>simp)⟩
  obtain⟨f,P,R⟩:=O
  rw[P]
  have u:=ce (h:=a) { cls:=.type "traceback",dict:=none,data:=.fields f} B
  have D:a.objs.size≠e:=ii<|fQ B
  refine lG u g i<|h _ ?_ ?_
  · have F := Obj.data_mapFields g (·.setIfInBounds 1 (fZ a.objs.size))
    have S:=gP (Obj.mapFields (·.setIfInBounds 1 (fZ a.objs.size))) u<|Obj.isFreed_of_fields F
    have T:=(gG (a.push { cls:=.type "traceback",dict:=none,data:=.fields f}) (Obj.mapFields (·.setIfInBounds 1 (fZ a.objs.size)))<|Ne.symm D).trans<|fU a rfl
    have v:∀b o,b≠e->a.get? b=some o->((a.push { cls:=.type "traceback",dict:=none,data:=.fields f}).update e (Obj.mapFields (·.setIfInBounds 1 (fZ a.objs.size)))).get? b=some o:=λb o z q =>
      (gG _ _<|Ne.symm z).trans (ce _ q)
    have G:∀b o,s.heap.get? b=some o->(∀vs,o.data≠.fields vs)->b≠e:=λb o q z y=>by rw[y,n] at q;cases q;exact z _ g
    refine⟨λb o q=>v b o (λz=>by rw[z,r] at q;cases q)<|C b o q,k.of_keeps λb o q z=>?_,?_,λb o q z=>?_⟩
    · obtain⟨H, y⟩ := l.2.2 b o q
      exact⟨_,v b _ (G b o q z) y,rfl⟩
    · exact⟨_, _, a.objs.size, _, _, S, ⟨Obj.cls_mapFields _ _, by rw[Array.getElem?_setIfInBounds_ne q0q]; exact J⟩, F, by simp[i], C.fresh, D, T, rfl, R⟩
    · obtain⟨H, y⟩ := l.2.2 b o q
      exact⟨H,v b _ (G b o q z) y⟩
  · exact⟨_, gP _ u<|Obj.isFreed_of_fields<|Obj.data_mapFields g _, Rv _ _⟩
theorem Rx(c:A.frames=some (env::outer))(l:s.heap.FunFrames base (env::outer))(g:env.frame=some L)(i:s.heap.get? e=some oe)(f:base.StaysIn s.heap)(b:base.get? e=none)(j:oe.data=.fields vs)(k:vs[1]?=some .none)(m:vs[0]?=some a0)
 (h:∀a,Heap.HeldW base (env::outer) e oe.cls a0 L a->s.heap.UpToSlots a->DK e oe.dict a->Q () { s with heap:=a}):fO M A (qx (.ref e) env) Q E s:=by
  unfold qx
  simp only[g]
  refine am<|hL i j k ?_
  rw[fF q0q]
  exact T5 c l g i f b j (Array.getElem?_eq_some_iff.mp k).1 m λa n=>LB n λo p q r y=>h a ⟨o,b,p,q⟩ r y
theorem Ry(h:A.frames=some (env::outer))(p:env.frame=some L)(i:ko base (env::outer) e cls a0 s.heap)(x:DK e d s.heap)
 (B:∀f,Heap.HeldW base (env::outer) e cls a0 L f->s.heap.UpToSlots f->DK e d f->Q () { s with heap:=f}):fO M A (qx (.ref e) env) Q E s:=by
  obtain⟨j,g,C,oe,vs,T,K,N,k,⟨rfl,D⟩,r,t,l,m,n,c,u⟩:=i
  obtain⟨O,v,rfl⟩:=x
  rw[k] at v;cases v
  unfold qx
  simp only[p]
  refine am<|hL k r t ?_
  rw[fE<|show (fZ T != Value.none)=true from by simp]
  refine am<|hL n c u ?_
  rw[fF<|show ¬((Value.none==kg L)=true) from by simp[kg]]
  refine am<|lG n c (Array.getElem?_eq_some_iff.mp u).1 ?_
  have a:∀b,b≠T->(s.heap.update T (Obj.mapFields (·.setIfInBounds 3 Value.none))).get? b=s.heap.get? b:=λb z=>gG _ _<|Ne.symm z
  have w:∀b o,s.heap.get? b=some o->(∀vs,o.data≠.fields vs)->b≠T:=λb o q z y=>by rw[y,n] at q;cases q;exact z _ c
  refine T5 h (C.of_keeps λb o q z=>⟨o,(a b<|w b o q z).trans q,rfl⟩) p ((a e<|Ne.symm m).trans k) (λb o q=>(a b λz=>by rw[z,l] at q;cases q).trans<|j b o q) g r (Array.getElem?_eq_some_iff.mp t).1 D
    λf F=>LB F λG H I J y=>B f ⟨G,g,H,I⟩ (λb o q z=>J b o ((a b<|w b o q z).trans q) z) y
theorem Xh(n:base.StaysIn s.heap)(p:base.get? e=none)(C:s.heap.FunFrames base l)(D:s.heap.TracedAtW base e cls a0 H)(F:DK e d s.heap)
 (h:∀m,ko base l e cls a0 m->s.heap.UpToSlots m->DK e d m->Q () { s with heap:=m}):fO M A (setFlight (.ref e) none) Q E s:=by
  obtain⟨oe,vs,T,I,J,r,g,u,v,i,j,t,a,G⟩:=D
  obtain⟨K,w,rfl⟩:=F
  rw[r] at w;cases w
  have k:=(Array.getElem?_eq_some_iff.mp G).1
  have c:∀b,b≠T->(s.heap.update T (Obj.mapFields (·.setIfInBounds 3 ((none:Option ci).elim Value.none λf=>kg f)))).get? b=s.heap.get? b:=λb z=>gG _ _<|Ne.symm z
  have x:∀b o,s.heap.get? b=some o->(∀vs,o.data≠.fields vs)->b≠T:=λb o q z y=>by rw[y,t] at q;cases q;exact z _ a
  have B:=(c e<|Ne.symm j).trans r
  unfold setFlight
  refine am<|hL r u v ?_
  rw[fE<|show (fZ T != Value.none)=true from by simp]
  refine lG t a k<|h _ ⟨λb o q=>(c b λz=>by rw[z,i] at q;cases q).trans<|n b o q,p,C.of_keeps λb o q z=>⟨o,(c b<|x b o q z).trans q,rfl⟩,?_⟩ (λb o q z=>⟨o.slots,(c b<|x b o q z).trans q⟩) ⟨_,B,rfl⟩
  exact⟨oe,vs,T,_,_,B,g,u,v,i,j,gP _ t<|Obj.isFreed_of_fields<|Obj.data_mapFields a _,Obj.data_mapFields a _,by simp[k]⟩
theorem zX(b:A.frames=some (env::outer))(k:s.heap.FunFrames base (env::outer))(l:env.frame=some L)(m:s.heap.get? e=some oe)(c:base.StaysIn s.heap)(f:base.get? e=none)(n:oe.data=.fields vs)(o:vs[1]?=some .none)(p:vs[0]?=some a0)
 (h:∀a,ko base outer e oe.cls a0 a->s.heap.UpToSlots a->DK e oe.dict a->Q () { s with heap:=a}):fO M A (qc env<|.ref e) Q E s:=by
  unfold qc
  refine am<|Rx b k l m c f n o p λq g=>LB g λr t u v w x=>Xh (s:={ s with heap:=q}) r t u v x λy g=>LB g λz B ⟨_,_,C⟩ D i j=>?_
  exact h y ⟨z,B,C,D⟩ (w.trans i) j
theorem NY(b:A.frames=some (env::outer))(j:env.frame=some L)(c:ko base (env::outer) e cls a0 s.heap)(k:DK e d s.heap)
 (l:∀a,ko base outer e cls a0 a->s.heap.UpToSlots a->DK e d a->Q () { s with heap:=a}):fO M A (qc env<|.ref e) Q E s:=by
  unfold qc
  refine am<|Ry b j c k λm f=>LB f λn o p q r g=>Xh (s:={ s with heap:=m}) n o p q g λt f=>LB f λu v ⟨_,_,w⟩ x h i=>?_
  exact l t ⟨u,v,w,x⟩ (r.trans h) i
end
class GX where
 g:ci->Option ci->Hp->Prop
variable[GX]
structure C6(P:gf)(w:gu)(outer:List Env)(H:Hp)(s:fH)(H':Hp)(C x:ci)(s':fH):Prop where
 os:s'.os=s.os
 bare:lX s'.gens
 un:Un (yf outer) [] H H' s.heap s'.heap
 uO:wU P w H' s'.heap
 dct:∃d,DK x d s'.heap/\GX.g C d H'
 ZC:∃(B:gE)(a0:cr),ko B outer x (.ref C) a0 s'.heap/\∀b o,s'.heap.get? b=some o->(H' b≠none\/∃o0,s.heap.get? b=some o0)->b∉yf outer->B.get? b=some o
def uP(P:gf)(w:gu):LO:=λa H s E e c=>∃(C x:ci)(b:Hp),e=.ref x/\C6 P w a H s b C x c/\E (.ref C) (some x) b
theorem zC(x:wU P w H h)(e:H a=some o):∃u,h.get? a=some u:=by
 have d:∀o:HO,u7 P w H h a o->∃u,h.get? a=some u:=by
  intro o q
  cases o with
  | lst i=>obtain⟨_,_,_,_,z⟩:=q;exact⟨_,z⟩
  | tup i=>obtain⟨_,_,_,c,z,_⟩:=q;exact⟨_,z⟩
  | dK g=>obtain⟨_,_,_,_,c,_,_,z,_⟩:=q;exact⟨_,z⟩
  | dT g=>obtain⟨_,_,_,_,c,_,_,z,_⟩:=q;exact⟨_,z⟩
  | set S n=>obtain⟨c,_,_,_,z,_⟩:=q;exact⟨_,z⟩
  | ins C j fs=>obtain⟨_,_,_,z,_⟩:=q;exact⟨_,z⟩
  | own b=>exact q
  | xd fs=>obtain⟨k,⟨c,_,_,z,_⟩,_⟩:=q;exact⟨_,z⟩
  | ye lo l=>obtain⟨_,_,_,z⟩:=q;exact⟨_,z⟩
  | Ig c u=>exact⟨_,q.1⟩
  | DP m=>exact⟨_,q⟩
  | met f y=>exact⟨_,q⟩
  | ext p=>exact q.2.1
 exact d o<|x a o e
section
variable{P:gf}{w:gu}{l:List Env}{H H':Hp}{s s2:fH}{B h':gE}
theorem NZ(u:Un (yf l) [] H H' s.heap s2.heap)(m:wU P w H' s2.heap)(g:∀b o,s2.heap.get? b=some o->(H' b≠none\/∃D,s.heap.get? b=some D)->b∉yf l->B.get? b=some o)
 (i:∀b∈yf l,H' b=none/\∃o,s2.heap.get? b=some o/\∀E,o.data≠.fields E)(p:B.StaysIn h')(F:s2.heap.UpToSlots h'):Un (yf l) [] H H' s.heap h'/\wU P w H' h':=by
  have J:∀b:ci,b∉([]:List ci):=λb z=>by cases z
  have d:∀b o,s2.heap.get? b=some o->b∈yf l->∃r,h'.get? b=some { o with slots:=r}:=λb o e G=>by
    obtain⟨_,t,C,n⟩:=i b G
    rw[e] at C
    cases C
    exact F b o e n
  refine⟨⟨λb o e n f h=>?_,λb o e n f h=>?_,λb o e n h=>u.free b o e n h,λb o e h=>?_,u.Ap,u.Aa,u.Ab⟩,λa o e=>?_⟩
  · exact p b o<|g b o (u.keep b o e n f h) (.inr ⟨o, e⟩) f
  · obtain⟨r, k⟩ := u.slot b o e n f h
    obtain⟨x,y⟩:=d b _ k f
    exact⟨x,y⟩
  · obtain⟨t, k⟩ := u.there b o e h
    by_cases f:b∈yf l
    · obtain⟨r, y⟩ := d b _ k f
      exact⟨_,y⟩
    · exact⟨_, p b t<|g b t k (.inr ⟨o, e⟩) f⟩
  · have I : ∀c, H' c ≠ none -> c ∉ yf l := λc A f => A (i c f).1
    refine(m a o e).Ca (λc v A q=>?_) (λ_ q=>q) λ_ _ q=>q
    have j:H' c≠none:=by
      rcases A with z|z
      · rw[z, e]; simp
      · rw[z]; simp
    exact p c v<|g c v q (.inl j)<|I c j
end
section
variable{X:Cx}{pins:List (ci×Obj)}{σ:St}{H1 H':Hp}{s1 s2:fH}{C x:ci}{B h':gE}{a0:cr}
theorem wX(I:Inv X pins σ H1 s1)(a:X.stack=X.env::X.outer):X.env.frame=some X.env.locals:=by
 rcases I.ok.A9 with z|z
 ·rw[a] at z;have:=congrArg mG z;simp at this
 ·exact z.2
theorem Mh(I:Inv X pins σ H1 s1)(a:X.stack=X.env::X.outer):yf X.stack=X.env.locals::yf X.outer:=by rw[a];unfold yf;rw[jd,wX I a]
theorem IU(I:Inv X pins σ H1 s1)(D:X.stack=X.env::X.outer)(hex:X.ex=[])(os:s2.os=s1.os)(m:lX s2.gens)(u:Un (yf X.stack) [] H1 H' s1.heap s2.heap)(p:wU X.prog X.w H' s2.heap)
 (r:∀b o,s2.heap.get? b=some o->(H' b≠none\/∃k,s1.heap.get? b=some k)->b∉yf X.stack->B.get? b=some o) (Xi:∀b∈yf X.stack,H' b=none/\∃o,s2.heap.get? b=some o/\∀Q,o.data≠.fields Q)
 (up:s2.heap.UpToSlots h')(E:ko B X.outer x (.ref C) a0 h')(F:∃d,DK x d h'/\GX.g C d H'):C6 X.prog X.w X.outer X.H₀ X.s₀ H' C x { s2 with heap:=h'}:=by
  obtain⟨i,s⟩:=NZ u p r Xi E.1 up
  have t:=Mh I D
  have base:Un (yf X.outer) [] X.H₀ H1 X.s₀.heap s1.heap:=by have:=I.base;rw[hex] at this;exact this
  have K:∀b:ci,b∉([]:List ci):=λb z=>by cases z
  have old:∀b o,X.s₀.heap.get? b=some o->b≠X.env.locals:=λb o e z=>by
    have R:=fQ e
    have L:=I.ok.above
    rw[<- z] at L
    exact fY (ga R L)<|iV _
  have y:∀b o,X.s₀.heap.get? b=some o->b∉yf X.outer->b∉yf X.stack:=λb o e n z=>by
    rw[t] at z
    rcases List.mem_cons.mp z with q|q
    · exact old b o e q
    · exact n q
  refine⟨os.trans I.os,m,⟨λb o e n j a=>?_,λb o e n j a=>?_,λb o e n a=>?_,λb o e a=>?_,λb M e=>?_,λb o v e=>?_,λb S e=>?_⟩,s,F,B,a0,E,λb o e A j=>?_⟩
  · exact i.keep b o (base.keep b o e n j a) (base.free b o e n a) (y b o e j) a
  · obtain⟨Y, c⟩ := base.slot b o e n j a
    obtain⟨G,f⟩:=i.slot b _ c (base.free b o e n a) (by rw[t];exact fP _ j) a
    exact⟨G,f⟩
  · obtain⟨l, c⟩ := base.there b o e a
    exact i.free b l c (base.free b o e n a) a
  · obtain⟨l, c⟩ := base.there b o e a
    exact i.there b l c a
  · exact i.Ap b M<|base.Ap b M e
  · exact i.Aa b o v<|base.Aa b o v e
  · obtain⟨T, c⟩ := base.Ab b S e
    obtain⟨U,f⟩:=i.Ab b _ c
    exact⟨T++U,by rw[f,oN]⟩
  · have fin : ∀h, s2.heap.get? b = some h -> (H' b ≠ none \/ ∃k, s1.heap.get? b = some k) -> b ∉ yf X.stack -> B.get? b = some o := λh f H J => by
      have q:=r b h f H J
      have N:=E.1 b h q
      have V:h'.get? b=some o:=e
      rw[V] at N
      cases N
      exact q
    rcases A with A|⟨k,O⟩
    · obtain⟨P, W⟩ : ∃P, H' b = some P := by
        cases z:H' b with
        | none=>exact fY z A
        | some v=>exact⟨v,rfl⟩
      obtain⟨h,f⟩:=zC p W
      exact fin h f (.inl A) λz=>A (Xi b z).1
    · obtain⟨l, c⟩ := base.there b k O (K b)
      obtain⟨h,f⟩:=u.there b l c<|K b
      exact fin h f (.inr ⟨l,c⟩)<|y b k O j
theorem C6.Xi(F:C6 P w l H s H' C x s2)(c:∀b∈yf l,H b=none/\∃o,s.heap.get? b=some o):∀b∈yf l,H' b=none/\∃o,s2.heap.get? b=some o/\∀d,o.data≠.fields d:=λb a=>by refine vS F.ZC λB a0 f _=>?_;obtain⟨n,o,e⟩:=c b a;exact⟨F.un.free b o e n q0o,(f.2.2.1.mem a).2⟩
theorem Inv.Yu(I:Inv X pins σ H1 s1):∀b∈yf X.stack,H1 b=none/\∃o,s1.heap.get? b=some o:=λb a=>by have c:=I.GZ;exact⟨c.H0 b a,tX ((c.xz.mem a).2) λo e _=> ⟨o,e⟩⟩
theorem N0(I:Inv X pins σ H1 s1)(a:X.stack=X.env::X.outer)(b:X.ex=[])(F:C6 X.prog X.w X.stack H1 s1 H' C x s2) :
  fO (fS X.prog X.w) X.A (qc X.env<|.ref x) (λ_ c=>C6 X.prog X.w X.outer X.H₀ X.s₀ H' C x c) E s2:=by
 have i:=F.Xi I.Yu;refine vS F.ZC λB a0 h e=>?_;rw[a] at h;refine tX F.dct λd j k=>?_;refine NY (by rw[I.ok.frames,a]) (wX I a) h j λh' f l g=>?_;exact IU I a b F.os F.bare F.un F.uO e i l f ⟨d,g,k⟩
end
section
variable{P:gf}{w:gu}{K:fB}{mg:Str->Option cr}{base:gE}{N:List Str}{qual:Str}{scope:jO}{f:ci}{cd:cr}{A:gJ}{outer:List Env}{s:fH}{H:Hp}{E:XK}
theorem uh:Passes (uP P w) (uR (uP P w) P w K mg base N qual scope f cd A outer s H E) E:=by intro a i j k e l I h;obtain⟨C,x,b,rfl,F,c⟩:=h;exact hJ (N0 I rfl rfl F) (λ_ d g=>⟨C,x,b,rfl,g,c⟩) λ_ _ z=>z
theorem x9:qu (fS P w) (uR (uP P w) P w K mg base N qual scope f cd A outer s H E).A (uR (uP P w) P w K mg base N qual scope f cd A outer s H E).env (uR (uP P w) P w K mg base N qual scope f cd A outer s H E).xe:=PassesOwn.leaving
end
variable[L2.GX]
set_option tactic.hygienic true in
theorem Rz{K:fB}(Z:K.In h)(y:im K C d b=true) :
  ∃k N w q x c z e A f B E F G H I l,h.get? C=some (iI w q C N x k c z e A f B E F G H I b)/\h.Ns N l/\l "__init__"=none/\rq h d k:=by
 unfold im at y;split at y
 ·rename_i J L m a
  split at y
  ·rename_i D M n o p r g s t O
   simp only[gK,beq_iff_eq,Bool.not_eq_true'] at y;obtain⟨⟨⟨⟨⟨P,Q⟩,u⟩,R⟩,i⟩,v⟩:=y;subst P;subst Q;obtain⟨S,T,u3,U,V,X,Y,u8,u9,j,aa⟩:=L;dsimp only at t u i v;subst t;subst u
   have e3:m=#[n,o,p,r,some<|.builtin g,s]:=by obtain⟨li⟩:=m;exact congrArg Array.mk O
   rw[e3] at a;exact⟨M,U,S,V,T,X,Y,u8,u9,j,J,n,o,p,r,s,_,Z _ _ a,.of_isNs<|oE Z i,PySem.W.nsMap_none_of_in Z i v,rV Z R⟩
  ·cases y
 ·cases y
def N3(C:ci)(E:XK)(a:TA):TS:=λ_ b H=>a b H λc d=>c.length<=fK/\∀x:ci,E (.ref C) (some x) d
section
variable{P:gf}{w:gu}{K:fB}{mg:Str->Option cr}{base:gE}{N:List Str}{qual:Str}{scope:jO}{f:ci}{cd:cr}{A:gJ}{outer:List Env}{s:fH}{H:Hp}{E:XK}
theorem C7(hg:Gl (uR (uP P w) P w K mg base N qual scope f cd A outer s H E) x)(hm:mg x=some (.ref C))(O:im K C v i=true)
 (X:jm B i n v) (g0:∀H',GX.g C none H') (ha:PA (uR (uP P w) P w K mg base N qual scope f cd A outer s H E) (y::p) ta) (F:(x==("__debug__":Str))=false:=by decide)
 (r:fG (y::p) (uR (uP P w) P w K mg base N qual scope f cd A outer s H E).env=(false,eval y (uR (uP P w) P w K mg base N qual scope f cd A outer s H E).env)::fG p (uR (uP P w) P w K mg base N qual scope f cd A outer s H E).env:=by rfl)
 (G:(ij d<|fG p (uR (uP P w) P w K mg base N qual scope f cd A outer s H E).env).any (·.1)=false:=by rfl) :
    PS (uR (uP P w) P w K mg base N qual scope f cd A outer s H E) (.Raise (some<|.Call (.Name x np) (y::p) [] d) none pos) (N3 C E ta):=by
  intro k s1 σ H1 D I h
  obtain⟨bm,N',nm,q,bs,l,sn,J,ab,L,dd,k0,k1,k2,k3,k5,mN,hC,hN,M,T⟩:=Rz I.mod.Ao O
  have Y:=ha d k s1 σ H1 _ I h
  refine wpAny_Raise_call_subT (prog:=P) (w:=w) (C:=C) (nm:=nm) (q:=q) (N:=N') (bs:=bs) (bm:=bm) (hdct:=l) (sn:=sn) (sub:=J) (ab:=ab) (col:=L) (dd:=dd) (k0:=k0) (k1:=k1) (k2:=k2) (k3:=k3) (k5:=k5)
    X (mN:=mN) (T.hasType X.hasBase) (I.ok.hd rfl) (by rw[r];exact(Bool.false_or _).trans G) M (yo I hg hm ⟨rfl,?_⟩ F)
  rw[r] at Y ⊢
  refine iE<|hJ Y (λus u q2=>?_) λ_ _ z=>z
  refine vt q2 λvs H2 c r2 hl hE=>?_
  refine⟨rfl,by show us.length<=fK;rw[<- r2.length];exact hl,c.bk _ _ hC,hN.keeps c.bk,T.keeps c.bk,λh' e a=>?_⟩
  have m:(uR (uP P w) P w K mg base N qual scope f cd A outer s H E).stack=(uR (uP P w) P w K mg base N qual scope f cd A outer s H E).env::(uR (uP P w) P w K mg base N qual scope f cd A outer s H E).outer:=rfl
  have Z:=c.GZ.xz
  refine ux a.there λt R _ _=>?_
  have S:(kB u.heap<|yf (uR (uP P w) P w K mg base N qual scope f cd A outer s H E).stack).get? e=none:=by
    cases q:(kB u.heap<|yf (uR (uP P w) P w K mg base N qual scope f cd A outer s H E).stack).get? e with
    | none=>rfl
    | some o=>have z:=lR _ q;rw[a.new] at z;cases z
  refine hJ (zX (base:=kB u.heap (yf (uR (uP P w) P w K mg base N qual scope f cd A outer s H E).stack)) (a0:=.ref t) c.ok.frames
    ((qz Z λU r b j=>List.mem_filterMap.mpr ⟨U,r,j⟩).of_keeps λb o j _=>⟨o,a.keeps b o j,rfl⟩) (wX c m) R (λb o z=>a.keeps b o (lR _ z)) S rfl rfl rfl (Q:=λ_ V=>uP P w outer H s E (.ref e) V) λaa fl up dk=>?_) (λ_ _ z=>z) λ_ _ z=>z
  refine⟨C,e,H2,rfl,?_,hE e⟩
  refine IU (s2:=u) c m rfl rfl c.bare Un.refl c.uO (λb o z _ nf=>nW _ z nf) (λb j=>?_) ((o4 a.keeps).trans up) fl ⟨_,dk,g0 _⟩
  exact⟨(c.Yu b j).1,(Z.mem j).2⟩
end
abbrev hand(X:Cx)(x:ci):Cx:={ X with A:=X.A.mark<|some<|.ref x,calm:=false,xe:=λ_ _=>False}
section
variable{X:Cx}{pins pins' Yv:List (ci×Obj)}{σ:St}{H:Hp}{s:fH}{E1:XK}{x:ci}
theorem Inv.ZD(I:Inv { X with pn:=X.pn++pins} pins' σ H s):Inv X pins σ H s :=
 ⟨⟨I.ok.mod,I.ok.kind,I.ok.glob,I.ok.blt,I.ok.above,I.ok.inj,I.ok.has,I.ok.MV,I.ok.hd,I.ok.frames,I.ok.A9,I.ok.QO,I.ok.bs,I.ok.GN,I.ok.Cb,I.ok.CM,I.ok.xz,I.ok.H0⟩,I.os,I.bare,I.base,I.loc,I.cell,I.free,I.xg,λp a=>I.pin p<|g8 _ a,I.uO,I.len⟩
theorem Inv.N4(I:Inv X pins σ H s):Inv (hand X x) pins σ H s :=
 ⟨⟨I.ok.mod,I.ok.kind,I.ok.glob,I.ok.blt,I.ok.above,I.ok.inj,I.ok.has,I.ok.MV,(λz=>by cases z),I.ok.frames,I.ok.A9,I.ok.QO,I.ok.bs,I.ok.GN,I.ok.Cb,I.ok.CM,I.ok.xz,I.ok.H0⟩,I.os,I.bare,I.base,I.loc,I.cell,I.free,I.xg,I.pin,I.uO,I.len⟩
theorem Inv.Ff(a:X.calm=true->X.A.handled=none)(I:Inv (hand X x) pins σ H s):Inv X pins σ H s :=
 ⟨⟨I.ok.mod,I.ok.kind,I.ok.glob,I.ok.blt,I.ok.above,I.ok.inj,I.ok.has,I.ok.MV,a,I.ok.frames,I.ok.A9,I.ok.QO,I.ok.bs,I.ok.GN,I.ok.Cb,I.ok.CM,I.ok.xz,I.ok.H0⟩,I.os,I.bare,I.base,I.loc,I.cell,I.free,I.xg,I.pin,I.uO,I.len⟩
end
end L2
namespace SX
open PySem PyProof.Rows
theorem Hm:k9 (.type "dict") "__len__"=pure (some<|.builtin "dict.__len__"):=by rw[my,ki];kernel_rfl
section
variable{prog:gf}{w:gu}{K:Type}[DecidableEq K]{knd:KeyKind prog w K}{A:gJ}{E:cr->fH->Prop}{s:fH}{a:ci}{ks:List Int}{vR:List (K×cr)}{ep:Nat}
theorem Mi(hh:A.handled=none)(G:(a==jF)=false)(D:s.heap.DictAt knd a vR ep)(hl:vR.length<=fK)(S:vR.length=ks.length)
 (hk:∀(i:Nat)(k:K)(x:cr)(v:cr),vR[i]?=some (k,x)->knd.is k v=true->∃j u,ks[i]?=some j/\v=.int j u)
 (h:∀T tk vs,jL vs ks->(∀c o,s.heap.get? c=some o->T.get? c=some o)->s.heap.objs.size<=T.objs.size->Q vs { s with heap:=T,toks:=tk}):fO (fS prog w) A (tH<|.ref a) Q E s:=by
  have f:a<s.heap.objs.size:=D.lt_size
  obtain⟨o0,ai,H,l,aj,ak⟩:=id D
  unfold tH
  refine am<|rP<|iQ sP ?_
  rw[iD sQ _]
  refine am (m:=tJ [])<|gN<|ap ⟨jH mZ _,iQ F.entry_list_iadd ?_⟩
  rw[iD mZ _]
  have z:∀c o,s.heap.get? c=some o->(s.heap.push { cls:=.type "list",data:=.seq ([]:List cr).toArray}).get? c=some o:=λc o q=>ce _ q
  have oL:(s.heap.push { cls:=.type "list",data:=.seq ([]:List cr).toArray}).get? s.heap.objs.size=some { cls:=.type "list",data:=.seq ([]:List cr).toArray}:=fU _ rfl
  have g:(s.heap.push { cls:=.type "list",data:=.seq ([]:List cr).toArray}).objs.size=s.heap.objs.size+1:=iF _ _
  generalize s.heap.push { cls:=.type "list",data:=.seq ([]:List cr).toArray}=d at z oL g ⊢
  have D1:d.DictAt knd a vR ep:=D.at' λo q=>z a o q
  show fO _ A.in1 (jI (.ref s.heap.objs.size) (.ref a)<|.ref s.heap.objs.size) _ _ { s with heap:=d}
  unfold jI
  have hT:kD { s with heap:=d} (.ref a) "dict":=⟨_,z a _ H,l.1⟩
  refine am<|jB hT ?_
  have n1:j4 (.ref s.heap.objs.size) (.ref a)=false:=by simp[j4,ii f]
  have n2:(i8 "dict" == i8 "list")=false:=by decide
  have n3:(i8 "dict" == i8 "tuple")=false:=by decide
  simp only[n1,n2,n3,qM,jM,mV]
  refine am<|wpAny_pyIter_dict (s:={ s with heap:=d}) G D1 ?_
  dsimp only
  have I:∀c o,d.get? c=some o->(d.push { cls:=.type "dict_keyiterator",data:=.fields #[.ref a,.int 0 0,.int vR.length 0,.int ep 0]}).get? c=some o:=λc o q=>ce _ q
  have i2:(d.push { cls:=.type "dict_keyiterator",data:=.fields #[.ref a,.int 0 0,.int vR.length 0,.int ep 0]}).get? d.objs.size=some { cls:=.type "dict_keyiterator",data:=.fields #[.ref a,.int 0 0,.int vR.length 0,.int ep 0]}:=fU _ rfl
  generalize d.push { cls:=.type "dict_keyiterator",data:=.fields #[.ref a,.int 0 0,.int vR.length 0,.int ep 0]}=U at I i2 ⊢
  have p:kD { s with heap:=U} (.ref a) "dict":=⟨_,I a _<|z a _ H,l.1⟩
  refine am<|gC ?_
  unfold oS
  refine am<|oG p Hm ?_
  generalize J:("dict.__len__":String)=V
  dsimp only
  rw[show splitId V=some ("dict","__len__") from by subst J;decide +kernel]
  subst J
  dsimp only
  refine am<|kK (b:=true) p F.sub_dict_dict ?_
  rw[fF q0o]
  rw[fE q0s]
  refine am<|jB p<|ap ?_
  have X:A.in1.handled=none:=by simp[hh]
  have ne:a≠d.objs.size:=fX<|l8 f (by rw[g];exact iA _)
  have W:=(Walks.dictKeys (knd:=knd) (A:=A.in1) X d.objs.size a ne vR ep).toS
  have Y:s.heap.objs.size∉[d.objs.size,a]:=by
    simp only[gp,ie,kF,oX]
    exact⟨by rw[g];exact fX<|iA _,ii f⟩
  have t:=I _ _ oL
  -- the ah,B al L Z of it
  have M:∀(C:gE)(N:Nat),C.get? s.heap.objs.size=some { cls:=.type "list",data:=.seq ([]:List cr).toArray N}->(∀c o,c≠s.heap.objs.size->U.get? c=some o->C.get? c=some o) ->
      kW (fS prog w) A (.builtin "list.extend.loop" ⟨[.ref s.heap.objs.size,.ref d.objs.size,.ref s.heap.objs.size],[]⟩) (λr s'=>match r with
        | .ok (.ret v)=>fO (fS prog w) A (match v with
          | .ref a=>do
            let o <- load a
            match o.data with
              | .seq xs aa=>pure xs.toList
              | x=>jW "internal:collect"
          | x=>jW "internal:collect") Q E s'
        | .ok _=>False
        | .error e=>E e s') { s with heap:=C}:=by
    intro C N y k4
    have I4:C.IsKeyIter d.objs.size a 0 vR.length ep/\C.DictAt knd a vR ep:=⟨⟨_,k4 _ _ (by rw[g];exact ii<|iA _) i2,rfl,rfl⟩,D1.at' λo q=>k4 _ _ (fX f)<|I _ _ q⟩
    refine codeAny_extend_loopS W hl _ Y _ vR.length 0 _ _ _ rfl (g9 _) I4 y (ItemsOf.nil _) λs5 ab c5 R O n=>?_
    show fO _ A (load s.heap.objs.size >>= _) _ _ s5
    refine am<|pM O<|ap ?_
    obtain⟨h5,g5,d5,ae,af⟩:=s5
    have eg:g5=s.gens:=R.gens
    have ed:d5=s.drawn:=R.drawn
    have eo:af=s.os:=R.os
    subst eg ed eo
    refine h h5 ae ab.toList (zb ?_ λi v hv=>?_) (λc o q=>R.heap c o (by
      simp only[gp,ie,kF,oX]
      exact⟨fX (fQ q),fX (fQ (z c o q))⟩) (k4 c o (fX (fQ q)) (I c o (z c o q)))) (kq (fQ O))
    · rw[fR, n.1, S]
    · obtain⟨k, x, hx, ag⟩ := n.2 i v (by rw[<- gI]; exact hv)
      exact hk i k x v hx ag
  first
    | (rw[fF q0s];exact ap ⟨jH oZ _,M U 0 t λ_ _ _ q=>q⟩)
    | (rw[fE q0s]
       refine am<|kE<|am ?_
       show fO _ A.in1 (sR s.heap.objs.size (·.push .none) >>= λ_=>sR s.heap.objs.size (·.pop)) _ _ _
       refine am<|oK t rfl ?_
       have P:=gP (Obj.mapSeq (·.push Value.none)) t rfl
       refine oK P rfl ?_
       have y:=gP (Obj.mapSeq (·.pop)) P rfl
       refine ap ⟨jH oZ _,M _ _ y λc o hc q=>(gG _ _ (Ne.symm hc)).trans ((gG _ _ (Ne.symm hc)).trans q)⟩)
end
end SX
namespace L2
open PySem PySem.Spec PyProof.Rows SX
theorem RA{k:Int}(h:yR (.inl k) v=true):∃u,v=.int k u:=by
 rcases vg h with⟨i,t,e,rfl⟩|⟨x,t,e,_⟩
 ·cases e;exact⟨t,rfl⟩
 ·cases e
theorem Vm:∀{b:List (Key×V)} {c:List (Key×cr)} (_:KV b c) (i:Nat) {k:Key} {x:cr},c[i]?=some (k,x)->∃y,b[i]?=some (k,y):=by
 intro _ _ z
 induction z with
 | nil=>intro i _ _ h;cases h
 | cons a t d =>
  intro i k x h
  cases i with
  | zero=>cases h;exact⟨_,congrArg some<|Prod.ext a.1 rfl⟩
  | succ i=>exact MZ (d i<|by simpa using h) λy q=>⟨y,by simpa using q⟩
section
variable{X:Cx}
theorem Fh(J:X.calm=true):xJ X (.builtin "sorted") (λC H Q=>∃(a:ci) (b:List (Key×V)) (c:List Int),C=[.ref a]/\H a=some (.dK b)/\b.map (·.1)=c.map gm/\c.length<64/\∀(p:ci)(t:List Int),H p=none->t.Perm c->t.Pairwise (·<=·)->Q (.ref p) (upd H p<|.lst<|t.map V.int)):=by
 intro E s σ H C us Q I r h;obtain⟨a,b,c,rfl,K,f,g,q⟩:=h;obtain⟨u,rfl,L⟩:=vals1 r;cases L;obtain⟨hz,l,F,G,M⟩:=I.uO a _ K;obtain⟨o,N,O,P,z,m,d⟩:=M;have D:s.heap.DictAt (uB X.prog X.w) a F O:=⟨o,N,P,z,m,d⟩;have R:b.length=F.length:=Paired.length G;have S:b.length=c.length:=by have:=congrArg mG f;simpa using this
 refine Br (λQ' k=>Mi (by simp[I.ok.hd J]) l D q0a q0a (λi T x v U A=>?_) λW Y B Z k1 sz=>k W Y B c Z (.refl _) k1 sz) g<|Aj I g q;obtain⟨y,hy⟩:=Vm G i U;have n:(b.map (·.1))[i]?=some T:=by rw[iK,hy];rfl
 rw[f,iK] at n
 cases e:c[i]? with
 | none=>rw[e] at n;cases n
 | some j =>
  rw[e] at n;cases n;obtain⟨u,hu⟩:=RA A;exact⟨j,u,rfl,hu⟩
end
end L2
namespace WL
open PySem L2
abbrev Wf(A τ PO:Type):=A->(τ->PO->Prop)->(ci->PO->Prop)->Prop
abbrev Rg:=ci->Prop
structure Ext(G R:Rg)(H:Hp)(R':Rg)(H':Hp):Prop where
 keep:∀b o,¬G b->H b=some o->H' b=some o
 new:∀a,R' a->R a\/H a=none
theorem Ext.wide(e:Ext G R H c d)(s:∀a,G a->R a):Ext R R H c d:=⟨λb o n h=>e.keep b o (λg=>n<|s b g) h,e.new⟩
theorem Ext.not(e:Ext G R H b c)(n:¬R a)(h:H a=some o):¬b a:=λz=>by
 rcases e.new a z with q|q
 ·exact n q
 ·rw[h] at q;cases q
class Rep(α:Type) where
 rp:Rg->Hp->α->V->Prop
 st:∀{R:Rg} {H:Hp} {R':Rg} {H':Hp} {x:α} {v:V},rp R H x v->Ext R R H R' H'->rp R' H' x v
open Rep (rp)
instance:Rep Int:=⟨λ_ _ i v=>v=.int i,λh _=>h⟩
instance:Rep Bool:=⟨λ_ _ i v=>v=.bl i,λh _=>h⟩
instance:Rep Unit:=⟨λ_ _ _ v=>v=.vC,λh _=>h⟩
instance{α:Type}[Rep α]:Rep (Option α):=⟨λR H x v=>match x with|none=>v=.vC|some y=>v≠.vC/\rp R H y v,λ{R H R' H' x v} h e=>by
 cases x with
 | none=>exact h
 | some y=>exact⟨h.1,Rep.st h.2 e⟩⟩
theorem vh{α:Type}[Rep α]{R R':Rg}{H H':Hp}(e:Ext R R H R' H'):∀{xs:List α} {vs:List V},Paired (rp R H) xs vs->Paired (rp R' H') xs vs:=by
 intro _ _ z
 induction z with
 | nil=>exact .nil
 | cons h t ih=>exact .cons (Rep.st h e) ih
instance{α:Type}[Rep α]:Rep (List α):=⟨λR H xs v=>∃a vs,v=.ref a/\¬R a/\H a=some (.lst vs)/\Paired (rp R H) xs vs,λ{R H R' H' x v} h e=>by
 refine vt h λa vs h1 h2 h3 h4=>?_
 exact⟨a,vs,h1,e.not h2 h3,e.keep a _ h2 h3,vh e h4⟩⟩
instance{α β:Type}[Rep α][Rep β]:Rep (α×β):=⟨λR H x v=>∃a u w,v=.ref a/\¬R a/\H a=some (.tup [u,w])/\rp R H x.1 u/\rp R H x.2 w,λ{R H R' H' x v} h e=>by
 obtain⟨a,u,w,h1,h2,h3,h4,h5⟩:=h
 exact⟨a,u,w,h1,e.not h2 h3,e.keep a _ h2 h3,Rep.st h4 e,Rep.st h5 e⟩⟩
structure Tp(α:Type) where
 l:List α
instance{α:Type}[Rep α]:Rep (Tp α):=⟨λR H xs v=>∃a vs,v=.ref a/\¬R a/\H a=some (.tup vs)/\Paired (rp R H) xs.l vs,λ{R H R' H' x v} h e=>by
 refine vt h λa vs h1 h2 h3 h4=>?_
 exact⟨a,vs,h1,e.not h2 h3,e.keep a _ h2 h3,vh e h4⟩⟩
class Ow(τ:Type) where
 sl:Rg->Rg->Hp->τ->Option V->Prop
 st:∀{F G R:Rg} {H:Hp} {R':Rg} {H':Hp} {x:τ} {v:Option V},sl F R H x v->Ext G R H R' H'->(∀a,G a->R a)->(∀a,F a->¬G a)->sl F R' H' x v
 fq:∀{F F' R:Rg} {H:Hp} {x:τ} {v:Option V},sl F R H x v->(∀a,F a↔F' a)->sl F' R H x v
open Ow (sl)
structure Un where
instance:Ow Un:=⟨λF _ _ _ _=>∀a,¬F a,λh _ _ _=>h,λh e a z=>h a ((e a).mpr z)⟩
instance a0n{α:Type}[Rep α]:Ow α:=⟨λF R H x v=>(∀a,¬F a)/\∃u,v=some u/\rp R H x u,λh e s _=>⟨h.1,tX h.2 λu h1 h2=> ⟨u,h1,Rep.st h2 (e.wide s)⟩⟩,λh e=>⟨λa z=>h.1 a ((e a).mpr z),h.2⟩⟩
structure OL(α:Type) where
 l:List α
instance{α:Type}[Rep α]:Ow (OL α):=⟨λF R H x v=>∃a vs,v=some (.ref a)/\(∀b,F b↔b=a)/\H a=some (.lst vs)/\Paired (rp R H) x.l vs,
 λh e s n=>by
  refine vt h λa vs h1 h2 h3 h4=>?_
  exact⟨a,vs,h1,h2,e.keep a _ (n a<|(h2 a).mpr rfl) h3,vh (e.wide s) h4⟩,
 λh e=>by
  refine vt h λa vs h1 h2 h3 h4=>?_
  exact⟨a,vs,h1,λb=>(e b).symm.trans (h2 b),h3,h4⟩⟩
class Sls(D:Type) where
 rel:Rg->Rg->Hp->D->St->Prop
 st:∀{F G R:Rg} {H:Hp} {R':Rg} {H':Hp} {d:D} {σ:St},rel F R H d σ->Ext G R H R' H'->(∀a,G a->R a)->(∀a,F a->¬G a)->rel F R' H' d σ
 fq:∀{F F' R:Rg} {H:Hp} {d:D} {σ:St},rel F R H d σ->(∀a,F a↔F' a)->rel F' R H d σ
open Sls (rel)
instance:Sls Unit:=⟨λF _ _ _ σ=>σ=[]/\∀a,¬F a,λh _ _ _=>h,λh e=>⟨h.1,λa z=>h.2 a ((e a).mpr z)⟩⟩
structure Cf(F F1 F2:Rg):Prop where
 all:∀a,F a↔F1 a\/F2 a
 xi:∀a,F1 a->F2 a->False
instance{τ D:Type}[Ow τ][Sls D]:Sls (τ×D):=⟨λF R H d σ=>∃v σ' F1 F2,σ=v::σ'/\Cf F F1 F2/\sl F1 R H d.1 v/\rel F2 R H d.2 σ',
 λh e s n=>by
  refine xH h λv σ' F1 F2 h1 h2 h3 h4=>?_
  exact⟨v,σ',F1,F2,h1,h2,Ow.st h3 e s<|λa z=>n a<|(h2.all a).mpr<|.inl z,Sls.st h4 e s<|λa z=>n a<|(h2.all a).mpr<|.inr z⟩,
 λh e=>by
  refine xH h λv σ' F1 F2 h1 h2 h3 h4=>?_
  exact⟨v,σ',F1,F2,h1,⟨λa=>(e a).symm.trans (h2.all a),h2.xi⟩,h3,h4⟩⟩
class At(i:Nat)(B:Type)[Sls B](τ:outParam Type)[Ow τ](B':outParam Type)[Sls B'] where
 get:B->τ
 hole:B->B'
 take:∀{F R:Rg} {H:Hp} {b:B} {σ:St},rel F R H b σ->∃v F1 F2,σ[i]?=some v/\Cf F F1 F2/\sl F1 R H (get b) v/\rel F2 R H (hole b) σ
class Pt(i:Nat)(B':Type)[Sls B'](τ:Type)[Ow τ](B:outParam Type)[Sls B] where
 put:B'->τ->B
 back:∀{F F1 F2 R:Rg} {H:Hp} {b:B'} {x:τ} {v:Option V} {σ:St},rel F2 R H b σ->Cf F F1 F2->sl F1 R H x v->rel F R H (put b x) (σ.set i v)
theorem set_same:∀{l:List b} {i:Nat} {v:b},l[i]?=some v->l.set i v=l
 | [],_,_,h=>by simp at h
 | _::_,0,_,h=>by simp at h;subst h;rfl
 | a::r,i+1,v,h=>by show a::r.set i v=a::r;rw[set_same<|by simpa using h]
theorem Pt.same{i:Nat}{B' τ B:Type}[Sls B'][Ow τ][Sls B][A:Pt i B' τ B]{F F1 F2 R:Rg}{H:Hp}{b:B'}{x:τ}{v:Option V}{σ:St}(h:rel F2 R H b σ)(e:σ[i]?=some v)(t:Cf F F1 F2)(s:sl F1 R H x v):rel F R H (A.put b x) σ:=by have:=A.back h t s;rw[set_same e] at this;exact this
instance at0{τ D:Type}[Ow τ][Sls D]:At 0 (τ×D) τ (Un×D) where
 get b:=b.1
 hole b:=(⟨⟩,b.2)
 take:=λh=>by refine xH h λv σ' F1 F2 h1 h2 h3 h4=>?_;exact⟨v,F1,F2,by rw[h1];rfl,h2,h3,v,σ',λ_=>False,F2,h1,⟨λa=>⟨.inr,λz=>z.elim (λq=>q.elim) id⟩,λ_ z _=>z⟩,λ_ z=>z,h4⟩
instance pt0{τ D:Type}[Ow τ][Sls D]:Pt 0 (Un×D) τ (τ×D) where
 put b x:=(x,b.2)
 back:=λ{F F1 F2 R H b x v σ} h t s=>by refine xH h λv' σ' G1 G2 h1 h2 h3 h4=>?_;have e2:∀a,G2 a↔F2 a:=λa=>⟨λz=>(h2.all a).mpr<|.inr z,λz=>((h2.all a).mp z).elim (λq=>fY q<|h3 a) id⟩;exact⟨_,σ',F1,F2,by rw[h1];rfl,t,s,Sls.fq h4 e2⟩
instance atS{i:Nat}{ρ τ D D':Type}[Ow ρ][Ow τ][Sls D][Sls D'][A:At i D τ D']:At (i+1) (ρ×D) τ (ρ×D') where
 get b:=A.get b.2
 hole b:=(b.1,A.hole b.2)
 take:=λh=>by
  refine xH h λv σ' F1 F2 h1 h2 h3 h4=>?_;refine xU (A.take h4) λu G1 G2 k1 k2 k3 k4=>?_;refine⟨u,G1,λa=>F1 a\/G2 a,by rw[h1];simpa using k1,⟨λa=>?_,λa z q=>?_⟩,k3,v,σ',F1,G2,h1,⟨λa=>Iff.rfl,λa z q=>h2.xi a z<|(k2.all a).mpr<|.inr q⟩,h3,k4⟩
  ·rw[h2.all,k2.all];exact⟨λz=>z.elim (λq=>.inr<|.inl q) λz=>z.elim .inl λq=>.inr<|.inr q,λz=>z.elim (λq=>.inr<|.inl q) λz=>z.elim .inl λq=>.inr<|.inr q⟩
  ·rcases q with q|q
   ·exact h2.xi a q<|(k2.all a).mpr<|.inl z
   ·exact k2.xi a z q
instance ptS{i:Nat}{ρ τ D D':Type}[Ow ρ][Ow τ][Sls D][Sls D'][A:Pt i D' τ D]:Pt (i+1) (ρ×D') τ (ρ×D) where
 put b x:=(b.1,A.put b.2 x)
 back:=λ{F F1 F2 R H b x v σ} h t s=>by
  refine xH h λv' σ' G1 G2 h1 h2 h3 h4=>?_;have t':Cf (λa=>F1 a\/G2 a) F1 G2:=⟨λa=>Iff.rfl,λa z q=>t.xi a z<|(h2.all a).mpr<|.inr q⟩;refine⟨v',σ'.set i v,G1,λa=>F1 a\/G2 a,by rw[h1];rfl,⟨λa=>?_,λa z q=>?_⟩,h3,A.back h4 t' s⟩
  ·rw[t.all,h2.all];exact⟨λz=>z.elim (λq=>.inr<|.inl q) λz=>z.elim .inl λq=>.inr<|.inr q,λz=>z.elim (λq=>.inr<|.inl q) λz=>z.elim .inl λq=>.inr<|.inr q⟩
  ·rcases q with q|q
   ·exact t.xi a q<|(h2.all a).mpr<|.inl z
   ·exact h2.xi a z q
class Fg(D:Type)[Sls D](D':Type)[Sls D'] where
 fg:D->D'
 le:∀{F R:Rg} {H:Hp} {d:D} {σ:St},rel F R H d σ->∃F',(∀a,F' a->F a)/\rel F' R H (fg d) σ
instance fgId{D:Type}[Sls D]:Fg D D:=⟨id,λh=>⟨_,λ_ z=>z,h⟩⟩
theorem two_le{F d e b c:Rg}(t:Cf F d e)(f:∀a,b a->d a)(g:∀a,c a->e a):Cf (λa=>b a\/c a) b c:=⟨λ_=>Iff.rfl,λa x y=>t.xi a (f a x)<|g a y⟩
instance(priority:=low) fgUn {τ D D':Type} [Ow τ] [Sls D] [Sls D'] [A:Fg D D']:Fg (τ×D) (Un×D'):=⟨λd=>(⟨⟩,A.fg d.2),λh=>by
 refine xH h λv σ' F1 F2 h1 h2 h3 h4=>?_;refine tX (A.le h4) λF' k1 k2=>?_
 exact⟨_,λa z=>(h2.all a).mpr (.inr (k1 a (z.elim (λq=>q.elim) id))),v,σ',λ_=>False,F',h1,⟨λa=>Iff.rfl,λ_ z _=>z⟩,λ_ z=>z,k2⟩⟩
instance fgCons{τ D D':Type}[Ow τ][Sls D][Sls D'][A:Fg D D']:Fg (τ×D) (τ×D'):=⟨λd=>(d.1,A.fg d.2),λh=>by
 refine xH h λv σ' F1 F2 h1 h2 h3 h4=>?_;refine tX (A.le h4) λF' k1 k2=>?_
 exact⟨_,λa z=>(h2.all a).mpr (z.elim .inl λq=>.inr (k1 a q)),v,σ',F1,F',h1,two_le h2 (λ_ z=>z) k1,h3,k2⟩⟩
class Pj(D:Type)[Sls D](P:Type)[Sls P](n:outParam Nat) where
 pj:D->P
 le:∀{F R:Rg} {H:Hp} {d:D} {σ:St},rel F R H d σ->∃F',(∀a,F' a->F a)/\rel F' R H (pj d) (σ.take n)
instance pjNil{D:Type}[Sls D]:Pj D Unit 0:=⟨λ_=>(),λh=>⟨λ_=>False,λ_ z=>z.elim,rfl,λ_ z=>z⟩⟩
instance(priority:=low) pjUn {τ D P:Type} {n:Nat} [Ow τ] [Sls D] [Sls P] [A:Pj D P n]:Pj (τ×D) (Un×P) (n+1):=⟨λd=>(⟨⟩,A.pj d.2),λh=>by
 refine xH h λv σ' F1 F2 h1 h2 h3 h4=>?_;refine tX (A.le h4) λF' k1 k2=>?_
 exact⟨_,λa z=>(h2.all a).mpr (.inr (k1 a (z.elim (λq=>q.elim) id))),v,σ'.take n,λ_=>False,F',by rw[h1];rfl,⟨λa=>Iff.rfl,λ_ z _=>z⟩,λ_ z=>z,k2⟩⟩
instance pjCons{τ D P:Type}{n:Nat}[Ow τ][Sls D][Sls P][A:Pj D P n]:Pj (τ×D) (τ×P) (n+1):=⟨λd=>(d.1,A.pj d.2),λh=>by
 refine xH h λv σ' F1 F2 h1 h2 h3 h4=>?_;refine tX (A.le h4) λF' k1 k2=>?_
 exact⟨_,λa z=>(h2.all a).mpr (z.elim .inl λq=>.inr (k1 a q)),v,σ'.take n,F1,F',by rw[h1];rfl,two_le h2 (λ_ z=>z) k1,h3,k2⟩⟩
class Sel(is:List Nat)(D:Type)[Sls D](S:outParam Type)[Sls S](D0:outParam Type)[Sls D0] where
 sel:D->S
 rest:D->D0
 mrg:D0->S->D
 cut:∀{F R:Rg} {H:Hp} {d:D} {σ:St},rel F R H d σ->∃F1 F2,Cf F F1 F2/\rel F1 R H (sel d) (is.map λi=>σ[i]?.join)/\rel F2 R H (rest d) σ/\∀i∈is,i<σ.length
 join:∀{F F1 F2 R:Rg} {H:Hp} {d:D0} {s:S} {σ:St},Cf F F1 F2->rel F1 R H s (is.map λi=>σ[i]?.join)->rel F2 R H d σ->(∀i∈is,i<σ.length)->rel F R H (mrg d s) σ
instance selNil{D:Type}[Sls D]:Sel [] D Unit D where
 sel _:=()
 rest d:=d
 mrg d _:=d
 cut:=λ{F R H d σ} h=>⟨λ_=>False,F,⟨λa=>⟨.inr,λz=>z.elim (λq=>q.elim) id⟩,λ_ z _=>z⟩,⟨rfl,λ_ z=>z⟩,h,λ_ z=>by cases z⟩
 join:=λ{F F1 F2 R H d s σ} t h1 h2 _=>Sls.fq h2 λa=>⟨λz=>(t.all a).mpr<|.inr z,λz=>((t.all a).mp z).elim (λq=>fY q<|h1.2 a) id⟩
instance selCons{i:Nat}{is:List Nat}{D τ D1 S D0:Type}[Sls D][Ow τ][Sls D1][Sls S][Sls D0][A:At i D τ D1][P:Pt i D1 τ D][B:Sel is D1 S D0]:Sel (i::is) D (τ×S) D0 where
 sel d:=(A.get d,B.sel<|A.hole d)
 rest d:=B.rest<|A.hole d
 mrg d s:=P.put (B.mrg d s.2) s.1
 cut:=λ{F R H d σ} h=>by
  refine xU (A.take h) λv F1 F2 h1 h2 h3 h4=>?_;refine vt (B.cut h4) λG1 G2 k1 k2 k3 k4=>?_;have hv:σ[i]?.join=v:=by rw[h1];rfl
  refine⟨λa=>F1 a\/G1 a,G2,⟨λa=>?_,λa z q=>?_⟩,⟨v,_,F1,G1,by rw[gn,hv],⟨λ_=>Iff.rfl,λa z q=>h2.xi a z<|(k1.all a).mpr<|.inl q⟩,h3,k2⟩,k3,λj hj=>?_⟩
  ·rw[h2.all,k1.all];exact⟨λz=>z.elim (λq=>.inl<|.inl q) λz=>z.elim (λq=>.inl<|.inr q) .inr,λz=>z.elim (λz=>z.elim .inl λq=>.inr<|.inl q) λq=>.inr<|.inr q⟩
  ·rcases z with z|z
   ·exact h2.xi a z<|(k1.all a).mpr<|.inr q
   ·exact k1.xi a z q
  ·rcases List.mem_cons.mp hj with e|e
   ·rw[e];exact(List.getElem?_eq_some_iff.mp h1).1
   ·exact k4 j e
 join:=λ{F F1 F2 R H d s σ} t h1 h2 hl=>by
  refine xH h1 λv σ' G1 G2 k1 k2 k3 k4=>?_;rw[gn] at k1;injection k1 with e1 e2;subst e2;have hi:i<σ.length:=hl i fM
  have ev:σ[i]?=some v:=by rw[iz hi] at e1 ⊢;exact congrArg some e1
  have t2:Cf (λa=>G2 a\/F2 a) G2 F2:=⟨λ_=>Iff.rfl,λa z q=>t.xi a ((k2.all a).mpr<|.inr z) q⟩;refine Pt.same (B.join t2 k4 h2 λj hj=>hl j<|fP _ hj) ev ⟨λa=>?_,λa z q=>?_⟩ k3
  ·rw[t.all,k2.all];exact⟨λz=>z.elim (λz=>z.elim .inl λq=>.inr<|.inl q) λq=>.inr<|.inr q,λz=>z.elim (λq=>.inl<|.inl q) λz=>z.elim (λq=>.inl<|.inr q) .inr⟩
  ·rcases q with q|q
   ·exact k2.xi a z q
   ·exact t.xi a ((k2.all a).mpr<|.inl z) q
structure ve(T:ci){D:Type}[Sls D](F R:Rg)(H:Hp)(d:D)(σ:St):Prop where
 rel:rel F R H d σ
 sub:∀a,F a->R a
 wn:∀a,R a->H a≠none
 tab:TabAt H T
 uQ:R T
 uF:¬F T
theorem ya(t:TabAt H T):H T≠none:=by refine tX t λa e _=>?_;rw[e];simp
structure Ch(T:ci)(F R:Rg)(H:Hp)(F' R':Rg)(H':Hp):Prop where
 keep:∀b o,¬F b->b≠T->H b=some o->H' b=some o
 zc:∀a,R' a->R a\/H a=none
 xo:∀a,F' a->F a\/H a=none
 left:∀a,R a->¬F a->R' a
theorem Ch.refl(T:ci)(F R:Rg)(H:Hp):Ch T F R H F R H:=⟨λ_ _ _ _ h=>h,λ_ h=>.inl h,λ_ h=>.inl h,λ_ h _=>h⟩
theorem Ch.trans{T:ci}{D:Type}[Sls D]{d:D}{u:St}{F R k l m p:Rg}{H j r:Hp}(s:ve T F R H d u)(v:TabAt j T)(a:Ch T F R H k l j)(b:Ch T k l j m p r):Ch T F R H m p r:=by
 have g:∀c,¬F c->H c≠none->¬k c:=λc n h z=>by
  rcases a.xo c z with q|q
  ·exact n q
  ·exact h q
 have f:∀c,j c=none->¬(F c)->H c=none:=λc h n=>by
  cases e:H c with
  | none=>rfl
  | some o =>
   have w:c≠T:=λz=>by rw[z] at h;exact ya v h
   rw[a.keep c o n w e] at h;cases h
 refine⟨λc o n t h=>b.keep c o (g c n<|by rw[h];simp) t<|a.keep c o n t h,λc h=>?_,λc h=>?_,λc h n=>b.left c (a.left c h n)<|g c n<|s.wn c h⟩
 ·rcases b.zc c h with q|q
  ·exact a.zc c q
  ·by_cases i:F c
   ·exact .inl<|s.sub c i
   ·exact .inr<|f c q i
 ·rcases b.xo c h with q|q
  ·exact a.xo c q
  ·by_cases i:F c
   ·exact .inl i
   ·exact .inr<|f c q i
theorem Ch.ext(c:Ch T F R H f d e):Ext (λa=>F a\/a=T) R H d e:=⟨λb o n h=>c.keep b o (λz=>n<|.inl z) (λz=>n<|.inr z) h,c.zc⟩
theorem ve.val{T:ci}{D:Type}[Sls D]{d:D}{σ:St}{F R F' R':Rg}{H H':Hp}(s:ve T F R H d σ)(c:Ch T F R H F' R' H'){α:Type}[Rep α]{x:α}{v:V}(h:rp R H x v):rp R' H' x v :=
 Rep.st h (c.ext.wide λa z=>z.elim (s.sub a) λq=>by rw[q];exact s.uQ)
theorem ve.new{T:ci}{D:Type}[Sls D]{d:D}{c:St}{F R:Rg}{H:Hp}(s:ve T F R H d c){p:ci}(o:HO)(f:H p=none):ve T F R (upd H p o) d c/\Ch T F R H F R (upd H p o)/\¬R p:=by
 have g:¬R p:=λz=>s.wn p z f;have k:∀b u,H b=some u->upd H p o b=some u:=λb u e=>by rw[ss<|uf e f];exact e
 refine⟨⟨Sls.st s.rel (G:=λ_=>False) ⟨λb u _ e=>k b u e,λa h=>.inl h⟩ (λ_ z=>z.elim)<|λ_ _ z=>z,s.sub,λa z=>?_,?_,s.uQ,s.uF⟩,⟨λb u _ _ e=>k b u e,λa h=>.inl h,λa h=>.inl h,λa h _=>h⟩,g⟩
 ·cases e:H a with
  | none=>exact fY e<|s.wn a z
  | some u=>rw[k a u e];simp
 ·refine tX s.tab λi e t=>?_;exact⟨i,k _ _ e,t⟩
def EW(X:Cx)(E:XK)(T:ci)(e:gA){D α:Type}[Sls D][Rep α](w:Wf D α D):Prop :=
 ∃t,PE X e t/\∀(d:D)(F R:Rg)(σ:St)(H:Hp)(Kn:α->D->Prop)(Ke:ci->D->Prop)(Q:VK),ve T F R H d σ->w d Kn Ke ->
  (∀x d' v F' R' H',Kn x d'->Ch T F R H F' R' H'->ve T F' R' H' d' σ->rp R' H' x v->Q v H') ->
  (∀C y d' F' R' H',Ke C d'->Ch T F R H F' R' H'->ve T F' R' H' d' σ->E (.ref C) (some y) H')->t σ H Q
structure Nw(T:ci){τ:Type}[Ow τ](F1 F2 R:Rg)(H:Hp)(x:τ)(v:V):Prop where
 is:sl F1 R H x (some v)
 sub:∀a,F1 a->R a
 xi:∀a,F1 a->F2 a->False
 tab:¬F1 T
def EO(X:Cx)(E:XK)(T:ci)(e:gA){D h:Type}[Sls D][Ow h](w:Wf D h D):Prop :=
 ∃t,PE X e t/\∀(d:D)(F R:Rg)(g:St)(H:Hp)(j:h->D->Prop)(k:ci->D->Prop)(Q:VK),ve T F R H d g->w d j k ->
  (∀x f v l i c b,j x f->Ch T F R H (λa=>l a\/i a) c b->ve T i c b f g->Nw T l i c b x v->Q v b) ->
  (∀C y f m c b,k C f->Ch T F R H m c b->ve T m c b f g->E (.ref C) (some y) b)->t g H Q
def TW(X:Cx)(E:XK)(T:ci)(e:gA){D:Type}[Sls D](w:Wf D Bool D):Prop :=
 ∃t,PT X e t/\∀(d:D)(F R:Rg)(g:St)(H:Hp)(h:Bool->D->Prop)(i:ci->D->Prop)(Q:Bool->Hp->Prop),ve T F R H d g->w d h i ->
  (∀x b c f a,h x b->Ch T F R H c f a->ve T c f a b g->Q x a) ->
  (∀C y b c f a,i C b->Ch T F R H c f a->ve T c f a b g->E (.ref C) (some y) a)->t g H Q
section
variable{X:Cx}{E:XK}{T:ci}{D:Type}[Sls D]{pos:Pos}
theorem Vn{F R F1 F2 R':Rg}{H H':Hp}{d d':D}{σ:St}{α:Type}[Rep α]{x:OL α}{v:V}(s:ve T F R H d σ)(c:Ch T F R H (λa=>F1 a\/F2 a) R' H')(s':ve T F2 R' H' d' σ)(n:Nw T F1 F2 R' H' x v) :
  ∃Ia,Ch T F R H F2 Ia H'/\ve T F2 Ia H' d' σ/\rp Ia H' x.l v:=by
 have ex:Ext (λ_=>False) R' H' (λa=>R' a/\¬F1 a) H':=⟨λ_ _ _ h=>h,λa h=>.inl h.1⟩;refine⟨λa=>R' a/\¬F1 a,⟨c.keep,λa h=>c.zc a h.1,λa h=>c.xo a<|.inr h,λa h k=>⟨c.left a h k,λz=>?_⟩⟩,⟨Sls.st s'.rel ex (λ_ z=>z.elim)<|λ_ _ z=>z,λa h=>⟨s'.sub a h,λz=>n.xi a z h⟩,λa h=>s'.wn a h.1,s'.tab,⟨s'.uQ,n.tab⟩,s'.uF⟩,?_⟩
 ·rcases c.xo a (.inl z) with q|q
  ·exact k q
  ·exact s.wn a h q
 ·refine vt n.is λa vs h1 h2 h3 h4=>?_;cases h1;exact⟨a,vs,rfl,λz=>z.2<|(h2 a).mpr rfl,h3,vh (ex.wide λ_ z=>z.elim) h4⟩
theorem uM{α:Type}[Rep α]{w:Wf D (OL α) D}(h:EO X E T e w):EW X E T e (λd Kn Ke=>w d (λx d'=>Kn x.l d') Ke):=by refine tX h λt h1 h2=>?_;refine⟨t,h1,λd F R σ H Kn Ke Q s hw kn ke=>h2 d F R σ H _ Ke Q s hw (λx d' v F1 F2 R' H' q c s' n=>?_) ke⟩;refine ux (Vn s c s' n) λIa c2 s2 r=>?_;exact kn x.l d' v F2 Ia H' q c2 s2 r
theorem wF{F R:Rg}{H:Hp}{d:D}{σ:St}{α:Type}[Rep α]{xs:List α}{vs:List V}{p:ci}(s:ve T F R H d σ)(hp:H p=none)(h:Paired (rp R H) xs vs) :
  ∃R',Ch T F R H (λa=>a=p\/F a) R' (upd H p<|.lst vs)/\ve T F R' (upd H p<|.lst vs) d σ/\Nw T (λa=>a=p) F R' (upd H p<|.lst vs) (OL.mk xs) (.ref p):=by
 refine yi (s.new (.lst vs) hp) λs1 c1 n1=>?_;have nF:¬F p:=λz=>n1<|s.sub p z;have ex:Ext (λ_=>False) R H (λa=>R a\/a=p) (upd H p<|.lst vs):=⟨λb o _ h=>by rw[ss<|uf h hp];exact h,λa h=>h.elim .inl λq=>.inr<|by rw[q];exact hp⟩;refine⟨λa=>R a\/a=p,⟨c1.keep,ex.new,λa h=>h.elim (λq=>.inr<|by rw[q];exact hp) .inl,λa h _=>.inl h⟩,⟨Sls.st s.rel ex (λ_ z=>z.elim)<|λ_ _ z=>z,λa h=>.inl<|s.sub a h,λa h=>?_,s1.tab,.inl s.uQ,s.uF⟩,⟨⟨p,vs,rfl,λb=>Iff.rfl,tZ,vh (ex.wide λ_ z=>z.elim) h⟩,λa h=>.inr h,λa h k=>nF (by rw[<- h];exact k),λh=>n1<|by rw[<- h];exact s.uQ⟩⟩;rcases h with h|h
 ·exact s1.wn a h
 ·rw[h,tZ];simp
theorem RB{i:Nat}{τ D':Type}[Ow τ][Sls D'][A:At i D τ D']{F R:Rg}{H:Hp}{d:D}{σ:St}(s:ve T F R H d σ):∃v F1 F2,σ[i]?=some v/\Cf F F1 F2/\sl F1 R H (A.get d) v/\rel F2 R H (A.hole d) σ:=A.take s.rel
theorem kf[Rep a][Sls e](i:Nat)[A:At i D a e](f:PE X (.Name x pos) (λb H Q=>∃v,b[i]?=some (some v)/\Q v H)):EW X E T (.Name x pos) (λ(d:D)(c:a->D->Prop) _=>c (A.get d) d):=by refine⟨_,f,λd F R b H c l Q s g h _=>?_⟩;obtain⟨v,m,n,j,o,⟨_,u,rfl,k⟩,_⟩:=A.take s.rel;exact⟨u,j,h _ d u F R H g (Ch.refl _ _ _ _) s k⟩
theorem t9{n:Int}{k:Nat}:EW X E T (.Constant (.int n) k pos) (λ(d:D)(a:Int->D->Prop) _=>a n d) :=
 ⟨_,uw,λd F R e H a f Q s b c _=>c n d _ F R H b (Ch.refl _ _ _ _) s rfl⟩
theorem KA{b:Bool}{k:Nat}:EW X E T (.Constant (.bool b) k pos) (λ(d:D)(a:Bool->D->Prop) _=>a b d) :=
 ⟨_,Wv,λd F R f H a g Q s c e _=>e b d _ F R H c (Ch.refl _ _ _ _) s rfl⟩
theorem IV{k:Nat}:EW X E T (.Constant .none k pos) (λ(d:D)(a:Unit->D->Prop) _=>a () d) :=
 ⟨_,Ii,λd F R e H a f Q s b c _=>c () d _ F R H b (Ch.refl _ _ _ _) s rfl⟩
theorem N5{α β γ:Type}[Rep α][Rep β][Rep γ]{wa:Wf D α D}{wb:Wf D β D}{c:α->β->Prop}{g:α->β->γ}
 (ha:EW X E T a wa) (hb:EW X E T b wb) (he:∀ta tb,PE X a ta->PE X b tb->PE X e (Wk r ta tb))
 (hr:∀{R:Rg} {H:Hp} {x:α} {y:β} {u v:V} {Q:VK},rp R H x u->rp R H y v->c x y->(∀z,rp R H (g x y) z->Q z H)->r u v H Q) :
    EW X E T e (λd Kn Ke=>wa d (λx d1=>wb d1 (λy d2=>c x y/\Kn (g x y) d2) Ke) Ke):=by
  refine tX ha λta a1 a2=>?_
  refine tX hb λtb b1 b2=>?_
  refine⟨_,he ta tb a1 b1,λd F R σ H Kn Ke Q s hw kn ke=>?_⟩
  refine a2 d F R σ H _ Ke _ s hw (λx d1 u F1 R1 H1 q1 c1 s1 r1=>?_) ke
  refine b2 d1 F1 R1 σ H1 _ Ke _ s1 q1 (λy d2 v F2 R2 H2 q2 c2 s2 r2=>?_) λC y d' F' R' H' k c s'=>ke C y d' F' R' H' k (Ch.trans s s1.tab c1 c) s'
  exact hr (s1.val c2 r1) r2 q2.1 λz rz=>kn _ d2 z F2 R2 H2 q2.2 (Ch.trans s s1.tab c1 c2) s2 rz
theorem Vo{α γ:Type}[Rep α][Rep γ]{r:V->Hp->VK->Prop}{wa:Wf D α D}{c:α->Prop}{g:α->γ}
 (ha:EW X E T a wa) (he:∀ta,PE X a ta->PE X e (tUn r ta)) (hr:∀{R:Rg} {H:Hp} {x:α} {u:V} {Q:VK},rp R H x u->c x->(∀z,rp R H (g x) z->Q z H)->r u H Q) :
    EW X E T e (λd Kn Ke=>wa d (λx d1=>c x/\Kn (g x) d1) Ke):=by
  refine tX ha λta a1 a2=>?_
  refine⟨_,he ta a1,λd F R σ H Kn Ke Q s hw kn ke=>?_⟩
  refine a2 d F R σ H _ Ke _ s hw (λx d1 u F1 R1 H1 q1 c1 s1 r1=>?_) ke
  exact hr r1 q1.1 λz rz=>kn _ d1 z F1 R1 H1 q1.2 c1 s1 rz
theorem N6{c:Int->Int->Prop}{g:Int->Int->Int}{h l:Wf D Int D}(n:zO X (kS op) (rI c λi j=>.int<|g i j))(o:EW X E T a h)(p:EW X E T b l) :
  EW X E T (.BinOp a op b pos) (λd q m=>h d (λx r=>l r (λy s=>c x y/\q (g x y) s) m) m) :=
 N5 (γ:=Int) o p (λu v e f=>vU n e f) λe f t k=>⟨_,_,e,f,t,k _ rfl⟩
theorem AF{g:Int->Int->Int}{wa wb:Wf D Int D}(ho:zO X (kS op) (QE λi j=>.int<|g i j))(ha:EW X E T a wa)(hb:EW X E T b wb) :
  EW X E T (.BinOp a op b pos) (λd Kn Ke=>wa d (λx d1=>wb d1 (λy d2=>Kn (g x y) d2) Ke) Ke):=by
 have h:=N5 (c:=λ_ _=>True) (γ:=Int) (g:=g) (e:=.BinOp a op b pos) ha hb (λta tb h1 h2=>vU ho h1 h2) λh1 h2 _ k=>⟨_,_,h1,h2,k _ rfl⟩;simp only[true_and] at h;exact h
class IY(α:Type)[Rep α][DecidableEq α] where
 sc:∀{R:Rg} {H:Hp} {x y:α} {u v:V},rp R H x u->rp R H y v->UO u v=true/\decide (u=v)=decide (x=y)
instance:IY Int:=⟨λ{R H x y u v} h1 h2=>by
 have h1:u=V.int x:=h1;have h2:v=V.int y:=h2;subst h1;subst h2;refine⟨rfl,?_⟩;by_cases e:x=y
 ·rw[e];simp
 ·rw[gz e,gz (λz=>e (by cases z;rfl))]⟩
theorem KC{α:Type}[Rep α]{x:Option α}(h:rp R H x u):decide (u=.vC)=x.isNone:=by
 cases x with
 | none=>have h:u=.vC:=h;rw[h];rfl
 | some y=>exact gz h.1
end
variable[L2.GX]
section
variable{X:Cx}{E:XK}{T:ci}{D:Type}[Sls D]{pos:Pos}
theorem uo{b:Type}[Rep b]{w:Wf D b D}(h:EO X E T e w):EW X E T e w:=by refine tX h λt f g=>?_;refine⟨t,f,λd F R i H B j Q s k l m=>g d F R i H _ j Q s k (λx o v C p r y q c z n=>?_) m⟩;obtain⟨G,u,e,A⟩:=n.is;cases e;exact l x o v p r y q ⟨c.keep,c.zc,λa h=>c.xo a<|.inr h,c.left⟩ z A
theorem uU{b:Type}[Rep b]{w:Wf D b D}(h:EW X E T e w):EO X E T e w:=by refine tX h λt f g=>?_;refine⟨t,f,λd F R i H A j Q s k l m=>g d F R i H _ j Q s k (λx n v o p u q c y r=>?_) m⟩;exact l x n v (λ_=>False) o p u q ⟨c.keep,c.zc,λa h=>c.xo a<|h.elim (λz=>z.elim) id,c.left⟩ y ⟨⟨λ_ z=>z,v,rfl,r⟩,λ_ z=>z.elim,λ_ z=>z.elim,λz=>z⟩
end
class Hs(τ:Type)[Ow τ]:Prop where
 has:∀{F R:Rg} {H:Hp} {x:τ} {v:Option V},sl F R H x v->∃u,v=some u
instance{α:Type}[Rep α]:Hs (OL α):=⟨λz9=>vS z9 λa _ h _=>⟨_,h⟩⟩
instance{α:Type}[Rep α]:Hs α:=⟨λz9=>QJ z9 λ_ z39=>tX z39 λu h _=>⟨u,h⟩⟩
structure Std(T:ci)(F R:Rg)(H:Hp):Prop where
 sub:∀a,F a->R a
 wn:∀a,R a->H a≠none
 tab:TabAt H T
 uQ:R T
 uF:¬F T
theorem ve.Ib{T:ci}{D:Type}[Sls D]{F R:Rg}{H:Hp}{d:D}{a:St}(s:ve T F R H d a):Std T F R H:=⟨s.sub,s.wn,s.tab,s.uQ,s.uF⟩
theorem Std.stt{T:ci}{D:Type}[Sls D]{F R:Rg}{H:Hp}{d:D}{a:St}(s:Std T F R H)(h:rel F R H d a):ve T F R H d a:=⟨h,s.sub,s.wn,s.tab,s.uQ,s.uF⟩
section
variable{X:Cx}{E:XK}{T:ci}{D:Type}[Sls D]{pos:Pos}
theorem two_nil(F:Rg):Cf F (λ_=>False) F:=⟨λ_=>⟨.inr,λz=>z.elim (λq=>q.elim) id⟩,λ_ z _=>z⟩
theorem two_eq(t:Cf F b c)(n:∀a,¬b a):∀a,c a↔F a:=λa=>⟨λz=>(t.all a).mpr<|.inr z,λz=>((t.all a).mp z).elim (λq=>fY q<|n a) id⟩
end
def xG(T:ci){P d f:Type}[Sls P][Sls d][Ow f](w:Wf P f d):Sp:=λg H Q E=>∃(F R:Rg)(p:P)(i:f->d->Prop)(j:ci->d->Prop),ve T F R H p (g.map some)/\w p i j /\
 (∀x e v k h c b,i x e->Ch T F R H (λa=>k a\/h a) c b->ve T h c b e (g.map some)->Nw T k h c b x v->Q v b) /\
 (∀C y e l c b,j C e->Ch T F R H l c b->ve T l c b e (g.map some)->E (.ref C) (some y) b)
def Ag(c:List Nat)(b a:St):Prop:=a.length=b.length/\∀i∈c,a[i]?=b[i]?
theorem Ag.refl(b:List Nat)(a:St):Ag b a a:=⟨rfl,λ_ _=>rfl⟩
theorem Ag.trans(a:Ag e f c)(b:Ag e c d):Ag e f d:=⟨b.1.trans a.1,λi h=>(b.2 i h).trans<|a.2 i h⟩
theorem Ag.set{i:Nat}(h:i∉a):Ag a b (b.set i v):=⟨kI,λj c=>lK λe=>h<|by rw[e];exact c⟩
structure QI(P:Type)[Sls P](ms:List Nat)(n:Nat):Prop where
 dp:∀{F R:Rg} {H:Hp} {p:P} {σ σ':St},Ag ms σ σ'->rel F R H p (σ'.take n)->rel F R H p (σ.take n)
class Dp(P:Type)[Sls P](n:outParam Nat)(l:outParam (List Nat)):Prop where
 dp:QI P l n
instance dp0:Dp Unit 0 []:=⟨⟨λ{F R H p σ σ'} _ h=>⟨rfl,h.2⟩⟩⟩
instance(priority:=high) dpU {P:Type} {n:Nat} {l:List Nat} [Sls P] [A:Dp P n l]:Dp (Un×P) (n+1) (l.map (· + 1)):=⟨⟨λ{F R H p σ σ'} a r=>by
 refine xH r λv σ1 F1 F2 h1 h2 h3 h4=>?_
 cases σ' with
 | nil=>cases h1
 | cons v' r' =>
  cases σ with
  | nil=>have:=a.1;simp at this
  | cons u r =>
   injection h1 with e1 e2;subst e2;refine⟨u,r.take n,F1,F2,rfl,h2,h3,A.dp.dp (σ':=r') ⟨by have:=a.1;simpa using this,λi hi=>?_⟩ h4⟩;have:=a.2 (i+1)<|List.mem_map.mpr ⟨i,hi,rfl⟩
   simpa using this⟩⟩
instance dpO{τ P:Type}{n:Nat}{l:List Nat}[Ow τ][Sls P][A:Dp P n l]:Dp (τ×P) (n+1) (0::l.map (· + 1)):=⟨⟨λ{F R H p σ σ'} a r=>by
 refine xH r λv σ1 F1 F2 h1 h2 h3 h4=>?_
 cases σ' with
 | nil=>cases h1
 | cons v' r' =>
  cases σ with
  | nil=>have:=a.1;simp at this
  | cons u r =>
   injection h1 with e1 e2;subst e2
   have e0:v'=u:=by have:=a.2 0 fM;simpa using this
   subst e0;subst e1;refine⟨v',r.take n,F1,F2,rfl,h2,h3,A.dp.dp (σ':=r') ⟨by have:=a.1;simpa using this,λi hi=>?_⟩ h4⟩;have:=a.2 (i+1)<|fP _<|List.mem_map.mpr ⟨i,hi,rfl⟩
   simpa using this⟩⟩
theorem uG[Sls P]{n:Nat}[A:Dp P n l](h:∀i∈l,i∈b):QI P b n:=⟨λa r=>A.dp.dp ⟨a.1,λi c=>a.2 i<|h i c⟩ r⟩
def T6(E:XK)(T:ci)(u:List Nat)(n:Nat)(t:TS){D j f k:Type}[Sls D][Sls j][Sls f][Ow k](w:D->(j->Prop)->(k->f->Prop)->(ci->f->Prop)->Prop):Prop :=
 ∀(d:D)(F R:Rg)(g:St)(H:Hp)(o:j->Prop)(p:k->f->Prop)(q:ci->f->Prop)(l:Ends),ve T F R H d g->w d o p q ->
  (∀r h c b e,o r->Ch T F R H h c b->ve T h c b r e->Ag u g e->l.nx e b) ->
  (∀x i v s m c b,p x i->Ch T F R H (λa=>s a\/m a) c b->ve T m c b i (g.take n)->Nw T s m c b x v->l.rt v b) ->
  (∀C y i h c b,q C i->Ch T F R H h c b->ve T h c b i (g.take n)->E (.ref C) (some y) b)->t l g H
def S1(X:Cx)(E:XK)(T:ci)(d:List Nat)(n:Nat)(e:gy){D b a c:Type}[Sls D][Sls b][Sls a][Ow c](w:D->(b->Prop)->(c->a->Prop)->(ci->a->Prop)->Prop):Prop:=∃t,PS X e t/\T6 E T d n t w
def SW(X:Cx)(E:XK)(T:ci)(e:List Nat)(n:Nat)(a:List gy){D c b d:Type}[Sls D][Sls c][Sls b][Ow d](w:D->(c->Prop)->(d->b->Prop)->(ci->b->Prop)->Prop):Prop:=∃t,DT X a t/\T6 E T e n t w
section
variable{X:Cx}{E:XK}{T:ci}{ms:List Nat}{n:Nat}{D D' D1 PO τ:Type}[Sls D][Sls D'][Sls D1][Sls PO][Ow τ]{pos:Pos}
theorem uK:SW X E T ms n [] (λ(d:D)(a:D->Prop)(_:τ->PO->Prop) _=>a d) :=
 ⟨_,yp,λd F R b H a f g h s c e _ _=>e d F R H b c (Ch.refl _ _ _ _) s<|Ag.refl _ _⟩
theorem N7:SW X E T ms n a (λ(d:D)(b:D'->Prop)(_:τ->PO->Prop) _=>False) :=
 ⟨_,LH,λd F R e H b f g h s c i _ _=>c.elim⟩
theorem ZE[A:Fg D1 D'](k:T6 E T ms n t w):T6 E T ms n t (λ(d:D)(j:D'->Prop)(e:τ->PO->Prop) f=>w d (λl=>j<|A.fg l) e f):=by refine λd F R m H j e f o s p r u v=>k d F R m H _ e f o s p (λB C x y g q c b a=>?_) u v;refine tX (A.le b.rel) λG i z=>?_;exact r _ G x y g q ⟨c.keep,c.zc,λa h=>c.xo a<|i a h,c.left⟩ ⟨z,λa h=>b.sub a<|i a h,b.wn,b.tab,b.uQ,λh=>b.uF<|i _ h⟩ a
theorem KD[A:Fg D1 D'](h:SW X E T ms n a w):SW X E T ms n a (λ(d:D)(b:D'->Prop)(c:τ->PO->Prop) e=>w d (λf=>b<|A.fg f) c e) :=
 tX h λt g i=> ⟨t,g,ZE i⟩
theorem T7{z:D->(D1->Prop)->(τ->PO->Prop)->(ci->PO->Prop)->Prop}{A:D1->(D'->Prop)->(τ->PO->Prop)->(ci->PO->Prop)->Prop}(B:QI PO ms n)(J:T6 E T ms n K z)(L:T6 E T ms n M A) :
  T6 E T ms n (Ik K M) (λd k b e=>z d (λl=>A l k b e) b e):=by
 refine λd F R N H k b e O s P Q G I=>J d F R N H _ b e _ s P (λl S U V o q p j r=>?_) G I;refine L l S U o V k b e O j q (λW t f h u i c a g=>Q W t f h u i (Ch.trans s j.tab p c) a<|r.trans g) (λx w v Y Z f h i c a m=>?_) λC y w t f h i c a=>?_
 ·exact G x w v Y Z f h i (Ch.trans s j.tab p c) ⟨B.dp r a.rel,a.sub,a.wn,a.tab,a.uQ,a.uF⟩ m
 ·exact I C y w t f h i (Ch.trans s j.tab p c) ⟨B.dp r a.rel,a.sub,a.wn,a.tab,a.uQ,a.uF⟩
theorem Cr{b:gy}{a:List gy}{w1:D->(D1->Prop)->(τ->PO->Prop)->(ci->PO->Prop)->Prop}{w2:D1->(D'->Prop)->(τ->PO->Prop)->(ci->PO->Prop)->Prop}(f:QI PO ms n)(g:S1 X E T ms n b w1)(h:SW X E T ms n a w2) :
  SW X E T ms n (b::a) (λd i c e=>w1 d (λj=>w2 j i c e) c e) :=
 tX g λp k l=> tX h λq m o=> ⟨_,vi k m,T7 f l o⟩
theorem t7{a:gy}{b:D->(D'->Prop)->(τ->PO->Prop)->(ci->PO->Prop)->Prop}(c:S1 X E T ms n a b):SW X E T ms n [a] b :=
 tX c λf d e=> ⟨_,wP d,e⟩
theorem vG[A:Pj D PO n](s:ve T c e f d g):∃G,(∀a,G a->c a)/\ve T G e f (A.pj d) (g.take n):=by refine tX (A.le s.rel) λG b i=>?_;exact⟨G,b,i,λa h=>s.sub a<|b a h,s.wn,s.tab,s.uQ,λh=>s.uF<|b _ h⟩
theorem Ch.less(c:Ch T F R H b d e)(g:∀a,G a->b a):Ch T F R H G d e:=⟨c.keep,c.zc,λa h=>c.xo a<|g a h,c.left⟩
theorem uD[A:Pj D PO n](h:EO X E T e r):S1 X E T ms n (.Return (some e) pos) (λ(d:D)(_:D'->Prop)(o:τ->PO->Prop) p=>r d (λx b=>o x<|A.pj b) λC b=>p C<|A.pj b):=by
 refine tX h λt u w=>?_;refine⟨_,Bc u,λd F R B H M o p N s I O J K=>w d F R B H _ _ _ s I (λx b v L P g i q c j m=>?_) λC y b Q g i q c j=>?_⟩
 ·refine tX (vG (PO:=PO) j) λG f l=>?_;exact J x _ v L G g i q (c.less λa h=>h.elim .inl λz=>.inr<|f a z) l ⟨m.is,m.sub,λa h k=>m.xi a h<|f a k,m.tab⟩
 ·refine tX (vG (PO:=PO) j) λG f l=>?_;exact K C y _ G g i q (c.less f) l
theorem uY{i:Type}[Rep i][A:Pj D PO n]{j:Wf D i D}(h:EW X E T e j)(r:i4 e none pos.line X.env=pure false:=by rfl) :
  S1 X E T ms n (.Expr e pos) (λ(d:D)(k:D->Prop)(u:τ->PO->Prop) l=>j d (λ_ a=>k a) λC a=>l C<|A.pj a):=by
 refine tX h λt w z=>?_;refine⟨_,vF w r,λd F R o H k u l M s B I N J=>z d F R o H _ _ _ s B (λx a v p b f q c g m=>I a p b f o q c g<|Ag.refl _ _) λC y a p b f q c g=>?_⟩;refine tX (vG (PO:=PO) g) λG K L=>?_;exact J C y _ G b f q (c.less K) L
theorem uV{a b:List gy}[A:Pj D PO n]{L:Wf D Bool D}{M N:D->(D'->Prop)->(τ->PO->Prop)->(ci->PO->Prop)->Prop}(W:TW X E T c L)(Y:SW X E T ms n a M)(Z:SW X E T ms n b N) :
  S1 X E T ms n (.If c a b pos) (λ(d:D)(u:D'->Prop)(w:τ->PO->Prop) r=>L d (λb z=>if b=true then M z u w r else N z u w r) λC t=>r C<|A.pj t):=by
 refine tX W λtc c1 c2=>?_;refine tX Y λta a1 a2=>?_;refine tX Z λtb b1 b2=>?_;refine⟨_,Kd c1 a1 b1,λd F R B H u w r O s hw P Q I=>c2 d F R B H _ _ _ s hw (λx z S U V q c k=>?_) λC y t l e f q c h=>?_⟩
 ·cases x with
  | true=>exact a2 z S U B V u w r O k q (λt l e f o i j h g=>P t l e f o i (Ch.trans s k.tab c j) h g) (λx p v J K e f i j h m=>Q x p v J K e f i (Ch.trans s k.tab c j) h m) λC y p l e f i j h=>I C y p l e f i (Ch.trans s k.tab c j) h
  | false=>exact b2 z S U B V u w r O k q (λt l e f o i j h g=>P t l e f o i (Ch.trans s k.tab c j) h g) (λx p v J K e f i j h m=>Q x p v J K e f i (Ch.trans s k.tab c j) h m) λC y p l e f i j h=>I C y p l e f i (Ch.trans s k.tab c j) h
 ·refine tX (vG (PO:=PO) h) λG g1 g2=>?_;exact I C y _ G e f q (c.less g1) g2
theorem Ew{i:Nat}[Ow c][Ow e][Sls f][Sls j][A:At i D c f][U:Pt i f e j](s:ve T g R H d k)(m:Nw T F1 g R H x v) :
  ∃G,(∀a,G a->F1 a\/g a)/\ve T G R H (U.put (A.hole d) x) (k.set i<|some v):=by
 refine xU (A.take s.rel) λp r l t b u o=>?_;refine⟨λa=>F1 a\/l a,λa h=>h.elim .inl λz=>.inr<|(b.all a).mpr<|.inr z,U.back o ⟨λ_=>Iff.rfl,λa z q=>m.xi a z<|(b.all a).mpr<|.inr q⟩ m.is,λa h=>h.elim (m.sub a) λz=>s.sub a<|(b.all a).mpr<|.inr z,s.wn,s.tab,s.uQ,λh=>h.elim m.tab λz=>s.uF<|(b.all T).mpr<|.inr z⟩
theorem um(i:Nat)[Ow f][Ow g][Sls r][Sls u][A:At i D f r][U:Pt i r g u][J:Pj D PO n](B:X.N.Nodup)(I:X.N[i]?=some x)(K:Loc X.env.scope x)(L:i∉ms)(h:EO X E T e M)
 (O:i4 e (some<|.Name x a) pos.line X.env=pure false:=by rfl) (P:X.fn x=true\/X.env.scope.names.lookup x=some .local:=by first|exact .inl rfl|exact .inr rfl) :
    S1 X E T ms n (.Assign [.Name x a] e pos) (λ(d:D)(w:u->Prop)(Q:τ->PO->Prop) z=>M d (λx b=>w<|U.put (A.hole b) x) λC b=>z C<|J.pj b):=by
  refine tX h λt S V=>?_
  refine⟨_,yU B I K S O P,λd F R W H w Q z En s Y Z kr ke=>V d F R W H _ _ _ s Y (λx b v F1 F2 j k q c l m=>?_) λC y b F' j k q c l=>?_⟩
  · refine tX (Ew (i := i) l m) λG o p => ?_
    exact Z _ G j k _ q (c.less o) p<|Ag.set L
  · refine tX (vG (PO := PO) l) λG o p => ?_
    exact ke C y _ G j k q (c.less o) p
end
class Ent(P:Type)[Sls P](k:Nat)(D:outParam Type)[Sls D] where
 ent:P->D
 ok:∀{F R:Rg} {H:Hp} {p:P} {σ:St},rel F R H p σ->rel F R H (ent p) (σ++jD k none)
instance ent0:Ent Unit 0 Unit:=⟨id,λh=>by obtain⟨rfl,h⟩:=h;exact⟨rfl,h⟩⟩
instance entS{k:Nat}{D:Type}[Sls D][A:Ent Unit k D]:Ent Unit (k+1) (Un×D):=⟨λp=>(⟨⟩,A.ent p),λ{F R H p σ} h=>by
 obtain⟨rfl,h⟩:=h
 exact⟨none,jD k none,λ_=>False,F,by rw[lP];rfl,two_nil F,λ_ z=>z,by simpa using A.ok (σ:=[]) (p:=p) (F:=F) (R:=R) (H:=H) ⟨rfl,h⟩⟩⟩
instance entC{k:Nat}{τ P D:Type}[Ow τ][Sls P][Sls D][A:Ent P k D]:Ent (τ×P) k (τ×D):=⟨λp=>(p.1,A.ent p.2),λ{F R H p σ} h=>by
 obtain⟨v,σ',F1,F2,rfl,h2,h3,h4⟩:=h
 exact⟨v,σ'++jD k none,F1,F2,rfl,h2,h3,A.ok h4⟩⟩
class Ln(P:Type)[Sls P](n:outParam Nat):Prop where
 ln:∀{F R:Rg} {H:Hp} {p:P} {σ:St},rel F R H p σ->σ.length=n
instance ln0:Ln Unit 0:=⟨λh=>by rw[h.1];rfl⟩
instance lnS{τ P:Type}{n:Nat}[Ow τ][Sls P][A:Ln P n]:Ln (τ×P) (n+1):=⟨λh=>by
 obtain⟨v,σ',F1,F2,rfl,_,_,h4⟩:=h
 rw[gk,A.ln h4]⟩
section
variable{P:gf}{w:gu}{K:fB}{mg:Str->Option cr}{base:gE}{T:ci}
theorem v8{r:gy}{N M:List Str}{k j n:Nat}{ms:List Nat}{A PO τ D D':Type}[Sls A][Sls PO][Ow τ][Sls D][Sls D'][L:Ln A n][J:Ent A j D]{O:D->(D'->Prop)->(τ->PO->Prop)->(ci->PO->Prop)->Prop}
 (F:xY K x d r f fd) (S:ug N M (tY r)) (hn:M.length=n) (hj:N.length-n=j)
 (i:∀(b:cr)(A:gJ)(a:List Env)(s:fH)(H:Hp)(E:XK),vq k (A.deeper<|m7 d (tY r) s.heap.objs.size f b)->SW (uR (uP P w) P w K mg base N d (tY r) f b A a s H E) E T ms n (uC r) O) :
    uE P w K mg base (uP P w) (k+1) f fd M (xG T λ(p:A)(U:τ->PO->Prop) l=>O (J.ent p) (λ_=>False) U l):=by
  have e:∀{g:List V} {H:Hp} {Q:VK} {E:XK},xG T (λ(p:A)(U:τ->PO->Prop) l=>O (J.ent p) (λ_=>False) U l) g H Q E->g.length=n:=λh=>by
    obtain⟨F,R,p,Kn,l,s,_⟩:=h
    have:=L.ln s.rel
    rwa [fN] at this
  obtain⟨oc,od,kV,aa,pm,an,b,ct,ab,rfl,lk,X⟩:=F.ex
  refine G4 lk X S (λg H Q E h=>(e h).trans hn.symm) λAr a s H g Q E hr u=>?_
  refine tX (i b Ar a s H E hr) λt h1 h2=>?_
  refine⟨t,h1,?_⟩
  have Y:=e u
  obtain⟨F,R,p,Kn,l,o,hw,kn,ke⟩:=u
  have B:start N g=g.map some++jD j none:=by unfold L2.start;rw[Y,hj]
  have G:(start N g).take n=g.map some:=by rw[B,lM (by rw[fN,Y];exact fJ _),iq<|by rw[fN,Y];exact fJ _]
  refine h2 (J.ent p) F R _ H _ Kn l _ ⟨by rw[B];exact J.ok o.rel,o.sub,o.wn,o.tab,o.uQ,o.uF⟩ hw (λ_ _ _ _ _ z=>z.elim) (λx Z v F1 F2 R' H' q c I m=>?_) λC y Z F' R' H' q c I=>?_
  · rw[G] at I
    exact kn x Z v F1 F2 R' H' q c I m
  · rw[G] at I
    exact ke C y Z F' R' H' q c I
theorem T8{o:gy}{N J:List Str}{k j n:Nat}{ms:List Nat}{A PO τ D D':Type}[Sls A][Sls PO][Ow τ][Sls D][Sls D'][L:Ln A n][I:Ent A j D]{M:D->(D'->Prop)->(τ->PO->Prop)->(ci->PO->Prop)->Prop}
 (F:xY K x b o f O) (S:ug N J (tY o)) (hn:J.length=n) (hj:N.length-n=j)
 (g:∀(A:gJ)(a:List Env)(s:fH)(H:Hp)(E:XK),vq k (A.deeper<|m7 b (tY o) s.heap.objs.size f O.code)->SW (uR (uP P w) P w K mg base N b (tY o) f O.code A a s H E) E T ms n (uC o) M) :
    uE P w K mg base (uP P w) (k+1) f O J (xG T λ(p:A)(U:τ->PO->Prop) i=>M (I.ent p) (λ_=>False) U i):=by
  have d:∀{e:List V} {H:Hp} {Q:VK} {E:XK},xG T (λ(p:A)(U:τ->PO->Prop) i=>M (I.ent p) (λ_=>False) U i) e H Q E->e.length=n:=λh=>by
    obtain⟨F,R,p,Kn,i,s,_⟩:=h
    have:=L.ln s.rel
    rwa [fN] at this
  obtain⟨oc,od,kV,aa,pm,an,ab,ct,ae,rfl,lk,X⟩:=F.ex
  refine G4 lk X S (λe H Q E h=>(d h).trans hn.symm) λAr a s H e Q E hr r=>?_
  refine tX (g Ar a s H E hr) λt h1 h2=>?_
  refine⟨t,h1,?_⟩
  have Y:=d r
  obtain⟨F,R,p,Kn,i,l,hw,kn,ke⟩:=r
  have u:start N e=e.map some++jD j none:=by unfold L2.start;rw[Y,hj]
  have B:(start N e).take n=e.map some:=by rw[u,lM (by rw[fN,Y];exact fJ _),iq<|by rw[fN,Y];exact fJ _]
  refine h2 (I.ent p) F R _ H _ Kn i _ ⟨by rw[u];exact I.ok l.rel,l.sub,l.wn,l.tab,l.uQ,l.uF⟩ hw (λ_ _ _ _ _ z=>z.elim) (λx Z v F1 F2 R' H' q c G m=>?_) λC y Z F' R' H' q c G=>?_
  · rw[B] at G
    exact kn x Z v F1 F2 R' H' q c G m
  · rw[B] at G
    exact ke C y Z F' R' H' q c G
theorem C8{O:gy}{N ps:List Str}{k j n:Nat}{ms:List Nat}{A PO D D':Type}[Sls A][Sls PO][Sls D][Sls D'][L:Ln A n][En:Ent A j D][J:Pj D' PO n](dp:QI PO ms n){w0:D->(D'->Prop)->(Unit->PO->Prop)->(ci->PO->Prop)->Prop}
 (F:xY K x e O f fd) (S:ug N ps (tY O)) (hn:ps.length=n) (hj:N.length-n=j)
 (o:∀(d:cr)(A:gJ)(b:List Env)(s:fH)(H:Hp)(E:XK),vq k (A.deeper<|m7 e (tY O) s.heap.objs.size f d)->SW (uR (uP P w) P w K mg base N e (tY O) f d A b s H E) E T ms n (uC O) w0) :
    uE P w K mg base (uP P w) (k+1) f fd ps (xG T λ(p:A)(U:Unit->PO->Prop) B=>w0 (En.ent p) (λd'=>U ()<|J.pj d') U B):=by
  have i:∀{l:List V} {H:Hp} {Q:VK} {E:XK},xG T (λ(p:A)(U:Unit->PO->Prop) B=>w0 (En.ent p) (λd'=>U ()<|J.pj d') U B) l H Q E->l.length=n:=λh=>by
    obtain⟨F,R,p,Kn,B,s,_⟩:=h
    have:=L.ln s.rel
    rwa [fN] at this
  obtain⟨oc,od,kV,ab,pm,an,d,ct,ae,rfl,lk,aa⟩:=F.ex
  refine G4 lk aa S (λl H Q E h=>(i h).trans hn.symm) λAr b s H l Q E hr X=>?_
  refine tX (o d Ar b s H E hr) λt h1 h2=>?_
  refine⟨t,h1,?_⟩
  have hl:=i X
  obtain⟨F,R,p,Kn,B,I,hw,kn,ke⟩:=X
  have Y:start N l=l.map some++jD j none:=by unfold L2.start;rw[hl,hj]
  have r:(start N l).take n=l.map some:=by rw[Y,lM (by rw[fN,hl];exact fJ _),iq<|by rw[fN,hl];exact fJ _]
  refine h2 (En.ent p) F R _ H _ Kn B _ ⟨by rw[Y];exact En.ok I.rel,I.sub,I.wn,I.tab,I.uQ,I.uF⟩ hw (λd' F' Z H' af q c u g=>?_) (λx p' v F1 F2 Z H' q c u m=>?_) λC y p' F' Z H' q c u=>?_
  · refine tX (vG (PO := PO) u) λG g1 M => ?_
    have g3:=dp.dp g M.rel
    rw[r] at g3
    exact kn () _ .vC (λ_=>False) G Z H' q (c.less λa h=>h.elim (λz=>z.elim)<|g1 a) ⟨g3,M.sub,M.wn,M.tab,M.uQ,M.uF⟩ ⟨⟨λ_ z=>z,.vC,rfl,rfl⟩,λ_ z=>z.elim,λ_ z=>z.elim,λz=>z⟩
  · rw[r] at u
    exact kn x p' v F1 F2 Z H' q c u m
  · rw[r] at u
    exact ke C y p' F' Z H' q c u
end
end WL
namespace WL
open PySem L2
open Rep (rp)
open Ow (sl)
open Sls (rel)
class Dat(α:Type)[Rep α][DecidableEq α] where
 dat:α->PyData
 dp:Nat
 rd:∀{X:Cx} {R:Rg} {H:Hp} {x:α} {v:V},rp R H x v->Eu X H v (dat x)
 lay:∀x,(dat x).canLay0=true
 dep:∀x,(dat x).depth<=dp
 nm:∀x y,n9 (dat x) (dat y)=true
 sm:∀x y,jE (dat x) (dat y)=decide (x=y)
instance:Dat Int where
 dat:=.int
 dp:=0
 rd h:=by have h:_=_:=h;subst h;exact Eu.int _
 lay _:=by simp[nS]
 dep _:=by simp[qN]
 nm _ _:=by simp[n9]
 sm x y:=by rw[jE];by_cases h:x=y<;>simp[h]
section
variable{α β:Type}[Rep α][DecidableEq α][Dat α][Rep β][DecidableEq β][Dat β]
theorem AG{X:Cx}{R:Rg}{H:Hp}:∀{xs:List α} {vs:List V},Paired (rp R H) xs vs->Paired (Eu X H) vs (xs.map Dat.dat):=by
 intro _ _ z
 induction z with
 | nil=>exact .nil
 | cons h t ih=>exact .cons (Dat.rd h) ih
theorem KG:∀a:List α,mB (a.map Dat.dat)=true
 | []=>by simp[mB]
 | x::a=>by simp only[gn,mB,Dat.lay x,KG a,oT]
theorem KH:∀a:List α,ng (a.map Dat.dat)<=Dat.dp α
 | []=>by simp[ng]
 | x::a=>by
  have b:=KH a;have c:=Dat.dep x;simp only[gn,ng]
  lia
theorem N8:∀a b:List α,kU (a.map Dat.dat) (b.map Dat.dat)=true
 | [],[]=>by simp[kU]
 | [],_::_=>by simp[kU]
 | _::_,[]=>by simp[kU]
 | x::a,y::b=>by simp only[gn,kU,Dat.nm x y,N8 a b,oT]
theorem N9:∀xs ys:List α,jx (xs.map Dat.dat) (ys.map Dat.dat)=decide (xs=ys)
 | [],[]=>by simp[jx]
 | [],_::_=>by simp[jx]
 | _::_,[]=>by simp[jx]
 | x::xs,y::ys=>by simp only[gn,jx,Dat.sm x y,N9 xs ys];by_cases h:x=y<;>simp[h]
instance:Dat (List α) where
 dat xs:=.list<|xs.map Dat.dat
 dp:=Dat.dp α+1
 rd h:=by obtain⟨a,vs,rfl,_,h3,h4⟩:=h;exact Eu.lst (vn.of h3)<|AG h4
 lay xs:=by simp only[nS];exact KG xs
 dep xs:=by simp only[qN];have:=KH xs;omega
 nm xs ys:=by simp only[n9];exact N8 xs ys
 sm xs ys:=by simp only[jE];exact N9 xs ys
theorem Eu.tup{X:Cx}(h:yg X.K H a c)(p:Paired (Eu X H) c d):Eu X H (.ref a) (.tuple d):=λb m s u I r=>by
 cases r;refine ux (I.tuple h) λe f g _=>?_;obtain⟨q,i⟩:=Ev I f p;obtain⟨o,j,k,n,l⟩:=g;exact⟨_,Reads.tuple j k l<|by simpa using i⟩
instance:Dat (α×β) where
 dat x:=.tuple [Dat.dat x.1,Dat.dat x.2]
 dp:=max (Dat.dp α) (Dat.dp β)+1
 rd h:=by obtain⟨a,u,w,rfl,_,h3,h4,h5⟩:=h;exact Eu.tup (yg.of h3)<|.cons (Dat.rd h4)<|.cons (Dat.rd h5) .nil
 lay x:=by simp only[nS,mB,Dat.lay,oT]
 dep x:=by have h1:=Dat.dep x.1;have h2:=Dat.dep x.2;simp only[qN,ng];omega
 nm x y:=by simp only[n9,kU,Dat.nm,oT]
 sm x y:=by simp only[jE,jx,Dat.sm];obtain⟨a,b⟩:=x;obtain⟨c,d⟩:=y;by_cases h1:a=c<;>by_cases h2:b=d<;>simp[h1,h2]
end
def RdL{α:Type}[Rep α]{D:Type}[Sls D](T:ci)(F R:Rg)(H:Hp)(σ:St)(g:D->List α)(v:V):Prop :=
 ∀(d'':D)(T9 Ia:Rg)(Oa:Hp),Ch T F R H T9 Ia Oa->ve T T9 Ia Oa d'' σ->∃a vs,v=.ref a/\Oa a=some (.lst vs)/\Paired (rp Ia Oa) (g d'') vs
def ER(X:Cx)(E:XK)(T:ci)(e:gA){D i:Type}[Sls D][Rep i](w:Wf D (D->List i) D):Prop :=
 ∃t,PE X e t/\∀(d:D)(F R:Rg)(f:St)(H:Hp) (j:(D->List i)->D->Prop) (k:ci->D->Prop) (Q:VK),ve T F R H d f->w d j k ->
  (∀g h v b c a,j g h->Ch T F R H b c a->ve T b c a h f->RdL T b c a f g v->Q v a) ->
  (∀C y h b c a,k C h->Ch T F R H b c a->ve T b c a h f->E (.ref C) (some y) a)->t f H Q
section
variable{X:Cx}{E:XK}{T:ci}{D:Type}[Sls D]{pos:Pos}{α β γ:Type}[Rep α][Rep β][Rep γ]
theorem vD(h:EW X E T e w):ER X E T e (λ(d:D) (g:(D->List α)->D->Prop) b=>w d (λx f=>g (λ_=>x) f) b):=by refine tX h λt j k=>?_;refine⟨t,j,λd F R l H g b Q s m n o=>k d F R l H _ b Q s m (λx f v p u y q c i r=>n _ f v p u y q c i λz A B C G I=>?_) o⟩;refine vt (i.val G r) λa J K N L M=>?_;exact⟨a,J,K,L,M⟩
theorem vy(i:Nat)[Sls h][A:At i D (OL α) h](j:PE X (.Name x pos) (uH i)):ER X E T (.Name x pos) (λ(d:D) (e:(D->List α)->D->Prop) _=>e (λd=>(A.get d).l) d):=by refine⟨_,j,λd F R w H e y Q s k m _=>?_⟩;obtain⟨v,z,B,f,C,⟨a,G,rfl,I⟩,_⟩:=A.take s.rel;refine⟨_,f,m _ d _ F R H k (Ch.refl _ _ _ _) s λn o p q J b=>?_⟩;obtain⟨K,L,M,g,N,⟨O,c,r,P,t,u⟩,_⟩:=A.take b.rel;rw[f] at g;cases g;cases r;exact⟨_,c,rfl,t,u⟩
theorem Vp{wa:Wf D (D->List α) D}{wb:Wf D β D}{c:List α->β->γ->Prop}
 (ha:ER X E T a wa) (hb:EW X E T b wb) (he:∀ta tb,PE X a ta->PE X b tb->PE X e (Wk r ta tb))
 (hr:∀{R:Rg} {H:Hp} {xs:List α} {y:β} {z:γ} {p:ci} {us:List V} {v:V} {Q:VK},H p=some (.lst us)->Paired (rp R H) xs us->rp R H y v->c xs y z->(∀w,rp R H z w->Q w H)->r (.ref p) v H Q) :
    EW X E T e (λd Kn Ke=>wa d (λg d1=>wb d1 (λy d2=>∃z,c (g d2) y z/\Kn z d2) Ke) Ke):=by
  refine tX ha λta a1 a2=>?_
  refine tX hb λtb b1 b2=>?_
  refine⟨_,he ta tb a1 b1,λd F R σ H Kn Ke Q s hw kn ke=>?_⟩
  refine a2 d F R σ H _ Ke _ s hw (λg d1 u F1 R1 H1 q1 c1 s1 r1=>?_) ke
  refine b2 d1 F1 R1 σ H1 _ Ke _ s1 q1 (λy d2 v F2 R2 H2 q2 c2 s2 r2=>?_) λC y d' F' R' H' k c s'=>ke C y d' F' R' H' k (Ch.trans s s1.tab c1 c) s'
  refine tX q2 λz z1 z2=>?_
  obtain⟨p,us,rfl,h1,h2⟩:=r1 d2 F2 R2 H2 c2 s2
  exact hr h1 h2 r2 z1 λw rw=>kn _ d2 w F2 R2 H2 z2 (Ch.trans s s1.tab c1 c2) s2 rw
theorem vX{R:Rg}{H:Hp}:∀{xs:List α} {vs:List V} {i:Nat} {x:α},Paired (rp R H) xs vs->xs[i]?=some x->∃v,vs[i]?=some v/\rp R H x v:=by
 intro _ _ i x z
 induction z generalizing i with
 | nil=>intro e;simp at e
 | cons r t ih =>
  intro e
  cases i with
  | zero=>simp at e;subst e;exact⟨_,rfl,r⟩
  | succ i=>exact tX (ih<|by simpa using e) λu h1 h2=>⟨u,by simpa using h1,h2⟩
theorem zD{xs:List α}{vs:List V}{i:Int}(h:Paired (rp R H) xs vs)(e:EX xs i=some x):∃v,EX vs i=some v/\rp R H x v:=by
 unfold EX at e ⊢;rw[<- Paired.length h]
 cases q:TV xs.length i with
 | none=>rw[q] at e;cases e
 | some j =>
  rw[q] at e;exact vX h e
theorem yb{l:Wf D (D->List α) D}{m:Wf D Int D}(s:ER X E T a l)(t:EW X E T b m)(u:Kt b:=by intro _ _;rfl) :
  EW X E T (.Subscript a b pos) (λ(d:D)(A:α->D->Prop) n=>l d (λg B=>m B (λi o=>∃x,EX (g o) i=some x/\A x o) n) n) :=
 Vp (c:=λq i x=>EX q i=some x) s t (λF G f h=>xh vM f h u) λ{R H q y z p I v Q} f h j C k=>by have j:v=V.int y:=j;subst j;refine tX (zD h C) λw e r=>?_;exact⟨_,_,_,_,rfl,rfl,vn.of f,e,k _ r⟩
theorem IZ{k:Nat}{e:Wf D (α×β) D}(g:EW X E T a e):EW X E T (.Subscript a (.Constant (.int 0) k p) pos) (λ(d:D)(f:α->D->Prop) b=>e d (λx c=>f x.1 c) b):=by refine tX g λI h i=>?_;refine⟨_,xh Nn h uw<|λ_ _=>rfl,λd F R j H f b Q s l m n=>i d F R j H _ b _ s l (λx c u o r t y z A B=>?_) n⟩;obtain⟨q,v,w,rfl,_,C,G,J⟩:=B;exact⟨_,_,_,v,rfl,rfl,yg.of C,rfl,m _ c v o r t y z A G⟩
theorem Bu{k:Nat}{e:Wf D (α×β) D}(g:EW X E T a e):EW X E T (.Subscript a (.Constant (.int 1) k p) pos) (λ(d:D)(f:β->D->Prop) b=>e d (λx c=>f x.2 c) b):=by refine tX g λI h i=>?_;refine⟨_,xh Nn h uw<|λ_ _=>rfl,λd F R j H f b Q s l m n=>i d F R j H _ b _ s l (λx c u o r t y z A B=>?_) n⟩;obtain⟨q,v,w,rfl,_,C,J,G⟩:=B;exact⟨_,_,_,w,rfl,rfl,yg.of C,rfl,m _ c w o r t y z A G⟩
theorem yM(f:EW X E T a g):EW X E T a (λ(d:D)(e:α->D->Prop) b=>g d (λx c=>∃y,x=some y/\e y c) b):=by refine tX f λz h i=>?_;refine⟨_,h,λd F R j H e b Q s k l m=>i d F R j H _ b _ s k (λx c u n o p r t v w=>?_) m⟩;obtain⟨y,rfl,q⟩:=r;exact l y c u n o p q t v w.2
class NV(α:Type)[Rep α]:Prop where
 nv:∀{R:Rg} {H:Hp} {x:α} {v:V},rp R H x v->v≠.vC
instance:NV Int:=⟨λh z=>by have h:_=_:=h;rw[h] at z;cases z⟩
instance:NV (α×β):=⟨λh z=>by obtain⟨a,u,w,e,_⟩:=h;rw[e] at z;cases z⟩
theorem yy[NV α](g:EW X E T a h):EW X E T a (λ(d:D)(e:Option α->D->Prop) b=>h d (λx c=>e (some x) c) b):=by refine tX g λw i j=>?_;exact⟨_,i,λd F R k H e b Q s l m n=>j d F R k H _ b _ s l (λx c u o p q r t v f=>m (some x) c u o p q r t v ⟨NV.nv f,f⟩) n⟩
theorem RC{k:Nat}:EW X E T (.Constant .none k pos) (λ(d:D)(a:Option α->D->Prop) _=>a none d) :=
 ⟨_,Ii,λd F R e H a f Q s b c _=>c none d _ F R H b (Ch.refl _ _ _ _) s rfl⟩
theorem xC{a:gA}{p:Pos}{wa:Wf D (D->List α) D}(hg:Gl X "len")(hm:X.mg "len"=none)(ha:ER X E T a wa)(hs:fG [a] X.env=(false,eval a X.env)::fG [] X.env:=by rfl) :
  EW X E T (.Call (.Name "len" p) [a] [] pos) (λ(d:D)(Kn:Int->D->Prop) Ke=>wa d (λg d1=>Kn ((g d1).length:Int) d1) Ke):=by
 refine tX ha λta a1 a2=>?_;refine⟨_,vW xl hg hm md (ue a1 uu hs) (he:=hs),λd F R σ H Kn Ke Q s hw kn ke=>a2 d F R σ H _ Ke _ s hw (λg d1 u F1 R1 H1 q1 c1 s1 r1=>?_) ke⟩;obtain⟨q,us,rfl,h1,h2⟩:=r1 d1 F1 R1 H1 (Ch.refl _ _ _ _) s1;refine⟨_,_,rfl,.inl<|vn.of h1,kn _ d1 _ F1 R1 H1 q1 c1 s1 ?_⟩;show V.int _=V.int _;rw[Paired.length h2]
end
def AL(X:Cx)(E:XK)(T:ci)(es:List gA){D α:Type}[Sls D][Rep α](w:Wf D (List α) D):Prop :=
 ∃t,PA X es t/\∀(d:D)(F R:Rg)(σ:St)(H:Hp)(Kn:List α->D->Prop)(Ke:ci->D->Prop)(Q:List V->Hp->Prop),ve T F R H d σ->w d Kn Ke ->
  (∀x d' vs F' R' H',Kn x d'->Ch T F R H F' R' H'->ve T F' R' H' d' σ->Paired (rp R' H') x vs->vs.length=es.length->Q vs H') ->
  (∀C y d' F' R' H',Ke C d'->Ch T F R H F' R' H'->ve T F' R' H' d' σ->E (.ref C) (some y) H')->t σ H Q
theorem ve.vals{T:ci}{D:Type}[Sls D]{d:D}{σ:St}{F R F' R':Rg}{H H':Hp}(s:ve T F R H d σ)(c:Ch T F R H F' R' H'){α:Type}[Rep α]{x:List α}{v:List V}(h:Paired (rp R H) x v):Paired (rp R' H') x v :=
 vh (c.ext.wide λa z=>z.elim (s.sub a) λq=>by rw[q];exact s.uQ) h
section
variable{X:Cx}{E:XK}{T:ci}{D:Type}[Sls D]{pos:Pos}{α β γ:Type}[Rep α][Rep β][Rep γ]
theorem uq:AL X E T [] (λ(d:D)(a:List α->D->Prop) _=>a [] d) :=
 ⟨_,uu,λd F R e H a f Q s b c _=>c [] d [] F R H b (Ch.refl _ _ _ _) s .nil rfl⟩
theorem uc{b:List gA}{i:Wf D α D}{j:Wf D (List α) D}(r:EW X E T e i)(t:AL X E T b j)(v:fG (e::b) X.env=(false,eval e X.env)::fG b X.env:=by rfl) :
  AL X E T (e::b) (λd l a=>i d (λx g=>j g (λm h=>l (x::m) h) a) a):=by
 refine tX r λta w z=>?_;refine tX t λtr A B=>?_;refine⟨_,ue w A v,λd F R n H l a Q s G I o=>?_⟩;refine z d F R n H _ a _ s G (λx g u J K L M p f N=>?_) o;refine B g J K n L _ a _ f M (λm h O P S U V q W Y Z=>?_) λC y d' F' R' H' k c s'=>o C y d' F' R' H' k (Ch.trans s f.tab p c) s';exact I _ h (u::O) P S U V (Ch.trans s f.tab p q) W (.cons (f.val q N) Y) (by rw[gk,gk,Z])
theorem ur(h:AL X E T b w)(g:b.length<=fK:=by decide):EO X E T (.List b pos) (λ(d:D)(c:OL α->D->Prop) a=>w d (λe i=>c ⟨e⟩ i) a):=by refine tX h λt j k=>?_;refine⟨_,Ni j,λd F R l H c a Q s m n o=>k d F R l H _ a _ s m (λe q I r J K u v f x y=>⟨by rw[y];exact g,λp z=>?_⟩) o⟩;refine ux (wF f z x) λA B C G=>?_;exact n _ q _ _ r A _ u (Ch.trans s f.tab v B) C G
theorem vN{r}(t:EW X E T a w)(z:EW X E T b A)
 (B:fG [a,b] X.env=(false,eval a X.env)::fG [b] X.env:=by rfl) (G:fG [b] X.env=(false,eval b X.env)::fG [] X.env:=by rfl) :
    EW X E T (.Tuple [a,b] r pos) (λ(d:D)(l:α×β->D->Prop) e=>w d (λx h=>A h (λy i=>l (x,y) i) e) e):=by
  refine tX t λta I J=>?_
  refine tX z λtb K L=>?_
  refine⟨_,Nh<|ue I (ue K uu G) B,λd F R m H l e Q s M N n=>?_⟩
  refine J d F R m H _ e _ s M (λx h u O P S U o f V=>?_) n
  refine L h O P m S _ e _ f U (λy i v W Y H2 Z q g r2=>⟨(by show 2<=fK;decide),λp hp=>?_⟩) λC y d' F' R' H' k c s'=>n C y d' F' R' H' k (Ch.trans s f.tab o c) s'
  refine yi (g.new (.tup [u,v]) hp) λs3 j n3=>?_
  exact N _ i _ W Y _ Z (Ch.trans s f.tab o<|Ch.trans f g.tab q j) s3 ⟨p,u,v,rfl,n3,tZ,g.val j<|f.val q V,g.val j r2⟩
theorem wR{R:Rg}{H:Hp}:∀{xs ys:List α} {us vs:List V},Paired (rp R H) xs us->Paired (rp R H) ys vs->Paired (rp R H) (xs++ys) (us++vs):=by
 intro _ _ _ _ z s
 induction z with
 | nil=>exact s
 | cons h t ih=>exact .cons h ih
theorem Bv(J:ER X E T a K)(L:ER X E T b M) :
  EO X E T (.BinOp a .Add b pos) (λ(d:D)(n:OL α->D->Prop) f=>K d (λg j=>M j (λk e=>(g e).length+(k e).length<=fK/\n ⟨g e++k e⟩ e) f) f):=by
 refine tX J λta N O=>?_;refine tX L λtb P S=>?_;refine⟨_,vU UZ N P,λd F R o H n f Q s U V t=>?_⟩;refine O d F R o H _ f _ s U (λg j u W Y Z q1 w h r1=>?_) t;refine S j W Y o Z _ f _ h q1 (λk e v l x z A B i r2=>?_) λC y d' F' m H' k c s'=>t C y d' F' m H' k (Ch.trans s h.tab w c) s';obtain⟨p,us,rfl,h1,G⟩:=r1 e l x z B i;obtain⟨q,vs,rfl,k1,I⟩:=r2 e l x z (Ch.refl _ _ _ _) i;refine⟨p,q,us,vs,rfl,rfl,h1,k1,by rw[<- Paired.length G,<- Paired.length I];exact A.1,λr hr=>?_⟩;refine ux (wF i hr<|wR G I) λm c3 s3 n3=>?_;exact V _ e _ _ l m _ A.2 (Ch.trans s h.tab w<|Ch.trans h i.tab B c3) s3 n3
theorem Fi(j:Gl X "list")(k:X.mg "list"=none)(m:ER X E T a n)(f:fG [a] X.env=(false,eval a X.env)::fG [] X.env:=by rfl) :
  EO X E T (.Call (.Name "list" p) [a] [] pos) (λ(d:D)(h:OL α->D->Prop) c=>n d (λg b=>h ⟨g b⟩ b) c):=by
 refine tX m λO o r=>?_;refine⟨_,wD xm j k jw (ue o uu f) (he:=f),λd F R t H h c Q s v w x=>r d F R t H _ c _ s v (λg b u i y z A B e C=>?_) x⟩;obtain⟨q,P,rfl,G,I⟩:=C b i y z (Ch.refl _ _ _ _) e;refine⟨_,_,rfl,.inl<|vn.of G,λl J=>?_⟩;refine ux (wF e J I) λK L M N=>?_;exact w _ b _ _ i K _ A (Ch.trans s e.tab B L) M N
def ins(x:Int):List Int->List Int
 | []=>[x]
 | y::r=>if x<=y then x::y::r else y::ins x r
def Am:List Int->List Int
 | []=>[]
 | x::r=>ins x<|Am r
theorem zd(x:Int):∀r:List Int,(ins x r).Perm (x::r)
 | []=>ni _
 | y::r=>by
  unfold ins;split
  ·exact ni _
  ·exact((zd x r).cons y).trans<|List.Perm.swap x y r
theorem wg:∀r:List Int,(Am r).Perm r
 | []=>ni _
 | x::r=>(zd x<|Am r).trans<|(wg r).cons x
set_option tactic.hygienic true in
theorem Fj(x:Int):∀r:List Int,r.Pairwise (·<=·)->(ins x r).Pairwise (·<=·)
 | [],_=>iC _ _
 | y::r,h=>by
  unfold ins;have b:=List.pairwise_cons.mp h;split
  ·rename_i a
   refine List.pairwise_cons.mpr ⟨λz c=>?_,h⟩;rcases List.mem_cons.mp c with e|e
   ·rw[e];exact a
   ·exact Int.le_trans a<|b.1 z e
  ·rename_i a
   refine List.pairwise_cons.mpr ⟨λz c=>?_,Fj x r b.2⟩;rcases List.mem_cons.mp ((zd x r).mem_iff.mp c) with e|e
   ·rw[e];lia
   ·exact b.1 z e
theorem Ct:∀r:List Int,(Am r).Pairwise (·<=·)
 | []=>gx
 | x::r=>Fj x _<|Ct r
theorem zF:∀{a b:List Int},a.Perm b->a.Pairwise (·<=·)->b.Pairwise (·<=·)->a=b
 | [],b,p,_,_=>(List.Perm.nil_eq p)
 | x::a,[],p,_,_=>fY p.length_eq q0o
 | x::a,y::b,p,c,d=>by
  have e:x=y:=by
   have f:x∈y::b:=p.mem_iff.mp fM;have g:y∈x::a:=p.mem_iff.mpr fM;rcases List.mem_cons.mp f with q|q
   ·exact q
   ·rcases List.mem_cons.mp g with z|z
    ·exact z.symm
    ·have:=(List.pairwise_cons.mp d).1 x q;have:=(List.pairwise_cons.mp c).1 y z
     lia
  subst e;rw[zF p.cons_inv (List.pairwise_cons.mp c).2 (List.pairwise_cons.mp d).2]
theorem Bw{a:List Int}(p:a.Perm b)(h:a.Pairwise (·<=·)):a=Am b:=zF (p.trans (wg b).symm) h<|Ct b
theorem paired_ints{R:Rg}{H:Hp}:∀{xs:List Int} {vs:List V},Paired (rp R H) xs vs->vs=xs.map V.int:=by
 intro _ _ z
 induction z with
 | nil=>rfl
 | cons h t ih=>rw[show _=V.int _ from h,ih];rfl
theorem wY{R:Rg}{H:Hp}:∀xs:List Int,Paired (rp R H) xs (xs.map V.int)
 | []=>.nil
 | x::r=>.cons (rfl:rp R H x (V.int x))<|wY r
theorem Bx{a:gA}{p:Pos}{wa:Wf D (D->List Int) D}(hg:Gl X "sorted")(hm:X.mg "sorted"=none)(ha:ER X E T a wa)(hs:fG [a] X.env=(false,eval a X.env)::fG [] X.env:=by rfl) :
  EO X E T (.Call (.Name "sorted" p) [a] [] pos) (λ(d:D)(Kn:OL Int->D->Prop) Ke=>wa d (λg d1=>(g d1).length<64/\Kn ⟨Am<|g d1⟩ d1) Ke):=by
 refine tX ha λta a1 a2=>?_;refine⟨_,vW Fe hg hm jj (ue a1 uu hs) (he:=hs),λd F R σ H Kn Ke Q s hw kn ke=>a2 d F R σ H _ Ke _ s hw (λg d1 u F1 R1 H1 q1 c1 s1 r1=>?_) ke⟩;obtain⟨q,us,rfl,h1,h2⟩:=r1 d1 F1 R1 H1 (Ch.refl _ _ _ _) s1;refine⟨_,g d1,rfl,vn.of (by rw[h1,paired_ints h2]),q1.1,λl ns hl pn sn=>?_⟩;rw[Bw pn sn];refine ux (wF s1 hl<|wY (R:=R1) (H:=H1)<|Am<|g d1) λR' c3 s3 n3=>?_;exact kn _ d1 _ _ F1 R' _ q1.2 (Ch.trans s s1.tab c1 c3) s3 n3
def D3{α:Type}(a:List α)(b c:Option Int):List α:=(a.drop<|HT.v6 a.length 0 b).take<|HT.v6 a.length a.length c-HT.v6 a.length 0 b
theorem Hn{R:Rg}{H:Hp}:∀{xs:List α} {vs:List V} (n:Nat),Paired (rp R H) xs vs->Paired (rp R H) (xs.drop n) (vs.drop n):=by
 intro _ _ n z
 induction z generalizing n with
 | nil=>cases n<;>exact .nil
 | cons h t ih=>cases n with
  | zero=>exact .cons h t
  | succ k=>exact ih k
theorem B3{R:Rg}{H:Hp}:∀{xs:List α} {vs:List V} (n:Nat),Paired (rp R H) xs vs->Paired (rp R H) (xs.take n) (vs.take n)
 | _,_,0,_=>.nil
 | _,_,_+1,.nil=>.nil
 | _,_,n+1,.cons r t=>.cons r<|B3 n t
theorem C9{R:Rg}{H:Hp}{xs:List α}{vs:List V}(h:Paired (rp R H) xs vs)(lo hi:Option Int):Paired (rp R H) (D3 xs lo hi) (CS vs lo hi):=by unfold D3 CS;rw[<- Paired.length h];exact B3 _<|Hn _ h
def OW(X:Cx)(E:XK)(T:ci)(e:Option gA){D:Type}[Sls D](w:Wf D (Option Int) D):Prop :=
 ∃t,PO X e t/\∀(d:D)(F R:Rg)(g:St)(H:Hp)(h:Option Int->D->Prop)(i:ci->D->Prop)(Q:Option Int->Hp->Prop),ve T F R H d g->w d h i ->
  (∀x b c f a,h x b->Ch T F R H c f a->ve T c f a b g->Q x a) ->
  (∀C y b c f a,i C b->Ch T F R H c f a->ve T c f a b g->E (.ref C) (some y) a)->t g H Q
theorem Fl:OW X E T none (λ(d:D) a _=>a none d):=⟨_,Ci,λd F R e H a f Q s b c _=>c none d F R H b (Ch.refl _ _ _ _) s⟩
theorem Fo(h:EW X E T e w):OW X E T (some e) (λ(d:D) b a=>w d (λi c=>b (some i) c) a):=by refine tX h λt f g=>?_;exact⟨_,Cj f,λd F R j H b a Q s k l m=>g d F R j H _ a _ s k (λx n u o p q r v y z=>⟨x,z,l _ n o p q r v y⟩) m⟩
theorem Ho{G:Option gA}(L:ER X E T a M)(N:OW X E T G O)(P:OW X E T S U) :
  EO X E T (.Subscript a (.Slice G S none p2) pos) (λ(d:D)(I:OL α->D->Prop) b=>M d (λg m=>O m (λl n=>U n (λh f=>I ⟨D3 (g f) l h⟩ f) b) b) b):=by
 refine tX L λta V W=>?_;refine tX N λtl Y Z=>?_;refine tX P λth h1 h2=>?_;refine⟨_,yY Ck V Y h1,λd F R o H I b Q s hw kn r=>?_⟩;refine W d F R o H _ b _ s hw (λg m u F1 R1 H1 q1 t e r1=>?_) r;refine Z m F1 R1 o H1 _ b _ e q1 (λl n F2 R2 H2 q2 v i=>?_) λC y w x j z k c A=>r C y w x j z k (Ch.trans s e.tab t c) A;refine h2 n F2 R2 o H2 _ b _ i q2 (λh f J R3 H3 q3 K B=>?_) λC y w x j z k c A=>r C y w x j z k (Ch.trans s e.tab t<|Ch.trans e i.tab v c) A;obtain⟨q,us,rfl,k1,k2⟩:=r1 f J R3 H3 (Ch.trans e i.tab v K) B;refine⟨q,us,rfl,vn.of k1,λp hp=>?_⟩;refine ux (wF B hp<|C9 k2 l h) λj c4 s4 n4=>?_;exact kn _ f _ _ J j _ q3 (Ch.trans s e.tab t<|Ch.trans e i.tab v<|Ch.trans i B.tab K c4) s4 n4
def Cm(X:Cx)(op:qF)(g:α->β->Bool):Prop:=∃r,zO X (iB op) r/\∀{R:Rg} {H:Hp} {x:α} {y:β} {u v:V} {Q:VK},rp R H x u->rp R H y v->Q (.bl<|g x y) H->r u v H Q
def Yw(X:Cx)(op:qF)(g:List α->List β->Bool):Prop:=∃r,zO X (iB op) r/\∀{R:Rg} {H:Hp} {x:List α} {y:List β} {p q:ci} {us vs:List V} {Q:VK},H p=some (.lst us)->Paired (rp R H) x us->H q=some (.lst vs)->Paired (rp R H) y vs->Q (.bl<|g x y) H->r (.ref p) (.ref q) H Q
def ZF(X:Cx)(op:qF)(g:α->List β->Bool):Prop:=∃r,zO X (iB op) r/\∀{R:Rg} {H:Hp} {x:α} {y:List β} {q:ci} {u:V} {vs:List V} {Q:VK},rp R H x u->H q=some (.lst vs)->Paired (rp R H) y vs->Q (.bl<|g x y) H->r u (.ref q) H Q
theorem Vq(a:zO X (iB op) (QE λi j=>.bl<|g i j)):Cm X op g:=⟨_,a,λb c k=>⟨_,_,b,c,k⟩⟩
theorem Ob:Cm X .Lt (λi j:Int=>decide<|i<j):=Vq TN
theorem Ua:Cm X .Gt (λi j:Int=>decide<|j<i):=Vq TR
theorem Ub:Cm X .GtE (λi j:Int=>decide<|j<=i):=Vq WH
theorem zY[DecidableEq α][IY α]:Cm X .Eq (λx y:α=>decide<|x=y):=⟨_,WF,λa b k=>⟨(IY.sc a b).1,by rw[(IY.sc a b).2];exact k⟩⟩
theorem Oc[DecidableEq α][IY α]:Cm X .NotEq (λx y:α=>!decide (x=y)):=⟨_,WG,λa b k=>⟨(IY.sc a b).1,by rw[(IY.sc a b).2];exact k⟩⟩
theorem Vs:Cm X .Is (λ(x:Option α)(_:Unit)=>x.isNone):=⟨_,UP,λa b k=>⟨b,by rw[KC a];exact k⟩⟩
theorem KI:Cm X .IsNot (λ(x:Option α)(_:Unit)=>!x.isNone):=⟨_,QT,λa b k=>⟨b,by rw[KC a];exact k⟩⟩
theorem yz[DecidableEq α][Dat α](a:Dat.dp α<=64)(x:α):qW (Dat.dat x)=true:=by show (nS (Dat.dat x)&&decide ((Dat.dat x).depth<=64))=true;rw[gK];exact⟨Dat.lay x,decide_eq_true<|gZ (Dat.dep x) a⟩
theorem I0[DecidableEq α][Dat α](b:X.A.units+64<ju)(a:Dat.dp (List α)<=64:=by decide):Yw X .Eq (λx y:List α=>decide (x=y)):=⟨_,Ve b,λ{R H x y p q g h Q} c d e f k=>⟨_,_,Eu.lst (vn.of c) (AG d),Eu.lst (vn.of e) (AG f),yz a x,yz a y,Dat.nm x y,by
 have:=Dat.sm x y
 rw[show jE (.list (x.map Dat.dat)) (.list (y.map Dat.dat))=decide (x=y) from this];exact k⟩⟩
theorem Fp[DecidableEq α][Dat α](b:X.A.units+64<ju)(a:Dat.dp (List α)<=64:=by decide):Yw X .NotEq (λx y:List α=>!decide (x=y)):=⟨_,Vf b,λ{R H x y p q g h Q} c d e f k=>⟨_,_,Eu.lst (vn.of c) (AG d),Eu.lst (vn.of e) (AG f),yz a x,yz a y,Dat.nm x y,by
 have:=Dat.sm x y
 rw[show jE (.list (x.map Dat.dat)) (.list (y.map Dat.dat))=decide (x=y) from this];exact k⟩⟩
theorem AH(k:Int)(a:List Int):Yp (.int k) (a.map V.int)=decide (k∈a):=by
 unfold Yp;rw[List.any_map,kG,tS,gS];constructor
 ·rintro⟨y,b,e⟩;have:y=k:=by simpa[QF] using e
  rw[<- this];exact b
 ·intro h;exact⟨k,h,by simp[QF]⟩
theorem zH(a:List Int):(a.map V.int).all Av=true:=by rw[List.all_map,m6];intro x _;rfl
theorem Xj:ZF X .In (λ(x:Int)(ys:List Int)=>decide (x∈ys)):=⟨_,Ek,λ{R H x y q u vs Q} h1 h2 h3 k=>by
 have h1:u=V.int x:=h1;subst h1;refine⟨q,vs,rfl,.inl<|vn.of h2,rfl,by rw[paired_ints h3];exact zH y,?_⟩;rw[paired_ints h3,AH]
 exact k⟩
theorem Hq:ZF X .NotIn (λ(x:Int)(ys:List Int)=>!decide (x∈ys)):=⟨_,Aw,λ{R H x y q u vs Q} h1 h2 h3 k=>by
 have h1:u=V.int x:=h1;subst h1;refine⟨q,vs,rfl,.inl<|vn.of h2,rfl,by rw[paired_ints h3];exact zH y,?_⟩;rw[paired_ints h3,AH]
 exact k⟩
theorem tw_cm{a b:gA}{op:qF}{g:α->β->Bool}{wa:Wf D α D}{wb:Wf D β D}(C:Cm X op g)(ha:EW X E T a wa)(hb:EW X E T b wb)(hm:ic op b=false) :
  TW X E T (.Compare a [op] [b] pos) (λ(d:D) Kn Ke=>wa d (λx d1=>wb d1 (λy d2=>Kn (g x y) d2) Ke) Ke):=by
 refine tX C λr o1 o2=>?_;refine tX ha λta a1 a2=>?_;refine tX hb λtb b1 b2=>?_;refine⟨_,wQ o1 a1 b1 hm,λd F R σ H Kn Ke Q s hw kn ke=>?_⟩;refine a2 d F R σ H _ Ke _ s hw (λx d1 u F1 R1 H1 q1 c1 s1 r1=>?_) ke;refine b2 d1 F1 R1 σ H1 _ Ke _ s1 q1 (λy d2 v F2 R2 H2 q2 c2 s2 r2=>?_) λC y d' F' R' H' k c s'=>ke C y d' F' R' H' k (Ch.trans s s1.tab c1 c) s';exact o2 (s1.val c2 r1) r2 ⟨_,rfl,kn _ d2 F2 R2 H2 q2 (Ch.trans s s1.tab c1 c2) s2⟩
theorem tw_cmL{a b:gA}{op:qF}{g:List α->List β->Bool}{wa:Wf D (D->List α) D}{wb:Wf D (D->List β) D}(C:Yw X op g)(ha:ER X E T a wa)(hb:ER X E T b wb)(hm:ic op b=false) :
  TW X E T (.Compare a [op] [b] pos) (λ(d:D) Kn Ke=>wa d (λx d1=>wb d1 (λy d2=>Kn (g (x d2)<|y d2) d2) Ke) Ke):=by
 refine tX C λr o1 o2=>?_;refine tX ha λta a1 a2=>?_;refine tX hb λtb b1 b2=>?_;refine⟨_,wQ o1 a1 b1 hm,λd F R σ H Kn Ke Q s hw kn ke=>?_⟩;refine a2 d F R σ H _ Ke _ s hw (λx d1 u F1 R1 H1 q1 c1 s1 r1=>?_) ke;refine b2 d1 F1 R1 σ H1 _ Ke _ s1 q1 (λy d2 v F2 R2 H2 q2 c2 s2 r2=>?_) λC y d' F' R' H' k c s'=>ke C y d' F' R' H' k (Ch.trans s s1.tab c1 c) s';obtain⟨p,us,rfl,h1,h2⟩:=r1 d2 F2 R2 H2 c2 s2;obtain⟨q,vs,rfl,k1,k2⟩:=r2 d2 F2 R2 H2 (Ch.refl _ _ _ _) s2;exact o2 h1 h2 k1 k2 ⟨_,rfl,kn _ d2 F2 R2 H2 q2 (Ch.trans s s1.tab c1 c2) s2⟩
theorem Vt{a b:gA}{op:qF}{g:List α->List β->Bool}{wa:Wf D (D->List α) D}{wb:Wf D (D->List β) D}(C:Yw X op g)(ha:ER X E T a wa)(hb:ER X E T b wb)(hm:ic op b=false) :
  EW X E T (.Compare a [op] [b] pos) (λ(d:D)(Kn:Bool->D->Prop) Ke=>wa d (λx d1=>wb d1 (λy d2=>Kn (g (x d2)<|y d2) d2) Ke) Ke):=by
 refine tX C λr o1 o2=>?_;refine tX ha λta a1 a2=>?_;refine tX hb λtb b1 b2=>?_;refine⟨_,QU o1 a1 b1 hm,λd F R σ H Kn Ke Q s hw kn ke=>?_⟩;refine a2 d F R σ H _ Ke _ s hw (λx d1 u F1 R1 H1 q1 c1 s1 r1=>?_) ke;refine b2 d1 F1 R1 σ H1 _ Ke _ s1 q1 (λy d2 v F2 R2 H2 q2 c2 s2 r2=>?_) λC y d' F' R' H' k c s'=>ke C y d' F' R' H' k (Ch.trans s s1.tab c1 c) s';obtain⟨p,us,rfl,h1,h2⟩:=r1 d2 F2 R2 H2 c2 s2;obtain⟨q,vs,rfl,k1,k2⟩:=r2 d2 F2 R2 H2 (Ch.refl _ _ _ _) s2;exact o2 h1 h2 k1 k2<|kn _ d2 _ F2 R2 H2 q2 (Ch.trans s s1.tab c1 c2) s2 rfl
theorem tw_cmI{a b:gA}{op:qF}{g:α->List β->Bool}{wa:Wf D α D}{wb:Wf D (D->List β) D}(C:ZF X op g)(ha:EW X E T a wa)(hb:ER X E T b wb)(hm:ic op b=false) :
  TW X E T (.Compare a [op] [b] pos) (λ(d:D) Kn Ke=>wa d (λx d1=>wb d1 (λy d2=>Kn (g x<|y d2) d2) Ke) Ke):=by
 refine tX C λr o1 o2=>?_;refine tX ha λta a1 a2=>?_;refine tX hb λtb b1 b2=>?_;refine⟨_,wQ o1 a1 b1 hm,λd F R σ H Kn Ke Q s hw kn ke=>?_⟩;refine a2 d F R σ H _ Ke _ s hw (λx d1 u F1 R1 H1 q1 c1 s1 r1=>?_) ke;refine b2 d1 F1 R1 σ H1 _ Ke _ s1 q1 (λy d2 v F2 R2 H2 q2 c2 s2 r2=>?_) λC y d' F' R' H' k c s'=>ke C y d' F' R' H' k (Ch.trans s s1.tab c1 c) s';obtain⟨q,vs,rfl,k1,k2⟩:=r2 d2 F2 R2 H2 (Ch.refl _ _ _ _) s2;exact o2 (s1.val c2 r1) k1 k2 ⟨_,rfl,kn _ d2 F2 R2 H2 q2 (Ch.trans s s1.tab c1 c2) s2⟩
theorem tw_val{w:Wf D Bool D}(h:EW X E T e w)(b:∀a,pK e X.env a=(do let v <- a;lw e.pos;jz [v] (sZ v)):=by intro _;rfl):TW X E T e w:=by refine tX h λt c f=>?_;exact⟨_,Uw c b,λd F R g H A i Q s j k l=>f d F R g H _ i _ s j (λx m u n o p q r y z=>⟨x,z,k _ m n o p q r y⟩) l⟩
theorem tw_not{w:Wf D Bool D}(h:TW X E T e w):TW X E T (.UnaryOp .Not e pos) (λd f a=>w d (λb c=>f (!b) c) a):=by refine tX h λt g i=>?_;exact⟨_,Uy g,λd F R j H f a Q s k l m=>i d F R j H _ a _ s k (λx c n o p q r u=>l _ c n o p q r u) m⟩
def WW(X:Cx)(E:XK)(T:ci)(e:gA){D:Type}[Sls D](w:Wf D Bool D):Prop :=
 ∃t,PW X e t/\∀(d:D)(F R:Rg)(g:St)(H:Hp)(h:Bool->D->Prop)(i:ci->D->Prop)(Q:Bool->Hp->Prop),ve T F R H d g->w d h i ->
  (∀x b c f a,h x b->Ch T F R H c f a->ve T c f a b g->Q x a) ->
  (∀C y b c f a,i C b->Ch T F R H c f a->ve T c f a b g->E (.ref C) (some y) a)->t g H Q
theorem tw_w{w:Wf D Bool D}(h:WW X E T e w):TW X E T e w:=tX h λt a b=> ⟨t,a.pt,b⟩
theorem Fq{w:Wf D Bool D}(h:TW X E T a w):WW X E T (.BoolOp .And [a] pos) w:=tX h λt b c=> ⟨_,QQ b,c⟩
theorem Od{w:Wf D Bool D}(h:TW X E T a w):WW X E T (.BoolOp .Or [a] pos) w:=tX h λt b c=> ⟨_,M3 b,c⟩
theorem Ja{e:List gA}{l m:Wf D Bool D}(v:TW X E T a l)(w:WW X E T (.BoolOp .And (b::e) pos) m):WW X E T (.BoolOp .And (a::b::e) pos) (λd i f=>l d (λx g=>if x=true then m g i f else i false g) f):=by
 refine tX v λZ z A=>?_;refine tX w λtb B G=>?_;refine⟨_,Ux z B,λd F R n H i f Q s I o p=>?_⟩;refine A d F R n H _ f _ s I (λx g q r t u j h=>?_) p
 cases x with
 | true=>exact G g q r n t _ f _ h u (λy J K L M N O P=>o _ J K L M N (Ch.trans s h.tab j O) P) λC y S U V W k c Y=>p C y S U V W k (Ch.trans s h.tab j c) Y
 | false=>exact o _ g q r t u j h
theorem Uc{e:List gA}{l m:Wf D Bool D}(v:TW X E T a l)(w:WW X E T (.BoolOp .Or (b::e) pos) m):WW X E T (.BoolOp .Or (a::b::e) pos) (λd i f=>l d (λx g=>if x=true then i true g else m g i f) f):=by
 refine tX v λZ z A=>?_;refine tX w λtb B G=>?_;refine⟨_,TJ z B,λd F R n H i f Q s I o p=>?_⟩;refine A d F R n H _ f _ s I (λx g q r t u j h=>?_) p
 cases x with
 | false=>exact G g q r n t _ f _ h u (λy J K L M N O P=>o _ J K L M N (Ch.trans s h.tab j O) P) λC y S U V W k c Y=>p C y S U V W k (Ch.trans s h.tab j c) Y
 | true=>exact o _ g q r t u j h
theorem Cu{op}{w:Wf D Bool D}(h:EW X E T a w):EW X E T (.BoolOp op [a] pos) w:=tX h λt b c=> ⟨_,Uz b,c⟩
theorem Jb{e:List gA}(t:EW X E T a w)(z:EW X E T (.BoolOp .And (b::e) pos) A):EW X E T (.BoolOp .And (a::b::e) pos) (λ(d:D)(i:Bool->D->Prop) f=>w d (λx g=>if x=true then A g i f else i false g) f):=by
 refine tX t λta B G=>?_;refine tX z λtb I J=>?_;refine⟨_,UA B I,λd F R l H i f Q s K m n=>?_⟩;refine G d F R l H _ f _ s K (λx g u o p q r j h L=>⟨x,L,?_⟩) n
 cases x with
 | true=>exact J g o p l q _ f _ h r (λy M v N O P S U V W=>m _ M v N O P S (Ch.trans s h.tab j U) V W) λC y Y Z R' H' k c s'=>n C y Y Z R' H' k (Ch.trans s h.tab j c) s'
 | false=>exact m _ g _ o p q r j h rfl
theorem Xk{e:List gA}(t:EW X E T a w)(z:EW X E T (.BoolOp .Or (b::e) pos) A):EW X E T (.BoolOp .Or (a::b::e) pos) (λ(d:D)(i:Bool->D->Prop) f=>w d (λx g=>if x=true then i true g else A g i f) f):=by
 refine tX t λta B G=>?_;refine tX z λtb I J=>?_;refine⟨_,Wy B I,λd F R l H i f Q s K m n=>?_⟩;refine G d F R l H _ f _ s K (λx g u o p q r j h L=>⟨x,L,?_⟩) n
 cases x with
 | false=>exact J g o p l q _ f _ h r (λy M v N O P S U V W=>m _ M v N O P S (Ch.trans s h.tab j U) V W) λC y Y Z R' H' k c s'=>n C y Y Z R' H' k (Ch.trans s h.tab j c) s'
 | true=>exact m _ g _ o p q r j h rfl
theorem Vu(h:EW X E T a w):EW X E T (.UnaryOp .Not a pos) (λ(d:D)(f:Bool->D->Prop) c=>w d (λb e=>f (!b) e) c):=by refine tX h λt g i=>?_;exact⟨_,UB g,λd F R j H f c Q s k l m=>i d F R j H _ c _ s k (λx e u n o p q r v y=>⟨x,y,l _ e _ n o p q r v rfl⟩) m⟩
end
variable[L2.GX]
class RD(τ:Type)[Ow τ]:Prop where
 fr:∀{F R L:Rg} {H:Hp} {x:τ} {v:Option V},sl F R H x v->(∀a,L a->∃us,H a=some (.lst us))->sl F (λa=>R a\/L a) H x v
class Jc(α:Type)[Rep α]:Prop where
 no:∀{R L:Rg} {H:Hp} {x:α} {v:V},rp R H x v->(∀a,L a->∃us,H a=some (.lst us))->rp (λa=>R a\/L a) H x v
instance:Jc Int:=⟨λh _=>h⟩
instance:Jc Bool:=⟨λh _=>h⟩
instance{α β:Type}[Rep α][Rep β][Jc α][Jc β]:Jc (α×β):=⟨λ{R L H x v} h k=>by
 obtain⟨a,u,w,h1,h2,h3,h4,h5⟩:=h
 exact⟨a,u,w,h1,λz=>z.elim h2 λq=>(by obtain⟨us,e⟩:=k a q;rw[h3] at e;cases e),h3,Jc.no h4 k,Jc.no h5 k⟩⟩
theorem KJ{α:Type}[Rep α][Jc α]{R L:Rg}{H:Hp}(k:∀a,L a->∃us,H a=some (.lst us)):∀{xs:List α} {vs:List V},Paired (rp R H) xs vs->Paired (rp (λa=>R a\/L a) H) xs vs:=by
 intro _ _ z
 induction z with
 | nil=>exact .nil
 | cons h t ih=>exact .cons (Jc.no h k) ih
instance{α:Type}[Rep α][Jc α]:Jc (Tp α):=⟨λ{R L H x v} h k=>by
 refine vt h λa vs h1 h2 h3 h4=>?_
 exact⟨a,vs,h1,λz=>z.elim h2 λq=>(by obtain⟨us,e⟩:=k a q;rw[h3] at e;cases e),h3,KJ k h4⟩⟩
instance{α:Type}[Rep α][Jc α]:RD α:=⟨λ{F R L H x v} h k=>by
 obtain⟨h1,u,e,h2⟩:=h
 exact⟨h1,u,e,Jc.no h2 k⟩⟩
instance{α:Type}[Rep α][Jc α]:RD (OL α):=⟨λ{F R L H x v} h k=>by
 refine vt h λa vs h1 h2 h3 h4=>?_
 exact⟨a,vs,h1,h2,h3,KJ k h4⟩⟩
instance:RD Un:=⟨λh _=>h⟩
class Wn(P:Type)[Sls P]:Prop where
 fr:∀{F R L:Rg} {H:Hp} {x:P} {v:St},rel F R H x v->(∀a,L a->∃us,H a=some (.lst us))->rel F (λa=>R a\/L a) H x v
instance:Wn Unit:=⟨λh _=>h⟩
instance{τ P:Type}[Ow τ][Sls P][RD τ][Wn P]:Wn (τ×P):=⟨λh k=>by
 refine xH h λv σ' F1 F2 h1 h2 h3 h4=>?_
 exact⟨v,σ',F1,F2,h1,h2,RD.fr h3 k,Wn.fr h4 k⟩⟩
class Vv(P:Type)[Sls P]:Prop where
 ls:∀{F R:Rg} {H:Hp} {x:P} {v:St},rel F R H x v->∀a,F a->∃us,H a=some (.lst us)
instance:Vv Unit:=⟨λh a z=>fY z (h.2 a)⟩
instance{α P:Type}[Rep α][Sls P][Vv P]:Vv (OL α×P):=⟨λ{F R H x v} h a z=>by
 obtain⟨v,σ',F1,F2,h1,h2,⟨b,vs,k1,k2,k3,k4⟩,h4⟩:=h;rcases(h2.all a).mp z with q|q
 ·rw[(k2 a).mp q];exact⟨vs,k3⟩
 ·exact Vv.ls h4 a q⟩
abbrev Wo(R L:Rg):Rg:=λa=>R a/\¬L a
theorem By(R L:Rg)(H:Hp):Ext (λ_=>False) R H (Wo R L) H:=⟨λ_ _ _ h=>h,λa h=>.inl h.1⟩
theorem RE(h:∀a,L a->b a):Ext (λ_=>False) (Wo R L) H (Wo R b) H:=⟨λ_ _ _ h=>h,λa z=>.inl ⟨z.1,λq=>z.2<|h a q⟩⟩
theorem Sls.wk{D:Type}[Sls D]{F R R':Rg}{H:Hp}{d:D}{σ:St}(h:rel F R H d σ)(e:Ext (λ_=>False) R H R' H):rel F R' H d σ:=Sls.st h e (λ_ z=>z.elim)<|λ_ _ z=>z
theorem Ow.wk{τ:Type}[Ow τ]{F R R':Rg}{H:Hp}{d:τ}{σ:Option V}(h:sl F R H d σ)(e:Ext (λ_=>False) R H R' H):sl F R' H d σ:=Ow.st h e (λ_ z=>z.elim)<|λ_ _ z=>z
class Lb(Lc τ PO:Type)[Sls Lc][Ow τ][Sls PO]:Prop where
 fr:∀{F R L R0:Rg} {H:Hp} {x:τ} {v:Option V} {l:Lc} {us:St},rel L R0 H l us->sl F R H x v->sl F (λa=>R a\/L a) H x v
 fs:∀{F R L R0:Rg} {H:Hp} {x:PO} {v:St} {l:Lc} {us:St},rel L R0 H l us->rel F R H x v->rel F (λa=>R a\/L a) H x v
instance{Lc τ PO:Type}[Sls Lc][Ow τ][Sls PO][RD τ][Wn PO][Vv Lc]:Lb Lc τ PO:=⟨λh k=>RD.fr k (Vv.ls h),λh k=>Wn.fr k (Vv.ls h)⟩
theorem Oe{R L:Rg}{H:Hp}(h:∀a,¬L a):Ext (λ_=>False) R H (λa=>R a\/L a) H:=⟨λ_ _ _ h=>h,λa z=>z.elim .inl λq=>fY q<|h a⟩
instance(priority:=high){τ PO:Type}[Ow τ][Sls PO]:Lb Unit τ PO:=⟨λh k=>Ow.wk k (Oe h.2),λh k=>Sls.wk k (Oe h.2)⟩
structure Dd(F F1 F2 F3:Rg):Prop where
 all:∀a,F a↔F1 a\/F2 a\/F3 a
 GG:∀a,F1 a->F2 a->False
 Ic:∀a,F1 a->F3 a->False
 Ie:∀a,F2 a->F3 a->False
def Jd(X:Cx)(E:XK)(T:ci)(K:List gA){D P n B j:Type}[Sls D][Sls P][Sls n][Sls B][Sls j](k:B->j->n->D)(w:D->(P->B->j->Prop)->(ci->D->Prop)->Prop):Prop :=
 ∃t,PA X K t/\∀(d:D)(F R:Rg)(g:St)(H:Hp)(o:P->B->j->Prop)(q:ci->D->Prop)(Q:List V->Hp->Prop),ve T F R H d g->w d o q ->
  (∀p b l m r s u L h f a,o p b l->Ch T F R H h f a->Std T h f a->Dd h s u L->rel s (Wo f L) a p (m.map some)->rel u f a b g->rel L f a l r ->
   (∀v x z A G i c e I,rel z c e I (m.map some)->rel A c e v g->rel G c e x r->Dd i z A G->rel i c e (k v x I) g)->Q m a) ->
  (∀C y J h f a,q C J->Ch T F R H h f a->ve T h f a J g->E (.ref C) (some y) a)->t g H Q
section
variable{X:Cx}{E:XK}{T:ci}{D:Type}[Sls D]{pos:Pos}
theorem t6:Jd X E T [] (λ(b:D)(_:Unit)(_:Unit)=>b) (λ(d:D)(c:Unit->D->Unit->Prop) _=>c () d ()):=by refine⟨_,uu,λd F R m H c n Q s e f _=>?_⟩;exact f () d () [] [] (λ_=>False) F (λ_=>False) F R H e (Ch.refl _ _ _ _) s.Ib ⟨λa=>⟨λz=>.inr<|.inl z,λz=>z.elim (λq=>q.elim) λz=>z.elim id λq=>q.elim⟩,λ_ z=>z.elim,λ_ z=>z.elim,λ_ _ z=>z⟩ ⟨rfl,λ_ z=>z⟩ s.rel ⟨rfl,λ_ z=>z⟩ λo p r u v g h i w j k l t=>Sls.fq k λa=>⟨λz=>(t.all a).mpr<|.inr<|.inl z,λz=>((t.all a).mp z).elim (λq=>fY q<|j.2 a) λz=>z.elim id λq=>fY q<|l.2 a⟩
theorem ud{h:List gA}{n P o B a:Type}[Rep n][Sls P][Sls o][Sls B][Sls a]{f:B->a->o->D}{I:Wf D n D}{J:D->(P->B->a->Prop)->(ci->D->Prop)->Prop}
 (V:EW X E T e I) (W:Jd X E T h f J) (Y:fG (e::h) X.env=(false,eval e X.env)::fG h X.env:=by rfl) :
    Jd X E T (e::h) (λ(b:B)(l:a)(p:Un×o)=>f b l p.2) (λ(d:D)(K:n×P->B->a->Prop) g=>I d (λx q=>J q (λp b l=>K (x,p) b l) g) g):=by
  refine tX V λta Z a2=>?_
  refine tX W λtr b1 b2=>?_
  refine⟨_,ue Z b1 Y,λd F R M H K g Q s hw kn N=>?_⟩
  refine a2 d F R M H _ g _ s hw (λx q u F1 R1 H1 q1 O i r1=>?_) N
  refine b2 q F1 R1 M H1 _ g _ i q1 (λp b l S us r G2 L v j m q2 U s2 t2 h1 h2 hl k=>?_) λC y d' v j m k c s'=>N C y d' v j m k (Ch.trans s i.tab O c) s'
  refine kn (x,p) b l (u::S) us r G2 L v j m q2 (Ch.trans s i.tab O U) s2 t2 ⟨some u,S.map some,λ_=>False,r,rfl,two_nil r,⟨λ_ z=>z,u,rfl,Rep.st (i.val U r1)<|(By j L m).wide λ_ z=>z.elim⟩,h1⟩ h2 hl λb' l' L1 L2 L3 w A G p' h3 h4 h5 t=>?_
  refine xH h3 λv' aa M1 M2 z1 z2 z3 z4=>?_
  injection z1 with _ z5
  subst z5
  exact k b' l' L1 L2 L3 w A G p'.2 (Sls.fq z4<|two_eq z2 z3) h4 h5 t
theorem uJ{o:List gA}{i:Nat}{c O P w B g h:Type}[Ow c][Hs c][Sls O][Sls P][Sls w][Sls B][Sls g][Sls h]{j:B->h->w->D}{S:D->(P->B->h->Prop)->(ci->D->Prop)->Prop}
 [A0:At i D c O] [A:At i B c g] [U:Pt i g c B] (he:PE X (.Name x pos) (uH i)) (hr:Jd X E T o j S) (hs:fG (.Name x pos::o) X.env=(false,eval (.Name x pos) X.env)::fG o X.env:=by rfl) :
    Jd X E T (.Name x pos::o) (λ(b:g)(l:h)(p:c×w)=>j (U.put b p.1) l p.2) (λ(d:D)(V:c×P->g->h->Prop) y=>S d (λp b l=>V (A.get b,p) (A.hole b) l) y):=by
  refine tX hr λtr b1 b2=>?_
  refine⟨_,ue he b1 hs,λd F R σ H V y Q s hw kn ke=>?_⟩
  refine xU (A0.take s.rel) λv _ _ C _ G _=>?_
  obtain⟨u,rfl⟩:=Hs.has G
  refine⟨u,C,b2 d F R σ H _ y _ s hw (λp b l W us Y Z L F' R' H' q2 c2 s2 e h1 h2 hl k=>?_) ke⟩
  refine xU (A.take h2) λv' I M2 z1 r z3 z4=>?_
  rw[C] at z1
  cases z1
  have m1:∀a,I a->Z a:=λa m=>(r.all a).mpr<|.inl m
  have m2:∀a,M2 a->Z a:=λa m=>(r.all a).mpr<|.inr m
  refine kn (A.get b,p) (A.hole b) l (u::W) us (λa=>I a\/Y a) M2 L F' R' H' q2 c2 s2 ⟨λa=>?_,λa m n=>?_,λa m n=>?_,λa m n=>e.Ie a (m2 a m) n⟩ ⟨some u,W.map some,I,Y,rfl,⟨λ_=>Iff.rfl,λa m n=>e.GG a n<|m1 a m⟩,Ow.wk z3<|By R' L H',h1⟩ z4 hl λb' l' L1 L2 L3 J K M p' h3 h4 h5 t=>?_
  · rw[e.all, r.all]
    exact⟨λz=>z.elim (λq=>.inl<|.inr q) λz=>z.elim (λz=>z.elim (λq=>.inl<|.inl q) λq=>.inr<|.inl q) λq=>.inr<|.inr q,λz=>z.elim (λz=>z.elim (λq=>.inr<|.inl<|.inl q) .inl) λz=>z.elim (λq=>.inr<|.inl<|.inr q) λq=>.inr<|.inr q⟩
  · rcases m with m|m
    · exact r.xi a m n
    · exact e.GG a m<|m2 a n
  · rcases m with m|m
    · exact e.Ie a (m1 a m) n
    · exact e.Ic a m n
  · refine xH h3 λv' aa N N2 y1 f y3 y4 => ?_
    injection y1 with y5 y6
    subst y5;subst y6
    have tt:Cf (λa=>N a\/L2 a) N L2:=⟨λ_=>Iff.rfl,λa m n=>t.GG a ((f.all a).mpr<|.inl m) n⟩
    refine k _ l' N2 (λa=>N a\/L2 a) L3 J K M p'.2 y4 (Pt.same (A:=U) h4 C tt y3) h5 ⟨λa=>?_,λa m n=>?_,λa m n=>t.Ic a ((f.all a).mpr<|.inr m) n,λa m n=>?_⟩
    · rw[t.all, f.all]
      exact⟨λz=>z.elim (λz=>z.elim (λq=>.inr<|.inl<|.inl q) .inl) λz=>z.elim (λq=>.inr<|.inl<|.inr q) λq=>.inr<|.inr q,λz=>z.elim (λq=>.inl<|.inr q) λz=>z.elim (λz=>z.elim (λq=>.inl<|.inl q) λq=>.inr<|.inl q) λq=>.inr<|.inr q⟩
    · rcases n with n|n
      · exact f.xi a n m
      · exact t.GG a ((f.all a).mpr<|.inr m) n
    · rcases m with m|m
      · exact t.Ic a ((f.all a).mpr<|.inl m) n
      · exact t.Ie a m n
theorem vc{u:List gA}{i:Nat}{e S P y B h j:Type}[Rep e][Sls S][Sls P][Sls y][Sls B][Sls h][Sls j]{o:B->j->y->D}{V:D->(P->B->j->Prop)->(ci->D->Prop)->Prop}
 [A0:At i D (OL e) S] [A:At i B (OL e) h] [U:Pt i h (OL e) B] (he:PE X (.Name x pos) (uH i)) (hr:Jd X E T u o V) (hs:fG (.Name x pos::u) X.env=(false,eval (.Name x pos) X.env)::fG u X.env:=by rfl) :
    Jd X E T (.Name x pos::u) (λ(b:h)(l:OL e×j)(p:Un×y)=>o (U.put b l.1) l.2 p.2) (λ(d:D)(W:List e×P->h->OL e×j->Prop) C=>V d (λp b l=>W ((A.get b).l,p) (A.hole b) (A.get b,l)) C):=by
  refine tX hr λtr b1 b2=>?_
  refine⟨_,ue he b1 hs,λd F R σ H W C Q s hw kn ke=>?_⟩
  obtain⟨v,_,_,G,_,⟨r,_,rfl,_⟩,_⟩:=A0.take s.rel
  refine⟨_,G,b2 d F R σ H _ C _ s hw (λp b l Y Z I G2 L F' R' H' q2 c2 s2 f h1 h2 hl k=>?_) ke⟩
  refine xU (A.take h2) λv' J M2 z1 w z3 z4=>?_
  rw[G] at z1
  cases z1
  refine vt (id z3) λa ws e1 e2 e3 e4=>?_
  cases e1
  have m1:∀a,J a->G2 a:=λa m=>(w.all a).mpr<|.inl m
  have m2:∀a,M2 a->G2 a:=λa m=>(w.all a).mpr<|.inr m
  refine kn ((A.get b).l,p) (A.hole b) (A.get b,l) (.ref r::Y) (some (.ref r)::Z) I M2 (λc=>J c\/L c) F' R' H' q2 c2 s2 ⟨λa=>?_,λa m n=>f.GG a m<|m2 a n,λa m n=>?_,λa m n=>?_⟩ ⟨some<|.ref r,Y.map some,λ_=>False,I,rfl,two_nil I,⟨λ_ z=>z,_,rfl,r,ws,rfl,λz=>z.2<|.inl<|(e2 r).mpr rfl,e3,vh ((By R' _ H').wide λ_ z=>z.elim) e4⟩,Sls.wk h1<|RE λ_ z=>.inr z⟩ z4 ⟨_,Z,J,L,rfl,⟨λ_=>Iff.rfl,λa m n=>f.Ie a (m1 a m) n⟩,z3,hl⟩ λb' l' L1 L2 L3 K M N p' h3 h4 h5 t=>?_
  · rw[f.all, w.all]
    exact⟨λz=>z.elim .inl λz=>z.elim (λz=>z.elim (λq=>.inr<|.inr<|.inl q) λq=>.inr<|.inl q) λq=>.inr<|.inr<|.inr q,λz=>z.elim .inl λz=>z.elim (λq=>.inr<|.inl<|.inr q) λz=>z.elim (λq=>.inr<|.inl<|.inl q) λq=>.inr<|.inr q⟩
  · rcases n with n|n
    · exact f.GG a m<|m1 a n
    · exact f.Ic a m n
  · rcases n with n|n
    · exact w.xi a n m
    · exact f.Ie a (m2 a m) n
  · refine xH h3 λv' aa N1 N2 y1 y2 y3 y4 => ?_
    injection y1 with _ y6
    subst y6
    refine xH h5 λv2 ab O K2 x1 g x3 x4=>?_
    injection x1 with x5 x6
    subst x5;subst x6
    have tt:Cf (λa=>O a\/L2 a) O L2:=⟨λ_=>Iff.rfl,λa m n=>t.Ie a n<|(g.all a).mpr<|.inl m⟩
    refine k _ l'.2 L1 (λa=>O a\/L2 a) K2 K M N p'.2 (Sls.fq y4<|two_eq y2 y3) (Pt.same (A:=U) h4 G tt x3) x4 ⟨λa=>?_,λa m n=>?_,λa m n=>t.Ic a m<|(g.all a).mpr<|.inr n,λa m n=>?_⟩
    · rw[t.all, g.all]
      exact⟨λz=>z.elim .inl λz=>z.elim (λq=>.inr<|.inl<|.inr q) λz=>z.elim (λq=>.inr<|.inl<|.inl q) λq=>.inr<|.inr q,λz=>z.elim .inl λz=>z.elim (λz=>z.elim (λq=>.inr<|.inr<|.inl q) λq=>.inr<|.inl q) λq=>.inr<|.inr<|.inr q⟩
    · rcases n with n|n
      · exact t.Ic a m<|(g.all a).mpr<|.inl n
      · exact t.GG a m n
    · rcases m with m|m
      · exact g.xi a m n
      · exact t.Ie a m<|(g.all a).mpr<|.inr n
theorem De{P J B Lc K:Type}[Sls P][Sls J][Sls B][Sls Lc][Ow K][Lb Lc K J]{mrg:B->Lc->J->D}{wf:Wf P K J}{F R F1 F2 L:Rg}{H:Hp}{b:B}{l:Lc}{p:P}{σ:St}{vs:List V}{us:St}{Kn:K->D->Prop}{Ke:ci->D->Prop}{Q:VK}
  (s:Std T F R H) (t:Dd F F1 F2 L) (hp:rel F1 (Wo R L) H p (vs.map some)) (hb:rel F2 R H b σ) (hl:rel L R H l us) (km:∀b' l' G1 G2 G3 U u w r,rel G1 u w r (vs.map some)->rel G2 u w b' σ->rel G3 u w l' us->Dd U G1 G2 G3->rel U u w (mrg b' l' r) σ)
  (hw:wf p (λx r=>Kn x<|mrg b l r) (λC r=>Ke C<|mrg b l r))
  (kn:∀x W v M1 M i d,Kn x W->Ch T F R H (λa=>M1 a\/M a) i d->ve T M i d W σ->Nw T M1 M i d x v->Q v d)
  (ke:∀C y W Y i d,Ke C W->Ch T F R H Y i d->ve T Y i d W σ->E (.ref C) (some y) d):xG T wf vs H Q E:=by
 have N:∀a,F1 a->F a:=λa h=>(t.all a).mpr<|.inl h;have O:∀a,F2 a->F a:=λa h=>(t.all a).mpr<|.inr<|.inl h;have k:∀a,L a->F a:=λa h=>(t.all a).mpr<|.inr<|.inr h;have s1:ve T F1 (Wo R L) H p (vs.map some):=⟨hp,λa h=>⟨s.sub a<|N a h,λz=>t.Ic a h z⟩,λa h=>s.wn a h.1,s.tab,⟨s.uQ,λz=>s.uF<|k T z⟩,λh=>s.uF<|N T h⟩
 -- the region aa it: Z the ab left and Z ah ag
 have ex:∀{G i:Rg} {d:Hp},Ch T F1 (Wo R L) H G i d->Ext (λa=>F1 a\/a=T) R H (λa=>i a\/L a) d:=λc=>⟨λb o n h=>c.keep b o (λz=>n<|.inl z) (λz=>n<|.inr z) h,λa h=>h.elim (λz=>(c.zc a z).elim (λq=>.inl q.1) .inr) λz=>.inl<|s.sub a<|k a z⟩;have gs:∀a,(F1 a\/a=T)->R a:=λa h=>h.elim (λz=>s.sub a<|N a z) λq=>by rw[q];exact s.uQ
 have fr:∀{G i:Rg} {d:Hp},Ch T F1 (Wo R L) H G i d->rel F2 (λa=>i a\/L a) d b σ:=λc=>Sls.st hb (ex c) gs λa h z=>z.elim (λq=>t.GG a q h) λq=>s.uF (by rw[<- q];exact O a h);have A:∀{G i:Rg} {d:Hp},Ch T F1 (Wo R L) H G i d->rel L (λa=>i a\/L a) d l us:=λc=>Sls.st hl (ex c) gs λa h z=>z.elim (λq=>t.Ic a q h) λq=>s.uF (by rw[<- q];exact k a h)
 have nF:∀{G i:Rg} {d:Hp},Ch T F1 (Wo R L) H G i d->∀a,G a->F2 a\/L a->False:=λc a g f=>by
  rcases c.xo a g with q|q
  ·exact f.elim (t.GG a q)<|t.Ic a q
  ·exact s.wn a (s.sub a<|f.elim (O a)<|k a) q
 have nR:∀{G i:Rg} {d:Hp},Ch T F1 (Wo R L) H G i d->∀a,L a->¬i a:=λc a h z=>by
  rcases c.zc a z with q|q
  ·exact q.2 h
  ·exact s.wn a (s.sub a<|k a h) q
 have ch:∀{G i:Rg} {d:Hp},Ch T F1 (Wo R L) H G i d->Ch T F R H (λa=>G a\/F2 a\/L a) (λa=>i a\/L a) d:=λc=>⟨λb o n m h=>c.keep b o (λz=>n<|N b z) m h,(ex c).new,λa h=>h.elim (λq=>(c.xo a q).elim (λz=>.inl<|N a z) .inr) λq=>.inl<|q.elim (O a)<|k a,λa h n=>.inl<|c.left a ⟨h,λz=>n<|k a z⟩ λz=>n<|N a z⟩;have ae:∀{G i:Rg} {d:Hp},Ch T F1 (Wo R L) H G i d->∀a,F2 a->i a:=λc a f=>c.left a ⟨s.sub a<|O a f,λz=>t.Ie a f z⟩ λz=>t.GG a z f
 have af:∀{G i:Rg} {d:Hp},Ch T F1 (Wo R L) H G i d->(∀a,i a->d a≠none)->∀a,i a\/L a->d a≠none:=λc h a z=>z.elim (h a) λq=>by
  cases e:H a with
  | none=>exact fY e<|s.wn a<|s.sub a<|k a q
  | some o=>rw[c.keep a o (λz=>t.Ic a z q) (λz=>s.uF<|by rw[<- z];exact k a q) e];simp
 refine⟨F1,Wo R L,p,_,_,s1,hw,λx r v M1 M i d q c j n=>?_,λC y r Y i d q c j=>?_⟩
 ·have S:=nF c;have kl:=A c;have I:=ch c;refine kn x _ v M1 (λa=>M a\/F2 a\/L a) (λa=>i a\/L a) d q ⟨I.keep,I.zc,λa h=>I.xo a<|h.elim (λz=>.inl<|.inl z) λz=>z.elim (λq=>.inl<|.inr q) .inr,I.left⟩ ⟨km b l M F2 L _ _ d r (Lb.fs K kl j.rel) (fr c) (A c) ⟨λ_=>Iff.rfl,λa m f=>S a (.inr m)<|.inl f,λa m f=>S a (.inr m)<|.inr f,t.Ie⟩,λa h=>h.elim (λz=>.inl<|j.sub a z) λz=>z.elim (λq=>.inl<|ae c a q) .inr,af c j.wn,j.tab,.inl j.uQ,λh=>h.elim j.uF λz=>z.elim (λq=>s.uF<|O T q) λq=>s.uF<|k T q⟩ ⟨Lb.fr J kl n.is,λa m=>.inl<|n.sub a m,λa m z=>z.elim (n.xi a m) λz=>S a (.inl m) z,n.tab⟩
 ·have S:=nF c;have kl:=A c;exact ke C y _ (λa=>Y a\/F2 a\/L a) (λa=>i a\/L a) d q (ch c) ⟨km b l Y F2 L _ _ d r (Lb.fs K kl j.rel) (fr c) (A c) ⟨λ_=>Iff.rfl,λa m f=>S a m<|.inl f,λa m f=>S a m<|.inr f,t.Ie⟩,λa h=>h.elim (λz=>.inl<|j.sub a z) λz=>z.elim (λq=>.inl<|ae c a q) .inr,af c j.wn,j.tab,.inl j.uQ,λh=>h.elim j.uF λz=>z.elim (λq=>s.uF<|O T q) λq=>s.uF<|k T q⟩
theorem Of{P j B o:Type}[Sls P][Sls j][Sls B][Ow o]{mrg:B->j->D}{wf:Wf P o j}{F R F1 F2:Rg}{H:Hp}{b:B}{p:P}{σ:St}{r:List V}{Kn:o->D->Prop}{Ke:ci->D->Prop}{Q:VK}
  (s:Std T F R H) (t:Cf F F1 F2) (I:rel F1 R H p (r.map some)) (J:rel F2 R H b σ) (K:∀k m n e c d f,rel m c d f (r.map some)->rel n c d k σ->Cf e m n->rel e c d (mrg k f) σ)
  (hw:wf p (λx f=>Kn x<|mrg b f) (λC f=>Ke C<|mrg b f))
  (M:∀x i v w u h g,Kn x i->Ch T F R H (λa=>w a\/u a) h g->ve T u h g i σ->Nw T w u h g x v->Q v g)
  (N:∀C y i A h g,Ke C i->Ch T F R H A h g->ve T A h g i σ->E (.ref C) (some y) g):xG T wf r H Q E :=
 De (Lc:=Unit) (L:=λ_=>False) (l:=()) (us:=[]) (mrg:=λb _ p=>mrg b p) s ⟨λa=>(t.all a).trans ⟨λz=>z.elim .inl λq=>.inr<|.inl q,λz=>z.elim .inl λq=>q.elim .inr gB⟩,t.xi,λ_ _ z=>z,λ_ _ z=>z⟩ (Sls.wk I<|By _ _ _) J ⟨rfl,λ_ z=>z⟩
  (λk _ m n W e c d f O S U G=>K k m n e c d f O S ⟨λa=>(G.all a).trans ⟨λz=>z.elim .inl λq=>q.elim .inr λq=>fY q<|U.2 a,λz=>z.elim .inl λq=>.inr<|.inl q⟩,G.GG⟩) hw M N
theorem AI{P j B o r:Type}[Sls P][Sls j][Sls B][Sls o][Ow r][Lb o r j]{a:B->o->j->D}{V:Wf P r j}{Y:D->(P->B->o->Prop)->(ci->D->Prop)->Prop}{k:Nat}{Z:List Str}{m:List gA}
 (F:uE X.prog X.w X.K X.mg X.base (uP X.prog X.w) k f fd Z (xG T V)) (hr:vq k X.A) (hg:Gl X x) (hm:X.mg x=some (.ref f)) (hk:h8 X.K (.ref f)=true) (hb:Binds X.K fd Z []) (hx:Passes (uP X.prog X.w) X E)
 (ha:Jd X E T (e::m) a Y) (z:(x==("__debug__":Str))=false:=by decide) (he:fG (e::m) X.env=(false,eval e X.env)::fG m X.env:=by rfl) (I:(ij pos<|fG m X.env).any (·.1)=false:=by rfl) :
    EO X E T (.Call (.Name x p) (e::m) [] pos) (λ(d:D)(Kn:r->D->Prop) u=>Y d (λp b l=>V p (λx J=>Kn x<|a b l J)<|λC J=>u C<|a b l J) u):=by
  refine tX ha λt a1 a2=>?_
  refine⟨_,QX F hr hg hm hk hb .nil hx a1 z he I,λd F' R σ H Kn u Q s hw kn ke=>?_⟩
  refine a2 d F' R σ H _ u _ s hw (λp b l vs us F1 F2 L G R' H' q c M tw h1 h2 h3 km=>?_) ke
  rw[jR]
  exact De M tw h1 h2 h3 km q (λx N v M1 M2 g h O S i n=>kn x N v M1 M2 g h O (Ch.trans s M.tab c S) i n) λC y N U g h O S i=>ke C y N U g h O (Ch.trans s M.tab c S) i
class Obj(τ:Type)[Ow τ](K:fB)(C:ci)(m:Str):Prop where
 ob:∀{F R:Rg} {H:Hp} {x:τ} {v:V},sl F R H x (some v)->∃a dx fs,v=.ref a/\H a=some (.ins C dx fs)/\fs.lookup m=none
end
section
variable{X:Cx}{E:XK}{T:ci}{ms:List Nat}{n:Nat}{D PO τ:Type}[Sls D][Sls PO][Ow τ]{pos:Pos}{α:Type}[Rep α]
theorem yA{F:Rg}:Ext (λc=>c=a) R H R (upd H a o):=⟨λb u n h=>by rw[ss n];exact h,λ_ h=>.inl h⟩
theorem AJ{i:Nat}{D0:Type}[Sls D0][A:At i D (OL α) D0][U:Pt i D0 (OL α) D]{F R:Rg}{H:Hp}{d:D}{σ:St}(s:ve T F R H d σ):∃a vs,σ[i]?=some (some<|.ref a)/\H a=some (.lst vs)/\Paired (rp R H) (A.get d).l vs /\
  ∀(ys:List α)(us:List V),Paired (rp R H) ys us->Ch T F R H F R (upd H a<|.lst us)/\ve T F R (upd H a<|.lst us) (U.put (A.hole d) ⟨ys⟩) σ:=by
 obtain⟨v,F1,F2,h1,h2,⟨a,vs,rfl,h4,h5,h6⟩,h7⟩:=A.take s.rel;have aF:F a:=(h2.all a).mpr<|.inl<|(h4 a).mpr rfl;have aT:a≠T:=λz=>s.uF (by rw[<- z];exact aF);refine⟨a,vs,h1,h5,h6,λys us hp=>?_⟩;have ex:=yA (F:=F) (R:=R) (H:=H) (a:=a) (o:=.lst us);have gs:∀c,c=a->R c:=λc z=>by rw[z];exact s.sub a aF
 have k:∀b u,b≠a->H b=some u->upd H a (.lst us) b=some u:=λb u z e=>by rw[ss z];exact e
 refine⟨⟨λb o n _ e=>k b o (λz=>n<|by rw[z];exact aF) e,λ_ h=>.inl h,λ_ h=>.inl h,λ_ h _=>h⟩,Pt.same (A:=U) (Sls.st h7 ex gs λc z q=>h2.xi c ((h4 c).mpr q) z) h1 h2 ⟨a,us,rfl,h4,tZ,vh (ex.wide gs) hp⟩,s.sub,λc z=>?_,?_,s.uQ,s.uF⟩
 ·by_cases e:c=a
  ·rw[e,tZ];simp
  ·rw[ss e];exact s.wn c z
 ·refine tX s.tab λps e t=>?_;exact⟨ps,k _ _ (λz=>aT z.symm) e,t⟩
theorem vz{x:Str}{e:gA}(i:Nat){p1 p2 p3:Pos}{D0:Type}[Sls D0][A:At i D (OL α) D0][U:Pt i D0 (OL α) D][J:Pj D PO n]{we:Wf D α D}(hn:PE X (.Name x p1) (uH i))(h:EW X E T e we)
  (hb:∀{t:TA},PA X [e] t->PS X (.Expr (.Call (.Attribute (.Name x p1) "append" p2) [e] [] p3) pos) (GS<|Zm X.K "list" Ku (uH i) t)) (hs:fG [e] X.env=(false,eval e X.env)::fG [] X.env:=by rfl) :
  S1 X E T ms n (.Expr (.Call (.Attribute (.Name x p1) "append" p2) [e] [] p3) pos) (λ(d:D)(Kn:D->Prop)(Kr:τ->PO->Prop) Ke=>we d (λy d'=>(A.get d').l.length<fK/\Kn (U.put (A.hole d') ⟨(A.get d').l++[y]⟩)) λC d'=>Ke C<|J.pj d'):=by
 refine tX h λt h1 h2=>?_;refine⟨_,hb<|ue h1 uu hs,λd F R σ H Kn Kr Ke En s hw kn kr ke=>?_⟩;refine vt (AJ (i:=i) s) λa vs g1 g2 g3 _=>?_;refine⟨_,g1,.inl ⟨rfl,vs,vn.of g2⟩,h2 d F R σ H _ _ _ s hw (λy d' v F' R' H' q c s' r=>?_) λC y d' F' R' H' q c s'=>?_⟩
 ·refine vt (AJ (i:=i) s') λa' RF k1 k2 k3 k4=>?_;rw[g1] at k1;cases k1;obtain⟨c2,s2⟩:=k4 _ _<|wR k3<|.cons r .nil;exact⟨a,RF,v,rfl,rfl,k2,by rw[<- Paired.length k3];exact q.1,kn _ F' R' _ σ q.2 (Ch.trans s s'.tab c c2) s2<|Ag.refl _ _⟩
 ·refine tX (vG (PO:=PO) s') λG g1 g2=>?_;exact ke C y _ G R' H' q (c.less g1) g2
end
def GW(X:Cx)(T:ci)(ms:List Nat)(tg:gA){D D1 α:Type}[Sls D][Sls D1][Rep α](g:D->α->D1):Prop :=
 ∃t,PG X tg t/\∀(d:D)(F R:Rg)(σ:St)(H:Hp)(x:α)(v:V)(Q:St->Hp->Prop),ve T F R H d σ->rp R H x v->(∀F' σ',(∀a,F' a->F a)->ve T F' R H (g d x) σ'->Ag ms σ σ'->Q σ' H)->t v σ H Q
section
variable{X:Cx}{T:ci}{ms:List Nat}{D:Type}[Sls D]{pos:Pos}{α β:Type}[Rep α][Rep β]
theorem Je{i:Nat}{Xl D0 D1:Type}[Ow Xl][Sls D0][Sls D1][A:At i D Xl D0][U:Pt i D0 α D1]{F R:Rg}{H:Hp}{d:D}{σ:St}{x:α}{v:V}(s:ve T F R H d σ)(r:rp R H x v) :
  ∃F',(∀a,F' a->F a)/\ve T F' R H (U.put (A.hole d) x) (σ.set i<|some v):=by
 have m:Nw T (λ_=>False) F R H x v:=⟨⟨λ_ z=>z,v,rfl,r⟩,λ_ z=>z.elim,λ_ z=>z.elim,λz=>z⟩;refine tX (Ew (i:=i) s m) λG g1 g2=>?_;exact⟨G,λa h=>(g1 a h).elim (λz=>z.elim) id,g2⟩
theorem uz{x:Str}(i:Nat){Xl D0 D1:Type}[Ow Xl][Sls D0][Sls D1][A:At i D Xl D0][U:Pt i D0 α D1](hp:PG X (.Name x pos) (BU i))(hm:i∉ms):GW X T ms (.Name x pos) (λ(d:D)(x:α)=>U.put (A.hole d) x) :=
 ⟨_,hp,λd F R σ H x v Q s r k=>by
  refine tX (Je (i:=i) s r) λF' f1 f2=>?_
  exact k F' _ f1 f2 (Ag.set hm)⟩
theorem Cv(i j:Nat)[Ow b][Ow c][Sls e][Sls f][Sls g][Sls l][A:At i D b e][U:Pt i e α f][m:At j f c g][n:Pt j g β l](o:PG X p (UG X.K 2<|Ee (BU i)<|Ee (BU j) UF))(q:i∉ms)(t:j∉ms) :
  GW X T ms p (λ(d:D)(x:α×β)=>n.put (m.hole<|U.put (A.hole d) x.1) x.2) :=
 ⟨_,o,λd F R L H x v Q s r k=>by
  obtain⟨a,u,w,rfl,_,y,z,B⟩:=r;refine tX (Je (i:=i) s z) λM C E=>?_;refine tX (Je (i:=j) E B) λG I J=>?_
  exact⟨a,[u,w],rfl,yg.of y,rfl,u,[w],rfl,w,[],rfl,rfl,k G _ (λa h=>C a (I a h)) J ((Ag.set q).trans (Ag.set t))⟩⟩
end
structure Wp{α:Type}[Rep α](J:It)(xs:List α)(Ps:Rg->Hp->Prop):Prop where
 go:∀{R:Rg} {H:Hp} {i:Nat},Ps R H->i<xs.length->J.go i H
 GF:∀{R:Rg} {H:Hp} {i:Nat} {v:V} {H':Hp},Ps R H->(∀a,R a->H a≠none)->i<xs.length->J.GF i H v H'->(H'=H\/∃p o,H p=none/\H'=upd H p o)/\∃x,xs[i]?=some x/\rp R H' x v
 stop:∀{R:Rg} {H:Hp},Ps R H->J.stop xs.length H
def IW(X:Cx)(E:XK)(T:ci)(N:List Nat)(O e:gA){D B o:Type}[Sls D][Sls B][Rep o](k:B->List o->D)(w:D->(List o->B->Prop)->(ci->D->Prop)->Prop):Prop :=
 ∃t,PI X O e t/\∀(d:D)(F R:Rg)(l:St)(H:Hp)(s:List o->B->Prop)(u:ci->D->Prop)(v:It->Hp->Prop),ve T F R H d l->w d s u ->
  (∀p b J m j q x f c,s p b->Ch T F R H j f c->Std T j f c->Cf j q x->rel x f c b l->Wp J p m->m f c ->
   (∀{G r z:Rg} {A I:Hp},m r A->(∀a,G a->r a)->(∀a,q a->¬G a)->Ext G r A z I->m z I) ->
   (∀K L n g h i,m g h->rel L g h K i->Ag N l i->Cf n q L->rel n g h (k K p) i)->v J c) ->
  (∀C y M j f c,u C M->Ch T F R H j f c->ve T j f c M l->E (.ref C) (some y) c)->t l H v
section
variable{X:Cx}{E:XK}{T:ci}{is:List Nat}{D:Type}[Sls D]{pos:Pos}{α β:Type}[Rep α][Rep β]{tg:gA}
theorem AK{K:fB}{xs:List α}{vs:List V}:Wp (Wj K a) xs (λR H=>H a=some (.lst vs)/\Paired (rp R H) xs vs) where
 go:=λ{R H i} p h=>by refine tX (vX (i:=i) (x:=xs[i]) p.2<|by simp[h]) λv e _=>?_;exact⟨vs,v,vn.of p.1,e⟩
 GF:=λ{R H i v H'} p _ hi y=>by obtain⟨e,y⟩:=y;subst e;have y':=y vs<|vn.of p.1;refine tX (vX (i:=i) (x:=xs[i]) p.2<|by simp[hi]) λu e r=>?_;rw[y'] at e;cases e;exact⟨.inl rfl,_,by simp[hi],r⟩
 stop:=λ{R H} p=>⟨vs,vn.of p.1,by rw[Paired.length p.2];exact fJ _⟩
theorem vH{w:Wf D (List α) D}(h:EW X E T e w):IW X E T is tg e (λ(b:D)(_:List α)=>b) w:=by refine tX h λt h1 h2=>?_;refine⟨_,EU h1,λd F R σ H Kn Ke Rk s hw kn ke=>h2 d F R σ H _ _ _ s hw (λxs d' v F' R' H' q c s' r=>?_) ke⟩;obtain⟨a,vs,rfl,r1,r2,r3⟩:=r;refine⟨a,rfl,⟨vs,vn.of r2⟩,kn xs d' _ (λR H=>(H a=some (.lst vs)/\Paired (rp R H) xs vs)/\¬R a) F' (λ_=>False) F' R' H' q c s'.Ib (two_nil F') s'.rel ⟨λp=>AK.go p.1,λp=>AK.GF p.1,λp=>AK.stop p.1⟩ ⟨⟨r2,r3⟩,r1⟩ (λp gs nf ex=>?_) λb' G2 T9 Ia Oa σ' p h g t=>Sls.fq h<|two_eq t λ_ z=>z⟩;have na:¬_:=λz=>p.2<|gs a z;exact⟨⟨ex.keep a _ na p.1.1,vh (ex.wide gs) p.1.2⟩,ex.not p.2 p.1.1⟩
theorem Ft{x:Str}(i:Nat){B:Type}[Sls B][A:At i D (OL α) B][U:Pt i B (OL α) D](hn:PE X (.Name x pos) (uH i))(hi:i∈is):IW X E T is tg (.Name x pos) (λ(b:B)(xs:List α)=>U.put b ⟨xs⟩) (λ(d:D)(Kn:List α->B->Prop) _=>Kn (A.get d).l<|A.hole d):=by refine⟨_,EU hn,λd F R σ H Kn Ke Rk s hw kn ke=>?_⟩;obtain⟨v,F1,F2,h1,h2,⟨a,vs,rfl,h4,h5,h6⟩,h7⟩:=A.take s.rel;refine⟨_,h1,a,rfl,⟨vs,vn.of h5⟩,kn _ _ _ (λR H=>H a=some (.lst vs)/\Paired (rp R H) (A.get d).l vs) F F1 F2 R H hw (Ch.refl _ _ _ _) s.Ib h2 h7 AK ⟨h5,h6⟩ (λp gs nf ex=>⟨ex.keep a _ (nf a<|(h4 a).mpr rfl) p.1,vh (ex.wide gs) p.2⟩) λb' G2 T9 Ia Oa σ' p h g t=>?_⟩;exact Pt.same (A:=U) h (by rw[g.2 i hi];exact h1) t ⟨a,vs,rfl,h4,p.1,p.2⟩
def ye(a b:Int):List Int:=(gl (b-a).toNat).map λ(i:Nat)=>a+(i:Int)
theorem vO(a b:Int):(ye a b).length=(b-a).toNat:=by unfold ye;rw[fN,jZ]
theorem RG{a b:Int}{i:Nat}(h:i<(b-a).toNat):(ye a b)[i]?=some (a+(i:Int)):=by unfold ye;rw[iK,sC h];rfl
theorem Mj{lo hi:Int}:Wp (WB lo (hi-lo).toNat) (ye lo hi) (λ_ _=>True) where
 go:=λ{R H i} _ h=>by rw[vO] at h;exact h
 GF:=λ{R H i v H'} _ _ hi y=>by obtain⟨e,y⟩:=y;subst e y;rw[vO] at hi;exact⟨.inl rfl,_,RG hi,rfl⟩
 stop:=λ{R H} _=>by rw[vO];exact fJ _
theorem wG(n:Gl X "range")(o:X.mg "range"=none)(u:EW X E T a w)(x:fG [a] X.env=(false,eval a X.env)::fG [] X.env:=by rfl)(e:fG [a] X.env=[(false,eval a X.env)]:=by rfl) :
  IW X E T is tg (.Call (.Name "range" p) [a] [] pos) (λ(b:D)(_:List Int)=>b) (λ(d:D) k l=>w d (λj f=>(-(2 ^ 62)<=j/\j<2 ^ 62)/\k (ye 0 j) f) l):=by
 refine tX u λt y A=>?_;refine⟨_,LJ n o (ue y uu x) e,λd F R B H k l P s C G I=>A d F R B H _ _ _ s C (λj f v i J K q c m r=>?_) I⟩;have r:v=V.int j:=r;subst r;refine⟨j,rfl,q.1.1,q.1.2,?_⟩;have:=G (ye 0 j) f (WB 0 (j-0).toNat) (λ_ _=>True) i (λ_=>False) i J K q.2 c m.Ib (two_nil i) m.rel Mj trivial (λ_ _ _ _=>trivial) λQ S L M N O p h g t=>Sls.fq h<|two_eq t λ_ z=>z;rw[Int.sub_zero] at this;exact this
end
def Fv{α B PO τ:Type}(b:α->B->(B->Prop)->(τ->PO->Prop)->(ci->PO->Prop)->Prop):List α->B->(B->Prop)->(τ->PO->Prop)->(ci->PO->Prop)->Prop
 | [],d,Kn,_,_=>Kn d
 | x::xs,d,Kn,Kr,Ke=>b x d (λd'=>Fv b xs d' Kn Kr Ke) Kr Ke
section
variable{X:Cx}{E:XK}{T:ci}{ms mb is:List Nat}{n:Nat}{D B D1 D2 PO τ α:Type}[Sls D][Sls B][Sls D1][Sls D2][Sls PO][Ow τ][Rep α]{pos:Pos}{tg iter:gA}{body:List gy}
theorem Ch.big(c:Ch T F R H d e f)(g:∀a,F a->G a):Ch T G R H d e f:=⟨λb o n m h=>c.keep b o (λz=>n<|g b z) m h,c.zc,λa h=>(c.xo a h).elim (λz=>.inl<|g a z) .inr,λa h n=>c.left a h λz=>n<|g a z⟩
theorem Ch.Og(t:Cf F F1 d)(c:Ch T d R H e f g):Ch T F R H (λa=>F1 a\/e a) f g:=⟨λb o n m h=>c.keep b o (λz=>n<|(t.all b).mpr<|.inr z) m h,c.zc,λa h=>h.elim (λz=>.inl<|(t.all a).mpr<|.inl z) λz=>(c.xo a z).elim (λz=>.inl<|(t.all a).mpr<|.inr z) .inr,λa h n=>c.left a h λz=>n<|(t.all a).mpr<|.inr z⟩
theorem Ch.trans'{j:Rg}{i k:Hp}(s:Std T F R H)(m:TabAt i T)(a:Ch T F R H l p i)(b:Ch T l p i r j k):Ch T F R H r j k:=by
 have f:∀c,¬F c->H c≠none->¬l c:=λc n h z=>by
  rcases a.xo c z with q|q
  ·exact n q
  ·exact h q
 have d:∀c,i c=none->¬(F c)->H c=none:=λc h n=>by
  cases e:H c with
  | none=>rfl
  | some o =>
   have u:c≠T:=λz=>by rw[z] at h;exact ya m h
   rw[a.keep c o n u e] at h;cases h
 refine⟨λc o n t h=>b.keep c o (f c n<|by rw[h];simp) t<|a.keep c o n t h,λc h=>?_,λc h=>?_,λc h n=>b.left c (a.left c h n)<|f c n<|s.wn c h⟩
 ·rcases b.zc c h with q|q
  ·exact a.zc c q
  ·by_cases g:F c
   ·exact .inl<|s.sub c g
   ·exact .inr<|d c q g
 ·rcases b.xo c h with q|q
  ·exact a.xo c q
  ·by_cases g:F c
   ·exact .inl g
   ·exact .inr<|d c q g
theorem drop_cons{α:Type}{a:List α}{i:Nat}{x:α}(h:a[i]?=some x):a.drop i=x::a.drop (i+1):=by have b:=(List.getElem?_eq_some_iff.mp h);rw[mC b.1,b.2]
theorem Ag.sub(a:Ag mb c b)(h:∀i∈ms,i∈mb):Ag ms c b:=⟨a.1,λi d=>a.2 i<|h i d⟩
theorem vY{I:B->List α->D}{wi:D->(List α->B->Prop)->(ci->D->Prop)->Prop}{g:B->α->D1}{wb:D1->(D2->Prop)->(τ->PO->Prop)->(ci->PO->Prop)->Prop}[Gf:Fg D2 B][J:Pj D PO n](dp:QI PO ms n)(hp:qu (fS X.prog X.w) X.A X.env X.xe)(hc:X.calm=true)
 (hi:IW X E T is tg iter I wi) (hg:GW X T mb tg g) (hb:SW X E T mb n body wb) (h1:∀i∈ms,i∈mb) (h2:∀i∈is,i∈mb) (hs:∀x,jg iter X.env x=pure x:=by intro _;rfl) :
    S1 X E T ms n (.For tg iter body [] pos) (λ(d:D)(Kn:D->Prop)(Q:τ->PO->Prop) O=>wi d (λP b=>Fv (λx b S Q O=>wb (g b x) (λd2=>S<|Gf.fg d2) Q O) P b (λb'=>Kn<|I b' P) Q O) λC d'=>O C<|J.pj d'):=by
  refine tX hi λti i1 i2=>?_
  refine tX hg λaq g1 g2=>?_
  refine tX hb λtb V b2=>?_
  refine⟨_,Na hp hc i1 g1 V hs,λd F R σ H Kn Q O En s hw kn kr ke=>?_⟩
  refine i2 d F R σ H _ _ _ s hw (λP b Jt Ps F' W F2 R' H' q c s' tw hr ip ps pk pb=>?_) λC y d' F' R' H' q c s'=>?_
  · -- the an
    refine⟨λi m l M=>m=P.length-i/\i<=P.length/\∃V G r j,Ch T F' R' H' G j M/\Std T G j M/\Cf G W r/\rel r j M V l/\Ps j M/\Ag mb σ l/\Fv (λx b S Q O=>wb (g b x) (λd2=>S (Gf.fg d2)) Q O) (P.drop i) V (λb'=>Kn (I b' P)) Q O,
      ⟨_,rfl,g9 _,b,F',F2,R',Ch.refl _ _ _ _,s',tw,hr,ps,Ag.refl _ _,q⟩,?_⟩
    rintro i m l M ⟨rfl,hi,V,G,r,j,c1,N,Y,r1,p1,a1,w1⟩
    have cc:=Ch.trans s s'.tab c c1
    by_cases ab:i<P.length
    · refine .inr ⟨ip.go p1 ab, λae K => ∃b2 G2 ag R2, Ch T F' R' H' G2 R2 K /\ Std T G2 R2 K /\ Cf G2 W ag /\ rel ag R2 K b2 ae /\ Ps R2 K /\ Ag mb σ ae /\ Fv (λx b S Q O => wb (g b x) (λd2 => S<|Gf.fg d2) Q O) (P.drop<|i+1) b2 (λb' => Kn<|I b' P) Q O, λae K p => ⟨P.length-(i+1), by omega, rfl, ab, p⟩, λx K y => ?_⟩
      obtain⟨hH,x',ex,rx⟩:=ip.GF p1 N.wn ab y
      -- the ao af the Z step
      have ai:Ch T G j M G j K/\Std T G j K/\rel r j K V l/\Ps j K:=by
        rcases hH with e|⟨p,o,hp,e⟩
        · subst e; exact⟨Ch.refl _ _ _ _, N, r1, p1⟩
        · subst e
          have k:∀b u,M b=some u->upd M p o b=some u:=λb u e=>by rw[ss<|uf e hp];exact e
          have ex:Ext (λ_=>False) j M j (upd M p o):=⟨λb u _ e=>k b u e,λa h=>.inl h⟩
          refine⟨⟨λb u _ _ e=>k b u e,λa h=>.inl h,λa h=>.inl h,λa h _=>h⟩,⟨N.sub,λa z=>?_,?_,N.uQ,N.uF⟩,Sls.st r1 ex (λ_ z=>z.elim)<|λ_ _ z=>z,pk p1 (λ_ z=>z.elim) (λ_ _ z=>z) ex⟩
          · cases e : M a with
            | none=>exact fY e<|N.wn a z
            | some u=>rw[k a u e];simp
          · refine tX N.tab λqs e t => ?_
            exact⟨qs,k _ _ e,t⟩
      obtain⟨c2,L,r2,p2⟩:=ai
      have U:∀a,r a->G a:=λa h=>(Y.all a).mpr<|.inr h
      have S2:ve T r j K V l:=⟨r2,λa h=>L.sub a<|U a h,L.wn,L.tab,L.uQ,λh=>L.uF<|U T h⟩
      rw[drop_cons ex] at w1
      refine g2 V r j l K x' x _ S2 rx λF3 aj f3 S3 a3=>?_
      have ah:=Ch.trans' s' N.tab c1 c2
      have aa:=Ch.trans s s'.tab c ah
      have t3:∀a,W a->F3 a->False:=λa h k=>Y.xi a h<|f3 a k
      refine b2 _ F3 j aj K _ Q O _ S3 w1 (λd2 F4 R4 H4 ar q4 c4 f a4=>?_) (λx p' v M1 M2 R4 H4 q4 c4 f n4=>?_) λC y p' F4 R4 H4 q4 c4 f=>?_
      · refine tX (Gf.le f.rel) λF5 f5 r5 => ?_
        have t4:∀a,W a->F4 a->False:=λa h k=>by
          rcases c4.xo a k with z|z
          · exact t3 a h z
          · exact L.wn a (L.sub a<|(Y.all a).mpr<|.inl h) z
        have ak:Ch T G j K (λa=>W a\/F5 a) R4 H4:=(Ch.Og (F1:=W) (F:=λa=>W a\/F3 a) ⟨λ_=>Iff.rfl,t3⟩<|c4.less f5).big λa h=>h.elim (λz=>(Y.all a).mpr<|.inl z) λz=>U a<|f3 a z
        have al:∀a,W a->R4 a:=λa h=>c4.left a (L.sub a<|(Y.all a).mpr<|.inl h) λz=>t3 a h z
        refine⟨Gf.fg d2,λa=>W a\/F5 a,F5,R4,Ch.trans' s' L.tab ah ak,⟨λa h=>h.elim (al a) λz=>f.sub a<|f5 a z,f.wn,f.tab,f.uQ,λh=>h.elim (λz=>L.uF<|(Y.all T).mpr<|.inl z) λz=>f.uF<|f5 T z⟩,⟨λ_=>Iff.rfl,λa h k=>t4 a h<|f5 a k⟩,r5,?_,(a1.trans a3).trans a4,q4⟩
        exact pk p2 (G:=λa=>F3 a\/a=T) (λa h=>h.elim (S3.sub a) λz=>by rw[z];exact L.uQ) (λa h z=>z.elim (t3 a h) λz=>L.uF<|(Y.all T).mpr<|.inl<|by rw[<- z];exact h) c4.ext
      · refine kr x p' v M1 M2 R4 H4 q4 (Ch.trans s L.tab aa<|c4.big λa h => U a<|f3 a h) ⟨dp.dp ((a1.trans a3).sub h1) f.rel, f.sub, f.wn, f.tab, f.uQ, f.uF⟩ n4
      · exact ke C y p' F4 R4 H4 q4 (Ch.trans s L.tab aa<|c4.big λa h => U a<|f3 a h) ⟨dp.dp ((a1.trans a3).sub h1) f.rel, f.sub, f.wn, f.tab, f.uQ, f.uF⟩
    · have e : i = P.length := by omega
      subst e
      rw[tT] at w1
      exact .inl ⟨ip.stop p1,kn _ G j M l w1 cc ⟨pb V r G j M l p1 r1 (a1.sub h2) Y,N.sub,N.wn,N.tab,N.uQ,N.uF⟩<|a1.sub h1⟩
  · refine tX (vG (PO := PO) s') λG g1 g2 => ?_
    exact ke C y _ G R' H' q (c.less g1) g2
end
end WL
namespace L2
open PySem PySem.Spec PyProof.Rows
section
variable{X:Cx}{elt iter tg:gA}{scope:jO}{cl:List (Str×ci)}{T Fr:List Str}{idx:List Nat}{wi:TI}{pos:Pos}{ifs:List gA}
theorem B4{pins:List (ci×Obj)}{σ:St}{s2:fH}{H2:Hp}{J:It}{fp:List ci}{it:ci}{tn:Nat->gE->Prop}{E:cr->fH->Prop}{RR:cr->ci->Result->fH->Prop}{P:List V->Hp->Prop}(hcm:X.calm=true)
  (B:Ak X scope cl T Fr idx) 
  (I2:Inv X pins σ H2 s2) (Tn:Turn X.prog X.w X.K tg J fp it tn) (Yx:tn 0 s2.heap) (f2:∀b∈fp,Ac X pins H2 b)
  (hb:∀s₀ H₀ C ex pn,∃(g:TG)(tt:TT)(te:TE),(PG (DQ X scope cl (T++Fr) s₀ H₀ C ex pn) tg g/\Vg (DQ X scope cl (T++Fr) s₀ H₀ C ex pn) ifs tt/\PE (DQ X scope cl (T++Fr) s₀ H₀ C ex pn) elt te)/\∃W:Nat->Nat->List V->St->Hp->Prop,(∃m,W 0 m [] (wp T idx σ) H2)/\∀i m ys σ' H,W i m ys σ' H->(J.stop i H/\P ys H)\/(J.go i H/\ys.length<fK/\∀x H',J.GF i H x H'->g x σ' H' λYy H2=>tt Yy H2 λb H3=>if b=true then te Yy H3 λy H4=>∃m',m'<m/\W (i+1) m' (ys++[y]) Yy H4 else ∃m',m'<m/\W (i+1) m' ys Yy H3))
  (hRR:∀(D C:ci)(s':fH)(H':Hp)(ys:List V),H' D=none->P ys H'->Inv X pins σ (upd H' D<|.lst ys) s'->(∃m,s'.heap.Ns C m)->(upd H' D<|.lst ys) C=none->C≠X.env.locals->X.s₀.heap.objs.size<=C->(∀x c,X.env.cells.lookup x=some c->c≠C)->(∀p∈X.pn++pins,p.1≠C)->RR (.ref D) C (.ok .next) s') :
  fO (fS X.prog X.w) X.A (tJ []) (λacc ZG=>fO (fS X.prog X.w) X.A (newFunctionEnv scope X.env.globals cl [] X.env.qual none .none (some X.env)) (λcenv ZH =>
   kW (fS X.prog X.w) X.A (.compStart (.ListComp elt [⟨tg,iter,ifs,0⟩] scope pos) 0 (.ref it) acc { cenv with scope:=pf scope X.env}) (RR acc cenv.locals) ZH) E ZG) E s2:=by
 refine gN<|wpAny_newFunctionEnv B.Al (by intro y hy;simp at hy) (λh4 ZI Xa=>?_) B.kind;dsimp only at ZI Xa ⊢;have Yz:∀b o,s2.heap.get? b=some o->(s2.heap.push { cls:=.type "list",dict:=none,data:=.seq ([]:List cr).toArray}).get? b=some o:=λb o e=>ce _ e;have oD3:(s2.heap.push { cls:=.type "list",dict:=none,data:=.seq ([]:List cr).toArray}).get? s2.heap.objs.size=some { cls:=.type "list",dict:=none,data:=.seq ([]:List cr).toArray}:=fU _ rfl;have sz3:(s2.heap.push { cls:=.type "list",dict:=none,data:=.seq ([]:List cr).toArray}).objs.size=s2.heap.objs.size+1:=iF _ _;generalize s2.heap.push { cls:=.type "list",dict:=none,data:=.seq ([]:List cr).toArray}=h3 at ZI Xa Yz oD3 sz3 ⊢;have I3:Inv X pins σ H2 { s2 with heap:=h3}:=I2.kept (t':=s2.toks) Yz;have Oh:H2 s2.heap.objs.size=none:=I2.uO.fresh<|fJ _;have Vw:∀b o,h3.get? b=some o->h4.get? b=some o:=λb o e=>Xa.extBut b o (fX<|fQ e)<|ce _ e;have Oi:H2 h3.objs.size=none:=I3.uO.fresh<|fJ _;have Xm:s2.heap.objs.size≠h3.objs.size:=by rw[sz3];exact fX<|iA _
 -- facts about D,C,fp in X
 have fD:Ac X pins H2 s2.heap.objs.size:=I2.ET (fJ _) Oh;have fC:Ac X pins H2 h3.objs.size:=I3.ET (fJ _) Oi
 have Hr:∀b∈s2.heap.objs.size::fp,Ac X pins H2 b/\b≠h3.objs.size:=λb yc=>by
  rcases List.mem_cons.mp yc with e|e
  ·subst e;exact⟨fD,Xm⟩
  ·refine⟨f2 b e,?_⟩;obtain⟨o,ho,_⟩:=Tn.obj 0 _ Yx b e;exact fX<|fQ<|Yz b o ho
 -- the YA context
 generalize Fw:DQ X scope cl (T++Fr) { s2 with heap:=h3} H2 h3.objs.size (s2.heap.objs.size::fp) (X.pn++pins)=X';obtain⟨g,tt,te,⟨hG,hT,hE⟩,W,w0,turn⟩:=hb { s2 with heap:=h3} H2 h3.objs.size (s2.heap.objs.size::fp) (X.pn++pins);rw[Fw] at hG hT hE
 have ok':X'.Ok:=by
  subst Fw
  exact {
   mod:=I3.ok.mod
   kind:=B.kind
   glob:=I3.ok.glob
   blt:=I3.ok.blt
   above:=fJ _
   inj:=λx y c e1 e2=>I3.ok.inj x y c (B.sub x c e1)<|B.sub y c e2
   has:=λx h=>B.has h
   MV:=λx c h=>by cases h
   hd:=I3.ok.hd
   frames:=I3.ok.frames
   A9:=.inl rfl
   QO:=λb yc=>⟨(Hr b yc).2,λx c e=>(Hr b yc).1.2.2.2.2.1 x c<|B.sub x c e⟩
   bs:=λb o e=>I3.bs b o e
   GN:=gZ I3.ok.GN I3.sz
   Cb:=λb o e yc=>by
    rcases(Hr b yc).1.2.2.2.1 with z|z
    ·exact I3.ok.Cb b o e z
    ·exact fY (ga (fQ e)<|gZ I3.ok.GN z)<|iV _
   CM:=λb yc hf=>by
    rcases List.mem_cons.mp (I3.CN b hf) with z|z
    ·exact(Hr b yc).1.2.1 z
    ·exact(Hr b yc).1.2.2.1 z
   xz:=I3.stack
   H0:=λb yc=>I3.Kc b yc}
 have xA:X'.A=X.A:=by subst Fw;rfl
 have xp:X'.prog=X.prog:=by subst Fw;rfl
 have xw:X'.w=X.w:=by subst Fw;rfl
 have xK:X'.K=X.K:=by subst Fw;rfl
 have xc:X'.calm=true:=by subst Fw;exact hcm
 have xe:X'.env=rS scope cl h3.objs.size X.env:=by subst Fw;rfl
 have I4:Inv X' [] (wp T idx σ) H2 { s2 with heap:=h4}:=by
  have hN:X'.N=T++Fr:=by subst Fw;rfl
  refine⟨ok',by subst Fw;rfl,I3.bare,by subst Fw;exact Un.kept Vw,?_,?_,by subst Fw;exact Oi,?_,?_,?_,?_⟩
  ·obtain⟨m,hn,hl⟩:=I3.loc;refine⟨_,by rw[xe];exact ZI,λi x v e1 e2 e3=>?_⟩;rw[hN] at e1;unfold wp at e2;by_cases hi:i<T.length
   ·rw[ku (by rw[fN];exact hi),iK,iz hi] at e2;cases e2
   ·rw[iW q0a] at e1;rw[iW (by rw[fN];lia),fN,iK] at e2;obtain⟨i0,c,q1,q2,q3,q4,q5⟩:=B.fr _ x e1;rw[q1] at e2;have YB:(σ[i0]?).join=some v:=gV e2
    have ZJ:σ[i0]?=some (some v):=by
     cases z:σ[i0]? with
     | none=>rw[z] at YB;cases YB
     | some y=>rw[z] at YB;have:y=some v:=YB;rw[this]
    obtain⟨u,r,l⟩:=hl i0 x v q2 ZJ (by
     rcases q3 with z|z
     ·exact .inr<|.inl z
     ·exact .inr (.inr z))
    refine⟨u,r,?_⟩;rcases l with⟨k,_⟩|⟨k,c',e,z⟩
    ·rcases q3 with y|y<;>(rw[y] at k;cases k)
    ·have:=B.sub x c q4;rw[e] at this;cases this;refine .inr ⟨by rw[xe];exact q5,_,by rw[xe];exact q4,?_⟩;obtain⟨o,ho,hd⟩:=z;exact⟨o,Vw _ _ ho,hd⟩
  ·intro x c e;rw[xe] at e;obtain⟨v,o,ho,hd⟩:=I3.cell x c<|B.sub x c e;exact⟨v,o,Vw _ _ ho,hd⟩
  ·intro x c e;rw[xe] at e;exact I3.xg x c<|B.sub x c e
  ·intro p hp;have ZK:p∈X.pn++pins:=by subst Fw;simpa using hp
   obtain⟨a1,a2,a3,a4,a5⟩:=I3.pin p ZK;refine⟨Vw _ _ a1,a2,?_,?_,a5⟩
   ·rw[xe];exact fX<|fQ a1
   ·subst Fw;intro hf;rcases List.mem_cons.mp (I3.CN _ hf) with z|z
    ·exact a3 z
    ·exact a4 z
  ·subst Fw;exact I3.uO.kept Vw
  ·rw[hN];unfold wp;rw[fV,fV,fN,fN,B.len]
 have oD4:=Vw _ _ oD3;have st4:tn 0 h4:=Tn.keep _ _ _ Yx λb _ o e=>Vw b o<|Yz b o e
 -- ZL stays true of the Vx objects and of D
 have Xn:∀{H':Hp} {pins':List (ci×Obj)},(∀p∈pins',p.1∉s2.heap.objs.size::fp)->(∀b∈s2.heap.objs.size::fp,H' b=none)->∀b∈s2.heap.objs.size::fp,Ac X' pins' H' b:=by
  intro H' pins' hp hn b yc;subst Fw;obtain⟨⟨z1,z2,z3,z4,z5,z6⟩,z7⟩:=Hr b yc;refine⟨hn b yc,z7,?_,.inl yc,λx c e=>z5 x c<|B.sub x c e,λp ZK=>?_⟩
  ·intro hf;rcases List.mem_cons.mp (I3.CN b hf) with z|z
   ·exact z2 z
   ·exact z3 z
  ·rcases List.mem_append.mp ZK with q|q
   ·exact z6 p q
   ·intro e;exact hp p q (by rw[e];exact yc)
 have ZM:∀{h:gE} {p:ci×Obj},p∈Be (s2.heap.objs.size::fp) h->p.1∈s2.heap.objs.size::fp:=λhp=>(Ef hp).1
 -- the end
 have fin:∀(s5:fH)(MX:St)(H5:Hp)(ys:List V)(yP:List cr)(nD:Nat),Inv X' [] MX H5 s5->(∀b∈s2.heap.objs.size::fp,H5 b=none)->s5.heap.get? s2.heap.objs.size=some { cls:=.type "list",dict:=none,data:=.seq yP.toArray nD}->Vals ys yP->ys.length<=fK->P ys H5->RR (.ref s2.heap.objs.size) h3.objs.size (.ok .next) s5:=by
  intro s5 MX H5 ys yP nD I5 n5 YC v5 l5 q5;have D5:=n5 _ fM;have Vy:Un (yf X.stack) (s2.heap.objs.size::fp) H2 H5 h3 s5.heap:=by have z:=I5.base;subst Fw;exact z
  have C5:H5 h3.objs.size=none:=by have z:=I5.free;rw[xe] at z;exact z
  have ZN:wU X.prog X.w (upd H5 s2.heap.objs.size<|.lst ys) s5.heap:=wU.T4 (by have z:=I5.uO;rw[xp,xw] at z;exact z) D5 ⟨l5,yP,nD,v5,YC⟩
  have u5:Un (yf X.stack) (s2.heap.objs.size::fp) H2 (upd H5 s2.heap.objs.size<|.lst ys) h3 s5.heap:=by have Xo:∀b u,H2 b=some u->b≠s2.heap.objs.size:=λb u e=>uf e Oh;exact⟨Vy.keep,Vy.slot,λb o e n hx=>by rw[ss<|λz=>hx<|by rw[z];exact fM];exact Vy.free b o e n hx,Vy.there,λb xs e=>by rw[ss<|Xo b _ e];exact Vy.Ap b xs e,λb o u e=>by rw[ss<|Xo b _ e];exact Vy.Aa b o u e,λb ps e=>by rw[ss<|Xo b _ e];exact Vy.Ab b ps e⟩
  have os5:s5.os=s2.os:=by have z:=I5.os;subst Fw;exact z
  have IX:Inv X pins σ (upd H5 s2.heap.objs.size<|.lst ys) s5:=Inv.TH (s:={ s2 with heap:=h3}) I3 os5 u5 ZN I5.bare λb yc=>by obtain⟨⟨z1,z2,z3,z4,z5,z6⟩,z7⟩:=Hr b yc;exact⟨z4,z2,z5,z6⟩
  obtain⟨m5,ns5,_⟩:=I5.loc;rw[xe] at ns5;refine hRR s2.heap.objs.size h3.objs.size s5 H5 ys D5 q5 IX ⟨m5,ns5⟩ (by rw[ss<|Ne.symm Xm];exact C5) fC.2.1 (gZ I3.sz<|fJ _) fC.2.2.2.2.1 fC.2.2.2.2.2
 obtain⟨m0,w0⟩:=w0
 have loop:kW (fS X.prog X.w) X.A (.compLoop (.ListComp elt [⟨tg,iter,ifs,0⟩] scope pos) 0 (.ref it) (.ref s2.heap.objs.size)<|rS scope cl h3.objs.size X.env) (RR (.ref s2.heap.objs.size) h3.objs.size) { s2 with heap:=h4}:=by
  refine NQ (λn s5=>∃i ys yP nD MX H5,Inv X' [] MX H5 s5/\tn i s5.heap/\(∀b∈s2.heap.objs.size::fp,H5 b=none)/\s5.heap.get? s2.heap.objs.size=some { cls:=.type "list",dict:=none,data:=.seq yP.toArray nD}/\Vals ys yP/\ys.length<=fK/\W i n ys MX H5) ?_ m0
   ⟨0,[],[],0,wp T idx σ,H2,I4,st4,λb yc=>(Hr b yc).1.1,oD4,.nil,g9 _,w0⟩
  rintro n s5 ⟨i,ys,yP,nD,MX,H5,I5,MW,n5,YC,v5,l5,w5⟩;have f5:=Xn (pins':=[]) (λp hp=>by cases hp) n5;rcases turn i n ys MX H5 w5 with⟨stop,q⟩|⟨go,ll,step⟩
  ·have z:=Tn.done X' xp xw xK xc i [] s5 MX H5 (λ_ _=>False) I5 (λb yc=>f5 b<|fP _ yc) MW stop;rw[xA] at z
   -- D is not touched by the end
   have z2:=Tn.done X' xp xw xK xc i [(s2.heap.objs.size,{ cls:=.type "list",dict:=none,data:=.seq yP.toArray nD})] s5 MX H5 (λ_ _=>False) (I5.ym λp hp=>by
    obtain rfl:=List.mem_singleton.mp hp;have Vz:=f5 _ fM
    exact⟨YC,Vz.1,Vz.2.1,Vz.2.2.1,λv z=>nomatch z⟩) (λb yc=>by
     obtain⟨a1,a2,a3,a4,a5,a6⟩:=f5 b<|fP _ yc;refine⟨a1,a2,a3,a4,a5,λp hp=>?_⟩;rcases List.mem_append.mp hp with y|y
     ·exact a6 p<|g8 _ y
     ·obtain rfl:=List.mem_singleton.mp y;intro e;obtain⟨o,ho,_⟩:=Tn.obj 0 _ Yx b yc
      exact iV _ (ga (fQ ho) (pB (show s2.heap.objs.size=b from e)))) MW stop
   rw[xA] at z2;refine uL z2 λr s6 z9=>QJ z9 λhr I6=>?_;subst hr;have p6:=I6.pin _<|gg _<|List.mem_singleton.mpr rfl;exact fin s6 MX H5 ys yP nD (I6.ym λp hp=>by cases hp) n5 p6.1 v5 l5 q
  ·have Vz:=f5 _ fM
   have I5p:=I5.ym (pins':=[(s2.heap.objs.size,{ cls:=.type "list",dict:=none,data:=.seq yP.toArray nD})]) λp hp=>by obtain rfl:=List.mem_singleton.mp hp;exact⟨YC,Vz.1,Vz.2.1,Vz.2.2.1,λv z=>nomatch z⟩
   have fpD:∀b∈fp,b≠s2.heap.objs.size:=λb yc=>by obtain⟨o,ho,_⟩:=Tn.obj 0 _ Yx b yc;exact fX<|fQ ho
   have fpP:∀{H':Hp},(∀b∈fp,H' b=none)->∀b∈fp,Ac X' [(s2.heap.objs.size,{ cls:=.type "list",dict:=none,data:=.seq yP.toArray nD})] H' b:=by
    intro H' hn b yc;obtain⟨a1,a2,a3,a4,a5,a6⟩:=f5 b<|fP _ yc;refine⟨hn b yc,a2,a3,a4,a5,λp hp=>?_⟩;rcases List.mem_append.mp hp with y|y
    ·exact a6 p<|g8 _ y
    ·obtain rfl:=List.mem_singleton.mp y;exact Ne.symm<|fpD b yc
   have z:=Tn.item X' xp xw xK xc i _ s5 MX H5 (λ_ _=>False) I5p (fpP λb yc=>n5 b<|fP _ yc) MW go;rw[xA] at z;refine uL z λr s6 z9=>tX z9 λu hr h6=>?_;subst hr;refine uL h6 λ_ s7 z9=>Uo z9 λx H7 I7 r7 y7 ZO n7=>?_;have I7':=I7.pinned (fpP n7)<|Tn.obj _ _ ZO;have xx:X'.xe=λ_ _=>False:=by subst Fw;rfl
   have zG:=hG _ s7 MX H7 x u _ I7' r7<|step x H7 y7;rw[xp,xw,xA,xe,xx] at zG;refine uL zG λ_ s8 z9=>vS z9 λVA H8 I8 q8=>?_;have zT:=hT _ s8 VA H8 _ I8 q8;rw[xp,xw,xA,xe,xx] at zT;refine uL zT λok s9 z9=>tX z9 λH9 I9 q9=>?_
   -- ZL holds behind the turn
   have behind:∀{H':Hp} {s':fH},Inv X' ([(s2.heap.objs.size,{ cls:=.type "list",dict:=none,data:=.seq yP.toArray nD})]++Be fp s7.heap) VA H' s'->s'.heap.get? s2.heap.objs.size=some { cls:=.type "list",dict:=none,data:=.seq yP.toArray nD}/\tn (i+1) s'.heap/\∀b∈s2.heap.objs.size::fp,H' b=none:=by
    intro H' s' I';have pD:=I'.pin _<|gg _<|g8 _<|List.mem_singleton.mpr rfl;refine⟨pD.1,Tn.keep _ _ _ ZO λb yc o e=>(I'.pin (b,o)<|gg _<|gg _<|wC yc e).1,λb yc=>?_⟩;rcases List.mem_cons.mp yc with e|e
    ·rw[e];exact pD.2.1
    ·obtain⟨o,e',_⟩:=Tn.obj _ _ ZO b e;exact(I'.pin (b,o)<|gg _<|gg _<|wC e e').2.1
   cases ok with
   | false =>
    rw[fF fT] at q9 ⊢;obtain⟨m',hm,w'⟩:=q9;obtain⟨b1,b2,b3⟩:=behind I9;exact⟨m',hm,i+1,ys,yP,nD,VA,H9,I9.ym (λp hp=>by cases hp),b2,b3,b1,v5,l5,w'⟩
   | true =>
    rw[fE rfl] at q9 ⊢;have zE:=hE _ s9 VA H9 _ I9 q9;rw[xp,xw,xA,xe,xx] at zE;refine uL zE λy ZP z9=>ut z9 λyv ZQ I10 r10 z69=>tX z69 λm' hm w'=>?_;obtain⟨b1,b2,b3⟩:=behind I10;have hlen:=v5.length;refine wpAny_list_append_plain (items:=yP.toArray) ⟨nD,b1⟩ (λh11 ZR Xp=>?_) (by rw[fW];lia);obtain⟨Xo,o11⟩:=ZR;have ZS:Inv X' [] VA ZQ ZP:=I10.ym λp hp=>by cases hp
    obtain⟨a1,a2,a3,a4,a5,a6⟩:=Xn (pins':=[]) (λp hp=>by cases hp) b3 _ fM;have I11:Inv X' [] VA ZQ { ZP with heap:=h11}:=ZS.turned (t':=ZP.toks) (λb o yc e=>(Xp.2 b yc).trans e) a1 a2 a4 a5 a6;refine⟨m',hm,i+1,ys++[yv],yP++[y],Xo,VA,ZQ,I11,Tn.keep _ _ _ b2 λb yc o e=>(Xp.2 b<|fpD b yc).trans e,b3,by simpa using o11,v5.append<|.cons r10 .nil,by rw[fV,gh];lia,w'⟩
 exact codeAny_compStart_list loop<|Tn.self _ 0 _ _ _ st4 loop
def VB(X:Cx)(elt tg:gA)(ifs:List gA)(scope:jO)(cl:List (Str×ci))(T Fr:List Str)(idx:List Nat)(wi:TI):TE:=λl H Q=>wi l H λJ s=>∀a c C j k,∃(g:TG)(n:TT)(o:TE),(PG (DQ X scope cl (T++Fr) a c C j k) tg g/\Vg (DQ X scope cl (T++Fr) a c C j k) ifs n/\PE (DQ X scope cl (T++Fr) a c C j k) elt o)/\∃W:Nat->Nat->List V->St->Hp->Prop,(∃m,W 0 m [] (wp T idx l) s)/\∀i m e f H,W i m e f H ->
 (J.stop i H/\∀p,H p=none->Q (.ref p) (upd H p<|.lst e))\/(J.go i H/\e.length<fK/\∀x q,J.GF i H x q->g x f q λd t=>n d t λb r=>if b=true then o d r λy u=>∃h,h<m/\W (i+1) h (e++[y]) d u else ∃h,h<m/\W (i+1) h e d r)
theorem Oj(c:X.calm=true)(k:PI X tg iter wi)(B:Ak X scope cl T Fr idx) 
 (l:∀x,jg iter X.env x=pure x:=by intro _;rfl):PE X (.ListComp elt [⟨tg,iter,ifs,0⟩] scope pos) (VB X elt tg ifs scope cl T Fr idx wi):=by
  intro a s i H Q I h
  rw[eval_ListComp]
  refine nO (use:=none) rfl l B.Xf B.kind B.names<|uL (k a s i H _ I h) λv V n=>uL n λr W t=>?_
  obtain⟨Y,Z,tn,J,H2,e,u,y,d,z,E⟩:=t
  subst e
  refine B4 (RR:=λf C=>compPost (fS X.prog X.w) X.A X.xe none (EP X a i Q) f C) (P:=λj H=>∀p,H p=none->Q (.ref p) (upd H p<|.lst j)) c B u y d z E ?_
  intro D C F H' j G q K ⟨m,L⟩ M N O R S
  exact⟨m,L,λh' U=>⟨.ref D,_,K.turned (t':=F.toks) (λb o g e=>(U.2 b g).trans e) M N (.inr O) R S,rfl,q D G⟩⟩
def RH(X:Cx)(elt tg:gA)(ifs:List gA)(scope:jO)(cl:List (Str×ci))(T Fr:List Str)(idx:List Nat)(wi:TI)(j:Nat):TS:=λD k H=>wi k H λJ t=>∀a c C l n,∃(g:TG)(o:TT)(q:TE),(PG (DQ X scope cl (T++Fr) a c C l n) tg g/\Vg (DQ X scope cl (T++Fr) a c C l n) ifs o/\PE (DQ X scope cl (T++Fr) a c C l n) elt q)/\∃W:Nat->Nat->List V->St->Hp->Prop,(∃m,W 0 m [] (wp T idx k) t)/\∀i m e f H,W i m e f H ->
 (J.stop i H/\∀p,H p=none->D.nx (k.set j<|some<|.ref p) (upd H p<|.lst e))\/(J.go i H/\e.length<fK/\∀x r,J.GF i H x r->g x f r λd u=>o d u λb s=>if b=true then q d s λy v=>∃h,h<m/\W (i+1) h (e++[y]) d v else ∃h,h<m/\W (i+1) h e d s)
set_option tactic.hygienic true in
theorem Ol{j:Nat}{d:Pos}(M:X.N.Nodup)(O:X.N[j]?=some y)(E:X.env.scope.names.lookup y=some .local)(g:i4 (.ListComp elt [⟨tg,iter,ifs,0⟩] scope pos) (some<|.Name y py) d.line X.env=pure true)
 (i:X.calm=true) (R:PI X tg iter wi) (B:Ak X scope cl T Fr idx) 
 (S:∀x,jg iter X.env x=pure x:=by intro _;rfl):PS X (.Assign [.Name y py] (.ListComp elt [⟨tg,iter,ifs,0⟩] scope pos) d) (RH X elt tg ifs scope cl T Fr idx wi j):=by
  intro c s F H D I h
  rw[exec_Assign_Name_used _ _ _ _ g]
  refine am<|lY<|am ?_
  show fO _ X.A (do let _ <- comprehension (.ListComp elt [⟨tg,iter,ifs,0⟩] scope pos) scope X.env _ (tJ []) false (eval iter X.env) (some<|pL (.Name y py) X.env)) _ _ s
  refine am<|uL (nO (use:=some<|pL (.Name y py) X.env) (Q:=λ_ f=>SP X c D .next f) rfl S B.Xf B.kind B.names<|uL (R c s F H _ I h) λv s1 U=>uL U λV s2 W=>?_) λ_ f Y=>ap<|ap Y
  obtain⟨it,fp,tn,J,H2,e,Z,Tn,k,f2,hb⟩:=W
  subst e
  refine B4 (RR:=λl C=>compPost (fS X.prog X.w) X.A X.xe (some<|pL (.Name y py) X.env) (λ_ f=>SP X c D .next f) l C) (P:=λG H=>∀p,H p=none->D.nx (F.set j<|some<|.ref p) (upd H p<|.lst G)) i B Z Tn k f2 hb ?_
  intro n C f H' G hD q IX ⟨m,ns⟩ hC K c2 L c4
  show fO _ X.A (pL (.Name y py) X.env<|.ref n) _ _ _
  refine wpAny_assign_Name<|Ed IX M O (.inl E) (v:=.ref n) rfl (λs3 I3 z9=>tX z9 λa r ha=>?_)<|.inr E
  have t:C≠a:=by
    rcases ha with z|z
    · rw[z]; exact K
    · exact Ne.symm<|L _ _ z
  exact⟨m,ns.sameBut r t,λh' sb=>⟨_,_,I3.turned (t':=s3.toks) (λb o u e=>(sb.2 b u).trans e) hC K (.inr c2) L c4,q n hD⟩⟩
end
end L2
namespace WL
variable[L2.GX]
open PySem L2
open Rep (rp)
open Ow (sl)
open Sls (rel)
class Pre(k:Nat)(S:Type)[Sls S](Db:outParam Type)[Sls Db] where
 pre:S->Db
 suf:Db->S
 ok:∀{F R:Rg} {H:Hp} {s:S} {σ:St} (τ:St),τ.length=k->rel F R H s σ->rel F R H (pre s) (τ++σ)
 un:∀{F R:Rg} {H:Hp} {d:Db} {σ:St},rel F R H d σ->rel F R H (suf d) (σ.drop k)
 eta:∀d,pre (suf d)=d
 Xq:∀s,suf (pre s)=s
instance pre0{S:Type}[Sls S]:Pre 0 S S:=⟨id,id,λτ h r=>by rw[List.length_eq_zero_iff.mp h];exact r,λr=>r,λ_=>rfl,λ_=>rfl⟩
instance preS{k:Nat}{S Db:Type}[Sls S][Sls Db][A:Pre k S Db]:Pre (k+1) S (Un×Db):=⟨λs=>(⟨⟩,A.pre s),λd=>A.suf d.2,λ{F R H s σ} τ h r=>by
  cases τ with
  | nil=>cases h
  | cons v τ'=>exact⟨v,τ'++σ,λ_=>False,F,rfl,two_nil F,λ_ z=>z,A.ok τ' (by simpa using h) r⟩,
 λ{F R H d σ} r=>by
  obtain⟨v,σ',F1,F2,rfl,h2,h3,h4⟩:=r
  exact A.un<|Sls.fq h4<|two_eq h2 h3,
 λd=>by
  obtain⟨⟨⟩,d⟩:=d;show (_,_)=(_,_)
  rw[A.eta],
 λs=>A.Xq s⟩
def AM{α γ S:Type}(b:α->S->(Option γ->S->Prop)->Prop):List α->S->(List γ->S->Prop)->Prop
 | [],s,K=>K [] s
 | x::xs,s,K=>b x s λo s'=>AM b xs s' λys QZ=>K (o.toList++ys) QZ
def Xr(X:Cx)(T:ci)(a:List gA){D:Type}[Sls D](w:Wf D Bool D):Prop :=
 ∃t,Vg X a t/\∀(d:D)(F R:Rg)(b:St)(H:Hp)(e:Bool->D->Prop)(Q:Bool->Hp->Prop),ve T F R H d b->w d e (λ_ _=>False) ->
  (∀x f g h c,e x f->Ch T F R H g h c->ve T g h c f b->Q x c)->t b H Q
abbrev XF:XK:=λ_ _ _=>False
theorem tws_nil[Sls D]:Xr X T [] (λ(d:D) a _=>a true d):=⟨_,Rq,λd F R e H a Q s b c=>c true d F R H b (Ch.refl _ _ _ _) s⟩
theorem tws_one{D:Type}[Sls D]{w:Wf D Bool D}(h:TW X XF T c w):Xr X T [c] w:=tX h λt a b=> ⟨t,Rr a,λd F R e H f Q s g i=>b d F R e H f _ Q s g i λ_ _ _ _ _ _ z=>z.elim⟩
section
variable{X:Cx}{E:XK}{T:ci}{ms mb is:List Nat}{n k:Nat}{D B S B0 Db D1 PO τ α γ:Type}[Sls D][Sls B][Sls S][Sls B0][Sls Db][Sls D1][Sls PO][Ow τ][Rep α][Rep γ]{pos:Pos}{tg iter elt:gA}{ifs:List gA}{scope:jO}{cl:List (Str×ci)}{Ts Fr:List Str}{idx:List Nat}
abbrev stepC(P:Pre k S Db)(a:Fg D1 Db)(g:Db->α->D1)(c:Wf D1 Bool D1)(d:Wf D1 γ D1):α->S->(Option γ->S->Prop)->Prop :=
 λx s K=>c (g (P.pre s) x) (λt b=>if t=true then d b (λy e=>K (some y)<|P.suf<|a.fg e) (λ_ _=>False) else K none (P.suf<|a.fg b)) λ_ _=>False
theorem Ex[P:Pre k S Db][Gf:Fg D1 Db]{g:Db->α->D1}{wt:Wf D1 Bool D1}{we:Wf D1 γ D1}{J:It}{Ps:Rg->Hp->Prop}{M:List α}{F1 Fs Z:Rg}{R:Hp}{σ:St}{s0:S}{K:List γ->S->Prop}{ag:List V->Hp->Prop}
  (hk:Ts.length=k) (ao:∀i,k<=i->i<k+idx.length->i∈mb)
  (hG:∀d f C L N,GW (DQ X scope cl (Ts++Fr) d f C L N) T mb tg g) (hT:∀d f C L N,Xr (DQ X scope cl (Ts++Fr) d f C L N) T ifs wt) (hE:∀d f C L N,EW (DQ X scope cl (Ts++Fr) d f C L N) XF T elt we)
  (hz:M.length<=fK) (ip:Wp J M Ps) (ps:Ps Z R) (pk:∀{G Ra Rb:Rg} {Ha Hb:Hp},Ps Ra Ha->(∀a,G a->Ra a)->(∀a,F1 a->¬G a)->Ext G Ra Ha Rb Hb->Ps Rb Hb)
  (s':Std T Fs Z R) (U:∀a,F1 a->Z a/\¬Fs a/\a≠T) (aq:rel Fs Z R s0 (idx.map λi=>σ[i]?.join)) (hw:AM (stepC P Gf g wt we) M s0 K)
  (ar:∀F O I l r Q,K F O->Ch T Fs Z R I l r->Std T I l r->rel I l r O (idx.map λi=>σ[i]?.join)->Ps l r->Paired (rp l r) F Q->ag Q r) :
  ∀d f C L N,∃(g:TG)(tt:TT)(te:TE),(PG (DQ X scope cl (Ts++Fr) d f C L N) tg g/\Vg (DQ X scope cl (Ts++Fr) d f C L N) ifs tt/\PE (DQ X scope cl (Ts++Fr) d f C L N) elt te)/\∃W:Nat->Nat->List V->St->Hp->Prop,(∃m,W 0 m [] (wp Ts idx σ) R)/\∀i m Q ah H,W i m Q ah H ->
   (J.stop i H/\ag Q H)\/(J.go i H/\Q.length<fK/\∀x R,J.GF i H x R->g x ah R λs Y=>tt s Y λb H3=>if b=true then te s H3 λy H4=>∃m',m'<m/\W (i+1) m' (Q++[y]) s H4 else ∃m',m'<m/\W (i+1) m' Q s H3):=by
 intro d f C L N;refine tX (hG d f C L N) λau g1 g2=>?_;refine tX (hT d f C L N) λtt t1 t2=>?_;refine tX (hE d f C L N) λte e1 e2=>?_;have aC:(wp Ts idx σ).length=k+idx.length:=by unfold wp;rw[fV,fN,fN,hk]
 have aa:∀{w:St},Ag mb (wp Ts idx σ) w->w.drop k=idx.map λi=>σ[i]?.join:=λ{w} a=>by
  apply pc;intro j;rw[sL];by_cases hj:j<idx.length
  ·rw[a.2 (k+j)<|ao _ q0a q0a];unfold wp;rw[iW (by rw[fN,hk];lia),fN,hk,Nat.add_sub_cancel_left]
  ·rw[jo (by have:=a.1;lia),jo<|by rw[fN];lia]
 refine⟨au,tt,te,⟨g1,t1,e1⟩,λi m Q w r=>m=M.length-i/\i<=M.length/\∃O I l F,Ch T Fs Z R I l r/\Std T I l r/\rel I l r (P.pre O) w/\Ps l r/\Ag mb (wp Ts idx σ) w/\Paired (rp l r) F Q/\F.length<=i/\AM (stepC P Gf g wt we) (M.drop i) O (λws s'=>K (F++ws) s'),
  ⟨_,rfl,g9 _,s0,Fs,Z,[],Ch.refl _ _ _ _,s',P.ok _ (by rw[fN,hk]) aq,ps,Ag.refl _ _,.nil,g9 _,by simpa using hw⟩,?_⟩
 rintro i m Q w r ⟨rfl,hi,O,I,l,F,c1,A,r1,p1,a1,pz,lz,w1⟩;have aE:=Paired.length pz;by_cases ab:i<M.length
 ·refine .inr ⟨ip.go p1 ab,q0a,λx Y y=>?_⟩;obtain⟨hH,x',av,rx⟩:=ip.GF p1 A.wn ab y;have aw:∀{G l:Rg} {r:Hp},Ch T Fs Z R G l r->∀a,F1 a->l a/\¬G a:=λc a h=>⟨c.left a (U a h).1 (U a h).2.1,λz=>(c.xo a z).elim (U a h).2.1 λq=>s'.wn a (U a h).1 q⟩
  have ax:Ch T I l r I l Y/\Std T I l Y/\rel I l Y (P.pre O) w/\Ps l Y/\Paired (rp l Y) F Q:=by
   rcases hH with e|⟨p,o,hp,e⟩
   ·subst e;exact⟨Ch.refl _ _ _ _,A,r1,p1,pz⟩
   ·subst e;have kk:∀b u,r b=some u->upd r p o b=some u:=λb u e=>by rw[ss<|uf e hp];exact e
    have L:Ext (λ_=>False) l r l (upd r p o):=⟨λb u _ e=>kk b u e,λa h=>.inl h⟩;refine⟨⟨λb u _ _ e=>kk b u e,λa h=>.inl h,λa h=>.inl h,λa h _=>h⟩,⟨A.sub,λa z=>?_,?_,A.uQ,A.uF⟩,Sls.st r1 L (λ_ z=>z.elim)<|λ_ _ z=>z,pk p1 (λ_ z=>z.elim) (λ_ _ z=>z) L,vh (L.wide λ_ z=>z.elim) pz⟩
    ·cases e:r a with
     | none=>exact fY e<|A.wn a z
     | some u=>rw[kk a u e];simp
    ·refine tX A.tab λqs e t=>?_;exact⟨qs,kk _ _ e,t⟩
  obtain⟨c2,S2,r2,p2,ai⟩:=ax;have ay:=Ch.trans' s' A.tab c1 c2;rw[drop_cons av] at w1;refine g2 (P.pre O) I l w Y x' x _ (S2.stt r2) rx λF3 s f3 S3 a3=>?_;have c3:Ch T Fs Z R F3 l Y:=ay.less f3
  -- aF the block aD on af an item
  have on:∀{d2:D1} {F5 R5:Rg} {H5:Hp} {o:Option γ} {ae:List V},AM (stepC P Gf g wt we) (M.drop<|i+1) (P.suf<|Gf.fg d2) (λws s'=>K (F++(o.toList++ws)) s')->Ch T F3 l Y F5 R5 H5->ve T F5 R5 H5 d2 s->Paired (rp R5 H5) (F++o.toList) ae->(F++o.toList).length<=i+1 ->
    ∃m',m'<M.length-i/\m'=M.length-(i+1)/\i+1<=M.length/\∃O I l F,Ch T Fs Z R I l H5/\Std T I l H5/\rel I l H5 (P.pre O) s/\Ps l H5/\Ag mb (wp Ts idx σ) s/\Paired (rp l H5) F ae/\F.length<=i+1/\AM (stepC P Gf g wt we) (M.drop<|i+1) O (λws s'=>K (F++ws) s'):=λ{d2 F5 R5 H5 o ae} hw c5 S5 az aA=>by
   refine tX (Gf.le S5.rel) λF6 f6 r6=>?_;have aB:=Ch.trans' s' S2.tab c3 c5;refine⟨M.length-(i+1),q0a,rfl,ab,P.suf<|Gf.fg d2,F6,R5,F++o.toList,aB.less f6,⟨λa h=>S5.sub a<|f6 a h,S5.wn,S5.tab,S5.uQ,λh=>S5.uF<|f6 T h⟩,by rw[P.eta];exact r6,?_,a1.trans a3,az,aA,?_⟩
   ·refine pk p2 (G:=λa=>F3 a\/a=T) (λa h=>h.elim (S3.sub a) λz=>by rw[z];exact S2.uQ) (λa h z=>?_) c5.ext;rcases z with z|z
    ·exact(aw c3 a h).2 z
    ·exact(U a h).2.2 z
   ·simp only[kX];exact hw
  refine t2 _ F3 l s Y _ _ S3 w1 λb d1 F4 R4 H4 q4 c4 S4=>?_
  cases b with
  | false =>
   rw[fF fT];exact on (o:=none) q4 c4 S4 (by simpa using S3.vals c4 ai) (by simp;lia)
  | true =>
   rw[fE rfl];refine e2 _ F4 R4 s H4 _ _ _ S4 q4 (λy d2 v F5 R5 H5 q5 c5 S5 r5=>?_) λ_ _ _ _ _ _ z=>z.elim;have aj:=Ch.trans S3 S4.tab c4 c5;exact on (o:=some y) q5 aj S5 (wR (S3.vals aj ai)<|.cons r5 .nil) (by simp;lia)
 ·have e:i=M.length:=by lia
  subst e;rw[tT] at w1;have ak:K (F++[]) O:=w1;rw[jR] at ak;have al:=P.un r1;rw[aa a1,P.Xq] at al;refine .inl ⟨ip.stop p1,ar F O I l r Q ak c1 A al p1 pz⟩
theorem Df[Se:Sel idx B S B0]{back:B->List α->D}{xs:List α}{Ps:Rg->Hp->Prop}(s':Std T F' R' H')(tw:Cf F' F1 F2)(hr:rel F2 R' H' b σ)
 (pb:∀b' G2 T9 Ia Oa σ',Ps Ia Oa->rel G2 Ia Oa b' σ'->Ag is σ σ'->Cf T9 F1 G2->rel T9 Ia Oa (back b' xs) σ') :
    ∃Fs,Std T Fs R' H'/\(∀a,F1 a->R' a/\¬Fs a/\a≠T)/\rel Fs R' H' (Se.sel b) (idx.map λi=>σ[i]?.join) /\
      ∀{s1:S} {Gs R1:Rg} {H1:Hp},Ch T Fs R' H' Gs R1 H1->Std T Gs R1 H1->rel Gs R1 H1 s1 (idx.map λi=>σ[i]?.join)->Ps R1 H1->∃G,Ch T F' R' H' G R1 H1/\ve T G R1 H1 (back (Se.mrg (Se.rest b) s1) xs) σ:=by
  refine vt (Se.cut hr) λFs F0 t0 h1 h2 hl=>?_
  have iS:∀a,Fs a->F' a:=λa h=>(tw.all a).mpr<|.inr<|(t0.all a).mpr<|.inl h
  have i0:∀a,F0 a->F' a:=λa h=>(tw.all a).mpr<|.inr<|(t0.all a).mpr<|.inr h
  have i1:∀a,F1 a->F' a:=λa h=>(tw.all a).mpr<|.inl h
  have ZU:∀a,F1 a->Fs a->False:=λa h k=>tw.xi a h<|(t0.all a).mpr<|.inl k
  have d10:∀a,F1 a->F0 a->False:=λa h k=>tw.xi a h<|(t0.all a).mpr<|.inr k
  refine⟨Fs,⟨λa h=>s'.sub a<|iS a h,s'.wn,s'.tab,s'.uQ,λh=>s'.uF<|iS T h⟩,λa h=>⟨s'.sub a<|i1 a h,ZU a h,λz=>s'.uF<|by rw[<- z];exact i1 a h⟩,h1,λ{s1 Gs R1 H1} c S1 r1 p1=>?_⟩
  have f0:rel F0 R1 H1 (Se.rest b) σ:=Sls.st h2 c.ext (λa h=>h.elim (λz=>s'.sub a<|iS a z) λz=>by rw[z];exact s'.uQ) λa h z=>z.elim (λq=>t0.xi a q h) λq=>s'.uF (by rw[<- q];exact i0 a h)
  have nG:∀a,Gs a->F1 a\/F0 a->False:=λa g f=>by
    rcases c.xo a g with q|q
    · exact f.elim (λz => ZU a z q) λz => t0.xi a q z
    · exact s'.wn a (s'.sub a<|f.elim (i1 a)<|i0 a) q
  have out:∀a,F1 a\/F0 a->R1 a:=λa f=>c.left a (s'.sub a<|f.elim (i1 a)<|i0 a) λz=>f.elim (λq=>ZU a q z) λq=>t0.xi a z q
  refine⟨λa=>F1 a\/Gs a\/F0 a,⟨λb o n m h=>c.keep b o (λz=>n<|iS b z) m h,c.zc,λa h=>h.elim (λz=>.inl<|i1 a z) λz=>z.elim (λq=>(c.xo a q).elim (λz=>.inl<|iS a z) .inr) λq=>.inl<|i0 a q,λa h n=>c.left a h λz=>n<|iS a z⟩,pb _ (λa=>Gs a\/F0 a) _ R1 H1 σ p1 (Se.join ⟨λ_=>Iff.rfl,λa m f=>nG a m<|.inr f⟩ r1 f0 hl) (Ag.refl _ _) ⟨λ_=>Iff.rfl,λa h z=>z.elim (λq=>nG a q<|.inl h) λq=>d10 a h q⟩,λa h=>h.elim (λz=>out a<|.inl z) λz=>z.elim (S1.sub a) λq=>out a<|.inr q,S1.wn,S1.tab,S1.uQ,λh=>h.elim (λz=>s'.uF<|i1 T z) λz=>z.elim S1.uF λq=>s'.uF<|i0 T q⟩
theorem wS[P:Pre k S Db][K:Fg D1 Db][l:Sel idx B S B0]{f:B->List α->D}{t:D->(List α->B->Prop)->(ci->D->Prop)->Prop}{g:Db->α->D1}{u:Wf D1 Bool D1}{v:Wf D1 γ D1}
 (o:X.calm=true) (L:IW X E T is tg iter f t) (M:Ak X scope cl Ts Fr idx) (N:Ts.length=k) (r:∀i,k<=i->i<k+idx.length->i∈mb)
 (O:∀a e C h j,GW (DQ X scope cl (Ts++Fr) a e C h j) T mb tg g) (U:∀a e C h j,Xr (DQ X scope cl (Ts++Fr) a e C h j) T ifs u) (V:∀a e C h j,EW (DQ X scope cl (Ts++Fr) a e C h j) XF T elt v)
 (W:∀x,jg iter X.env x=pure x:=by intro _;rfl) :
    EO X E T (.ListComp elt [⟨tg,iter,ifs,0⟩] scope pos) (λ(d:D)(w:OL γ->D->Prop) y=>t d (λm b=>m.length<=fK/\AM (stepC P K g u v) m (l.sel b) λz A=>w ⟨z⟩<|f (l.mrg (l.rest b) A) m) y):=by
  refine tX L λti Y Z=>?_
  refine⟨_,Oj o Y M W,λd F R σ H w y Q s hw kn ke=>?_⟩
  refine Z d F R σ H _ _ _ s hw (λm b Jt Ps F' F1 F2 R' H' q c I tw hr ip ps pk pb=>?_) ke
  refine Bb (Df (idx:=idx) (Se:=l) I tw hr pb) λFs S0 n0 r0 on=>?_
  refine Ex N r O U V q.1 ip ps pk S0 n0 r0 q.2 λzs A Gs R1 H1 z kz c1 S1 r1 p1 pz p hp=>?_
  refine tX (on c1 S1 r1 p1) λG c2 J=>?_
  refine ux (wF J hp pz) λR2 c3 S3 n3=>?_
  exact kn _ _ _ _ G R2 _ kz (Ch.trans s J.tab (Ch.trans s I.tab c c2) c3) S3 n3
theorem zI[P:Pre k S Db][Gf:Fg D1 Db][r:Sel idx B S B0](j:Nat){l v w:Type}[Ow l][Sls v][Sls w][A:At j D l v][U:Pt j v (OL γ) w][Jp:Pj D PO n]{f:Pos}{h:B->List α->D}{K:D->(List α->B->Prop)->(ci->D->Prop)->Prop}{g:Db->α->D1}{L:Wf D1 Bool D1}{M:Wf D1 γ D1}
 (hN:X.N.Nodup) (hj:X.N[j]?=some y) (hy:X.env.scope.names.lookup y=some .local) (z:i4 (.ListComp elt [⟨tg,iter,ifs,0⟩] scope pos) (some<|.Name y py) f.line X.env=pure true) (hm:j∉ms)
 (I:X.calm=true) (hi:IW X E T is tg iter h K) (Bs:Ak X scope cl Ts Fr idx) (hk:Ts.length=k) (J:∀i,k<=i->i<k+idx.length->i∈mb)
 (hG:∀a e C m o,GW (DQ X scope cl (Ts++Fr) a e C m o) T mb tg g) (hT:∀a e C m o,Xr (DQ X scope cl (Ts++Fr) a e C m o) T ifs L) (hE:∀a e C m o,EW (DQ X scope cl (Ts++Fr) a e C m o) XF T elt M)
 (hs:∀x,jg iter X.env x=pure x:=by intro _;rfl) :
    S1 X E T ms n (.Assign [.Name y py] (.ListComp elt [⟨tg,iter,ifs,0⟩] scope pos) f) (λ(d:D)(O:w->Prop)(Kr:τ->PO->Prop) Q=>K d (λt b=>t.length<=fK/\AM (stepC P Gf g L M) t (r.sel b) λV W=>O<|U.put (A.hole<|h (r.mrg (r.rest b) W) t) ⟨V⟩) λC Y=>Q C<|Jp.pj Y):=by
  refine tX hi λti i1 i2=>?_
  refine⟨_,Ol hN hj hy z I i1 Bs hs,λd F R σ H O Kr Q En s hw kn kr ke=>?_⟩
  refine i2 d F R σ H _ _ _ s hw (λt b Jt Ps F' F1 F2 Z H' q c u tw hr ip ps pk pb=>?_) λC y Y F' Z H' q c u=>?_
  · refine Bb (Df (idx := idx) (Se := r) u tw hr pb) λFs S0 n0 r0 on => ?_
    refine Ex hk J hG hT hE q.1 ip ps pk S0 n0 r0 q.2 λzs W Gs R1 H1 V kz c1 S1 r1 p1 pz p hp=>?_
    refine tX (on c1 S1 r1 p1) λG c2 S2=>?_
    refine ux (wF S2 hp pz) λR2 c3 S3 n3=>?_
    refine tX (Ew (i:=j) S3 n3) λG2 g2 S4=>?_
    exact kn _ G2 R2 _ _ kz ((Ch.trans s S2.tab (Ch.trans s u.tab c c2) c3).less g2) S4<|Ag.set hm
  · refine tX (vG (PO := PO) u) λG g1 g2 => ?_
    exact ke C y _ G Z H' q (c.less g1) g2
end
def Kp(g:ci)(H a:Hp):Prop:=∀b o,b≠g->H b=some o->a b=some o
theorem Kp.refl(g:ci)(H:Hp):Kp g H H:=λ_ _ _ h=>h
theorem Kp.trans{d e:Hp}(a:Kp g H d)(b:Kp g d e):Kp g H e:=λc o n h=>b c o n<|a c o n h
theorem Kp.at:Kp g H (upd H g o):=λb u n e=>by rw[ss n];exact e
theorem ze(h:H p=none):Ce H (upd H p o):=λb u e=>by rw[ss<|uf e h];exact e
def D4(q:ci)(i z s:Int):List V:=[.ref q,.int i,.int z,.int s]
structure B5(H:Hp)(g q:ci)(ns:List Int)(i z s:Int):Prop where
 ob:H g=some (.lst<|D4 q i z s)
 sc:H q=some (.lst<|ns.map V.int)
 i0:0<=i
 ne:q≠g
theorem B5.put{i z s:Int}(B:B5 H g q b i z s){a z':Int}(h:0<=a):B5 (upd H g<|.lst<|D4 q a z' s) g q b a z' s:=⟨tZ,by rw[ss B.ne];exact B.sc,h,B.ne⟩
theorem VC(q:ci)(i z s:Int):EX (D4 q i z s) 0=some (.ref q):=rfl
theorem Om(q:ci)(i z s:Int):EX (D4 q i z s) 1=some (.int i):=rfl
theorem On(q:ci)(i z s:Int):EX (D4 q i z s) 2=some (.int z):=rfl
theorem ZV(q:ci)(i z s:Int):EX (D4 q i z s) 3=some (.int s):=rfl
theorem Xs(x:Int):-(2 ^ 64)<x%2147483647/\x%2147483647<2 ^ 64:=by
 have a:=lS x (show (2147483647:Int)≠0 by decide);have b:=kP x (show (0:Int)<2147483647 by decide)
 lia
theorem RI{ns:List Int}{i:Int}(b:0<=i)(c:i<(ns.length:Int)):∃n,EX (ns.map V.int) i=some (.int n):=by
 have a:i.toNat<ns.length:=by omega
 have e:(ns.map V.int)[i.toNat]?=some (.int ns[i.toNat]):=by rw[iK,iz a];rfl
 have:=Ks e;rw[show ((i.toNat:Nat):Int)=i by omega] at this;exact⟨_,this⟩
structure Bg where
instance:Ow Bg:=⟨λF _ H _ v=>∃g q ns i z s,v=some (.ref g)/\(∀b,F b↔b=g\/b=q)/\B5 H g q ns i z s,
 λ{F G R H R' H' x v} h e s n=>by
  obtain⟨g,q,ns,i,z,s',h1,h2,h3⟩:=h
  exact⟨g,q,ns,i,z,s',h1,h2,⟨e.keep g _ (n g<|(h2 g).mpr<|.inl rfl) h3.ob,e.keep q _ (n q<|(h2 q).mpr<|.inr rfl) h3.sc,h3.i0,h3.ne⟩⟩,
 λh e=>by
  obtain⟨g,q,ns,i,z,s',h1,h2,h3⟩:=h
  exact⟨g,q,ns,i,z,s',h1,λb=>(e b).symm.trans (h2 b),h3⟩⟩
instance:Hs Bg:=⟨λz9=>YM z9 λ_ _ _ _ _ _ h _=>⟨_,h⟩⟩
instance:RD Bg:=⟨λh _=>h⟩
def Oo:Sp:=λd H Q _=>∃(g q:ci)(c:List Int)(i z s a:Int),d=[.ref g,.int a]/\B5 H g q c i z s/\0<a/\a<1073741824 /\
 ∀b e f r,Kp g H b->B5 b g q c e f s->0<=r->r<a->Q (.int r) b
abbrev Ud:Bg×Int×Unit->(Int->Bg×Un×Unit->Prop)->(ci->Bg×Un×Unit->Prop)->Prop:=λp a _=>0<p.2.1/\p.2.1<1073741824/\∀r,0<=r->r<p.2.1->a r (⟨⟩,⟨⟩,())
theorem Ue{K:fB}{k:Nat}(F:uE P w K b base NF k f c d g):uE P w K b base (uP P w) k f c d g :=
 ⟨F.len,λA a s H args i j Q E l m n o p=>iY (F.run A a s H args i j Q E l m n o p) λr t h=>by
  cases r with
  | error e=>exact gB h
  | ok q =>
   cases q with
   | ret u=>exact h
   | next=>exact gB h
   | brk=>exact gB h
   | cont=>exact gB h⟩
theorem ZW:∀{c:List V},List.map some c=[some a,some b]->c=[a,b]:=by
 intro c e
 cases c with
 | nil=>cases e
 | cons p r=>cases r with
  | nil=>cases e
  | cons q s=>cases s with
   | nil=>cases e;rfl
   | cons _ _=>cases e
theorem VD{K:fB}{k:Nat}(F:uE P w K O base NF k f S c Oo):uE P w K O base (uP P w) k f S c (xG T Ud):=by
 refine(Ue F).imp λU H Q E h=>?_;obtain⟨v,R,p,Kn,Ke,s,⟨X,Y,Z⟩,kn,_⟩:=h;obtain⟨v1,aa,F1,x,e1,y,⟨g,q,A,i,z,B,rfl,C,hb⟩,d⟩:=s.rel;obtain⟨v2,ab,F3,F4,e2,D,⟨G,u,rfl,j⟩,e3,I⟩:=d;have j:u=V.int p.2.1:=j;subst j;subst e2 e3
 have ev:U=[.ref g,.int p.2.1]:=by exact ZW e1
 subst ev;have ae:∀a,¬x a:=λa h=>((D.all a).mp h).elim (G a)<|I a;have J:v g:=(y.all g).mpr<|.inl<|(C g).mpr<|.inl rfl;have gT:g≠T:=λe=>s.uF (by rw[<- e];exact J);refine⟨g,q,A,i,z,B,p.2.1,rfl,hb,X,Y,λL i' z' r l M r0 d=>?_⟩
 have m:∀a,R a->L a≠none:=λa h=>by
  by_cases e:a=g
  ·rw[e,M.ob];simp
  ·cases N:H a with
   | none=>exact fY N<|s.wn a h
   | some o=>rw[l a o e N];simp
 refine kn r (⟨⟩,⟨⟩,()) _ (λ_=>False) v R L (Z r r0 d) ⟨λb o n _ h=>l b o (λe=>n<|by rw[e];exact J) h,λ_ h=>.inl h,λa h=>h.elim (λz=>z.elim) .inl,λ_ h _=>h⟩
  ⟨⟨_,_,F1,x,rfl,y,⟨g,q,A,i',z',B,rfl,C,M⟩,_,_,F3,F4,rfl,D,G,rfl,I⟩,s.sub,m,?_,s.uQ,s.uF⟩ ⟨⟨λ_ z=>z,_,rfl,rfl⟩,λ_ z=>z.elim,λ_ z=>z.elim,λz=>z⟩
 refine tX s.tab λc e t=>?_;exact⟨c,l T _ (λe=>gT e.symm) e,t⟩
structure Fn(K:fB)(mg:Str->Option cr)(x:Str)(st:gy)(ps:List Str)(f:ci)(fd:gF):Prop where
 fn:xY K x x st f fd
 at_:mg x=some (.ref f)
 bd:Binds K fd ps []
theorem ZX{a b c d e:Type}{P:a×b×c×d×e->Prop}(h:∀f g i j k,P (f,g,i,j,k)):∀x,P x:=λ⟨f,g,i,j,k⟩=>h f g i j k
theorem Xt{a b c d e f g:Type}{P:a×b×c×d×e×f×g->Prop}(h:∀i j k l m n o,P (i,j,k,l,m,n,o)):∀x,P x:=λ⟨i,j,k,l,m,n,o⟩=>h i j k l m n o
theorem Xu{a b c d e f g i:Type}{P:a×b×c×d×e×f×g×i->Prop}(h:∀j k l m n o p q,P (j,k,l,m,n,o,p,q)):∀x,P x:=λ⟨j,k,l,m,n,o,p,q⟩=>h j k l m n o p q
theorem Jf{a b c d e f g i j:Type}{P:a×b×c×d×e×f×g×i×j->Prop}(h:∀k l m n o p q r s,P (k,l,m,n,o,p,q,r,s)):∀x,P x:=λ⟨k,l,m,n,o,p,q,r,s⟩=>h k l m n o p q r s
theorem Uf{c d e f g i j k l m b:Type}{P:c×d×e×f×g×i×j×k×l×m×b->Prop}(h:∀n o p q r s t u v w a,P (n,o,p,q,r,s,t,u,v,w,a)):∀x,P x:=λ⟨n,o,p,q,r,s,t,u,v,w,a⟩=>h n o p q r s t u v w a
theorem ui{K:fB}{d:Str->Option cr}{k:Nat}{e:List Str}{A c g:Type}[Sls A][Sls c][Ow g]{i j:Wf A g c}(F:uE P w K d base (uP P w) k f l e (xG T i))(h:∀p a b,j p a b->i p a b):uE P w K d base (uP P w) k f l e (xG T j) :=
 F.imp λo H Q E m=>YJ m λF R p a b s n r=>⟨F,R,p,a,b,s,h p a b n,r⟩
theorem KL{β:Type}{n x:Str}{c c':β}{r:List (Str×β)}(h:j7 x ((n,c)::r)=some c'):(x=n/\c'=c)\/j7 x r=some c':=by
 rw[ig] at h
 cases q:x==n with
 | true=>rw[q] at h;exact .inl ⟨eq_of_beq q,(gV h).symm⟩
 | false=>rw[q] at h;exact .inr h
theorem fc{b:Type}{p:b->Prop}{a:b}{l:List b}(h:p a)(t:∀y∈l,p y):∀y∈a::l,p y:=λy c=>by
 rcases List.mem_cons.mp c with e|e
 ·rw[e];exact h
 ·exact t y e
theorem v9{k m:Nat}(h:a=(gl m).map (k + ·)):∀i,k<=i->i<k+m->i∈a:=λi b c=>by rw[h];exact List.mem_map.mpr ⟨i-k,List.mem_range.mpr q0d,q0d⟩
theorem zQ{a:Type}{p:a->Prop}:∀y∈([]:List a),p y:=λ_ h=>by cases h
section
variable{X:Cx}{E:XK}{T:ci}{ms:List Nat}{n:Nat}{D PO τ:Type}[Sls D][Sls PO][Ow τ]{pos:Pos}{α:Type}[Rep α]
theorem VE(f:EW X E T a i):EW X E T (.UnaryOp .USub a pos) (λ(d:D)(j:Int->D->Prop) l=>i d (λx m=>j (-x) m) l):=by have h:=Vo (c:=λ_=>True) (γ:=Int) (g:=λx:Int=>-x) (e:=.UnaryOp .USub a pos) f (λo b=>TM Nc b) λb _ k=>⟨_,b,k _ rfl⟩;simp only[true_and] at h;exact h
theorem xM(i:Nat)[Sls l][Sls g][Hs τ][A:At i D τ g][J:Pj g PO n](m:PE X (.Name x p) (uH i)):S1 X E T ms n (.Return (some<|.Name x p) pos) (λ(d:D)(_:l->Prop)(j:τ->PO->Prop) _=>j (A.get d)<|J.pj<|A.hole d):=by refine⟨_,Bc m,λd F R I H K j L M s q N r O=>?_⟩;refine xU (A.take s.rel) λv t w y c k B=>?_;obtain⟨u,rfl⟩:=Hs.has k;have f:∀a,w a->F a:=λa h=>(c.all a).mpr<|.inr h;refine tX (J.le B) λG e C=>?_;exact⟨u,y,r _ _ u t G R H q ⟨λb o _ _ h=>h,λ_ h=>.inl h,λa h=>.inl<|h.elim (λz=>(c.all a).mpr<|.inl z) λz=>f a<|e a z,λ_ h _=>h⟩ ⟨C,λa h=>s.sub a<|f a<|e a h,s.wn,s.tab,s.uQ,λh=>s.uF<|f T<|e T h⟩ ⟨k,λa h=>s.sub a<|(c.all a).mpr<|.inl h,λa h z=>c.xi a h<|e a z,λh=>s.uF<|(c.all T).mpr<|.inl h⟩⟩
theorem RJ{N:List gA}{i P PO B A:Type}[Ow i][Sls P][Sls PO][Sls B][Sls A]{G:B->A->PO->D}{we:Wf D i D}{wr:D->(P->B->A->Prop)->(ci->D->Prop)->Prop}
 (ha:EO X E T e we) (hr:Jd X E T N G wr) (hs:fG (e::N) X.env=(false,eval e X.env)::fG N X.env:=by rfl) :
    Jd X E T (e::N) (λ(b:B)(l:A)(p:Un×PO)=>G b l p.2) (λ(d:D)(Kn:i×P->B->A->Prop) I=>we d (λx U=>wr U (λp b l=>Kn (x,p) b l) I) I):=by
  refine tX ha λta a1 a2=>?_
  refine tX hr λtr b1 b2=>?_
  refine⟨_,ue a1 b1 hs,λd F R σ H Kn I Q s hw kn ke=>?_⟩
  refine a2 d F R σ H _ I _ s hw (λx U u j F1 R1 H1 q1 c1 v g=>?_) ke
  have J:Ch T F R H F1 R1 H1:=c1.less λ_ z=>.inr z
  refine b2 U F1 R1 σ H1 _ I _ v q1 (λp b l vs us V G2 L o w K q2 O M r h1 h2 hl k=>?_) λC y d' o w K k c s'=>ke C y d' o w K k (Ch.trans s v.tab J c) s'
  -- the new W Og
  have Y:∀a,j a->o a->False:=λa m f=>by
    rcases O.xo a f with q|q
    · exact g.xi a m q
    · exact v.wn a (g.sub a m) q
  have mT:∀a,j a->a≠T:=λa m z=>g.tab (by rw[<- z];exact m)
  have mx:sl j w K x (some u):=Ow.st g.is O.ext (λa h=>h.elim (v.sub a) λq=>by rw[q];exact v.uQ) λa m z=>z.elim (g.xi a m)<|mT a m
  have mR:∀a,j a->w a:=λa m=>O.left a (g.sub a m) λz=>g.xi a m z
  have g1:∀a,V a->o a:=λa h=>(r.all a).mpr<|.inl h
  have g2:∀a,G2 a->o a:=λa h=>(r.all a).mpr<|.inr<|.inl h
  have g3:∀a,L a->o a:=λa h=>(r.all a).mpr<|.inr<|.inr h
  have S:=Ch.trans s v.tab J O
  refine kn (x,p) b l (u::vs) us (λa=>j a\/V a) G2 L (λa=>j a\/o a) w K q2 ⟨S.keep,S.zc,λa h=>h.elim (λz=>c1.xo a<|.inl z)<|S.xo a,S.left⟩ ⟨λa h=>h.elim (mR a)<|M.sub a,M.wn,M.tab,M.uQ,λh=>h.elim g.tab M.uF⟩
    ⟨λa=>?_,λa m n=>m.elim (λz=>Y a z<|g2 a n) λz=>r.GG a z n,λa m n=>m.elim (λz=>Y a z<|g3 a n) λz=>r.Ic a z n,r.Ie⟩ ⟨some u,vs.map some,j,V,rfl,⟨λ_=>Iff.rfl,λa m n=>Y a m<|g1 a n⟩,Ow.wk mx<|By w L K,h1⟩ h2 hl λb' l' L1 L2 L3 Z aa ab p' h3 h4 h5 t=>?_
  · rw[r.all]
    exact⟨λz=>z.elim (λq=>.inl<|.inl q) λz=>z.elim (λq=>.inl<|.inr q) .inr,λz=>z.elim (λz=>z.elim .inl λq=>.inr<|.inl q) λz=>.inr<|.inr z⟩
  · refine xH h3 λv' ae N1 N2 z1 z2 z3 z4 => ?_
    injection z1 with _ z5
    subst z5
    exact k b' l' L1 L2 L3 Z aa ab p'.2 (Sls.fq z4<|two_eq z2 z3) h4 h5 t
class Xv(α:Type)[Rep α](ty:String)(b:outParam Bool):Prop where
 ist:∀{K:fB} {R:Rg} {H:Hp} {x:α} {v:V},rp R H x v->∃t,yX K H v t/\pO K t (.type ty)=some b
instance:Xv Int "int" true:=⟨λ{K R H x v} h=>by
 have h:v=V.int x:=h;subst h
 exact⟨_,yX.int x,by rfl⟩⟩
instance:Xv Int "bool" false:=⟨λ{K R H x v} h=>by
 have h:v=V.int x:=h;subst h
 exact⟨_,yX.int x,by rfl⟩⟩
instance:Xv (List α) "list" true:=⟨λ{K R H x v} h=>by
 obtain⟨a,vs,rfl,_,h3,_⟩:=h
 exact⟨_,yX.lst h3,by rfl⟩⟩
theorem BA{b:Bool}[Xv α ty b]{i:Wf D α D}(l:Gl X "isinstance")(m:X.mg "isinstance"=none)(c:PE X (.Name x q) (tC<|.ty ty))(o:EW X E T a i)
 (j:fG [a,.Name x q] X.env=(false,eval a X.env)::fG [.Name x q] X.env:=by rfl) (e:fG [.Name x q] X.env=(false,eval (.Name x q) X.env)::fG [] X.env:=by rfl) (f:(ij pos<|fG [.Name x q] X.env).any (·.1)=false:=by rfl) :
    EW X E T (.Call (.Name "isinstance" p) [a,.Name x q] [] pos) (λ(d:D)(k:Bool->D->Prop) g=>i d (λ_ h=>k b h) g):=by
  refine tX o λS r v=>?_
  refine⟨_,vW Hi l m PyProof.Rows.boot_isinstance (ue r (ue c uu e) j) (he:=j) (hpl:=f),λd F R w H k g Q s z A B=>v d F R w H _ g _ s z (λy h u C G I J L M N=>?_) B⟩
  refine tX (Xv.ist (ty:=ty) (K:=X.K) N) λt O P=>?_
  exact⟨u,ty,t,b,rfl,O,P,A _ h _ C G I J L M rfl⟩
end
end WL
namespace ZT
open PySem PySem.Spec PyProof.Rows
section
variable{prog:gf}{w:gu}{A:gJ}{E:cr->fH->Prop}{s:fH}
theorem Dg{i:Nat}(a:s.heap.IsTupleIter b t i)(g:s.heap.IsTuple t h)(j:h[i]?=some x)
 (k:∀e,e.IsTupleIter b t (i+1)->gX b s.heap e->Q x { s with heap:=e}):fO (fS prog w) A (ik<|.ref b) Q E s:=by
  obtain⟨o,d,l,c⟩:=id a;obtain⟨p,n,_,m,q⟩:=g;unfold ik
  refine am<|wpAny_callSpecial?_slot (name:=ky "__next__") a.typeIs kA<|gR kA a.typeIs qO ?_<|qA _
  show fO _ _ (sT (.ref b) 0 >>= _) _ _ s;refine am<|hL d c (x:=.ref t) rfl ?_
  show fO _ _ (if (fZ t==Value.none)=true then _ else _) _ _ s;rw[fF<|show ¬((fZ t==Value.none)=true) from fT]
  show fO _ _ (sT (.ref b) 1 >>= _) _ _ s;refine am<|hL d c (x:=.int i 0) rfl ?_
  show fO _ _ (seqItems? (.ref t) >>= _) _ _ s;refine am<|jP n q ?_;simp only[i9,j]
  have f:Heap.IsTupleIter (s.heap.update b λr=>r.mapFields (·.setIfInBounds 1 (kg<|(i:Int)+1))) b t (i+1):=⟨_,gP _ d<|Obj.isFreed_of_fields<|Obj.data_mapFields c _,(Obj.cls_mapFields ..).trans l,by rw[Obj.data_mapFields c];simp[kg]⟩
  exact am<|lG d c q0o<|ap ⟨x,rfl,ap<|k _ f<|mY ..⟩
theorem KN{i:Nat}(h:A.handled=none)(b:s.heap.IsTupleIter c t i)(j:s.heap.IsTuple t k)(l:k[i]?=none)
 (n:∀d e,Heap.ExtBut c s.heap d->(∃o,d.get? e=some o/\o.cls=.type "StopIteration")->E (.ref e) { s with heap:=d}):fO (fS prog w) A (ik<|.ref c) Q E s:=by
  obtain⟨o,f,u,g⟩:=id b;obtain⟨p,q,_,m,r⟩:=j;unfold ik
  refine am<|wpAny_callSpecial?_slot (name:=ky "__next__") b.typeIs kA<|gR kA b.typeIs qO ?_<|qA _
  show fO _ _ (sT (.ref c) 0 >>= _) _ _ s;refine am<|hL f g (x:=.ref t) rfl ?_
  show fO _ _ (if (fZ t==Value.none)=true then _ else _) _ _ s;rw[fF<|show ¬((fZ t==Value.none)=true) from fT]
  show fO _ _ (sT (.ref c) 1 >>= _) _ _ s;refine am<|hL f g (x:=.int i 0) rfl ?_
  show fO _ _ (seqItems? (.ref t) >>= _) _ _ s;refine am<|jP q r ?_;simp only[i9,l]
  refine am<|kE<|am<|lG f g q0o ?_;show fO _ _ (newExc (.type "StopIteration") [] >>= _) _ _ _
  refine am ?_;simp only[newExc,newTuple];refine am<|gN ?_ (by size_fits)
  refine am (m:=oY _ _)<|lh (a:=Value.none) (by first|rfl|(simp only[oY];rfl))<|gN ?_ (by size_fits)
  simp only[raiseNew];refine am<|wpAny_handled ?_;first|rw[show A.in1.handled=none from h]|rw[h]
  exact am<|ap<|wpAny_throw<|n _ _ (((mY ..).extBut.push _).push _) ⟨_,fU _ rfl,rfl⟩
abbrev Xw(h:gE)(z c d e g i j:ci)(f:cr)(k:Nat)(l m:Array cr):Prop :=
 qP h z c d f/\o5 h c (.ref e) (.ref g)/\(∃a b,o5 h d a b)/\h.IsTupleIter e i k/\h.IsTupleIter g j k/\h.IsTuple i l/\h.IsTuple j m
theorem RK{g d:ci}{k:Nat}{Q:cr->fH->Prop}(D:ZipApart z g d l m H I)(st:Xw s.heap z g d l m H I .none k xs ys)(hx:xs[k]?=some x)(hy:ys[k]?=some y)
 (hQ:∀h,qP h z g d (kg s.heap.objs.size)->o5 h d x y->h.IsTupleIter l H (k+1)->h.IsTupleIter m I (k+1)->o5 h s.heap.objs.size x y ->
 (∀c o,c≠z->c≠d->c≠l->c≠m->s.heap.get? c=some o->h.get? c=some o)->Q (.ref s.heap.objs.size) { s with heap:=h}) :
    fO (fS prog w) A (Builtin.«zip.__next__» ⟨[.ref z],[]⟩) (λJ s'=>∃v,J=.done (.ret v)/\Q v s') E s:=by
  obtain⟨q,K,⟨a,b,L⟩,h1,h2,M,N⟩:=st
  show fO _ _ (sT (.ref z) 2 >>= _) _ _ _;refine am<|hL q rfl (x:=.bool false) rfl ?_
  show fO _ _ (sT (.ref z) 3 >>= _) _ _ _;refine am<|hL q rfl (x:=.ref g) rfl<|am<|jP K rfl ?_
  show fO _ _ (i7 (.ref z) >>= _) _ _ _;refine am ?_;unfold i7
  refine am<|hL q rfl (x:=.none) rfl<|ap ?_;simp only[oz]
  refine am<|kE<|am<|hL q rfl (x:=.ref d) rfl<|am<|iU q q0o λg1 O i=>?_
  replace O:qP g1 z g d .ellipsis:=O;refine am ?_;simp only[tU,List.zipIdx_nil,List.forIn_cons,List.forIn_nil]
  refine am<|am<|nP ?_;show fO _ _ (ik (.ref l) >>= _) _ _ _
  refine am<|Dg (h1.extBut i.extBut D.i1z) (M.extBut i.extBut D.l1z) hx λg2 a2 n=>ap ?_
  have U:o5 g2 d a b:=n.extBut _ _ D.TOi1<|i.extBut _ _ D.TOz L
  refine am<|jP U rfl<|am<|o6 U λg3 P p=>am<|qQ<|ap ?_
  replace P:o5 g3 d x b:=P
  refine am<|am<|nP ?_;show fO _ _ (ik (.ref m) >>= _) _ _ _
  refine am<|Dg (((h2.extBut i.extBut D.i2z).extBut n.extBut D.i12.symm).extBut p.extBut D.TOi2.symm) (((N.extBut i.extBut D.l2z).extBut n.extBut D.l2i1).extBut p.extBut D.l2TO) hy λg4 a4 r=>ap ?_
  have V:o5 g4 d x b:=r.extBut _ _ D.TOi2 P
  refine am<|jP V rfl<|am<|o6 V λf u t=>am<|qQ<|ap<|ap ?_
  replace u:o5 f d x y:=u
  refine am<|jP u rfl<|am<|wpAny_newTuple ?_
  have W:f.objs.size=s.heap.objs.size:=by rw[t.1,r.1,p.1,n.1,i.1]
  have X:qP f z g d .ellipsis:=t.extBut _ _ D.TOz.symm<|r.extBut _ _ D.i2z.symm<|p.extBut _ _ D.TOz.symm<|n.extBut _ _ D.i1z.symm O
  have k5:∀c o,c≠z->c≠d->c≠l->c≠m->s.heap.get? c=some o->f.get? c=some o:=λc o j B R S e=>t.extBut _ _ B<|r.extBut _ _ S<|p.extBut _ _ B<|n.extBut _ _ R<|i.extBut _ _ j e
  have q1:f.IsTupleIter l H (k+1):=((a2.extBut p.extBut D.TOi1.symm).extBut r.extBut D.i12).extBut t.extBut D.TOi1.symm
  have q2:f.IsTupleIter m I (k+1):=a4.extBut t.extBut D.TOi2.symm
  have Y:z<f.objs.size:=fQ X
  show fO _ _ (mn (.ref z) (.ref f.objs.size) >>= _) _ _ _;refine am ?_;unfold mn
  have z6:qP (f.push { cls:=.type "tuple",data:=.seq #[x,y]}) z g d .ellipsis:=ce _ X
  refine am<|iU z6 q0o λg7 T Z=>?_;replace T:qP g7 z g d (kg f.objs.size):=T
  refine iU T q0o λC F e8=>?_;replace F:qP C z g d (kg f.objs.size):=F
  have G:∀c o,c≠z->f.get? c=some o->C.get? c=some o:=λc o j e=>e8.extBut _ _ j<|Z.extBut _ _ j<|ce _ e
  have t8:o5 C f.objs.size x y:=e8.extBut _ _ (ii Y)<|Z.extBut _ _ (ii Y)<|fU _ rfl
  rw[W] at F t8;refine ap ⟨_,rfl,?_⟩;show Q (.ref f.objs.size) _;rw[W]
  exact hQ C F (G _ _ D.TOz u) (q1.at λo e=>G _ o D.i1z e) (q2.at λo e=>G _ o D.i2z e) t8 λc o j B R S e=>G c o j<|k5 c o j B R S e
theorem VF{l f:ci}{k:Nat}(N:A.handled=none)(D:ZipApart z l f v y Z l2)(st:Xw s.heap z l f v y Z l2 .none k O P)(m:O[k]?=none\/P[k]?=none)
 (R:∀B e,(∀c o,c≠z->c≠f->c≠v->c≠y->s.heap.get? c=some o->B.get? c=some o)->(∃o,B.get? e=some o/\o.cls=.type "StopIteration")->E (.ref e) { s with heap:=B}) :
    fO (fS prog w) A (Builtin.«zip.__next__» ⟨[.ref z],[]⟩) Q E s:=by
  obtain⟨n,C,⟨a,b,F⟩,S,h2,p,G⟩:=st
  show fO _ _ (sT (.ref z) 2 >>= _) _ _ _;refine am<|hL n rfl (x:=.bool false) rfl ?_
  show fO _ _ (sT (.ref z) 3 >>= _) _ _ _;refine am<|hL n rfl (x:=.ref l) rfl<|am<|jP C rfl ?_
  show fO _ _ (i7 (.ref z) >>= _) _ _ _;refine am ?_;unfold i7
  refine am<|hL n rfl (x:=.none) rfl<|ap ?_;simp only[oz]
  refine am<|kE<|am<|hL n rfl (x:=.ref f) rfl<|am<|iU n q0o λg1 u d=>?_
  replace u:qP g1 z l f .ellipsis:=u;refine am ?_;simp only[tU,List.zipIdx_nil,List.forIn_cons,List.forIn_nil]
  refine am<|am<|nP ?_;show fO _ _ (ik (.ref v) >>= _) _ _ _
  cases H:O[k]? with
  | none =>
    refine am<|KN N (S.extBut d.extBut D.i1z) (p.extBut d.extBut D.l1z) H λI e g J=>?_;obtain⟨K,i,r⟩:=J
    have T:qP I z l f .ellipsis:=g _ _ D.i1z.symm u
    have L:e≠z:=λq=>by subst q;rw[T] at i;cases i;simp at r
    exact iU T q0o λU _ j=>R U e (λc o t _ M _ q=>j.extBut _ _ t<|g _ _ M<|d.extBut _ _ t q) ⟨K,j.extBut _ _ L i,r⟩
  | some x =>
    have hy:P[k]?=none:=by rcases m with h|h;rw[H] at h;cases h;exact h
    refine am<|Dg (S.extBut d.extBut D.i1z) (p.extBut d.extBut D.l1z) H λI a2 g=>ap ?_
    have V:o5 I f a b:=g.extBut _ _ D.TOi1<|d.extBut _ _ D.TOz F
    refine am<|jP V rfl<|am<|o6 V λU p3 j=>am<|qQ<|ap ?_
    refine am<|am<|nP ?_;show fO _ _ (ik (.ref y) >>= _) _ _ _
    refine am<|KN N (((h2.extBut d.extBut D.i2z).extBut g.extBut D.i12.symm).extBut j.extBut D.TOi2.symm) (((G.extBut d.extBut D.l2z).extBut g.extBut D.l2i1).extBut j.extBut D.l2TO) hy λg4 e W J=>?_
    obtain⟨K,i,r⟩:=J
    have X:qP g4 z l f .ellipsis:=W _ _ D.i2z.symm<|j.extBut _ _ D.TOz.symm<|g.extBut _ _ D.i1z.symm u
    have L:e≠z:=λq=>by subst q;rw[X] at i;cases i;simp at r
    exact iU X q0o λg5 _ Y=>R g5 e (λc o t c2 M c4 q=>Y.extBut _ _ t<|W _ _ c4<|j.extBut _ _ c2<|g.extBut _ _ M<|d.extBut _ _ t q) ⟨K,Y.extBut _ _ L i,r⟩
abbrev tI(l:ci):Obj:={ cls:=.type "tuple_iterator",data:=.fields #[.ref l,.int 0 0]}
abbrev H1(h:gE)(a:ci):gE:=h.push<|tI a
abbrev H2(h:gE)(a b:ci):gE:=(H1 h a).push<|tI b
abbrev H3(h:gE)(a b:ci):gE:=(H2 h a b).push { cls:=.type "tuple",data:=.seq #[.ref h.objs.size,.ref (H1 h a).objs.size]}
abbrev H4(h:gE)(a b:ci):gE:=(H3 h a b).push { cls:=.type "tuple",data:=.seq #[.none,.none]}
abbrev H5(h:gE)(a b:ci):gE:=(H4 h a b).push { cls:=.type "zip",data:=.fields #[.none,.bool false,.bool false,.ref (H2 h a b).objs.size,.ref (H3 h a b).objs.size]}
theorem made(a b:ci)(c e:Array cr):Meets (Builtin.«zip.__new__» ⟨[.type "zip",.ref a,.ref b],[]⟩) (λ_ R s=>s.heap.IsTuple a c/\s.heap.IsTuple b e/\R (.ok<|.ret<|.ref (H4 s.heap a b).objs.size) { s with heap:=H5 s.heap a b}) :=
 .of_wp λprog w A R s h=>by
  obtain⟨f,g,d,i,j⟩:=s;obtain⟨l,m,h⟩:=h;have k:=sub_zip;have n:ph (Shared.heap ⟨f,g,d,i,j⟩) a c:=l;have o:ph (Shared.heap ⟨f.push<|tI a,g,d,i,j⟩) b e:=Heap.IsTuple.push m _
  wp_walk using pN n,pN o
  exact⟨_,rfl,h⟩
theorem Op(n:s.heap.IsTuple a p)(q:s.heap.IsTuple b r)
 (h:∀d,Xw d (s.heap.objs.size+4) (s.heap.objs.size+2) (s.heap.objs.size+3) s.heap.objs.size (s.heap.objs.size+1) a b .none 0 p r->d.objs.size=s.heap.objs.size+5->(∀c o,s.heap.get? c=some o->d.get? c=some o)->Q (.ref<|s.heap.objs.size+4) { s with heap:=d}) :
    fO (fS prog w) A (call (.type "zip") [.ref a,.ref b]) Q E s:=by
  refine callType_new F.called_zip q0q (F.typeCall_zip_2 _ _) (F.newCall_zip_2 _ _) (λf=>F.args_object_init_3 f _ _) F.entry_zip_new (made a b p r) ⟨n,q,?_⟩
  have g:(H1 s.heap a).objs.size=s.heap.objs.size+1:=iF ..
  have i:(H2 s.heap a b).objs.size=s.heap.objs.size+2:=by rw[iF,g]
  have j:(H3 s.heap a b).objs.size=s.heap.objs.size+3:=by rw[iF,i]
  have k:(H4 s.heap a b).objs.size=s.heap.objs.size+4:=by rw[iF,j]
  have y:(H5 s.heap a b).objs.size=s.heap.objs.size+5:=by rw[iF,k]
  have l:(H5 s.heap a b).get? (H4 s.heap a b).objs.size=some _:=fU _ rfl
  have t:(H5 s.heap a b).get? (H3 s.heap a b).objs.size=some _:=ce _<|fU _ rfl
  have u:(H5 s.heap a b).get? (H2 s.heap a b).objs.size=some _:=ce _<|ce _<|fU _ rfl
  have v:(H5 s.heap a b).get? (H1 s.heap a).objs.size=some _:=ce _<|ce _<|ce _<|fU _ rfl
  have z:(H5 s.heap a b).get? s.heap.objs.size=some _:=ce _<|ce _<|ce _<|ce _<|fU _ rfl
  have m:∀c o,s.heap.get? c=some o->(H5 s.heap a b).get? c=some o:=λc o x=>ce _<|ce _<|ce _<|ce _<|ce _ x
  show _/\_
  rw[i,j,k] at l;rw[g,i] at u;rw[j] at t;rw[g] at v;rw[k]
  exact⟨⟨_,l,rfl⟩,h _ ⟨l,u,⟨_,_,t⟩,⟨_,z,rfl,rfl⟩,⟨_,v,rfl,rfl⟩,n.at λo e=>m _ o e,q.at λo e=>m _ o e⟩ y m⟩
theorem walk(hh:A.handled=none)(z TI TO i1 i2 l1 l2:ci)(D:ZipApart z TI TO i1 i2 l1 l2)(xs ys:Array cr):WalksT prog w A z [z,TI,TO,i1,i2,l1,l2] [z,TO,i1,i2] (min xs.size ys.size)
   (λi vals=>∃x y,xs[i]?=some x/\ys[i]?=some y/\vals=#[x,y]) (λi h=>Xw h z TI TO i1 i2 l1 l2 .none i xs ys)
   (λi T h=>Xw h z TI TO i1 i2 l1 l2 (kg T) (i+1) xs ys/\T≠z/\T≠TO/\T≠i1/\T≠i2) where
 sub:=λc hc=>by simp only[gp,ie,kF] at hc ⊢;rcases hc with q|q|q|q<;>simp[q]
 frame:=λi h h' st k=>by obtain⟨hz,Xx,⟨a,b,Xy⟩,h1,h2,Xz,XA⟩:=st;exact⟨k z q0o _ hz,k TI q0o _ Xx,⟨a,b,k TO q0o _ Xy⟩,h1.at λo e=>k i1 q0o o e,h2.at λo e=>k i2 q0o o e,Xz.at λo e=>k l1 q0o o e,XA.at λo e=>k l2 q0o o e⟩
 item:=λi s Q E hi st hQ=>by have ix:i<xs.size:=ga hi<|Nat.min_le_left ..;have iy:i<ys.size:=ga hi<|Nat.min_le_right ..;have hT:s.TypeIs (.ref z) "zip":=⟨_,st.1,rfl⟩;unfold rA;refine am<|nN<|wpAny_callSpecial?_slot (name:=ky "__next__") hT oo<|gR oo hT F.entry_zip_next (RK D st (io ix) (io iy) λh' a1 a2 a3 a4 a5 k=>ap ?_)<|F.args_zip_next_1 _;obtain⟨hz,Xx,⟨a,b,Xy⟩,h1,h2,Xz,XA⟩:=st;have lt:∀{c o},s.heap.get? c=some o->s.heap.objs.size≠c:=λe=>ii<|fQ e;refine hQ s.heap.objs.size #[xs[i],ys[i]] h' s.toks ⟨_,_,io ix,io iy,rfl⟩ (fJ _) ⟨_,a5,rfl,_,rfl⟩ ⟨⟨a1,k _ _ D.TIz D.TITO D.TIi1 D.TIi2 Xx,⟨_,_,a2⟩,a3,a4,Xz.at λo e=>k _ o D.l1z D.l1TO D.l1i1 D.l1i2 e,XA.at λo e=>k _ o D.l2z D.l2TO D.l2i1 D.l2i2 e⟩,lt hz,lt Xy,by obtain⟨_,e,_⟩:=h1;exact lt e,by obtain⟨_,e,_⟩:=h2;exact lt e⟩ ?_;exact λc o hc e=>k c o (λx=>hc<|by simp[x]) (λx=>hc<|by simp[x]) (λx=>hc<|by simp[x]) (λx=>hc<|by simp[x]) e
 go:=λelts k pos i T s Q E hm hQ=>by obtain⟨⟨hz,Xx,⟨a,b,Xy⟩,h1,h2,Xz,XA⟩,_⟩:=hm;refine wpAny_letOwnedTupleGo_zip hz λh' hz' e=>hQ h' ⟨hz',e.extBut _ _ D.TIz Xx,⟨a,b,e.extBut _ _ D.TOz Xy⟩,h1.extBut e.extBut D.i1z,h2.extBut e.extBut D.i2z,Xz.extBut e.extBut D.l1z,XA.extBut e.extBut D.l2z⟩ λc o hc q=>e.extBut _ _ (λx=>hc<|by simp[x]) q
 apart:=λi T h hm hT=>by obtain⟨_,t1,t2,t3,t4⟩:=hm;simp only[gp,ie,kF] at hT;rcases hT with q|q|q|q;exact t1 q;exact t2 q;exact t3 q;exact t4 q
 done:=λs Q E st hQ=>by
  have ZY:xs[min xs.size ys.size]?=none\/ys[min xs.size ys.size]?=none:=by
   rcases Nat.le_total xs.size ys.size with h|h
   ·rw[Nat.min_eq_left h];exact .inl<|qY<|fJ _
   ·rw[Nat.min_eq_right h];exact .inr<|qY<|fJ _
  have hT:s.TypeIs (.ref z) "zip":=⟨_,st.1,rfl⟩;unfold rA;refine am<|nN<|wpAny_callSpecial?_slot (name:=ky "__next__") hT oo<|gR oo hT F.entry_zip_next (VF hh D st ZY λh' e k he=>?_)<|F.args_zip_next_1 _;obtain⟨o,ho,hc⟩:=he;exact am<|kK (T:="StopIteration") (b:=true) ⟨o,ho,hc⟩ isSubtype_stop<|ap<|hQ _ s.toks λc o hc e=>k c o (λx=>hc<|by simp[x]) (λx=>hc<|by simp[x]) (λx=>hc<|by simp[x]) (λx=>hc<|by simp[x]) e
 self:=λi s Q E st hQ=>wpAny_pyIter_zip st.1 hQ
end
end ZT
namespace L2
open PySem PySem.Spec PyProof.Rows
theorem ZZ:NR X (yg X.K) P:=⟨λ{v J H1 g a b L M x} m N y A B=>by
 obtain⟨n,C,p,O⟩:=m.tuple y;obtain⟨q,D,r,R⟩:=m.tuple A;have h:g.heap.get? P=some (pT x):=m.uO P _ B;have i:ph g.heap a n.toArray:=p;have j:ph g.heap b q.toArray:=r
 have f:∀(l:ci)(d:Array cr),g.heap.IsTuple l d->l≠P:=λl d s=>ux s λo e c _ z=>by rw[z,h] at e;cases e;cases c
 have k:∀(l:ci)(d:Array cr),g.heap.IsTuple l d->l<g.heap.objs.size:=λl d s=>tX s λo e _=>fQ e;refine⟨n,q,C,D,k _ _ i,k _ _ j,f _ _ i,f _ _ j,λQ E F=>ZT.Op i j λG t u H=>?_⟩
 exact F G _ _ (λS I=>(ZT.walk (prog:=X.prog) (w:=X.w) I _ _ _ _ _ _ _ (zipApart_new (k _ _ i) (k _ _ j)) n.toArray q.toArray).toU) t u H⟩
end L2
namespace HT
variable[L2.GX]
open PySem PySem.Spec PyProof.Rows
section
variable{prog:gf}{w:gu}{A:gJ}{E:cr->fH->Prop}{s:fH}
theorem zR{a:Option Int}(b:IsTup s.heap t items)(i:s.heap.IsSliceOf j k l .none)(m:oV k a)(n:oV l c)
 (hw:v6 items.size 0 a=0/\v6 items.size items.size c=items.size)(h:Q (.ref t) s):fO (fS prog w) A (mF (.ref t)<|.ref j) Q E s:=by
  refine ux (id i) λo d e p=>?_
  have f:s.TypeIs (.ref j) "slice":=⟨o,d,e⟩
  unfold mF
  try with_reducible refine gC ?_
  first|refine am (ap ?_)|skip
  refine am<|wpAny_sequenceKey b.typeIs q0q ?_
  refine am (wpAny_callSpecial?_slot (name:=ky "__getitem__") b.typeIs jl
    (gR jl b.typeIs entry_tuple_getitem ?_ (args_tuple_getitem _ _)))
  show fO _ _ (oQ (.ref t) >>= _) _ _ s
  refine am<|tupleItemsOf_ b ?_
  refine am<|jB f ?_
  rw[fE q0q]
  refine am<|xV i m n ?_
  have g:(((v6 items.size 0 a:Nat):Int)==0&&(1:Int)==1&&(v6 items.size items.size c-v6 items.size 0 a)==items.size)=true:=by
    rw[hw.1,hw.2]
    simp
  show fO _ _ (if (((v6 items.size 0 a:Nat):Int)==0&&(1:Int)==1&&(v6 items.size items.size c-v6 items.size 0 a)==items.size)=true then _ else _) _ _ s
  rw[fE g]
  unfold Builtin.Tuple.tupleIsExact
  refine am<|am<|jB b.typeIs<|ap ?_
  rw[fE q0q]
  first
    | exact am<|kE<|ap ⟨_,rfl,ap h⟩
    | exact am<|kE<|am<|ap<|ap ⟨_,rfl,ap h⟩
    | exact am<|am<|kE<|ap<|ap ⟨_,rfl,ap h⟩
end
end HT
namespace L2
variable[L2.GX]
open PySem PySem.Spec PyProof.Rows
def XD(K:fB):V->Option Int->Option Int->Hp->VK->Prop:=λx c d H Q=>∃a b,x=.ref a/\yg K H a b/\(HT.v6 b.length 0 c=0/\HT.v6 b.length b.length d=b.length)/\Q (.ref a) H
theorem RL:TU X (XD X.K):=by
 intro d s n H x v o p t u w Q I f g i j h;obtain⟨a,k,rfl,l,m,q⟩:=h;cases f;refine ux (I.tuple l) λc r e y=>?_;have b:c.toArray.size=k.length:=by rw[fW];exact r.length.symm
 refine⟨"tuple",_,PyProof.Rows.slot_tuple_getitem.lookup,e.typeIs,?_⟩;exact HT.zR e g i j (by rw[b];exact m) ⟨.ref a,H,I,rfl,q⟩
end L2
namespace WL
variable[L2.GX]
open PySem L2
open Rep (rp)
open Ow (sl)
open Sls (rel)
section
variable{X:Cx}{E:XK}{T:ci}{D:Type}[Sls D]{pos:Pos}
theorem ve.Oq{F R:Rg}{H c:Hp}{d:D}{f:St}(s:ve T F R H d f)(k:∀b o,b≠T->H b=some o->c b=some o)(t:TabAt c T):Ch T F R H F R c/\ve T F R c d f:=by
 refine⟨⟨λb o _ n h=>k b o n h,λ_ h=>.inl h,λ_ h=>.inl h,λ_ h _=>h⟩,Sls.st s.rel (G:=λa=>a=T) ⟨λb o n h=>k b o n h,λ_ h=>.inl h⟩ (λa h=>by rw[h];exact s.uQ)<|λa h z=>s.uF (by rw[<- z];exact h),s.sub,λa h=>?_,t,s.uQ,s.uF⟩;by_cases e:a=T
 ·rw[e];exact ya t
 ·cases q:H a with
  | none=>exact fY q<|s.wn a h
  | some o=>rw[k a o e q];simp
theorem Dh{x:Tp Int}(h:rp R H x v):∃a,v=.ref a/\H a=some (.tup<|x.l.map V.int):=by refine vt h λa vs e _ h3 h4=>?_;exact⟨a,e,by rw[h3,paired_ints h4]⟩
theorem Di{x:List Int}(h:rp R H x v):∃a,v=.ref a/\H a=some (.lst<|x.map V.int):=by refine vt h λa vs e _ h3 h4=>?_;exact⟨a,e,by rw[h3,paired_ints h4]⟩
theorem Ot(B:EW X E T i G)(I:EW X E T f J)(L:∀{j:TA},PA X [i,f] j->PE X e (Xg X.K T j))
 (M:fG [i,f] X.env=(false,eval i X.env)::fG [f] X.env:=by rfl) (l:fG [f] X.env=(false,eval f X.env)::fG [] X.env:=by rfl) :
    EW X E T e (λ(d:D)(q:Bool->D->Prop) g=>G d (λN m=>J m (λO n=>q (yx N O) n) g) g):=by
  refine tX B λj P S=>?_
  refine tX I λtb U V=>?_
  refine⟨_,L<|ue P (ue U uu l) M,λd F R r H q g Q s W Y w=>?_⟩
  refine S d F R r H _ g _ s W (λx m u Z R1 H1 q1 z h r1=>?_) w
  refine V m Z R1 r H1 _ g _ h q1 (λy n v F2 R2 H2 q2 A o r2=>?_) λC y d' F' R' p k c s'=>w C y d' F' R' p k (Ch.trans s h.tab z c) s'
  obtain⟨a,rfl,ha⟩:=Di<|h.val A r1
  obtain⟨b,rfl,hb⟩:=Di r2
  refine⟨a,b,x,y,rfl,vn.of ha,vn.of hb,o.tab,λp k _ t=>?_⟩
  obtain⟨c3,s3⟩:=o.Oq k t
  exact Y _ n _ F2 R2 p q2 (Ch.trans s h.tab z<|Ch.trans h o.tab A c3) s3 rfl
theorem Ou{r w:Wf D (Tp Int) D}(J:EW X E T i r)(L:EW X E T f w)(M:∀{j:TA},PA X [i,f] j->PE X e (Vi X.K T j))
 (N:fG [i,f] X.env=(false,eval i X.env)::fG [f] X.env:=by rfl) (m:fG [f] X.env=(false,eval f X.env)::fG [] X.env:=by rfl) :
    EW X E T e (λ(d:D)(z:Bool->D->Prop) g=>r d (λO n=>w n (λP o=>z (yx O.l P.l) o) g) g):=by
  refine tX J λj S U=>?_
  refine tX L λtb V W=>?_
  refine⟨_,M<|ue S (ue V uu m) N,λd F R A H z g Q s Y Z B=>?_⟩
  refine U d F R A H _ g _ s Y (λx n u F1 R1 H1 q1 G h r1=>?_) B
  refine W n F1 R1 A H1 _ g _ h q1 (λy o v F2 R2 H2 q2 I p r2=>?_) λC y d' F' R' q k c s'=>B C y d' F' R' q k (Ch.trans s h.tab G c) s'
  obtain⟨a,rfl,ha⟩:=Dh<|h.val I r1
  obtain⟨b,rfl,hb⟩:=Dh r2
  refine⟨a,b,x.l,y.l,rfl,yg.of ha,yg.of hb,p.tab,λq k _ t=>?_⟩
  obtain⟨c3,s3⟩:=p.Oq k t
  exact Z _ o _ F2 R2 q q2 (Ch.trans s h.tab G<|Ch.trans h p.tab I c3) s3 rfl
theorem Ml{M N:Option gA}{O:Wf D (Tp Int) D}{P S:Wf D (Option Int) D}(ha:EW X E T a O)(hl:OW X E T M P)(hh:OW X E T N S) :
  EW X E T (.Subscript a (.Slice M N none p2) pos) (λ(d:D)(U:Tp Int->D->Prop) f=>O d (λg r=>P r (λl t=>S t (λh n=>U ⟨D3 g.l l h⟩ n) f) f) f):=by
 refine tX ha λta a1 a2=>?_;refine tX hl λtl l1 l2=>?_;refine tX hh λth h1 h2=>?_;refine⟨_,yY (UV.or RL) a1 l1 h1,λd F R v H U f Q s j V w=>?_⟩;refine a2 d F R v H _ f _ s j (λg r u F1 R1 H1 q1 x i r1=>?_) w;refine l2 r F1 R1 v H1 _ f _ i q1 (λl t F2 R2 H2 q2 W z=>?_) λC y A B G I k c J=>w C y A B G I k (Ch.trans s i.tab x c) J;refine h2 t F2 R2 v H2 _ f _ z q2 (λh n Y Z H3 q3 c3 o=>?_) λC y A B G I k c J=>w C y A B G I k (Ch.trans s i.tab x<|Ch.trans i z.tab W c) J;have m:=Ch.trans i z.tab W c3;have r3:=i.val m r1;obtain⟨q,b,rfl,k1,K,L⟩:=id r3;have cc:=Ch.trans s i.tab x m;have le:=Paired.length L;by_cases j:HT.v6 b.length 0 l=0/\HT.v6 b.length b.length h=b.length
 ·refine .inr ⟨q,b,rfl,yg.of K,j,?_⟩;refine V _ n _ Y Z H3 q3 cc o ⟨q,b,rfl,k1,K,?_⟩
  have e:D3 g.l l h=g.l:=by unfold D3;rw[le,j.1,j.2,List.drop_zero,Nat.sub_zero,<- le,tV]
  rw[e];exact L
 ·refine .inl ⟨q,b,rfl,yg.of K,j,λp hp=>?_⟩;refine yi (o.new (.tup<|CS b l h) hp) λs4 c4 n4=>?_;exact V _ n _ Y Z _ q3 (Ch.trans s o.tab cc c4) s4 ⟨p,_,rfl,n4,tZ,o.vals c4<|C9 L l h⟩
end
structure SI(w:gu) where
 l:List Int
instance(w:gu):Ow (SI w):=⟨λF _ H x v=>∃a ks,v=some (.ref a)/\(∀b,F b↔b=a)/\H a=some (wl w a ks)/\ks.Nodup/\(∀k,k∈ks↔k∈x.l)/\x.l.Pairwise (· < ·),
 λh e s n=>by
  refine vt h λa ks h1 h2 h3 h4=>?_
  exact⟨a,ks,h1,h2,e.keep a _ (n a<|(h2 a).mpr rfl) h3,h4⟩,
 λh e=>by
  refine vt h λa ks h1 h2 h3 h4=>?_
  exact⟨a,ks,h1,λb=>(e b).symm.trans (h2 b),h3,h4⟩⟩
def Dj(k:Int)(l:List Int):List Int:=if k∈l then l else ins k l
def Jg(k:Int)(l:List Int):List Int:=l.filter λx=>decide<|x≠k
theorem vj{a b:List Int}(c:a.Nodup)(d:b.Nodup)(h:∀k,k∈a↔k∈b):a.Perm b:=(List.perm_ext_iff_of_nodup c d).mpr h
theorem uj{l:List Int}(h:l.Pairwise (· < ·)):l.Nodup:=h.imp λq=>Int.ne_of_lt q
theorem Ht{l:List Int}(h:l.Pairwise (· < ·)):l.Pairwise (·<=·):=h.imp λq=>Int.le_of_lt q
theorem Ug{l:List Int}(h:l.Pairwise (·<=·))(n:l.Nodup):l.Pairwise (· < ·):=List.Pairwise.imp₂ (λa b (q:a<=b) (n:a≠b)=>by lia) h n
theorem yB{k:Int}:k∈Am l↔k∈l:=(wg l).mem_iff
theorem Dk{a:List Int}(n:a.Nodup)(h:∀k,k∈a↔k∈l)(r:l.Pairwise (· < ·)):Am a=l:=zF ((wg a).trans<|vj n (uj r) h) (Ct a)<|Ht r
set_option tactic.hygienic true in
theorem AN{k x:Int}:x∈Dj k l↔x=k\/x∈l:=by
 unfold Dj;split
 ·rename_i h
  exact⟨.inr,λz=>z.elim (λe=>by rw[e];exact h) id⟩
 ·rw[(zd k l).mem_iff,gp]
set_option tactic.hygienic true in
theorem Cw{k:Int}{l:List Int}(r:l.Pairwise (· < ·)):(Dj k l).Pairwise (· < ·):=by
 unfold Dj;split
 ·exact r
 ·rename_i h
  exact Ug (Fj k l<|Ht r)<|(zd k l).nodup_iff.mpr<|List.nodup_cons.mpr ⟨h,uj r⟩
theorem zf{k x:Int}:x∈Jg k l↔x∈l/\x≠k:=by unfold Jg;rw[iv];simp
section
variable{X:Cx}{E:XK}{T:ci}{ms:List Nat}{n:Nat}{D PO τ:Type}[Sls D][Sls PO][Ow τ]{pos:Pos}{α:Type}[Rep α]{is:List Nat}{tg:gA}
theorem RM(j:X.w=w)(l:Gl X "set")(m:X.mg "set"=none):EO X E T (.Call (.Name "set" p) [] [] pos) (λ(d:D)(e:SI w->D->Prop) _=>e ⟨[]⟩ d):=by
 subst j;refine⟨_,Iz Mg l m mD,λd F R x H e y Q s r t A=>⟨rfl,λp c=>?_⟩⟩;refine yi (s.new (wl X.w p []) c) λf u g=>?_;have v:¬F p:=λz=>g<|s.sub p z;have i:Ext (λ_=>False) R H (λa=>R a\/a=p) (upd H p<|wl X.w p []):=⟨λb o _ h=>by rw[ss<|uf h c];exact h,λa h=>h.elim .inl λq=>.inr<|by rw[q];exact c⟩;refine t ⟨[]⟩ d _ (λa=>a=p) F (λa=>R a\/a=p) _ r ⟨u.keep,i.new,λa h=>h.elim (λq=>.inr<|by rw[q];exact c) .inl,λa h _=>.inl h⟩ ⟨Sls.st s.rel i (λ_ z=>z.elim)<|λ_ _ z=>z,λa h=>.inl<|s.sub a h,λa h=>?_,f.tab,.inl s.uQ,s.uF⟩ ⟨⟨p,[],rfl,λb=>Iff.rfl,tZ,mj,λ_=>Iff.rfl,gx⟩,λa h=>.inr h,λa h k=>v (by rw[<- h];exact k),λh=>g<|by rw[<- h];exact s.uQ⟩;rcases h with h|h
 ·exact f.wn a h
 ·rw[h,tZ];simp
theorem tw_inS(i:Nat)(m:X.w=w)[Sls o][A:At i D (SI w) o](q:EW X E T a r)(t:PE X (.Name x p) (uH i))(y:ic .In (.Name x p)=false) :
  TW X E T (.Compare a [.In] [.Name x p] pos) (λ(d:D) g f=>r d (λk c=>g (decide<|k∈(A.get c).l) c) f):=by
 subst m;refine tX q λW z B=>?_;refine⟨_,wQ Vk z t y,λd F R C H g f Q s G I J=>B d F R C H _ f _ s G (λk c u K L M N O h P=>?_) J⟩;obtain⟨v,Y,Z,S,h2,⟨b,j,rfl,g2,U,g4,V,g6⟩,_⟩:=A.take h.rel;refine⟨_,S,k,b,j,P,rfl,U,_,rfl,?_⟩;have e:decide (k∈j)=decide (k∈(A.get c).l):=by simp only[V]
 rw[e];exact I _ c K L M N O h
theorem Cy{i:Nat}[Sls x][A:At i D (SI w) x][U:Pt i x (SI w) D](s:ve T F R H d y):∃a g,y[i]?=some (some<|.ref a)/\H a=some (wl w a g)/\g.Nodup/\(∀k,k∈g↔k∈(A.get d).l)/\(A.get d).l.Pairwise (· < ·) /\
  ∀(j f:List Int),f.Nodup->(∀k,k∈f↔k∈j)->j.Pairwise (· < ·)->Ch T F R H F R (upd H a<|wl w a f)/\ve T F R (upd H a<|wl w a f) (U.put (A.hole d) ⟨j⟩) y:=by
 obtain⟨v,V,W,B,m,⟨a,g,rfl,p,C,G,I,J⟩,K⟩:=A.take s.rel;have r:F a:=(m.all a).mpr<|.inl<|(p a).mpr rfl;have L:a≠T:=λz=>s.uF (by rw[<- z];exact r);refine⟨a,g,B,C,G,I,J,λj f M N O=>?_⟩;have P:=yA (F:=F) (R:=R) (H:=H) (a:=a) (o:=wl w a f);have Q:∀c,c=a->R c:=λc z=>by rw[z];exact s.sub a r
 have k:∀b u,b≠a->H b=some u->upd H a (wl w a f) b=some u:=λb u z e=>by rw[ss z];exact e
 refine⟨⟨λb o n _ e=>k b o (λz=>n<|by rw[z];exact r) e,λ_ h=>.inl h,λ_ h=>.inl h,λ_ h _=>h⟩,Pt.same (A:=U) (Sls.st K P Q λc z q=>m.xi c ((p c).mpr q) z) B m ⟨a,f,rfl,p,tZ,M,N,O⟩,s.sub,λc z=>?_,?_,s.uQ,s.uF⟩
 ·by_cases e:c=a
  ·rw[e,tZ];simp
  ·rw[ss e];exact s.wn c z
 ·refine tX s.tab λS e t=>?_;exact⟨S,k _ _ (λz=>L z.symm) e,t⟩
set_option tactic.hygienic true in
theorem RN(i:Nat)(S:X.w=w)[Sls B][A:At i D (SI w) B][U:Pt i B (SI w) D][J:Pj D PO n](h:EW X E T e W)
 (Y:∀{t:TA},PA X [e] t->PS X (.Expr (.Call (.Attribute (.Name x Z) "add" p2) [e] [] p3) pos) (GS<|Vl X.w (λx vs H Q=>∃(a:ci)(g:List Int)(k:Int),x=.ref a/\vs=[.int k]/\H a=some (wl X.w a g)/\g.length+1<=127/\∀b:List Int,b.Nodup->b.Perm (if k∈g then g else k::g)->Q .vC (upd H a<|wl X.w a b)) (uH i) t)) (hs:fG [e] X.env=(false,eval e X.env)::fG [] X.env:=by rfl) :
    S1 X E T ms n (.Expr (.Call (.Attribute (.Name x Z) "add" p2) [e] [] p3) pos) (λ(d:D)(I:D->Prop)(Kr:τ->PO->Prop) K=>W d (λy f=>(A.get f).l.length<127/\I (U.put (A.hole f) ⟨Dj y (A.get f).l⟩)) λC f=>K C<|J.pj f):=by
  subst S
  refine tX h λt h1 h2=>?_
  refine⟨_,Y<|ue h1 uu hs,λd F R L H I Kr K En s hw kn kr ke=>?_⟩
  refine vt (Cy (i:=i) s) λa g j p g3 _=>?_
  refine⟨_,j,⟨a,g,rfl,p⟩,h2 d F R L H _ _ _ s hw (λy f v M u N q c m r=>?_) λC y f M u N q c m=>?_⟩
  · obtain⟨a', b, O, k2, k3, o, P, k6⟩ := Cy (i := i) m
    rw[j] at O
    cases O
    have r:v=V.int y:=r
    subst r
    have aa:b.length=(A.get f).l.length:=(vj k3 (uj P) o).length_eq
    refine⟨a,b,y,rfl,rfl,k2,by have:=q.1;lia,λus nu pu=>?_⟩
    obtain⟨c2,s2⟩:=k6 (Dj y (A.get f).l) us nu (λk=>by
      rw[pu.mem_iff,AN]
      split
      · rename_i hy
        rw[o]
        exact⟨.inr,λz=>z.elim (λe=>by rw[e];exact(o y).mp hy) id⟩
      · rw[gp, o]) (Cw P)
    exact kn _ M u _ L q.2 (Ch.trans s m.tab c c2) s2<|Ag.refl _ _
  · refine tX (vG (PO := PO) m) λG j p => ?_
    exact ke C y _ G u N q (c.less j) p
set_option tactic.hygienic true in
theorem RO(i:Nat)(W:X.w=w)[Sls B][A:At i D (SI w) B][U:Pt i B (SI w) D][J:Pj D PO n](h:EW X E T e Y)
 (Z:∀{t:TA},PA X [e] t->PS X (.Expr (.Call (.Attribute (.Name x p1) "discard" p2) [e] [] p3) pos) (GS<|Vl X.w (λx vs H Q=>∃(a:ci)(g:List Int)(k:Int),x=.ref a/\vs=[.int k]/\H a=some (wl X.w a g)/\∀b:List Int,b.Nodup->(if k∈g then g.Perm (k::b) else b=g)->Q .vC (upd H a<|wl X.w a b)) (uH i) t)) (hs:fG [e] X.env=(false,eval e X.env)::fG [] X.env:=by rfl) :
    S1 X E T ms n (.Expr (.Call (.Attribute (.Name x p1) "discard" p2) [e] [] p3) pos) (λ(d:D)(I:D->Prop)(Kr:τ->PO->Prop) K=>Y d (λy f=>I<|U.put (A.hole f) ⟨Jg y (A.get f).l⟩) λC f=>K C<|J.pj f):=by
  subst W
  refine tX h λt h1 h2=>?_
  refine⟨_,Z<|ue h1 uu hs,λd F R L H I Kr K En s hw kn kr ke=>?_⟩
  refine vt (Cy (i:=i) s) λa g j p g3 _=>?_
  refine⟨_,j,⟨a,g,rfl,p⟩,h2 d F R L H _ _ _ s hw (λy f v M u N q c m r=>?_) λC y f M u N q c m=>?_⟩
  · obtain⟨a', b, O, k2, k3, k4, k5, k6⟩ := Cy (i := i) m
    rw[j] at O
    cases O
    have r:v=V.int y:=r
    subst r
    refine⟨a,b,y,rfl,rfl,k2,λP nu o=>?_⟩
    obtain⟨c2,s2⟩:=k6 (Jg y (A.get f).l) P nu (λk=>by
      rw[zf,<- k4]
      split at o
      · rename_i S
        have nk:y∉P:=(List.nodup_cons.mp<|o.nodup_iff.mp k3).1
        rw[o.mem_iff,gp]
        exact⟨λz=>⟨.inr z,λe=>nk<|by rw[<- e];exact z⟩,λz=>z.1.elim (λe=>fY e z.2) id⟩
      · rename_i S
        rw[o]
        exact⟨λz=>⟨z,λe=>S (by rw[<- e];exact z)⟩,λz=>z.1⟩) (iX _ k5)
    exact kn _ M u _ L q (Ch.trans s m.tab c c2) s2<|Ag.refl _ _
  · refine tX (vG (PO := PO) m) λG j p => ?_
    exact ke C y _ G u N q (c.less j) p
theorem Jh(i:Nat)(j:X.w=w)[Sls k][A:At i D (SI w) k](m:X.calm=true)(o:Gl X "sorted")(q:X.mg "sorted"=none)(r:PE X (.Name x t) (uH i)) :
  EO X E T (.Call (.Name "sorted" p) [.Name x t] [] pos) (λ(d:D)(b:OL Int->D->Prop) _=>(A.get d).l.length<64/\b ⟨(A.get d).l⟩ d):=by
 subst j;refine⟨_,vW (AD m) o q jj<|ue r uu,λd F R N H b O Q s c u P=>?_⟩;obtain⟨v,S,U,y,V,⟨a,e,rfl,W,z,f,g,h⟩,Y⟩:=A.take s.rel;have B:e.length=(A.get d).l.length:=(vj f (uj h) g).length_eq;refine⟨_,y,a,e,rfl,z,by have:=c.1;omega,λl Z C G I=>?_⟩;rw[Bw G I,Dk f g h];refine ux (wF s C<|wY (R:=R) (H:=H) (A.get d).l) λJ K L M=>?_;exact u _ d _ _ F J _ c.2 K L M
theorem Fx{K:fB}{xs:List α}{vs:List V}:Wp (Y6 K a) xs (λR H=>H a=some (.tup vs)/\Paired (rp R H) xs vs) where
 go:=λ{R H i} p h=>by refine tX (vX (i:=i) (x:=xs[i]) p.2<|by simp[h]) λv e _=>?_;exact⟨vs,v,yg.of p.1,e⟩
 GF:=λ{R H i v H'} p _ hi y=>by obtain⟨e,y⟩:=y;subst e;have y':=y vs<|yg.of p.1;refine tX (vX (i:=i) (x:=xs[i]) p.2<|by simp[hi]) λu e r=>?_;rw[y'] at e;cases e;exact⟨.inl rfl,_,by simp[hi],r⟩
 stop:=λ{R H} p=>⟨vs,yg.of p.1,by rw[Paired.length p.2];exact fJ _⟩
theorem Ov{w:Wf D (Tp α) D}(h:EW X E T e w):IW X E T is tg e (λ(b:D)(_:List α)=>b) (λ(d:D) Kn Ke=>w d (λx d'=>Kn x.l d') Ke):=by refine tX h λt h1 h2=>?_;refine⟨_,UK h1,λd F R σ H Kn Ke Rk s hw kn ke=>h2 d F R σ H _ _ _ s hw (λxs d' v F' R' H' q c s' r=>?_) ke⟩;obtain⟨a,vs,rfl,r1,r2,r3⟩:=r;refine⟨a,rfl,⟨vs,yg.of r2⟩,kn xs.l d' _ (λR H=>(H a=some (.tup vs)/\Paired (rp R H) xs.l vs)/\¬R a) F' (λ_=>False) F' R' H' q c s'.Ib (two_nil F') s'.rel ⟨λp=>Fx.go p.1,λp=>Fx.GF p.1,λp=>Fx.stop p.1⟩ ⟨⟨r2,r3⟩,r1⟩ (λp gs nf ex=>?_) λb' G2 T9 Ia Oa σ' p h g t=>Sls.fq h<|two_eq t λ_ z=>z⟩;have na:¬_:=λz=>p.2<|gs a z;exact⟨⟨ex.keep a _ na p.1.1,vh (ex.wide gs) p.1.2⟩,ex.not p.2 p.1.1⟩
theorem Dl{a:gy}[Sls c][J:Pj D PO n](e:PS X a (N3 C E<|BX (tC x) Cc)):S1 X E T ms n a (λ(d:D)(_:c->Prop)(_:τ->PO->Prop) b=>b C<|J.pj d):=by refine⟨_,e,λd F R j H k l b m s f o p g=>⟨(by show 1<=fK;decide),λy=>?_⟩⟩;refine tX (vG (PO:=PO) s) λG h i=>?_;exact g C y _ G R H f ((Ch.refl _ _ _ _).less h) i
end
def wA(l:List Int):Prop:=l.Pairwise (· < ·)
def asc(a:List Int):Bool:=yx a<|a.drop 1
theorem XG(b:List c):D3 b (some 1) none=b.drop 1:=by
 unfold D3;rw[HT.G6,show (some (1:Int))=some ((1:Nat):Int) from rfl,HT.Kk]
 cases b with
 | nil=>rfl
 | cons a r =>
  rw[show min 1 (a::r).length=1 by simp,iq];rw[lq];exact fJ _
theorem Ox{a b:Int}:asc (a::b::r)=(decide (a<b)&&asc (b::r)):=rfl
theorem xN:∀(c:List Int),asc c=true↔wA c
 | []=>⟨λ_=>gx,λ_=>rfl⟩
 | [a]=>⟨λ_=>iC _ _,λ_=>rfl⟩
 | a::b::r=>by
  rw[Ox,gK,gS,xN (b::r)];unfold wA;constructor
  ·rintro⟨d,f⟩;refine List.pairwise_cons.mpr ⟨λx g=>?_,f⟩;rcases List.mem_cons.mp g with e|e
   ·rw[e];exact d
   ·exact Int.lt_trans d<|(List.pairwise_cons.mp f).1 x e
  ·intro h;exact⟨(List.pairwise_cons.mp h).1 b fM,(List.pairwise_cons.mp h).2⟩
theorem Fy(a:wA b)(c:wA d)(h:∀k,k∈b↔k∈d):b=d:=zF (vj (uj a) (uj c) h) (Ht a)<|Ht c
def GH(l:List Int)(k:Int):List Int:=if k∈l then Jg k l else Dj k l
theorem KO{k:Int}(h:wA l):wA (GH l k):=by
 unfold GH;split
 ·exact iX _ h
 ·exact Cw h
set_option tactic.hygienic true in
theorem RP{k x:Int}:x∈GH l k↔((x∈l)↔¬x=k):=by
 unfold GH;split
 ·rename_i h
  rw[zf];constructor
  ·intro⟨a,b⟩;exact⟨λ_=>b,λ_=>a⟩
  ·intro z;by_cases e:x=k
   ·rw[e] at z;exact fY (z.mp h) q0o
   ·exact⟨z.mpr e,e⟩
 ·rename_i h
  rw[AN];constructor
  ·rintro(a|a)
   ·subst a;exact⟨λz=>fY z h,λz=>fY rfl z⟩
   ·exact⟨λ_ e=>h (by rw[<- e];exact a),λ_=>a⟩
  ·intro z;by_cases e:x=k
   ·exact .inl e
   ·exact .inr<|z.mpr e
def xr(l r:List Int):List Int:=r.foldl GH l
theorem xS:∀{r l:List Int},wA l->wA (xr l r)
 | [],_,h=>h
 | _::r,_,h=>xS (r:=r)<|KO h
theorem zg:∀{r l:List Int} {x:Int},r.Nodup->(x∈xr l r↔((x∈l)↔¬x∈r))
 | [],l,x,_=>by simp[xr]
 | k::r,l,x,h=>by
  have a:=List.nodup_cons.mp h;show x∈xr (GH l k) r↔_;rw[zg a.2,RP,gp];by_cases e:x=k
  ·subst e;simp[a.1]
  ·simp[e]
theorem Oy{r:List Int}{x:Int}(a:r.Nodup)(h:x∈xr l r):x∈l\/x∈r:=by
 rw[zg a] at h;by_cases q:x∈r
 ·exact .inr q
 ·exact .inl<|h.mpr q
def KP(a:List (List Int)):List Int:=a.foldl xr []
theorem AO:∀{rows:List (List Int)} {l:List Int},wA l->wA (rows.foldl xr l)
 | [],_,h=>h
 | _::r,_,h=>AO (rows:=r)<|xS h
theorem RQ(a:List (List Int)):wA (KP a):=AO gx
theorem vI{l U:List Int}(h:wA l)(s:∀x∈l,x∈U):l.length<=U.length:=SX.xZ _ _ (uj h) s
def jn(a b:List Int):List Int:=Am<|a.filter (λk=>!decide (k∈b))++b.filter λk=>!decide (k∈a)
theorem Fz{k:Int}:k∈jn a b↔(k∈a/\k∉b)\/(k∈b/\k∉a):=by unfold jn;rw[yB,kJ,iv,iv];simp
theorem FA(c:wA d)(f:wA g):wA (jn d g):=by refine Ug (Ct _)<|(wg _).nodup_iff.mpr<|List.nodup_append.mpr ⟨iX _<|uj c,iX _<|uj f,λa h b i e=>?_⟩;subst e;have j:=(List.mem_filter.mp h).1;have k:=(List.mem_filter.mp i).2;simp[j] at k
theorem Uh(e:wA c)(f:wA d):jn c d=xr c d:=Fy (FA e f) (xS e) λk=>by rw[Fz,zg<|uj f];by_cases a:k∈c<;>by_cases b:k∈d<;>simp[a,b]
theorem vk:∀{a:List k} {K:List g->S->Prop},(∀x∈a,∀K:Option g->S->Prop,K (f x) s->b x s K)->K (a.filterMap f) s->AM b a s K:=by
 intro i
 induction i with
 | nil=>intro _ _ h;exact h
 | cons x a c =>
  intro K d h;refine d x fM _<|c (λy j=>d y<|fP _ j) ?_
  have e:(x::a).filterMap f=(f x).toList++a.filterMap f:=by rw[jd];cases f x<;>rfl
  rw[e] at h;exact h
theorem filterMap_filter(p:b->Bool):∀a:List b,a.filterMap (λx=>if p x=true then some x else none)=a.filter p
 | []=>rfl
 | x::a=>by rw[jd,iw,filterMap_filter p a];cases p x<;>rfl
theorem uW(I:List j->B->Prop):∀(a:List j) {s:B},I a s->(∀x r s,(∃p,a=p++x::r)->I (x::r) s->∀K:B->Prop,(∀c,I r c->K c)->b x s K k l)->(∀s,I [] s->m s)->Fv b a s m k l:=by
 intro d
 induction d with
 | nil=>intro s h _ f;exact f s h
 | cons x a g=>intro s h i f;exact i x a s ⟨[],rfl⟩ h _ λc n=>g n (λy r o d=>MZ d λp e q=>i y r o ⟨x::p,by rw[e];rfl⟩ q) f
theorem uZ{n:Nat}(h:n<=1000):n<=fK:=kq<|LY h
structure Bd(C:ci)(fl:Bool) where
 rk:List (Int×Int)
 bd:List (Int×List Int)
 up:Int
 ht:List (Int×Int)
 th:List (Int×Int)
def lk{a:Type}(l:List (Int×a))(k:Int):Option a:=(l.find? λe=>decide<|e.1=k).map (·.2)
def Ao(l:List (Int×Int)):List (Key×V):=l.map λe=>(gm e.1,V.int e.2)
def AQ(R:Rg)(H:Hp):List (Int×List Int)->List (Key×V)->Prop:=Paired λe u=>u.1=gm e.1/\rp R H (Tp.mk e.2) u.2
def xD(a b c d:ci)(e:Int)(f:Bool):List (Str×V):=("ranks",.ref a)::("borders",.ref b)::("upcoming",.int e)::(if f=true then [("head_by_tail",.ref c),("tail_by_head",.ref d)] else [])
def adr(p dx d1 d2 d3 d4:ci)(fl:Bool):List ci:=p::dx::d1::d2::(if fl=true then [d3,d4] else [])
structure Dm(C:ci)(fl:Bool)(R:Rg)(H:Hp)(x:Bd C fl)(p dx d1 d2 d3 d4:ci)(us:List (Key×V)):Prop where
 nd:(adr p dx d1 d2 d3 d4 fl).Nodup
 ob:H p=some (.ins C dx<|xD d1 d2 d3 d4 x.up fl)
 ow:H dx=some (.own p)
 rk:H d1=some (.dK<|Ao x.rk)
 bd:H d2=some (.dK us)
 tu:AQ R H x.bd us
 ht:fl=true->H d3=some (.dK<|Ao x.ht)
 th:fl=true->H d4=some (.dK<|Ao x.th)
theorem Cz{R R':Rg}{H H':Hp}(e:Ext R R H R' H'):∀{l:List (Int×List Int)} {us:List (Key×V)},AQ R H l us->AQ R' H' l us:=by
 intro _ _ z
 induction z with
 | nil=>exact .nil
 | cons h t ih=>exact .cons ⟨h.1,Rep.st h.2 e⟩ ih
theorem Dm.st{C:ci}{fl:Bool}{G R R':Rg}{H H':Hp}{x:Bd C fl}{p dx d1 d2 d3 d4:ci}{us:List (Key×V)}(b:Dm C fl R H x p dx d1 d2 d3 d4 us)(e:Ext G R H R' H')(s:∀a,G a->R a)(n:∀a,a∈adr p dx d1 d2 d3 d4 fl->¬G a):Dm C fl R' H' x p dx d1 d2 d3 d4 us :=
 ⟨b.nd,e.keep _ _ (n _<|by simp[adr]) b.ob,e.keep _ _ (n _<|by simp[adr]) b.ow,e.keep _ _ (n _<|by simp[adr]) b.rk,e.keep _ _ (n _<|by simp[adr]) b.bd,Cz (e.wide s) b.tu,λh=>e.keep _ _ (n _<|by simp[adr,h])<|b.ht h,λh=>e.keep _ _ (n _<|by simp[adr,h])<|b.th h⟩
instance(C:ci)(fl:Bool):Ow (Bd C fl):=⟨λF R H x v=>∃p dx d1 d2 d3 d4 us,v=some (.ref p)/\(∀b,F b↔b∈adr p dx d1 d2 d3 d4 fl)/\Dm C fl R H x p dx d1 d2 d3 d4 us,
 λh e s n=>by
  obtain⟨p,dx,d1,d2,d3,d4,us,h1,h2,h3⟩:=h
  exact⟨p,dx,d1,d2,d3,d4,us,h1,h2,h3.st e s λa z=>n a<|(h2 a).mpr z⟩,
 λh e=>by
  obtain⟨p,dx,d1,d2,d3,d4,us,h1,h2,h3⟩:=h
  exact⟨p,dx,d1,d2,d3,d4,us,h1,λb=>(e b).symm.trans (h2 b),h3⟩⟩
instance(C:ci)(fl:Bool):Hs (Bd C fl):=⟨λz9=>YN z9 λ_ _ _ _ _ _ _ h _=>⟨_,h⟩⟩
theorem Hu{R L:Rg}{H:Hp}(k:∀a,L a->∃b,H a=some (.lst b)):∀{l:List (Int×List Int)} {b:List (Key×V)},AQ R H l b->AQ (λa=>R a\/L a) H l b
 | _,_,.nil=>.nil
 | _,_,.cons h t=>.cons ⟨h.1,Jc.no h.2 k⟩<|Hu k t
instance(C:ci)(fl:Bool):RD (Bd C fl):=⟨λ{F R L H x v} h k=>by
 obtain⟨p,dx,d1,d2,d3,d4,us,h1,h2,b⟩:=h
 exact⟨p,dx,d1,d2,d3,d4,us,h1,h2,b.nd,b.ob,b.ow,b.rk,b.bd,Hu k b.tu,b.ht,b.th⟩⟩
structure BB(K:fB)(C:ci):Prop where
 cl:zP K C
 nR:uS K C "ranks"
 nB:uS K C "borders"
 nU:uS K C "upcoming"
structure MY(K:fB)(C:ci):Prop where
 nH:uS K C "head_by_tail"
 nT:uS K C "tail_by_head"
theorem xq(k:Int):∀l:List (Int×Int),xn (Ao l) (gm k)=(lk l k).map V.int
 | []=>rfl
 | e::l=>by
  by_cases h:e.1=k
  ·show xn ((gm e.1,V.int e.2)::Ao l) _=_;rw[xW<|by rw[h]];unfold lk;rw[gQ,decide_eq_true h];rfl
  ·show xn ((gm e.1,V.int e.2)::Ao l) _=_;rw[xX (by intro z;exact h<|mf z),xq k l];unfold lk;rw[gQ,gz h]
theorem Dn{R:Rg}{H:Hp}{k:Int}:∀{l:List (Int×List Int)} {us:List (Key×V)},AQ R H l us->(∀b,lk l k=some b->∃v,xn us (gm k)=some v/\rp R H (Tp.mk b) v)/\(lk l k=none->xn us (gm k)=none):=by
 intro z0 z1 z9
 induction z9 with
 | nil=>exact⟨(λb h=>by cases h),λ_=>rfl⟩
 | @cons e u l us h t VG =>
  obtain⟨i1,i2⟩:=VG;by_cases q:e.1=k
  ·have e1:lk (e::l) k=some e.2:=by unfold lk;rw[gQ,decide_eq_true q];rfl
   rw[e1];refine⟨λb hb=>?_,(λz=>by cases z)⟩;cases hb;exact⟨u.2,xW (by rw[h.1,q]),h.2⟩
  ·have e1:lk (e::l) k=lk l k:=by unfold lk;rw[gQ,gz q]
   rw[e1,xX<|by rw[h.1];intro z;exact q<|mf z];exact⟨i1,i2⟩
def pk{a:Type}(l:List (Int×a))(k:Int)(v:a):List (Int×a):=if (lk l k).isSome then l.map (λe=>if e.1=k then (e.1,v) else e) else l++[(k,v)]
def dk{a:Type}(l:List (Int×a))(k:Int):List (Int×a):=l.filter λe=>decide<|e.1≠k
theorem RS(l:List (Int×Int))(k v:Int):putK (Ao l) (gm k) (V.int v)=Ao (pk l k v):=by
 unfold putK pk;rw[y9,xq,hI]
 cases (lk l k).isSome with
 | true =>
  rw[fE rfl,fE rfl];unfold Ao;rw[jt,jt];refine lV λe _=>?_;show (if (gm e.1:Key)=gm k then _ else _)=(λe:Int×Int=>((gm e.1:Key),V.int e.2)) (if e.1=k then (e.1,v) else e);by_cases h:e.1=k
  ·rw[fE (by rw[h]),fE h]
  ·rw[fF<|λz=>h<|mf z,fF h]
 | false =>
  rw[fF fT,fF fT];unfold Ao;rw[jb];rfl
theorem Hv(l:List (Int×Int))(k:Int):y8 (Ao l) (gm k)=Ao (dk l k):=by
 unfold y8 dk Ao;rw[pZ];congr 1;refine mK λe _=>?_;show decide ((gm e.1:Key)≠gm k)=decide (e.1≠k);by_cases h:e.1=k
 ·simp[h]
 ·simp[h]
theorem Hw{R:Rg}{H:Hp}{k:Int}{b:List Int}{v:V}(h:rp R H (Tp.mk b) v):∀{l:List (Int×List Int)} {us:List (Key×V)},AQ R H l us->AQ R H (l++[(k,b)]) (us++[(gm k,v)])
 | _,_,.nil=>.cons ⟨rfl,h⟩ .nil
 | _,_,.cons q t=>.cons q<|Hw h t
theorem Oz{R:Rg}{H:Hp}{l:List (Int×List Int)}{us:List (Key×V)}{k:Int}{b:List Int}{v:V}(t:AQ R H l us)(hn:lk l k=none)(h:rp R H (Tp.mk b) v):AQ R H (pk l k b) (putK us (gm k) v):=by unfold pk;rw[hn,Nx _<|(Dn t).2 hn];exact Hw h t
theorem Mm{R:Rg}{H:Hp}{k:Int}:∀{l:List (Int×List Int)} {us:List (Key×V)},AQ R H l us->AQ R H (dk l k) (y8 us<|gm k):=by
 intro z0 z1 z9
 induction z9 with
 | nil=>exact .nil
 | @cons e u l us h t VG =>
  have ih:=VG;unfold dk y8 at ih ⊢;rw[iw,iw];by_cases q:e.1=k
  ·rw[fF (by simpa using q),fF<|by rw[h.1];simpa using q];exact ih
  ·rw[fE (by simpa using q),fE<|by rw[h.1];simpa using q];exact .cons h ih
inductive ID where
 | rk|ht|th
abbrev ID.nm:ID->Str
 | .rk=>"ranks" | .ht=>"head_by_tail" | .th=>"tail_by_head"
abbrev ID.get{C:ci}{a:Bool}:ID->Bd C a->List (Int×Int)
 | .rk,x=>x.rk|.ht,x=>x.ht|.th,x=>x.th
abbrev ID.set{C:ci}{a:Bool}:ID->Bd C a->List (Int×Int)->Bd C a
 | .rk,x,l=>{ x with rk:=l}|.ht,x,l=>{ x with ht:=l}|.th,x,l=>{ x with th:=l}
def ID.ok:ID->Bool->Prop
 | .rk,_=>True|.ht,fl=>fl=true|.th,fl=>fl=true
section
variable{C:ci}{fl:Bool}{R:Rg}{H:Hp}{x:Bd C fl}{p dx d1 d2 d3 d4:ci}{us:List (Key×V)}
theorem Z0(h:(a::b::c::d::r).Nodup):(a≠b/\a≠c/\a≠d/\∀x∈r,a≠x)/\(b≠c/\b≠d/\∀x∈r,b≠x)/\(c≠d/\∀x∈r,c≠x)/\(∀x∈r,d≠x)/\r.Nodup:=by have g:=List.nodup_cons.mp h;have i:=List.nodup_cons.mp g.2;have j:=List.nodup_cons.mp i.2;have k:=List.nodup_cons.mp j.2;simp only[gp,oX] at g i j;exact⟨⟨g.1.1,g.1.2.1,g.1.2.2.1,λx f e=>g.1.2.2.2<|by rw[e];exact f⟩,⟨i.1.1,i.1.2.1,λx f e=>i.1.2.2<|by rw[e];exact f⟩,⟨j.1.1,λx f e=>j.1.2<|by rw[e];exact f⟩,λx f e=>k.1 (by rw[e];exact f),k.2⟩
theorem zh(b:Dm C fl R H x p dx d1 d2 d3 d4 us)(q:ID)(k:q.ok fl):∃d,(xD d1 d2 d3 d4 x.up fl).lookup q.nm=some (.ref d)/\H d=some (.dK<|Ao<|q.get x)/\d∈adr p dx d1 d2 d3 d4 fl /\
  ∀g,R d->Dm C fl R (upd H d<|.dK<|Ao g) (q.set x g) p dx d1 d2 d3 d4 us:=by
 have f:=Z0 b.nd;have i:∀d g,R d->AQ R (upd H d<|.dK<|Ao g) x.bd us:=λd g h=>Cz ((yA (F:=R) (R:=R) (H:=H) (a:=d) (o:=.dK<|Ao g)).wide λc z=>by rw[z];exact h) b.tu
 cases q with
 | rk =>
  refine⟨d1,rfl,b.rk,by simp[adr],λg h=>⟨b.nd,by rw[ss f.1.2.1];exact b.ob,by rw[ss f.2.1.1];exact b.ow,tZ,by rw[ss f.2.2.1.1.symm];exact b.bd,i _ _ h,λz=>?_,λz=>?_⟩⟩
  ·rw[ss (f.2.2.1.2 d3<|by rw[fE z];simp).symm];exact b.ht z
  ·rw[ss (f.2.2.1.2 d4<|by rw[fE z];simp).symm];exact b.th z
 | ht =>
  have z:fl=true:=k;subst z;have j:=List.nodup_cons.mp f.2.2.2.2;refine⟨d3,rfl,b.ht rfl,by simp[adr],λg h=>⟨b.nd,by rw[ss<|f.1.2.2.2 d3 q0o];exact b.ob,by rw[ss<|f.2.1.2.2 d3 q0o];exact b.ow,by rw[ss<|f.2.2.1.2 d3 q0o];exact b.rk,by rw[ss<|f.2.2.2.1 d3 q0o];exact b.bd,i _ _ h,λ_=>tZ,λ_=>?_⟩⟩;rw[ss<|λe=>j.1<|by rw[<- e];simp];exact b.th rfl
 | th =>
  have z:fl=true:=k;subst z;have j:=List.nodup_cons.mp f.2.2.2.2;refine⟨d4,rfl,b.th rfl,by simp[adr],λg h=>⟨b.nd,by rw[ss<|f.1.2.2.2 d4 q0o];exact b.ob,by rw[ss<|f.2.1.2.2 d4 q0o];exact b.ow,by rw[ss<|f.2.2.1.2 d4 q0o];exact b.rk,by rw[ss<|f.2.2.2.1 d4 q0o];exact b.bd,i _ _ h,λ_=>?_,λ_=>tZ⟩⟩;rw[ss<|λe=>j.1<|by rw[e];simp];exact b.ht rfl
end
section
variable{X:Cx}{E:XK}{T:ci}{ms:List Nat}{n:Nat}{D PO τ:Type}[Sls D][Sls PO][Ow τ]{pos:Pos}{C:ci}{fl:Bool}{x:Str}{p1 p2:Pos}
theorem vv{i:Nat}[Sls K][A:At i D (Bd C fl) K](s:ve T F R H d L):∃p f g j l m B,L[i]?=some (some<|.ref p)/\Dm C fl R H (A.get d) p f g j l m B/\(∀a∈adr p f g j l m fl,R a) /\
  ∀{U:Pt i K (Bd C fl) D} {a:ci} {o:HO} {G:Bd C fl} {r:List (Key×V)},a∈adr p f g j l m fl->Dm C fl R (upd H a o) G p f g j l m r->Ch T F R H F R (upd H a o)/\ve T F R (upd H a o) (U.put (A.hole d) G) L:=by
 obtain⟨v,Y,Z,M,I,⟨p,f,g,j,l,m,B,rfl,J,N⟩,O⟩:=A.take s.rel;have w:∀a∈adr p f g j l m fl,F a:=λa h=>(I.all a).mpr<|.inl<|(J a).mpr h;refine⟨p,f,g,j,l,m,B,M,N,λa h=>s.sub a<|w a h,λ{U a o G r} y P=>?_⟩;have Q:=yA (F:=F) (R:=R) (H:=H) (a:=a) (o:=o);have S:∀c,c=a->R c:=λc z=>by rw[z];exact s.sub a<|w a y
 have k:∀b u,b≠a->H b=some u->upd H a o b=some u:=λb u z e=>by rw[ss z];exact e
 refine⟨⟨λb o n _ e=>k b o (λz=>n<|by rw[z];exact w a y) e,λ_ h=>.inl h,λ_ h=>.inl h,λ_ h _=>h⟩,Pt.same (A:=U) (Sls.st O Q S λc z q=>I.xi c ((J c).mpr<|by rw[q];exact y) z) M I ⟨p,f,g,j,l,m,r,rfl,J,P⟩,s.sub,λc z=>?_,?_,s.uQ,s.uF⟩
 ·by_cases e:c=a
  ·rw[e,tZ];simp
  ·rw[ss e];exact s.wn c z
 ·refine tX s.tab λW e t=>?_;exact⟨W,k _ _ (λz=>s.uF<|by rw[z];exact w a y) e,t⟩
theorem OA(q:ID)(b:Bool)(i:Nat)[Sls U][A:At i D (Bd C fl) U](W:q.ok fl)(Y:zP X.K C)(Z:uS X.K C q.nm)(G:X.A.units+1<ju)(hk:EW X E T a wk)(I:PE X (.Name x p1) (uH i))(J:gH (.Name x p1) q.nm X.env (eval (.Name x p1) X.env)=eval (.Name x p1) X.env:=by rfl)
 (L:ic (if b then .NotIn else .In) (.Attribute (.Name x p1) q.nm p2)=false:=by with_unfolding_all rfl):EW X E T (.Compare a [if b then .NotIn else .In] [.Attribute (.Name x p1) q.nm p2] pos) (λ(d:D)(t:Bool->D->Prop) m=>wk d (λk c=>t (if b then !(lk (q.get<|A.get c) k).isSome else (lk (q.get<|A.get c) k).isSome) c) m):=by
  refine tX hk λta M N=>?_
  have O:∀{c:D} {j l:Rg} {e:Hp} {f:St} {k:Int} {Q:VK},ve T j l e c f->Q (.bl<|if b then !(lk (q.get<|A.get c) k).isSome else (lk (q.get<|A.get c) k).isSome) e->UR X.K (uH i) q.nm f e λy P=>∃a o,y=.ref a/\xf P a (.int k) o/\Q (.bl<|if b then !o.isSome else o.isSome) P:=λ{c j l e f k Q} g r=>by
    obtain⟨p,dx,e1,e2,e3,e4,us,g1,S,_,_⟩:=vv (i:=i) g
    refine Bb (zh S q W) λd l1 l2 _ _=>?_
    refine⟨_,g1,p,C,dx,_,_,rfl,S.ob,Y,Z,l1,d,_,rfl,xf.k (k:=gm k) l2,?_⟩
    rw[xq,hI]
    exact r
  cases b with
  | false=>exact⟨_,M0 (NA G M (vV I J)) L,λd F R f H t m Q s v r w=>N d F R f H _ m _ s v (λk c u j l e z B g h=>by
      have h:u=V.int k:=h
      subst h
      exact O g (r _ c _ j l e z B g rfl)) w⟩
  | true=>exact⟨_,M0 (Bj G M (vV I J)) L,λd F R f H t m Q s v r w=>N d F R f H _ m _ s v (λk c u j l e z B g h=>by
      have h:u=V.int k:=h
      subst h
      exact O g (r _ c _ j l e z B g rfl)) w⟩
theorem tw_dIn(q:ID)(b:Bool)(i:Nat)[Sls W][A:At i D (Bd C fl) W](Y:q.ok fl)(Z:zP X.K C)(nf:uS X.K C q.nm)(I:X.A.units+1<ju)(hk:EW X E T a wk)(J:PE X (.Name x p1) (uH i))(L:gH (.Name x p1) q.nm X.env (eval (.Name x p1) X.env)=eval (.Name x p1) X.env:=by rfl)
 (M:ic (if b then .NotIn else .In) (.Attribute (.Name x p1) q.nm p2)=false:=by with_unfolding_all rfl):TW X E T (.Compare a [if b then .NotIn else .In] [.Attribute (.Name x p1) q.nm p2] pos) (λ(d:D)(v:Bool->D->Prop) r=>wk d (λk e=>v (if b then !(lk (q.get<|A.get e) k).isSome else (lk (q.get<|A.get e) k).isSome) e) r):=by
  refine tX hk λta N O=>?_
  have P:∀{e:D} {l m:Rg} {f:Hp} {g:St} {k:Int} {Q:VK},ve T l m f e g->Q (.bl<|if b then !(lk (q.get<|A.get e) k).isSome else (lk (q.get<|A.get e) k).isSome) f->UR X.K (uH i) q.nm g f λy S=>∃a o,y=.ref a/\xf S a (.int k) o/\Q (.bl<|if b then !o.isSome else o.isSome) S:=λ{e l m f g k Q} h t=>by
    obtain⟨p,dx,e1,e2,e3,e4,us,g1,U,_,_⟩:=vv (i:=i) h
    refine Bb (zh U q Y) λd l1 l2 _ _=>?_
    refine⟨_,g1,p,C,dx,_,_,rfl,U.ob,Z,nf,l1,d,_,rfl,xf.k (k:=gm k) l2,?_⟩
    rw[xq,hI]
    exact t
  cases b with
  | false=>exact⟨_,Ij (NA I N (vV J L)) M,λd F R g H v r Q s w t z=>O d F R g H _ r _ s w (λk e u l m f B G h j=>by
      have j:u=V.int k:=j
      subst j
      exact P (Q:=λy H=>∃c,y=.bl c/\Q c H) h ⟨_,rfl,t _ e l m f B G h⟩) z⟩
  | true=>exact⟨_,Ij (Bj I N (vV J L)) M,λd F R g H v r Q s w t z=>O d F R g H _ r _ s w (λk e u l m f B G h j=>by
      have j:u=V.int k:=j
      subst j
      exact P (Q:=λy H=>∃c,y=.bl c/\Q c H) h ⟨_,rfl,t _ e l m f B G h⟩) z⟩
def EV(X:Cx)(T:ci)(e:gA){D α:Type}[Sls D][Rep α](f:D->α):Prop :=
 ∃t,PE X e t/\∀(d:D)(F R:Rg)(σ:St)(H:Hp)(Q:VK),ve T F R H d σ->(∀v,rp R H (f d) v->Q v H)->t σ H Q
theorem vm[Rep a][Sls b](i:Nat)[A:At i D a b](c:PE X (.Name y pos) (uH i)):EV X T (.Name y pos) (λ(d:D)=>A.get d):=by refine⟨_,c,λd F R h H Q s e=>?_⟩;obtain⟨v,j,k,f,l,⟨_,u,rfl,g⟩,_⟩:=A.take s.rel;exact⟨u,f,e u g⟩
theorem OB{m:Int}{k:Nat}:EV X T (.Constant (.int m) k pos) (λ(_:D)=>m):=⟨_,uw,λd F R b H Q s a=>a _ rfl⟩
theorem FC(q:ID)(i:Nat)[Sls e][A:At i D (Bd C fl) e](h:q.ok fl)(j:zP X.K C)(l:uS X.K C q.nm)(m:X.A.units+1<ju)(o:PE X (.Name x p1) (uH i))(t:EV X T a f)(u:gH (.Name x p1) q.nm X.env (eval (.Name x p1) X.env)=eval (.Name x p1) X.env:=by rfl)(w:Ny a:=by intro _ _;rfl) :
  EW X E T (.Subscript (.Attribute (.Name x p1) q.nm p2) a pos) (λ(d:D)(b:Int->D->Prop) _=>∃v,lk (q.get<|A.get d) (f d)=some v/\b v d):=by
 refine tX t λW B G=>?_;refine⟨_,E4 m (vV o u) B w,λd F R I H b Y Q s J L Z=>?_⟩;obtain⟨p,M,e1,e2,e3,e4,us,N,c,_,_⟩:=vv (i:=i) s;refine Bb (zh c q h) λy O P _ _=>?_;refine⟨_,N,p,C,M,_,_,rfl,c.ob,j,l,O,G d F R I H _ s λv r=>?_⟩;have r:v=V.int (f d):=r;subst r;refine tX J λz S U=>?_;have g:=xf.k (k:=gm<|f d) P;rw[xq,S] at g;exact⟨y,_,rfl,g,L z d _ F R H U (Ch.refl _ _ _ _) s rfl⟩
theorem zJ(i:Nat)[Sls e][A:At i D (Bd C fl) e](h:zP X.K C)(j:uS X.K C "borders")(l:X.A.units+1<ju)(m:PE X (.Name x p1) (uH i))(o:EV X T a f)(q:gH (.Name x p1) "borders" X.env (eval (.Name x p1) X.env)=eval (.Name x p1) X.env:=by rfl)(t:Ny a:=by intro _ _;rfl) :
  EW X E T (.Subscript (.Attribute (.Name x p1) "borders" p2) a pos) (λ(d:D)(c:Tp Int->D->Prop) _=>∃v,lk (A.get d).bd (f d)=some v/\c ⟨v⟩ d):=by
 refine tX o λU u y=>?_;refine⟨_,E4 l (vV m q) u t,λd F R B H c W Q s G I Y=>?_⟩;obtain⟨p,J,Z,L,e3,e4,us,M,b,_,_⟩:=vv (i:=i) s;refine⟨_,M,p,C,J,_,_,rfl,b.ob,h,j,rfl,y d F R B H _ s λv r=>?_⟩;have r:v=V.int (f d):=r;subst r;refine tX G λz N O=>?_;refine tX ((Dn b.tu).1 z N) λw P S=>?_;have g:=xf.k (k:=gm<|f d) b.bd;rw[P] at g;exact⟨L,w,rfl,g,I ⟨z⟩ d _ F R H O (Ch.refl _ _ _ _) s S⟩
theorem RT(q:ID)(i:Nat)[Sls e][A:At i D (Bd C fl) e](f:q.ok fl)(g:zP X.K C)(h:uS X.K C q.nm)(j:Gl X "len")(k:X.mg "len"=none)(l:PE X (.Name x p1) (uH i))(m:gH (.Name x p1) q.nm X.env (eval (.Name x p1) X.env)=eval (.Name x p1) X.env:=by rfl)
 (a:fG [.Attribute (.Name x p1) q.nm p2] X.env=(false,eval (.Attribute (.Name x p1) q.nm p2) X.env)::fG [] X.env:=by rfl) :
    EW X E T (.Call (.Name "len" z) [.Attribute (.Name x p1) q.nm p2] [] pos) (λ(d:D)(b:Int->D->Prop) _=>b ((q.get<|A.get d).length:Int) d):=by
  refine⟨_,vW LZ j k md (ue (vV l m) uu a) (he:=a),λd F R B H b G Q s o r I=>?_⟩
  obtain⟨p,t,J,L,M,N,O,u,c,_,_⟩:=vv (i:=i) s
  refine Bb (zh c q f) λy v w _ _=>?_
  refine⟨_,u,p,C,t,_,_,rfl,c.ob,g,h,v,y,_,rfl,w,r _ d _ F R H o (Ch.refl _ _ _ _) s ?_⟩
  show V.int _=V.int _
  unfold Ao
  rw[fN]
theorem Do(q:ID)(i:Nat)[Sls f][A:At i D (Bd C fl) f](g:q.ok fl)(h:zP X.K C)(j:uS X.K C q.nm)(k:X.calm=true)(m:Gl X "sorted")(o:X.mg "sorted"=none)(r:PE X (.Name x p1) (uH i))(t:gH (.Name x p1) q.nm X.env (eval (.Name x p1) X.env)=eval (.Name x p1) X.env:=by rfl)
 (a:fG [.Attribute (.Name x p1) q.nm p2] X.env=(false,eval (.Attribute (.Name x p1) q.nm p2) X.env)::fG [] X.env:=by rfl) :
    EO X E T (.Call (.Name "sorted" P) [.Attribute (.Name x p1) q.nm p2] [] pos) (λ(d:D)(b:OL Int->D->Prop) _=>(q.get<|A.get d).length<64/\b ⟨Am ((q.get<|A.get d).map (·.1))⟩ d):=by
  refine⟨_,vW (Fh k) m o jj (ue (vV r t) uu a) (he:=a),λd F R S H b U Q s c u V=>?_⟩
  obtain⟨p,v,W,Y,Z,e4,us,w,e,_,_⟩:=vv (i:=i) s
  refine Bb (zh e q g) λy z B _ _=>?_
  refine⟨_,w,p,C,v,_,_,rfl,e.ob,h,j,z,y,_,(q.get<|A.get d).map (·.1),rfl,B,?_,by rw[fN];exact c.1,λl ns G I J=>?_⟩
  · unfold Ao
    rw[jt,jt]
    rfl
  · rw[Bw I J]
    refine ux (wF s G (wY (R:=R) (H:=H) (Am ((q.get<|A.get d).map (·.1))))) λL M N O=>?_
    exact u _ d _ _ F L _ c.2 M N O
theorem XH(i:Nat)[Sls b][A:At i D (Bd C fl) b](c:zP X.K C)(e:uS X.K C "upcoming")(f:PE X (.Name x p1) (uH i))(g:gH (.Name x p1) "upcoming" X.env (eval (.Name x p1) X.env)=eval (.Name x p1) X.env:=by rfl) :
  EW X E T (.Attribute (.Name x p1) "upcoming" pos) (λ(d:D)(a:Int->D->Prop) _=>a (A.get d).up d):=by
 refine⟨_,vV f g,λd F R o H a q Q s h j r=>?_⟩;obtain⟨p,k,t,u,v,w,y,l,m,_,_⟩:=vv (i:=i) s;exact⟨_,l,p,C,k,_,_,rfl,m.ob,c,e,rfl,j _ d _ F R H h (Ch.refl _ _ _ _) s rfl⟩
theorem FD(q:ID)(i:Nat)[Sls o][A:At i D (Bd C fl) o][U:Pt i o (Bd C fl) D][J:Pj D PO n](O:q.ok fl)(P:zP X.K C)(Q:uS X.K C q.nm)(S:X.A.units+1<ju)(W:PE X (.Name x p1) (uH i))(Y:EV X T a f)(Z:EW X E T e we)(hb:gH (.Name x p1) q.nm X.env (eval (.Name x p1) X.env)=eval (.Name x p1) X.env:=by rfl)
 (hs:i4 e (some<|.Subscript (.Attribute (.Name x p1) q.nm p2) a p3) pos.line X.env=pure false:=by rfl) :
    S1 X E T ms n (.Assign [.Subscript (.Attribute (.Name x p1) q.nm p2) a p3] e pos) (λ(d:D)(t:D->Prop)(Kr:τ->PO->Prop) z=>we d (λv b=>(q.get<|A.get b).length<fK/\t (U.put (A.hole b)<|q.set (A.get b)<|pk (q.get<|A.get b) (f b) v)) λC B=>z C<|J.pj B):=by
  refine tX Y λta a1 a2=>?_
  refine tX Z λte b1 b2=>?_
  refine⟨_,E5 S (vV W hb) a1 b1 hs,λd F R h H t Kr z En s hw kn kr ke=>b2 d F R h H _ _ _ s hw (λv b u I L H1 M c1 j l=>?_) λC y B F' R' H' q c s'=>?_⟩
  · obtain⟨p, dx, e1, e2, e3, e4, us, m, g, g3, g4⟩ := vv (i := i) j
    refine Bb (zh g q O) λy l1 l2 N l4=>?_
    have l:u=V.int v:=l
    subst l
    refine⟨_,m,p,C,dx,_,_,rfl,g.ob,P,Q,l1,a2 b I L h H1 _ j λw r=>?_⟩
    have r:w=V.int (f b):=r
    subst r
    obtain⟨c2,s2⟩:=g4 (U:=U) N<|l4 (pk (q.get<|A.get b) (f b) v)<|g3 y N
    refine⟨y,_,rfl,EZ.k (k:=gm<|f b) l2 (by unfold Ao;rw[fN];exact M.1),?_⟩
    rw[RS]
    exact kn _ I L _ h M.2 (Ch.trans s j.tab c1 c2) s2<|Ag.refl _ _
  · refine tX (vG (PO := PO) s') λG m g => ?_
    exact ke C y _ G R' H' q (c.less m) g
theorem Dr(b:Dm C fl R H y p i j f g h m)(k:R f)(t:AQ R H l d):Dm C fl R (upd H f<|.dK d) { y with bd:=l} p i j f g h d:=by have e:=Z0 b.nd;exact⟨b.nd,by rw[ss e.1.2.2.1];exact b.ob,by rw[ss e.2.1.2.1];exact b.ow,by rw[ss e.2.2.1.1];exact b.rk,tZ,Cz ((yA (F:=R) (R:=R) (H:=H) (a:=f) (o:=.dK d)).wide λc z=>by rw[z];exact k) t,λz=>by rw[ss (e.2.2.2.1 g<|by rw[fE z];simp).symm];exact b.ht z,λz=>by rw[ss (e.2.2.2.1 h<|by rw[fE z];simp).symm];exact b.th z⟩
theorem RU(i:Nat){m:Type}[Sls m][A:At i D (Bd C fl) m][U:Pt i m (Bd C fl) D][J:Pj D PO n]{f:D->Int}{I:Wf D (Tp Int) D}(W:zP X.K C)(Y:uS X.K C "borders")(Z:X.A.units+1<ju)(hn:PE X (.Name x p1) (uH i))(hk:EV X T a f)(he:EW X E T e I)(hb:gH (.Name x p1) "borders" X.env (eval (.Name x p1) X.env)=eval (.Name x p1) X.env:=by rfl)
 (hs:i4 e (some<|.Subscript (.Attribute (.Name x p1) "borders" p2) a p3) pos.line X.env=pure false:=by rfl) :
    S1 X E T ms n (.Assign [.Subscript (.Attribute (.Name x p1) "borders" p2) a p3] e pos) (λ(d:D)(L:D->Prop)(Kr:τ->PO->Prop) M=>I d (λv g=>(A.get g).bd.length<fK/\lk (A.get g).bd (f g)=none/\L (U.put (A.hole g) { A.get g with bd:=pk (A.get g).bd (f g) v.l})) λC N=>M C<|J.pj N):=by
  refine tX hk λta a1 a2=>?_
  refine tX he λte b1 b2=>?_
  refine⟨_,E5 Z (vV hn hb) a1 b1 hs,λd F R o H L Kr M En s hw kn kr ke=>b2 d F R o H _ _ _ s hw (λv g u O P H1 t c1 z r1=>?_) λC y N F' R' H' q c s'=>?_⟩
  · obtain⟨p, Q, e1, j, e3, e4, us, B, h, g3, g4⟩ := vv (i := i) z
    have S:j∈adr p Q e1 j e3 e4 fl:=by simp[adr]
    refine⟨_,B,p,C,Q,_,_,rfl,h.ob,W,Y,rfl,a2 g O P o H1 _ z λw r=>?_⟩
    have r:w=V.int (f g):=r
    subst r
    obtain⟨c2,s2⟩:=g4 (U:=U) S<|Dr h (g3 j S)<|Oz (b:=v.l) h.tu t.2.1 r1
    exact⟨j,_,rfl,EZ.k (k:=gm<|f g) h.bd (by rw[<- Paired.length h.tu];exact t.1),kn _ O P _ o t.2.2 (Ch.trans s z.tab c1 c2) s2<|Ag.refl _ _⟩
  · refine tX (vG (PO := PO) s') λG B h => ?_
    exact ke C y _ G R' H' q (c.less B) h
theorem XI(i:Nat)[Sls w][A:At i D (Bd C fl) w][U:Pt i w (Bd C fl) D][J:Pj D PO n](Q:zP X.K C)(S:uS X.K C "upcoming")(W:PE X (.Name x p1) (uH i))(Y:EW X E T e Z)(hs:i4 e (some<|.Attribute (.Name x p1) "upcoming" p2) pos.line X.env=pure false:=by rfl) :
  S1 X E T ms n (.Assign [.Attribute (.Name x p1) "upcoming" p2] e pos) (λ(d:D)(B:D->Prop)(Kr:τ->PO->Prop) I=>Z d (λv h=>B<|U.put (A.hole h) { A.get h with up:=v}) λC L=>I C<|J.pj L):=by
 refine tX Y λte b1 b2=>?_;refine⟨_,Bi W b1 hs,λd F R M H B Kr I En s hw kn kr ke=>b2 d F R M H _ _ _ s hw (λv h u F1 m N q1 c1 O r=>?_) λC y L F' R' H' q c s'=>?_⟩
 ·obtain⟨p,o,j,k,f,g,us,t,b,g3,g4⟩:=vv (i:=i) O;have r:u=V.int v:=r;subst r;have P:p∈adr p o j k f g fl:=by simp[adr]
  have l:=Z0 b.nd;have eq:yW "upcoming" (V.int v) (xD j k f g (A.get h).up fl)=xD j k f g v fl:=rfl;have nb:Dm C fl m (upd N p<|.ins C o<|xD j k f g v fl) { A.get h with up:=v} p o j k f g us:=⟨b.nd,tZ,by rw[ss l.1.1.symm];exact b.ow,by rw[ss l.1.2.1.symm];exact b.rk,by rw[ss l.1.2.2.1.symm];exact b.bd,Cz ((yA (F:=m) (R:=m) (H:=N) (a:=p)).wide λc z=>by rw[z];exact g3 p P) b.tu,λz=>by rw[ss (l.1.2.2.2 f<|by rw[fE z];simp).symm];exact b.ht z,λz=>by rw[ss (l.1.2.2.2 g<|by rw[fE z];simp).symm];exact b.th z⟩;obtain⟨c2,s2⟩:=g4 (U:=U) P nb;refine⟨_,t,p,C,o,_,rfl,b.ob,Q,S,?_,?_⟩
  ·unfold xD;split<;>(simp only[gk,lO];decide)
  ·rw[eq];exact kn _ F1 m _ M q1 (Ch.trans s O.tab c1 c2) s2<|Ag.refl _ _
 ·refine tX (vG (PO:=PO) s') λG t b=>?_;exact ke C y _ G R' H' q (c.less t) b
theorem KQ(q:ID)(i:Nat)[Sls b][A:At i D (Bd C fl) b][U:Pt i b (Bd C fl) D][J:Pj D PO n](m:q.ok fl)(o:zP X.K C)(t:uS X.K C q.nm)(u:PE X (.Name x p1) (uH i))(v:EV X T a f)(z:∀{c e:TE},PE X (.Attribute (.Name x p1) q.nm p2) c->PE X a e->PS X (.Delete [.Subscript (.Attribute (.Name x p1) q.nm p2) a B] pos) (Nz c e))(G:gH (.Name x p1) q.nm X.env (eval (.Name x p1) X.env)=eval (.Name x p1) X.env:=by rfl) :
  S1 X E T ms n (.Delete [.Subscript (.Attribute (.Name x p1) q.nm p2) a B] pos) (λ(d:D)(g:D->Prop)(I:τ->PO->Prop)(L:ci->PO->Prop)=>(lk (q.get<|A.get d)<|f d).isSome=true/\g (U.put (A.hole d)<|q.set (A.get d)<|dk (q.get<|A.get d)<|f d)):=by
 refine tX v λta M N=>?_;refine⟨_,z (vV u G) M,λd F R h H g I L En s j O kr ke=>?_⟩;obtain⟨p,P,e1,e2,e3,e4,us,Q,k,S,W⟩:=vv (i:=i) s;refine Bb (zh k q m) λy Y Z l l4=>?_;refine⟨_,Q,p,C,P,_,_,rfl,k.ob,o,t,Y,N d F R h H _ s λw r=>?_⟩;have r:w=V.int (f d):=r;subst r;obtain⟨c2,s2⟩:=W (U:=U) l<|l4 (dk (q.get<|A.get d)<|f d)<|S y l;refine⟨y,_,gm<|f d,rfl,Z,rfl,by rw[xq,hI];exact j.1,?_⟩;rw[Hv];exact O _ F R _ h j.2 c2 s2<|Ag.refl _ _
theorem RV(i:Nat)[Sls g][A:At i D (Bd C fl) g][U:Pt i g (Bd C fl) D][J:Pj D PO n](y:zP X.K C)(B:uS X.K C "borders")(G:PE X (.Name x p1) (uH i))(I:EV X T a f)(L:∀{h j:TE},PE X (.Attribute (.Name x p1) "borders" p2) h->PE X a j->PS X (.Delete [.Subscript (.Attribute (.Name x p1) "borders" p2) a M] pos) (Nz h j))(N:gH (.Name x p1) "borders" X.env (eval (.Name x p1) X.env)=eval (.Name x p1) X.env:=by rfl) :
  S1 X E T ms n (.Delete [.Subscript (.Attribute (.Name x p1) "borders" p2) a M] pos) (λ(d:D)(l:D->Prop)(O:τ->PO->Prop)(P:ci->PO->Prop)=>(lk (A.get d).bd<|f d).isSome=true/\l (U.put (A.hole d) { A.get d with bd:=dk (A.get d).bd (f d)})):=by
 refine tX I λta Q S=>?_;refine⟨_,L (vV G N) Q,λd F R m H l O P En s o W kr ke=>?_⟩;obtain⟨p,q,Y,e,Z,e4,us,g1,c,g3,g4⟩:=vv (i:=i) s;have t:e∈adr p q Y e Z e4 fl:=by simp[adr]
 refine⟨_,g1,p,C,q,_,_,rfl,c.ob,y,B,rfl,S d F R m H _ s λw r=>?_⟩;have r:w=V.int (f d):=r;subst r;obtain⟨c2,s2⟩:=g4 (U:=U) t<|Dr c (g3 e t)<|Mm (k:=f d) c.tu;refine⟨e,us,gm<|f d,rfl,c.bd,rfl,?_,W _ F R _ m o.2 c2 s2<|Ag.refl _ _⟩
 cases z:lk (A.get d).bd (f d) with
 | none =>
  have u:=o.1;rw[z] at u;cases u
 | some b =>
  refine tX ((Dn c.tu).1 b z) λv v1 _=>?_;rw[v1];rfl
end
section
variable{X:Cx}{E:XK}{T:ci}{ms:List Nat}{n:Nat}{D PO τ:Type}[Sls D][Sls PO][Ow τ]{pos:Pos}{C:ci}{fl:Bool}{x:Str}{p1 p2:Pos}{α:Type}[Rep α]
theorem Hx(i:Nat){D1 P M B B1 N:Type}[Sls D1][Sls P][Sls M][Sls B][Sls B1][Sls N][Lb N τ<|Bd C fl×M]{I:B->N->M->D}{wr:D->(P->B->N->Prop)->(ci->D->Prop)->Prop}
 {wf:Wf (Bd C fl×P) τ (Bd C fl×M)} [A0:At i D (Bd C fl) D1] [A:At i B (Bd C fl) B1] [U:Pt i B1 (Bd C fl) B] (hl:∀a b c d u,(xD a b c d u fl).lookup m=none)
 (b2:∀(d:D)(F R:Rg)(k:St)(H:Hp)(O:P->B->N->Prop)(J:ci->D->Prop)(Q:List V->Hp->Prop),ve T F R H d k->wr d O J ->
 (∀p b l Z us F1 S L w j e,O p b l->Ch T F R H w j e->Std T w j e->Dd w F1 S L->rel F1 (Wo j L) e p (Z.map some)->rel S j e b k->rel L j e l us ->
 (∀b' l' G1 G2 G3 o f h G,rel G1 f h G (Z.map some)->rel G2 f h b' k->rel G3 f h l' us->Dd o G1 G2 G3->rel o f h (I b' l' G) k)->Q Z e) ->
 (∀C y r w j e,J C r->Ch T F R H w j e->ve T w j e r k->E (.ref C) (some y) e)->tr k H Q)
 (d:D) (F R:Rg) (k:St) (H:Hp) (O:τ->D->Prop) (J:ci->D->Prop) (Q:VK) (s:ve T F R H d k) (hw:wr d (λp b l=>wf (A.get b,p) (λy G=>O y<|I (U.put (A.hole b) G.1) l G.2)<|λC G=>J C<|I (U.put (A.hole b) G.1) l G.2) J)
 (kn:∀x r v F1 S j e,O x r->Ch T F R H (λa=>F1 a\/S a) j e->ve T S j e r k->Nw T F1 S j e x v->Q v e)
 (ke:∀C y r w j e,J C r->Ch T F R H w j e->ve T w j e r k->E (.ref C) (some y) e):Eh C m (xG T wf) [] E (uH i) tr k H Q:=by
  obtain⟨v,_,_,hv,_,⟨a,dx,d1,d2,d3,d4,aa,rfl,_,g⟩,_⟩:=A0.take s.rel
  refine⟨_,hv,a,dx,_,rfl,g.ob,hl _ _ _ _ _,b2 d F R k H _ J _ s hw (λp b l Z us G1 G2 L w j e q2 c2 s2 W h1 h2 h3 km=>?_) ke⟩
  rw[jR]
  refine xU (A.take h2) λv' M1 M2 z1 z2 z3 z4=>?_
  rw[hv] at z1
  cases z1
  have m1:∀a,M1 a->G2 a:=λa m=>(z2.all a).mpr<|.inl m
  have m2:∀a,M2 a->G2 a:=λa m=>(z2.all a).mpr<|.inr m
  refine De (F:=w) (F1:=λa=>M1 a\/G1 a) (F2:=M2) (L:=L) (mrg:=λ(b:B1)(l:N)(p:Bd C fl×M)=>I (U.put b p.1) l p.2) (wf:=wf) (p:=(A.get b,p)) (b:=A.hole b) (l:=l) (us:=us) (σ:=k) (Kn:=O) (Ke:=J) s2 ⟨λa=>?_,λa m n=>?_,λa m n=>?_,λa m n=>W.Ie a (m2 a m) n⟩ ⟨some<|.ref a,Z.map some,M1,G1,rfl,⟨λ_=>Iff.rfl,λa m n=>W.GG a n<|m1 a m⟩,Ow.wk z3<|By j L e,h1⟩ z4 h3 (λb' l' L1 L2 L3 o f h G h3 h4 h5 t=>?_) q2 (λx r v M1 M2 f h q' c' K n=>kn x r v M1 M2 f h q' (Ch.trans s s2.tab c2 c') K n) λC y r o f h q' c' K=>ke C y r o f h q' (Ch.trans s s2.tab c2 c') K
  · rw[W.all, z2.all]
    exact⟨λz=>z.elim (λq=>.inl<|.inr q) λz=>z.elim (λz=>z.elim (λq=>.inl<|.inl q) λq=>.inr<|.inl q) λq=>.inr<|.inr q,λz=>z.elim (λz=>z.elim (λq=>.inr<|.inl<|.inl q) .inl) λz=>z.elim (λq=>.inr<|.inl<|.inr q) λq=>.inr<|.inr q⟩
  · rcases m with m|m
    · exact z2.xi a m n
    · exact W.GG a m<|m2 a n
  · rcases m with m|m
    · exact W.Ie a (m1 a m) n
    · exact W.Ic a m n
  · refine xH h3 λv' ab N1 N2 y1 Y y3 y4 => ?_
    injection y1 with y5 y6
    subst y5;subst y6
    have tt:Cf (λa=>N1 a\/L2 a) N1 L2:=⟨λ_=>Iff.rfl,λa m n=>t.GG a ((Y.all a).mpr<|.inl m) n⟩
    refine km _ l' N2 (λa=>N1 a\/L2 a) L3 o f h G.2 y4 (Pt.same (A:=U) h4 hv tt y3) h5 ⟨λa=>?_,λa m n=>?_,λa m n=>t.Ic a ((Y.all a).mpr<|.inr m) n,λa m n=>?_⟩
    · rw[t.all, Y.all]
      exact⟨λz=>z.elim (λz=>z.elim (λq=>.inr<|.inl<|.inl q) .inl) λz=>z.elim (λq=>.inr<|.inl<|.inr q) λq=>.inr<|.inr q,λz=>z.elim (λq=>.inl<|.inr q) λz=>z.elim (λz=>z.elim (λq=>.inl<|.inl q) λq=>.inr<|.inl q) λq=>.inr<|.inr q⟩
    · rcases n with n|n
      · exact Y.xi a n m
      · exact t.GG a ((Y.all a).mpr<|.inr m) n
    · rcases m with m|m
      · exact t.Ic a ((Y.all a).mpr<|.inl m) n
      · exact t.Ie a m n
theorem OC{o:List gA}(i:Nat){v P h B r q:Type}[Sls v][Sls P][Sls h][Sls B][Sls r][Sls q][Lb q τ<|Bd C fl×h]{g:B->q->h->D}{z:D->(P->B->q->Prop)->(ci->D->Prop)->Prop}
 {s:Wf (Bd C fl×P) τ (Bd C fl×h)} [R:At i D (Bd C fl) v] [A:At i B (Bd C fl) r] [U:Pt i r (Bd C fl) B] {k:Nat} {G:List Str}
 (F:uE X.prog X.w X.K X.mg X.base (uP X.prog X.w) k f I G (xG T s)) (S:vq k X.A) (V:zP X.K C) (W:Meth X.K C m f) (Y:Binds X.K I G []) (Z:Passes (uP X.prog X.w) X E) (hn:PE X (.Name x p1) (uH i))
 (J:∀a b c d u,(xD a b c d u fl).lookup m=none)
 (L:∀{t:TA},PA X (e::o) t->PE X (.Call (.Attribute (.Name x p1) m apos) (e::o) [] pos) (Eh C m (xG T s) [] E (uH i) t)) (M:Jd X E T (e::o) g z) :
    EO X E T (.Call (.Attribute (.Name x p1) m apos) (e::o) [] pos) (λ(d:D)(N:τ->D->Prop) H=>z d (λp b l=>s (A.get b,p) (λy j=>N y<|g (U.put (A.hole b) j.1) l j.2)<|λC j=>H C<|g (U.put (A.hole b) j.1) l j.2) H):=by
  refine tX M λtr O Q=>?_
  exact⟨_,L O,Hx i J Q⟩
theorem OD(i:Nat){e:Type}[Sls e]
 {h:Wf (Bd C fl×Unit) τ (Bd C fl×Unit)} [A:At i D (Bd C fl) e] [U:Pt i e (Bd C fl) D] {k:Nat} {r:List Str}
 (F:uE X.prog X.w X.K X.mg X.base (uP X.prog X.w) k f L r (xG T h)) (hr:vq k X.A) (cl:zP X.K C) (hm:Meth X.K C m f) (hb:Binds X.K L r []) (hx:Passes (uP X.prog X.w) X E) (hn:PE X (.Name x p1) (uH i))
 (M:∀a b c d u,(xD a b c d u fl).lookup m=none)
 (N:PE X (.Call (.Attribute (.Name x p1) m apos) [] [] pos) (Eh C m (xG T h) [] E (uH i) Cc)) :
    EO X E T (.Call (.Attribute (.Name x p1) m apos) [] [] pos) (λ(d:D)(l:τ->D->Prop) o=>h (A.get d,()) (λy j=>l y<|U.put (A.hole d) j.1)<|λC j=>o C<|U.put (A.hole d) j.1):=by
  refine⟨_,N,λd F R O H l o Q s P S V=>?_⟩
  refine xU (A.take s.rel) λv B W G Y I Z=>?_
  obtain⟨a,dx,d1,d2,d3,d4,aa,rfl,_,g⟩:=id I
  refine⟨_,G,a,dx,_,rfl,g.ob,M _ _ _ _ _,?_⟩
  refine Of (F:=F) (F1:=B) (F2:=W) (mrg:=λ(b:e)(p:Bd C fl×Unit)=>U.put b p.1) (wf:=h) (p:=(A.get d,())) (b:=A.hole d) (σ:=O) (Kn:=l) (Ke:=o) s.Ib Y ⟨some<|.ref a,[],B,λ_=>False,rfl,⟨λ_=>⟨.inl,λz=>z.elim id λq=>q.elim⟩,λ_ _ z=>z⟩,I,rfl,λ_ z=>z⟩ Z (λb' G1 G2 ab ae af j h1 h2 t=>?_) P S V
  refine xH h1 λv' ag N1 N2 y1 J y3 y4=>?_
  injection y1 with y5 y6
  subst y5
  refine Pt.same (A:=U) h2 G ⟨λa=>?_,λa m n=>t.xi a ((J.all a).mpr<|.inl m) n⟩ y3
  rw[t.all,J.all]
  exact⟨λz=>z.elim (λz=>z.elim .inl λq=>fY q<|y4.2 a) .inr,λz=>z.elim (λq=>.inl<|.inl q) .inr⟩
theorem tw_trueO{wa:Wf D (OL α) D}(ha:EO X E T a wa)(he:∀whole,pK a X.env whole=(do let v <- whole;lw a.pos;jz [v] (sZ v)):=by intro _;rfl):TW X E T a (λ(d:D) Kn Ke=>wa d (λxs d1=>Kn (!xs.l.isEmpty) d1) Ke):=by
 refine tX ha λta a1 a2=>?_;refine⟨_,GU a1 he,λd F R σ H Kn Ke Q s hw kn ke=>a2 d F R σ H _ Ke _ s hw (λxs d1 u F1 F2 R1 H1 q1 c1 s1 n1=>?_) ke⟩;refine vt n1.is λb vs e _ h3 h4=>?_;cases e;refine⟨!vs.isEmpty,.inl ⟨vs,vn.of h3,rfl⟩,?_⟩;obtain⟨l⟩:=xs
 have:vs.isEmpty=l.isEmpty:=by have h4:Paired (rp R1 H1) l vs:=h4;cases h4<;>rfl
 rw[this];exact kn _ d1 F2 R1 H1 q1 (c1.less λ_ z=>.inr z) s1
theorem OE{e:Wf D (Tp α) D}(i:Gl X "list")(j:X.mg "list"=none)(k:EW X E T a e)(f:fG [a] X.env=(false,eval a X.env)::fG [] X.env:=by rfl) :
  EO X E T (.Call (.Name "list" p) [a] [] pos) (λ(d:D)(g:OL α->D->Prop) b=>e d (λt c=>g ⟨t.l⟩ c) b):=by
 refine tX k λP m o=>?_;refine⟨_,wD xm i j jw (ue m uu f) (he:=f),λd F R r H g b Q s v w y=>o d F R r H _ b _ s v (λt c u z S U A B h G=>?_) y⟩;obtain⟨q,V,rfl,_,I,J⟩:=G;refine⟨_,_,rfl,.inr<|yg.of I,λl K=>?_⟩;refine ux (wF h K J) λL M N O=>?_;exact w _ c _ _ z L _ A (Ch.trans s h.tab B M) N O
theorem RX(o:Gl X "tuple")(r:X.mg "tuple"=none)(t:ER X E T a v)(f:fG [a] X.env=(false,eval a X.env)::fG [] X.env:=by rfl) :
  EW X E T (.Call (.Name "tuple" p) [a] [] pos) (λ(d:D)(h:Tp α->D->Prop) e=>v d (λg b=>h ⟨g b⟩ b) e):=by
 refine tX t λU w y=>?_;refine⟨_,wD DW o r PyProof.Rows.boot_tuple (ue w uu f) (he:=f),λd F R z H h e Q s A B G=>y d F R z H _ e _ s A (λg b u i j I J K c L=>?_) G⟩;obtain⟨q,k,rfl,M,N⟩:=L b i j I (Ch.refl _ _ _ _) c;refine⟨_,_,rfl,.inl ⟨vn.of M,λl O=>?_⟩⟩;refine yi (c.new (.tup k) O) λP m S=>?_;exact B _ b _ i j _ J (Ch.trans s c.tab K m) P ⟨l,k,rfl,S,tZ,c.vals m N⟩
theorem ints_of{R:Rg}{H:Hp}:∀{xs:List Int} {vs:List V},Paired (rp R H) xs vs->vs=xs.map V.int:=by
 intro _ _ z
 induction z with
 | nil=>rfl
 | cons h t ih=>rw[show _=V.int _ from h,ih];rfl
theorem tw_inT{a b:gA}{wa:Wf D Int D}{wb:Wf D (Tp Int) D}(ha:EW X E T a wa)(hb:EW X E T b wb)(hm:ic .In b=false) :
  TW X E T (.Compare a [.In] [b] pos) (λ(d:D) Kn Ke=>wa d (λk d1=>wb d1 (λt d2=>Kn (decide<|k∈t.l) d2) Ke) Ke):=by
 refine tX ha λta a1 a2=>?_;refine tX hb λtb b1 b2=>?_;refine⟨_,wQ Ek a1 b1 hm,λd F R σ H Kn Ke Q s hw kn ke=>a2 d F R σ H _ Ke _ s hw (λk d1 u F1 R1 H1 q1 c1 s1 r1=>?_) ke⟩;refine b2 d1 F1 R1 σ H1 _ Ke _ s1 q1 (λt d2 v F2 R2 H2 q2 c2 s2 r2=>?_) λC y d' F' R' H' k c s'=>ke C y d' F' R' H' k (Ch.trans s s1.tab c1 c) s';have r1:u=V.int k:=r1;subst r1;obtain⟨l⟩:=t;obtain⟨q,us,rfl,_,h1,h2⟩:=r2;have e:=ints_of (xs:=l) h2;subst e;refine⟨q,_,rfl,.inr<|yg.of h1,rfl,zH _,_,rfl,?_⟩;rw[fF fT,AH];exact kn _ d2 F2 R2 H2 q2 (Ch.trans s s1.tab c1 c2) s2
theorem Ds[Sls D2][Gf:Fg D2 D][J:Pj D PO n](M:QI PO ms n)(hp:qu (fS X.prog X.w) X.A X.env X.xe)
 (hc:TW X E T c wc) (hb:SW X E T mb n body wb) (B:∀i∈ms,i∈mb) :
    S1 X E T ms n (.While c body [] pos) (λ(d:D)(Kn:D->Prop)(N:τ->PO->Prop) I=>∃W:Nat->D->Prop,(∃m,W m d)/\∀m d,W m d->wc d (λb j=>if b=true then wb j (λK=>∃l,l<m/\W l (Gf.fg K)) N I else Kn j) λC d'=>I C<|J.pj d'):=by
  refine tX hc λtc c1 c2=>?_
  refine tX hb λtb b1 b2=>?_
  refine⟨_,M7 hp c1 b1,λd F R σ H Kn N I En s hw kn kr ke=>?_⟩
  obtain⟨W,⟨m0,w0⟩,t⟩:=hw
  refine⟨λm e L=>∃j G o,Ch T F R H G o L/\ve T G o L j e/\Ag mb σ e/\W m j,⟨m0,d,F,R,Ch.refl _ _ _ _,s,Ag.refl _ _,w0⟩,?_⟩
  rintro m e L ⟨j,G,o,k1,O,g1,w1⟩
  refine c2 j G o e L _ _ _ O (t m j w1) (λb K G2 R2 H2 q2 k2 u=>?_) λC y d' F' R' z q c s'=>?_
  · have k := Ch.trans s O.tab k1 k2
    cases b with
    | false=>exact kn K G2 R2 H2 e q2 k u<|g1.sub B
    | true =>
      refine⟨λp z=>∃l,l<m/\∃j G o,Ch T F R H G o z/\ve T G o z j p/\Ag mb σ p/\W l j,λp z h=>h,?_⟩
      refine b2 K G2 R2 e H2 _ N I _ u q2 (λd3 G3 R3 H3 aa q3 k3 r g3=>?_) (λx P v M1 M2 Q S U V f n4=>?_) λC y P F4 Q S U V f=>?_
      · refine tX q3 λl hm w3 => ?_
        refine tX (Gf.le r.rel) λG5 Y r5=>?_
        exact⟨l,hm,_,G5,R3,(Ch.trans s u.tab k k3).less Y,⟨r5,λa h=>r.sub a<|Y a h,r.wn,r.tab,r.uQ,λh=>r.uF<|Y T h⟩,g1.trans g3,w3⟩
      · exact kr x P v M1 M2 Q S U (Ch.trans s u.tab k V) ⟨M.dp (g1.sub B) f.rel, f.sub, f.wn, f.tab, f.uQ, f.uF⟩ n4
      · exact ke C y P F4 Q S U (Ch.trans s u.tab k V) ⟨M.dp (g1.sub B) f.rel, f.sub, f.wn, f.tab, f.uQ, f.uF⟩
  · refine tX (vG (PO := PO) s') λG' Z g => ?_
    exact ke C y _ G' R' z q ((Ch.trans s O.tab k1 c).less Z) ⟨M.dp (g1.sub B) g.rel,g.sub,g.wn,g.tab,g.uQ,g.uF⟩
end
open PyProof.Rows
def Z1(K:fB)(a:ci):It :=
 ⟨λi H=>∃b x,vn K H a b/\b[i]?=some x,λi H v c=>∃p x,v=.ref p/\H p=none/\c=upd H p (.tup [.int i,x])/\∀b,vn K H a b->b[i]?=some x,λi H=>∃b,vn K H a b/\b.length<=i⟩
section
variable{X:Cx}{pins:List (ci×oq)}{σ:L2.St}{H:Hp}{s:fH}{h':gE}
theorem RY{t':Nat}{xs:List V}{nh:Nat}(I:Inv X pins σ H s)(h:Ac X pins H e)(i:Ac X pins H j)(t:s.heap.objs.size<=a)(k:∀b o,b≠e->b≠j->s.heap.get? b=some o->h'.get? b=some o)(x:xs.length<=fK)(r:Vals xs us)(y:IsTup h' a us.toArray) :
  Inv X pins σ (upd H a<|.tup xs) { s with heap:=h',toks:=t'}:=by
 have A:=I.uO.fresh t;have d:∀b u,H b=some u->b≠e/\b≠j:=λb u q=>⟨λz=>(by rw[z,h.1] at q;cases q),λz=>(by rw[z,i.1] at q;cases q)⟩;have p:∀b o,b∉[e,j]->s.heap.get? b=some o->h'.get? b=some o:=λb o g q=>k b o (λz=>g<|by simp[z]) (λz=>g<|by simp[z]) q;have l:∀{b u},H b=some u->upd H a (.tup xs) b=some u:=λ{b u} q=>by rw[ss<|uf q A];exact q
 refine I.step (g':=s.gens) (d':=s.drawn) (ch:=[e,j]) (λb g=>?_) (λb o _ _ f q _=>p b o f q) (λb o _ _ f q _=>⟨o.slots,p b o f q⟩) (λb o f q n=>?_)
  (λb o f q=>⟨o,p b o f q⟩) (λ_ _ q=>l q) (λ_ _ _ q=>l q) (λb F q=>⟨#[],by rw[l q];simp⟩) (λm B=>?_) (λb u q=>?_) I.bare
 ·rcases List.mem_cons.mp g with z|z
  ·subst z;exact⟨h.2.2.2.1,h.2.1,h.2.2.2.2.1,h.2.2.2.2.2⟩
  ·have z:b=j:=by simpa using z
   subst z;exact⟨i.2.2.2.1,i.2.1,i.2.2.2.2.1,i.2.2.2.2.2⟩
 ·rw[ss<|λz=>fY (fQ q)<|by rw[z];exact Nat.not_lt.mpr t];exact n
 ·refine wT B λo C D E r=>?_;exact⟨o,C,D,k _ o (Ne.symm h.2.1) (Ne.symm i.2.1) E,r⟩
 ·by_cases g:b=a
  ·subst g;rw[tZ] at q;cases q;exact⟨x,us,r,y⟩
  ·rw[ss g] at q;refine(I.uO b u q).Ca (λc v f w=>?_) (λc w=>l w) λc G w=>l w;rcases f with z|z
   ·rw[z] at w ⊢;exact k b v (d b u q).1 (d b u q).2 w
   ·exact k c v (d c _ z).1 (d c _ z).2 w
end
theorem Mn{K:fB}{x1}(a e it:ci)(hne:e≠it):Turn P w K (.Tuple els x1 tp) (Z1 K a) [e,it] e (λi h=>(∃old,IsEnum h e it i old)/\h.IsListIter it a i) where
 mem:=by simp
 obj:=λi h st b hb=>by
  obtain⟨⟨old,h1⟩,⟨o,h2,c,d⟩⟩:=st;rcases List.mem_cons.mp hb with z|z
  ·subst z
   exact⟨_,h1,λv z=>by
    have z':r9 _=Data.cell v:=z
    cases z'⟩
  ·have z:b=it:=by simpa using z
   subst z;exact⟨o,h2,λv z=>by rw[d] at z;cases z⟩
 keep:=λi h h' st k=>⟨MZ st.1 λold h1=> ⟨old,k e q0o _ h1⟩,st.2.at λo q=>k it q0o o q⟩
 item:=by
  intro X hP hw hK hc i pins s σ H E I hf st hg;subst hP hw hK;refine vS hg λxs x hq hx=>?_;refine ux (I.list hq) λyP rv p hz=>?_;refine tX (rv.get hx) λu hu ru=>?_;obtain⟨⟨old,h1⟩,h2⟩:=st;have fe:=hf e q0o;have fi:=hf it q0o;refine wpAny_pyNext_enum_item h1 h2 p.isList (x:=u) (by simpa using hu) hne λh' a1 a2 a3 a4 a5=>⟨_,rfl,wpAny_letOwnedTupleGo_enum a1 λh2' b1 b2=>?_⟩;have hel:e<s.heap.objs.size:=fQ h1;have t2:h2'.get? s.heap.objs.size=some { cls:=.type "tuple",data:=.seq #[.int i s.toks,u]}:=b2.extBut _ _ (ii hel) a3;refine⟨.ref s.heap.objs.size,upd H s.heap.objs.size<|.tup [.int i,x],RY (s:=s) (h':=h2') (t':=s.toks+1) (xs:=[.int i,x]) (us:=[.int i s.toks,u]) (nh:=0) I fe fi (fJ _) (λb o n1 n2 q=>b2.extBut b o n1<|a5 b o n1 n2 q) (by show 2<=fK;decide) (.cons ⟨_,rfl⟩<|.cons ru .nil) ⟨_,t2,rfl,_,rfl⟩,rfl,⟨_,x,rfl,I.uO.fresh<|fJ _,rfl,λys hy=>by rw[I.GR hy hq];exact hx⟩,⟨⟨_,b1⟩,a2.extBut b2.extBut<|Ne.symm hne⟩,λb hb=>?_⟩;rw[ss]
  ·exact(hf b hb).1
  ·refine tX h2 λo ho _=>?_;rcases List.mem_cons.mp hb with z|z
   ·rw[z];exact fX hel
   ·have z:b=it:=by simpa using z
    rw[z];exact fX<|fQ ho
 done:=by intro X hP hw hK hc i pins s σ H E I hf st hg;subst hP hw hK;refine tX hg λxs hq hx=>?_;refine ux (I.list hq) λyP rv p hz=>?_;obtain⟨⟨old,h1⟩,h2⟩:=st;refine DS (hf it q0o) λf0 f1 f2 f3 f4 f5=>?_;have hl:=rv.length;exact wpAny_pyNext_enum_end (I.ok.hd hc) h1 h2 p.isList (by simp;lia) λh' eb=>⟨rfl,I.turned (t':=s.toks) (λb o hb e=>eb b o hb e) f0 f1 f3 f4 f5⟩
 self:=λ_ _ _ _ _ st h=>wpAny_pyIter_enum st.1.choose_spec h
section
variable{X:Cx}{E:XK}{T:ci}{is:List Nat}{D:Type}[Sls D]{pos:Pos}{α:Type}[Rep α]
def XJ(K:fB)(c:TA):TI:=λd H R=>c d H λe b=>∃a,e=[.ref a]/\(∃f,vn K b a f)/\R (Z1 K a) b
theorem RZ{i}(j:Gl X "enumerate")(k:X.mg "enumerate"=none)(l:PA X [a] m)(n:fG [a] X.env=[(false,eval a X.env)]:=by rfl):PI X (.Tuple o i J) (.Call (.Name "enumerate" p) [a] [] pos) (XJ X.K m):=by
 intro d s t H R I h;refine PyProof.Rows.Call_<|yS I j k PyProof.Rows.boot_enumerate<|jG (uL (l pos d s t H _ I h) λL c u=>ut u λM v f w x=>?_) n rfl;obtain⟨a,e,⟨N,y⟩,q⟩:=x;subst e
 cases w with
 | cons r A =>
  cases A;cases r;refine ux (f.list y) λB O p P=>?_;refine call_enumerate_list p.isList λQ g C S F=>?_;refine wpAny_pyIter_enum g ?_;refine⟨c.heap.objs.size+1,[c.heap.objs.size+1,c.heap.objs.size],_,_,v,rfl,f.kept (t':=c.toks) F,Mn a _ _<|ii<|iA _,⟨⟨_,g⟩,C⟩,λb G=>?_,q⟩
  have e:c.heap.objs.size<=b:=by
   rcases List.mem_cons.mp G with z|z
   ·rw[z];exact kh _
   ·have z:b=c.heap.objs.size:=by simpa using z
    rw[z];exact fJ _
  exact f.ET e<|f.uO.fresh e
def Mo:Nat->List α->List (Int×α)
 | _,[]=>[]
 | k,x::r=>((k:Int),x)::Mo (k+1) r
theorem CA:∀(k:Nat)(a:List α),(Mo k a).length=a.length
 | _,[]=>rfl
 | k,x::r=>by show (Mo (k+1) r).length+1=r.length+1;rw[CA (k+1) r]
theorem KR:∀(k:Nat)(a:List α)(i:Nat),(Mo k a)[i]?=(a[i]?).map λx=>(((k+i:Nat):Int),x)
 | _,[],_=>by simp[Mo]
 | k,x::r,0=>by simp[Mo]
 | k,x::r,i+1=>by
  show (((k:Int),x)::Mo (k+1) r)[i+1]?=_;rw[qZ,qZ,KR (k+1) r i];congr 1
  funext y
  rw[show k+1+i=k+(i+1) by lia]
theorem Dt{K:fB}{xs:List α}{vs:List V}:Wp (Z1 K a) (Mo 0 xs) (λR H=>H a=some (.lst vs)/\Paired (rp R H) xs vs) where
 go:=λ{R H i} p h=>by rw[CA] at h;obtain⟨v,e,_⟩:=vX (i:=i) (x:=xs[i]) p.2 (by simp[h]);exact⟨vs,v,vn.of p.1,e⟩
 GF:=λ{R H i v H'} p wn hi y=>by rw[CA] at hi;obtain⟨q,w,e,hq,e',y⟩:=y;subst e e';have y':=y vs<|vn.of p.1;obtain⟨u,e,r⟩:=vX (i:=i) (x:=xs[i]) p.2 (by simp[hi]);rw[y'] at e;cases e;have ex:Ext R R H R (upd H q<|.tup [.int i,w]):=⟨λb o _ z=>by rw[ss<|uf z hq];exact z,λ_ z=>.inl z⟩;refine⟨.inr ⟨q,_,hq,rfl⟩,((i:Int),xs[i]),?_,q,.int i,w,rfl,λz=>wn q z hq,tZ,rfl,Rep.st r ex⟩;rw[KR,iz hi,rK];rfl
 stop:=λ{R H} p=>⟨vs,vn.of p.1,by rw[CA,Paired.length p.2];exact fJ _⟩
theorem R6{i:List gA}{B}{w:Wf D (List α) D}(C:Gl X "enumerate")(G:X.mg "enumerate"=none)(h:EW X E T e w)(I:fG [e] X.env=(false,eval e X.env)::fG [] X.env:=by rfl)(j:fG [e] X.env=[(false,eval e X.env)]:=by rfl) :
  IW X E T is (.Tuple i B tp) (.Call (.Name "enumerate" p) [e] [] pos) (λ(b:D) (_:List (Int×α))=>b) (λ(d:D) o u=>w d (λf k=>o (Mo 0 f) k) u):=by
 refine tX h λt J K=>?_;refine⟨_,RZ C G (ue J uu I) j,λd F R L H o u Rk s M N O=>K d F R L H _ _ _ s M (λf k v l P Q q c x r=>?_) O⟩;obtain⟨a,m,rfl,S,y,U⟩:=r;refine⟨a,rfl,⟨m,vn.of y⟩,N (Mo 0 f) k _ (λR H=>(H a=some (.lst m)/\Paired (rp R H) f m)/\¬R a) l (λ_=>False) l P Q q c x.Ib (two_nil l) x.rel ⟨λp=>Dt.go p.1,λp=>Dt.GF p.1,λp=>Dt.stop p.1⟩ ⟨⟨y,U⟩,S⟩ (λp A nf n=>?_) λb' G2 V W Y Z p h g t=>Sls.fq h<|two_eq t λ_ z=>z⟩;have na:¬_:=λz=>p.2<|A a z;exact⟨⟨n.keep a _ na p.1.1,vh (n.wide A) p.1.2⟩,n.not p.2 p.1.1⟩
end
def FE(C:ci):Sp:=λf H Q E=>∃p e,f=[.ref p]/\H p=some (.ins C e []) /\
 ∀c d a,H c=none->H d=none->c≠d->a p=some (.ins C e<|xD c d 0 0 0 false)->a c=some (.dK [])->a d=some (.dK [])->(∀b o,b≠p->H b=some o->a b=some o)->Q .vC a
section
variable{P:gf}{w:gu}{K:fB}{mg:Str->Option cr}{base:gE}
theorem R7{m:gy}{k:Nat}(F:xY K "__init__" i m f D)(S:ug ["self"] ["self"] (tY m))(g:BB K C)
 (j:∀(d:cr)(A:gJ)(a:List Env)(s:fH)(H:Hp)(E:XK),DT (uR (uP P w) P w K mg base ["self"] i (tY m) f d A a s H E) (uC m)<|Ik (LM K (uH 0) CU "ranks")<|Ik (LM K (uH 0) CU "borders")<|LM K (uH 0) (tC<|.int 0) "upcoming") :
    uE P w K mg base (uP P w) (k+1) f D ["self"] (FE C):=by
  obtain⟨R,T,U,G,V,X,d,I,J,rfl,lk,t⟩:=F.ex
  refine G4 lk t S (λL H Q E M=>vS M λp l e _=>by rw[e];rfl) λN a s H L Q E Y u=>⟨_,j d N a s H E,?_⟩
  obtain⟨p,l,rfl,B,k⟩:=u
  intro h v
  have n:p≠h:=uf B v
  have O:upd H h (.dK []) p=some (.ins C l []):=by rw[ss n];exact B
  refine⟨_,rfl,p,C,l,[],rfl,O,g.cl,g.nR,q0q,?_⟩
  intro q c
  have r:p≠q:=λz=>by rw[<- z,tZ] at c;cases c
  rw[ss r.symm] at c
  have x:q≠h:=λz=>by rw[z,tZ] at c;cases c
  rw[ss x] at c
  refine⟨_,rfl,p,C,l,[("ranks",.ref h)],rfl,?_,g.cl,g.nB,(by show 1<1000;decide),?_⟩
  · rw[ss r, tZ]
    rfl
  refine⟨_,rfl,p,C,l,[("ranks",.ref h),("borders",.ref q)],rfl,?_,g.cl,g.nU,(by show 2<1000;decide),?_⟩
  · rw[tZ]
    rfl
  refine k h q _ v c x.symm ?_ ?_ ?_ λb o y j=>?_
  · rw[tZ]
    rfl
  · rw[ss n.symm, ss n.symm, ss x.symm, ss n.symm, tZ]
  · rw[ss r.symm, ss r.symm, tZ]
  · rw[ss y, ss y, ss<|uf j c, ss y, ss<|uf j v]
    exact j
end
structure Mf(K:fB)(C:ci)(m qual:Str)(st:gy)(ps:List Str)(f:ci)(fd:gF):Prop where
 fn:xY K m qual st f fd
 me:Meth K C m f
 bd:Binds K fd ps []
structure Xc(K:fB)(mg:Str->Option cr)(x:Str)(C:ci):Prop where
 ex:∃(Ba:List cr)(B newId wq:String),mg x=some (.ref C)/\im K C Ba newId=true/\jm B newId wq Ba
 g0:∀H',GX.g C none H'
theorem BC{k:Nat}(r:vq k A):A.units+1<ju:=mu (Nat.add_le_add_left q0q _) r.units
def Z2(s:gy):List gy:=match s with
 | .ClassDef _ _ _ body _ _ _ _ _ _ _=>body
 | _=>[]
def BD(s:gy)(i:Nat):gy:=(Z2 s).getD i<|.Pass ⟨0,0,0,0⟩
section
variable{P:gf}{w:gu}{K:fB}{mg:Str->Option cr}{base:gE}{N:List Str}{qual:Str}{scope:jO}{f:ci}{cd:cr}{A:gJ}{outer:List Env}{s:fH}{H:Hp}{E:XK}{T:ci}{ms:List Nat}{n:Nat}{D D' PO τ:Type}[Sls D][Sls D'][Sls PO][Ow τ]{pos:Pos}
theorem AR{k:Nat}[J:Pj D PO n](j:Gl (uR (uP P w) P w K mg base N qual scope f cd A outer s H E) x)(h:Xc K mg x C)(c:(x==("__debug__":Str))=false:=by decide)
 (i:fG [.Constant (.str m) k mp] (uR (uP P w) P w K mg base N qual scope f cd A outer s H E).env=(false,eval (.Constant (.str m) k mp) (uR (uP P w) P w K mg base N qual scope f cd A outer s H E).env)::fG [] (uR (uP P w) P w K mg base N qual scope f cd A outer s H E).env:=by rfl)
 (e:(ij a<|fG [] (uR (uP P w) P w K mg base N qual scope f cd A outer s H E).env).any (·.1)=false:=by rfl) :
    S1 (uR (uP P w) P w K mg base N qual scope f cd A outer s H E) E T ms n (.Raise (some<|.Call (.Name x np) [.Constant (.str m) k mp] [] a) none pos) (λ(d:D)(_:D'->Prop)(_:τ->PO->Prop) l=>l C<|J.pj d):=by
  obtain⟨o,B,g,b,p,O,q⟩:=h.ex
  exact Dl<|C7 j p O q h.g0 (ue EQ uu i) c i e
end
section
variable{X:Cx}{E:XK}{T:ci}{D:Type}[Sls D]{pos:Pos}
theorem OF{i:Int}(b:Gl X x)(c:X.mg x=some (.int i t))(e:(x==("__debug__":Str))=false:=by decide):EW X E T (.Name x pos) (λ(d:D)(a:Int->D->Prop) _=>a i d) :=
 ⟨_,QP (v:=.int i) b c ⟨t,rfl⟩ e,λd F R h H a j Q s f g _=>g i d _ F R H f (Ch.refl _ _ _ _) s rfl⟩
end
def Sf(f:Int->List Int)(x:Int):List Int->Bool
 | []=>false
 | c::l=>xor (decide<|x∈f c)<|Sf f x l
theorem KS{x:Int}{a:List Int}(p:a.Perm b):Sf f x a=Sf f x b:=by
 induction p with
 | nil=>rfl
 | cons c _ e=>show xor _ _=xor _ _;rw[e]
 | swap c d l=>show xor _ (xor _ _)=xor _ (xor _ _);rw[<- mo,<- mo,Bool.xor_comm<|decide<|x∈f d]
 | trans _ _ g h=>exact g.trans h
theorem VH{x k:Int}(h:wA l):Sf f x (GH l k)=xor (decide<|x∈f k) (Sf f x l):=by
 by_cases q:k∈l
 ·have e:GH l k=Jg k l:=fE q
  have p:l.Perm (k::Jg k l):=by
   refine vj (uj h) (List.nodup_cons.mpr ⟨λz=>(zf.mp z).2 rfl,uj<|iX _ h⟩) λy=>?_;rw[gp,zf];by_cases z:y=k
   ·rw[z];simp[q]
   ·simp[z]
  rw[e,KS p];show _=xor _ (xor _ _);rw[<- mo,Bool.xor_self,qq]
 ·have e:GH l k=Dj k l:=fF q
  have p:(Dj k l).Perm (k::l):=by refine vj (uj<|Cw h) (List.nodup_cons.mpr ⟨q,uj h⟩) λy=>?_;rw[gp,AN]
  rw[e,KS p];rfl
theorem OG{x:Int}:∀{b a:List Int},wA a->Sf f x (xr a b)=xor (Sf f x a) (Sf f x b)
 | [],a,_=>by show Sf f x a=xor _ false;rw[mq]
 | k::b,a,h=>by show Sf f x (xr (GH a k) b)=xor (Sf f x a) (xor (decide<|x∈f k)<|Sf f x b);rw[OG<|KO h,VH h,<- mo,Bool.xor_comm<|Sf f x a]
theorem OH{x:Int}:∀{l:List Int} {a:List Int},(∀c∈l,(f c).Nodup)->decide (x∈(l.map f).foldl xr a)=xor (decide<|x∈a) (Sf f x l):=by
 intro d
 induction d with
 | nil=>intro a _;show decide (x∈a)=xor _ false;rw[mq]
 | cons c l b =>
  intro a h;show decide (x∈(l.map f).foldl xr (xr a<|f c))=xor _ (xor _ _);rw[b<|λy g=>h y<|fP _ g,<- mo];congr 1;have e:=zg (l:=a) (x:=x)<|h c fM;by_cases p:x∈a<;>by_cases q:x∈f c<;>simp[p,q,e]
def vd(f:Int->List Int)(l:List Int):List Int:=KP<|l.map f
theorem wu{x:Int}(h:∀c∈l,(f c).Nodup):decide (x∈vd f l)=Sf f x l:=by unfold vd KP;rw[OH h];show xor (decide<|x∈([]:List Int)) _=_;rw[gz q0o,qq]
theorem wv(f:Int->List Int)(l:List Int):wA (vd f l):=RQ _
theorem AS(c:wA a)(d:wA b)(h:∀x,decide (x∈a)=decide (x∈b)):a=b:=Fy c d λk=>by have:=h k;by_cases p:k∈a<;>by_cases q:k∈b<;>simp[p,q] at this ⊢
theorem Du{x:Int}(h:∀c∈l,(f c).Nodup)(a:x∈vd f l):∃c∈l,x∈f c:=by
 have e:=wu (x:=x) h;rw[decide_eq_true a] at e;clear a
 induction l with
 | nil=>cases e
 | cons c l b =>
  by_cases q:x∈f c
  ·exact⟨c,fM,q⟩
  ·have e:true=xor (decide<|x∈f c) (Sf f x l):=e;rw[gz q,qq] at e;obtain⟨d,g,i⟩:=b (λy j=>h y<|fP _ j) e;exact⟨d,fP _ g,i⟩
theorem KU(h:wA a)(i:wA b)(d:∀c∈a,(f c).Nodup)(g:∀c∈b,(f c).Nodup):vd f (xr a b)=xr (vd f a) (vd f b) :=
 AS (wv _ _) (xS<|wv _ _) λx=>by rw[wu λc j=>(Oy (uj i) j).elim (d c)<|g c,OG h,<- wu d,<- wu g];have e:=zg (l:=vd f a) (x:=x)<|uj<|wv f b;by_cases p:x∈vd f a<;>by_cases q:x∈vd f b<;>simp[p,q,e]
theorem KW{x:Int}:∀{l a:List Int},wA a->(∀c∈l,wA (f c)/\Sf f x (f c)=false)->Sf f x ((l.map f).foldl xr a)=Sf f x a
 | [],_,_,_=>rfl
 | c::l,a,b,h=>by show Sf f x ((l.map f).foldl xr<|xr a<|f c)=_;rw[KW (xS b) λy d=>h y<|fP _ d,OG b,(h c fM).2,mq]
theorem Mp(h:∀c∈l,wA (f c)/\(∀d∈f c,(f d).Nodup)/\vd f (f c)=[]):vd f (vd f l)=[] :=
 AS (wv _ _) gx λx=>by
  rw[wu,gz q0o]
  ·exact KW (x:=x) (l:=l) gx λc a=>⟨(h c a).1,by rw[<- wu (h c a).2.1,(h c a).2.2];rfl⟩
  ·intro d b;obtain⟨c,a,b⟩:=Du (λc a=>uj (h c a).1) b;exact(h c a).2.1 d b
theorem wm(h:∀c∈l,f c=g c):vd f l=vd g l:=by unfold vd;rw[lV h]
structure VI(K:fB) where
def OI(K:fB)(R:Rg)(H:Hp)(a:ci)(c:List Int):Prop :=
 (¬R a/\Rd H a (.lst<|c.map V.int))\/∃(o:oq)(b:Array cr)(n:Nat),K.lookup a=some o/\o.cls=.type "list"/\o.dict=none/\o.data=.seq b n/\b.size<=fK/\Vals (c.map V.int) b.toList
theorem OI.sq{K:fB}(h:OI K R H a b):vn K H a (b.map V.int):=h.elim (λz=>.inl z.2) .inr
instance(K:fB):Rep (VI K):=⟨λR H _ v=>∃a ns,v=.ref a/\OI K R H a ns,λ{R H R' H' x v} h e=>by
 refine vS h λa ns h1 h2=>?_;refine⟨a,ns,h1,?_⟩;rcases h2 with⟨n,r⟩|r
 ·rcases r with r|⟨o,r⟩
  ·exact .inl ⟨e.not n r,.inl<|e.keep a _ n r⟩
  ·exact .inl ⟨e.not n r,.inr ⟨o,e.keep a _ n r⟩⟩
 ·exact .inr r⟩
def Ui(K:fB):Sp:=λd H Q _=>∃(a:ci)(e:List Int),d=[.ref a]/\vn K H a (e.map V.int)/\∀b g q c s,Ce H b->B5 b g q c 0 0 s->H g=none->H q=none->Q (.ref g) b
def OJ(K:fB):Wf (VI K×Unit) Bg (Un×Unit):=λ_ a _=>a ⟨⟩ (⟨⟩,())
def Uj(K:fB):Wf (VI K×Unit) Bool (Un×Unit):=λ_ a _=>a true (⟨⟩,())
section
variable{P:gf}{w:gu}{K:fB}{mg:Str->Option cr}{base:gE}{T:ci}{k:Nat}{f:ci}{fd:gF}{ps:List Str}
theorem XM(F:uE P w K mg base NF k f fd ps (Ui K)):uE P w K mg base (uP P w) k f fd ps (xG T<|OJ K) :=
 (Ue F).imp λy H Q E A=>YK A λF R p Y Z s C D _=>by
  obtain⟨v,G,F1,F2,d,h2,⟨n1,u,e,a,I,J,L⟩,M⟩:=s.rel;subst e J
  match y,d with
  | [],d=>cases d
  | x::r,d =>
   injection d with N O;cases N
   have S:r=[]:=by have:=M.1;rw[<- O] at this;exact List.map_eq_nil_iff.mp this
   subst S;refine⟨a,I,rfl,L.sq,λn g q j U i B l m=>?_⟩;have V:Ext (λ_=>False) R H (λc=>R c\/c=g\/c=q) n:=⟨λb o _ h=>i b o h,λc h=>h.elim .inl λz=>.inr<|z.elim (λz=>by rw[z];exact l) λz=>by rw[z];exact m⟩;refine D ⟨⟩ (⟨⟩,()) (.ref g) (λc=>c=g\/c=q) (λ_=>False) (λc=>R c\/c=g\/c=q) n C ⟨λb o _ _ h=>i b o h,V.new,λc h=>h.elim (λz=>.inr<|z.elim (λz=>by rw[z];exact l) λz=>by rw[z];exact m) λz=>z.elim,λc h _=>.inl h⟩ ⟨⟨some<|.ref a,[],λ_=>False,λ_=>False,rfl,⟨λ_=>⟨λz=>z.elim,λz=>z.elim id id⟩,λ_ z _=>z⟩,λ_ z=>z,rfl,λ_ z=>z⟩,λ_ z=>z.elim,λc h=>?_,?_,.inl s.uQ,λz=>z⟩ ⟨⟨g,q,j,0,0,U,rfl,λ_=>Iff.rfl,B⟩,λc h=>.inr h,λ_ _ z=>z,λz=>?_⟩
   ·rcases h with h|h|h
    ·cases e:H c with
     | none=>exact fY e<|s.wn c h
     | some o=>rw[i c o e];simp
    ·rw[h,B.ob];simp
    ·rw[h,B.sc];simp
   ·refine tX s.tab λX e t=>?_;exact⟨X,i _ _ e,t⟩
   ·have:=ya s.tab;rcases z with z|z
    ·rw[z] at this;exact this l
    ·rw[z] at this;exact this m
def KY(K:fB)(b:ci):Sp:=λc H Q _=>∃(a:ci)(d:List Int),c=[.ref a]/\vn K H a (d.map V.int)/\TabAt H b/\∀e,Q (.bl true) e
theorem XQ(F:uE P w K mg base (uP P w) k f fd ps (xG T<|Uj K)):uE P w K mg base (uP P w) k f fd ps (KY K T) :=
 F.imp λs H Q E g=>vt g λa i e j b l=>by
  subst e;refine⟨λ_=>False,λc=>c=T,(⟨⟩,()),λx _=>x=true,λ_ _=>False,⟨⟨some<|.ref a,[],λ_=>False,λ_=>False,rfl,⟨λ_=>⟨λz=>z.elim,λz=>z.elim id id⟩,λ_ z _=>z⟩,⟨λ_ z=>z,_,rfl,a,i,rfl,?_⟩,rfl,λ_ z=>z⟩,λ_ z=>z.elim,λc h=>by rw[h];exact ya b,b,rfl,λz=>z⟩,rfl,λx m v t A p d q c B n=>?_,λC y m D p d q=>q.elim⟩
  ·rcases j with r|r
   ·refine .inl ⟨λz=>?_,r⟩;refine tX b λG e _=>?_;rcases r with r|⟨o,r⟩
    ·rw[z,e] at r;cases r
    ·rw[z,e] at r;cases r
   ·exact .inr r
  ·obtain⟨_,u,e,r⟩:=n.is;cases e;have r:v=V.bl x:=r;rw[r,q];exact l d
theorem XU(F:uE P w K mg base (uP P w) k f fd ps c)(h:∀b H Q E,c b H Q E->c b H Q XF):uE P w K mg base NF k f fd ps c :=
 ⟨F.len,λA a s H args d b Q E g i j l m=>iY (F.run A a s H args d b Q XF g i j l (h _ _ _ _ m)) λr o z=>by
  cases r with
  | error e =>
   obtain⟨_,_,_,_,_,z⟩:=z;exact z.elim
  | ok n =>
   cases n with
   | ret u=>exact z
   | next=>exact gB z
   | brk=>exact gB z
   | cont=>exact gB z⟩
end
structure Fk(P:gf)(w:gu)(K:fB)(mg:Str->Option cr)(base:gE)(T:ci)(x:Str)(ps:List Str){A PO τ:Type}[Sls A][Sls PO][Ow τ](wf:Wf A τ PO)(k:Nat) where
 f:ci
 fd:gF
 ok:uE P w K mg base (uP P w) k f fd ps (xG T wf)
 at_:mg x=some (.ref f)
 kp:h8 K (.ref f)=true
 bd:Binds K fd ps []
structure Fm(P:gf)(w:gu)(K:fB)(mg:Str->Option cr)(base:gE)(T C:ci)(m:Str)(ps:List Str){A PO τ:Type}[Sls A][Sls PO][Ow τ](wf:Wf A τ PO)(k:Nat) where
 f:ci
 fd:gF
 ok:uE P w K mg base (uP P w) k f fd ps (xG T wf)
 me:Meth K C m f
 bd:Binds K fd ps []
section
variable{P:gf}{w:gu}{K:fB}{mg:Str->Option cr}{base:gE}{T C f:ci}{fd:gF}{x:Str}{ps:List Str}{A PO τ:Type}[Sls A][Sls PO][Ow τ]{wf:Wf A τ PO}{j k:Nat}
def Fk.up(h:Fk P w K mg base T x ps wf j)(l:j<=k):Fk P w K mg base T x ps wf k:=⟨h.f,h.fd,h.ok.mono l,h.at_,h.kp,h.bd⟩
def Fm.up(h:Fm P w K mg base T C x ps wf j)(l:j<=k):Fm P w K mg base T C x ps wf k:=⟨h.f,h.fd,h.ok.mono l,h.me,h.bd⟩
end
section
variable{X:Cx}{E:XK}{T:ci}{D:Type}[Sls D]{pos:Pos}
theorem uy{P c B g i:Type}[Sls P][Sls c][Sls B][Sls g][Ow i][Lb g i c]{a:B->g->c->D}{o:Wf P i c}{q:D->(P->B->g->Prop)->(ci->D->Prop)->Prop}{k:Nat}{s:List Str}{f:List gA}
 (h:Fk X.prog X.w X.K X.mg X.base T x s o k) (t:vq k X.A) (u:Gl X x) (v:Passes (uP X.prog X.w) X E) (y:Jd X E T (e::f) a q) (j:(x==("__debug__":Str))=false:=by decide) (z:fG (e::f) X.env=(false,eval e X.env)::fG f X.env:=by rfl) (m:(ij pos<|fG f X.env).any (·.1)=false:=by rfl) :
    EO X E T (.Call (.Name x p) (e::f) [] pos) (λ(d:D)(F:i->D->Prop) r=>q d (λp b l=>o p (λx n=>F x<|a b l n)<|λC n=>r C<|a b l n) r):=AI h.ok t u h.at_ h.kp h.bd v y j z m
variable{C:ci}{fl:Bool}{x:Str}{p1:Pos}{τ:Type}[Ow τ]
theorem vA{g:List gA}(i:Nat){s P n B r q:Type}[Sls s][Sls P][Sls n][Sls B][Sls r][Sls q][Lb q τ<|Bd C fl×n]{j:B->q->n->D}{v:D->(P->B->q->Prop)->(ci->D->Prop)->Prop}
 {z:Wf (Bd C fl×P) τ (Bd C fl×n)} [Y:At i D (Bd C fl) s] [A:At i B (Bd C fl) r] [U:Pt i r (Bd C fl) B] {k:Nat} {M:List Str} {N:Sem Bool}
 (h:Fm X.prog X.w X.K X.mg X.base T C m M z k) (F:vq k X.A) (G:zP X.K C) (H:Passes (uP X.prog X.w) X E) (I:PE X (.Name x p1) (uH i)) (O:Jd X E T (e::g) j v) (Q:∀a b c d u,(xD a b c d u fl).lookup m=none:=by intros;rfl)
 (R:fG (e::g) X.env=(false,eval e X.env)::fG g X.env:=by rfl) (S:(ij pos<|fG g X.env).any (·.1)=false:=by rfl)
 (V:eval (.Call (.Attribute (.Name x p1) m apos) (e::g) [] pos) X.env=(do
 let J <- eval (.Name x p1) X.env
 lw apos.atName
 let (f,first) <- jz [J] (kH J m N)
 lZ pos f first (ij pos (fG (e::g) X.env)) (lx pos (jA [] X.env))):=by rfl) :
    EO X E T (.Call (.Attribute (.Name x p1) m apos) (e::g) [] pos) (λ(d:D)(W:τ->D->Prop) L=>v d (λp b l=>z (A.get b,p) (λy o=>W y<|j (U.put (A.hole b) o.1) l o.2)<|λC o=>L C<|j (U.put (A.hole b) o.1) l o.2) L) :=
  OC i h.ok F G h.me h.bd H I Q (λt=>QY I G h.me h.ok F h.bd .nil H t R S V) O
theorem Hy(i:Nat){e:Type}[Sls e]{j:Wf (Bd C fl×Unit) τ (Bd C fl×Unit)}[A:At i D (Bd C fl) e][U:Pt i e (Bd C fl) D]{k:Nat}{r:List Str}{s:Sem Bool}
 (h:Fm X.prog X.w X.K X.mg X.base T C m r j k) (l:vq k X.A) (n:zP X.K C) (o:Passes (uP X.prog X.w) X E) (p:PE X (.Name x p1) (uH i)) (t:∀a b c d u,(xD a b c d u fl).lookup m=none:=by intros;rfl)
 (v:eval (.Call (.Attribute (.Name x p1) m apos) [] [] pos) X.env=(do
 let q <- eval (.Name x p1) X.env
 lw apos.atName
 let (f,first) <- jz [q] (kH q m s)
 lZ pos f first (ij pos (fG [] X.env)) (lx pos (jA [] X.env))):=by rfl) :
    EO X E T (.Call (.Attribute (.Name x p1) m apos) [] [] pos) (λ(d:D)(z:τ->D->Prop) B=>j (A.get d,()) (λy g=>z y<|U.put (A.hole d) g.1)<|λC g=>B C<|U.put (A.hole d) g.1) :=
  OD i h.ok l n h.me h.bd o p t (Nj p n h.me h.ok l h.bd .nil o v)
end
end WL
namespace WL
open PySem L2
open Rep (rp)
open Ow (sl)
open Sls (rel)
section
variable{P:gf}{w:gu}{K:fB}{mg:Str->Option cr}{base h:gE}{T C:ci}
structure Dq(K:fB)(x:Str)(st:gy):Prop where
 ex:∃f fd,f9 K f7 x=some (some<|.ref f)/\xY K x x st f fd
structure Mq(K:fB)(C:ci)(m q:Str)(st:gy):Prop where
 ex:∃f fd,Meth K C m f/\xY K m q st f fd
theorem dq_mk{b:gy}{e:cr}(a:f9 K f7 x=some (some<|.ref f))(l:K.lookup f=some ⟨j,m,.func<|iG x x (uX b) (uC b) (tY b) .none e g pm n d o,i⟩)
 (c:iu K d x=true)(k:h8 K (.ref f)=true):Dq K x b:=⟨_,_,a,CW l c k⟩
theorem mq_mk{b:gy}{e:cr}(a:gr K (.ref C) x=some (some<|.ref f))(i:mU K (.ref f)=true)(l:K.lookup f=some ⟨m,n,.func<|iG x q (uX b) (uC b) (tY b) .none e g pm o d p,j⟩)
 (c:iu K d q=true)(k:h8 K (.ref f)=true):Mq K C x q b:=⟨_,_,⟨a,i,k⟩,CW l c k⟩
noncomputable def Dq.f{x:Str}{a:gy}(q:Dq K x a):ci:=q.ex.choose
noncomputable def Dq.d{x:Str}{a:gy}(q:Dq K x a):gF:=q.ex.choose_spec.choose
noncomputable def Mq.f{x q:Str}{a:gy}(m:Mq K C x q a):ci:=m.ex.choose
noncomputable def Mq.d{x q:Str}{a:gy}(m:Mq K C x q a):gF:=m.ex.choose_spec.choose
theorem Dq.fn{a:gy}(q:Dq K x a)(X:K.In h)(G:h.Ns f7 mg)(c:List Str)
 (b:∀(j e k:cr)(l:Option ci)(g m:cr)(i:List cr),i.length=c.length->rD (iG x x (uX a) (uC a) (tY a) .none j e k l g m) ⟨i,[]⟩=pure (c.zip i)):Fn K mg x a c q.f q.d :=
  have h:=q.ex.choose_spec.choose_spec;⟨h.2,gW X G h.1,h.2.binds b⟩
theorem Mq.fn{a:gy}(m:Mq K C x q a)(c:List Str)
 (b:∀(j e k:cr)(l:Option ci)(g n:cr)(i:List cr),i.length=c.length->rD (iG x q (uX a) (uC a) (tY a) .none j e k l g n) ⟨i,[]⟩=pure (c.zip i)):Mf K C x q a c m.f m.d :=
  have h:=m.ex.choose_spec.choose_spec;⟨h.2,h.1,h.2.binds b⟩
variable[L2.GX]
def Fn.fk{x:Str}{g:gy}{a:List Str}{f:ci}{b:gF}{A c d:Type}[Sls A][Sls c][Ow d]{e:Wf A d c}{k:Nat}(N:Fn K mg x g a f b)(o:uE P w K mg base (uP P w) k f b a (xG T e)):Fk P w K mg base T x a e k:=⟨f,b,o,N.at_,N.fn.kp,N.bd⟩
def Mf.fm{x q:Str}{g:gy}{a:List Str}{f:ci}{b:gF}{A c d:Type}[Sls A][Sls c][Ow d]{e:Wf A d c}{k:Nat}(N:Mf K C x q g a f b)(o:uE P w K mg base (uP P w) k f b a (xG T e)):Fm P w K mg base T C x a e k:=⟨f,b,o,N.me,N.bd⟩
end
structure Cq where
 P:gf
 w:gu
 K:fB
 mg:Str->Option cr
 base:gE
 T:ci
structure Bz(K:fB):Prop where
 all:f9 K f7 "all"=some none
 zip:f9 K f7 "zip"=some none
 set:f9 K f7 "set"=some none
 sorted:f9 K f7 "sorted"=some none
 len:f9 K f7 "len"=some none
 list:f9 K f7 "list"=some none
 isinstance:f9 K f7 "isinstance"=some none
 int:f9 K f7 "int"=some none
 bool:f9 K f7 "bool"=some none
 range:f9 K f7 "range"=some none
 enumerate:f9 K f7 "enumerate"=some none
 tuple:f9 K f7 "tuple"=some none
 min:f9 K f7 "min"=some none
 max:f9 K f7 "max"=some none
 str:f9 K f7 "str"=some none
structure Bn(mg:Str->Option cr):Prop where
 all:mg "all"=none
 zip:mg "zip"=none
 set:mg "set"=none
 sorted:mg "sorted"=none
 len:mg "len"=none
 list:mg "list"=none
 isinstance:mg "isinstance"=none
 int:mg "int"=none
 bool:mg "bool"=none
 range:mg "range"=none
 enumerate:mg "enumerate"=none
 tuple:mg "tuple"=none
 min:mg "min"=none
 max:mg "max"=none
 str:mg "str"=none
theorem Bz.bn{K:fB}(X:K.In h)(G:h.Ns f7 a)(z:Bz K):Bn a :=
 let f:=λ{x:Str} (e:f9 K f7 x=some none)=>rW X G e
 ⟨f z.all,f z.zip,f z.set,f z.sorted,f z.len,f z.list,f z.isinstance,f z.int,f z.bool,f z.range,f z.enumerate,f z.tuple,f z.min,f z.max,f z.str⟩
variable[L2.GX]
abbrev xj(q:Cq)(x:Str)(c:List Str){A a b:Type}[Sls A][Sls a][Ow b](d:Wf A b a)(k:Nat):=Fk q.P q.w q.K q.mg q.base q.T x c d k
abbrev yQ(q:Cq)(C:ci)(x:Str)(c:List Str){A a b:Type}[Sls A][Sls a][Ow b](d:Wf A b a)(k:Nat):=Fm q.P q.w q.K q.mg q.base q.T C x c d k
abbrev Gq(q:Cq)(k:Nat)(f:ci)(c:gF)(d:List Str){A a b:Type}[Sls A][Sls a][Ow b](e:Wf A b a):Prop:=uE q.P q.w q.K q.mg q.base (uP q.P q.w) k f c d<|xG q.T e
abbrev FF(q:Cq)(x:Str)(a:gy)(f:ci)(b:gF):Prop:=xY q.K x x a f b
@[reducible] def wSq{D c e a b:Type}(h:D->(e->Prop)->(b->a->Prop)->(ci->a->Prop)->Prop)(i:e->(c->Prop)->(b->a->Prop)->(ci->a->Prop)->Prop):D->(c->Prop)->(b->a->Prop)->(ci->a->Prop)->Prop:=λd j f g=>h d (λk=>i k j f g) f g
theorem ul{c:List Nat}{n:Nat}{D h d b e:Type}[Sls D][Sls h][Sls d][Sls b][Ow e]{i:gy}{a:List gy}{f:D->(d->Prop)->(e->b->Prop)->(ci->b->Prop)->Prop}{g:d->(h->Prop)->(e->b->Prop)->(ci->b->Prop)->Prop}(j:S1 X E T c n i f)(k:SW X E T c n a g)(l:QI b c n:=by exact uG q0q) :
  SW X E T c n (i::a) (wSq f g):=Cr (w1:=f) (w2:=g) l j k
end WL
namespace L2
variable[L2.GX]
open PySem PySem.Spec PyProof.Rows
structure OK(N P:List Str)(sc:jO)(cl:List (Str×ci)):Prop where
 kind:sc.kind=.function
 co:sc.isCoroutine=false
 gen:sc.isGenerator=false
 nd:N.Nodup
 pre:N.take P.length=P
 par:∀x∈P,sc.names.lookup x=some .local
 Al:∀y∈sc.names,y.2≠.cell
 has:∀x,sc.names.lookup x=some .free->∃c,cl.lookup x=some c
 inj:∀x y c,cl.lookup x=some c->cl.lookup y=some c->x=y
def Ji(CX:LO)(P:gf)(w:gu)(K:fB)(mg:Str->Option cr)(base:gE)(N:List Str)(qual:Str)(scope:jO)(f:ci)(cd:cr)(cl:List (Str×ci))(A:gJ)(outer:List Env)(s:fH)(H:Hp)(E:XK):Cx where
 prog:=P
 w:=w
 K:=K
 mg:=mg
 base:=base
 A:=A.deeper<|gU qual scope s.heap.objs.size f cd cl
 N:=N
 s₀:=s
 H₀:=H
 env:=gU qual scope s.heap.objs.size f cd cl
 outer:=outer
 stack:=gU qual scope s.heap.objs.size f cd cl::outer
 ex:=[]
 calm:=true
 fn:=λ_=>false
 pn:=[]
 xe:=λe s'=>fO (fS P w) (A.deeper<|gU qual scope s.heap.objs.size f cd cl) (qc (gU qual scope s.heap.objs.size f cd cl) e) (λ_ QZ=>CX outer H s E e QZ) (λe' QZ=>CX outer H s E e' QZ) s'
section
variable{P:gf}{w:gu}{K:fB}{mg:Str->Option cr}{base:gE}{N ps:List Str}{qual:Str}{scope:jO}{f:ci}{cd:cr}{cl:List (Str×ci)}{A:gJ}{outer:List Env}{s:fH}{H:Hp}{E:XK}
theorem OM:Passes (uP P w) (Ji (uP P w) P w K mg base N qual scope f cd cl A outer s H E) E:=by intro a i j k e l I h;obtain⟨C,x,b,rfl,F,c⟩:=h;exact hJ (N0 I rfl rfl F) (λ_ d g=>⟨C,x,b,rfl,g,c⟩) λ_ _ z=>z
theorem ON:∀{l:List (Str×d)},(l.map (·.1)).Nodup->(x,u)∈l->l.lookup x=some u:=by
 intro l
 induction l with
 | nil=>intro _ h;cases h
 | cons p l b =>
  intro a h;rw[gn,List.nodup_cons] at a;obtain⟨y,v⟩:=p;rcases List.mem_cons.mp h with z|z
  ·cases z;rw[ig,beq_self_eq_true]
  ·have c:(x==y)=false:=beq_eq_false_iff_ne.mpr λe=>a.1 (by rw[<- e];exact List.mem_map.mpr ⟨_,z,rfl⟩);rw[ig,c];exact b a.2 z
theorem Hz:∀(ps:List b)(a:List c),((ps.zip a).map (·.1)).Sublist ps
 | [],_=>by simp
 | _::_,[]=>by simp
 | p::ps,u::a=>by rw[List.zip_cons_cons,gn];exact(Hz ps a).cons₂ p
theorem R8{ps:List Str}{i:Nat}(b:ps.Nodup)(c:ps[i]?=some x)(d:a[i]?=some u):(ps.zip a).reverse.lookup x=some u:=by
 refine ON ?_ ?_
 ·rw[List.map_reverse];refine List.pairwise_reverse.mpr<|nJ Ne.symm ?_;exact b.sublist<|Hz ps a
 ·rw[List.mem_reverse];refine List.mem_iff_getElem?.mpr ⟨i,?_⟩;rw[List.getElem?_zip_eq_some];exact⟨c,d⟩
theorem Jj{j:gE}{D:Nat}{k:List V}(S:OK N ps scope cl)(C:∀x c,cl.lookup x=some c->∃v,base.IsCell c v)(F:A.handled=none)(g:GY P w K mg base A outer s H)(R:k.length=ps.length)(r:Vals k G)
 (I:j.Ns s.heap.objs.size (λx=>(ps.zip G).reverse.lookup x))(t:∀b o,s.heap.get? b=some o->j.get? b=some o):Inv (Ji J P w K mg base N qual scope f cd cl A outer s H E) [] (start N k) H { s with heap:=j,toks:=D}:=by
  have L:ps.length<=N.length:=by have:=congrArg mG S.pre;rw[kj] at this;lia
  have l:∀b:ci,b∉(Ji J P w K mg base N qual scope f cd cl A outer s H E).ex:=λb z=>fY (show b∈([]:List ci) from z) q0o
  refine⟨⟨g.mod,S.kind,rfl,rfl,fJ _,λy z c j d=>S.inj y z c j d,λy m=>?_,λy c z _=>(by cases z),λ_=>F,rj g.frames,.inr ⟨rfl,rfl⟩,λb z=>fY z (l b),g.bs,g.GN,λb _ _=>l b,λb z=>fY z (l b),g.xz,g.H0⟩,
    rfl,g.bare,Un.kept t,⟨_,I,λi y v j d T=>?_⟩,λy c h=>?_,g.uO.fresh (fJ _),λy c h=>?_,λp n=>fY (show p∈([]:List (ci×Obj)) from n) q0o,g.uO.kept t,?_⟩
  · have m : scope.names.lookup y = some .cell \/ scope.names.lookup y = some .free := m
    rcases m with m|m
    · exact fY rfl<|S.Al _<|jc m
    · exact S.has y m
  · have q : i<k.length := by
      unfold start at d
      by_cases q:i<k.length
      · exact q
      · rw[iW<|by simpa using q] at d
        rw[qV] at d
        split at d<;>cases d
    have M:k[i]?=some v:=by
      unfold start at d
      rw[ku (by simpa using q),iK] at d
      cases e:k[i]? with
      | none=>rw[e] at d;cases d
      | some a=>rw[e] at d;cases d;rfl
    refine tX (r.get M) λu O Q=>?_
    have n:ps[i]?=some y:=by rw[<- S.pre,qH q0a];exact j
    have B:ps.Nodup:=by rw[<- S.pre];exact S.nd.sublist<|tj _ _
    exact⟨u,Q,.inl ⟨S.par y<|iP n,R8 B n O⟩⟩
  · obtain⟨v, z⟩ := C y c h
    exact⟨v,z.keeps λb o e=>t b o (g.bs b o e).1⟩
  · refine vS (C y c h) λv o z _ => ?_
    exact(g.bs c o z).2
  · unfold start
    show _=N.length
    rw[fV,fN,rE]
    lia
end
def YD(X:Cx)(c:List gy)(e:gA)(t:TE):Prop :=
 ∀(a:List (ci×Obj)) (s:fH) (b:St) (H:Hp) (Q:VK),Inv X a b H s->t b H Q->sD (fS X.prog X.w) X.A (.func c X.env) (eval e X.env) (EP X a b Q) X.xe s
def YE(X:Cx)(c:List gy)(d:gy)(t:TS):Prop :=
 ∀(a:List (ci×Obj)) (s:fH) (b:St) (H:Hp) (D:Ends),Inv X a b H s->t D b H->sD (fS X.prog X.w) X.A (.func c X.env) (exec d X.env) (SP X a D) X.xe s
def OO(X:Cx)(c:List gy)(d:List gy)(t:TS):Prop :=
 ∀(a:List (ci×Obj)) (s:fH) (b:St) (H:Hp) (D:Ends),Inv X a b H s->t D b H->sD (fS X.prog X.w) X.A (.func c X.env) (execs d X.env) (SP X a D) X.xe s
section
variable{X:Cx}{fb:List gy}{pos:Pos}
theorem OP{b:gy}(h:PS X b t):YE X fb b t:=λa s c H D I q=>wpAt_of_wpAny<|h a s c H D I q
theorem CB{b:List gy}(h:DT X b t):OO X fb b t:=λa s c H D I q=>wpAt_of_wpAny<|h a s c H D I q
theorem xu{e:gy}{a:List gy}(g:YE X fb e h)(i:OO X fb a j):OO X fb (e::a) (Ik h j):=λb s k H D I q=>by
 refine ks_wpAt_execs_cons<|qi (g b s k H _ I q) (λf l c=>?_) λ_ _ z=>z
 cases f with
 | next=>obtain⟨d,m,J,n⟩:=c;exact i b l d m D J n
 | brk=>exact c
 | cont=>exact c
 | ret u=>exact c
theorem R9(h:YD X fb e t):YE X fb (.Return (some e) pos) (UC t):=λa s b H D I q =>
 ks_wpAt_Return_some (qi (h a s b H _ I q) (λu g c=>ut c λv d J r f=>⟨v,b,d,J,r,f⟩) λ_ _ z=>z)
theorem Dv(h:YD X fb e t)(c:i4 e none pos.line X.env=pure false:=by rfl):YE X fb (.Expr e pos) (GS t):=λa s b H D I q =>
 ks_wpAt_Expr_any (qi (h a s b H _ I q) (λu i d=>ut d λv f J r g=>⟨b,f,J,g⟩) λ_ _ z=>z) I.quiet c
end
structure Jk(P:gf)(K:fB)(C f yh cc:ci)(x0:Str):Prop where
 fn:∃(oc:cr)(od:Option ci)(fd:gF) (LX:Array (Option cr)) (ar:Arg),K.lookup f=some ⟨oc,od,.func fd,LX⟩/\(fd.params.posonlyargs++fd.params.args).head?=some ar/\ar.arg=x0
 code:∃(oc:cr)(od:Option ci)(vs:Array cr) (LX:Array (Option cr)) (file:Str) (tf:Tok),K.lookup yh=some ⟨oc,od,.fields vs,LX⟩/\vs[2]?=some (.str file tf)/\((P.main.file:Str)==file)=true
 cell:∃(oc:cr)(od:Option ci) (LX:Array (Option cr)),K.lookup cc=some ⟨oc,od,.cell<|some<|.ref C,LX⟩
 cls:∃cd,lj K C=some cd
 sub:jK K C (.ref C)=some true
 opq:f9 K qh "thirdparty.any"=some none
 top:(P.main.scope.names.lookup ("super":Str)).isSome=false
def XW(C:ci)(c:Sp)(E:XK)(t:TA):TE:=λb H Q=>∃a d e,b[0]?=some (some<|.ref a)/\H a=some (.ins C d e)/\t b H λf g=>c (.ref a::f) g Q E
def OQ(K:fB)(h:ci)(c:Pos)(f:List gA)(d:Env):Prop:=∀{M:Model} {B:gJ} {Q e:cr->fH->Prop} {g:fH} {q a:ci},
 fO M B (o7<|ij c<|fG f d) (λi b=>qj K q h (.ref a) b.heap/\fO M B (call (.ref q) i) Q e b) e g->fO M B (lZ c (.ref q) [] (ij c<|fG f d) []) Q e g
def Mr(d e b c:Pos)(m:Str)(f:List gA):Prop:=∀a:Env,∃h:Sem Bool,eval (.Call (.Attribute (.Call (.Name "super" d) [] [] e) m b) f [] c) a=(do
 let g <- gH (.Call (.Name "super" d) [] [] e) m a (eval (.Call (.Name "super" d) [] [] e) a)
 lw b.atName
 let (i,first) <- jz [g] (kH g m h)
 lZ c i first (ij c (fG f a)) [])
theorem cw_nil{K:fB}(b:kR K f2=true):OQ K f2 pos [] c:=λ{M B Q d e q a} h=>by refine og (P:=qj K q f2<|.ref a) rfl (sU b) ?_;unfold evalArgs;show fO M B (o7 [] >>= _) _ d e;refine am<|hJ h (λg i f=>?_) λ_ _ x=>x;refine gC ?_;exact am<|ap<|am<|ap<|ap f
theorem cw_cons{K:fB}(f:kR K f2=true)(g:fG (e::d) b=(false,eval e b)::fG d b:=by rfl)(c:(ij pos<|fG d b).any (·.1)=false:=by rfl):OQ K f2 pos (e::d) b:=λ{M B Q i j q a} h=>by rw[g] at h ⊢;exact og (P:=qj K q f2<|.ref a) (by show ((false||(ij pos<|fG d b).any (·.1))||false)=false;rw[c];rfl) (sU f)<|iE h
section
variable{P:gf}{w:gu}{K:fB}{mg:Str->Option cr}{base:gE}{N ps:List Str}{qual:Str}{scope:jO}{f yh cc:ci}{A:gJ}{outer:List Env}{s:fH}{H:Hp}{E E0:XK}{C f2:ci}{x0 m:Str}{k:Nat}{XX:gF}{sp:Sp}{fb:List gy}{p0 p1 apos pos:Pos}{es:List gA}{ta:TA}
set_option tactic.hygienic true in
theorem FG(S:Jk P K C f yh cc x0)(ab:N[0]?=some x0)(M:scope.names.lookup ("super":Str)=some .globalImplicit)(R:scope.names.lookup ("__class__":Str)=some .free)(x:scope.names.lookup x0=some .local)(ae:mg "super"=none)
 (hm:iZ K C C m=some (some<|.ref f2)) (ht:nC K (.ref f2)=some (.type "function")) (aq:kR K f2=true) (F:uE P w K mg base (uP P w) k f2 XX ps sp) (T:Binds K XX ps [])
 (hr:vq k (A.deeper<|gU qual scope s.heap.objs.size f (.ref yh) [("__class__",cc)])) (ha:PA (Ji (uP P w) P w K mg base N qual scope f (.ref yh) [("__class__",cc)] A outer s H E) es ta)
 (af:OQ K f2 pos es (gU qual scope s.heap.objs.size f (.ref yh) [("__class__",cc)])) (y:Mr p0 p1 apos pos m es) (U:(m==("__class__":Str))=false:=by decide) :
    YD (Ji (uP P w) P w K mg base N qual scope f (.ref yh) [("__class__",cc)] A outer s H E) fb (.Call (.Attribute (.Call (.Name "super" p0) [] [] p1) m apos) es [] pos) (XW C sp E ta):=by
  intro l i σ H1 Q I h
  obtain⟨a,dx,fs,h0,ea,h⟩:=h
  have V:=I.xI
  obtain⟨oc,od,fd,au,ar,lf,hp,rfl⟩:=S.fn
  obtain⟨av,aw,ax,al,file,tf,lc,ag,B⟩:=S.code
  obtain⟨an,ao,aa,D⟩:=S.cell
  obtain⟨cd,j⟩:=S.cls
  obtain⟨mA,O,_,_,_,_⟩:=As I.uO ea
  refine tX I.loc λmL hn hl=>?_
  refine tX (hl 0 ar.arg (.ref a) ab h0<|.inl x) λu ru lk=>?_
  obtain rfl:u=fZ a:=ru
  have ah:mL ar.arg=some (.ref a):=by
    rcases lk with⟨_,q⟩|⟨q,_⟩
    · exact q
    · have q : scope.names.lookup ar.arg = some .cell \/ scope.names.lookup ar.arg = some .free := q
      rw[x] at q
      rcases q with q|q<;>cases q
  obtain⟨oD,G,J⟩:∃oD,i.heap.get? C=some oD/\oD.data=.cls cd:=by
    unfold lj at j
    split at j
    · rename_i c d ay sl ho
      cases j
      exact⟨_,V _ _ ho,rfl⟩
    · cases j
  refine tX I.mod.blt λmb ai aj=>?_
  have ne:a≠C:=λz=>by
    have:=O.obj
    rw[z,G] at this
    cases this
    cases J
  obtain⟨pl,y⟩:=y<|gU qual scope s.heap.objs.size f (.ref yh) [("__class__",cc)]
  refine ks_wpAt_MethodCall (pl:=pl) (ks_wpAt_super_base (env:=gU qual scope s.heap.objs.size f (.ref yh) [("__class__",cc)]) M R U rfl (V _ _ lf) rfl hp rfl (V _ _ lc) rfl ag B S.top ?_) y
  refine pU I.ok.kind M<|mE (env:=gU qual scope s.heap.objs.size f (.ref yh) [("__class__",cc)]) (I.mod.glob.keeps I.bk) ae (ai.keeps I.bk) ((aj _ q0s).trans rfl) ⟨rfl,?_⟩
  refine pr I.ok.kind R rfl ⟨_,V _ _ D,rfl⟩ ?_
  refine jy I.ok.kind x hn ah ?_
  refine ks_wpAny_isType_cls (h:=i.heap) (g:=i.gens) (d:=i.drawn) (t:=i.toks) (os:=i.os) G J ⟨rfl,?_⟩
  refine ks_wpAny_call_super (h:=i.heap) (g:=i.gens) (d:=i.drawn) (t:=i.toks) (os:=i.os) G J O.obj rfl (λc e=>by cases e) (oh V S.sub) λn e k'=>?_
  have L:Inv _ l σ H1 ⟨n,i.gens,i.drawn,i.toks,i.os⟩:=I.kept (t':=i.toks) k'
  unfold iZ at hm
  rw[j] at hm
  obtain⟨of,ak,X⟩:∃of,n.get? f2=some of/\of.cls=.type "function":=by
    have p:(K.lookup f2).map (·.cls)=some (.type "function"):=ht
    cases z:K.lookup f2 with
    | none=>rw[z] at p;cases p
    | some of=>rw[z] at p;exact⟨of,L.xI _ _ z,gV p⟩
  refine ks_wpAny_getMethod_super e (q7 L.xI S.opq) (l₀:=cd.mro) (λA Q E s k q=>am<|(nZ L.xI j) A _ E s k<|ap q) rfl L.xI hm ak X ne U ?_
  have I2:Inv _ l σ H1 ⟨n.push { cls:=.type "method",data:=.fields #[.ref f2,.ref a]},i.gens,i.drawn,i.toks+1,i.os⟩:=L.kept (t':=i.toks+1) λb o z=>ce _ z
  have fr:H1 n.objs.size=none:=L.uO.fresh<|fJ _
  have gq:(n.push { cls:=.type "method",data:=.fields #[.ref f2,.ref a]}).get? n.objs.size=some (jQ (.ref f2)<|.ref a):=mM rfl rfl
  have I3:=I2.pinned (fp:=[n.objs.size]) (λb T=>by rw[List.mem_singleton.mp T];exact L.ET (fJ _) fr) λb T=>by rw[List.mem_singleton.mp T];exact⟨_,gq,λv z=>by cases z⟩
  refine af (a:=a)<|uL (ha pos _ _ σ H1 _ I3 h) λY s2 z9=>ut z9 λvs H2 I4 r q2=>?_
  have g2:s2.heap.get? n.objs.size=some (jQ (.ref f2)<|.ref a):=(I4.pin (n.objs.size,jQ (.ref f2)<|.ref a)<|gg _<|gg _<|wC fM gq).1
  refine⟨⟨g2,I4.xI⟩,?_⟩
  have I5:=I4.yV
  have r2:Vals (.ref a::vs) (.ref a::Y):=.cons rfl r
  have hl:(fZ a::Y).length=ps.length:=by rw[<- r2.length];exact F.len _ _ _ _ q2
  refine k8<|ks_codeAny_call_bound g2<|iY (F.run _ _ s2 H2 ⟨.ref a::Y,[]⟩ (.ref a::Y) (.ref a::vs) Q E hr I5.GZ (by simpa using T s2 (.ref a::Y) I5.xI (by simpa using hl)) r2 q2) λr s' Z=>?_
  cases r with
  | error e=>exact OM l σ H2 s2 e s' I5 Z
  | ok fl =>
    cases fl with
    | ret u=>exact I5.after Z
    | next=>exact gB Z
    | brk=>exact gB Z
    | cont=>exact gB Z
theorem FH{O:cr}(lk:K.lookup f=some ⟨oc,od,.func<|jr name qual g a scope i dV O F pm an d ct,aa⟩)(R:iu K d qual=true)
 (S:OK N ps scope i) (hc:∀x c,i.lookup x=some c->∃o v,K.lookup c=some o/\o.data=.cell v) (G:∀j H Q E,sp j H Q E->j.length=ps.length)
 (z:∀(A:gJ)(outer:List Env)(s:fH)(H:Hp)(j:List V)(Q:VK)(E:XK),vq k (A.deeper (gU qual scope s.heap.objs.size f d i))->sp j H Q E ->
 ∃t,OO (Ji (uP P w) P w K mg base N qual scope f d i A outer s H E) a a t/\t { nx:=λ_ p=>Q .vC p,rt:=Q} (start N j) H) :
    uE P w K mg base (uP P w) (k+1) f (jr name qual g a scope i dV O F pm an d ct) ps sp:=by
  refine⟨G,λA outer s H args us j Q E T B hb r L=>?_⟩
  have hl:=G _ _ _ _ L
  have KX:K.In s.heap:=B.mod.Ao.keeps λb o e=>(B.bs b o e).1
  have U:s.heap.NoLimit:=B.mod.nolimit.keeps λb o e=>(B.bs b o e).1
  have l:∀x c,i.lookup x=some c->∃v,base.IsCell c v:=λx c h=>by
    refine vS (hc x c h) λo v q1 q2=>?_
    exact⟨v,o,B.mod.Ao _ _ q1,q2⟩
  refine ks_codeAny_call_defAt (fd:=jr name qual g a scope i dV O F pm an d ct) (body:=a) (binds:=ps.zip us) T.depth (KX _ _ lk) rfl U (rF KX R) rfl hb S.Al (λy hy=>S.par y.1 (nI hy).1) (λh1 X Y=>?_) S.co S.gen S.kind
  refine tX (z A outer s H j Q E (T.deeper _) L) λt ht hq=>?_
  have I:Inv (Ji (uP P w) P w K mg base N qual scope f d i A outer s H E) [] (start N j) H { s with heap:=h1,toks:=s.toks+(ps.zip us).length}:=Jj S l T.hd B hl r X Y
  refine qi (ht [] _ (start N j) H _ I hq) (λfl Z D=>?_) λe Z D=>D
  have M:∀{n:St} {p:Hp} {v:V} {u:cr},Inv (Ji (uP P w) P w K mg base N qual scope f d i A outer s H E) [] n p Z->RelV v u->Q v p->CE outer P w H s Q u Z :=
    λ{n p v u} J rv q=>⟨v,p,J.os,J.bare,J.base,J.uO,rv,q⟩
  cases fl with
  | ret u =>
    obtain⟨v,n,p,J,rv,q⟩:=D
    exact M J rv q
  | next =>
    refine vS D λn p J q=>?_
    exact M (v:=V.vC) (u:=Value.none) J rfl q
  | brk =>
    refine vS D λ_ _ _ q=>?_
    exact gB q
  | cont =>
    refine vS D λ_ _ _ q=>?_
    exact gB q
end
end L2
namespace WL
variable[L2.GX]
open PySem L2
open Rep (rp)
open Ow (sl)
open Sls (rel)
structure xE(N P:List Str)(sc:jO):Prop where
 kind:sc.kind=.function
 co:sc.isCoroutine=false
 gen:sc.isGenerator=false
 nd:N.Nodup
 pre:N.take P.length=P
 par:∀x∈P,sc.names.lookup x=some .local
 Al:∀y∈sc.names,y.2≠.cell
 fr:∀y∈sc.names,y.2=.free->y.1="__class__"
 ks:sc.names.lookup ("super":Str)=some .globalImplicit
 kc:sc.names.lookup ("__class__":Str)=some .free
theorem xE.x{N P:List Str}{sc:jO}(S:xE N P sc)(cc:ci):OK N P sc [("__class__",cc)] :=
 ⟨S.kind,S.co,S.gen,S.nd,S.pre,S.par,S.Al,λx h=>⟨cc,by have e:x="__class__":=S.fr _ (jc h) rfl;rw[e];rfl⟩,λx y c h1 h2=>by
  have q:∀{z:Str},([(("__class__":Str),cc)]:List (Str×ci)).lookup z=some c->z="__class__":=λ{z} h=>by
   by_cases e:(z==("__class__":Str))=true
   ·exact eq_of_beq e
   ·rw[ig,Bool.eq_false_iff.mpr e] at h;cases h
  rw[q h1,q h2]⟩
structure Dw(P:gf)(K:fB)(C:ci)(x qual:Str)(st:gy)(f:ci)(fd:gF):Prop where
 ex:∃(oc:cr)(od:Option ci)(kV doc pm:cr)(an:Option ci)(yh cc:ci)(ct:cr) (LX:Array (Option cr)),
  fd=jr x qual (uX st) (uC st) (tY st) [("__class__",cc)] .none kV doc pm an (.ref yh) ct/\K.lookup f=some ⟨oc,od,.func fd,LX⟩/\iu K (.ref yh) qual=true/\Jk P K C f yh cc "self"
 kp:h8 K (.ref f)=true
structure Sm(K:fB)(C:ci)(m:Str)(f2:ci):Prop where
 find:iZ K C C m=some (some<|.ref f2)
 ty:nC K (.ref f2)=some (.type "function")
 fn:kR K f2=true
structure Fs(P:gf)(w:gu)(K:fB)(mg:Str->Option cr)(base:gE)(C:ci)(m:Str)(ps:List Str)(sp:Sp)(k:Nat):Prop where
 ex:∃f2 XX,Sm K C m f2/\uE P w K mg base (uP P w) k f2 XX ps sp/\Binds K XX ps []/\mg "super"=none
section
variable{P:gf}{w:gu}{K:fB}{mg:Str->Option cr}{base:gE}{T C:ci}
theorem Sc{B b i:Type}[Sls B][Sls b][Ow i]{k:Bool}{l:Wf (Bd C k×B) i b}{c:List V}(h:xG T l c H Q E):∃a d m r,c=.ref a::r/\H a=some (.ins C d m):=by
 obtain⟨F,R,p,o,q,s,_⟩:=h;obtain⟨v,n,t,u,e,_,⟨a,d,x,y,z,A,D,j,_,g⟩,_⟩:=s.rel;subst j
 cases c with
 | nil=>cases e
 | cons v r=>injection e with f j;injection f with f;subst f;exact⟨a,d,_,r,rfl,g.ob⟩
theorem zi{o:gy}{d:List Str}{k:Nat}{B t X:Type}[Sls B][Sls t][Ow X]{fl:Bool}{u:Wf (Bd C fl×B) X t}{p:List gA} 
 (F:Dw P K C x l o f fd) (S:xE d d (tY o)) (v:uC o=[.Return (some<|.Call (.Attribute (.Call (.Name "super" p0) [] [] p1) m apos) p [] pos) p2]) (Y:d[0]?=some ("self":Str)) (z:Mr p0 p1 apos pos m p) (G:Fs P w K mg base C m d (xG T u) k)
 (ha:∀(g n:ci)(A:gJ)(b:List Env)(s:fH)(H:Hp)(E:XK),PA (Ji (uP P w) P w K mg base d l (tY o) f (.ref g) [("__class__",n)] A b s H E) p ta)
 (I:∀(a:ci)(r:List V)(H:Hp)(Q:List V->Hp->Prop),r.length+1=d.length->Q r H->ta ((V.ref a::r).map some) H Q) (J:∀(q:ci)(L:Env),kR K q=true->OQ K q pos p L) (N:(m==("__class__":Str))=false:=by decide) :
    uE P w K mg base (uP P w) (k+1) f fd d (xG T u):=by
  obtain⟨oc,od,kV,aa,pm,an,g,n,ct,ab,rfl,lk,O,D⟩:=F.ex
  refine vt G.ex λq ae M G hb R=>?_
  obtain⟨o1,o2,o3,i⟩:=D.cell
  refine FH lk O (S.x n) (λy c h=>?_) G.len λA b s H vs Q E hr j=>?_
  · have e : c = n := by
      by_cases e:(y==("__class__":Str))=true
      · rw[ig, e] at h; cases h; rfl
      · rw[ig, Bool.eq_false_iff.mpr e] at h; cases h
    subst e
    exact⟨_,_,i,rfl⟩
  · have Z := G.len _ _ _ _ j
    obtain⟨a,dx,fs,r,rfl,ea⟩:=Sc j
    have U:start d (V.ref a::r)=(V.ref a::r).map some:=by unfold L2.start;rw[Z,pG];simp
    refine⟨Ik (UC<|XW C (xG T u) E ta) TK,?_,?_⟩
    · rw[v]
      exact xu (R9<|FG D Y S.ks S.kc (S.par _<|iP Y) R M.find M.ty M.fn G hb hr (ha g n A b s H E) (J q _ M.fn) z N)<|CB yp
    · rw[U]
      exact⟨a,dx,fs,rfl,ea,I a r H _ Z j⟩
class Fu(D:Type)[Sls D]:Prop where
 fu:∀{F R:Rg} {H:Hp} {d:D} {σ:St},rel F R H d σ->∃vs:List V,σ=vs.map some
instance:Fu Unit:=⟨λh=>⟨[],h.1⟩⟩
instance{τ D:Type}[Ow τ][Sls D][Hs τ][Fu D]:Fu (τ×D):=⟨λh=>by
 obtain⟨v,σ',F1,F2,rfl,_,h3,h4⟩:=h;obtain⟨u,rfl⟩:=Hs.has h3;obtain⟨vs,rfl⟩:=Fu.fu h4
 exact⟨u::vs,rfl⟩⟩
def YF(X:Cx)(e:List gy)(E:XK)(T:ci)(f:List Nat)(n:Nat)(a:List gy){D c b d:Type}[Sls D][Sls c][Sls b][Ow d](w:D->(c->Prop)->(d->b->Prop)->(ci->b->Prop)->Prop):Prop:=∃t,OO X e a t/\T6 E T f n t w
theorem Uk{g:List gy}{c:List Nat}{n:Nat}{D h e b f:Type}[Sls D][Sls h][Sls e][Sls b][Ow f]{i:gy}{a:List gy}{j:D->(e->Prop)->(f->b->Prop)->(ci->b->Prop)->Prop}{k:e->(h->Prop)->(f->b->Prop)->(ci->b->Prop)->Prop}(o:S1 X E T c n i j)(p:YF X g E T c n a k)(q:QI b c n:=by exact uG q0q) :
  YF X g E T c n (i::a) (λd r l m=>j d (λs=>k s r l m) l m) :=
 tX o λy t u=> tX p λz v x=> ⟨_,xu (OP t) v,T7 q u x⟩
theorem Sd{o:gy}{A:gJ}{b:List Env}{s:fH}{fb:List gy}{ms:List Nat}{n k:Nat}{l:List Str}{B t:Type}[Sls B][Sls t]{fl:Bool}{wf:Wf (Bd C fl×B) Unit t}{u:List gA}{p2:Pos}[Fu B][L:Ln B n]
 (D:Jk P K C f j z "self") (S:xE l l (tY o)) (h0:l[0]?=some ("self":Str)) (J:Mr p0 p1 apos pos m u) (G:Fs P w K mg base C m l (xG T wf) k) (hr:vq k (A.deeper<|gU i (tY o) s.heap.objs.size f (.ref j) [("__class__",z)]))
 (ha:PA (Ji (uP P w) P w K mg base l i (tY o) f (.ref j) [("__class__",z)] A b s H E) u ta)
 (N:∀(a:ci)(r:List V)(H:Hp)(Q:List V->Hp->Prop),r.length=n->Q r H->ta ((V.ref a::r).map some) H Q) (O:∀(I:ci)(U:Env),kR K I=true->OQ K I pos u U) (X:(m==("__class__":Str))=false:=by decide) (Y:i4 (.Call (.Attribute (.Call (.Name "super" p0) [] [] p1) m apos) u [] pos) none p2.line (gU i (tY o) s.heap.objs.size f (.ref j) [("__class__",z)])=pure false:=by rfl) :
    YF (Ji (uP P w) P w K mg base l i (tY o) f (.ref j) [("__class__",z)] A b s H E) fb E T ms (n+1) [.Expr (.Call (.Attribute (.Call (.Name "super" p0) [] [] p1) m apos) u [] pos) p2] (λ(d:Bd C fl×B)(Z:t->Prop)(_:Unit->t->Prop) Ke=>wf d (λ_ p=>Z p) Ke):=by
  refine vt G.ex λI ab M G hb aa=>?_
  refine⟨_,xu (Dv (FG D h0 S.ks S.kc (S.par _<|iP h0) aa M.find M.ty M.fn G hb hr ha (O I _ M.fn) J X) Y)<|CB yp,λd F R σ H1 Z Kr Ke En s1 hw kn kr ke=>?_⟩
  refine xH (id s1.rel) λv ae F1 F2 e t2 h3 h4=>?_
  obtain⟨a,dx,d1,d2,d3,d4,us,rfl,_,g⟩:=id h3
  obtain⟨r,rfl⟩:=Fu.fu h4
  have hl:=L.ln h4
  rw[fN] at hl
  subst e
  refine⟨a,dx,_,rfl,g.ob,N a r H1 _ hl ⟨F,R,d,λ_ p=>Z p,Ke,s1,hw,λx p' v M1 M2 R' H' q c s' n'=>?_,λC y p' F' R' H' q c s'=>?_⟩⟩
  · exact kn p' M2 R' H' _ q (c.less λa h => .inr h) s'<|Ag.refl _ _
  · exact ke C y p' F' R' H' q c (by rw[iq<|by simp[hl]]; exact s')
theorem XY{J:gy}{M:List Str}{k n:Nat}{ms:List Nat}{A PO:Type}[Sls A][Sls PO][L:Ln A n](dp:QI PO ms n){w0:A->(PO->Prop)->(Unit->PO->Prop)->(ci->PO->Prop)->Prop}
 (F:Dw P K C x j J f fd) (S:xE M M (tY J)) (hn:M.length=n)
 (r:∀(i u:ci)(A:gJ)(b:List Env)(s:fH)(H:Hp)(E:XK),Jk P K C f i u "self"->vq k (A.deeper<|gU j (tY J) s.heap.objs.size f (.ref i) [("__class__",u)])->YF (Ji (uP P w) P w K mg base M j (tY J) f (.ref i) [("__class__",u)] A b s H E) (uC J) E T ms n (uC J) w0) :
    uE P w K mg base (uP P w) (k+1) f fd M (xG T λ(p:A)(X:Unit->PO->Prop) N=>w0 p (λY=>X () Y) X N):=by
  have l:∀{o:List V} {H:Hp} {Q:VK} {E:XK},xG T (λ(p:A)(X:Unit->PO->Prop) N=>w0 p (λY=>X () Y) X N) o H Q E->o.length=n:=λh=>by
    obtain⟨F,R,p,Kn,N,s,_⟩:=h
    have:=L.ln s.rel
    rwa [fN] at this
  obtain⟨oc,od,kV,ae,pm,an,i,u,ct,af,rfl,lk,aa,D⟩:=F.ex
  obtain⟨o1,o2,o3,B⟩:=D.cell
  refine FH lk aa (S.x u) (λy c h=>?_) (λo H Q E h=>(l h).trans hn.symm) λAr b s H o Q E hr Z=>?_
  · have e : c = u := by
      by_cases e:(y==("__class__":Str))=true
      · rw[ig, e] at h; cases h; rfl
      · rw[ig, Bool.eq_false_iff.mpr e] at h; cases h
    subst e
    exact⟨_,_,B,rfl⟩
  refine tX (r i u Ar b s H E D hr) λt h1 h2=>?_
  refine⟨t,h1,?_⟩
  have hl:=l Z
  obtain⟨F,R,p,Kn,N,s0,hw,kn,ke⟩:=Z
  have ab:start M o=o.map some:=by unfold L2.start;rw[hl,hn,pG];simp
  rw[ab]
  have G:(o.map some).take n=o.map some:=iq (by rw[fN,hl];exact fJ _)
  refine h2 p F R _ H _ Kn N _ s0 hw (λY F' O U I q c d g=>?_) (λx p' v F1 F2 O U q c d m=>?_) λC y p' F' O U q c d=>?_
  · have e' : I.take n = I := iq (by rw[g.1, fN, hl]; exact fJ _)
    have g3:=dp.dp g (show rel F' O U Y (I.take n) by rw[e'];exact d.rel)
    rw[G] at g3
    exact kn () _ .vC (λ_=>False) F' O U q (c.less λa h=>h.elim (λz=>z.elim) id) ⟨g3,d.sub,d.wn,d.tab,d.uQ,d.uF⟩ ⟨⟨λ_ z=>z,.vC,rfl,rfl⟩,λ_ z=>z.elim,λ_ z=>z.elim,λz=>z⟩
  · rw[G] at d
    exact kn x p' v F1 F2 O U q c d m
  · rw[G] at d
    exact ke C y p' F' O U q c d
end
def CC(C:ci):Sp:=λi H Q E=>∃p h,i=[.ref p]/\H p=some (.ins C h []) /\
 ∀c d e f g,(∀a,a=c\/a=d\/a=e\/a=f->H a=none)->[c,d,e,f].Nodup->g p=some (.ins C h<|xD c d e f 0 true)->(∀a,a=c\/a=d\/a=e\/a=f->g a=some (.dK []))->(∀b o,b≠p->H b=some o->g b=some o)->Q .vC g
section
variable{P:gf}{w:gu}{K:fB}{mg:Str->Option cr}{base:gE}
theorem OR{J:gy}{k:Nat}{p3 p4:Pos}{i:List gy}(F:Dw P K C "__init__" q J f fd)(S:xE ["self"] ["self"] (tY J))(ct:BB K C)(cf:MY K C)(T:Mr p0 p1 apos pos "__init__" [])
 (U:uC J=.Expr (.Call (.Attribute (.Call (.Name "super" p0) [] [] p1) "__init__" apos) [] [] pos) p2::i) (G:Fs P w K mg base C "__init__" ["self"] (FE C) k)
 (V:∀X,i4 (.Call (.Attribute (.Call (.Name "super" p0) [] [] p1) "__init__" apos) [] [] pos) none p2.line X=pure false)
 (Y:∀(j r:ci)(A:gJ)(d:List Env)(s:fH)(H:Hp)(E:XK),DT (Ji (uP P w) P w K mg base ["self"] q (tY J) f (.ref j) [("__class__",r)] A d s H E) i<|Ik (LM K (uH 0) CU "head_by_tail")<|LM K (uH 0) CU "tail_by_head") :
    uE P w K mg base (uP P w) (k+1) f fd ["self"] (CC C):=by
  obtain⟨oc,od,kV,af,pm,an,j,r,ag,ah,rfl,lk,Z,D⟩:=F.ex
  refine vt G.ex λf2 ai M G hB aa=>?_
  obtain⟨o1,o2,o3,l⟩:=D.cell
  refine FH lk Z (S.x r) (λy c h=>?_) (λvs H Q E z9=>vS z9 λp t e _=>by rw[e];rfl) λAr d s H vs Q E hr ab=>?_
  · have e : c = r := by
      by_cases e:(y==("__class__":Str))=true
      · rw[ig, e] at h; cases h; rfl
      · rw[ig, Bool.eq_false_iff.mpr e] at h; cases h
    subst e
    exact⟨_,_,l,rfl⟩
  refine⟨_,by rw[U];exact xu (Dv (FG D rfl S.ks S.kc (S.par _ fM) aa M.find M.ty M.fn G hB hr uu (cw_nil M.fn) T)<|V _)<|CB<|Y j r Ar d s H E,?_⟩
  obtain⟨p,t,rfl,m,k⟩:=ab
  refine⟨p,t,[],rfl,m,p,t,rfl,m,λL N H1 h1 h2 ae g1 g2 g3 g4=>?_⟩
  intro u v
  have O:p≠u:=uf g1 v
  have q2:L≠u:=uf g2 v
  have q3:N≠u:=uf g3 v
  refine⟨_,rfl,p,C,t,_,rfl,(by rw[ss O];exact g1),ct.cl,cf.nH,(by show 3<1000;decide),?_⟩
  intro B g
  have R:p≠B:=λz=>by rw[<- z,tZ] at g;cases g
  rw[ss R.symm] at g
  have r2:B≠u:=λz=>by rw[z,tZ] at g;cases g
  rw[ss r2] at g
  have r3:L≠B:=uf g2 g
  have r4:N≠B:=uf g3 g
  refine⟨_,rfl,p,C,t,_,rfl,(by rw[ss R,tZ]),ct.cl,cf.nT,(by show 4<1000;decide),?_⟩
  have I:∀{b:ci} {o:HO},H b=some o->b≠p->H1 b=some o:=λh n=>g4 _ _ n h
  have z:∀{a:ci},a≠p->H1 a=none->H a=none:=λ{a} n h=>by
    cases e:H a with
    | none=>rfl
    | some o=>rw[I e n] at h;cases h
  refine k L N u B _ (λa ha=>?_) ?_ ?_ (λa ha=>?_) λb o nb Y=>?_
  · rcases ha with e|e|e|e <;> rw[e]
    · exact h1
    · exact h2
    · exact z O.symm v
    · exact z R.symm g
  · simp only[List.nodup_cons, gp, ie, kF, oX, mj, and_true, not_false_eq_true]
    exact⟨⟨ae,q2,r3⟩,⟨q3,r4⟩,r2.symm⟩
  · rw[tZ]; rfl
  · have pd : p ≠ L := λe => by rw[e, h1] at m; cases m
    have pe:p≠N:=λe=>by rw[e,h2] at m;cases m
    rcases ha with e|e|e|e<;>rw[e]
    · rw[ss pd.symm, ss r3, ss pd.symm, ss q2]; exact g2
    · rw[ss pe.symm, ss r4, ss pe.symm, ss q3]; exact g3
    · rw[ss O.symm, ss r2.symm, ss O.symm, tZ]
    · rw[ss R.symm, tZ]
  · have e := I Y nb
    rw[ss nb,ss<|uf e g,ss nb,ss<|uf e v]
    exact e
end
section
variable{X:Cx}{E:XK}{T:ci}{D:Type}[Sls D]{pos:Pos}{C:ci}
theorem OS{k:Nat}(M:Mk X.K C f)(F:uE X.prog X.w X.K X.mg X.base (uP X.prog X.w) k f Z ["self"] (CC C))(hr:vq (k+1) X.A)(hg:Gl X x)(hm:X.mg x=some (.ref C))(hb:Binds X.K Z ["self"] [])(hx:Passes (uP X.prog X.w) X E)(J:(x==("__debug__":Str))=false:=by decide) :
  EO X E T (.Call (.Name x p) [] [] pos) (λ(d:D)(O:Bd C true->D->Prop) _=>O ⟨[],[],0,[],[]⟩ d):=by
 refine⟨_,Nl M F hr hg hm hb .nil hx J,λd F' R σ H O Ke Q s hw kn _=>?_⟩;intro y c L n m;refine⟨y,c,rfl,tZ,λg i j l r hn nd P v S=>⟨rfl,?_⟩⟩
 have N:∀a,a=g\/a=i\/a=j\/a=l->a≠y/\a≠c/\H a=none:=λa ha=>by
  have h:=hn a ha;have U:a≠y:=λz=>by rw[z,tZ] at h;cases h
  rw[ss U] at h;have V:a≠c:=λz=>by rw[z,tZ] at h;cases h
  rw[ss V] at h;exact⟨U,V,h⟩
 have B:∀a,a∈adr y c g i j l true->a=y\/a=c\/a=g\/a=i\/a=j\/a=l:=λa h=>by simpa[adr] using h
 have G:∀a,a∈adr y c g i j l true->H a=none:=λa h=>(B a h).elim (λz=>by rw[z];exact L) λh=>h.elim (λz=>by rw[z];exact n) λh=>(N a h).2.2;have I:∀b o,H b=some o->r b=some o:=λb o q=>S b o (uf q L) (by rw[ss<|uf q L,ss<|uf q n];exact q);have W:r c=some (.own y):=S c _ m (by rw[ss m,tZ]);have hl:∀a,a∈adr y c g i j l true->r a≠none:=λa h=>(B a h).elim (λz=>by rw[z,P];simp) λh=>h.elim (λz=>by rw[z,W];simp) λh=>by rw[v a h];simp
 have Y:Ext (λ_=>False) R H (λa=>R a\/a∈adr y c g i j l true) r:=⟨λb o _ h=>I b o h,λa h=>h.elim .inl λq=>.inr<|G a q⟩
 refine kn _ d (.ref y) (λa=>a∈adr y c g i j l true) F' (λa=>R a\/a∈adr y c g i j l true) r hw ⟨λb o _ _ h=>I b o h,Y.new,λa h=>h.elim (λq=>.inr<|G a q) .inl,λa h _=>.inl h⟩
  ⟨Sls.st s.rel Y (λ_ z=>z.elim)<|λ_ _ z=>z,λa h=>.inl<|s.sub a h,λa h=>h.elim (λz=>?_)<|hl a,?_,.inl s.uQ,s.uF⟩ ⟨⟨y,c,g,i,j,l,[],rfl,λ_=>Iff.rfl,⟨?_,P,W,v _<|.inl rfl,v _<|.inr<|.inl rfl,.nil,λ_=>v _<|.inr<|.inr<|.inl rfl,λ_=>v _<|.inr<|.inr<|.inr rfl⟩⟩,λa h=>.inr h,λa h z=>s.wn a (s.sub a z)<|G a h,λh=>ya s.tab<|G T h⟩
 ·cases e:H a with
  | none=>exact fY e<|s.wn a z
  | some u=>rw[I a u e];simp
 ·refine tX s.tab λps e t=>?_;exact⟨ps,I _ _ e,t⟩
 ·show [y,c,g,i,j,l].Nodup;refine List.nodup_cons.mpr ⟨λh=>?_,List.nodup_cons.mpr ⟨λh=>?_,nd⟩⟩
  ·rcases List.mem_cons.mp h with z|z
   ·exact m z.symm
   ·exact(N y<|by simpa using z).1 rfl
  ·exact(N c<|by simpa using h).2.1 rfl
end
structure Dc(α:Type) where
 l:List (Int×α)
def PK{α:Type}[Rep α](R:Rg)(H:Hp):List (Int×α)->List (Key×V)->Prop:=Paired λe u=>u.1=gm e.1/\rp R H e.2 u.2
section
variable{α:Type}[Rep α]{R R' L:Rg}{H H':Hp}
theorem OT(e:Ext R R H R' H'):∀{l:List (Int×α)} {a:List (Key×V)},PK R H l a->PK R' H' l a:=by
 intro _ _ z
 induction z with
 | nil=>exact .nil
 | cons h t b=>exact .cons ⟨h.1,Rep.st h.2 e⟩ b
theorem Jl{k:Int}:∀{l:List (Int×α)} {us:List (Key×V)},PK R H l us->(∀b,lk l k=some b->∃v,xn us (gm k)=some v/\rp R H b v)/\(lk l k=none->xn us (gm k)=none):=by
 intro z0 z1 z9
 induction z9 with
 | nil=>exact⟨(λb h=>by cases h),λ_=>rfl⟩
 | @cons e u l us h t VG =>
  have i:=VG;by_cases q:e.1=k
  ·have e1:lk (e::l) k=some e.2:=by unfold lk;rw[gQ,decide_eq_true q];rfl
   rw[e1];refine⟨λb hb=>?_,(λz=>by cases z)⟩;cases hb;exact⟨u.2,xW (by rw[h.1,q]),h.2⟩
  ·have e1:lk (e::l) k=lk l k:=by unfold lk;rw[gQ,gz q]
   rw[e1,xX<|by rw[h.1];intro z;exact q<|mf z];exact i
theorem KZ{k:Int}{l:List (Int×α)}{us:List (Key×V)}(h:PK R H l us):(xn us<|gm k).isSome=(lk l k).isSome:=by
 have i:=Jl (k:=k) h
 cases e:lk l k with
 | none=>rw[i.2 e];rfl
 | some b=>obtain⟨v,hv,_⟩:=i.1 b e;rw[hv];rfl
theorem Jm:∀{l:List (Int×α)} {a:List (Key×V)},PK R H l a->a.length=l.length
 | _,_,.nil=>rfl
 | _,_,.cons _ t=>by rw[gk,gk,Jm t]
theorem OU{k:Int}{x:α}{v:V}(r:rp R H x v):∀{l:List (Int×α)} {us:List (Key×V)},PK R H l us->PK R H (l++[(k,x)]) (us++[(gm k,v)])
 | _,_,.nil=>.cons ⟨rfl,r⟩ .nil
 | _,_,.cons h t=>.cons h<|OU r t
theorem VJ{k:Int}{x:α}{v:V}(r:rp R H x v):∀{l:List (Int×α)} {us:List (Key×V)},PK R H l us->PK R H (l.map λe=>if e.1=k then (e.1,x) else e) (us.map λkv=>if kv.1=gm k then (kv.1,v) else kv):=by
 intro z0 z1 z9
 induction z9 with
 | nil=>exact .nil
 | @cons e u l us h t VG =>
  refine .cons ?_<|VG;dsimp only;by_cases q:e.1=k
  ·rw[fE q,fE<|by rw[h.1,q]];exact⟨h.1,r⟩
  ·rw[fF q,fF<|by rw[h.1];intro z;exact q<|mf z];exact h
theorem OV{k:Int}(r:rp R H x v){l:List (Int×α)}{us:List (Key×V)}(h:PK R H l us):PK R H (pk l k x) (putK us (gm k) v):=by
 unfold putK pk;rw[y9,KZ h]
 cases (lk l k).isSome with
 | true=>rw[fE rfl,fE rfl];exact VJ r h
 | false=>rw[fF fT,fF fT];exact OU r h
end
instance{α:Type}[Rep α]:Ow (Dc α):=⟨λF R H x v=>∃a us,v=some (.ref a)/\(∀b,F b↔b=a)/\H a=some (.dK us)/\PK R H x.l us,
 λh e s n=>by
  refine vt h λa us h1 h2 h3 h4=>?_
  exact⟨a,us,h1,h2,e.keep a _ (n a<|(h2 a).mpr rfl) h3,OT (e.wide s) h4⟩,
 λh e=>by
  refine vt h λa us h1 h2 h3 h4=>?_
  exact⟨a,us,h1,λb=>(e b).symm.trans (h2 b),h3,h4⟩⟩
instance{α:Type}[Rep α]:Hs (Dc α):=⟨λz9=>vS z9 λ_ _ h _=>⟨_,h⟩⟩
section
variable{X:Cx}{E:XK}{T:ci}{ms:List Nat}{n:Nat}{D PO τ:Type}[Sls D][Sls PO][Ow τ]{pos:Pos}{α:Type}[Rep α]{x:Str}{p1 p2:Pos}
theorem CD{i:Nat}[Sls c][A:At i D (Dc α) c](s:ve T F R H d e):∃a b,e[i]?=some (some<|.ref a)/\H a=some (.dK b)/\PK R H (A.get d).l b:=by obtain⟨v,j,k,f,m,⟨a,b,rfl,o,g,h⟩,p⟩:=A.take s.rel;exact⟨a,b,f,g,h⟩
theorem OX{i:Nat}[Sls w][A:At i D (Dc α) w][U:Pt i w (Dc α) D](s:ve T F R H d y):∃a g,y[i]?=some (some<|.ref a)/\H a=some (.dK g)/\PK R H (A.get d).l g /\
  ∀(j:List (Int×α)) (f:List (Key×V)),PK R H j f->Ch T F R H F R (upd H a<|.dK f)/\ve T F R (upd H a<|.dK f) (U.put (A.hole d) ⟨j⟩) y:=by
 obtain⟨v,O,P,B,m,⟨a,g,rfl,p,I,J⟩,K⟩:=A.take s.rel;have r:F a:=(m.all a).mpr<|.inl<|(p a).mpr rfl;have L:a≠T:=λz=>s.uF (by rw[<- z];exact r);refine⟨a,g,B,I,J,λj f M=>?_⟩;have C:=yA (F:=F) (R:=R) (H:=H) (a:=a) (o:=.dK f);have G:∀c,c=a->R c:=λc z=>by rw[z];exact s.sub a r
 have k:∀b u,b≠a->H b=some u->upd H a (.dK f) b=some u:=λb u z e=>by rw[ss z];exact e
 refine⟨⟨λb o n _ e=>k b o (λz=>n<|by rw[z];exact r) e,λ_ h=>.inl h,λ_ h=>.inl h,λ_ h _=>h⟩,Pt.same (A:=U) (Sls.st K C G λc z q=>m.xi c ((p c).mpr q) z) B m ⟨a,f,rfl,p,tZ,OT (C.wide G) M⟩,s.sub,λc z=>?_,?_,s.uQ,s.uF⟩
 ·by_cases e:c=a
  ·rw[e,tZ];simp
  ·rw[ss e];exact s.wn c z
 ·refine tX s.tab λN e t=>?_;exact⟨N,k _ _ (λz=>L z.symm) e,t⟩
theorem Dx{a:gA}(i:Nat){D0:Type}[Sls D0][A:At i D (Dc α) D0]{wk:Wf D Int D}(hu:X.A.units+1<ju)(hn:PE X (.Name x p1) (uH i))(hk:EW X E T a wk)(hs:Ny a:=by intro _ _;rfl) :
  EW X E T (.Subscript (.Name x p1) a pos) (λ(d:D)(Kn:α->D->Prop) Ke=>wk d (λk d1=>∃v,lk (A.get d1).l k=some v/\Kn v d1) Ke):=by
 refine tX hk λta a1 a2=>?_;refine⟨_,E4 hu hn a1 hs,λd F R σ H Kn Ke Q s hw kn ke=>?_⟩;obtain⟨y0,YO,h1,_,_⟩:=CD (i:=i) s;refine⟨_,h1,a2 d F R σ H _ Ke _ s hw (λk d1 u F1 R1 H1 q1 c1 s1 r1=>?_) ke⟩;have r1:u=V.int k:=r1;subst r1;obtain⟨y,us,g1,g2,g3⟩:=CD (i:=i) s1;rw[h1] at g1;cases g1;refine tX q1 λz z1 z2=>?_;refine tX ((Jl g3).1 z z1) λv v1 v2=>?_;have g:=xf.k (k:=gm k) g2;rw[v1] at g;exact⟨_,v,rfl,g,kn z d1 v F1 R1 H1 z2 c1 s1 v2⟩
theorem OY(i:Nat){B:Type}[Sls B][A:At i D (Dc α) B][U:Pt i B (Dc α) D][J:Pj D PO n]{M:Wf D Int D}{N:Wf D α D}(hu:X.A.units+1<ju)(hn:PE X (.Name x p1) (uH i))(hk:EW X E T a M)(he:EW X E T e N)
 (hs:i4 e (some<|.Subscript (.Name x p1) a p3) pos.line X.env=pure false:=by rfl) :
    S1 X E T ms n (.Assign [.Subscript (.Name x p1) a p3] e pos) (λ(d:D)(O:D->Prop)(Kr:τ->PO->Prop) j=>N d (λv I=>M I (λk r=>(A.get r).l.length<fK/\O (U.put (A.hole r) ⟨pk (A.get r).l k v⟩)) λC f=>j C<|J.pj f) λC f=>j C<|J.pj f):=by
  refine tX hk λta a1 a2=>?_
  refine tX he λte b1 b2=>?_
  have P:∀{F R g h:Rg} {H b:Hp} {C y:ci} {f:D} {m:St} {j:ci->PO->Prop},(∀C y Q g h b,j C Q->Ch T F R H g h b->ve T g h b Q (m.take n)->E (.ref C) (some y) b)->j C (J.pj f)->Ch T F R H g h b->ve T g h b f m->E (.ref C) (some y) b:=λt q c p=>by
    refine tX (vG (PO:=PO) p) λG z K=>?_
    exact t _ _ _ G _ _ q (c.less z) K
  refine⟨_,E5 hu hn a1 b1 hs,λd F R m H O Kr j En s hw kn kr t=>b2 d F R m H _ _ _ s hw (λv I u F1 R1 H1 q1 S o r1=>?_) λC y f g h b q c p=>P t q c p⟩
  obtain⟨y0,aa,W,_,_⟩:=CD (i:=i) o
  refine⟨_,W,a2 I F1 R1 m H1 _ _ _ o q1 (λk r w F2 R2 H2 Y Z s2 L=>?_) λC y f g h b q c p=>P t q (Ch.trans s o.tab S c) p⟩
  have L:w=V.int k:=L
  subst L
  refine vt (OX (i:=i) s2) λy us z K g3 g4=>?_
  rw[W] at z
  cases z
  obtain⟨c3,s3⟩:=g4 _ _<|OV (k:=k) (o.val Z r1) g3
  exact⟨_,_,rfl,EZ.k (k:=gm k) K (by rw[Jm g3];exact Y.1),kn _ F2 R2 _ m Y.2 (Ch.trans s o.tab S<|Ch.trans o s2.tab Z c3) s3<|Ag.refl _ _⟩
end
section
variable{X:Cx}{E:XK}{T:ci}{ms:List Nat}{n:Nat}{D PO τ:Type}[Sls D][Sls PO][Ow τ]{pos:Pos}{α β:Type}[Rep α][Rep β]
variable{x y:Str}{p1 p2 q1 q2 q3 q4 q5 q6:Pos}
theorem Ey{i:Nat}[Sls c][A:At i D (List Int) c](s:ve T F R H d e):∃a,e[i]?=some (some<|.ref a)/\H a=some (.lst<|(A.get d).map V.int):=by obtain⟨v,h,j,f,_,⟨_,u,rfl,a,k,rfl,_,b,g⟩,_⟩:=A.take s.rel;rw[paired_ints g] at b;exact⟨a,f,b⟩
theorem Sg(i j:Nat)[Sls D1][Sls D2][A:At i D (List Int) D1][B:At j D (List Int) D2](t:X.calm=true)(u:Gl X "sorted")(v:X.mg "sorted"=none)(J:Gl X "set")(K:X.mg "set"=none)(hn:PE X (.Name x p1) (uH i))(C:PE X (.Name y p2) (uH j))
 (c:fG [.Name x p1] X.env=(false,eval (.Name x p1) X.env)::fG [] X.env:=by rfl) (e:fG [.Name y p2] X.env=(false,eval (.Name y p2) X.env)::fG [] X.env:=by rfl)
 (f:fG [.BinOp (.Call (.Name "set" q2) [.Name x p1] [] q3) .BitXor (.Call (.Name "set" q4) [.Name y p2] [] q5) q6] X.env=(false,eval (.BinOp (.Call (.Name "set" q2) [.Name x p1] [] q3) .BitXor (.Call (.Name "set" q4) [.Name y p2] [] q5) q6) X.env)::fG [] X.env:=by rfl) :
    EO X E T (.Call (.Name "sorted" q1) [.BinOp (.Call (.Name "set" q2) [.Name x p1] [] q3) .BitXor (.Call (.Name "set" q4) [.Name y p2] [] q5) q6] [] pos)
      (λ(d:D)(L:OL Int->D->Prop) _=>(wA (A.get d)/\wA (B.get d)/\∃U:List Int,U.length<64/\(∀k∈A.get d,k∈U)/\∀k∈B.get d,k∈U)/\L ⟨xr (A.get d)<|B.get d⟩ d):=by
  refine⟨_,vW (AD t) u v jj (ue (vU Rp (wD (Hh t) J K mD (ue hn uu c) (he:=c))<|wD (Hh t) J K mD (ue C uu e) (he:=e)) uu f) (he:=f),λd F R σ H L Ke Q s hw kn ke=>?_⟩
  obtain⟨⟨M,N,U,hU,O,P⟩,m⟩:=hw
  have la:=vI M O
  have lb:=vI N P
  refine tX (Ey (i:=i) s) λa a1 a2=>?_
  refine⟨_,a1,a,A.get d,rfl,vn.of a2,q0a,λp S hp aa ab V=>?_⟩
  refine yi (s.new (wl X.w p S) hp) λo c1 _=>?_
  refine tX (Ey (i:=j) o) λb b1 b2=>?_
  refine⟨_,b1,b,B.get d,rfl,vn.of b2,q0a,λq W Y ae af Z=>?_⟩
  refine yi (o.new (wl X.w q W) Y) λG c2 _=>?_
  have I:p≠q:=uf tZ Y
  refine⟨p,q,S,W,rfl,rfl,by rw[ss I];exact tZ,tZ,q0a,λr g hr h mc=>?_⟩
  refine yi (G.new (wl X.w r g) hr) λs3 c3 _=>?_
  have mm:∀k,k∈g↔k∈xr (A.get d) (B.get d):=λk=>by
    rw[mc,zg<|uj N,V,Z]
    by_cases h1:k∈A.get d<;>by_cases h2:k∈B.get d<;>simp[h1,h2]
  have lc:g.length<64:=by
    have:=SX.xZ g U h λk m=>by
      rw[mc,V,Z] at m
      exact m.elim (λz=>P k z.1) λz=>O k z.2
    lia
  refine⟨r,g,rfl,tZ,lc,λl ns hl pn sn=>?_⟩
  rw[Bw pn sn,Dk h mm<|xS M]
  refine ux (wF s3 hl<|wY (R:=R)<|xr (A.get d)<|B.get d) λR' c4 s4 n4=>?_
  exact kn _ d _ _ F R' _ m (Ch.trans s o.tab c1<|Ch.trans o G.tab c2<|Ch.trans G s3.tab c3 c4) s4 n4
end
structure T3(α β γ:Type) where
 a:α
 b:β
 c:γ
instance{α β γ:Type}[Ow α][Ow β][Ow γ]:Ow (T3 α β γ):=⟨λF R H x v=>∃p u1 u2 u3 F1 F2 F3,v=some (.ref p)/\¬R p/\H p=some (.tup [u1,u2,u3])/\Dd F F1 F2 F3/\sl F1 R H x.a (some u1)/\sl F2 R H x.b (some u2)/\sl F3 R H x.c (some u3),
 λh e s n=>by
  obtain⟨p,u1,u2,u3,F1,F2,F3,h1,h2,h3,t,g1,g2,g3⟩:=h
  exact⟨p,u1,u2,u3,F1,F2,F3,h1,(e.wide s).not h2 h3,e.keep p _ (λz=>h2<|s p z) h3,t,Ow.st g1 e s λa z=>n a<|(t.all a).mpr<|.inl z,Ow.st g2 e s λa z=>n a<|(t.all a).mpr<|.inr<|.inl z,Ow.st g3 e s λa z=>n a<|(t.all a).mpr<|.inr<|.inr z⟩,
 λh e=>by
  obtain⟨p,u1,u2,u3,F1,F2,F3,h1,h2,h3,t,g⟩:=h
  exact⟨p,u1,u2,u3,F1,F2,F3,h1,h2,h3,⟨λa=>(e a).symm.trans (t.all a),t.GG,t.Ic,t.Ie⟩,g⟩⟩
section
variable{X:Cx}{E:XK}{T:ci}{ms:List Nat}{n:Nat}{D PO τ:Type}[Sls D][Sls PO][Ow τ]{pos:Pos}{α β γ:Type}[Ow α][Ow β][Ow γ]
theorem Sh{x1}(i j k:Nat)[Sls D'][Sls O][Sls P][Sls Q][Hs α][Hs β][Hs γ][g:At i D α O][l:At j O β P][t:At k P γ Q][J:Pj Q PO n](u:PE X (.Name x v) (uH i))(w:PE X (.Name y m) (uH j))(A:PE X (.Name z e) (uH k))
 (h1:fG [.Name x v,.Name y m,.Name z e] X.env=(false,eval (.Name x v) X.env)::fG [.Name y m,.Name z e] X.env:=by rfl) (h2:fG [.Name y m,.Name z e] X.env=(false,eval (.Name y m) X.env)::fG [.Name z e] X.env:=by rfl) (h3:fG [.Name z e] X.env=(false,eval (.Name z e) X.env)::fG [] X.env:=by rfl) :
    S1 X E T ms n (.Return (some<|.Tuple [.Name x v,.Name y m,.Name z e] x1 p4) pos) (λ(d:D)(_:D'->Prop)(S:T3 α β γ->PO->Prop) _=>S ⟨g.get d,l.get<|g.hole d,t.get<|l.hole<|g.hole d⟩<|J.pj<|t.hole<|l.hole<|g.hole d):=by
  refine⟨_,Bc<|Nh<|ue u (ue w (ue A uu h3) h2) h1,λd F R σ H Kn S Ke En s hw kn kr ke=>?_⟩
  refine xU (g.take s.rel) λ_ G1 G2 U b g1 r1=>?_
  obtain⟨B,rfl⟩:=Hs.has g1
  refine xU (l.take r1) λ_ _ _ V _ g2 r2=>?_
  obtain⟨C,rfl⟩:=Hs.has g2
  refine xU (t.take r2) λ_ _ _ W _ g3 _=>?_
  obtain⟨I,rfl⟩:=Hs.has g3
  refine⟨B,U,C,V,I,W,(by show 3<=fK;decide),λp hp=>?_⟩
  refine yi (s.new (.tup [B,C,I]) hp) λK c1 n1=>?_
  refine xU (g.take K.rel) λv1 o E1 Y b k1 q1=>?_
  refine xU (l.take q1) λv2 q E2 Z c k2 q2=>?_
  refine xU (t.take q2) λv3 r E3 b3 f k3 q3=>?_
  rw[U] at Y
  rw[V] at Z
  rw[W] at b3
  cases Y
  cases Z
  cases b3
  refine tX (J.le q3) λG l1 l2=>?_
  have i1:∀a,o a->F a:=λa h=>(b.all a).mpr<|.inl h
  have i2:∀a,q a->F a:=λa h=>(b.all a).mpr<|.inr<|(c.all a).mpr<|.inl h
  have i3:∀a,r a->F a:=λa h=>(b.all a).mpr<|.inr<|(c.all a).mpr<|.inr<|(f.all a).mpr<|.inl h
  have L:∀a,G a->F a:=λa h=>(b.all a).mpr<|.inr<|(c.all a).mpr<|.inr<|(f.all a).mpr<|.inr<|l1 a h
  have dG:∀a,o a\/q a\/r a->¬G a:=λa h z=>by
    have M:=l1 a z
    rcases h with h|h|h
    · exact b.xi a h<|(c.all a).mpr<|.inr<|(f.all a).mpr<|.inr M
    · exact c.xi a h<|(f.all a).mpr<|.inr M
    · exact f.xi a h M
  have N:∀a,o a\/q a\/r a->F a:=λa h=>h.elim (i1 a) λh=>h.elim (i2 a)<|i3 a
  exact kr _ _ (.ref p) (λa=>o a\/q a\/r a) G R _ hw ⟨c1.keep,λ_ h=>.inl h,λa h=>.inl<|h.elim (N a)<|L a,λ_ h _=>h⟩ ⟨l2,λa h=>s.sub a<|L a h,K.wn,K.tab,s.uQ,λh=>s.uF<|L T h⟩
    ⟨⟨p,B,C,I,o,q,r,rfl,n1,tZ,⟨λ_=>Iff.rfl,λa h k=>b.xi a h<|(c.all a).mpr<|.inl k,λa h k=>b.xi a h<|(c.all a).mpr<|.inr<|(f.all a).mpr<|.inl k,λa h k=>c.xi a h<|(f.all a).mpr<|.inl k⟩,k1,k2,k3⟩,λa h=>s.sub a<|N a h,λa h z=>dG a h z,λh=>s.uF<|N T h⟩
theorem Si(i j k:Nat){l m o L M N O P Q:Type}[Ow l][Ow m][Ow o][Sls L][Sls M][Sls N][Sls O][Sls P][Sls Q][A:At i D l L][U:Pt i L α M][A2:At j M m N][U2:Pt j N β O][A3:At k O o P][U3:Pt k P γ Q][J:Pj D PO n]{we:Wf D (T3 α β γ) D}
 (hp:PG X S (UG X.K 3<|Ee (BU i)<|Ee (BU j)<|Ee (BU k) UF)) (hi:i∉ms) (hj:j∉ms) (hk:k∉ms) (he:EO X E T e we)
 (hb:∀{V:TE} {t:TG},PE X e V->PG X S t->PS X (.Assign [S] e pos) (UH V t):=by intro V t W Y;exact Il W Y) :
    S1 X E T ms n (.Assign [S] e pos) (λ(d:D)(Kn:Q->Prop)(Kr:τ->PO->Prop) Ke=>we d (λx d1=>Kn<|U3.put (A3.hole<|U2.put (A2.hole<|U.put (A.hole d1) x.a) x.b) x.c) λC d'=>Ke C<|J.pj d'):=by
  refine tX he λt W Y=>?_
  refine⟨_,hb W hp,λd F R σ H Kn Kr Ke En s hw kn kr ke=>Y d F R σ H _ _ _ s hw (λx d1 v Z F2 R1 H1 q1 c1 s1 f=>?_) λC y d' F' R' H' q c s'=>?_⟩
  · obtain⟨p, u1, u, r, G1, G2, G3, e1, e2, e3, g, g1, g2, g3⟩ := f.is
    cases e1
    have w:∀a,G1 a->Z a:=λa h=>(g.all a).mpr<|.inl h
    have B:∀a,G2 a->Z a:=λa h=>(g.all a).mpr<|.inr<|.inl h
    have I:∀a,G3 a->Z a:=λa h=>(g.all a).mpr<|.inr<|.inr h
    refine tX (Ew (i:=i) s1 (x:=x.a) (v:=u1) (F1:=G1) ⟨g1,λa h=>f.sub a<|w a h,λa h z=>f.xi a (w a h) z,λh=>f.tab<|w T h⟩) λL1 k1 f1=>?_
    refine tX (Ew (i:=j) f1 (x:=x.b) (v:=u) (F1:=G2) ⟨g2,λa h=>f.sub a<|B a h,λa h z=>(k1 a z).elim (λq=>g.GG a q h)<|f.xi a<|B a h,λh=>f.tab<|B T h⟩) λL2 k2 f2=>?_
    refine tX (Ew (i:=k) f2 (x:=x.c) (v:=r) (F1:=G3) ⟨g3,λa h=>f.sub a<|I a h,λa h z=>(k2 a z).elim (λq=>g.Ie a q h) λz=>(k1 a z).elim (λq=>g.Ic a q h)<|f.xi a<|I a h,λh=>f.tab<|I T h⟩) λL3 k3 f3=>?_
    exact⟨p,[u1,u,r],rfl,yg.of e3,rfl,u1,[u,r],rfl,u,[r],rfl,r,[],rfl,rfl,kn _ L3 R1 H1 _ q1 (c1.less λa h=>(k3 a h).elim (λq=>.inl<|I a q) λh=>(k2 a h).elim (λq=>.inl<|B a q) λh=>(k1 a h).elim (λq=>.inl<|w a q) .inr) f3<|((Ag.set hi).trans<|Ag.set hj).trans<|Ag.set hk⟩
  · refine tX (vG (PO := PO) s') λG g1 g2 => ?_
    exact ke C y _ G R' H' q (c.less g1) g2
end
end WL
namespace L2
variable[L2.GX]
open PySem PySem.Spec PyProof.Rows
abbrev wH(X:Cx)(a:List (ci×Obj))(h:XK)(i:St->Prop):Cx :=
 { X with pn:=a,xe:=λe j=>∃(b:List (ci×Obj)) (c:St) (d:Hp) (f:fH) (C x:ci) (g:Hp),e=.ref x/\Inv { X with pn:=a} b c d f/\i c/\C6 X.prog X.w X.stack d f g C x j/\h (.ref C) (some x) g}
section
variable{X:Cx}{pins pins' Yv:List (ci×Obj)}{σ:St}{H:Hp}{s:fH}{E1:XK}{Φ:St->Prop}{x:ci}
theorem Inv.VL(I:Inv X pins σ H s):Inv (wH X (X.pn++pins) E1 Φ) [] σ H s :=
 ⟨⟨I.ok.mod,I.ok.kind,I.ok.glob,I.ok.blt,I.ok.above,I.ok.inj,I.ok.has,I.ok.MV,I.ok.hd,I.ok.frames,I.ok.A9,I.ok.QO,I.ok.bs,I.ok.GN,I.ok.Cb,I.ok.CM,I.ok.xz,I.ok.H0⟩,I.os,I.bare,I.base,I.loc,I.cell,I.free,I.xg,λp a=>I.pin p (by simpa using a),I.uO,I.len⟩
theorem Inv.FJ(I:Inv (wH X (X.pn++pins) E1 Φ) pins' σ H s):Inv X pins σ H s :=
 ⟨⟨I.ok.mod,I.ok.kind,I.ok.glob,I.ok.blt,I.ok.above,I.ok.inj,I.ok.has,I.ok.MV,I.ok.hd,I.ok.frames,I.ok.A9,I.ok.QO,I.ok.bs,I.ok.GN,I.ok.Cb,I.ok.CM,I.ok.xz,I.ok.H0⟩,I.os,I.bare,I.base,I.loc,I.cell,I.free,I.xg,λp a=>I.pin p<|g8 _ a,I.uO,I.len⟩
theorem Inv.XZ(I:Inv (wH X Yv E1 Φ) pins' σ H s):Inv { X with pn:=Yv} pins' σ H s :=
 ⟨⟨I.ok.mod,I.ok.kind,I.ok.glob,I.ok.blt,I.ok.above,I.ok.inj,I.ok.has,I.ok.MV,I.ok.hd,I.ok.frames,I.ok.A9,I.ok.QO,I.ok.bs,I.ok.GN,I.ok.Cb,I.ok.CM,I.ok.xz,I.ok.H0⟩,I.os,I.bare,I.base,I.loc,I.cell,I.free,I.xg,I.pin,I.uO,I.len⟩
def Jn(b:LO)(X:Cx)(E:XK)(σ:St):Prop:=∀(pins:List (ci×Obj)) (H:Hp) (s:fH) (e:cr) (a:fH),Inv X pins σ H s->b X.stack H s E e a->X.xe e a
theorem X0(h:Φ σ):Jn (uP X.prog X.w) (wH X Yv E1 Φ) E1 σ:=by intro pins a b e g I c;obtain⟨C,x,d,rfl,F,f⟩:=c;exact⟨pins,σ,a,b,C,x,d,rfl,I.XZ,h,F,f⟩
end
section
variable{X:Cx}{CX:LO}{k:Nat}{f C:ci}{fd:gF}{ps:List Str}{sp:Sp}{Cg:List V}{ds:List cr}{E:XK}{x m:Str}{p pos apos:Pos}{e o:gA}{es:List gA}{ta:TE}{t:TA}
theorem Sj(F:uE X.prog X.w X.K X.mg X.base CX k f fd ps sp)(g:vq k X.A)(i:Binds X.K fd ps ds)(j:Vals Cg ds)(l:Jn CX X E c)
 (I:Inv X a c H s)(r:Vals vs us)(h:sp (vs++Cg) H Q E):fO (fS X.prog X.w) X.A (call (.ref f) us) (EP X a c Q) X.xe s:=by
  have d:Vals (vs++Cg) (us++ds):=r.append j
  have n:(us++ds).length=ps.length:=by rw[<- d.length];exact F.len _ _ _ _ h
  refine k8<|iY (F.run X.A X.stack s H ⟨us,[]⟩ (us++ds) (vs++Cg) Q E g I.GZ (i s us I.xI n) d h) λr q b=>?_
  cases r with
  | error e=>exact l a H s e q I b
  | ok v =>
    cases v with
    | ret u=>exact I.after b
    | next=>exact gB b
    | brk=>exact gB b
    | cont=>exact gB b
def OZ(CX:LO)(X:Cx)(C:ci)(m:Str)(sp:Sp)(Cg:List V)(E:XK)(ta:TE)(t:TA):TE:=λa H Q=>Jn CX X E a/\Eh C m sp Cg E ta t a H Q
theorem O0(D:PE X o ta)(c:zP X.K C)(n:Meth X.K C m f)(F:uE X.prog X.w X.K X.mg X.base CX k f fd ps sp)(G:vq k X.A)(J:Binds X.K fd ps ds)(L:Vals Cg ds)(M:PA X (e::es) t)
 (g:fG (e::es) X.env=(false,eval e X.env)::fG es X.env:=by rfl) (i:(ij pos<|fG es X.env).any (·.1)=false:=by rfl)
 (N:eval (.Call (.Attribute o m apos) (e::es) [] pos) X.env=(do
 let v <- eval o X.env
 lw apos.atName
 let (f,first) <- jz [v] (kH v m O)
 lZ pos f first (ij pos (fG (e::es) X.env)) (lx pos (jA [] X.env))):=by rfl) :
    PE X (.Call (.Attribute o m apos) (e::es) [] pos) (OZ CX X C m sp Cg E ta t):=by
  intro b s y H Q I h
  obtain⟨P,h⟩:=h
  refine m8 (pl:=O) (uL (D b s y H _ I h) λu R j=>ut j λx S z T d=>xU d λa dx fs U Y l q=>?_) N
  subst U
  obtain rfl:u=fZ a:=T
  refine Af z Y c n l ?_
  refine ov (first:=[.ref a]) (h₀:=X.base) I.ok.mod.Ao n.kp (uL (M pos b R y S _ z q) λZ s2 j=>ut j λvs H2 B r q2=>⟨B.xI,?_⟩) g i
  exact Sj (us:=.ref a::Z) (vs:=.ref a::vs) F G J L P B (.cons rfl r) q2
end
def Z3(o:Option (List V))(h h':gE):Prop:=match o with
 | none=>h'=h
 | some xs=>∃yP:List cr,Vals xs yP/\xs.length<=fK/\h'=h.push { cls:=.type "tuple",data:=.seq yP.toArray}
def Lay(o:Option (List V))(H H':Hp):Prop:=match o with
 | none=>H'=H
 | some xs=>∃p,H p=none/\H'=upd H p (.tup xs)
def Z4(X:Cx)(d:gA)(e:List ci)(o:Option (List V)):Prop:=∀(x C:ci) (a:List (ci×Obj)) (s:fH) (f:St) (H:Hp) (Q:Bool->fH->Prop) (E:cr->fH->Prop),C∈e->Inv (hand X x) a f H s->(∃b,s.heap.get? x=some b/\b.cls=.ref C) ->
 (∀c,Z3 o s.heap c->Q true { s with heap:=c}) ->
 fO (fS X.prog X.w) (X.A.mark<|some<|.ref x) (eval d X.env) (λv g=>fO (fS X.prog X.w) (X.A.mark<|some<|.ref x) (excMatches (.ref x) v) Q E g) E s
theorem VM{r:Nat}(e:Gl X f)(g:X.mg f=some (.ref c))(h:Gl X i)(j:X.mg i=some (.ref d))(l:j0 X.K (.ref c) [.ref c,.ref d]=some true)(m:j0 X.K (.ref d) [.ref c,.ref d]=some true)
 (t:(f==("__debug__":Str))=false:=by decide) (u:(i==("__debug__":Str))=false:=by decide) :
    Z4 X (.Tuple [.Name f D,.Name i F] r pos) [c,d] (some [.ref c,.ref d]):=by
  intro x n p s G H Q E v I ⟨J,y,A⟩ k
  have B:iR (fS X.prog X.w) s.heap (typeOf<|.ref x) (.ref n):=A▸(qC y).andThen .now
  refine wpAny_Tuple_spliced ?_
  refine i5<|yo (X:=hand X x) I e g (i5<|yo (X:=hand X x) I h j (jT ?_) u) t
  refine⟨by show 2<=fK;decide,?_⟩
  have q:∀b o,s.heap.get? b=some o->(s.heap.push { cls:=.type "tuple",data:=.seq [fZ c,fZ d].toArray}).get? b=some o:=λb o z=>ce _ z
  have C:j0 X.K (.ref n) [.ref c,.ref d]=some true:=by
    rcases List.mem_cons.mp v with z|z
    · rw[z]; exact l
    · rw[List.mem_singleton.mp z]; exact m
  refine(PySem.W.exm_tup2 (λa o z=>q a o<|I.xI a o z) (B.keeps q) (fU _ rfl) C).here ?_
  exact k _ ⟨[.ref c,.ref d],.cons rfl<|.cons rfl .nil,(by show 2<=fK;decide),rfl⟩
theorem Inv.adopt(I:Inv X a j H s)(f:Ac X a H p)(c:u7 X.prog X.w (upd H p o) s.heap p o):Inv X a j (upd H p o) s:=by
 refine DS f λi k r l n q=>?_;have d:∀b u,H b=some u->b≠p:=λb u e z=>by rw[z,i] at e;cases e
 have J:=I.step (h':=s.heap) (g':=s.gens) (d':=s.drawn) (t':=s.toks) (ch:=[p]) (H':=upd H p o) (λb g=>by rw[List.mem_singleton.mp g];exact⟨l,k,n,q⟩) (λb o _ _ _ e _=>e) (λb o _ _ _ e _=>⟨o.slots,e⟩)
  (λb _ g _ e=>by rw[ss λz=>g<|by rw[z];exact List.mem_singleton.mpr rfl];exact e) (λb o _ e=>⟨o,e⟩) (λb t e=>by rw[ss<|d b _ e];exact e) (λb o u e=>by rw[ss<|d b _ e];exact e) (λb v e=>⟨#[],by rw[ss<|d b _ e,e];simp⟩) (λm h=>h) (I.uO.T4 i c) I.bare
 exact J
def X1(i:XK->(St->Prop)->List (ci×Obj)->TS)(j:List ci)(o:Option (List V))(k:ci->TS):TS:=λD d H=>∃e:XK,(∀c f b,e c f b->∃C∈j,c=.ref C)/\(∀g,i e (λh=>h=d) g D d H)/\∀(c:cr)(f:Option ci)(b a:Hp),e c f b->Lay o b a->∀x,k x D d a
section
variable{X:Cx}
theorem Sk(E:X.stack=X.env::X.outer)(V:Z4 X ty Cs o)
 (hb:∀T Φ M,DT (wH X M T Φ) body<|tb T Φ M) (hs:∀x,DT (hand X x) (b0::i)<|th x) :
    PS X (.Try body [.ExceptHandler (some ty) none (b0::i) hp] [] [] tp) (X1 tb Cs o th):=by
  intro d s σ H D I h
  refine ux h λT Y hB hH=>?_
  refine wpAny_Try_except<|hJ (hb T _ (X.pn++d) [] s σ H D I.VL<|hB _) (λN g q=>?_)<|λe g q=>?_
  · cases N with
    | next=>obtain⟨a,c,J,z⟩:=q;exact mr ⟨a,c,J.FJ,z⟩
    | brk=>obtain⟨a,c,J,z⟩:=q;exact⟨a,c,J.FJ,z⟩
    | cont=>obtain⟨a,c,J,z⟩:=q;exact⟨a,c,J.FJ,z⟩
    | ret u=>obtain⟨v,a,c,J,r,z⟩:=q;exact⟨v,a,c,J.FJ,r,z⟩
  · obtain⟨Z, m, H1, s0, C', x, c, rfl, J, aa, F, hE⟩ := q
    subst aa
    refine tX (Y _ _ _ hE) λC hC hc=>?_
    cases hc
    have nf:=F.Xi J.Yu
    refine vS F.ZC λB a0 N ab=>?_
    have ae:ko B (X.env::X.outer) x (.ref C') a0 g.heap:=by rw[<- E];exact N
    have af:X.A.frames=some (X.env::X.outer):=by rw[<- E];exact J.ok.frames
    have ag:X.env.frame=some X.env.locals:=wX I E
    refine wpAny_looks_onW af ag ae λh4 O ah=>wpAny_landsW O λk n ai=>?_
    have j:g.heap.UpToSlots k:=ah.trans ai
    have G:∀(l:gE)(P:Nat),B.StaysIn l->g.heap.UpToSlots l->Inv X d m c { g with heap:=l,toks:=P}:=λl P st up=>by
      obtain⟨u6,aj⟩:=NZ F.un F.uO ab nf st up
      have J6:=J.call (h':=l) (g':=g.gens) (d':=g.drawn) (t':=P) (ch:=[]) u6 aj F.bare<|λb z=>fY z q0o
      have e6:{ s0 with heap:=l,gens:=g.gens,drawn:=g.drawn,toks:=P}={ g with heap:=l,toks:=P}:=by
        have:=F.os
        obtain⟨_,_,_,_,al⟩:=g
        obtain⟨_,_,_,_,an⟩:=s0
        dsimp only at this ⊢
        rw[this]
      rw[<- e6]
      exact J6.ZD
    have I5:=G k g.toks n.1 j
    have Q:∀(R:Hp)(t:gE),Lay o c R->Inv X d m R { g with heap:=t}->fO (fS X.prog X.w) (X.A.mark<|some<|.ref x) (execs (b0::i) X.env) (λf S=>SP X d D f S) (λ_ _=>False) { g with heap:=t}:=λR t hY I7=>by
      refine hJ (hs x d _ m R D I7.N4<|hH _ _ c R hE hY x) (λN s7 q=>?_) λ_ _ z=>z.elim
      cases N with
      | next=>obtain⟨a,c,J,z⟩:=q;exact⟨a,c,J.Ff I.ok.hd,z⟩
      | brk=>obtain⟨a,c,J,z⟩:=q;exact⟨a,c,J.Ff I.ok.hd,z⟩
      | cont=>obtain⟨a,c,J,z⟩:=q;exact⟨a,c,J.Ff I.ok.hd,z⟩
      | ret u=>obtain⟨v,a,c,J,r,z⟩:=q;exact⟨v,a,c,J.Ff I.ok.hd,r,z⟩
    refine wpAny_handleBy_cons (codeAny_handlers_test<|V x C' d { g with heap:=k} m c _ _ hC I5.N4 n.there λl U=>?_) (by intro q;cases q)
    refine codeAny_handlers_suite ?_
    cases o with
    | none =>
      have U:l=k:=U
      subst U
      refine lands_againW (s:={ g with heap:=l}) n λt K y=>?_
      exact hJ (Q c t rfl<|G t g.toks K.1<|j.trans y) (λ_ _ z=>z) λ_ _ z=>z.elim
    | some xs =>
      obtain⟨L,r,hz,rfl⟩:=U
      have kp:∀b o,k.get? b=some o->(k.push { cls:=.type "tuple",data:=.seq L.toArray}).get? b=some o:=λb o z=>ce _ z
      have ak:=PySem.W.flying_keeps n kp
      refine lands_againW (s:={ g with heap:=k.push { cls:=.type "tuple",data:=.seq L.toArray}}) ak λt K y=>?_
      have I7:=G t g.toks K.1<|(j.trans<|o4 kp).trans y
      have n5:c k.objs.size=none:=I5.uO.fresh<|fJ _
      obtain⟨sl,e7⟩:=y k.objs.size _ (fU _ rfl) (λvs z=>by cases z)
      have I8:=I7.adopt (p:=k.objs.size) (o:=.tup xs) (I5.ET (fJ _) n5) ⟨hz,L,r,_,e7,rfl,_,rfl⟩
      exact hJ (Q _ t ⟨_,n5,rfl⟩ I8) (λ_ _ z=>z) λ_ _ z=>z.elim
end
end L2
namespace WL
variable[L2.GX]
open PySem L2
open Rep (rp)
open Ow (sl)
open Sls (rel)
def BW(X:Cx)(T:ci)(c:List gy){D:Type}[Sls D](w:D->(D->Prop)->(ci->D->Prop)->Prop):Prop:=∀i j h,∃t,DT (wH X h i j) c t/\∀(d:D)(F R:Rg)(b:St)(H:Hp)(k:D->Prop)(l:ci->D->Prop)(m:Ends),j b->ve T F R H d b->w d k l ->
 (∀e f g a,k e->Ch T F R H f g a->ve T f g a e b->m.nx b a)->(∀C y e f g a,l C e->Ch T F R H f g a->ve T f g a e b->i (.ref C) (some y) a)->t m b H
section
variable{X:Cx}{E:XK}{T:ci}{ms:List Nat}{n:Nat}{D PO τ X2:Type}[Sls D][Sls PO][Ow τ][Ow X2]{pos:Pos}{C:ci}{fl:Bool}{x:Str}{p1:Pos}
theorem Sl{h:Pos}{o:List gA}(i:Nat){N P r B J F:Type}[Sls N][Sls P][Sls r][Sls B][Sls J][Sls F][Lb F X2<|Bd C fl×r]{k:B->F->r->D}{O:D->(P->B->F->Prop)->(ci->D->Prop)->Prop}
 {Q:Wf (Bd C fl×P) X2 (Bd C fl×r)} [A0:At i D (Bd C fl) N] [A:At i B (Bd C fl) J] [U:Pt i J (Bd C fl) B]
 (S:∀a b c d u,(xD a b c d u fl).lookup m=none) (V:∀g j f,Jd (wH X f g j) g T (e::o) k O)
 (W:∀(g:XK)(j:St->Prop) (f:List (ci×oq)) {t:TA},PA (wH X f g j) (e::o) t->PE (wH X f g j) (.Call (.Attribute (.Name x p1) m apos) (e::o) [] pos) (OZ (uP X.prog X.w) (wH X f g j) C m (xG T Q) [] g (uH i) t))
 (Y:i4 (.Call (.Attribute (.Name x p1) m apos) (e::o) [] pos) none h.line X.env=pure false:=by rfl) :
    BW X T [.Expr (.Call (.Attribute (.Name x p1) m apos) (e::o) [] pos) h] (λ(d:D) K I=>O d (λp b l=>Q (A.get b,p) (λ_ y=>K<|k (U.put (A.hole b) y.1) l y.2)<|λC y=>I C<|k (U.put (A.hole b) y.1) l y.2) I):=by
  intro g j f
  refine tX (V g j f) λtr Z b2=>?_
  refine⟨_,wP<|vF (W g j f Z) Y,λd G R σ H K I En L s hw kn ke=>⟨X0 L,?_⟩⟩
  refine Hx i S b2 d G R σ H (λ_ M=>K M) I _ s hw (λx M v F1 F2 R' H' q c s' m=>?_) ke
  exact kn M F2 R' H' q (c.less λa z=>.inr z) s'
theorem X3{j:Pos}{o:List gA}(i:Nat){G P v B F z:Type}[Sls G][Sls P][Sls v][Sls B][Sls F][Sls z][Lb z X2<|Bd C fl×v]{r:B->z->v->D}{H:D->(P->B->z->Prop)->(ci->D->Prop)->Prop}
 {I:Wf (Bd C fl×P) X2 (Bd C fl×v)} [A0:At i D (Bd C fl) G] [A:At i B (Bd C fl) F] [U:Pt i F (Bd C fl) B] {k:Nat} {M:List Str} {N:Sem Bool}
 (h:Fm X.prog X.w X.K X.mg X.base T C m M I k) (O:vq k X.A) (Q:zP X.K C) (R:∀(q:XK)(s:St->Prop) (g:List (ci×oq)),PE (wH X g q s) (.Name x p1)<|uH i) (S:∀(q:XK)(s:St->Prop) (g:List (ci×oq)),Jd (wH X g q s) q T (e::o) r H) (V:∀a b c d u,(xD a b c d u fl).lookup m=none:=by intros;rfl)
 (W:fG (e::o) X.env=(false,eval e X.env)::fG o X.env:=by rfl) (Y:(ij pos<|fG o X.env).any (·.1)=false:=by rfl)
 (Z:eval (.Call (.Attribute (.Name x p1) m apos) (e::o) [] pos) X.env=(do
 let J <- eval (.Name x p1) X.env
 lw apos.atName
 let (f,first) <- jz [J] (kH J m N)
 lZ pos f first (ij pos (fG (e::o) X.env)) (lx pos (jA [] X.env))):=by rfl)
 (hs:i4 (.Call (.Attribute (.Name x p1) m apos) (e::o) [] pos) none j.line X.env=pure false:=by rfl) :
    BW X T [.Expr (.Call (.Attribute (.Name x p1) m apos) (e::o) [] pos) j] (λ(d:D) Kn L=>H d (λp b l=>I (A.get b,p) (λ_ y=>Kn<|r (U.put (A.hole b) y.1) l y.2)<|λC y=>L C<|r (U.put (A.hole b) y.1) l y.2) L) :=
  Sl i V S (λq s g {t} b1=>O0 (X:=wH X g q s) (CX:=uP X.prog X.w) (E:=q) (R q s g) Q h.me h.ok O h.bd .nil b1 W Y Z) hs
theorem Sn{j b:List gy}{I:List ci}{o:Option (List V)}{wb:D->(D->Prop)->(ci->D->Prop)->Prop}{J:D->(D->Prop)->(τ->PO->Prop)->(ci->PO->Prop)->Prop}(K:X.stack=X.env::X.outer)(L:Z4 X ty I o)
 (M:BW X T j wb) (z:∀k,SW (hand X k) E T ms n (b0::b) J) :
    S1 X E T ms n (.Try j [.ExceptHandler (some ty) none (b0::b) hp] [] [] tp) (λ(d:D)(u:D->Prop)(A:τ->PO->Prop) B=>wb d u λC a=>C∈I/\J a u A B):=by
  refine⟨_,Sk (tb:=λN O f=>(M N O f).choose) (th:=λk=>(z k).choose) K L (λN O f=>(M N O f).choose_spec.1)<|λk=>(z k).choose_spec.1,λd F R r H u A B P s hw kn kr ke=>?_⟩
  refine⟨λc _ l=>∃C a h i,c=.ref C/\C∈I/\J a u A B/\Ch T F R H h i l/\ve T h i l a r,?_,λf=>?_,?_⟩
  · rintro c ox l ⟨C, a, h, i, e, m, _⟩
    exact⟨C,m,e⟩
  · exact(M _ _ f).choose_spec.2 d F R r H _ _ P rfl s hw (λa h i l q c Q => kn a h i l r q c Q<|Ag.refl _ _) λC y a h i l q c Q => ⟨C, a, h, i, rfl, q.1, q.2, c, Q⟩
  · rintro c ox l S ⟨C, a, h, i, e, m, U, t, st⟩ G k
    have go:∀{w:Hp},Ch T F R H h i w->ve T h i w a r->(z k).choose P r w:=λ{w} t st=>(z k).choose_spec.2 a h i r w u A B P st U (λd1 F1 R1 H1 W q c s1 g=>kn d1 F1 R1 H1 W q (Ch.trans s st.tab t c) s1 g) (λx Y v M1 M2 Z H4 q4 c4 S4 n4=>kr x Y v M1 M2 Z H4 q4 (Ch.trans s st.tab t c4) S4 n4) λC y Y F4 Z H4 q4 c4 S4=>ke C y Y F4 Z H4 q4 (Ch.trans s st.tab t c4) S4
    cases o with
    | none =>
      have G:S=l:=G
      rw[G]
      exact go t st
    | some xs =>
      obtain⟨p,hp,rfl⟩:=G
      refine yi (st.new (.tup xs) hp) λs3 c3 _=>?_
      exact go (Ch.trans s st.tab t c3) s3
end
structure X4(q:Cq)(C1 C2:ci)(y1 y2:Str):Prop where
 m1:q.mg y1=some (.ref C1)
 m2:q.mg y2=some (.ref C2)
 x1:j0 q.K (.ref C1) [.ref C1,.ref C2]=some true
 x2:j0 q.K (.ref C2) [.ref C1,.ref C2]=some true
end WL
namespace L2
variable[L2.GX]
open PySem PySem.Spec PyProof.Rows
theorem zj:Slot "wrapper_descriptor" "__get__" "wrapper_descriptor.__get__":=.of (owner:="wrapper_descriptor") (n:="__get__") (by rw[my,ki];kernel_rfl) q0s q0s q0s
 (.inl<|by kernel_rfl) (by rw[rQ];kernel_rfl)
theorem FK:rN sN "wrapper_descriptor.__get__"=some Builtin.«wrapper_descriptor.__get__»:=entryFor_of_tree (by kernel_rfl)
theorem HA(a b c:cr):qw "wrapper_descriptor.__get__" ⟨[a,b,c],[]⟩:=by unfold qw;kernel_rfl
theorem yC:typeOf (.builtin "ValueError.__init__")=pure (.type "wrapper_descriptor"):=by kernel_rfl
def X5(obj cls:cr)(name:Str):Sem Unit:=do
  rule "descr.get.wrong-instance"
  raiseError "TypeError" s!"descriptor '{name.toString}' for '{← typeName cls}' objects doesn't apply to a '{← typeNameOf obj}' object"
theorem Ms(x C:ci):Builtin.«wrapper_descriptor.__get__» ⟨[.builtin "ValueError.__init__",.ref x,.ref C],[]⟩=((rX (.ref x) (.type "ValueError") >>= λb=>if (!b)=true then X5 (.ref x) (.type "ValueError") "__init__" else pure ()) >>= λ_=>newFields "method-wrapper" [.builtin "ValueError.__init__",.ref x] >>= ret):=by kernel_rfl
section
variable{prog:gf}{w:gu}{A:gJ}{E:cr->fH->Prop}{h:gE}{g:Array nX}{d:Drawn}{t:Nat}{os:OsState}{so D x C:ci}{ox:Obj}{l0 l:List cr}{K:fB}
theorem Dy(c:h.get? x=some ox)(b:ox.cls=.ref C)(a:iR (fS prog w) h (isSubtype (.ref C)<|.type "ValueError") true)
 (e:R (.ok<|.ret<|.ref h.objs.size) ⟨h.push { cls:=.type "method-wrapper",data:=.fields #[.builtin "ValueError.__init__",.ref x]},g,d,t,os⟩) :
    kW (fS prog w) A (.call (.builtin "wrapper_descriptor.__get__") ⟨[.builtin "ValueError.__init__",.ref x,.ref C],[]⟩) R ⟨h,g,d,t,os⟩:=by
  have f:(⟨h,g,d,t,os⟩:fH).TypeIs (.builtin "ValueError.__init__") "wrapper_descriptor":=by first|exact gc yC|exact yC
  refine ma zj.plain FK<|zj.check _ _ _ _ _ _ _ _ f (HA _ _ _) ?_
  rw[Ms]
  refine am<|am ?_
  unfold rX
  refine am<|wpAny_typeOf_ref c ?_
  rw[b]
  refine PySem.W.Looks.at a ?_
  exact ap<|am<|gN<|ap e
theorem HB(a:h.get? so=some (oi D x C))(c:iR (fS prog w) h (opaqueClassAbove<|.ref C) none)(j:iR (fS prog w) h (mroOf<|.ref C) l0)(k:(l0.dropWhile (· != .ref D)).drop 1=l)(X:K.In h)
 (m:sV K "__init__" l=some (some<|.builtin "ValueError.__init__")) (n:h.get? x=some ox) (e:ox.cls=.ref C) (b:iR (fS prog w) h (isSubtype (.ref C)<|.type "ValueError") true) (f:x≠C)
 (o:Q (.done<|.ret<|.ref h.objs.size) ⟨h.push { cls:=.type "method-wrapper",data:=.fields #[.builtin "ValueError.__init__",.ref x]},g,d,t,os⟩) :
    fO (fS prog w) A (Builtin.«super.__getattribute__» ⟨[.ref so,.str "__init__" y],[]⟩) Q E ⟨h,g,d,t,os⟩:=by
  have lk:=zj.lookup
  have p:(fZ x==fZ C)=false:=by simp[f]
  have q:(("__init__":Str)==("__class__":Str))=false:=by decide
  have r:(#[.ref D,.ref x,.ref C]:Array cr)[0]?=some (.ref D):=rfl
  have s:(#[.ref D,.ref x,.ref C]:Array cr)[1]?=some (.ref x):=rfl
  have u:(#[.ref D,.ref x,.ref C]:Array cr)[2]?=some (.ref C):=rfl
  have i:(oi D x C).data=.fields #[.ref D,.ref x,.ref C]:=rfl
  have v:=yC
  unfold Builtin.«super.__getattribute__»
  repeat (first|(with_reducible refine hL a i r ?_)|(with_reducible refine hL a i s ?_)|(with_reducible refine hL a i u ?_)|(with_reducible refine ks_wpAny_notOpaque c ?_)|(with_reducible refine PySem.W.Looks.at j ?_;rw[k])|(refine ks_forIn_along X (λ_ _=>rfl) rfl ?_ m)|(with_reducible refine lh v ?_)|(simp only[q,p,qM,jM,mV])|wp_step|dsimp only)
  exact Dy n e b<|am<|ap<|ap<|ap o
end
section
variable{prog:gf}{w:gu}{A:gJ}{E:cr->fH->Prop}{h:gE}{g:Array nX}{d:Drawn}{t:Nat}{os:OsState}
variable{nm q:Str}{C N:ci}{bs bm Ba:List cr}{hdct:Bool}{sn:List Str}{sub:List cr}{ab:Bool}{col:Option Bool}{dd:Option ci}{k0 k1 k2 k3 k5:Option cr}{B newId wq:String}
theorem zS(F:jm B newId wq Ba)(T:rq h Ba bm){a:List cr} 
 (i:h.get? C=some (iI nm q C N bs bm hdct sn sub ab col dd k0 k1 k2 k3 k5 newId)) (u:h.Ns N v) (y:v "__init__"=some (.ref n))
 (k:h.get? n=some z) (l:z.cls=.type "function")
 (D:∀p e,qr h p e (.ref C) a ->
 fO (fS prog w) A (call (.ref n) (.ref e::a)) (λr s=>r=.none/\Q (.done (.ret (.ref e))) s) E ⟨p,g,d,t,os⟩) (hrest:a.length<=fK:=by size_fits) :
    fO (fS prog w) A (Builtin.«type.__call__» ⟨.ref C::a,[]⟩) Q E ⟨h,g,d,t,os⟩:=by
  repeat (first|with_reducible refine iO i ?_|with_reducible refine wpAny_madeBy_exc i ?_|wp_step)
  refine codeAny_call_builtin_code (ml _ F.quiet)<|wpAny_check_new_subT F T i ?_
  refine codeAny_exc_new_subT F T i ?_ hrest
  show fO _ _ _ _ _ _
  have j:∀b o,h.get? b=some o->((h.push { cls:=.type "tuple",data:=.seq a.toArray}).push { cls:=.ref C,data:=.fields #[.ref h.objs.size,.none,.none,.none,.bool false,.none]}).get? b=some o:=λb o e=>ce _<|ce _ e
  have c:=j _ _ i
  have f:((h.push { cls:=.type "tuple",data:=.seq a.toArray}).push
      { cls:=.ref C,data:=.fields #[.ref h.objs.size,.none,.none,.none,.bool false,.none]}).get? (h.objs.size+1)=some
      { cls:=.ref C,data:=.fields #[.ref h.objs.size,.none,.none,.none,.bool false,.none]}:=by heap_get
  have m:(fZ C::bm).contains (.ref C)=true:=by simp
  unfold rX
  repeat (first|with_reducible refine iO f ?_|(with_reducible refine pH c ?_;rw[m])|wp_step)
  show fO _ _ (k9 (.ref C) _) _ _ _
  refine wpAny_typeLookup_tail c (u.keeps j) (T.keeps j) F.mroIs F.init.lookup ?_
  rw[y]
  refine gC<|am ?_
  unfold bindSpecial
  refine am<|jB (T:="function") ⟨_,j _ _ k,l⟩ ?_
  rw[fE q0q]
  refine ap<|am<|hJ (D _ (h.objs.size+1) ⟨j,lJ<|kh _,h.objs.size,f,lJ<|fJ _,ce _<|mM rfl rfl⟩) (λr s G=>?_) λ_ _ x=>x
  obtain⟨rfl,H⟩:=G
  wp_walk
  exact H
theorem Dz(F:jm B newId wq Ba)(T:rq h Ba bm){a:List cr} 
 (b:h.get? C=some (iI nm q C N bs bm hdct sn sub ab col dd k0 k1 k2 k3 k5 newId)) (k:h.Ns N l) (m:l "__init__"=some (.ref j))
 (f:h.get? j=some n) (i:n.cls=.type "function")
 (o:∀c e,qr h c e (.ref C) a ->
 fO (fS prog w) (A.under (.builtin "type.__call__" ⟨.ref C::a,[]⟩)) (call (.ref j) (.ref e::a)) (λr p=>r=.none/\Q (.ref e) p) E ⟨c,g,d,t,os⟩) (hrest:a.length<=fK:=by size_fits) :
    fO (fS prog w) A (call (.ref C) a) Q E ⟨h,g,d,t,os⟩:=by
  have u:=tc_lookup
  have v:=tc_bind<|.ref C
  have x:(⟨h,g,d,t,os⟩:fH).TypeIs (.ref C) "type":=⟨_,b,rfl⟩
  refine k8<|kY ?_
  show fO _ _ (callAny (.ref C) _) _ _ _
  repeat (any_goals (first|assumption|with_reducible refine iO b ?_|wp_step))
  refine⟨rfl,?_⟩
  exact codeAny_call_builtin_at (ml _ q0s) entry_typeCall<|wpAny_check_type_call_sub b<|zS (hrest:=hrest) F T b k m f i λc e s=>o c e s
end
def wB(x:ci):Obj:={ cls:=.type "method-wrapper",data:=.fields #[.builtin "ValueError.__init__",.ref x]}
section
variable{prog:gf}{w:gu}{A:gJ}{E:cr->fH->Prop}{h:gE}{g:Array nX}{d:Drawn}{t:Nat}{os:OsState}{so D x C:ci}{ox:Obj}{l0 l:List cr}{K:fB}
theorem An(a:h.get? so=some (oi D x C))(f:iR (fS prog w) h (opaqueClassAbove<|.ref C) none)(n:iR (fS prog w) h (mroOf<|.ref C) l0)(o:(l0.dropWhile (· != .ref D)).drop 1=l)(X:K.In h)
 (p:sV K "__init__" l=some (some<|.builtin "ValueError.__init__")) (q:h.get? x=some ox) (i:ox.cls=.ref C) (b:iR (fS prog w) h (isSubtype (.ref C)<|.type "ValueError") true) (j:x≠C)
 (r:Q (.ref h.objs.size,[]) ⟨h.push<|wB x,g,d,t+1,os⟩):fO (fS prog w) A (kH (.ref so) "__init__" y) Q E ⟨h,g,d,t,os⟩:=by
  have c:=F.ks_slot_super_ga.lookup
  have e:=F.ks_canon_super_ga
  have k:∀s,(⟨h,g,d,s,os⟩:fH).TypeIs (.ref so) "super":=λ_=>⟨_,a,rfl⟩
  unfold kH
  refine am<|oG (k _) c ?_
  show fO _ _ (if (Manifest.canonical "super.__getattribute__" != "object.__getattribute__")=true then _ else _) _ _ _
  rw[fE e]
  unfold getAttr getAttrBy
  refine am<|am<|wpAny_mkText<|gC<|am<|jB (k _)<|am<|lh c ?_
  show fO _ _ (getAttrByItsOwn (.ref so) (.str "__init__" t) (.type "super") (.builtin "super.__getattribute__") true false) _ _ _
  unfold getAttrByItsOwn hookBefore callGetattribute boundAndCalled
  refine am<|lh (show (if onTheHeap (.type "super") then k9 (.type "super") "__getattr__" else pure none)=pure none from rfl) ?_
  refine am<|nN<|gC ?_
  show fO _ _ (bindSpecial (.builtin "super.__getattribute__") (.ref so) >>= _) _ _ _
  refine am<|lh (F.ks_slot_super_ga.bind _) ?_
  refine hJ (Q:=λv m=>v=.ref h.objs.size/\m=⟨h.push<|wB x,g,d,t+1,os⟩) (E:=λ_ _=>False)
    (gR F.ks_slot_super_ga (k _) F.ks_entry_super_ga (HB a f n o X p q i b j ⟨_,rfl,rfl,rfl⟩)<|F.ks_gaArgs_super _ _) (λv m u=>?_) λ_ _ z=>z.elim
  obtain⟨rfl,rfl⟩:=u
  exact ap<|ap r
theorem O3(h:gE)(e:h.get? q=some (wB x)):∃k,(k=Keeper.frame\/k=Keeper.machine\/k=Keeper.boundFrame)/\iR M h (keeperOf<|.ref q) k :=
 ⟨.machine,.inr<|.inl rfl,(qC (part:=none) e).andThen .now⟩
variable{nm q:Str}{N:ci}{bs bm Ba:List cr}{hdct:Bool}{sn:List Str}{sub:List cr}{ab:Bool}{col:Option Bool}{dd:Option ci}{k0 k1 k2 k3 k5:Option cr}{newId:String}
theorem BE(F:jm "ValueError" newId "ValueError.__init__" Ba){c:List cr} 
 (i:h.get? C=some (iI nm q C N bs bm hdct sn sub ab col dd k0 k1 k2 k3 k5 newId)) (j:h.get? x=some ox) (f:ox.cls=.ref C) (k:Q () ⟨h,g,d,t,os⟩) :
    fO M A (checkBoundCall "ValueError.__init__" ⟨.ref x::c,[]⟩) Q E ⟨h,g,d,t,os⟩:=by
  have e:=F.noStar
  simp only[checkBoundCall,F.initKind,F.initRow]
  rw[fE q0q]
  repeat (first|(with_reducible refine iO j ?_;rw[f])|with_reducible refine iO i ?_|wp_step)
  refine nP ?_
  rw[show ∀(a b:String)(n:Nat),Bind.check ⟨.positional,"*","ValueError",.self,[⟨"args",.varPos,false⟩]⟩ a b n (List.map (λx=>x.fst) ({ pos:=fZ x::c}:Args).kw)=pure () from
    λa b n=>check_star_args _ _ _ _ _ _]
  exact ap k
theorem So(F:jm "ValueError" newId "ValueError.__init__" Ba){a:List cr}(p:h.get? C=some (iI nm q C N bs bm hdct sn sub ab col dd k0 k1 k2 k3 k5 newId))(e:h.get? j=some (wB x))(k:h.get? x=some ox)(f:ox.cls=.ref C)(m:ox.data=.fields n)(o:n[0]?=some (.ref B))
 (r:Q .none ⟨(h.push { cls:=.type "tuple",data:=.seq a.toArray}).update x (Obj.mapFields (·.setIfInBounds 0 (.ref h.objs.size))),g,d,t,os⟩) (c:a.length<=fK:=by size_fits) :
    fO (fS prog w) A (call (.ref j) a) Q E ⟨h,g,d,t,os⟩:=by
  refine k8<|kY ?_
  show fO _ _ (callAny (.ref j) ⟨a,[]⟩) _ _ _
  unfold callAny
  refine am<|pM e ?_
  have s:((wB x).cls==.type "method"||(wB x).cls==.type "builtin_function_or_method"||(wB x).cls==.type "method-wrapper")=true:=by rw[show (wB x).cls=.type "method-wrapper" from rfl];decide
  have u:((wB x).cls != .type "method")=true:=by rw[show (wB x).cls=.type "method-wrapper" from rfl];decide
  have v:(wB x).data=.fields #[.builtin "ValueError.__init__",.ref x]:=rfl
  simp only[v,s,oz]
  have y:(#[.builtin "ValueError.__init__",.ref x]:Array cr)[0]?=some (.builtin "ValueError.__init__"):=rfl
  have z:(#[.builtin "ValueError.__init__",.ref x]:Array cr)[1]?=some (.ref x):=rfl
  simp only[y,z,u,oz]
  refine am<|BE F p k f<|ap ⟨jH F.init.plain _,iQ F.initEntry ?_⟩
  rw[iD F.init.plain]
  unfold Builtin.«BaseException.__init__»
  dsimp only
  rw[fF q0o]
  unfold newTuple sE
  have i:0<n.size:=(Array.getElem?_eq_some_iff.mp o).1
  have b:=ce (h:=h) { cls:=.type "tuple",data:=.seq a.toArray} k
  refine am<|gN (am<|am<|hL b m o<|am<|lG b m i ?_) (by show a.toArray.size<=fK;rw[fW];exact c)
  exact qQ<|ap r
end
open Builtin Builtin.ObjectAttr
section
variable{prog:gf}{w:gu}{A:gJ}{E:cr->fH->Prop}{h:gE}{g:Array nX}{d:Drawn}{t:Nat}{os:OsState}{x C N:ci}{o:Obj}{v:cr}{name:Str}
variable{nm q:Str}{bs bm Ba:List cr}{sn:List Str}{sub:List cr}{ab:Bool}{col:Option Bool}{dd:Option ci}{k0 k1 k2 k3 k5:Option cr}{B newId sa owner:String}
theorem Mt(e:StoreFacts B Ba sa owner)(f:bm.contains (.type owner)=true)
 (l:h.get? C=some (iI nm q C N bs bm true sn sub ab col dd k0 k1 k2 k3 k5 newId)) (m:h.get? x=some o) (n:o.cls=.ref C) (j:Q () ⟨h,g,d,t,os⟩) :
    fO M A (checkBuiltinCall sa ⟨[.ref x,a,v],[]⟩) Q E ⟨h,g,d,t,os⟩:=by
  have i:(fZ C::bm).contains (.type owner)=true:=by rw[sW,f,Bool.or_true]
  have k:=e.args (.ref x) a v
  simp only[checkBuiltinCall,e.kind,e.split]
  refine am ?_
  unfold rX
  repeat (first|(with_reducible refine iO m ?_;rw[n])|(with_reducible refine pH l ?_;rw[i])|wp_step)
  cases b:Manifest.signature? sa with
  | none=>exact ap j
  | some c =>
    simp only[qw,b] at k
    have p:Bind.checkArgs sa c ⟨[.ref x,a,v],[]⟩=pure ():=k
    show fO M A (Bind.checkArgs sa c ⟨[.ref x,a,v],[]⟩) Q E _
    rw[p];exact ap j
set_option tactic.hygienic true in
theorem Jo(m:rY (.ref x) "__setattr__" bm=pure ())
 (O:h.get? C=some (iI nm q C N bs bm true sn sub ab col dd k0 k1 k2 k3 k5 newId)) (L2:iR (fS prog w) h (k9 (.ref C) name) none)
 (l:h.get? x=some o) (P:o.cls=.ref C) (n:∀c,o.data≠.cls c) (p:o.dict=none)
 (R:∀i r s,h.get? s=none->(∀b u,b≠x->h.get? b=some u->i.get? b=some u)->i.get? x=some { cls:=o.cls,dict:=some s,data:=o.data,slots:=o.slots}->i.Ns1 s (λy=>if y=name then some v else none)->Q (.done<|.ret .none) ⟨i,g,d,r,os⟩) :
    fO (fS prog w) A (Builtin.«object.__setattr__» ⟨[.ref x,.str name S,v],[]⟩) Q E ⟨h,g,d,t,os⟩:=by
  unfold Builtin.«object.__setattr__»
  repeat (first|rw[refuse_eq]|(rw[refuseLoop_ref,m])|(with_reducible refine iO l ?_;rw[P])|with_reducible refine wpAny_mroOf_exc O ?_|(with_reducible refine PySem.W.Looks.at L2 ?_)|wp_step)
  rw[p,fF<|by simp[typeHasDict]]
  split
  · rename_i f
    cases f
  split
  · rename_i c f
    exact fY f<|n c
  · have a : (h.push { cls := .type "dict", data := .dict #[] }).get? x = some o := ce _ l
    have j:x≠h.objs.size:=fX<|fQ l
    refine am<|wpAny_alloc' ?_
    refine am<|wpAny_update' a ?_
    refine ap ?_
    have z:((h.push { cls:=.type "dict",data:=.dict #[]}).update x λo=>{ cls:=o.cls,dict:=some h.objs.size,data:=o.data,slots:=o.slots}).get? h.objs.size
       =some { cls:=.type "dict",data:=.dict #[]} :=
      (oM _ _ _ _ j.symm).trans (mM rfl rfl)
    have D:((h.push { cls:=.type "dict",data:=.dict #[]}).update x λo=>{ cls:=o.cls,dict:=some h.objs.size,data:=o.data,slots:=o.slots}).Ns h.objs.size (λ_=>none) :=
      ⟨_,#[],_,z,rfl,λe T=>fY T q0o,λ_=>rfl⟩
    show fO _ _ (storeInDict h.objs.size (.str name S) name v) _ _ _
    unfold storeInDict newKeyGuard
    refine am<|ap<|am<|wpAny_nsSet1 (rB D) λi k L=>?_
    obtain⟨Y,U,V,F,G,H⟩:=k.count<|Within.cons name v Within.nil
    refine am<|wpAny_lookBehind F (by rw[G];exact pastItsLine_dict<|gZ H<|by rw[gk,lO,hX];lia) ?_
    wp_walk
    refine R i _ h.objs.size (lJ<|fJ _) (λb u I M=>?_) ?_ k
    · exact(L.2 b<|fX<|fQ M).trans<|(oM _ _ _ _ I).trans<|ce _ M
    · refine(L.2 x j).trans (gP _ a ?_)
      have J:=(Heap.get?_some_iff.mp l).2
      obtain⟨Z,od,K,X⟩:=o
      cases K<;>first|rfl|exact J
theorem HC(i:StoreFacts B Ba sa owner)(j:bm.contains (.type owner)=true)(k:rY (.ref x) "__setattr__" bm=pure ())
 (r:h.get? C=some (iI nm q C N bs bm true sn sub ab col dd k0 k1 k2 k3 k5 newId)) (u:iR (fS prog w) h (k9 (.ref C) "__setattr__") (some<|.builtin sa)) (L2:iR (fS prog w) h (k9 (.ref C) name) none)
 (l:h.get? x=some o) (m:o.cls=.ref C) (n:∀c,o.data≠.cls c) (p:o.dict=none)
 (z:∀e a f,h.get? f=none->(∀b s,b≠x->h.get? b=some s->e.get? b=some s)->e.get? x=some { cls:=o.cls,dict:=some f,data:=o.data,slots:=o.slots}->e.Ns1 f (λy=>if y=name then some v else none)->Q () ⟨e,g,d,a,os⟩) :
    fO (fS prog w) A (setAttr (.ref x) name v) Q E ⟨h,g,d,t,os⟩:=by
  have I:=i.slot.bind<|.ref x
  unfold setAttr callSpecial? specialOf
  repeat (any_goals (first|assumption|(with_reducible refine iO l ?_;rw[m])|(with_reducible refine PySem.W.Looks.at u ?_)|wp_step))
  refine ma i.slot.plain i.entry<|Mt i j r l m<|Jo k r L2 l m n p λe a f D F G H=>?_
  repeat (any_goals (first|assumption|wp_step))
  exact z e a f D F G H
end
def X6(C x:ci)(d:Option ci)(h:gE):Prop:=∃(a:ci),h.get? x=some { cls:=.ref C,dict:=d,data:=.fields #[.ref a,.none,.none,.none,.bool false,.none]}
def CF(C x:ci)(d:Option ci):HO:=.ext<|X6 C x d
theorem FL(I:Inv X a c H s)(h:H x=some (CF C x b)):X6 C x b s.heap:=(I.uO x _ h).1
theorem Jq(q:X6 C x b h):u7 P w H h x (CF C x b) :=
 ⟨q,MZ q λ_ e=> ⟨_,e⟩,λf g a=>MZ a λc d k=>⟨c,k _ d⟩⟩
theorem cw_mw(i:fG (e::f) b=(false,eval e b)::fG f b)(c:(ij pos<|fG f b).any (·.1)=false)
 (h:fO M B (o7<|ij pos<|fG (e::f) b) (λj d=>d.heap.get? q=some (wB a)/\fO M B (call (.ref q) j) Q g d) g k):fO M B (lZ pos (.ref q) [] (ij pos<|fG (e::f) b) []) Q g k:=by
  rw[i] at h ⊢
  exact og (P:=λh=>h.get? q=some (wB a)) (by show ((false||(ij pos<|fG f b).any (·.1))||false)=false;rw[c];rfl) O3<|iE h
def X7(C:ci)(t:TA):TE:=λb H Q=>∃a,b[0]?=some (some<|.ref a)/\H a=some (CF C a none)/\t b H λd c=>d.length<=fK/\c a=some (CF C a none)/\Q .vC c
section
variable{P:gf}{w:gu}{K:fB}{mg:Str->Option cr}{base:gE}{N:List Str}{qual:Str}{scope:jO}{f yh cc:ci}{A:gJ}{outer:List Env}{s:fH}{H:Hp}{E:XK}{C:ci}{x0:Str}{fb:List gy}{p0 p1 apos pos:Pos}{es:List gA}{e0:gA}{ta:TA}
variable{nm q:Str}{Ns:ci}{bs bm:List cr}{hdct:Bool}{sn:List Str}{sub:List cr}{ab:Bool}{col:Option Bool}{dd:Option ci}{k0 k1 k2 k3 k5:Option cr}
set_option tactic.hygienic true in
theorem O5(S:Jk P K C f yh cc x0)(Z:N[0]?=some x0)(U:scope.names.lookup ("super":Str)=some .globalImplicit)(V:scope.names.lookup ("__class__":Str)=some .free)(B:scope.names.lookup x0=some .local)(ae:mg "super"=none)
 (lC:K.lookup C=some (iI nm q C Ns bs bm hdct sn sub ab col dd k0 k1 k2 k3 k5 "ValueError.__new__")) (hm:iZ K C C "__init__"=some (some<|.builtin "ValueError.__init__")) (af:jK K C (.type "ValueError")=some true)
 (ha:PA (Ji (uP P w) P w K mg base N qual scope f (.ref yh) [("__class__",cc)] A outer s H E) (e0::es) ta)
 (he:fG (e0::es) (gU qual scope s.heap.objs.size f (.ref yh) [("__class__",cc)])=(false,eval e0<|gU qual scope s.heap.objs.size f (.ref yh) [("__class__",cc)])::fG es (gU qual scope s.heap.objs.size f (.ref yh) [("__class__",cc)]))
 (l:(ij pos<|fG es<|gU qual scope s.heap.objs.size f (.ref yh) [("__class__",cc)]).any (·.1)=false) (D:Mr p0 p1 apos pos "__init__" (e0::es)) :
    YD (Ji (uP P w) P w K mg base N qual scope f (.ref yh) [("__class__",cc)] A outer s H E) fb (.Call (.Attribute (.Call (.Name "super" p0) [] [] p1) "__init__" apos) (e0::es) [] pos) (X7 C ta):=by
  intro n i σ H1 Q I h
  refine ux h λa h0 ea h=>?_
  have X:=I.xI
  obtain⟨oc,od,fd,aq,Y,lf,hp,rfl⟩:=S.fn
  obtain⟨au,av,aw,al,file,tf,lc,ag,G⟩:=S.code
  obtain⟨an,ao,aa,L⟩:=S.cell
  obtain⟨cd,j⟩:=S.cls
  obtain⟨t0,O⟩:=FL I ea
  refine tX I.loc λmL hn hl=>?_
  refine tX (hl 0 Y.arg (.ref a) Z h0<|.inl B) λu ru lk=>?_
  obtain rfl:u=fZ a:=ru
  have ah:mL Y.arg=some (.ref a):=by
    rcases lk with⟨_,q⟩|⟨q,_⟩
    · exact q
    · have q : scope.names.lookup Y.arg = some .cell \/ scope.names.lookup Y.arg = some .free := q
      rw[B] at q
      rcases q with q|q<;>cases q
  obtain⟨oD,M,R⟩:∃oD,i.heap.get? C=some oD/\oD.data=.cls cd:=by
    unfold lj at j
    split at j
    · rename_i c d ax sl ho
      cases j
      exact⟨_,X _ _ ho,rfl⟩
    · cases j
  refine tX I.mod.blt λmb ai aj=>?_
  have ne:a≠C:=λz=>by
    rw[z,M] at O
    cases O
    cases R
  obtain⟨pl,D⟩:=D<|gU qual scope s.heap.objs.size f (.ref yh) [("__class__",cc)]
  refine ks_wpAt_MethodCall (pl:=pl) (ks_wpAt_super_base (env:=gU qual scope s.heap.objs.size f (.ref yh) [("__class__",cc)]) U V q0q rfl (X _ _ lf) rfl hp rfl (X _ _ lc) rfl ag G S.top ?_) D
  refine pU I.ok.kind U<|mE (env:=gU qual scope s.heap.objs.size f (.ref yh) [("__class__",cc)]) (I.mod.glob.keeps I.bk) ae (ai.keeps I.bk) ((aj _ q0s).trans rfl) ⟨rfl,?_⟩
  refine pr I.ok.kind V rfl ⟨_,X _ _ L,rfl⟩ ?_
  refine jy I.ok.kind B hn ah ?_
  refine ks_wpAny_isType_cls (h:=i.heap) (g:=i.gens) (d:=i.drawn) (t:=i.toks) (os:=i.os) M R ⟨rfl,?_⟩
  refine ks_wpAny_call_super (h:=i.heap) (g:=i.gens) (d:=i.drawn) (t:=i.toks) (os:=i.os) M R O rfl (λc e=>by cases e) (oh X S.sub) λp e k'=>?_
  have T:Inv _ n σ H1 ⟨p,i.gens,i.drawn,i.toks,i.os⟩:=I.kept (t':=i.toks) k'
  unfold iZ at hm
  rw[j] at hm
  refine An e (q7 T.xI S.opq) (l0:=cd.mro) (λA Q E s k q=>am<|(nZ T.xI j) A _ E s k<|ap q) rfl T.xI hm (k' _ _ O) rfl (oh T.xI af) ne ?_
  have I2:Inv _ n σ H1 ⟨p.push<|wB a,i.gens,i.drawn,i.toks+1,i.os⟩:=T.kept (t':=i.toks+1) λb o z=>ce _ z
  have fr:H1 p.objs.size=none:=T.uO.fresh<|fJ _
  have gq:(p.push<|wB a).get? p.objs.size=some (wB a):=mM rfl rfl
  have I3:=I2.pinned (fp:=[p.objs.size]) (λb y=>by rw[List.mem_singleton.mp y];exact T.ET (fJ _) fr) λb y=>by rw[List.mem_singleton.mp y];exact⟨_,gq,λv z=>by cases z⟩
  refine cw_mw (a:=a) he l<|uL (ha pos _ _ σ H1 _ I3 h) λus s2 z9=>Uo z9 λvs H2 I4 r q1 q2 q3=>?_
  have g2:s2.heap.get? p.objs.size=some (wB a):=(I4.pin (p.objs.size,wB a)<|gg _<|gg _<|wC fM gq).1
  refine⟨g2,?_⟩
  have I5:=I4.yV
  obtain⟨t1,O1⟩:=FL I5 q2
  have ak:=I5.xI
  obtain⟨m,g5,d5,t5,ay⟩:=s2
  refine So gw (ak _ _ lC) g2 O1 rfl rfl rfl ?_ (by show us.length<=_;rw[<- r.length];exact q1)
  have hu:upd H2 a (CF C a none)=H2:=by
    funext b
    by_cases y:b=a
    · rw[y, tZ, q2]
    · rw[ss y]
  have O2:=gP (f:=Obj.mapFields (·.setIfInBounds 0 (.ref m.objs.size))) (ce { cls:=.type "tuple",data:=.seq us.toArray} O1) rfl
  have J:=I5.write (x:=a) (e:=a) (o:=CF C a none) (t':=t5) (h':=(m.push { cls:=.type "tuple",data:=.seq us.toArray}).update a (Obj.mapFields (·.setIfInBounds 0 (.ref m.objs.size)))) (by rw[q2];trivial) (.inl rfl)
    (λb u y z=>by rw[oM _ _ _ _ y];exact ce _ z) ⟨_,O2⟩ (Jq ⟨m.objs.size,O2⟩)
  rw[hu] at J
  exact⟨.vC,H2,J,rfl,q3⟩
end
theorem wU.Z5{t:gE}(k:wU P w H h)(m:H a=some (CF C a none))(n:h.get? l=none)(A:∀b o,b≠a->h.get? b=some o->t.get? b=some o)(q:X6 C a d t)(D:t.Ns1 l (λz=>if z=f then some u else none))(r:RelV y u) :
  wU P w (upd (upd H l<|.xd [(f,y)]) a<|CF C a d) t/\∀B,Un B [] H (upd (upd H l<|.xd [(f,y)]) a<|CF C a d) h t:=by
 have E:∀b v,H b=some v->b≠l:=λb v z e=>by obtain⟨o,i⟩:=zC k z;rw[e,n] at i;cases i
 have j:∀b v,H b=some v->(∀x,v≠.ext x)->upd (upd H l<|.xd [(f,y)]) a (CF C a d) b=some v:=λb v z e=>by rw[ss λi=>by rw[i,m] at z;cases z;exact e _ rfl,ss<|E b v z];exact z
 have F:∀b x o,H b=some o->o=.tup x->b≠a:=λb x o z e i=>by rw[i,m,e] at z;cases z
 refine⟨λb o z=>?_,λB=>⟨λb o z e _ _=>A b o (λi=>by rw[i,m] at e;cases e) z,λb o z e _ _=>⟨o.slots,A b o (λi=>by rw[i,m] at e;cases e) z⟩,λb o z e _=>?_,λb o z _=>?_,λb x z=>j b _ z (λ_ e=>by cases e),λb o v z=>j b _ z (λ_ e=>by cases e),λb J z=>⟨#[],by rw[j b _ z<|λ_ e=>by cases e];simp⟩⟩⟩
 ·by_cases e:b=a
  ·subst e;rw[tZ] at z;cases z;exact Jq q
  ·rw[ss e] at z;by_cases i:b=l
   ·subst i;rw[tZ] at z;cases z;refine⟨_,D,λg=>?_⟩;by_cases p:g=f
    ·rw[p,List.lookup_cons_self,fE rfl];exact r
    ·rw[ig,beq_false_of_ne p,fF p];exact True.intro
   ·rw[ss i] at z;refine(k b o z).Ca (λc v s y=>A c v (λp=>?_) y) (λc y=>j c _ y λ_ e=>by cases e) λc F y=>j c _ y λ_ e=>by cases e
    rcases s with s|s
    ·exact e<|s▸p
    ·rw[p,m] at s;cases s
 ·have G:b≠a:=λi=>by rw[i,m] at e;cases e
  have I:b≠l:=λi=>by rw[i,n] at z;cases z
  rw[ss G,ss I];exact e
 ·by_cases e:b=a
  ·obtain⟨_,q⟩:=q;rw[e];exact⟨_,q⟩
  ·exact⟨_,A b o e z⟩
def X8(C:ci)(f:Str)(e g:TE):TS:=λD c H=>g c H λy h=>e c h λx d=>∃a,x=.ref a/\d a=some (CF C a none)/\∀b,d b=none->b≠a->D.nx c (upd (upd d b<|.xd [(f,y)]) a<|CF C a<|some b)
section
variable{X:Cx}{o e value:gA}{f:Str}{pos pos':Pos}{ta tv:TE}{C:ci}
variable{nm q:Str}{Ns:ci}{bs bm:List cr}{sn:List Str}{sub:List cr}{ab:Bool}{col:Option Bool}{dd:Option ci}{k0 k1 k2 k3 k5:Option cr}{newId:String}
theorem Sq(E:PE X o ta)(G:PE X value tv)(J:i4 value (some<|.Attribute o f pos') pos.line X.env=pure false)
 (L:X.K.lookup C=some (iI nm q C Ns bs bm true sn sub ab col dd k0 k1 k2 k3 k5 newId)) (l:bm.contains (.type "object")=true) (m:∀x:ci,rY (.ref x) "__setattr__" bm=pure ())
 (M:gr X.K (.ref C) "__setattr__"=some (some<|.builtin "object.__setattr__"))(N:gr X.K (.ref C) f=some none):PS X (.Assign [.Attribute o f pos'] value pos) (X8 C f ta tv):=by
  intro b s n H D I h
  refine qk (uL (G b s n H _ I h) λu P p=>ut p λy Q R S q=>uL (E b P n Q _ R q) λT U p=>ut p λx A i V r=>ux r λa Y B Z=>?_) J
  subst Y
  obtain rfl:T=fZ a:=V
  obtain⟨t0,O⟩:=FL i B
  have v:=i.xI
  obtain⟨hp,g,d,t,os⟩:=U
  refine HC PySem.F.store_ValueError l (m a) (v _ _ L) (nE v M) (nE v N) O rfl (λc z=>by cases z) rfl λh' w j k z2 z3 z4=>?_
  have n1:A j=none:=by
    cases z:A j with
    | none=>rfl
    | some o=>obtain⟨u,q⟩:=zC i.uO z;rw[k] at q;cases q
  have na:j≠a:=λz=>by rw[z,O] at k;cases k
  obtain⟨k1,k2⟩:=wU.Z5 (d:=some j) i.uO B k z2 ⟨t0,z3⟩ z4 S
  exact⟨n,_,i.un (h':=h') (t':=w) (k2 _) k1,Z j n1 na⟩
end
section
variable{prog:gf}{w:gu}{M:Model}{A:gJ}{E:cr->fH->Prop}{s:fH}{env:Env}
variable{nm q:Str}{C N:ci}{bs bm Ba:List cr}{hdct:Bool}{sn:List Str}{sub:List cr}{ab:Bool}{col:Option Bool}{dd:Option ci}{k0 k1 k2 k3 k5:Option cr}{B newId wq:String}
theorem HD(b:bm.contains (.type "BaseException")=true)(k:A.handled=none)
 (h:fO M A x (λv a=>∃e t i,v=.ref e/\a.heap.get? C=some (iI nm q C N bs bm hdct sn sub ab col dd k0 k1 k2 k3 k5 newId) /\
 a.heap.get? e=some { cls:=.ref C,dict:=i,data:=.fields #[.ref t,.none,.none,.none,.bool false,.none]}/\E (.ref e) a) E s) :
    fO M A (raiseStmt env (some x) none) Q E s:=by
  have f:(fZ C::bm).contains (.type "BaseException")=true:=by rw[sW,b,Bool.or_true]
  unfold raiseStmt
  refine am<|hJ h (λv a c=>?_) λ_ _ x=>x
  obtain⟨e,t,i,rfl,j,l,m⟩:=c
  obtain⟨n,g,d,o,p⟩:=a
  repeat (first|with_reducible refine iO l ?_|with_reducible refine iO j ?_|(with_reducible refine pH j ?_;rw[f])|wp_step)
  exact wpAny_raiseNew_none k m
theorem HE(F:jm B newId wq Ba) 
 (m:bm.contains (.type "BaseException")=true) (S:A.handled=none) (j:(ij k<|fG args env).any (·.1)=false)
 (h:fO (fS prog w) A (eval (.Name x np) env) (λf l=>f=.ref C/\fO (fS prog w) A (evalArgs (.ref C) true (ij k (fG args env)) [])
 (λa b=>a.kw=[]/\a.pos.length<=fK/\b.heap.get? C=some (iI nm q C N bs bm hdct sn sub ab col dd k0 k1 k2 k3 k5 newId)/\(∃y,b.heap.Ns N y/\y "__init__"=some (.ref fI))/\(∃D,b.heap.get? fI=some D/\D.cls=.type "function")/\rq b.heap Ba bm /\
 ∀p e,qr b.heap p e (.ref C) a.pos->fO (fS prog w) (A.under (.builtin "type.__call__" ⟨.ref C::a.pos,[]⟩)) (call (.ref fI) (.ref e::a.pos)) (λr u=>r=.none/\u.heap.get? C=some (iI nm q C N bs bm hdct sn sub ab col dd k0 k1 k2 k3 k5 newId) /\
 (∃t G,u.heap.get? e=some { cls:=.ref C,dict:=G,data:=.fields #[.ref t,.none,.none,.none,.bool false,.none]})/\E (.ref e) u) E { b with heap:=p}) E l) E s) :
    fO (fS prog w) A (exec (.Raise (some<|.Call (.Name x np) args [] k) none pos) env) Q E s:=by
  rw[arm_exec_Raise]
  refine am<|lY<|HD (C:=C) (nm:=nm) (q:=q) (N:=N) (bs:=bs) (bm:=bm) (hdct:=hdct) (sn:=sn) (sub:=sub) (ab:=ab) (col:=col) (dd:=dd) (k0:=k0) (k1:=k1) (k2:=k2) (k3:=k3) (k5:=k5) (newId:=newId) m S<|am<|hJ (wpAny_Call_ofName<|hJ h (λf l c=>?_) λ_ _ x=>x) (λv L n=>am<|lY<|ap n) λ_ _ x=>x
  obtain⟨rfl,c⟩:=c
  unfold lZ
  refine am<|gC<|hJ c (λa b i=>am<|lY ?_) λ_ _ x=>x
  obtain⟨O,H⟩:=a
  obtain⟨I,o,P,⟨y,U,V⟩,⟨D,J,K⟩,T,i⟩:=i
  obtain rfl:H=[]:=I
  obtain⟨hp,g,d,tk,os⟩:=b
  simp only[j]
  refine am<|wpAny_keeperOf_exc P ?_
  refine am<|Dz (hrest:=o) F T P U V J K λp e W=>hJ (i p e W) (λr u R=>⟨R.1,?_⟩) λ_ _ z=>z
  obtain⟨_,X,⟨t,G,Y⟩,Z⟩:=R
  exact am<|gC<|wpAny_point<|ap ⟨e,t,G,rfl,X,Y,Z⟩
end
def AT(H:Hp)(x:ci):Hp:=λb=>if b=x then none else H b
theorem yD:AT H x x=none:=fE rfl
theorem wZ(h:b≠x):AT H x b=H b:=fF h
section
variable{P:gf}{w:gu}{H H3 H4:Hp}{h h' h4:gE}{x C:ci}{c:Option ci}
theorem wU.O6(k:wU P w H h)(e:H x=some (CF C x c)):wU P w (AT H x) h:=λa o z=>by
 have g:a≠x:=λq=>by rw[q,yD] at z;cases z
 rw[wZ g] at z
 have d:∀b u,H b=some u->(∀f,u≠.ext f)->AT H x b=some u:=λb u q n=>by rw[wZ λy=>by rw[y,e] at q;cases q;exact n _ rfl];exact q
 exact(k a o z).Ca (λ_ _ _ q=>q) (λb q=>d b _ q λf y=>by cases y) λb i q=>d b _ q λf y=>by cases y
theorem wU.FM(k:wU P w H h)(e:h.get? x=none):H x=none:=by
 cases z:H x with
 | none=>rfl
 | some o=>obtain⟨u,q⟩:=zC k z;rw[e] at q;cases q
theorem wU.K1(k:wU P w H h)(e:h.get? x=none)(f:∀b o,h.get? b=some o->h'.get? b=some o)(n:X6 C x c h'):wU P w (upd H x<|CF C x c) h':=λa o z=>by
 by_cases q:a=x
 ·subst q;rw[tZ] at z;cases z;exact Jq n
 ·rw[ss q] at z;have d:∀b u,H b=some u->upd H x (CF C x c) b=some u:=λb u y=>by rw[ss λg=>by rw[g,k.FM e] at y;cases y];exact y
  exact(k a o z).Ca (λ_ _ _ y=>f _ _ y) (λb y=>d b _ y) λb i y=>d b _ y
theorem Un.K1(k:wU P w H h)(e:h.get? x=none)(d:∀b o,h.get? b=some o->h'.get? b=some o):Un fs [] H (upd H x<|CF C x c) h h':=by
 have a:∀b u,H b=some u->upd H x (CF C x c) b=some u:=λb u y=>by rw[ss λf=>by rw[f,k.FM e] at y;cases y];exact y
 refine⟨λb o z _ _ _=>d b o z,λb o z _ _ _=>⟨o.slots,d b o z⟩,λb o z n _=>?_,λb o z _=>⟨o,d b o z⟩,λb g z=>a b _ z,λb o u z=>a b _ z,λb i z=>⟨#[],by rw[a b _ z];simp⟩⟩;rw[ss λy=>by rw[y,e] at z;cases z];exact n
theorem Un.O6(u:Un fs [] H H4 h h4)(e:h.get? x=none)(d:H x=none):Un fs [] H (AT H4 x) h h4:=by
 have a:∀b v,H b=some v->b≠x:=λb v y z=>by rw[z,d] at y;cases y
 refine⟨u.keep,u.slot,λb o z n f=>?_,u.there,λb g z=>?_,λb o v z=>?_,λb i z=>?_⟩
 ·rw[wZ λy=>by rw[y,e] at z;cases z];exact u.free b o z n f
 ·rw[wZ<|a b _ z];exact u.Ap b g z
 ·rw[wZ<|a b _ z];exact u.Aa b o v z
 ·rw[wZ<|a b _ z];exact u.Ab b i z
end
def Sr(C:ci)(f:Sp)(a:List V)(E:XK)(h:TA):TS:=λ_ i H=>h i H λc e=>c.length<=fK/\∀x:ci,e x=none ->
 f (.ref x::c++a) (upd e x<|CF C x none) (λv b=>v=.vC/\∃d,b x=some (CF C x d)/\GX.g C d (AT b x)/\E (.ref C) (some x) (AT b x)) λ_ _ _=>False
section
variable{P:gf}{w:gu}{K:fB}{mg:Str->Option cr}{base:gE}{N:List Str}{qual:Str}{scope:jO}{f:ci}{cd:cr}{A:gJ}{outer:List Env}{s:fH}{H:Hp}{E:XK}
variable{nm q:Str}{Ns:ci}{bs bm Ba:List cr}{hdct:Bool}{sn:List Str}{sub:List cr}{ab:Bool}{col:Option Bool}{dd:Option ci}{k0 k1 k2 k3 k5:Option cr}{B newId wq:String}
theorem Mu{k:Nat}(hg:Gl (uR (uP P w) P w K mg base N qual scope f cd A outer s H E) x)(hm:mg x=some (.ref C))
 (lC:K.lookup C=some (iI nm q C Ns bs bm hdct sn sub ab col dd k0 k1 k2 k3 k5 newId)) (Z:∀h:gE,K.In h->∃mN,h.Ns Ns mN/\mN "__init__"=some (.ref fI)) (hT:∀h:gE,K.In h->rq h Ba bm) (lI:K.lookup fI=some oI) (aa:oI.cls=.type "function")
 (FB:jm B newId wq Ba) (n:bm.contains (.type "BaseException")=true) (FI:uE P w K mg base (uP P w) k fI fd ps sp) (j:Binds K fd ps U) (ae:Vals p U) (hr:vq (k+1) (uR (uP P w) P w K mg base N qual scope f cd A outer s H E).A)
 (ha:PA (uR (uP P w) P w K mg base N qual scope f cd A outer s H E) args ta) (af:(x==("__debug__":Str))=false)
 (ag:(ij cpos<|fG args (uR (uP P w) P w K mg base N qual scope f cd A outer s H E).env).any (·.1)=false)
 (ah:∀(Q:Args->fH->Prop)(E':cr->fH->Prop)(s9:fH),fO (fS P w) (uR (uP P w) P w K mg base N qual scope f cd A outer s H E).A (o7<|ij cpos<|fG args (uR (uP P w) P w K mg base N qual scope f cd A outer s H E).env) (λV y=>Q ⟨V,[]⟩ y) E' s9->fO (fS P w) (uR (uP P w) P w K mg base N qual scope f cd A outer s H E).A (evalArgs (.ref C) true (ij cpos<|fG args (uR (uP P w) P w K mg base N qual scope f cd A outer s H E).env) []) Q E' s9) :
    PS (uR (uP P w) P w K mg base N qual scope f cd A outer s H E) (.Raise (some<|.Call (.Name x np) args [] cpos) none pos) (Sr C sp p E ta):=by
  intro a s1 σ H1 D I h
  have hA:=ha cpos a s1 σ H1 _ I h
  refine HE (prog:=P) (w:=w) (C:=C) (nm:=nm) (q:=q) (N:=Ns) (bs:=bs) (bm:=bm) (hdct:=hdct) (sn:=sn) (sub:=sub) (ab:=ab) (col:=col) (dd:=dd) (k0:=k0) (k1:=k1) (k2:=k2) (k3:=k3) (k5:=k5) (fI:=fI)
    FB n (I.ok.hd rfl) ag (yo I hg hm ⟨rfl,?_⟩ af)
  refine ah _ _ _<|hJ hA (λl G q2=>?_) λ_ _ z=>z
  refine vt q2 λV H2 F r2 hl M=>?_
  have X:=F.xI
  refine⟨rfl,by show l.length<=fK;rw[<- r2.length];exact hl,X _ _ lC,Z _ X,⟨oI,X _ _ lI,aa⟩,hT _ X,λY e made=>?_⟩
  refine ux made.there λt ai _ _=>?_
  have n2:H2 e=none:=F.uO.FM made.new
  have I3:Inv (uR (uP P w) P w K mg base N qual scope f cd A outer s H E) a σ (upd H2 e<|CF C e none) { G with heap:=Y,toks:=G.toks}:=F.un (Un.K1 F.uO made.new made.keeps)<|F.uO.K1 made.new made.keeps ⟨t,ai⟩
  have r3:Vals (.ref e::V++p) (.ref e::l++U):=.cons rfl<|Vals.append r2 ae
  have aj:(fZ e::l++U).length=ps.length:=by rw[<- r3.length];exact FI.len _ _ _ _<|M e n2
  refine k8<|iY (FI.run _ _ { G with heap:=Y} _ ⟨.ref e::l,[]⟩ (.ref e::l++U) (.ref e::V++p) _ _ (hr.make C l []) (I3.GZ.make C l []) (j { G with heap:=Y} (.ref e::l) I3.xI aj) r3 (M e n2)) λr y O=>?_
  cases r with
  | error e'=>obtain⟨_,_,_,_,_,z⟩:=O;exact z.elim
  | ok fl =>
    cases fl with
    | next=>exact gB O
    | brk=>exact gB O
    | cont=>exact gB O
    | ret u =>
      obtain⟨v,H4,R,i,S,m,rv,rfl,c,e4,gd,hE⟩:=id O
      have T:(uR (uP P w) P w K mg base N qual scope f cd A outer s H E).stack=(uR (uP P w) P w K mg base N qual scope f cd A outer s H E).env::(uR (uP P w) P w K mg base N qual scope f cd A outer s H E).outer:=rfl
      have J:Inv (uR (uP P w) P w K mg base N qual scope f cd A outer s H E) a σ H4 y:=by
        obtain⟨hh,g,d,tt,ak⟩:=y
        obtain rfl:ak=G.os:=R
        exact Inv.call (s:={ G with heap:=Y}) (h':=hh) (g':=g) (d':=d) (t':=tt) (ch:=[]) I3 S m i<|λb z=>fY z q0o
      obtain⟨t4,O4⟩:=FL J e4
      refine⟨rv,J.xI _ _ lC,⟨t4,c,O4⟩,?_⟩
      have fu:=J.GZ.xz
      have al:(kB y.heap (e::yf (uR (uP P w) P w K mg base N qual scope f cd A outer s H E).stack)).get? e=none:=qS _ fM
      refine hJ (zX (base:=kB y.heap (e::yf (uR (uP P w) P w K mg base N qual scope f cd A outer s H E).stack)) (a0:=.ref t4) J.ok.frames
        (qz fu λan he b j=>fP _<|List.mem_filterMap.mpr ⟨an,he,j⟩) (wX J T) O4 (λb o z=>lR _ z) al rfl rfl rfl
        (Q:=λ_ ao=>uP P w outer H s E (.ref e) ao) λaq fl up dk=>?_) (λ_ _ z=>z) λ_ _ z=>z
      refine⟨C,e,AT H4 e,rfl,?_,hE⟩
      refine IU (s2:=y) F T rfl R i (Un.O6 ((Un.K1 F.uO made.new made.keeps).trans S) made.new n2) (m.O6 e4) (λb o z L nf=>nW _ z λj=>?_) (λb j=>?_) up fl ⟨_,dk,gd⟩
      · rcases List.mem_cons.mp j with rfl|j
        · rcases L with L|⟨o0, L⟩
          · exact L yD
          · rw[made.new] at L; cases L
        · exact nf j
      · have z := J.Yu b j
        refine⟨?_,(fu.mem j).2⟩
        by_cases q:b=e
        · rw[q, yD]
        · rw[wZ q]; exact z.1
end
def VN(K:fB)(C:ci)(c:Str):Sp:=λd H Q _=>∃x l b,d=[.ref x,.ref l]/\H x=some (CF C x none)/\(vn K H l b\/yg K H l b)/\∀p a,H p=none->H a=none->a≠x->a≠p->Q .vC (upd (upd (upd H p<|.lst b) a<|.xd [(c,.ref p)]) x<|CF C x<|some a)
section
variable{P:gf}{w:gu}{K:fB}{mg:Str->Option cr}{base:gE}{qual name:Str}{scope:jO}{f yh cc:ci}{C:ci}{k:Nat}{p0 p1 p2 p3 p4 p5 p6 p7 p8 p9 apos pos:Pos}{r fl tx:Str}{j:Nat}
variable{nm q:Str}{Ns:ci}{bs bm:List cr}{sn:List Str}{sub:List cr}{ab:Bool}{col:Option Bool}{dd:Option ci}{k0 k1 k2 k3 k5:Option cr}{params:Arguments}{dV kV doc pm ct oc:cr}{an od:Option ci}{LX:Array (Option cr)}{body:List gy}
theorem Ss(lk:K.lookup f=some ⟨oc,od,.func<|jr name qual params body scope [("__class__",cc)] dV kV doc pm an (.ref yh) ct,LX⟩)(g:iu K (.ref yh) qual=true)
 (m:body=[.Expr (.Call (.Attribute (.Call (.Name "super" p0) [] [] p1) "__init__" apos) [.Constant (.str tx) j p3] [] pos) p2,.Assign [.Attribute (.Name "self" p4) fl p5] (.Call (.Name "list" p6) [.Name r p7] [] p8) p9])
 (S:WL.xE ["self",r] ["self",r] scope) (D:Jk P K C f yh cc "self") (n:Mr p0 p1 apos pos "__init__" [.Constant (.str tx) j p3]) (o:mg "super"=none) (t:mg "list"=none) (u:scope.names.lookup ("list":Str)=some .globalImplicit)
 (M:K.lookup C=some (iI nm q C Ns bs bm true sn sub ab col dd k0 k1 k2 k3 k5 "ValueError.__new__")) (U:iZ K C C "__init__"=some (some<|.builtin "ValueError.__init__")) (v:jK K C (.type "ValueError")=some true)
 (B:bm.contains (.type "object")=true) (F:∀x:ci,rY (.ref x) "__setattr__" bm=pure ()) (X:gr K (.ref C) "__setattr__"=some (some<|.builtin "object.__setattr__")) (Y:gr K (.ref C) fl=some none)
 (G:(r==("__debug__":Str))=false) (I:(r==("__classdict__":Str))=false) :
    uE P w K mg base (uP P w) (k+1) f (jr name qual params body scope [("__class__",cc)] dV kV doc pm an (.ref yh) ct) ["self",r] (VN K C fl):=by
  obtain⟨o1,o2,o3,a⟩:=D.cell
  refine FH lk g (S.x cc) (λy c h=>?_) (λZ H Q E h=>?_) λA J s H Z Q E hr L=>?_
  · have e : c = cc := by
      by_cases e:(y==("__class__":Str))=true
      · rw[ig, e] at h; cases h; rfl
      · rw[ig, Bool.eq_false_iff.mpr e] at h; cases h
    subst e
    exact⟨_,_,a,rfl⟩
  · obtain⟨x, l, N, rfl, _⟩ := h; rfl
  · obtain⟨x, l, N, rfl, b, hl, hq⟩ := L
    rw[m]
    refine⟨_,xu (Dv (O5 D rfl S.ks S.kc (S.par _ fM) o M U v (ue EQ uu) rfl rfl n)) (xu (OP (Sq (Ih (i:=0) rfl (.inl (S.par _ fM)))
      (wD xm u t jw (ue (Ih (i:=1) rfl (.inl (S.par _ (fP _ fM))) G I) uu)) rfl M B F X Y)) (CB yp)),?_⟩
    have st:start ["self",r] [V.ref x,V.ref l]=[some<|.ref x,some<|.ref l]:=rfl
    rw[st]
    refine⟨x,rfl,b,?_,b,?_⟩
    · show (1 : Nat) <= fK
      rw[hX];lia
    · refine⟨.ref l, rfl, l, N, rfl, hl, λp O => ⟨.ref x, rfl, x, rfl, ?_, λR d n2 => ?_⟩⟩
      · rw[ss λz => by rw[z, O] at b; cases b]
        exact b
      · have T : R ≠ p := λz => by rw[z, tZ] at d; cases d
        rw[ss T] at d
        exact hq p R O d n2 T
end
end L2
namespace WL
variable[L2.GX]
open PySem L2
open Rep (rp)
open Ow (sl)
open Sls (rel)
structure Z6(P:gf)(w:gu)(K:fB)(mg:Str->Option cr)(base:gE)(k:Nat)(x:Str)(C:ci)(fl:Str):Prop where
 ex:∃(fI Ns:ci)(fd:gF)(oI:oq)(nm q:Str)(bs bm Ba:List cr)(hdct:Bool)(sn:List Str)(sub:List cr)(ab:Bool)(col:Option Bool)(dd:Option ci)(k0 k1 k2 k3 k5:Option cr)(B newId wq:String)(ps:List Str),
  mg x=some (.ref C)/\K.lookup C=some (iI nm q C Ns bs bm hdct sn sub ab col dd k0 k1 k2 k3 k5 newId)/\(∀h:gE,K.In h->∃mN,h.Ns Ns mN/\mN "__init__"=some (.ref fI))/\(∀h:gE,K.In h->rq h Ba bm)/\K.lookup fI=some oI/\oI.cls=.type "function" /\
  jm B newId wq Ba/\bm.contains (.type "BaseException")=true/\uE P w K mg base (uP P w) k fI fd ps (VN K C fl)/\Binds K fd ps []
 go:∀dx p xs H,H dx=some (.xd [(fl,.ref p)])->H p=some (.lst xs)->GX.g C (some dx) H
section
variable{P:gf}{w:gu}{K:fB}{mg:Str->Option cr}{base:gE}{N:List Str}{qual:Str}{scope:jO}{f:ci}{cd:cr}{A:gJ}{outer:List Env}{s:fH}{H:Hp}{E:XK}{T:ci}{ms:List Nat}{n k:Nat}{D D' D1 PO τ α:Type}[Sls D][Sls D'][Sls D1][Sls PO][Ow τ][Rep α]{pos:Pos}
theorem VO{x r o:Str}{i:Nat}{l c t:Pos}{C:ci}[J:Pj D PO n][At i D (OL α) D1](hg:Gl (uR (uP P w) P w K mg base N qual scope f cd A outer s H E) x)(h:Z6 P w K mg base k x C o)(hr:vq (k+1) (uR (uP P w) P w K mg base N qual scope f cd A outer s H E).A)
  (hv:PE (uR (uP P w) P w K mg base N qual scope f cd A outer s H E) (.Name r t) (uH i)) (L:(x==("__debug__":Str))=false:=by decide)
  (M:fG [.Name r t] (uR (uP P w) P w K mg base N qual scope f cd A outer s H E).env=(false,eval (.Name r t) (uR (uP P w) P w K mg base N qual scope f cd A outer s H E).env)::fG [] (uR (uP P w) P w K mg base N qual scope f cd A outer s H E).env:=by rfl) :
  S1 (uR (uP P w) P w K mg base N qual scope f cd A outer s H E) E T ms n (.Raise (some<|.Call (.Name x l) [.Name r t] [] c) none pos) (λ(d:D)(_:D'->Prop)(_:τ->PO->Prop) V=>V C<|J.pj d):=by
 obtain⟨fI,Ns,fd,oI,nm,q,bs,bm,aa,X,sn,ae,ab,af,dd,k0,k1,k2,k3,k5,B,O,u,ps,a1,a2,a3,a4,a5,a6,a7,a8,a9,S⟩:=h.ex;refine⟨_,Mu (np:=l) (pos:=pos) (cpos:=c) hg a1 a2 a3 a4 a5 a6 a7 a8 a9 S .nil hr (ue hv uu M) L (by rw[M];rfl) λQ E' s9 z=>by rw[M] at z ⊢;exact iE z,λd F R σ H Kn Kr V En s hw kn kr ke=>?_⟩;obtain⟨v,F1,F2,e1,_,⟨a,m,rfl,_,U,_⟩,_⟩:=RB (i:=i) (τ:=OL α) s;refine⟨.ref a,e1,(by show 1<=fK;decide),λx Y=>⟨x,a,m,rfl,tZ,.inl ?_,λp e y Z nx l=>⟨rfl,some e,tZ,?_⟩⟩⟩
 ·have ne:a≠x:=λz=>by rw[z,Y] at U;cases U
  exact .inl<|Rd.of (by rw[ss ne];exact U)
 ·have px:p≠x:=λz=>by rw[z,tZ] at y;cases y
  rw[ss px] at y;rw[ss nx] at Z
  have q:AT (upd (upd (upd (upd H x<|CF C x none) p<|.lst m) e<|.xd [(o,.ref p)]) x<|CF C x<|some e) x=upd (upd H p<|.lst m) e (.xd [(o,.ref p)]):=by
   funext b
   by_cases I:b=x
   ·rw[I,yD,ss<|Ne.symm nx,ss<|Ne.symm px,Y]
   ·rw[wZ I,ss I];by_cases g:b=e
    ·rw[g,tZ,tZ]
    ·rw[ss g,ss g];by_cases j:b=p
     ·rw[j,tZ,tZ]
     ·rw[ss j,ss I,ss j]
  rw[q];refine⟨h.go e p m _ tZ (by rw[ss<|Ne.symm l];exact tZ),?_⟩;refine yi (s.new (.lst m) y) λs2 c2 _=>?_;obtain⟨s3,c3,_⟩:=s2.new (p:=e) (.xd [(o,.ref p)]) (by rw[ss l];exact Z);refine tX (vG (PO:=PO) s3) λG g1 g2=>?_;exact ke C x _ G R _ hw ((Ch.trans s s2.tab c2 c3).less g1) g2
end
end WL
namespace SX
open PySem PySem.W PyProof.Rows
theorem zk(p:Array Nat)(k:Nat):p.getD k 0=(p[k]?).getD 0:=by simp
theorem BF{p:Array Nat}{i j:Nat}(h:j<=p.size)(k:Nat):(pi p i j).getD k 0=if i<=k/\k<j then p.getD (i+j-1-k) 0 else p.getD k 0:=by rw[zk,pi,getElem?_mirror_all h k,zk,zk];split<;>rfl
theorem Jr{p:Array Nat}{k d:Nat}(h:k<p.size)(a:d<=k)(i:Nat):(bubble p k d).getD i 0=if i=k-d then p.getD k 0 else if k-d<i/\i<=k then p.getD (i-1) 0 else p.getD i 0:=by
 rw[zk,getElem?_bubble h d a i,zk,zk,zk];split
 ·rfl
 ·split<;>rfl
structure Z7(lt:Nat->Nat->Bool):Prop where
 ir:∀a,lt a a=false
 tr:∀a b c,lt b a=false->lt c b=false->lt c a=false
 as:∀a b,lt a b=true->lt b a=false
section
variable{lt:Nat->Nat->Bool}{cmp:Nat->Nat->(Bool->fH->Prop)->fH->Prop}{N:Nat}{s:fH}
def FN(lt:Nat->Nat->Bool)(p:Array Nat)(k:Nat):Prop:=∀i j,i<=j->j<k->lt (p.getD j 0) (p.getD i 0)=false
def D6(lt:Nat->Nat->Bool)(p:Array Nat)(k:Nat):Prop:=∀i j,i<=j->j<k->lt (p.getD i 0) (p.getD j 0)=false
def GI(N:Nat)(p:Array Nat):Prop:=∀k,p.getD k 0<N
theorem GI.rev{i j:Nat}(b:GI N p)(h:j<=p.size):GI N (pi p i j):=λk=>by rw[BF h];split<;>exact b _
theorem GI.bub{k d:Nat}(b:GI N p)(h:k<p.size)(c:d<=k):GI N (bubble p k d):=λi=>by
 rw[Jr h c];by_cases q:i=k-d
 ·rw[fE q];exact b _
 ·rw[fF q];by_cases a:k-d<i/\i<=k
  ·rw[fE a];exact b _
  ·rw[fF a];exact b _
theorem AU{i j:Nat}:(pi p i j).Perm p:=mirror_perm _ _ _ _
variable(L:Z7 lt)(hc:∀i j (C:Bool->fH->Prop),i<N->j<N->C (lt i j) s->cmp i j C s)
include L hc
theorem K3(b:GI N p):∀(f n:Nat) {Q:Nat->fH->Prop},1<=n->FN lt p n->(∀m,n<=m->m<=n+f->FN lt p m->(m<n+f->lt (p.getD m 0) (p.getD (m-1) 0)=true)->Q m s)->jN cmp (kas_asc p f n) Q s:=by
 intro g
 induction g with
 | zero=>intro n Q h a k;exact k n (fJ _) (fJ _) a<|λz=>fY z<|iV _
 | succ f c =>
  intro n Q h a k;refine hc _ _ _ (b _) (b _) ?_
  cases e:lt (p.getD n 0) (p.getD (n-1) 0) with
  | true=>exact k n (fJ _) q0a a λ_=>e
  | false =>
   refine c (n+1) q0a (λi j d t=>?_) λm u v l o=>k m q0a q0a l λz=>o q0a;by_cases q:j=n
   ·subst q;by_cases r:i=j
    ·rw[r];exact L.ir _
    ·exact L.tr _ _ _ (a i (j-1) q0a q0a) e
   ·exact a i j d q0a
omit hc in
set_option tactic.hygienic true in
theorem Su{p:Array Nat}{n q:Nat}(m:q+1<=n)(d:n<=p.size)(f:D6 lt p n)(c:∀k,n-(q+1)<=k->k<n->lt (p.getD (n-1) 0) (p.getD k 0)=false)(k:Nat) :
  lt ((pi p (n-(q+1)) n).getD k 0) (p.getD k 0)=false/\lt (p.getD k 0) ((pi p (n-(q+1)) n).getD k 0)=false:=by
 rw[BF d];split
 ·rename_i h
  have e:∀a b,n-(q+1)<=a->a<n->n-(q+1)<=b->b<n->lt (p.getD a 0) (p.getD b 0)=false:=λa b o r g l =>
   L.tr _ (p.getD (n-1) 0) _ (c b g l) (f a (n-1) q0d q0d)
  exact⟨e _ _ q0d q0d h.1 h.2,e _ _ h.1 h.2 q0d q0d⟩
 ·exact⟨L.ir _,L.ir _⟩
omit hc in
theorem K4{p:Array Nat}{n q m:Nat}(c:q+1<=n)(d:n<=p.size)(f:D6 lt p n)(a:∀k,n-(q+1)<=k->k<n->lt (p.getD (n-1) 0) (p.getD k 0)=false)(g:D6 lt p m):D6 lt (pi p (n-(q+1)) n) m:=λi j b h=>by have e:=Su L c d f a;exact L.tr _ _ _ (L.tr _ _ _ (e j).2<|g i j b h) (e i).1
omit hc in
theorem DA{n:Nat}(d:1<=n)(b:D6 lt p n)(h:lt (p.getD (n-1) 0) (p.getD n 0)=false):D6 lt p (n+1):=λi j a e=>by
 by_cases q:j=n
 ·subst q;by_cases c:i=j
  ·rw[c];exact L.ir _
  ·exact L.tr _ _ _ h<|b i (j-1) q0a q0a
 ·exact b i j a q0a
theorem O7:∀(f:Nat)(p:Array Nat)(n q:Nat) {Q:Array Nat×Nat×Nat->fH->Prop},GI N p->q+1<=n->n+f<=p.size->D6 lt p n->(∀k,n-(q+1)<=k->k<n->lt (p.getD (n-1) 0) (p.getD k 0)=false) ->
  (∀a m d,a.Perm p->a.size=p.size->GI N a->d+1<=m->n<=m->m<=n+f->D6 lt a m->(∀k,m-(d+1)<=k->k<m->lt (a.getD (m-1) 0) (a.getD k 0)=false)->Q (a,m,d) s)->jN cmp (kas_desc f p n q) Q s:=by
 intro F
 induction F with
 | zero=>intro p n q Q b w G h c k;exact k p n q (.refl _) rfl b w (fJ _) (fJ _) h c
 | succ f g =>
  intro p n q Q b w G h c k;refine hc _ _ _ (b _) (b _) ?_
  cases e:lt (p.getD n 0) (p.getD (n-1) 0) with
  | true =>
   have y:=DA L q0a h<|L.as _ _ e
   have A:∀{x:Array Nat},∀k,n+1-(0+1)<=k->k<n+1->lt (x.getD (n+1-1) 0) (x.getD k 0)=false:=λ{x} k H I=>by
    have:k=n+1-1:=by lia
    rw[this];exact L.ir _
   show jN cmp (if q>0 then kas_desc f (pi p (n-(q+1)) n) (n+1) 0 else kas_desc f p (n+1) 0) Q s;split
   ·refine g _ (n+1) 0 (b.rev q0a) q0a (by rw[lH];lia) (K4 L w q0a h c y) A λa m d l o r t B D u v=>k a m d (l.trans AU) (o.trans<|lH _ _) r t q0a q0a u v
   ·exact g p (n+1) 0 b q0a q0a y A λa m d l o r t B D u v=>k a m d l o r t q0a q0a u v
  | false =>
   refine hc _ _ _ (b _) (b _) ?_
   cases J:lt (p.getD (n-1) 0) (p.getD n 0) with
   | true=>exact k p n q (.refl _) rfl b w (fJ _) q0a h c
   | false =>
    refine g p (n+1) (q+1) b q0a q0a (DA L q0a h J) (λE H I=>?_) λa m d l o r t B D u v=>k a m d l o r t q0a q0a u v;have K:n+1-1=n:=by lia
    rw[K];by_cases z:E=n
    ·rw[z];exact L.ir _
    ·exact L.tr _ _ _ (c E q0a q0a) e
theorem HF{n a:Nat}(b:GI N p)(e:1<=n)(o:n<=a)(q:a<=p.size)(f:D6 lt p n)
 (k:∀m c,c.Perm p->c.size=p.size->GI N c->1<=m->m<=a->FN lt c m->Q (m,c) s):jN cmp (kas_tail3 n a p) Q s:=by
  unfold kas_tail3
  rw[lQ]
  have d:n<=p.size:=by omega
  refine K3 L hc (b.rev d) _ n e (λi j g h=>?_) λm r t l _=>k m _ AU (lH _ _) (b.rev d) q0d q0d l
  rw[BF d,BF d,fE ⟨g9 _,h⟩,fE ⟨g9 _,q0d⟩]
  exact f _ _ q0d q0d
theorem O8{n a:Nat}(b:GI N p)(A:1<=n)(B:n+1<=a)(D:a<=p.size)(w:D6 lt p (n+1))
 (k:∀m d,d.Perm p->d.size=p.size->GI N d->1<=m->m<=a->FN lt d m->Q (m,d) s):jN cmp (kas_descPart n a p) Q s:=by
  unfold kas_descPart
  rw[lQ]
  refine O7 L hc _ p (n+1) 0 b q0a q0a w (λx E F=>?_) λd m G t u v y H I e z=>?_
  · have : x = n+1-1 := by lia
    rw[this];exact L.ir _
  · dsimp only
    split
    · exact HF L hc (v.rev q0a) q0a q0a (by rw[lH]; lia) (K4 L y q0a e z e) λf c g h l o q r => k f c ((g.trans AU).trans t) ((h.trans<|lH _ _).trans u) l o q r
    · exact HF L hc v q0a q0a q0a e λf c g h l o q r => k f c (g.trans t) (h.trans u) l o q r
set_option tactic.hygienic true in
theorem Mv{d:Nat}(b:GI N p)(O:1<=d)(B:d<=p.size)
 (k:∀m f,f.Perm p->f.size=p.size->GI N f->1<=m->m<=d->FN lt f m->Q (m,f) s):jN cmp (kas_count d p) Q s:=by
  unfold kas_count
  rw[lQ]
  refine K3 L hc b _ 1 (fJ _) (λi j g v=>?_) λn w P o D=>?_
  · have r : i = 0 := by lia
    have h:j=0:=by lia
    rw[r,h];exact L.ir _
  · by_cases e : n = d
    · rw[fE<|by rw[e]; simp]
      exact k n p (.refl _) rfl b w q0a o
    · rw[fF<|by simp[e]]
      have x:=D q0a
      split
      · rename_i R
        refine hc _ _ _ (b _) (b _) ?_
        cases h:lt (p.getD 0 0) (p.getD (n-1) 0) with
        | true=>exact k n p (.refl _) rfl b w q0a o
        | false =>
          have t:n<=p.size:=by lia
          refine O8 L hc (b.rev t) q0a q0a (by rw[lH];lia) (λi j g v=>?_) λE u y F G H I J=>k E u (y.trans AU) (F.trans<|lH _ _) G H I J
          have l:∀a c,a<n->c<n->lt (p.getD a 0) (p.getD c 0)=false:=λa c K y=>L.tr _ _ _ (L.tr _ _ _ (o c (n-1) q0a q0a) h)<|o 0 a (g9 _) K
          rw[BF t i,BF t j]
          by_cases q:j<n
          · rw[fE ⟨g9 _, by lia⟩, fE ⟨g9 _, q⟩]
            exact l _ _ q0a q0a
          · have M : j = n := by lia
            rw[fF (c:=0<=j/\j<n) λz=>q z.2]
            by_cases A:i<n
            · rw[fE ⟨g9 _, A⟩, M]
              exact L.tr _ _ _ (L.as _ _ x)<|l _ _ q0a q0a
            · rw[fF λz => A z.2, show i = j by lia]
              exact L.ir _
      · refine O8 L hc b q0a q0a B (DA L q0a (λi j g v => ?_)<|L.as _ _ x) k
        have r:i=0:=by lia
        have h:j=0:=by lia
        rw[r,h];exact L.ir _
theorem Mw{k:Nat}(b:GI N p)(q:FN lt p k):∀(f l r:Nat) {Q:Nat->fH->Prop},r-l<=f->l<=r->r<=k->(∀i,i<l->lt (p.getD k 0) (p.getD i 0)=false)->(∀i,r<=i->i<k->lt (p.getD k 0) (p.getD i 0)=true) ->
  (∀h,h<=k->(∀i,i<h->lt (p.getD k 0) (p.getD i 0)=false)->(∀i,h<=i->i<k->lt (p.getD k 0) (p.getD i 0)=true)->Q h s)->jN cmp (sX p k f l r) Q s:=by
 intro t
 induction t with
 | zero=>intro l r Q u o a m n d;exact d l q0d m λi z=>n i q0d
 | succ f g =>
  intro l r Q u o a m n d;show jN cmp (if l>=r then KasT.ret l else KasT.ask (p.getD k 0) (p.getD ((l+r) / 2) 0) λc=>if c=true then sX p k f l ((l+r) / 2) else sX p k f ((l+r) / 2+1) r) Q s;split
  ·exact d l q0d m λi z=>n i q0d
  ·refine hc _ _ _ (b _) (b _) ?_
   cases e:lt (p.getD k 0) (p.getD ((l+r) / 2) 0) with
   | true =>
    refine g l ((l+r) / 2) q0d q0d q0d m (λi v w=>?_) d
    cases x:lt (p.getD k 0) (p.getD i 0) with
    | true=>rfl
    | false=>rw[L.tr _ _ _ (q ((l+r) / 2) i v w) x] at e;cases e
   | false =>
    refine g ((l+r) / 2+1) r q0d q0d a (λi z=>?_) n d;exact L.tr _ _ _ (q i ((l+r) / 2) q0d q0d) e
theorem Sv:∀(f:Nat)(p:Array Nat)(k:Nat) {Q:Array Nat->fH->Prop},GI N p->k+f<=p.size->FN lt p k->(∀d,d.Perm p->FN lt d (k+f)->Q d s)->jN cmp (kas_bin f p k) Q s:=by
 intro t
 induction t with
 | zero=>intro p k Q b u c g;exact g p (.refl _) c
 | succ f h =>
  intro p k Q b u c g;show jN cmp ((sX p k k 0 k).bind λl=>kas_bin f (bubble p k<|k-l)<|k+1) Q s;rw[lQ];refine Mw L hc b c k 0 k q0a q0a (fJ _) (λi z=>fY z q0a) (λi D v=>fY v q0a) λl E w x=>?_;have a:k<p.size:=by lia
  have m:k-l<=k:=by lia
  have y:k-(k-l)=l:=by lia
  refine h _ (k+1) (b.bub a m) (by rw[bubble_size];lia) (λi j n F=>?_) λd A B=>g d (A.trans<|bubble_perm _ _ _) (by rw[show k+(f+1)=k+1+f by lia];exact B);rw[Jr a m,Jr a m,y];by_cases o:j=l
  ·rw[fE o];by_cases e:i=l
   ·rw[fE e];exact L.ir _
   ·rw[fF e,fF q0a];exact w i q0a
  ·rw[fF o];by_cases q:l<j/\j<=k
   ·rw[fE q];by_cases e:i=l
    ·rw[fE e];exact L.as _ _<|x (j-1) q0a q0a
    ·rw[fF e];by_cases r:l<i/\i<=k
     ·rw[fE r];exact c _ _ q0a q0a
     ·rw[fF r];exact c _ _ q0a q0a
   ·rw[fF q,fF q0a,fF q0a];exact c _ _ n q0a
set_option tactic.hygienic true in
theorem O9{n:Nat}(p:1<=n)(u:n<=N)(d:∀a,a.Perm (gl n).toArray->FN lt a n->Q a s):jN cmp (kas_sort n) Q s:=by
 unfold kas_sort;rw[lQ];have e:(gl n).toArray.size=n:=by simp
 have b:GI N (gl n).toArray:=λk=>by
  rw[zk];simp only[List.getElem?_toArray,List.getElem?_range'];by_cases h:k<n
  ·simp[sC h];lia
  ·simp[jo (l:=gl n)<|by simpa using h];lia
 refine Mv L hc b p (by rw[e];exact fJ _) λm a f q r v w g=>?_;dsimp only;split
 ·rename_i h
  refine Sv L hc _ a (max m 1) r (by rw[q,e];lia) (by rw[show max m 1=m by lia];exact g) λc t o=>d c (t.trans f) (by rw[show max m 1+(n-max m 1)=n by lia] at o;exact o)
 ·exact d a f (by rw[show n=m by lia];exact g)
end
open PySem.Spec
def HG(p q:Int×Int):Bool:=decide (p.1<q.1)||(p.1==q.1&&decide (p.2<q.2))
theorem Ez:HG p q=false↔q.1<p.1\/(q.1=p.1/\q.2<=p.2):=by unfold HG;simp only[Bool.or_eq_false_iff,Bool.and_eq_false_iff,decide_eq_false_iff_not,beq_eq_false_iff_ne];omega
theorem X9:HG p q=true↔p.1<q.1\/(p.1=q.1/\p.2<q.2):=by unfold HG;simp only[Bool.or_eq_true,gK,gS,beq_iff_eq]
def ww(h:gE)(v:cr)(p:Int×Int):Prop:=∃x o t u n,v=.ref x/\h.get? x=some o/\o.cls=.type "tuple"/\o.data=.seq #[.int p.1 t,.int p.2 u] n
section
variable{prog:gf}{w:gu}{A:gJ}{E:cr->fH->Prop}{s:fH}
theorem Sw{x y:cr}{p q:Int×Int}{Q:Bool->fH->Prop}(hx:ww s.heap x p)(hy:ww s.heap y q)(h:Q (HG p q) s):fO (fS prog w) A (keyLt' (tuples' true) x y) Q E s:=by
 obtain⟨a,o,t,u,n,rfl,h1,h2,h3⟩:=hx;obtain⟨b,o',t',u',n',rfl,k1,k2,k3⟩:=hy;refine PySem.W.kat_lt h1 h3 k1 k3<|sF<|qt<|tK (λe=>sY<|sF<|qt<|tK (λe2=>sY<|PySem.W.kat_nil ?_) λe2=>tL<|PySem.W.kat_one _ _<|wpAny_lt_int ?_) λe=>tL<|oneLt_int ?_
 ·have e1:=eq_of_beq e;have e2:=eq_of_beq e2;have:HG p q=false:=Ez.mpr<|.inr ⟨e1.symm,Int.le_of_eq e2.symm⟩;rw[this] at h;exact h
 ·have e1:=eq_of_beq e;have:HG p q=decide (p.2<q.2):=by unfold HG;rw[e1];simp
  rw[this] at h;exact h
 ·have:HG p q=decide (p.1<q.1):=by unfold HG;rw[e];simp
  rw[this] at h;exact h
theorem ww.keep{h a:gE}(k:∀b o,h.get? b=some o->o.cls=.type "tuple"->a.get? b=some o)(z:ww h v p):ww a v p:=by obtain⟨x,o,t,u,n,e,d,c,f⟩:=z;exact⟨x,o,t,u,n,e,k x o d c,c,f⟩
theorem DB{h a:gE}(k:∀b o,h.get? b=some o->o.cls=.type "tuple"->a.get? b=some o):∀{c:List cr} {d:List (Int×Int)},Paired (ww h) c d->Paired (ww a) c d:=by
 intro _ _ z
 induction z with
 | nil=>exact .nil
 | cons h t e=>exact .cons (h.keep k) e
theorem DC:∀{d:List cr} {e:List (Int×Int)},Paired (ww h) d e->∃c,PySem.W.KatTups h d c/\c.length=d.length/\∀v∈c,∃i t,v=kd i t
 | _,_,.nil=>⟨[],PySem.W.KatTups.nil,rfl,λ_ z=>fY z ie⟩
 | _,_,.cons a b=>by
  refine ux (DC b) λc f g j=>?_;obtain⟨x,o,t,u,n,rfl,k,l,m⟩:=a;refine⟨_::c,⟨⟨x,o,_,n,rfl,k,l,m,rfl⟩,f⟩,by simp[g],λv p=>?_⟩;rcases List.mem_cons.mp p with z|z
  ·exact⟨_,_,z⟩
  ·exact j v z
theorem EA:∀{c:List cr} {d:List (Int×Int)},Paired (ww h) c d->∀i,i<c.length->ww h (c.getD i .none) (d.getD i (0,0)):=by
 intro _ _ z
 induction z with
 | nil=>intro i z;exact fY z<|Nat.not_lt_zero _
 | cons a b e =>
  intro i z
  cases i with
  | zero=>exact a
  | succ i=>simpa using e i (by simpa using z)
theorem Js{d:List cr}{n:Nat}(u:s.heap.get? a=some (kQ "list" d.toArray n))(hp:Paired (ww s.heap) d m)(J:d.length<64)
 (h:∀K:List Nat,K.Perm (gl d.length)->(K.map λi=>m.getD i (0,0)).Pairwise (λx y=>HG y x=false)->P (.done<|.ret .none) { s with heap:=sortedHeap s.heap a d (K.map λi=>d.getD i .none).toArray}):fO (fS prog w) A (Builtin.«list.sort» ⟨[.ref a],[]⟩) P E s:=by
  rw[list_sort_plain]
  have alt:=fQ u
  have sl:(64:Nat)<=fK:=by rw[hX];decide
  have hz:d.length<=fK:=by lia
  refine am<|listItems_at u rfl<|am<|sG u rfl ?_ (hsz:=by simpa using hz)
  obtain⟨L,S⟩:∃L,(s.heap.update a<|Obj.mapSeq λ_=>#[]).get? a=some (kQ "list" #[] L):=⟨_,get?_update_seq u _⟩
  refine am<|seqEpoch_at S rfl<|am<|wpAny_newTuple<|am<|sA<|gC ?_
  have F:(((s.heap.update a<|Obj.mapSeq λ_=>#[]).push<|kQ "tuple" d.toArray 0).push<|kQ "list" #[] 0).get? a=some (kQ "list" #[] L):=ce _<|ce _ S
  have g:Paired (ww<|((s.heap.update a<|Obj.mapSeq λ_=>#[]).push<|kQ "tuple" d.toArray 0).push<|kQ "list" #[] 0) d m:=DB (λb o z c=>ce _<|ce _<|(gG _ _ (λq=>by rw[<- q,u] at z;cases z;have c:i8 "list"=i8 "tuple":=c;injection c with c;exact fY c q0q)).trans z) hp
  dsimp only
  have sz:d.toArray.size=d.length:=by simp
  by_cases U:d.length<2
  · rw[fE q0a, fE q0a]
    refine am<|ap<|am<|ap ?_
    dsimp only
    refine am<|seqEpoch_at F rfl<|am<|sG F rfl ?_ (hsz2:=by simp[SortSt.mk',arrOf];lia)
    have key:=h (gl d.length) (.refl _) (by
      rcases d with _|⟨v,_|⟨v2,r⟩⟩
      · simp
      · simp
      · simp at U; lia)
    have e:((gl d.length).map λi=>d.getD i .none).toArray=Array.map (λx=>x.snd) (d.toArray.zip d.toArray):=by
      rcases d with _|⟨v,_|⟨v2,r⟩⟩
      · simp
      · simp
      · simp at U; lia
    rw[e] at key
    simp only[qg,jM,mV]
    exact ap key
  rw[fF q0a,fF q0a]
  refine ux (DC g) λfs f1 f2 f3=>?_
  refine am<|PySem.W.kat_kind (T:=.type "int") f1 q0a (λv hv=>?_) q0q ?_
  · obtain⟨i, t, rfl⟩ := f3 v hv
    exact PySem.W.Looks.now
  refine am (hJ (PySem.W.kat_run (ks:=d) (vs:=d) (κ:=tuples' true) rfl q0a J (Q:=λf B=>∃p:Array Nat,p.size=d.length/\arrOf f=Array.map (PySem.W.kas_item (d.toArray.zip d.toArray)) p/\failedOf f=none/\B={ s with heap:=((s.heap.update a (Obj.mapSeq λ_=>#[])).push (kQ "tuple" d.toArray 0)).push (kQ "list" #[] 0)}/\p.toList.Perm (gl d.length)/\(p.toList.map λi=>m.getD i (0,0)).Pairwise (λx y=>HG y x=false))
    (G:=λp B=>B={ s with heap:=((s.heap.update a (Obj.mapSeq λ_=>#[])).push (kQ "tuple" d.toArray 0)).push (kQ "list" #[] 0)}/\p.toList.Perm (gl d.length)/\(p.toList.map λi=>m.getD i (0,0)).Pairwise (λx y=>HG y x=false)) (λp f B M O H q4=>⟨p,M,O,H,q4⟩) ?_) ?_ λ_ _ z=>z)
  rotate_left
  · rintro⟨⟨⟩, f⟩ B ⟨p, M, O, H, rfl, g1, g2⟩
    have V:=PySem.W.kat_snds (vs:=d) (ks:=d) rfl O
    dsimp only at H ⊢
    refine am<|seqEpoch_at F rfl<|am<|sG F rfl ?_ (hsz2:=by rw[V];simp[M];lia)
    rw[H]
    simp only[qg,jM,mV]
    rw[V]
    exact ap<|h _ g1 g2
  · refine O9 (N := d.length) (lt := λi j => HG (m.getD i (0, 0))<|m.getD j (0, 0)) ⟨λa => ?_, λa b c X Y => ?_, λa b z => ?_⟩ (λi j C I D k => ?_) q0a (fJ _) λl Z c2 => ⟨rfl, ?_, ?_⟩
    · exact Ez.mpr<|.inr ⟨rfl, mQ _⟩
    · have X := Ez.mp X
      have Y:=Ez.mp Y
      exact Ez.mpr q0a
    · have z := X9.mp z
      exact Ez.mpr q0a
    · exact Sw (EA g i I) (EA g j D) k
    · have := Z.toList
      simpa using this
    · rw[List.pairwise_iff_getElem]
      intro i j I D R
      have hl:l.size=d.length:=by have:=Z.size_eq;simpa using this
      have q:=c2 i j (kq R) (by simpa[hl] using D)
      have gi:l.getD i 0=l.toList[i]'(by simpa using I):=by
        have:i<l.size:=by simpa using I
        simp[Array.getD,this]
      have gj:l.getD j 0=l.toList[j]'(by simpa using D):=by
        have:j<l.size:=by simpa using D
        simp[Array.getD,this]
      rw[tW,tW,<- gi,<- gj]
      exact q
theorem FO{a:List cr}(t:s.heap.IsList l a.toArray)(u:Paired (ww s.heap) a v)(f:a.length<64)
 (h:∀j B r (d:List Nat),s.heap.objs.size<=r->d.Perm (gl a.length)->(d.map λi=>v.getD i (0,0)).Pairwise (λx y=>HG y x=false)->(∃n,j.get? r=some { cls:=.type "list",data:=.seq (d.map λi=>a.getD i .none).toArray n})->(∀c o,s.heap.get? c=some o->j.get? c=some o)->Q (.ref r) { s with heap:=j,toks:=B}) :
    fO (fS prog w) A (call (.builtin "sorted") [.ref l]) Q E s:=by
  refine qp kind_sorted plain_sorted entry_sorted (args_sorted1 _) ?_
  unfold Builtin.«sorted»
  have H:(64:Nat)<=fK:=by rw[hX];decide
  refine am (m:=checkCount "sorted" 1 1 _)<|ap<|am<|collect_list t ?_ q0d
  have e:∀c o,s.heap.get? c=some o->((s.heap.push<|kQ "list" #[] 0).update s.heap.objs.size<|Obj.mapSeq λx=>x++a.toArray).get? c=some o:=λc o q=>(gG _ _<|ii<|fQ q).trans<|ce _ q
  have sz:s.heap.objs.size<=((s.heap.push<|kQ "list" #[] 0).update s.heap.objs.size<|Obj.mapSeq λx=>x++a.toArray).objs.size:=by rw[m4,rR];exact kh _
  show fO (fS prog w) A.in1 (tJ a >>= _) _ _ _
  generalize ((s.heap.push<|kQ "list" #[] 0).update s.heap.objs.size<|Obj.mapSeq λx=>x++a.toArray)=k at e sz ⊢
  refine am<|sA ?_
  have p:(k.push<|kQ "list" a.toArray 0).get? k.objs.size=some (kQ "list" a.toArray 0):=fU _ rfl
  refine am<|gC<|gR slot_list_sort ⟨_,p,rfl⟩ entry_list_sort (Js p (DB (λb o z _=>ce _<|e b o z) u) f λd C D=>⟨_,rfl,?_⟩)<|args_list_sort _
  obtain⟨F,G⟩:=sortedHeap_at (out:=(d.map λi=>a.getD i .none).toArray) p
  refine ap ⟨_,rfl,h _ s.toks k.objs.size d sz C D ⟨F,by simpa using G⟩ λc o g=>?_⟩
  have lt:=fQ<|e c o g
  rw[sortedHeap_old (fX lt)<|by rw[rR];exact mP lt]
  exact ce _<|e c o g
end
end SX
namespace L2
open PySem PySem.Spec PyProof.Rows SX
theorem range_getD(l:List a)(d:a):(gl l.length).map (λi=>l.getD i d)=l:=by refine List.ext_getElem q0o λi c b=>?_;simp[List.getD,b]
theorem EB(h:Paired R c k):∀{b:List Nat},(∀i∈b,i<c.length)->Paired R (b.map λi=>c.getD i d) (b.map λi=>k.getD i e):=by
 have g:∀i,i<c.length->R (c.getD i d) (k.getD i e):=by
  induction h with
  | nil=>exact λi z=>fY z<|Nat.not_lt_zero _
  | cons a _ f =>
   intro i z
   cases i with
   | zero=>exact a
   | succ i=>simpa using f i (by simpa using z)
 intro b
 induction b with
 | nil=>exact λ_=>.nil
 | cons i r f=>exact λz=>.cons (g i<|z i fM)<|f λj l=>z j<|fP _ l
section
variable{X:Cx}
theorem pairs_at(I:Inv X g B H s):∀{i:List V} {d:List cr} {f:List (Int×Int)},Vals i d->Paired (λ(v:V)(p:Int×Int)=>∃t,v=.ref t/\H t=some (.tup [.int p.1,.int p.2])) i f->Paired (ww s.heap) d f:=by
 intro _ _ f z
 induction z generalizing f with
 | nil=>intro w;cases w;exact .nil
 | cons r C j=>intro w;cases w with|cons q k =>
  refine tX q λt e h=>?_;subst e;obtain rfl:=r;obtain⟨d,l,⟨o,m,u,n,x⟩,_⟩:=I.tuple<|yg.of h
  cases l with|cons a b =>
  cases b with|cons b c =>
  cases c;obtain⟨y,rfl⟩:=a;obtain⟨A,rfl⟩:=b;exact .cons ⟨t,o,y,A,n,rfl,m,u,x⟩<|j k
theorem FP:xJ X (.builtin "sorted") (λm H Q=>∃(a:ci)(c:List V) (j:List (Int×Int)),m=[.ref a]/\vn X.K H a c/\Paired (λ(v:V)(p:Int×Int)=>∃t,v=.ref t/\H t=some (.tup [.int p.1,.int p.2])) c j/\c.length<64 /\
  ∀(l:ci)(b:List Nat),H l=none->b.Perm (gl c.length)->(b.map λi=>j.getD i (0,0)).Pairwise (λx y=>HG y x=false)->Q (.ref l) (upd H l (.lst (b.map λi=>c.getD i .vC)))):=by
 intro w s R H m c Q I r h;obtain⟨a,f,j,rfl,A,B,C,q⟩:=h;obtain⟨u,rfl,D⟩:=vals1 r;cases D;refine ux (I.list A) λd k E S=>?_;have F:f.length=d.length:=k.length;refine FO E.isList (pairs_at I k B) q0d λT G r b z g J L M=>?_;obtain⟨n,e⟩:=L;rw[<- F] at g;have N:∀i∈b,i<f.length:=λi O=>by simpa using g.subset O
 have U:(64:Nat)<=fK:=by rw[hX];decide
 have P:b.length=f.length:=by simpa using g.length_eq
 exact⟨.ref r,_,I.laid (t':=G) (o:=.lst<|b.map λi=>f.getD i .vC) M z ⟨by rw[fN,P];omega,b.map λi=>d.getD i .none,n,EB k N,e⟩,rfl,q r b (I.uO.fresh z) g J⟩
end
end L2
namespace WL
variable[L2.GX]
open PySem L2 SX
open Rep (rp)
open Ow (sl)
open Sls (rel)
section
variable{X:Cx}{E:XK}{T:ci}{D:Type}[Sls D]{pos:Pos}
theorem My:∀{a:List d} {b:List V},Paired R a b->Paired (λv x=>R x v) b a:=by
 intro _ _ z
 induction z with
 | nil=>exact .nil
 | cons h t c=>exact .cons h c
theorem HH{a b:Type}{R S:a->b->Prop}(h:∀x y,R x y->S x y):∀{c:List a} {d:List b},Paired R c d->Paired S c d:=λz=>L2.Paired.Uv z h
theorem Ju(I:Gl X "sorted")(J:X.mg "sorted"=none)(K:ER X E T a L)(o:fG [a] X.env=(false,eval a X.env)::fG [] X.env:=by rfl) :
  EO X E T (.Call (.Name "sorted" p) [a] [] pos) (λ(d:D) (r:OL (Int×Int)->D->Prop) c=>L d (λg b=>(g b).length<64/\∀f,f.Perm (g b)->f.Pairwise (λx y=>HG y x=false)->r ⟨f⟩ b) c):=by
 refine tX K λta M N=>?_;refine⟨_,vW FP I J jj (ue M uu o) (he:=o),λd F R O H r c Q s P S U=>N d F R O H _ c _ s P (λg b u A W Y B Z h r1=>?_) U⟩;obtain⟨q,C,rfl,h1,j⟩:=r1 b A W Y (Ch.refl _ _ _ _) h;have G:(g b).length=C.length:=j.length;refine⟨_,C,g b,rfl,vn.of h1,HH (λv x z=>?_)<|My j,by rw[<- G];exact B.1,λl ix hl k sn=>?_⟩
 ·obtain⟨t,u,w,rfl,_,e,m,n⟩:=z;have m:u=.int x.1:=m;have n:w=.int x.2:=n;exact⟨t,rfl,by rw[e,m,n]⟩
 ·rw[<- G] at k;have lt:∀i∈ix,i<(g b).length:=λi hi=>by simpa using k.subset hi
  refine ux (wF h hl<|EB (d:=(0,0)) (e:=V.vC) j lt) λR' c3 s3 n3=>?_;exact S _ b _ _ A R' _ (B.2 _ (by have:=k.map<|λi=>(g b).getD i (0,0);rwa [range_getD] at this) sn) (Ch.trans s h.tab Z c3) s3 n3
theorem tw_trueR{h:Type}[Rep h]{i:Wf D (D->List h) D}(r:ER X E T a i)(t:∀b,pK a X.env b=(do let v <- b;lw a.pos;jz [v] (sZ v)):=by intro _;rfl):TW X E T a (λ(d:D) j e=>i d (λg c=>j (!(g c).isEmpty) c) e):=by
 refine tX r λK w x=>?_;refine⟨_,GU w t,λd F R y H j e Q s z A B=>x d F R y H _ e _ s z (λg c u k m n C G o I=>?_) B⟩;obtain⟨q,f,rfl,J,p⟩:=I c k m n (Ch.refl _ _ _ _) o;refine⟨!f.isEmpty,.inl ⟨f,vn.of J,rfl⟩,?_⟩
 have:f.isEmpty=(g c).isEmpty:=by generalize g c=l at p;cases p<;>rfl
 rw[this];exact A _ c k m n C G o
end
section
variable{X:Cx}{E:XK}{T:ci}{ms:List Nat}{n:Nat}{D PO τ:Type}[Sls D][Sls PO][Ow τ]{pos apos:Pos}{C:ci}{fl:Bool}{x:Str}{p1 p2:Pos}{α:Type}[Rep α]
theorem Pa(q:ID)(i:Nat)[Sls h][A:At i D (Bd C fl) h](j:q.ok fl)(l:zP X.K C)(o:uS X.K C q.nm)(t:X.A.units+1<ju)(u:PE X (.Name x p1) (uH i))(w:EV X T a f)(m:M1 X (.Attribute (.Name x p1) q.nm p2) "get" apos a pos:=by exact⟨rfl,rfl,rfl,rfl⟩)(B:gH (.Name x p1) q.nm X.env (eval (.Name x p1) X.env)=eval (.Name x p1) X.env:=by rfl) :
  EW X E T (.Call (.Attribute (.Attribute (.Name x p1) q.nm p2) "get" apos) [a] [] pos) (λ(d:D)(b:Option Int->D->Prop) _=>b (lk (q.get<|A.get d)<|f d) d):=by
 refine tX w λS G I=>?_;refine⟨_,NC t (vV u B) G m,λd F R J H b U Q s L M W=>?_⟩;obtain⟨p,N,Y,Z,e3,e4,us,O,c,_,_⟩:=vv (i:=i) s;refine Bb (zh c q j) λy P e _ _=>?_;refine⟨_,O,p,C,N,_,_,rfl,c.ob,l,o,P,y,rfl,.inl ⟨_,.inl e⟩,I d F R J H _ s λv r=>?_⟩;have r:v=V.int (f d):=r;subst r;have g:=xf.k (k:=gm<|f d) e;rw[xq] at g;refine⟨_,g,M _ d _ F R H L (Ch.refl _ _ _ _) s ?_⟩
 cases lk (q.get<|A.get d) (f d) with
 | none=>exact rfl
 | some z=>exact⟨(λz=>by cases z),rfl⟩
theorem Pb(q:ID)(i:Nat)[Sls o][A:At i D (Bd C fl) o](t:q.ok fl)(u:zP X.K C)(w:uS X.K C q.nm)(B:X.A.units+1<ju)(G:PE X (.Name x p1) (uH i))(I:EV X T a f)(J:EV X T b g)(m:M2 X (.Attribute (.Name x p1) q.nm p2) "get" apos a b pos:=by exact⟨rfl,rfl,rfl,rfl⟩)(L:gH (.Name x p1) q.nm X.env (eval (.Name x p1) X.env)=eval (.Name x p1) X.env:=by rfl) :
  EW X E T (.Call (.Attribute (.Attribute (.Name x p1) q.nm p2) "get" apos) [a,b] [] pos) (λ(d:D)(e:Int->D->Prop) _=>e ((lk (q.get<|A.get d)<|f d).getD<|g d) d):=by
 refine tX I λta M N=>?_;refine tX J λtb O P=>?_;refine⟨_,ND B (vV G L) M O m,λd F R h H e Ke Q s S U ke=>?_⟩;obtain⟨p,W,e1,e2,e3,e4,us,Y,j,_,_⟩:=vv (i:=i) s;refine Bb (zh j q t) λy Z l _ _=>?_;refine⟨_,Y,p,C,W,_,_,rfl,j.ob,u,w,Z,y,rfl,.inl ⟨_,.inl l⟩,N d F R h H _ s λv r=>P d F R h H _ s λv' c=>?_⟩;have r:v=V.int (f d):=r;have c:v'=V.int (g d):=c;subst r c;have g:=xf.k (k:=gm<|f d) l;rw[xq] at g;refine⟨_,g,U _ d _ F R H S (Ch.refl _ _ _ _) s ?_⟩
 cases lk (q.get<|A.get d) (f d) with
 | none=>exact rfl
 | some z=>exact rfl
theorem Sy(q:ID)(i:Nat)[Sls b][A:At i D (Bd C fl) b][U:Pt i b (Bd C fl) D](k:q.ok fl)(l:zP X.K C)(o:uS X.K C q.nm)(t:PE X (.Name x p1) (uH i))(u:EV X T a f)(m:M1 X (.Attribute (.Name x p1) q.nm p2) "pop" apos a pos:=by exact⟨rfl,rfl,rfl,rfl⟩)(w:gH (.Name x p1) q.nm X.env (eval (.Name x p1) X.env)=eval (.Name x p1) X.env:=by rfl) :
  EW X E T (.Call (.Attribute (.Attribute (.Name x p1) q.nm p2) "pop" apos) [a] [] pos) (λ(d:D)(e:Int->D->Prop) _=>∃v,lk (q.get<|A.get d) (f d)=some v/\e v (U.put (A.hole d)<|q.set (A.get d)<|dk (q.get<|A.get d)<|f d)):=by
 refine tX u λta B G=>?_;refine⟨_,NE (vV t w) B m,λd F R I H e Ke Q s J L ke=>?_⟩;obtain⟨p,M,e1,e2,e3,e4,us,N,g,O,P⟩:=vv (i:=i) s;refine Bb (zh g q k) λy S h j W=>?_;refine⟨_,N,p,C,M,_,_,rfl,g.ob,l,o,S,y,rfl,.inl ⟨_,.inl h⟩,G d F R I H _ s λv r=>?_⟩;have r:v=V.int (f d):=r;subst r;refine tX J λz Y Z=>?_;refine⟨_,gm<|f d,V.int z,h,rfl,(by rw[xq,Y];rfl),?_⟩;rw[Hv];obtain⟨c,s'⟩:=P (U:=U) j<|W (dk (q.get<|A.get d)<|f d)<|O _ j;exact L z _ _ F R _ Z c s' rfl
theorem HI{R:Rg}{H:Hp}{y:α}:∀{xs:List α} {vs:List V},Paired (rp R H) (xs++[y]) vs->∃us u,vs=us++[u]/\Paired (rp R H) xs us/\rp R H y u:=by
 intro xs
 induction xs with
 | nil=>intro _ z;cases z with|cons h t=>cases t;exact⟨[],_,rfl,.nil,h⟩
 | cons a xs ih =>
  intro _ z
  cases z with|cons h t =>
  obtain⟨us,u,rfl,h1,h2⟩:=ih t;exact⟨_::us,u,rfl,.cons h h1,h2⟩
theorem K5(i:Nat){D0:Type}[Sls D0][A:At i D (OL α) D0][U:Pt i D0 (OL α) D](hn:PE X (.Name x p1) (uH i))(hb:PE X (.Call (.Attribute (.Name x p1) "pop" apos) [] [] pos) (WR X.K "list" WT<|uH i)) :
  EW X E T (.Call (.Attribute (.Name x p1) "pop" apos) [] [] pos) (λ(d:D)(Kn:α->D->Prop) _=>∃ys y,(A.get d).l=ys++[y]/\Kn y (U.put (A.hole d) ⟨ys⟩)):=by
 refine⟨_,hb,λd F R σ H Kn Ke Q s hw kn ke=>?_⟩;refine vt (AJ (i:=i) s) λa vs g1 g2 g3 g4=>?_;refine vS hw λys y e hk=>?_;rw[e] at g3;obtain⟨us,u,rfl,h1,h2⟩:=HI g3;obtain⟨c2,s2⟩:=g4 _ _ h1;refine⟨_,g1,.inl ⟨rfl,_,vn.of g2⟩,a,_,u,rfl,rfl,g2,q0o,?_⟩;rw[List.dropLast_concat];exact kn y _ u F R _ hk c2 s2<|s.val c2 h2
theorem yu{R:Rg}{H:Hp}:∀{xs:List α} {vs:List V} (k:Nat),Paired (rp R H) xs vs->Paired (rp R H) (xs.eraseIdx k) (vs.eraseIdx k):=by
 intro _ _ k z
 induction z generalizing k with
 | nil=>exact .nil
 | cons h t ih=>cases k with
  | zero=>exact t
  | succ k=>exact .cons h<|ih k
theorem Mz{a:gA}(i:Nat){D0:Type}[Sls D0][A:At i D (OL α) D0][U:Pt i D0 (OL α) D]{we:Wf D Int D}(hn:PE X (.Name x p1) (uH i))(h:EW X E T a we)
  (hb:∀{t:TA},PA X [a] t->PE X (.Call (.Attribute (.Name x p1) "pop" apos) [a] [] pos) (Zm X.K "list" Nu (uH i) t)) (hs:fG [a] X.env=(false,eval a X.env)::fG [] X.env:=by rfl) :
  EW X E T (.Call (.Attribute (.Name x p1) "pop" apos) [a] [] pos) (λ(d:D)(Kn:α->D->Prop) Ke=>we d (λk d'=>0<=k/\∃y,(A.get d').l[k.toNat]?=some y/\(A.get d').l.length<1000/\Kn y (U.put (A.hole d') ⟨(A.get d').l.eraseIdx k.toNat⟩)) Ke):=by
 refine tX h λt h1 h2=>?_;refine⟨_,hb<|ue h1 uu hs,λd F R σ H Kn Ke Q s hw kn ke=>?_⟩;refine vt (AJ (i:=i) s) λa0 vs0 g1 g2 g3 _=>?_;refine⟨_,g1,.inl ⟨rfl,vs0,vn.of g2⟩,h2 d F R σ H _ _ _ s hw (λk d' v F' R' H' q c s' r=>?_) ke⟩;have r:v=V.int k:=r;subst r;refine vt (AJ (i:=i) s') λa' RF k1 k2 k3 k4=>?_;rw[g1] at k1;cases k1;obtain⟨q0,y,e,ql,hk⟩:=q;refine tX (vX k3 e) λu hu ru=>?_;have lt:=(List.getElem?_eq_some_iff.mp hu).1;have ll:=Paired.length k3;obtain⟨c2,s2⟩:=k4 _ _<|yu k.toNat k3;refine⟨a0,RF,k,k.toNat,u,rfl,rfl,k2,q0a,q0a,?_,hu,kn y _ u F' R' _ hk (Ch.trans s s'.tab c c2) s2<|s'.val c2 ru⟩;have e0:(if k<0 then k+(RF.length:Int) else k)=k:=fF q0a;show (if (decide (0<=(if k<0 then k+(RF.length:Int) else k))&&decide ((if k<0 then k+(RF.length:Int) else k)<(RF.length:Int)))=true then some (if k<0 then k+(RF.length:Int) else k).toNat else none)=_;rw[e0];have:(decide (0<=k)&&decide (k<(RF.length:Int)))=true:=by simp;lia
 exact fE this
end
end WL
namespace L2
open PySem PySem.Spec PyProof.Rows SX
def VP(f:TE)(c:Int):TE:=λg H Q=>f g H λv d=>∃(a:ci) (b:List (Key×V)) (e:List Int),v=.ref a/\d a=some (.dK b)/\b.map (·.1)=e.map gm/\∀p,d p=none->Q (.ref p) (upd d p<|.dK<|e.map λk=>(gm k,V.int c))
theorem stored_new:∀{l:List (Key×cr)},k∉l.map (·.1)->stored l k y=l++[(k,y)]
 | l,h=>by unfold stored;rw[fF];simp only[tS,gS,not_exists,not_and];exact λe a z=>h<|List.mem_map.mpr ⟨e,a,z⟩
theorem HJ:∀{l:List k} {c:List m},Paired R c (l++[v])->∃b d,c=b++[d]/\Paired R b l/\R d v:=by
 intro e
 induction e with
 | nil=>intro _ z;cases z with|cons h t=>cases t;exact⟨[],_,rfl,.nil,h⟩
 | cons a e f =>
  intro _ z
  cases z with|cons h t =>
  obtain⟨g,u,rfl,i,j⟩:=f t;exact⟨_::g,u,rfl,.cons h i,j⟩
theorem zD:∀{l:List c} {m:List d},l.length=m.length->(∀(j:Nat)(k:c)(v:d),l[j]?=some k->m[j]?=some v->R k v)->Paired R l m
 | [],[],_,_=>.nil
 | [],_::_,h,_=>by cases h
 | _::_,[],h,_=>by cases h
 | a::l,b::m,h,f=>.cons (f 0 a b rfl rfl)<|zD (lN h) λj k v e g=>f (j+1) k v e g
theorem HK{c:Int}:∀{a:List Int} {r:List (Key×cr)},r.map (·.1)=a.map gm->(∀e∈r,∃t,e.2=.int c t)->KV (a.map λk=>(gm k,V.int c)) r
 | [],[],_,_=>.nil
 | [],_::_,h,_=>by cases h
 | _::_,[],h,_=>by cases h
 | k::a,e::r,h,f=>by rw[gn,gn] at h;injection h with b d;obtain⟨t,g⟩:=f e fM;exact .cons ⟨b.symm,t,g⟩<|HK d λi j=>f i<|fP _ j
theorem Jv{P:gf}{w:gu}(g:∀v k,i v k->yR k v=true)(h:StoredAll i j l r):∀{a:List Key},Paired (λk v=>yR k v=true) a l->a.Nodup->r.map (·.1)=a/\∀e∈r,∃v,j v e.2:=by
 induction h with
 | nil=>intro a c _;cases c;exact⟨rfl,λ_ z=>by cases z⟩
 | @snoc l r v k y _ m n o =>
  intro a c p;obtain⟨q,d,rfl,s,t⟩:=HJ c;have u:k=d:=(uB P w).inj v k d (g v k m) t;subst u;have b:=List.nodup_append.mp p;obtain⟨f,x⟩:=o s b.1;have A:k∉r.map (·.1):=λz=>by rw[f] at z;exact b.2.2 k z k q0o rfl
  rw[stored_new A,jb,f];refine⟨rfl,λe B=>?_⟩;rcases List.mem_append.mp B with z|z
  ·exact x e z
  ·rw[List.mem_singleton.mp z];exact⟨v,n⟩
section
variable{X:Cx}{x:Str}{px q1 q2 pos:Pos}{iter:gA}{scope:jO}{ti:TE}{c:Int}{j:Nat}
theorem Pc(ae:X.calm=true)(hi:PE X iter ti)(C:rT scope X.env=pure [])(E:∀y∈scope.names,y.2≠.cell)(d:scope.kind=.function)(m:∀y∈scope.names,y.2=.local->scope.names.lookup y.1=some .local)(hx:scope.names.lookup x=some .local)(hd:(x==("__debug__":Str))=false:=by decide)
 (hs:∀x,jg iter X.env x=pure x:=by intro _;rfl):PE X (.DictComp (.Name x q1) (.Constant (.int c) j q2) [⟨.Name x px,iter,[],0⟩] scope pos) (VP ti c):=by
  intro r s σ H Q I h
  have hh:X.A.handled=none:=I.ok.hd ae
  rw[arm_eval_DictComp]
  refine nO (use:=none) rfl hs C d m<|uL (hi r s σ H _ I h) λv f z9=>ut z9 λx1 H1 I1 r1 N=>xU N λa p O e1 ha F q=>?_
  subst e1
  obtain rfl:v=fZ a:=r1
  obtain⟨hz,S,l,kv,vB⟩:=I1.uO a _ ha
  obtain⟨u,D⟩:=vB.dictAt
  have alt:a<f.heap.objs.size:=D.lt_size
  refine wpAny_pyIter_dict S D ?_
  -- the M ag at n,the dict at n+1,the frame at n+2
  have u0:∀b o,f.heap.get? b=some o->(f.heap.push { cls:=.type "dict_keyiterator",data:=.fields #[.ref a,.int 0 0,.int l.length 0,.int u 0]}).get? b=some o:=λb o e=>ce _ e
  have i0:Heap.IsKeyIter (f.heap.push { cls:=.type "dict_keyiterator",data:=.fields #[.ref a,.int 0 0,.int l.length 0,.int u 0]}) f.heap.objs.size a 0 l.length u:=⟨_,fU _ rfl,rfl,rfl⟩
  have z0:(f.heap.push { cls:=.type "dict_keyiterator",data:=.fields #[.ref a,.int 0 0,.int l.length 0,.int u 0]}).objs.size=f.heap.objs.size+1:=iF _ _
  generalize f.heap.push { cls:=.type "dict_keyiterator",data:=.fields #[.ref a,.int 0 0,.int l.length 0,.int u 0]}=g at u0 i0 z0 ⊢
  refine gN<|wpAny_newFunctionEnv E (λy hy=>by cases hy) (λG J K=>?_) d
  dsimp only at J K ⊢
  have d1:(g.push { cls:=.type "dict",dict:=none,data:=.dict #[]}).DictOf (uB X.prog X.w) g.objs.size []:=rn g
  have u1:∀b o,g.get? b=some o->(g.push { cls:=.type "dict",dict:=none,data:=.dict #[]}).get? b=some o:=λb o e=>ce _ e
  have z1:(g.push { cls:=.type "dict",dict:=none,data:=.dict #[]}).objs.size=g.objs.size+1:=iF _ _
  generalize g.push { cls:=.type "dict",dict:=none,data:=.dict #[]}=g1 at d1 u1 z1 J K ⊢
  have u2:∀b o,g1.get? b=some o->G.get? b=some o:=λb o e=>K.extBut b o (fX<|fQ e)<|ce _ e
  have c1:g.objs.size≠g1.objs.size:=by lia
  have n1:∀b∈[f.heap.objs.size,a],b<g.objs.size:=λb hb=>by
    rcases List.mem_cons.mp hb with z|z
    · rw[z, z0]; exact iA _
    · rw[List.mem_singleton.mp z, z0]; exact mP alt
  have W:=Walks.dictKeys (prog:=X.prog) (w:=X.w) (knd:=uB X.prog X.w) hh f.heap.objs.size a (fX alt) l u
  have st:G.IsKeyIter f.heap.objs.size a 0 l.length u/\G.DictAt (uB X.prog X.w) a l u:=⟨i0.at λo e=>u2 _ o<|u1 _ o e,D.at' λo e=>u2 _ o<|u1 _ o<|u0 _ o e⟩
  have B:=codeAny_compLoop_walkD (R:=compPost (fS X.prog X.w) X.A X.xe none (EP X r σ Q) (fZ g.objs.size) g1.objs.size) (s:={ f with heap:=G,toks:=f.toks+0}) (kx:=.Name x q1) (vx:=.Constant (.int c) j q2) (iter:=iter) (x:=x) (px:=px) (ifs:=[]) (scope:=scope) (pos:=pos) (D:=g.objs.size) (cenv:=rS scope [] g1.objs.size X.env) W (λ_=>true) (λv k=>yR k v=true) (λ_ y=>∃t,y=.int c t)
    (lookup_relabel_local hx) (by simp[rS,pf,d]) c1 (λT=>iV _<|n1 _ T) (λT=>iV _<|l8 (n1 _ T)<|by rw[z1];exact iA _) st (d1.at λo e=>u2 _ o e) J (λi v L m3 _ _ _ _=>qX ⟨rfl,L.heap,L.toks,rfl,λ_ _ e=>e⟩)
    (λi v L m3 U _ Y T _=>by
      refine vS U λk x' ai hk=>?_
      exact ot (jy (by show scope.kind=_;exact d) (lookup_relabel_local hx) Y T ⟨⟨k,hk,hk⟩,L.heap,L.toks,rfl,λ_ _ e=>e⟩) hd)
    (λi v L m3 _ _ _ _ _=>wpAny_Constant_int ⟨⟨_,rfl⟩,L.heap,_,rfl,λ_ _ e=>e⟩)
    (λh2 tk m' Z af Y dd aa hP hS k=>?fin) (by rw[<- Paired.length kv];exact hz)
  · exact codeAny_compStart_dict B<|W.self 0 _ _ _ st B
  · refine⟨m', Y, λh3 ab => ?_⟩
    have le:f.heap.objs.size<=g.objs.size:=by rw[z0];exact kh _
    have k':∀b o,f.heap.get? b=some o->h3.get? b=some o:=λb o e=>by
      have lb:=fQ e
      have lg:b<g.objs.size:=ga lb le
      have n2:b≠g1.objs.size:=fX (by rw[z1];exact mP lg)
      exact ab.extBut b o n2<|k b o n2 (λz=>by rw[List.mem_singleton.mp z] at lb;exact iV _ lb) (fX lg)<|u2 _ _<|u1 _ _<|u0 _ _ e
    have nH:H1 g.objs.size=none:=I1.uO.fresh le
    have kk:∀{p:List (Key×V)} {l:List (Key×cr)},KV p l->p.map (·.1)=l.map (·.1):=λh=>by
      induction h with
      | nil=>rfl
      | cons h _ ih=>rw[gn,gn,ih,h.1]
    have U:Paired (λk v=>yR k v=true) (O.map gm) af:=by
      rw[<- F,kk kv]
      refine zD (by rw[fN,aa]) λj k v G h2=>?_
      refine vS (hP j v h2) λk' x' g1 g2=>?_
      rw[iK,g1] at G
      cases G
      exact g2
    have nd:(O.map gm:List Key).Nodup:=by
      rw[<- F,kk kv]
      obtain⟨o,es,ho,hc,ah,hk,hp,Y⟩:=id D
      exact Y
    obtain⟨f1,f2⟩:=Jv (P:=X.prog) (w:=X.w) (λv k h=>h) hS (by rw[List.filter_eq_self.mpr<|λ_ _=>rfl];exact U) nd
    have rel:KV (O.map λk=>(gm k,V.int c)) Z:=HK f1 λe he=>(f2 e he).elim λv U=>U
    have ll:O.length=p.length:=by have:=congrArg mG F;simpa using this.symm
    exact⟨.ref g.objs.size,_,I1.laid (a:=g.objs.size) (o:=.dK<|O.map λk=>(gm k,V.int c)) (t':=tk) k' le<|CT (by rw[fN,ll];exact hz) (beq_eq_false_iff_ne.mpr λz=>fY I1.big<|by rw[<- z];exact Nat.not_lt.mpr le) rel<|dd.extBut ab.extBut c1,rfl,q _ nH⟩
end
end L2
namespace WL
variable[L2.GX]
open PySem L2
open Rep (rp)
open Ow (sl)
open Sls (rel)
section
variable{X:Cx}{E:XK}{T:ci}{ms:List Nat}{n:Nat}{D PO τ:Type}[Sls D][Sls PO][Ow τ]{pos apos:Pos}{C:ci}{fl:Bool}{x:Str}{p1 p2:Pos}{α:Type}[Rep α]
theorem Pd{F R:Rg}{H:Hp}{d:D}{g:St}(s:ve T F R H d g){p:ci}(c:H p=none){l:List (Int×α)}{us:List (Key×V)}(h:PK R H l us):∃e,Ch T F R H (λa=>a=p\/F a) e (upd H p<|.dK us)/\ve T F e (upd H p<|.dK us) d g/\Nw T (λa=>a=p) F e (upd H p<|.dK us) (Dc.mk l) (.ref p):=by
 refine yi (s.new (.dK us) c) λi m j=>?_;have r:¬F p:=λz=>j<|s.sub p z;have f:Ext (λ_=>False) R H (λa=>R a\/a=p) (upd H p<|.dK us):=⟨λb o _ h=>by rw[ss<|uf h c];exact h,λa h=>h.elim .inl λq=>.inr<|by rw[q];exact c⟩;refine⟨λa=>R a\/a=p,⟨m.keep,f.new,λa h=>h.elim (λq=>.inr<|by rw[q];exact c) .inl,λa h _=>.inl h⟩,⟨Sls.st s.rel f (λ_ z=>z.elim)<|λ_ _ z=>z,λa h=>.inl<|s.sub a h,λa h=>?_,i.tab,.inl s.uQ,s.uF⟩,⟨⟨p,us,rfl,λb=>Iff.rfl,tZ,OT (f.wide λ_ z=>z.elim) h⟩,λa h=>.inr h,λa h k=>r (by rw[<- h];exact k),λh=>j<|by rw[<- h];exact s.uQ⟩⟩;rcases h with h|h
 ·exact i.wn a h
 ·rw[h,tZ];simp
theorem K6{c:Int}:∀l:List Int,PK R H (l.map λk=>(k,c)) (l.map λk=>((gm k:Key),V.int c))
 | []=>.nil
 | _::l=>.cons ⟨rfl,rfl⟩<|K6 l
theorem MA{y:Str}{r t u:Pos}{c:Int}{j:Nat}{a:jO}(q:ID)(i:Nat){l:Type}[Sls l][A:At i D (Bd C fl) l](v:q.ok fl)(w:zP X.K C)(B:uS X.K C q.nm)(h:X.calm=true)(G:PE X (.Name x p1) (uH i))(e:rT a X.env=pure [])(f:∀y∈a.names,y.2≠.cell)(g:a.kind=.function)(b:∀y∈a.names,y.2=.local->a.names.lookup y.1=some .local)(I:a.names.lookup y=some .local)(J:(y==("__debug__":Str))=false:=by decide)(L:gH (.Name x p1) q.nm X.env (eval (.Name x p1) X.env)=eval (.Name x p1) X.env:=by rfl)
  (M:∀z,jg (.Attribute (.Name x p1) q.nm p2) X.env z=pure z:=by intro _;rfl) :
  EO X E T (.DictComp (.Name y r) (.Constant (.int c) j t) [⟨.Name y u,.Attribute (.Name x p1) q.nm p2,[],0⟩] a pos) (λ(d:D)(m:Dc Int->D->Prop) _=>m ⟨((q.get<|A.get d).map (·.1)).map λk=>(k,c)⟩ d):=by
 refine⟨_,Pc h (vV G L) e f g b I J M,λd F R σ H m Ke Q s N O ke=>?_⟩;obtain⟨p,P,e1,e2,e3,e4,us,S,o,_,_⟩:=vv (i:=i) s;refine Bb (zh o q v) λz U V _ _=>?_;refine⟨_,S,p,C,P,_,_,rfl,o.ob,w,B,U,z,_,(q.get<|A.get d).map (·.1),rfl,V,?_,λp' W=>?_⟩
 ·unfold Ao;rw[jt,jt];rfl
 ·refine ux (Pd s W (K6 (R:=R) (H:=H) (c:=c) ((q.get<|A.get d).map (·.1)))) λY Z s3 n3=>?_;exact O _ d _ _ F Y _ N Z s3 n3
theorem VQ{j:Nat}(e:EV X T a f):EO X E T (.Dict [some a] [.Constant .none j y] pos) (λ(d:D) (b:Dc (Option Int)->D->Prop) _=>b ⟨[(f d,none)]⟩ d):=by
 refine tX e λz g h=>?_;refine⟨_,Q6 (NB g Ii Q5) rfl rfl q0o q0o,λd F R i H b A Q s k m B=>?_⟩;intro p c;refine yi (s.new (.dK []) c) λo G I=>?_;refine h d F R i _ _ o λv r=>⟨tZ,[(gm<|f d,.vC)],?_,(show 1<=15 by decide),?_⟩
 ·have r:v=V.int (f d):=r;rw[r];rfl
 ·rw[QL];refine ux (Pd (α:=Option Int) s c (l:=[(f d,none)]) (us:=[(gm<|f d,V.vC)])<|.cons ⟨rfl,rfl⟩ .nil) λq t u w=>?_;exact m _ d _ _ F q _ k t u w
theorem tw_dcNin(i:Nat)[Sls h][A:At i D (Dc α) h](j:X.A.units+1<ju)(m:EW X E T a wk)(o:PE X (.Name x p1) (uH i))(p:ic .NotIn (.Name x p1)=false:=by with_unfolding_all rfl) :
  TW X E T (.Compare a [.NotIn] [.Name x p1] pos) (λ(d:D)(f:Bool->D->Prop) c=>wk d (λk b=>f (!(lk (A.get b).l k).isSome) b) c):=by
 refine tX m λO q r=>?_;refine⟨_,Ij (Bj j q o) p,λd F R t H f c Q s v w z=>r d F R t H _ c _ s v (λk b u B G I J K g e=>?_) z⟩;have e:u=V.int k:=e;subst e;obtain⟨y,P,L,M,N⟩:=CD (i:=i) g;refine⟨_,L,y,_,rfl,xf.k (k:=gm k) M,_,rfl,?_⟩;rw[KZ N];exact w _ b B G I J K g
theorem HL(i:Nat)[Sls u][A:At i D (Dc Int) u][U:Pt i u (Dc Int) D][J:Pj D PO n](K:X.A.units+1<ju)(L:PE X (.Name x p1) (uH i))(M:EV X T a f)(N:EV X T e h)(m:WM X op (Y5 g))
 (O:∀c j b,augStore a c j b=(do jz [b,c,j] (rc c j b);release [b,c,j] [];pure .next):=by intros;rfl) :
    S1 X E T ms n (.AugAssign (.Subscript (.Name x p1) a p3) op e pos) (λ(d:D)(B:D->Prop)(_:τ->PO->Prop) _=>∃v,lk (A.get d).l (f d)=some v/\(A.get d).l.length<fK/\B (U.put (A.hole d) ⟨pk (A.get d).l (f d)<|g v<|h d⟩)):=by
  refine tX M λta P Q=>?_
  refine tX N λte S W=>?_
  refine⟨_,Q4 K L P S m O,λd F R o H B Kr Ke En s Y Z kr ke=>?_⟩
  refine vt (OX (i:=i) s) λy us g1 G p g4=>?_
  refine ux Y λv h1 h2 h3=>?_
  refine⟨_,g1,Q d F R o H _ s λk q=>?_⟩
  have q:k=V.int (f d):=q
  subst q
  refine tX ((Jl p).1 v h1) λw w1 r=>?_
  have r:w=V.int v:=r
  subst r
  have I:=xf.k (k:=gm<|f d) G
  rw[w1] at I
  refine⟨y,_,rfl,I,W d F R o H _ s λz t=>?_⟩
  have t:z=V.int (h d):=t
  subst t
  obtain⟨c3,s3⟩:=g4 _ _<|OV (R:=R) (H:=H) (k:=f d) (x:=g v<|h d) (v:=V.int<|g v<|h d) rfl p
  exact⟨v,h d,rfl,rfl,_,EZ.k (k:=gm<|f d) G (by rw[Jm p];exact h2),Z _ F R _ o h3 c3 s3<|Ag.refl _ _⟩
end
section
variable{X:Cx}{E:XK}{T:ci}{D:Type}[Sls D]{pos:Pos}
theorem tw_ninT{m:Wf D Int D}{n:Wf D (Tp Int) D}(x:EW X E T a m)(z:EW X E T b n)(A:ic .NotIn b=false) :
  TW X E T (.Compare a [.NotIn] [b] pos) (λ(d:D) o f=>m d (λk g=>n g (λt h=>o (!decide (k∈t.l)) h) f) f):=by
 refine tX x λta B G=>?_;refine tX z λtb I J=>?_;refine⟨_,wQ Aw B I A,λd F R p H o f Q s K L r=>G d F R p H _ f _ s K (λk g u M N O P w i j=>?_) r⟩;refine J g M N p O _ f _ i P (λt h v S U W Y Z s2 r2=>?_) λC y d' F' R' H' k c s'=>r C y d' F' R' H' k (Ch.trans s i.tab w c) s';have j:u=V.int k:=j;subst j;obtain⟨l⟩:=t;obtain⟨q,us,rfl,_,h1,h2⟩:=r2;have e:=ints_of (xs:=l) h2;subst e;refine⟨q,_,rfl,.inr<|yg.of h1,rfl,zH _,_,rfl,?_⟩;rw[fE rfl,AH];exact L _ h S U W Y (Ch.trans s i.tab w Z) s2
end
end WL
namespace L2
variable[L2.GX]
open PySem PySem.Spec PyProof.Rows
def Z8(K:fB)(d:TE):TE:=λe H Q=>d e H λx b=>∃a c,x=.ref a/\vn K b a c/\∀p,b p=none->Q (.ref p) (upd b p<|.lst c.reverse)
theorem VR{X:Cx}{e:gA}{te:TE}{p2 p3 p4 pos:Pos}{j:Nat}(he:PE X e te):PE X (.Subscript e (.Slice none none (some<|.UnaryOp .USub (.Constant (.int 1) j p3) p4) p2) pos) (Z8 X.K te):=by
 intro pins s σ H Q I h;refine rG<|uL (he pins s σ H _ I h) λv s1 z9=>ut z9 λx H1 I1 r1 z89=>ut z89 λa xs e1 hx q=>?_;subst e1;obtain rfl:v=fZ a:=r1;refine wpAny_Slice ?_;rw[su,evalPart_some];refine ap<|ap<|uL (TM Nc uw pins s1 σ H1 (λv H=>v=.int (-1)/\H=H1) I1 ⟨1,rfl,rfl,rfl⟩) λu s2 z9=>vt z9 λy H2 I2 r2 e2 e3=>?_;subst e2 e3;obtain⟨t,rfl⟩:=r2;have I4:Inv X pins σ H2 { s2 with heap:=s2.heap.push { cls:=.type "slice",data:=.fields #[.none,.none,.int (-1) t]}}:=I2.kept (t':=s2.toks) λb ob q=>ce _ q;refine ux (I4.list hx) λyP r pl hz=>?_;refine' tail_any pl.isList.typeIs slot_list_getitem.lookup ?_ ?hs
 case hs=>with_unfolding_all rfl
 refine sv pl.isList (pV ..) .none .none (.int (-1) t) q0q ?_ (by rw[fW,<- r.length];exact hz);rw[PySem.W.krv_pick];refine⟨.ref (s2.heap.push { cls:=.type "slice",data:=.fields #[.none,.none,.int (-1) t]}).objs.size,_,I4.laid (t':=s2.toks) (o:=.lst xs.reverse) (λb ob q=>ce _ q) (fJ _) ?_,rfl,q _<|I4.uO.fresh<|fJ _⟩;exact⟨by rw[List.length_reverse];exact hz,yP.reverse,0,r.reverse,fU _ rfl⟩
end L2
namespace WL
variable[L2.GX]
open PySem L2
open Rep (rp)
open Ow (sl)
open Sls (rel)
section
variable{X:Cx}{E:XK}{T:ci}{D:Type}[Sls D]{pos:Pos}{α:Type}[Rep α]
theorem Jw{R:Rg}{H:Hp}:∀{xs:List α} {vs:List V},Paired (rp R H) xs vs->Paired (rp R H) xs.reverse vs.reverse:=by
 intro _ _ z
 induction z with
 | nil=>exact .nil
 | cons h t ih=>rw[mH,mH];exact wR ih<|.cons h .nil
theorem VS{j:Nat}(i:ER X E T a k) :
  EO X E T (.Subscript a (.Slice none none (some<|.UnaryOp .USub (.Constant (.int 1) j M) N) O) pos) (λ(d:D)(f:OL α->D->Prop) c=>k d (λg b=>f ⟨(g b).reverse⟩ b) c):=by
 refine tX i λP l m=>?_;refine⟨_,VR l,λd F R n H f c Q s o r t=>?_⟩;refine m d F R n H _ c _ s o (λg b u h v w x y e z=>?_) t;obtain⟨q,A,rfl,B,C⟩:=z b h v w (Ch.refl _ _ _ _) e;refine⟨q,A,rfl,vn.of B,λp G=>?_⟩;refine ux (wF e G<|Jw C) λI J K L=>?_;exact r _ b _ _ h I _ x (Ch.trans s e.tab y J) K L
end
end WL
namespace K7
variable[L2.GX]
open PySem L2 WL
open WL.Rep (rp)
open WL.Ow (sl)
open WL.Sls (rel)
local macro_rules | `(tactic| walk_at "wl") => `(tactic| dsimp only [At.get, At.hole, Pt.put, Ent.ent, Pj.pj, Fg.fg, Sel.sel, Sel.rest, Sel.mrg, Pre.pre, Pre.suf, at0, atS, pt0, ptS, ent0, entS, entC, pjNil, pjUn, pjCons, fgId, fgUn, fgCons, selNil, selCons, pre0, preS, stepC, id])
def top(i:Nat):gy:=PySem.Challenge.pw_slimbody_k22_the_border_of_a_head.main.body.getD i<|.Pass ⟨0,0,0,0⟩
abbrev wh:gy:=top 15
abbrev DD:gy:=top 16
abbrev FQ:gy:=top 18
def EC:Wf (List Int×Unit) Bool (Un×Unit):=λp a _=>a (asc p.1) (⟨⟩,())
def ED:Wf (Tp Int×Unit) Bool (Un×Unit):=λp a _=>a (asc p.1.l) (⟨⟩,())
def CG(C:ci):Wf (List Int×Unit) Unit (Un×Unit):=λp a b=>(asc p.1=true->a () (⟨⟩,()))/\(asc p.1=false->b C (⟨⟩,()))
def K8(C:ci):Wf (Tp Int×Unit) Unit (Un×Unit):=λp a b=>(asc p.1.l=true->a () (⟨⟩,()))/\(asc p.1.l=false->b C (⟨⟩,()))
def K9:Wf (List (Tp Int)×Unit) (OL Int) (Un×Unit):=λp a _=>∃U:List Int,U.length<64/\(∀r∈p.1,wA r.l/\∀x∈r.l,x∈U)/\a ⟨KP (p.1.map (·.l))⟩ (⟨⟩,())
section
variable{P:gf}{w:gu}{K:fB}{mg:Str->Option cr}{base:gE}{T:ci}
theorem EE:ug ["row"] ["row"] (tY wh):=⟨rfl,rfl,rfl,q0s,rfl,q0s,q0s⟩
theorem Jx{f c:ci}{fd:gF}(F:xY K "is_sum" "is_sum" wh f fd)(hc:fd.code=.ref c)(B:Hk mg base c T)(VT:mg "all"=none)(VU:mg "zip"=none):uE P w K mg base (uP P w) 1 f fd ["row"] (xG T EC):=by
 refine' ui (T8 (A:=List Int×Unit) (PO:=Un×Unit) (τ:=Bool) (D':=Unit) (ms:=[]) (j:=0) F EE rfl rfl λA outer s H E hr=>?body) ?nice
 case body =>
  exact t7<|uD<|uU<|Ot (kf 0<|pv 0) (uM<|Ho (vD<|kf 0<|pv 0) (Fo t9) Fl)<|λh=>Hj Zz (c:=c) (P:=T) rfl ⟨hc,B.hd,B.blt⟩ hr.depth rfl VT rfl VU h rfl rfl rfl q0s rfl rfl rfl q0s q0s q0s
 case nice =>
  intro p Kn Ke h
  walk_at "wl"
  rw[XG];exact h
theorem Jy{f c:ci}{fd:gF}(F:xY K "is_sum" "is_sum" wh f fd)(hc:fd.code=.ref c)(B:Hk mg base c T)(VT:mg "all"=none)(VU:mg "zip"=none):uE P w K mg base (uP P w) 1 f fd ["row"] (xG T ED):=by
 refine' ui (T8 (A:=Tp Int×Unit) (PO:=Un×Unit) (τ:=Bool) (D':=Unit) (ms:=[]) (j:=0) F EE rfl rfl λA outer s H E hr=>?body) ?nice
 case body =>
  exact t7<|uD<|uU<|Ou (kf 0<|pv 0) (Ml (kf 0<|pv 0) (Fo t9) Fl)<|λh=>Hj ZZ (c:=c) (P:=T) rfl ⟨hc,B.hd,B.blt⟩ hr.depth rfl VT rfl VU h rfl rfl rfl q0s rfl rfl rfl q0s q0s q0s
 case nice =>
  intro p Kn Ke h
  walk_at "wl"
  rw[XG];exact h
theorem La:ug ["row"] ["row"] (tY DD):=⟨rfl,rfl,rfl,q0s,rfl,q0s,q0s⟩
theorem EF{b:Bool}(h:(b=true->p)/\(b=false->q)):if (!b)=true then q else p:=by
 cases b
 ·exact h.2 rfl
 ·exact h.1 rfl
theorem Pe{f C f1:ci}{fd Ul:gF}{Ba:List cr}{B newId wq:String}(F:xY K "must_be_sum" "must_be_sum" DD f fd)(F1:Fn K mg "is_sum" wh ["row"] f1 Ul)(G1:uE P w K mg base (uP P w) 1 f1 Ul ["row"] (xG T EC))
  (hC:mg "NotASum"=some (.ref C))(O:im K C Ba newId=true)(FB:jm B newId wq Ba)(g0:∀H',GX.g C none H'):uE P w K mg base (uP P w) 2 f fd ["row"] (xG T<|CG C):=by
 refine' ui (C8 (uG q0q) (A:=List Int×Unit) (PO:=Un×Unit) (D':=List Int×Unit) (ms:=[]) (j:=0) F La rfl rfl λQ7 A outer s H E hr=>?body) ?nice
 case body =>
  exact t7<|uV (tw_not<|tw_val<|uo<|AI G1 hr rfl F1.at_ F1.fn.kp F1.bd uh<|ud (kf 0<|pv 0) t6) (t7<|Dl<|C7 rfl hC O FB g0<|ue EQ uu) uK
 case nice =>
  intro p Kn Ke h
  walk_at "wl"
  exact EF h
theorem Pf{f C f1:ci}{fd Ul:gF}{Ba:List cr}{B newId wq:String}(F:xY K "must_be_sum" "must_be_sum" DD f fd)(F1:Fn K mg "is_sum" wh ["row"] f1 Ul)(G1:uE P w K mg base (uP P w) 1 f1 Ul ["row"] (xG T ED))
  (hC:mg "NotASum"=some (.ref C))(O:im K C Ba newId=true)(FB:jm B newId wq Ba)(g0:∀H',GX.g C none H'):uE P w K mg base (uP P w) 2 f fd ["row"] (xG T<|K8 C):=by
 refine' ui (C8 (uG q0q) (A:=Tp Int×Unit) (PO:=Un×Unit) (D':=Tp Int×Unit) (ms:=[]) (j:=0) F La rfl rfl λQ7 A outer s H E hr=>?body) ?nice
 case body =>
  exact t7<|uV (tw_not<|tw_val<|uo<|AI G1 hr rfl F1.at_ F1.fn.kp F1.bd uh<|ud (kf 0<|pv 0) t6) (t7<|Dl<|C7 rfl hC O FB g0<|ue EQ uu) uK
 case nice =>
  intro p Kn Ke h
  walk_at "wl"
  exact EF h
theorem HM:ug ["rows","odd","row","number"] ["rows"] (tY FQ):=⟨rfl,rfl,rfl,q0s,rfl,q0s,q0s⟩
theorem Pg{f C f1:ci}{fd Ul:gF}(F:xY K "total" "total" FQ f fd)(F1:Fn K mg "must_be_sum" DD ["row"] f1 Ul)(G1:uE P w K mg base (uP P w) 2 f1 Ul ["row"] (xG T<|K8 C))(Z9:mg "set"=none)(Sz:mg "sorted"=none) :
  uE P w K mg base (uP P w) 3 f fd ["rows"] (xG T K9):=by
 refine' ui (v8 (A:=List (Tp Int)×Unit) (PO:=Un×Unit) (τ:=OL Int) (D':=Unit) (ms:=[]) (j:=3) F HM rfl rfl λQ7 A outer s H E hr=>?body) ?nice
 case body =>
  have nd:=HM.nd
  exact Cr (uG q0q) (um 1 nd rfl (gc rfl) q0q<|RM (w:=w) rfl rfl Z9)
   (Cr (uG q0q) (vY (is:=[]) (mb:=[]) (D1:=List (Tp Int)×SI w×Tp Int×Un×Unit) (D2:=List (Tp Int)×SI w×Tp Int×Un×Unit) (uG q0q) x9 rfl (vH (kf 0 (pv 0))) (uz 2 (uk (i:=2) nd rfl (gc rfl)) q0q)
    (Cr (uG q0q) (uY (uo (AI G1 hr rfl F1.at_ F1.fn.kp F1.bd uh (ud (kf 2 (pv 2)) t6))))
     (t7 (vY (is:=[]) (mb:=[]) (D1:=List (Tp Int)×SI w×Tp Int×Int×Unit) (D2:=List (Tp Int)×SI w×Tp Int×Int×Unit) (uG q0q) x9 rfl (Ov (kf 2 (pv 2))) (uz 3 (uk (i:=3) nd rfl (gc rfl)) q0q)
      (t7 (uV (tw_inS 1 (w:=w) rfl (kf 3 (pv 3)) (pv 1) (by with_unfolding_all rfl))
       (t7<|RO 1 (w:=w) rfl (kf 3<|pv 3)<|λh=>vF<|NX PySem.F.slot_set_discard PySem.F.type_set_discard NW (pv 1) h)
       (t7 (RN 1 (w:=w) rfl (kf 3 (pv 3)) (λh=>vF (NX PySem.F.slot_set_add PySem.F.type_set_add Ru (pv 1) h)))))) q0q q0q))) q0q q0q)
    (t7 (uD (Jh 1 (w:=w) rfl rfl rfl Sz (pv 1)))))
 case nice =>
  intro p Kn Ke h
  walk_at "wl"
  obtain⟨U,hU,hr,hk⟩:=h;refine uW (λ(r:List (Tp Int)) (b:List (Tp Int)×SI w×Un×Un×Unit)=>wA b.2.1.l/\(∀x∈b.2.1.l,x∈U)/\(r.map (·.l)).foldl xr b.2.1.l=KP (p.1.map (·.l))) p.1 ⟨gx,(λ_ h=>by cases h),rfl⟩ ?_ ?_
  ·rintro x r b ⟨pre,e⟩ ⟨h1,h2,h3⟩ K hK;have hx:=hr x (by rw[e];simp);refine⟨λ_=>?_,λz=>fY ((xN _).mpr hx.1)<|by rw[z];simp⟩;refine uW (λ(q:List Int) (c:List (Tp Int)×SI w×Tp Int×Un×Unit)=>wA c.2.1.l/\(∀y∈c.2.1.l,y∈U)/\q.foldl GH c.2.1.l=xr b.2.1.l x.l) x.l ⟨h1,h2,rfl⟩ ?_ ?_
   ·rintro y q c ⟨a1s,e2⟩ ⟨g1,g2,g3⟩ K2 hK2;have hy:y∈x.l:=by rw[e2];simp
    have g3':q.foldl GH (GH c.2.1.l y)=xr b.2.1.l x.l:=g3;by_cases hc:y∈c.2.1.l
    ·rw[fE<|decide_eq_true hc];refine hK2 _ ⟨iX _ g1,λz hz=>g2 z (zf.mp hz).1,?_⟩;rw[<- g3'];unfold GH;rw[fE hc]
    ·rw[fF<|by simpa using hc];refine⟨by have:=vI g1 g2;lia,hK2 _ ⟨Cw g1,λz hz=>?_,?_⟩⟩
     ·rcases AN.mp hz with e3|e3
      ·rw[e3];exact hx.2 y hy
      ·exact g2 z e3
     ·rw[<- g3'];show q.foldl GH (Dj y c.2.1.l)=q.foldl GH (GH c.2.1.l y);rw[show GH c.2.1.l y=Dj y c.2.1.l from fF hc]
   ·rintro c ⟨g1,g2,g3⟩;refine hK _ ⟨g1,g2,?_⟩;rw[<- h3];show (r.map (·.l)).foldl xr c.2.1.l=(r.map (·.l)).foldl xr (xr b.2.1.l x.l);rw[<- g3];rfl
  ·rintro b ⟨h1,h2,h3⟩;refine⟨by have:=vI h1 h2;lia,?_⟩;have h3':b.2.1.l=KP (p.1.map (·.l)):=h3;rw[h3'];exact hk
end
local macro_rules | `(tactic| walk_at "wl") => `(tactic| dsimp only [At.get, At.hole, Pt.put, Ent.ent, Pj.pj, Fg.fg, Sel.sel, Sel.rest, Sel.mrg, Pre.pre, Pre.suf, at0, atS, pt0, ptS, ent0, entS, entC, pjNil, pjUn, pjCons, fgId, fgUn, fgCons, selNil, selCons, pre0, preS, stepC, id, ID.get, ID.set, wSq])
local macro_rules | `(tactic| walk_at "sc") => `(tactic| exact ⟨rfl, rfl, rfl, by decide +kernel, rfl, by decide +kernel, by decide +kernel⟩)
section
variable(C:ci)
abbrev B0:=Bd C true
def vr{C:ci}(x:B0 C)(row:List Int):Bool:=row.all λc=>(lk x.rk c).isSome
def v7{C:ci}(x:B0 C)(c:Int):List Int:=(lk x.bd c).getD []
def VW{C:ci}(x:B0 C)(c:Int):List Int:=(x.rk.map (·.1)).filter λh=>decide<|c∈v7 x h
def Ph{C:ci}(x:B0 C)(row:List Int)(r:Int):Bool:=row.all λc=>decide<|lk x.rk c=some r
structure Pk{C:ci}(x:B0 C):Prop where
 kb:∀k,(lk x.rk k).isSome=true->(lk x.bd k).isSome=true
 bo:∀k b,lk x.bd k=some b->wA b/\∀c∈b,0<=c/\c<63
 ri:(x.rk.map (·.1)).Pairwise (·<=·)
 lr:x.rk.length<64
 lb:x.bd.length<64
def AV(a:ci):Wf (B0 C×Int×Unit) Unit (B0 C×Un×Unit):=λp b c =>
 if (lk p.1.rk p.2.1).isSome=true then b () (p.1,⟨⟩,()) else c a (p.1,⟨⟩,())
def zl(XS XC:ci):Wf (B0 C×List Int×Unit) Unit (B0 C×Un×Unit):=λp Kn Ke =>
 if asc p.2.1=true then (if vr p.1 p.2.1=true then Kn () (p.1,⟨⟩,()) else Ke XC (p.1,⟨⟩,())) else Ke XS (p.1,⟨⟩,())
def wI(XO:ci):Wf (B0 C×List Int×Int×Unit) Unit (B0 C×Un×Un×Unit):=λp Kn Ke =>
 vr p.1 p.2.1=true/\if Ph p.1 p.2.1 p.2.2.1=true then Kn () (p.1,⟨⟩,⟨⟩,()) else Ke XO (p.1,⟨⟩,⟨⟩,())
def w4(XS XC:ci):Wf (B0 C×List Int×Unit) (OL Int) (B0 C×Un×Unit):=λp Kn Ke =>
 Pk p.1/\if asc p.2.1=true then (if vr p.1 p.2.1=true then Kn ⟨KP<|p.2.1.map<|v7 p.1⟩ (p.1,⟨⟩,()) else Ke XC (p.1,⟨⟩,())) else Ke XS (p.1,⟨⟩,())
def CH:Wf (B0 C×Unit) (OL Int) (B0 C×Unit):=λp a _=>Pk p.1/\a ⟨p.1.rk.map (·.1)⟩ (p.1,())
def FR(a:ci):Wf (B0 C×Int×Unit) (OL Int) (B0 C×Un×Unit):=λp b c =>
 Pk p.1/\if (lk p.1.rk p.2.1).isSome=true then b ⟨VW p.1 p.2.1⟩ (p.1,⟨⟩,()) else c a (p.1,⟨⟩,())
def HN(b c d e f:ci):Wf (B0 C×Int×List Int×Unit) Int (B0 C×Un×Un×Unit):=λp g a =>
 Pk p.1/\lk p.1.bd p.1.up=none/\if p.2.1<0\/12<p.2.1 then a b (p.1,⟨⟩,⟨⟩,()) else if asc p.2.2.1=true then (if vr p.1 p.2.2.1=true then (if Ph p.1 p.2.2.1 (p.2.1-1)=true then
  (if KP (p.2.2.1.map (v7 p.1))=[] then g p.1.up ({ p.1 with rk:=pk p.1.rk p.1.up p.2.1,bd:=pk p.1.bd p.1.up p.2.2.1,up:=p.1.up+1},⟨⟩,⟨⟩,()) else a f (p.1,⟨⟩,⟨⟩,())) else a e (p.1,⟨⟩,⟨⟩,())) else a d (p.1,⟨⟩,⟨⟩,())) else a c (p.1,⟨⟩,⟨⟩,())
def FS(b c:ci):Wf (B0 C×Int×Unit) Unit (B0 C×Un×Unit):=λp d a =>
 Pk p.1/\if (lk p.1.rk p.2.1).isSome=true then (if VW p.1 p.2.1=[] then d () ({ p.1 with rk:=dk p.1.rk p.2.1,bd:=dk p.1.bd p.2.1},⟨⟩,()) else a c (p.1,⟨⟩,())) else a b (p.1,⟨⟩,())
def AW(XC:ci):Wf (B0 C×Int×Unit) (OL Int) (B0 C×Un×Unit):=λp Kn Ke =>
 Pk p.1/\if (lk p.1.rk p.2.1).isSome=true then Kn ⟨v7 p.1 p.2.1⟩ (p.1,⟨⟩,()) else Ke XC (p.1,⟨⟩,())
end
theorem zK{n k:Int}(h0:0<=k)(h1:k<n):k∈ye 0 n:=by unfold ye;exact List.mem_map.mpr ⟨k.toNat,List.mem_range.mpr q0a,q0a⟩
theorem zm{k:Int}:∀{l:List (Int×c)},(lk l k).isSome=true->k∈l.map (·.1):=by
 intro b
 induction b with
 | nil=>intro h;cases h
 | cons e l a =>
  intro h;by_cases q:e.1=k
  ·rw[<- q];simp
  ·have:lk (e::l) k=lk l k:=by unfold lk;rw[gQ,gz q]
   rw[this] at h;exact fP _<|a h
theorem wJ{k:Int}:∀{l:List (Int×a)},k∈l.map (·.1)->(lk l k).isSome=true
 | [],h=>by cases h
 | e::l,h=>by
  by_cases q:e.1=k
  ·unfold lk;rw[gQ,decide_eq_true q];rfl
  ·have:lk (e::l) k=lk l k:=by unfold lk;rw[gQ,gz q]
   rw[this];rcases List.mem_cons.mp h with z|z
   ·exact fY z.symm q
   ·exact wJ z
theorem DE{C:ci}{x:B0 C}{c:Int}{r:List Int}:vr x (c::r)=((lk x.rk c).isSome&&vr x r):=by unfold vr;rw[oR]
theorem Pl{C:ci}{x:B0 C}{c k:Int}{r:List Int}:Ph x (c::r) k=(decide (lk x.rk c=some k)&&Ph x r k):=by unfold Ph;rw[oR]
theorem MB{C:ci}{x:B0 C}{row:List Int}(ok:Pk x)(ha:asc row=true)(h:vr x row=true):row.length<=fK:=by have:=vI (U:=x.rk.map (·.1)) ((xN row).mp ha) λc hc=>zm<|List.all_eq_true.mp h c hc;rw[fN] at this;have:=ok.lr;exact uZ q0a
theorem AX{n:Nat}(h:n<1000):n<fK:=by have z:fK=16777216:=hX;lia
theorem zZ{C:ci}{x:B0 C}(ok:Pk x){c:Int}(h:(lk x.rk c).isSome=true):lk x.bd c=some (v7 x c):=by obtain⟨v,hv⟩:=Option.isSome_iff_exists.mp<|ok.kb c h;unfold v7;rw[hv];rfl
theorem vJ{K:List d->S->Prop}(e:∀x∈c,∀K:Option d->S->Prop,(if q x=true then K (some x) s else K none s)->b x s K)(h:K (c.filter q) s):AM b c s K:=by
 refine vk (f:=λx=>if q x=true then some x else none) (λx g K a=>e x g K ?_) (by rw[filterMap_filter];exact h);by_cases z:q x=true
 ·rw[fE z] at a ⊢;exact a
 ·rw[fF z] at a ⊢;exact a
section
variable{q:Cq}{C XC XS XO XB XP XV VX XF XT XN XR:ci}
abbrev yE:gy:=BD (top 24) 15
abbrev yF:List Str:=["self","cell"]
theorem D7:ug ["self","cell"] yF (tY yE):=by walk_at "sc"
abbrev vK(q:Cq)(C XC:ci)(k:Nat):=yQ q C "must_stand" yF (AV C XC) k
theorem D8(F:xY q.K "must_stand" "Body.must_stand" yE f d)(c:BB q.K C)(a:Xc q.K q.mg "NoCell" XC):Gq q 2 f d yF (AV C XC):=by
 refine' ui (C8 (uG q0q) (D':=(Bd C true)×Int×Unit) (ms:=[0]) (j:=0) F D7 rfl rfl λe A b s H E g =>
   (t7 (uV (tw_dIn .rk true 0 trivial c.cl c.nR (BC g) (kf 1 (pv 1)) (pv 0))
   (t7<|AR rfl a)
   uK))) λp i k h=>?_
 walk_at "wl"
 have h:if (lk p.1.rk p.2.1).isSome=true then i () (p.1,⟨⟩,()) else k XC (p.1,⟨⟩,()):=h
 cases q:(lk p.1.rk p.2.1).isSome with
 | true=>rw[q] at h;simpa using h
 | false=>rw[q] at h;simpa using h
abbrev zn:gy:=BD (top 24) 16
abbrev zo:List Str:=["self","row"]
theorem AY:ug ["self","row","cell"] zo (tY zn):=by walk_at "sc"
abbrev zp(q:Cq)(C XS XC:ci)(k:Nat):=yQ q C "must_hold" zo (zl C XS XC) k
theorem FT{f:ci}{fd:gF}(F:xY q.K "must_hold" "Body.must_hold" zn f fd)(ct:BB q.K C)(D9:xj q "must_be_sum" ["row"] (CG XS) 2)(wx:vK q C XC 2):Gq q 3 f fd zo (zl C XS XC):=by
 refine' ui (C8 (uG q0q) (D':=(Bd C true)×(List Int)×Un×Unit) (ms:=[0]) (j:=1) F AY rfl rfl λQ7 A outer s H E hr =>
   (ul (uY (uo (uy D9 hr rfl uh (ud (kf 1 (pv 1)) t6))))
   (t7 (vY (is:=[]) (mb:=[0]) (D1:=(Bd C true)×(List Int)×Int×Unit) (D2:=(Bd C true)×(List Int)×Int×Unit) (uG q0q) x9 rfl (vH (kf 1 (pv 1))) (uz 2 (uk (i:=2) AY.nd rfl (gc rfl)) q0q)
   (t7 (uY (uo (vA 0 wx hr ct.cl uh (pv 0) (ud (kf 2 (pv 2)) t6))))) q0q q0q)))) λp Kn Ke h=>?_
 walk_at "wl"
 have h:if asc p.2.1=true then (if vr p.1 p.2.1=true then Kn () (p.1,⟨⟩,()) else Ke XC (p.1,⟨⟩,())) else Ke XS (p.1,⟨⟩,()):=h;refine⟨λha=>?_,λha=>?_⟩
 ·have ha:asc p.2.1=true:=ha;rw[fE ha] at h;refine uW (λ(r:List Int)(b:B0 C×List Int×WL.Un×Unit)=>b.1=p.1/\if vr p.1 r=true then Kn () (p.1,⟨⟩,()) else Ke XC (p.1,⟨⟩,())) p.2.1 ⟨rfl,h⟩ ?_ ?_
  ·rintro c r b _ ⟨e,hb⟩ K2 hK;rw[DE] at hb;show if (lk b.1.rk c).isSome=true then K2 _ else Ke XC (b.1,⟨⟩,());rw[e]
   cases q:(lk p.1.rk c).isSome with
   | false=>rw[q] at hb;simpa using hb
   | true =>
    rw[q,Bool.true_and] at hb;rw[fE rfl];exact hK _ ⟨rfl,hb⟩
  ·rintro b ⟨e,hb⟩;show Kn () (b.1,⟨⟩,());rw[e];exact hb
 ·have ha:asc p.2.1=false:=ha;rw[fF<|by rw[ha];simp] at h;exact h
abbrev wK:gy:=BD (top 24) 17
abbrev wL:List Str:=["self","row","rank"]
theorem xO:ug ["self","row","rank","cell"] wL (tY wK):=by walk_at "sc"
abbrev BG(q:Cq)(C XO:ci)(k:Nat):=yQ q C "must_have_rank" wL (wI C XO) k
theorem AZ{f:ci}{fd:gF}(F:xY q.K "must_have_rank" "Body.must_have_rank" wK f fd)(ct:BB q.K C)(HP:Xc q.K q.mg "OtherRank" XO):Gq q 2 f fd wL (wI C XO):=by
 refine' ui (C8 (uG q0q) (D':=(Bd C true)×(List Int)×Int×Un×Unit) (ms:=[0]) (j:=1) F xO rfl rfl λQ7 A outer s H E hr =>
   (t7 (vY (is:=[]) (mb:=[0]) (D1:=(Bd C true)×(List Int)×Int×Int×Unit) (D2:=(Bd C true)×(List Int)×Int×Int×Unit) (uG q0q) x9 rfl (vH (kf 1 (pv 1))) (uz 3 (uk (i:=3) xO.nd rfl (gc rfl)) q0q)
   (t7 (uV (tw_cm Oc (FC .rk 0 trivial ct.cl ct.nR (BC hr) (pv 0) (vm 3 (pv 3))) (kf 2 (pv 2)) (uA _))
   (t7<|AR rfl HP)
   uK)) q0q q0q))) λp Kn Ke h=>?_
 walk_at "wl"
 have h:vr p.1 p.2.1=true/\if Ph p.1 p.2.1 p.2.2.1=true then Kn () (p.1,⟨⟩,⟨⟩,()) else Ke XO (p.1,⟨⟩,⟨⟩,()):=h;refine uW (λ(r:List Int)(b:B0 C×List Int×Int×WL.Un×Unit)=>b.1=p.1/\b.2.2.1=p.2.2.1/\vr p.1 r=true/\if Ph p.1 r p.2.2.1=true then Kn () (p.1,⟨⟩,⟨⟩,()) else Ke XO (p.1,⟨⟩,⟨⟩,())) p.2.1 ⟨rfl,rfl,h.1,h.2⟩ ?_ ?_
 ·rintro c r b _ ⟨e1,e2,hi,hb⟩ K2 hK;rw[DE,gK] at hi;rw[Pl] at hb;obtain⟨v,hv⟩:=Option.isSome_iff_exists.mp hi.1;refine⟨v,by rw[e1];exact hv,?_⟩;rw[hv] at hb;rw[e2];by_cases q:v=p.2.2.1
  ·rw[fF<|by simp[q]];refine hK _ ⟨e1,rfl,hi.2,?_⟩;rw[q] at hb;simpa using hb
  ·rw[fE (by simp[q]),e1];rw[fF<|by simp[q]] at hb;exact hb
 ·rintro b ⟨e1,_,_,hb⟩;show Kn () (b.1,⟨⟩,⟨⟩,());rw[e1];exact hb
abbrev zq:gy:=BD (top 24) 9
abbrev vE:List Str:=["self","row"]
theorem FU:ug ["self","row"] vE (tY zq):=by walk_at "sc"
theorem Ea:(["cell","self"]:List Str).Nodup:=by decide +kernel
abbrev HQ(q:Cq)(C XS XC:ci)(k:Nat):=yQ q C "border_of" vE (w4 C XS XC) k
theorem FV{f:ci}{fd:gF}(F:xY q.K "border_of" "Body.border_of" zq f fd)(ct:BB q.K C)(SA:xj q "total" ["rows"] K9 3)(HR:zp q C XS XC 3):Gq q 4 f fd vE (w4 C XS XC):=by
 refine' ui (v8 (D':=Unit) (ms:=[0]) (j:=0) F FU rfl rfl λQ7 A outer s H E hr =>
   (ul (uY (uo (vA 0 HR hr ct.cl uh (pv 0) (ud (kf 1 (pv 1)) t6))))
   (t7 (uD (uy SA hr rfl uh (ud (uM (wS (Ts:=["cell"]) (Fr:=["self"]) (idx:=[0]) (k:=1) (mb:=[1]) (is:=[]) (cl:=[("self",s.heap.objs.size+1)]) rfl (vH (kf 1 (pv 1))) ⟨rfl,rfl,q0s,q0s,(λx c h=>by
    rcases KL h with⟨rfl,rfl⟩|h
    ·rfl
    cases h),(fc (λz=>by cases z) (fc (λz=>by cases z) (fc (λ_=>⟨_,rfl⟩) zQ))),
    (λj x h=>by
    match j,h with
    | 0,h=>cases h;exact⟨0,_,rfl,rfl,.inl rfl,rfl,.inl rfl⟩
    | n+1,h=>cases h),rfl⟩ rfl (v9 rfl) (λs₀ H₀ C ex pn=>(uz 0 (uk (i:=0) Ea rfl (gc rfl)) q0q)) (λs₀ H₀ C ex pn=>tws_nil) (λs₀ H₀ C ex pn=>(zJ 1 ct.cl ct.nB (BC hr) (pv 1) (vm 0 (pv 0)))))) t6)))))) λp Kn Ke h=>?_
 walk_at "wl"
 obtain⟨ok,h⟩:=h;show if asc p.2.1=true then (if vr p.1 p.2.1=true then _ else Ke XC (p.1,⟨⟩,())) else Ke XS (p.1,⟨⟩,());by_cases ha:asc p.2.1=true
 ·rw[fE ha] at h ⊢;by_cases hb:vr p.1 p.2.1=true
  ·rw[fE hb] at h ⊢
   have lkb:∀c∈p.2.1,lk p.1.bd c=some (v7 p.1 c):=λc hc=>by obtain⟨v,hv⟩:=Option.isSome_iff_exists.mp<|ok.kb c<|List.all_eq_true.mp hb c hc;unfold v7;rw[hv];rfl
   refine⟨MB ok ha hb,vk (f:=λc=>some<|Tp.mk<|v7 p.1 c) (λc hc K hk=>⟨v7 p.1 c,lkb c hc,hk⟩) ?_⟩;refine⟨ye 0 63,by rw[vO];decide,λr hr=>?_,?_⟩
   ·obtain⟨c,hc,e⟩:=List.mem_filterMap.mp hr;cases e;obtain⟨g1,g2⟩:=ok.bo c _<|lkb c hc;exact⟨g1,λx hx=>zK (g2 x hx).1 (g2 x hx).2⟩
   ·have e:((p.2.1.filterMap λc=>some<|Tp.mk<|v7 p.1 c).map (·.l))=p.2.1.map (v7 p.1):=by rw[show (λc=>some<|Tp.mk<|v7 p.1 c)=some∘(λc=>Tp.mk<|v7 p.1 c) from rfl,List.filterMap_eq_map,jt];rfl
    show Kn ⟨KP ((p.2.1.filterMap λc=>some<|Tp.mk<|v7 p.1 c).map (·.l))⟩ _;rw[e];exact h
  ·rw[fF hb] at h ⊢;exact h
 ·rw[fF ha] at h ⊢;exact h
abbrev FW:gy:=BD (top 24) 4
abbrev xP:List Str:=["self"]
theorem Pm:ug ["self"] xP (tY FW):=by walk_at "sc"
abbrev SE(q:Cq)(C:ci)(k:Nat):=yQ q C "cells" xP (CH C) k
theorem Pn(F:xY q.K "cells" "Body.cells" FW f d)(b:BB q.K C)(B:Bn q.mg):Gq q 2 f d xP (CH C):=by
 refine' ui (v8 (D':=Unit) (ms:=[0]) (j:=0) F Pm rfl rfl λe A a s H E g =>
   (t7 (uD (Do .rk 0 trivial b.cl b.nR rfl rfl B.sorted (pv 0))))) λp i k h=>?_
 walk_at "wl"
 obtain⟨c,h⟩:=h;exact⟨c.lr,by rw[<- Bw (ni _) c.ri];exact h⟩
abbrev Jz:gy:=BD (top 24) 8
abbrev zr:List Str:=["self","cell"]
theorem SF:ug ["self","cell"] zr (tY Jz):=by walk_at "sc"
theorem Po:(["high","cell","self"]:List Str).Nodup:=by decide +kernel
abbrev VY(q:Cq)(C XC:ci)(k:Nat):=yQ q C "over" zr (FR C XC) k
theorem SG(F:xY q.K "over" "Body.over" Jz f D)(m:BB q.K C)(a:vK q C XC 3)(b:SE q C 3):Gq q 4 f D zr (FR C XC):=by
 refine' ui (v8 (D':=Unit) (ms:=[0]) (j:=0) F SF rfl rfl λG A o s H E r =>
   (ul (uY (uo (vA 0 a r m.cl uh (pv 0) (ud (kf 1 (pv 1)) t6))))
   (t7 (uD (wS (Ts:=["high"]) (Fr:=["cell","self"]) (idx:=[1,0]) (k:=1) (mb:=[1,2]) (is:=[]) (cl:=[("self",s.heap.objs.size+1),("cell",s.heap.objs.size+1+1)]) rfl (vH (uM (Hy 0 b r m.cl uh (pv 0)))) ⟨rfl,rfl,q0s,q0s,(λx c h=>by
    rcases KL h with⟨rfl,rfl⟩|h
    ·rfl
    rcases KL h with⟨rfl,rfl⟩|h
    ·rfl
    cases h),(fc (λz=>by cases z) (fc (λz=>by cases z) (fc (λ_=>⟨_,rfl⟩) (fc (λ_=>⟨_,rfl⟩) zQ)))),
    (λj x h=>by
    match j,h with
    | 0,h=>cases h;exact⟨1,_,rfl,rfl,.inl rfl,rfl,.inl rfl⟩
    | 1,h=>cases h;exact⟨0,_,rfl,rfl,.inl rfl,rfl,.inl rfl⟩
    | n+2,h=>cases h),rfl⟩ rfl (v9 rfl) (λd g C u w=>(uz 0 (uk (i:=0) Po rfl (gc rfl)) q0q)) (λd g C u w=>(tws_one (tw_inT (kf 1 (pv 1)) (zJ 2 m.cl m.nB (BC r) (pv 2) (vm 0 (pv 0))) (by with_unfolding_all rfl)))) (λd g C u w=>(kf 0 (pv 0)))))))) λp L I h=>?_
 walk_at "wl"
 obtain⟨t,h⟩:=h;show if (lk p.1.rk p.2.1).isSome=true then _ else I XC (p.1,⟨⟩,());by_cases y:(lk p.1.rk p.2.1).isSome=true
 ·rw[fE y] at h ⊢;refine⟨t,?_,?_⟩
  ·show (p.1.rk.map (·.1)).length<=fK;rw[fN];have:=t.lr;exact uZ q0a
  ·refine vk (f:=λk=>if decide (p.2.1∈v7 p.1 k)=true then some k else none) (λk J K l=>?_) ?_
   ·obtain⟨v,B⟩:=Option.isSome_iff_exists.mp<|t.kb k<|wJ J;have e:v7 p.1 k=v:=by unfold v7;rw[B];rfl
    refine⟨v,B,?_⟩;rw[e] at l;show if decide (p.2.1∈v)=true then _ else _;by_cases q:decide (p.2.1∈v)=true
    ·rw[fE q] at l ⊢;exact l
    ·rw[fF q] at l ⊢;exact l
   ·rw[filterMap_filter];exact h
 ·rw[fF y] at h ⊢;exact h
abbrev Pp:gy:=BD (top 24) 1
abbrev B6:List Str:=["self","rank","border"]
theorem Pq:ug ["self","rank","border","cell"] B6 (tY Pp):=by walk_at "sc"
abbrev Ya(q:Cq)(C XB XS XC XO XP:ci)(k:Nat):=yQ q C "put" B6 (HN C XB XS XC XO XP) k
theorem VZ(F:xY q.K "put" "Body.put" Pp f R)(m:BB q.K C)(e:zp q C XS XC 5)(b:BG q C XO 5)(g:HQ q C XS XC 5)(k:Xc q.K q.mg "BadRank" XB)(t:Xc q.K q.mg "Full" VX)(c:Xc q.K q.mg "OpenBorder" XP)(d:q.mg "MOST_CELLS"=some (.int 120 r))(i:q.mg "TOP_RANK"=some (.int 12 u))(B:Bn q.mg):Gq q 6 f R B6 (HN C XB XS XC XO XP):=by
 refine' ui (v8 (D':=Unit) (ms:=[0]) (j:=1) F Pq rfl rfl λS A J s H E w =>
   (ul (uV (tw_w (Uc (tw_cm Ob (kf 1 (pv 1)) t9 (uA _)) (Od (tw_cm Ua (kf 1 (pv 1)) (OF rfl i) (uA _)))))
   (t7<|AR rfl k)
   uK)
   (ul (uY (uo (vA 0 e w m.cl uh (pv 0) (ud (kf 2 (pv 2)) t6))))
   (ul (uY (uo (vA 0 b w m.cl uh (pv 0) (ud (kf 2 (pv 2)) (ud (AF Ip (kf 1 (pv 1)) t9) t6)))))
   (ul (uV (tw_trueO (vA 0 g w m.cl uh (pv 0) (ud (kf 2 (pv 2)) t6)))
   (t7<|AR rfl c)
   uK)
   (ul (uV (tw_cm Ub (RT .rk 0 trivial m.cl m.nR rfl B.len (pv 0)) (OF rfl d) (uA _))
   (t7<|AR rfl t)
   uK)
   (ul (um 3 Pq.nd rfl (gc rfl) q0q (uU (XH 0 m.cl m.nU (pv 0))))
   (ul (FD .rk 0 trivial m.cl m.nR (BC w) (pv 0) (vm 3 (pv 3)) (kf 1 (pv 1)))
   (ul (RU 0 m.cl m.nB (BC w) (pv 0) (vm 3 (pv 3)) (RX rfl B.tuple (vD (kf 2 (pv 2)))))
   (ul (XI 0 m.cl m.nU (pv 0) (AF Ad (kf 3 (pv 3)) t9))
   (t7 (uD (uU (kf 3 (pv 3))))))))))))))) λp P n h=>?_
 walk_at "wl"
 obtain⟨L,M,h⟩:=h
 have N:(if asc p.2.2.1=true then (if vr p.1 p.2.2.1=true then (if Ph p.1 p.2.2.1 (p.2.1-1)=true then
  (if KP (p.2.2.1.map (v7 p.1))=[] then P p.1.up ({ p.1 with rk:=pk p.1.rk p.1.up p.2.1,bd:=pk p.1.bd p.1.up p.2.2.1,up:=p.1.up+1},⟨⟩,⟨⟩,()) else n XP (p.1,⟨⟩,⟨⟩,())) else n XO (p.1,⟨⟩,⟨⟩,())) else n XC (p.1,⟨⟩,⟨⟩,())) else n XS (p.1,⟨⟩,⟨⟩,())) ->
  zl C XS XC (p.1,p.2.2.1,()) (λy v=>wI C XO (v.1,p.2.2.1,p.2.1-1,()) (λy x=>w4 C XS XC (x.1,p.2.2.1,()) (λy a =>
   if (!y.l.isEmpty)=true then n XP (a.1,⟨⟩,⟨⟩,()) else if decide (120<=(a.1.rk.length:Int))=true then n VX (a.1,⟨⟩,⟨⟩,()) else a.1.rk.length<fK/\a.1.bd.length<fK/\lk a.1.bd a.1.up=none /\
    P a.1.up ({ a.1 with rk:=pk a.1.rk a.1.up p.2.1,bd:=pk a.1.bd a.1.up p.2.2.1,up:=a.1.up+1},⟨⟩,⟨⟩,()))
   λo v=>n o (v.1,⟨⟩,⟨⟩,())) λo v=>n o (v.1,⟨⟩,⟨⟩,())) λo v=>n o (v.1,⟨⟩,⟨⟩,()):=by
  intro h;show if asc p.2.2.1=true then (if vr p.1 p.2.2.1=true then _ else n XC (p.1,⟨⟩,⟨⟩,())) else n XS (p.1,⟨⟩,⟨⟩,());by_cases O:asc p.2.2.1=true
  ·rw[fE O] at h ⊢;by_cases D:vr p.1 p.2.2.1=true
   ·rw[fE D] at h ⊢;refine⟨D,?_⟩;show if Ph p.1 p.2.2.1 (p.2.1-1)=true then _ else n XO (p.1,⟨⟩,⟨⟩,());by_cases Q:Ph p.1 p.2.2.1 (p.2.1-1)=true
    ·rw[fE Q] at h ⊢;refine⟨L,?_⟩;show if asc p.2.2.1=true then (if vr p.1 p.2.2.1=true then _ else _) else _;rw[fE O,fE D];show if (!(KP<|p.2.2.1.map<|v7 p.1).isEmpty)=true then _ else if decide (120<=(p.1.rk.length:Int))=true then _ else _;by_cases hd:KP (p.2.2.1.map<|v7 p.1)=[]
     ·rw[fE hd] at h;have T:=L.lr;have U:=L.lb;have z:fK=16777216:=hX;rw[hd,fF q0o,fF<|by simp;lia];exact⟨(by show p.1.rk.length<fK;lia),(by show p.1.bd.length<fK;lia),M,h⟩
     ·rw[fF hd] at h;rw[fE<|by simpa using hd];exact h
    ·rw[fF Q] at h ⊢;exact h
   ·rw[fF D] at h ⊢;exact h
  ·rw[fF O] at h ⊢;exact h
 by_cases G:p.2.1<0
 ·rw[fE<|decide_eq_true G,fE rfl];rw[fE<|.inl G] at h;exact h
 ·rw[fF<|by simpa using G];by_cases I:12<p.2.1
  ·rw[fE<|decide_eq_true I];rw[fE<|.inr I] at h;exact h
  ·rw[fF<|by simpa using I];rw[fF (by intro z;rcases z with z|z;exact G z;exact I z)] at h;exact N h
abbrev JA:gy:=BD (top 24) 2
abbrev zt:List Str:=["self","cell"]
theorem SH:ug ["self","cell"] zt (tY JA):=by walk_at "sc"
theorem SJ(F:xY q.K "take" "Body.take" JA f m)(d:BB q.K C)(c:VY q C XC 5)(b:Xc q.K q.mg "Covered" XV):Gq q 6 f m zt (FS C XC XV):=by
 refine' ui (C8 (uG q0q) (D':=(Bd C true)×Int×Unit) (ms:=[0]) (j:=0) F SH rfl rfl λn A g s H E o =>
   (ul (uV (tw_trueO (vA 0 c o d.cl uh (pv 0) (ud (kf 1 (pv 1)) t6)))
   (t7<|AR rfl b)
   uK)
   (ul (KQ .rk 0 trivial d.cl d.nR (pv 0) (vm 1 (pv 1)) (λi k=>E6 i k))
   (t7 (RV 0 d.cl d.nB (pv 0) (vm 1 (pv 1)) (λi k=>E6 i k)))))) λp u t h=>?_
 walk_at "wl"
 obtain⟨l,h⟩:=h;refine⟨l,?_⟩;show if (lk p.1.rk p.2.1).isSome=true then _ else t XC (p.1,⟨⟩,());by_cases e:(lk p.1.rk p.2.1).isSome=true
 ·rw[fE e] at h ⊢
  cases q:VW p.1 p.2.1 with
  | nil =>
   rw[q,fE rfl] at h;exact⟨e,l.kb _ e,h⟩
  | cons a r =>
   rw[q,fF q0o] at h;exact h
 ·rw[fF e] at h ⊢;exact h
abbrev DF:gy:=BD (top 24) 7
abbrev w6:List Str:=["self","cell"]
theorem MC:ug ["self","cell"] w6 (tY DF):=by walk_at "sc"
abbrev Pr(q:Cq)(C XC:ci)(k:Nat):=yQ q C "border" w6 (AW C XC) k
theorem MD{f:ci}{fd:gF}(F:xY q.K "border" "Body.border" DF f fd)(ct:BB q.K C)(wx:vK q C XC 2)(B:Bn q.mg):Gq q 3 f fd w6 (AW C XC):=by
 refine' ui (v8 (D':=Unit) (ms:=[0]) (j:=0) F MC rfl rfl λQ7 A outer s H E hr =>
   (ul (uY (uo (vA 0 wx hr ct.cl uh (pv 0) (ud (kf 1 (pv 1)) t6))))
   (t7 (uD (OE rfl B.list (zJ 0 ct.cl ct.nB (BC hr) (pv 0) (vm 1 (pv 1)))))))) λp Kn Ke h=>?_
 walk_at "wl"
 obtain⟨ok,h⟩:=h;show if (lk p.1.rk p.2.1).isSome=true then _ else Ke XC (p.1,⟨⟩,());by_cases q:(lk p.1.rk p.2.1).isSome=true
 ·rw[fE q] at h ⊢;exact⟨_,zZ ok q,h⟩
 ·rw[fF q] at h ⊢;exact h
end
section
variable(C:ci)
def w8{C:ci}(x:B0 C)(c:Int):Bool:=(lk x.ht c).isSome||(lk x.th c).isSome
def A1{C:ci}(x:B0 C)(low high:Int):List Int:=(v7 x high).filter λf=>decide (f≠low)&&(lk x.ht f).isSome
def vB{C:ci}(x:B0 C)(t:Int):Int:=(lk x.ht t).getD 0
def vo{C:ci}(x:B0 C):List Int:=x.ht.map (·.1)
def Wq{C:ci}(x:B0 C):Prop:=∃r:Int->Nat,∀l∈vo x,∀t∈A1 x l (vB x l),r l<r t
structure BH{C:ci}(x:B0 C):Prop where
 ok:Pk x
 nd:(vo x).Nodup
 len:x.ht.length<64
 Yb:x.th.length<64
 ht:∀l h,lk x.ht l=some h->(lk x.rk l).isSome=true/\(lk x.rk h).isSome=true/\l∈v7 x h/\lk x.th h=some l
 th:∀l h,lk x.th h=some l->lk x.ht l=some h
 one:∀c,(lk x.ht c).isSome=true->(lk x.th c).isSome=true->False
 acy:Wq x
def DR{C:ci}(x:B0 C)(low high:Int):B0 C:={ x with ht:=pk x.ht low high,th:=pk x.th high low}
def EG:Wf (B0 C×Int×Unit) Bool (B0 C×Un×Unit):=λp a _=>a (w8 p.1 p.2.1) (p.1,⟨⟩,())
def FX:Wf (B0 C×Int×Int×Unit) (OL Int) (B0 C×Un×Un×Unit):=λp a _ =>
 (lk p.1.bd p.2.2.1).isSome=true/\(v7 p.1 p.2.2.1).length<=fK/\a ⟨A1 p.1 p.2.1 p.2.2.1⟩ (p.1,⟨⟩,⟨⟩,())
def Ld:Wf (B0 C×Unit) (OL Int) (B0 C×Unit):=λp a _=>p.1.ht.length<64/\(vo p.1).Nodup/\a ⟨Am<|vo p.1⟩ (p.1,())
def HS:Wf (B0 C×Unit) (OL<|Int×Int) (B0 C×Unit):=λp a _=>p.1.ht.length<64/\(vo p.1).Nodup/\a ⟨(Am<|vo p.1).map λl=>(l,vB p.1 l)⟩ (p.1,())
def EH(a:ci):Wf (B0 C×Int×Unit) (Option Int) (B0 C×Un×Unit):=λp b c =>
 if (lk p.1.rk p.2.1).isSome=true then b (lk p.1.ht p.2.1) (p.1,⟨⟩,()) else c a (p.1,⟨⟩,())
def FY(b c:ci):Wf (B0 C×Int×Unit) Int (B0 C×Un×Unit):=λp d a =>
 BH p.1/\if (lk p.1.rk p.2.1).isSome=true then (if (lk p.1.ht p.2.1).isSome=true then d (vB p.1 p.2.1) ({ p.1 with ht:=dk p.1.ht p.2.1,th:=dk p.1.th (vB p.1 p.2.1)},⟨⟩,()) else a c (p.1,⟨⟩,())) else a b (p.1,⟨⟩,())
def yd:Wf (Dc (Option Int)×Int×Unit) (OL Int) (Dc (Option Int)×Un×Unit):=λp a _ =>
 (∃m:Int->Nat,(∀k,m k<1000)/\(lk p.1.l p.2.1).isSome=true/\∀k e,lk p.1.l k=some (some e)->(lk p.1.l e).isSome=true/\m e<m k)/\∀r:List Int,r≠[]->a ⟨r⟩ (p.1,⟨⟩,())
def B7:Wf (B0 C×Int×Int×Unit) (OL Int) (B0 C×Un×Un×Unit):=λp a _ =>
 BH p.1/\(lk p.1.rk p.2.2.1).isSome=true/\w8 p.1 p.2.1=false/\w8 p.1 p.2.2.1=false/\∀r:List Int,(r=[]->Wq (DR p.1 p.2.1 p.2.2.1))->a ⟨r⟩ (p.1,⟨⟩,⟨⟩,())
def Pu(b c d e:ci):Wf (B0 C×Int×Int×Unit) Unit (B0 C×Un×Un×Unit):=λp f a =>
 BH p.1/\if (lk p.1.rk p.2.1).isSome=true then (if (lk p.1.rk p.2.2.1).isSome=true then (if p.2.1∈v7 p.1 p.2.2.1 then (if w8 p.1 p.2.1=true\/w8 p.1 p.2.2.1=true then a d (p.1,⟨⟩,⟨⟩,())
  else a e (p.1,⟨⟩,⟨⟩,())/\(Wq (DR p.1 p.2.1 p.2.2.1)->f () (DR p.1 p.2.1 p.2.2.1,⟨⟩,⟨⟩,()))) else a c (p.1,⟨⟩,⟨⟩,())) else a b (p.1,⟨⟩,⟨⟩,())) else a b (p.1,⟨⟩,⟨⟩,())
structure Ord{C:ci}(x:B0 C)(o:List Int):Prop where
 pm:o.Perm (vo x)
 up:o.Pairwise λa b=>a∉A1 x b (vB x b)
def Le:Wf (B0 C×Unit) (OL Int) (B0 C×Unit):=λp a _=>BH p.1/\∀o,Ord p.1 o->a ⟨o⟩ (p.1,())
def BI{C:ci}(x:B0 C)(s:List Int×List Int)(t:Int):List Int×List Int:=if t∈s.1 then (xr s.1<|v7 x<|vB x t,s.2++[vB x t]) else s
end
theorem wj{j:Int}:lk (e::l) j=if e.1=j then some e.2 else lk l j:=by
 by_cases q:e.1=j
 ·rw[fE q];unfold lk;rw[gQ,decide_eq_true q];rfl
 ·rw[fF q];unfold lk;rw[gQ,gz q]
theorem JB{k j:Int}:∀{l:List (Int×c)},lk l k=none->lk (l++[(k,v)]) j=if j=k then some v else lk l j:=by
 intro b
 induction b with
 | nil =>
  intro _;rw[lP,wj];by_cases q:j=k
  ·rw[fE q,fE q.symm]
  ·rw[fF q,fF<|λz=>q z.symm]
 | cons e l a =>
  intro h;rw[wj] at h;by_cases z:e.1=k
  ·rw[fE z] at h;cases h
  ·rw[fF z] at h;rw[List.cons_append,wj,wj,a h];by_cases q:e.1=j
   ·rw[fE q,fE q,fF<|λw=>z<|q.trans w]
   ·rw[fF q,fF q]
theorem yG{k:Int}(h:lk l k=none):pk l k v=l++[(k,v)]:=by unfold pk;rw[h];rfl
theorem A4{k j:Int}:∀{l:List (Int×d)},lk (dk l k) j=if j=k then none else lk l j:=by
 intro c
 induction c with
 | nil=>unfold dk;rw[List.filter_nil];split<;>rfl
 | cons e l a =>
  have b:=a;unfold dk at b ⊢;rw[iw];by_cases z:e.1=k
  ·rw[fF (by simpa using z),b,wj];by_cases q:j=k
   ·rw[fE q,fE q]
   ·rw[fF q,fF q,fF<|λw=>q<|w.symm.trans z]
  ·rw[fE (by simpa using z),wj,wj,b];by_cases q:e.1=j
   ·rw[fE q,fE q,fF<|λw=>z<|q.trans w]
   ·rw[fF q,fF q]
theorem V0{k j:Int}:∀{l:List (Int×c)},lk (l.map λe=>if e.1=k then (e.1,v) else e) j=if j=k then (if (lk l k).isSome=true then some v else none) else lk l j:=by
 intro b
 induction b with
 | nil=>simp[lk]
 | cons e l a =>
  rw[gn,wj,a,wj,wj];by_cases z:e.1=k
  ·rw[fE z,fE z];by_cases q:j=k
   ·subst q;simp[z]
   ·have:¬e.1=j:=λw=>q<|w.symm.trans z;simp[q,this]
  ·rw[fF z,fF z];by_cases q:e.1=j
   ·have:¬j=k:=λw=>z<|q.trans w;simp[q,this]
   ·simp[q]
theorem xk{k j:Int}:lk (pk l k v) j=if j=k then some v else lk l j:=by
 unfold pk
 cases q:(lk l k).isSome with
 | true=>rw[fE rfl,V0,q];simp
 | false =>
  rw[fF q0o,JB<|by simpa using q]
theorem Lf{a:Type}{l:List (Int×a)}{k:Int}(h:k∉l.map (·.1)):lk l k=none:=by
 cases e:lk l k with
 | none=>rfl
 | some v=>exact fY (zm<|by rw[e];rfl) h
theorem zu{a:Type}{k:Int}{l:List (Int×a)}:(lk l k).isSome=true↔k∈l.map (·.1):=⟨zm,wJ⟩
theorem Lg{c t:Int}:∀{l:List Int},t∈l->lk (l.map λk=>(k,c)) t=some c
 | a::l,h=>by
  rw[gn,wj];by_cases q:a=t
  ·rw[fE q]
  ·rw[fF q];exact Lg<|(List.mem_cons.mp h).elim (λz=>fY z.symm q) id
theorem B8{b:Type}{p q:b->Bool}(h:∀t,q t=true->p t=true):∀{l:List b},(l.filter q).length<=(l.filter p).length
 | []=>fJ _
 | a::l=>by
  have:=B8 h (l:=l);rw[iw,iw];by_cases z:q a=true
  ·rw[fE z,fE<|h a z];simpa using this
  ·rw[fF z];split<;>simp<;>lia
theorem filter_lt{b:Type}{p q:b->Bool}(h:∀t,q t=true->p t=true){x:b}(c:p x=true)(d:q x=false):∀{l:List b},x∈l->(l.filter q).length+1<=(l.filter p).length
 | a::l,m=>by
  rw[iw,iw];rcases List.mem_cons.mp m with z|z
  ·subst z;rw[d,c,fF q0o,fE rfl];have:=B8 h (l:=l);simp;omega
  ·have:=filter_lt h c d z;by_cases w:q a=true
   ·rw[fE w,fE<|h a w];simp;omega
   ·rw[fF w];split<;>simp<;>omega
theorem Pw{r:Int->Nat}{t:Int}:∀{l:List Int},t∈l->r t<=(l.map r).sum
 | a::l,h=>by
  rw[gn,List.sum_cons];rcases List.mem_cons.mp h with z|z
  ·rw[z];lia
  ·have:=Pw (r:=r) z;lia
section
variable{C:ci}{x:B0 C}
theorem wd{l:Int}(h:l∈vo x):lk x.ht l=some (vB x l):=by obtain⟨v,e⟩:=Option.isSome_iff_exists.mp<|wJ h;unfold vB;rw[e];rfl
theorem wy{l h t:Int}:t∈A1 x l h↔t∈v7 x h/\t≠l/\t∈vo x:=by unfold A1 vo;rw[iv,gK,gS,zu]
theorem BH.Ib(a:BH x){l:Int}(h:l∈vo x):(lk x.rk<|vB x l).isSome=true:=(a.ht l _<|wd h).2.1
theorem BH.bl(a:BH x){c:Int}(h:(lk x.rk c).isSome=true):(v7 x c).length<=fK:=by
 have:=(a.ok.bo c _<|zZ a.ok h);have:=vI (U:=ye 0 63) this.1 λk b=>zK (this.2 k b).1 (this.2 k b).2;have e:(ye 0 63).length=63:=by decide
 exact uZ q0a
theorem SK{low high:Int}{V:List Int}(v:BH x)(f:low∉vo x)(g:low∈V)(E:∀k∈V,k≠low->k∈vo x)
 (p:∀k∈V,(k≠low->low∉v7 x (vB x k))/\∀t∈A1 x k (if k=low then high else vB x k),t∈V):Wq (DR x low high):=by
  obtain⟨r,u⟩:=v.acy
  have F:lk x.ht low=none:=Lf f
  have c:∀{t:Int},t∈vo (DR x low high)↔t=low\/t∈vo x:=λ{t}=>by
    show t∈(pk x.ht low high).map (·.1)↔_
    rw[<- zu,xk]
    by_cases q:t=low
    · simp[q]
    · rw[fF q, zu]; simp[q, vo]
  have y:∀l,vB (DR x low high) l=if l=low then high else vB x l:=λl=>by
    unfold vB DR
    rw[xk]
    split<;>rfl
  have A:∀{l h t:Int},t∈A1 (DR x low high) l h↔t∈v7 x h/\t≠l/\(t=low\/t∈vo x):=λ{l h t}=>by
    rw[wy,c];exact Iff.rfl
  refine⟨λt=>if t∈V then (if t=low then ((vo x).map r).sum+1 else ((vo x).map r).sum+2+r t) else r t,λl i t a=>?_⟩
  rw[y] at a
  have a:=A.mp a
  have j:∀k,k∈vo x->r k<=((vo x).map r).sum:=λk B=>Pw B
  dsimp only
  by_cases b:l=low
  · subst b
    rw[fE rfl] at a
    rw[fE g,fE rfl]
    have D:t∈vo x:=a.2.2.elim (λz=>fY z a.2.1) id
    have e:t∈V:=(p l g).2 t (by rw[fE rfl];exact wy.mpr ⟨a.1,a.2.1,D⟩)
    rw[fE e,fF a.2.1]
    lia
  · rw[fF b] at a
    have m:l∈vo x:=(c.mp i).elim (λz=>fY z b) id
    by_cases n:l∈V
    · rw[fE n, fF b]
      have d:=p l n
      rw[fF b] at d
      rcases a.2.2 with z|z
      · rw[z] at a; exact fY a.1<|d.1 b
      · have s : t ∈ A1 x l (vB x l) := wy.mpr ⟨a.1, a.2.1, z⟩
        have:=u l m t s
        have o:t≠low:=λw=>f<|w▸z
        rw[fE<|d.2 t s,fF o]
        lia
    · rw[fF n]
      have:=j l m
      rcases a.2.2 with z|z
      · subst z
        rw[fE g,fE rfl]
        lia
      · have s : t ∈ A1 x l (vB x l) := wy.mpr ⟨a.1, a.2.1, z⟩
        have:=u l m t s
        have o:t≠low:=λw=>f<|w▸z
        by_cases e:t∈V
        · rw[fE e, fF o]; lia
        · rw[fF e]; lia
def ME(x:B0 C)(e:List (Int×Option Int)):Nat:=((vo x).filter λt=>!(lk e t).isSome).length
structure Rw(x:B0 C)(low:Int)(e:List (Int×Option Int))(ws:List Int)(D:Int->List (Int×Option Int)->Prop):Prop where
 lo:(lk e low).isSome=true
 tl:∀k,(lk e k).isSome=true->k≠low->k∈vo x
 wk:∀k∈ws,(lk e k).isSome=true
 dn:∀k,(lk e k).isSome=true->k∉ws->D k e
 ch:∃mm:Int->Nat,(∀k,mm k<=e.length)/\∀k t,lk e k=some (some t)->(lk e t).isSome=true/\mm t<mm k
 sz:e.length+ME x e<=64
theorem Rw.add{low:Int}{a t0:Int}(R:Rw x low e p D)(m:a∈vo x)(d:lk e a=none)(i:(lk e t0).isSome=true)(b:∀k,(lk e k).isSome=true->D k e->D k (pk e a<|some t0)) :
  Rw x low (pk e a<|some t0) (p++[a]) D/\ME x (pk e a<|some t0)+1<=ME x e:=by
 have r:ME x (pk e a<|some t0)+1<=ME x e:=by
  refine filter_lt (x:=a) (λt h=>?_) (by rw[d];rfl) (by rw[xk,fE rfl];rfl) m;rw[xk] at h;by_cases q:t=a
  ·rw[fE q] at h;simp at h
  ·rw[fF q] at h;exact h
 have f:∀k,(lk e k).isSome=true->(lk (pk e a<|some t0) k).isSome=true:=λk h=>by
  rw[xk];split
  ·rfl
  ·exact h
 have j:∀k,k≠a->lk (pk e a<|some t0) k=lk e k:=λk h=>by rw[xk,fF h]
 have c:(pk e a<|some t0).length=e.length+1:=by rw[yG d];simp
 refine⟨⟨f _ R.lo,λk h n=>?_,λk h=>?_,λk h n=>?_,?_,by rw[c];have:=R.sz;lia⟩,r⟩
 ·by_cases q:k=a
  ·rw[q];exact m
  ·rw[j k q] at h;exact R.tl k h n
 ·rcases List.mem_append.mp h with z|z
  ·exact f _<|R.wk k z
  ·rw[List.mem_singleton.mp z,xk,fE rfl];rfl
 ·have q:k≠a:=λz=>n (by rw[z];simp);rw[j k q] at h;exact b k h<|R.dn k h λz=>n<|g8 _ z
 ·obtain⟨s,o,u⟩:=R.ch;refine⟨λk=>if k=a then e.length+1 else s k,λk=>?_,λk t h=>?_⟩
  ·rw[c];dsimp only;split
   ·exact fJ _
   ·have:=o k;lia
  ·by_cases q:k=a
   ·rw[q,xk,fE rfl] at h;injection h with h;injection h with h;subst h;have l:t0≠a:=λz=>by rw[z,d] at i;cases i
    refine⟨f _ i,?_⟩;dsimp only;rw[fE q,fF l];have:=o t0;lia
   ·rw[j k q] at h;have g:=u k t h;have l:t≠a:=λz=>by rw[z,d] at g;cases g.1
    refine⟨f _ g.1,?_⟩;dsimp only;rw[fF q,fF l];exact g.2
def Lh(x:B0 C)(low high:Int)(k:Int)(e:List (Int×Option Int)):Prop:=(k≠low->low∉v7 x (vB x k))/\∀t∈A1 x k (if k=low then high else vB x k),(lk e t).isSome=true
theorem Px{low high:Int}(b:BH x):Rw x low [(low,none)] [low] (Lh x low high):=by
 have a:∀k,(lk ([(low,none)]:List (Int×Option Int)) k).isSome=true->k=low:=λk h=>by have:=zm h;simpa using this
 refine⟨wJ q0o,λk h n=>fY (a k h) n,λk h=>wJ (by simpa using h),λk h n=>fY (a k h) (by simpa using n),⟨λ_=>0,λ_=>g9 _,λk t h=>?_⟩,?_⟩
 ·rw[wj] at h;by_cases q:low=k
  ·rw[fE q] at h;cases h
  ·rw[fF q] at h;cases h
 ·have:=b.len;have g:ME x [(low,none)]<=(vo x).length:=gD _ _;have e:(vo x).length=x.ht.length:=fN _;simp only[gh]
  lia
theorem a0b{low:Int}(a:BH x):2*ME x [(low,none)]+[low].length<=200:=by have:=a.len;have g:ME x [(low,none)]<=(vo x).length:=gD _ _;have e:(vo x).length=x.ht.length:=fN _;simp only[gh];omega
def JC(x:B0 C)(a:List Int):List Int:=(vo x).filter λt=>decide<|t∉a
def cnt(x:B0 C)(a:List Int)(t:Int):Int:=((a.filter λl=>decide<|t∈A1 x l (vB x l)).length:Int)
theorem xQ{t:Int}:t∈JC x a↔t∈vo x/\t∉a:=by unfold JC;rw[iv,gS]
theorem cnt_cons{l t:Int}:cnt x (l::a) t=cnt x a t+if t∈A1 x l (vB x l) then 1 else 0:=by
 unfold cnt;rw[iw];by_cases q:t∈A1 x l (vB x l)
 ·rw[fE<|decide_eq_true q,fE q];simp
 ·rw[fF (by simpa using q),fF q];simp
theorem HU{a:List Int}{t:Int}(h:a.Perm b):cnt x a t=cnt x b t:=by unfold cnt;rw[(h.filter _).length_eq]
theorem V1{t:Int}:0<=cnt x a t:=by unfold cnt;lia
theorem Py{t:Int}(h:cnt x a t=0):∀l∈a,t∉A1 x l (vB x l):=λl b q=>by unfold cnt at h;have:(a.filter λl=>decide<|t∈A1 x l (vB x l))=[]:=List.length_eq_zero_iff.mp q0a;have m:l∈(a.filter λl=>decide<|t∈A1 x l (vB x l)):=List.mem_filter.mpr ⟨b,decide_eq_true q⟩;rw[this] at m;cases m
theorem Li{t:Int}(h:cnt x a t≠0):∃l∈a,t∈A1 x l (vB x l):=by
 unfold cnt at h
 cases e:(a.filter λl=>decide<|t∈A1 x l (vB x l)) with
 | nil=>rw[e] at h;exact fY rfl h
 | cons l r =>
  have m:l∈(a.filter λl=>decide<|t∈A1 x l (vB x l)):=by rw[e];exact fM
  have:=List.mem_filter.mp m;exact⟨l,this.1,jC this.2⟩
theorem JD{a b:List Int}(h:a.Nodup)(c:b.Nodup)(s:∀k∈a,k∈b):a.length<=b.length:=by
 have p:a.Perm (b.filter λk=>decide<|k∈a):=vj h (c.filter _) λk=>by rw[iv,gS];exact⟨λz=>⟨s k z,z⟩,λz=>z.2⟩
 rw[p.length_eq];exact gD _ _
theorem Lj{a:Type}{l:List (Int×a)}{k:Int}{v:a}(h:(lk l k).isSome=true):(pk l k v).map (·.1)=l.map (·.1):=by unfold pk;rw[fE h,jt];refine lV λe _=>?_;dsimp only[tD];split<;>rfl
structure Kh(x:B0 C)(u:List (Int×Int))(ready told r2:List Int):Prop where
 ks:u.map (·.1)=vo x
 nd:(told++ready).Nodup
 st:∀t∈told++ready,t∈vo x
 ct:∀t∈vo x,lk u t=some (cnt x (JC x told) t+if t∈r2 then 1 else 0)
 rd:∀t∈vo x,t∉told->(t∈ready↔cnt x (JC x told) t+(if t∈r2 then 1 else 0)=0)
 bk:∀a∈told,∀l∈vo x,l∉told->a∉A1 x l (vB x l)
 od:told.Pairwise λa b=>a∉A1 x b (vB x b)
theorem SM{y:Int}(b:BH x)(c:y∈vo x)(d:y∉a):(JC x a).Perm (y::JC x (a++[y])):=by
 refine vj (b.nd.filter _) (List.nodup_cons.mpr ⟨λz=>(xQ.mp z).2 q0o,b.nd.filter _⟩) λk=>?_;rw[xQ,gp,xQ,kJ,kN];by_cases q:k=y
 ·subst q;exact⟨λ_=>.inl rfl,λ_=>⟨c,d⟩⟩
 ·simp[q]
theorem Kh.pop{y:Int}(o:BH x)(K:Kh x u (e++[y]) c []):Kh x u e (c++[y]) (A1 x y<|vB x y):=by
 have g:y∈vo x:=K.st y q0o;have j:=List.nodup_append.mp K.nd;have q:=List.nodup_append.mp j.2.1;have h:y∉c:=λz=>j.2.2 y z y q0o rfl;have B:y∉e:=λz=>q.2.2 y z y q0o rfl;have r:=SM o g h;have k:∀t,cnt x (JC x c) t=cnt x (JC x<|c++[y]) t+if t∈A1 x y (vB x y) then 1 else 0:=λt=>by rw[HU r,cnt_cons]
 have s:cnt x (JC x c) y=0:=by have:=(K.rd y g h).mp q0o;simpa using this
 refine⟨K.ks,?_,λt d=>K.st t (by simp only[kJ,kN] at d ⊢;rcases d with(z|z)|z<;>simp[z]),λt d=>?_,λt d f=>?_,λa i l m f=>?_,?_⟩
 ·have p:(c++[y]++e).Perm (c++(e++[y])):=by rw[kX];exact mW c lm
  exact(p.nodup_iff).mpr K.nd
 ·rw[K.ct t d,k t];simp
 ·have v:t∉c:=λz=>f<|g8 _ z;have w:t≠y:=λz=>f (by rw[z];simp);have:=K.rd t d v;rw[k t] at this;rw[kJ,kN] at this;simpa[w] using this
 ·have n:l∉c:=λz=>f<|g8 _ z;rcases List.mem_append.mp i with z|z
  ·exact K.bk a z l m n
  ·rw[List.mem_singleton.mp z];exact Py s l<|xQ.mpr ⟨m,n⟩
 ·rw[List.pairwise_append];refine⟨K.od,iC _ _,λa i b A=>?_⟩;rw[List.mem_singleton.mp A];exact K.bk a i y g h
theorem Kh.step{b v:Int}(K:Kh x u ready c (b::e))(f:b∈vo x)(i:b∉c)(j:b∉e)(k:lk u b=some v) :
  Kh x (pk u b<|v-1) (if v-1=0 then ready++[b] else ready) c e:=by
 have g:=K.ct b f;rw[k,fE fM] at g;injection g with g
 have l:b∉ready:=λz=>by
  have:=(K.rd b f i).mp z;rw[fE fM] at this;have:=V1 (x:=x) (a:=JC x c) (t:=b)
  lia
 have d:∀t,t≠b->(if t∈b::e then (1:Int) else 0)=if t∈e then 1 else 0:=λt q=>by simp[q]
 refine⟨(Lj<|by rw[k];rfl).trans K.ks,?_,λt h=>?_,λt h=>?_,λt h m=>?_,K.bk,K.od⟩
 ·split
  ·have p:(c++(ready++[b])).Perm (b::(c++ready)):=by rw[<- kX];exact lm
   refine(p.nodup_iff).mpr<|List.nodup_cons.mpr ⟨λz=>?_,K.nd⟩;rcases List.mem_append.mp z with z|z
   ·exact i z
   ·exact l z
  ·exact K.nd
 ·by_cases q:t=b
  ·rw[q];exact f
  ·refine K.st t ?_;rcases List.mem_append.mp h with z|z
   ·exact g8 _ z
   ·by_cases w:v-1=0
    ·rw[fE w] at z;rcases List.mem_append.mp z with z|z
     ·exact gg _ z
     ·exact fY (List.mem_singleton.mp z) q
    ·rw[fF w] at z;exact gg _ z
 ·rw[xk];by_cases q:t=b
  ·rw[fE q,q,fF j];congr 1;lia
  ·rw[fF q,K.ct t h,d t q]
 ·by_cases q:t=b
  ·rw[q,fF j];by_cases w:v-1=0
   ·rw[fE w];exact⟨λ_=>by lia,λ_=>by simp⟩
   ·rw[fF w];exact⟨λz=>fY z l,λz=>fY q0a w⟩
  ·have:=K.rd t h m;rw[d t q] at this;rw[<- this];by_cases w:v-1=0
   ·rw[fE w];simp[q]
   ·rw[fF w]
theorem Kh.done(f:BH x)(K:Kh x u [] a []):Ord x a:=by
 obtain⟨r,g⟩:=f.acy
 have c:∀n t,r t<=n->t∈vo x->t∈a:=by
  intro n
  induction n with
  | zero =>
   intro t i d;by_cases q:t∈a
   ·exact q
   ·have:cnt x (JC x a) t≠0:=λz=>by have:=(K.rd t d q).mpr (by simpa using z);cases this
    obtain⟨l,b,e⟩:=Li this;have:=g l (xQ.mp b).1 t e
    lia
  | succ n j =>
   intro t i d;by_cases q:t∈a
   ·exact q
   ·have:cnt x (JC x a) t≠0:=λz=>by have:=(K.rd t d q).mpr (by simpa using z);cases this
    obtain⟨l,b,e⟩:=Li this;have:=g l (xQ.mp b).1 t e;exact fY (j l q0a (xQ.mp b).1) (xQ.mp b).2
 have h:=K.nd;rw[jR] at h;exact⟨vj h f.nd λk=>⟨λz=>K.st k (by simpa using z),λz=>c _ k (fJ _) z⟩,K.od⟩
theorem Kh.len(b:BH x)(K:Kh x u ready a d):ready.length<=63/\a.length<=63/\u.length<=63:=by
 have e:(vo x).length=x.ht.length:=fN _;have:=b.len;have c:=JD K.nd b.nd K.st;rw[fV] at c;have f:u.length=(vo x).length:=by rw[<- K.ks,fN]
 lia
theorem Pz(a:BH x){l h:Int}(b:(lk x.rk h).isSome=true):(A1 x l h).Nodup:=by unfold A1;exact(uj (a.ok.bo h _<|zZ a.ok b).1).filter _
end
section
variable{q:Cq}{C XC XS XO XB XP XV VX XF XT XN XR:ci}
abbrev BJ:gy:=BD (top 26) 22
abbrev BK:List Str:=["self","cell"]
theorem JE:ug ["self","cell"] BK (tY BJ):=by walk_at "sc"
abbrev EI(q:Cq)(C:ci)(k:Nat):=yQ q C "is_tied" BK (EG C) k
theorem JF(F:xY q.K "is_tied" "Field.is_tied" BJ f g)(b:BB q.K C)(c:MY q.K C):Gq q 2 f g BK (EG C):=by
 refine' ui (v8 (D':=Unit) (ms:=[0]) (j:=0) F JE rfl rfl λi A a s H E d =>
   (t7 (uD (uU (Xk (OA .ht false 0 rfl b.cl c.nH (BC d) (kf 1 (pv 1)) (pv 0)) (Cu (OA .th false 0 rfl b.cl c.nT (BC d) (kf 1 (pv 1)) (pv 0)))))))) λp k l h=>?_
 walk_at "wl"
 have h:k ((lk p.1.ht p.2.1).isSome||(lk p.1.th p.2.1).isSome) (p.1,⟨⟩,()):=h;rw[fF fT,fF fT];by_cases e:(lk p.1.ht p.2.1).isSome=true
 ·rw[fE e];rw[e] at h;exact h
 ·rw[fF e];rw[Bool.eq_false_iff.mpr e] at h;exact h
abbrev FZ:gy:=BD (top 26) 24
abbrev F7:List Str:=["self","low","high"]
theorem PB:ug ["self","low","high"] F7 (tY FZ):=by walk_at "sc"
theorem MF:(["face","low","self"]:List Str).Nodup:=by decide +kernel
abbrev Lk(q:Cq)(C:ci)(k:Nat):=yQ q C "steps" F7 (FX C) k
theorem PD(F:xY q.K "steps" "Field.steps" FZ f w)(g:BB q.K C)(B:MY q.K C):Gq q 2 f w F7 (FX C):=by
 refine' ui (v8 (D':=Unit) (ms:=[0]) (j:=0) F PB rfl rfl λD A l s H E m =>
   (t7 (uD (wS (Ts:=["face"]) (Fr:=["low","self"]) (idx:=[1,0]) (k:=1) (mb:=[1,2]) (is:=[]) (cl:=[("self",s.heap.objs.size+1),("low",s.heap.objs.size+1+1)]) rfl (Ov (zJ 0 g.cl g.nB (BC m) (pv 0) (vm 2 (pv 2)))) ⟨rfl,rfl,q0s,q0s,(λx c h=>by
    rcases KL h with⟨rfl,rfl⟩|h
    ·rfl
    rcases KL h with⟨rfl,rfl⟩|h
    ·rfl
    cases h),(fc (λz=>by cases z) (fc (λz=>by cases z) (fc (λ_=>⟨_,rfl⟩) (fc (λ_=>⟨_,rfl⟩) zQ)))),
    (λj x h=>by
    match j,h with
    | 0,h=>cases h;exact⟨1,_,rfl,rfl,.inl rfl,rfl,.inl rfl⟩
    | 1,h=>cases h;exact⟨0,_,rfl,rfl,.inl rfl,rfl,.inl rfl⟩
    | n+2,h=>cases h),rfl⟩ rfl (v9 rfl) (λa b C o r=>(uz 0 (uk (i:=0) MF rfl (gc rfl)) q0q)) (λa b C o r=>(tws_one (tw_w (Ja (tw_cm Oc (kf 0 (pv 0)) (kf 1 (pv 1)) (uA _)) (Fq (tw_dIn .ht false 2 rfl g.cl B.nH (BC m) (kf 0 (pv 0)) (pv 2))))))) (λa b C o r=>(kf 0 (pv 0))))))) λp G J h=>?_
 walk_at "wl"
 obtain⟨I,t,h⟩:=h;obtain⟨v,u⟩:=Option.isSome_iff_exists.mp I;have e:v7 p.1 p.2.2.1=v:=by unfold v7;rw[u];rfl
 rw[e] at t;refine⟨v,u,t,?_⟩;refine vJ (q:=λf=>decide (f≠p.2.1)&&(lk p.1.ht f).isSome) (λf L K d=>?_) ?_
 ·show if (!decide (f=p.2.1))=true then (if (if false=true then _ else (lk p.1.ht f).isSome)=true then K (some f) _ else K none _) else (if false=true then K (some f) _ else K none _);rw[fF fT,fF fT];by_cases z:f=p.2.1
  ·rw[fF<|by simp[z]];rw[fF<|by simp[z]] at d;exact d
  ·rw[fE<|by simp[z]];by_cases y:(lk p.1.ht f).isSome=true
   ·rw[fE y];rw[fE<|by simp[z,y]] at d;exact d
   ·rw[fF y];rw[fF<|by simp[z,y]] at d;exact d
 ·have h:G ⟨A1 p.1 p.2.1 p.2.2.1⟩ (p.1,⟨⟩,⟨⟩,()):=h;unfold A1 at h;rw[e] at h;exact h
abbrev F8:gy:=BD (top 26) 17
abbrev F9:List Str:=["self"]
theorem PF:ug ["self"] F9 (tY F8):=by walk_at "sc"
abbrev Ll(q:Cq)(C:ci)(k:Nat):=yQ q C "tails" F9 (Ld C) k
theorem PH(F:xY q.K "tails" "Field.tails" F8 f b)(c:BB q.K C)(d:MY q.K C)(B:Bn q.mg):Gq q 2 f b F9 (Ld C):=by
 refine' ui (v8 (D':=Unit) (ms:=[0]) (j:=0) F PF rfl rfl λe A a s H E k =>
   (t7 (uD (Do .ht 0 rfl c.cl d.nH rfl rfl B.sorted (pv 0))))) λp l m h=>?_
 walk_at "wl"
 obtain⟨g,n,i⟩:=h;exact⟨g,i⟩
abbrev DG:gy:=BD (top 26) 20
abbrev DH:List Str:=["self"]
theorem MG:ug ["self"] DH (tY DG):=by walk_at "sc"
theorem JG:(["low","self"]:List Str).Nodup:=by decide +kernel
abbrev PJ(q:Cq)(C:ci)(k:Nat):=yQ q C "arrows" DH (HS C) k
theorem MH(F:xY q.K "arrows" "Field.arrows" DG f t)(g:BB q.K C)(u:MY q.K C)(a:Ll q C 2):Gq q 3 f t DH (HS C):=by
 refine' ui (v8 (D':=Unit) (ms:=[0]) (j:=0) F MG rfl rfl λv A e s H E m =>
   (t7 (uD (wS (Ts:=["low"]) (Fr:=["self"]) (idx:=[0]) (k:=1) (mb:=[1]) (is:=[]) (cl:=[("self",s.heap.objs.size+1)]) rfl (vH (uM (Hy 0 a m g.cl uh (pv 0)))) ⟨rfl,rfl,q0s,q0s,(λx c h=>by
    rcases KL h with⟨rfl,rfl⟩|h
    ·rfl
    cases h),(fc (λz=>by cases z) (fc (λz=>by cases z) (fc (λ_=>⟨_,rfl⟩) zQ))),
    (λj x h=>by
    match j,h with
    | 0,h=>cases h;exact⟨0,_,rfl,rfl,.inl rfl,rfl,.inl rfl⟩
    | n+1,h=>cases h),rfl⟩ rfl (v9 rfl) (λb d C o r=>(uz 0 (uk (i:=0) JG rfl (gc rfl)) q0q)) (λb d C o r=>tws_nil) (λb d C o r=>(vN (kf 0 (pv 0)) (FC .ht 1 rfl g.cl u.nH (BC m) (pv 1) (vm 0 (pv 0))))))))) λp I J h=>?_
 walk_at "wl"
 obtain⟨w,y,B⟩:=h;refine⟨w,y,?_,?_⟩
 ·show (Am<|vo p.1).length<=fK;rw[(wg _).length_eq];exact uZ (by show (p.1.ht.map (·.1)).length<=1000;rw[fN];lia)
 ·refine vk (f:=λl=>some (l,vB p.1 l)) (λl D K G=>?_) ?_
  ·exact⟨_,wd (x:=p.1)<|yB.mp D,G⟩
  ·rw[rr];exact B
abbrev BL:gy:=BD (top 26) 15
abbrev BM:List Str:=["self","cell"]
theorem JH:ug ["self","cell"] BM (tY BL):=by walk_at "sc"
abbrev MI(q:Cq)(C XC:ci)(k:Nat):=yQ q C "head_of" BM (EH C XC) k
theorem JI(F:xY q.K "head_of" "Field.head_of" BL f e)(c:BB q.K C)(g:MY q.K C)(a:vK q C XC 2):Gq q 3 f e BM (EH C XC):=by
 refine' ui (v8 (D':=Unit) (ms:=[0]) (j:=0) F JH rfl rfl λi A b s H E d =>
   (ul (uY (uo (vA 0 a d c.cl uh (pv 0) (ud (kf 1 (pv 1)) t6))))
   (t7 (uD (uU (Pa .ht 0 rfl c.cl g.nH (BC d) (pv 0) (vm 1 (pv 1)))))))) λp k l h=>?_
 walk_at "wl"
 have h:if (lk p.1.rk p.2.1).isSome=true then k (lk p.1.ht p.2.1) (p.1,⟨⟩,()) else l XC (p.1,⟨⟩,()):=h;exact h
abbrev Ga:gy:=BD (top 26) 14
abbrev Gb:List Str:=["self","low"]
theorem HV:ug ["self","low","high"] Gb (tY Ga):=by walk_at "sc"
abbrev SN(q:Cq)(C XC XN:ci)(k:Nat):=yQ q C "untie" Gb (FY C XC XN) k
theorem PL(F:xY q.K "untie" "Field.untie" Ga f l)(c:BB q.K C)(d:MY q.K C)(a:vK q C XC 2)(b:Xc q.K q.mg "NotTied" XN):Gq q 3 f l Gb (FY C XC XN):=by
 refine' ui (v8 (D':=Unit) (ms:=[0]) (j:=1) F HV rfl rfl λm A g s H E i =>
   (ul (uY (uo (vA 0 a i c.cl uh (pv 0) (ud (kf 1 (pv 1)) t6))))
   (ul (uV (tw_dIn .ht true 0 rfl c.cl d.nH (BC i) (kf 1 (pv 1)) (pv 0))
   (t7<|AR rfl b)
   uK)
   (ul (um 2 HV.nd rfl (gc rfl) q0q (uU (Sy .ht 0 rfl c.cl d.nH (pv 0) (vm 1 (pv 1)))))
   (ul (KQ .th 0 rfl c.cl d.nT (pv 0) (vm 2 (pv 2)) (λn o=>E6 n o))
   (t7 (uD (uU (kf 2 (pv 2)))))))))) λp u r h=>?_
 walk_at "wl"
 obtain⟨t,h⟩:=h;show if (lk p.1.rk p.2.1).isSome=true then _ else r XC (p.1,⟨⟩,());by_cases k:(lk p.1.rk p.2.1).isSome=true
 ·rw[fE k] at h ⊢;dsimp only;rw[fE rfl];by_cases q:(lk p.1.ht p.2.1).isSome=true
  ·rw[fE q] at h;rw[fF<|by simp[q]];have e:=wd (x:=p.1)<|zm q;exact⟨_,e,by rw[(t.ht _ _ e).2.2.2];rfl,h⟩
  ·rw[fF q] at h;rw[fE<|by simp[q]];exact h
 ·rw[fF k] at h ⊢;exact h
abbrev wM:gy:=top 27
abbrev wN:List Str:=["earlier","last"]
theorem vP:ug ["earlier","last","row","tail"] wN (tY wM):=by walk_at "sc"
abbrev BN(q:Cq)(k:Nat):=xj q "row_from_first" wN yd k
theorem A5(F:FF q "row_from_first" wM f o):Gq q 2 f o wN yd:=by
 refine' ui (v8 (D':=Unit) (ms:=[0]) (j:=2) F vP rfl rfl λr A c s H E t =>
   (ul (um 2 vP.nd rfl (gc rfl) q0q (ur (α:=Int) uq))
   (ul (um 3 vP.nd rfl (gc rfl) q0q (uU (yy (kf 1 (pv 1)))))
   (ul (Ds (mb:=[0]) (D2:=(Dc (Option Int))×Int×(OL Int)×(Option Int)×Unit) (uG q0q) x9 (tw_cm KI (kf 3 (pv 3)) IV (uA _))
   (ul (vz 2 (pv 2) (yM (kf 3 (pv 3))) (λh=>vF (yL gv gL gM vw (pv 2) h)))
   (t7 (um 3 vP.nd rfl (gc rfl) q0q (uU (Dx 0 (BC t) (pv 0) (yM (kf 3 (pv 3)))))))) q0q)
   (t7 (uD (VS (vy 2 (pv 2))))))))) λp D G h=>?_
 walk_at "wl"
 obtain⟨⟨a,u,w,x⟩,h⟩:=h;refine⟨λm d=>d.1=p.1/\(match d.2.2.2.1 with|none=>d.2.2.1.l≠[]|some k=>(lk p.1.l k).isSome=true/\d.2.2.1.l.length+a k<1000)/\(match d.2.2.2.1 with|none=>0|some k=>a k+1)<=m,⟨a p.2.1+1,rfl,⟨w,by have:=u p.2.1;simpa using this⟩,fJ _⟩,?_⟩;intro m;refine ZX λI J y B K=>?_;rintro⟨rfl,b,i⟩
 cases B with
 | none =>
  dsimp only at b;rw[fF q0o];exact h _ (by simpa using b)
 | some k =>
  dsimp only at b;have i:a k+1<=m:=i;rw[fE q0o];obtain⟨v,n⟩:=Option.isSome_iff_exists.mp b.1;have z:fK=16777216:=hX;refine⟨k,rfl,by show y.l.length<fK;lia,k,rfl,v,n,?_⟩
  cases v with
  | none=>exact⟨0,q0a,rfl,q0o,fJ _⟩
  | some e =>
   have g:=x k e n;exact⟨a e+1,q0a,rfl,⟨g.1,by simp;lia⟩,fJ _⟩
abbrev zv:gy:=BD (top 26) 25
abbrev zw:List Str:=["self","low","high"]
theorem v4:ug ["self","low","high","earlier","waiting","tail","head","later"] zw (tY zv):=by walk_at "sc"
abbrev HW(q:Cq)(C:ci)(k:Nat):=yQ q C "ring_with" zw (B7 C) k
theorem Gc(F:xY q.K "ring_with" "Field.ring_with" zv f fd)(Z:BB q.K C)(cf:MY q.K C)(a:BN q 3)(G:Lk q C 3):Gq q 4 f fd zw (B7 C):=by
 refine' ui (v8 (D':=Unit) (ms:=[0]) (j:=5) F v4 rfl rfl λaf A aa s H E I =>
   (ul (um 3 v4.nd rfl (gc rfl) q0q (VQ (vm 1 (pv 1))))
   (ul (um 4 v4.nd rfl (gc rfl) q0q (ur (uc (kf 1 (pv 1)) uq)))
   (ul (Ds (mb:=[0]) (D2:=(Bd C true)×Int×Int×(Dc (Option Int))×(OL Int)×Int×Int×Un×Unit) (uG q0q) x9 (tw_trueR (vy 4 (pv 4)))
   (ul (um 5 v4.nd rfl (gc rfl) q0q (uU (K5 4 (pv 4) (Nq gv nj nq Nt (pv 4)))))
   (ul (um 6 v4.nd rfl (gc rfl) q0q (uU (Pb .ht 0 rfl Z.cl cf.nH (BC I) (pv 0) (vm 5 (pv 5)) (vm 2 (pv 2)))))
   (ul (uV (tw_w (Ja (tw_cm Oc (kf 5 (pv 5)) (kf 1 (pv 1)) (uA _)) (Fq (tw_inT (kf 1 (pv 1)) (zJ 0 Z.cl Z.nB (BC I) (pv 0) (vm 6 (pv 6))) (by with_unfolding_all rfl)))))
   (t7<|uD<|uy a I rfl uh<|uJ (i:=3) (pv 3)<|ud (kf 5<|pv 5) t6)
   uK)
   (t7 (vY (is:=[]) (mb:=[0]) (D1:=(Bd C true)×Int×Int×(Dc (Option Int))×(OL Int)×Int×Int×Int×Unit) (D2:=(Bd C true)×Int×Int×(Dc (Option Int))×(OL Int)×Int×Int×Int×Unit) (uG q0q) x9 rfl (vH (uM (vA 0 G I Z.cl uh (pv 0) (ud (kf 5 (pv 5)) (ud (kf 6 (pv 6)) t6))))) (uz 7 (uk (i:=7) v4.nd rfl (gc rfl)) q0q)
   (t7 (uV (tw_dcNin 3 (BC I) (kf 7 (pv 7)) (pv 3))
   (ul (OY 3 (BC I) (pv 3) (kf 7 (pv 7)) (yy (kf 5 (pv 5))))
   (t7 (vz 4 (pv 4) (kf 7 (pv 7)) (λh=>vF (yL gv gL gM vw (pv 4) h)))))
   uK)) q0q q0q))))) q0q)
   (t7 (uD (ur (α:=Int) uq))))))) λp Kn Ke h=>?_
 walk_at "wl"
 obtain⟨N,hh,t1,t2,h⟩:=h
 have J:p.2.1∉vo p.1:=λz=>by have:=wJ z;unfold w8 at t1;rw[this] at t1;cases t1
 have n0:lk p.1.ht p.2.1=none:=Lf J;refine⟨λm d=>d.1=p.1/\d.2.1=p.2.1/\d.2.2.1=p.2.2.1/\Rw p.1 p.2.1 d.2.2.2.1.l d.2.2.2.2.1.l (Lh p.1 p.2.1 p.2.2.1)/\2*ME p.1 d.2.2.2.1.l+d.2.2.2.2.1.l.length<=m/\m<=200,⟨_,rfl,rfl,rfl,Px N,fJ _,a0b N⟩,?_⟩;intro m;refine Jf λd1 d2 d3 d4 d5 d6 d7 d8 d9=>?_;rintro⟨rfl,rfl,rfl,o,T,i6⟩;dsimp only at o T ⊢;rcases rZ d5.l with e|⟨ys,y,e⟩
 ·rw[fF<|by rw[e];simp];refine h [] λ_=>?_;rw[e] at o;exact SK (V:=d4.l.map (·.1)) N J (zu.mp o.lo) (λk B n=>o.tl k (zu.mpr B) n) λk B=>⟨(o.dn k (zu.mpr B) q0o).1,λt c=>zu.mp<|(o.dn k (zu.mpr B) q0o).2 t c⟩
 ·rw[fE<|by rw[e];simp];rw[r8] at e;refine⟨ys,y,e,?_⟩;have yk:(lk d4.l y).isSome=true:=o.wk y (by rw[e];simp)
  have hd:(lk p.1.ht y).getD p.2.2.1=if y=p.2.1 then p.2.2.1 else vB p.1 y:=by
   by_cases q:y=p.2.1
   ·rw[fE q,q,n0];rfl
   ·rw[fF q,wd<|o.tl y yk q];rfl
  have O:(lk p.1.rk<|if y=p.2.1 then p.2.2.1 else vB p.1 y).isSome=true:=by
   by_cases q:y=p.2.1
   ·rw[fE q];exact hh
   ·rw[fF q];exact N.Ib<|o.tl y yk q
  rw[hd]
  have L:(y≠p.2.1->p.2.1∉v7 p.1 (vB p.1 y))->FX C (p.1,y,(if y=p.2.1 then p.2.2.1 else vB p.1 y),()) (λab p'=>Fv (λx (b:B0 C×Int×Int×Dc (Option Int)×OL Int×Int×Int×WL.Un×Unit) U Kr Ke =>
    if (!(lk b.2.2.2.1.l x).isSome)=true then b.2.2.2.1.l.length<fK/\b.2.2.2.2.1.l.length<fK/\U (b.1,b.2.1,b.2.2.1,⟨pk b.2.2.2.1.l x<|some b.2.2.2.2.2.1⟩,⟨b.2.2.2.2.1.l++[x]⟩,b.2.2.2.2.2.1,b.2.2.2.2.2.2.1,⟨⟩,b.2.2.2.2.2.2.2.2)
    else U (b.1,b.2.1,b.2.2.1,b.2.2.2.1,b.2.2.2.2.1,b.2.2.2.2.2.1,b.2.2.2.2.2.2.1,⟨⟩,b.2.2.2.2.2.2.2.2)) ab.l (p'.1,p.2.1,p.2.2.1,d4,⟨ys⟩,y,(if y=p.2.1 then p.2.2.1 else vB p.1 y),d8,d9)
    (λP=>∃m',m'<m/\P.1=p.1/\P.2.1=p.2.1/\P.2.2.1=p.2.2.1/\Rw p.1 p.2.1 P.2.2.2.1.l P.2.2.2.2.1.l (Lh p.1 p.2.1 p.2.2.1)/\2*ME p.1 P.2.2.2.1.l+P.2.2.2.2.1.l.length<=m'/\m'<=200) Kn Ke) (λae p'=>Ke ae (p'.1,⟨⟩,⟨⟩,())):=by
   intro hy;refine⟨by rw[zZ N.ok O];rfl,N.bl O,?_⟩;have m1:1<=m:=by rw[e,fV] at T;simp at T;lia
   refine uW (λ(r:List Int) (b:B0 C×Int×Int×Dc (Option Int)×OL Int×Int×Int×WL.Un×Unit)=>b.1=p.1/\b.2.1=p.2.1/\b.2.2.1=p.2.2.1/\b.2.2.2.2.2.1=y/\(lk b.2.2.2.1.l y).isSome=true/\(∀t∈r,t∈vo p.1) /\
    Rw p.1 p.2.1 b.2.2.2.1.l b.2.2.2.2.1.l (λk e=>if k=y then (∀t∈A1 p.1 y (if y=p.2.1 then p.2.2.1 else vB p.1 y),(lk e t).isSome=true\/t∈r) else Lh p.1 p.2.1 p.2.2.1 k e)/\2*ME p.1 b.2.2.2.1.l+b.2.2.2.2.1.l.length+1<=m) _ ?_ ?_ ?_
   ·refine⟨rfl,rfl,rfl,rfl,yk,λt c=>(wy.mp c).2.2,⟨o.lo,o.tl,λk B=>o.wk k (by rw[e];exact g8 _ B),λk B Q=>?_,o.ch,o.sz⟩,?_⟩
    ·dsimp only;by_cases q:k=y
     ·rw[fE q];exact λt c=>.inr c
     ·rw[fF q];exact o.dn k B (by rw[e];intro z;rcases List.mem_append.mp z with z|z;exact Q z;exact q<|List.mem_singleton.mp z)
    ·rw[e,fV] at T;simp only[gh] at T;show 2*ME p.1 d4.l+ys.length+1<=m
     lia
   ·intro W r;refine Jf λb1 b2 b3 b4 b5 M b7 b8 b9=>?_;rintro _ ⟨rfl,rfl,rfl,rfl,X,j6,u,j8⟩ K hK;dsimp only at X u j8 ⊢;have Y:∀t∈r,t∈vo p.1:=λt c=>j6 t (fP _ c)
    cases q:lk b4.l W with
    | none =>
     rw[fE q0o];have z:fK=16777216:=hX;have s1:=u.sz;have nn:∀(k:Int) (e':List (Int×Option Int)),(∀t,(lk e' t).isSome=true->(lk (pk e' W<|some M) t).isSome=true):=λk e' t c=>by rw[xk];split;rfl;exact c
     obtain⟨R,u2⟩:=u.add (t0:=M) (j6 W fM) q X λk B S=>by
      try dsimp only at S ⊢
      by_cases D:k=M
      ·rw[fE D] at S ⊢;exact λt c=>(S t c).imp (nn k _ t) id
      ·rw[fF D] at S ⊢;exact⟨S.1,λt c=>nn k _ t<|S.2 t c⟩
     refine⟨by show b4.l.length<fK;lia,by show b5.l.length<fK;lia,hK _ ⟨rfl,rfl,rfl,rfl,nn 0 _ _ X,Y,?_,?_⟩⟩
     ·refine⟨R.lo,R.tl,R.wk,λk B Q=>?_,R.ch,R.sz⟩;have g:=R.dn k B Q;dsimp only at g ⊢;by_cases D:k=M
      ·rw[fE D] at g ⊢;intro t c;rcases g t c with w|w
       ·exact .inl w
       ·rcases List.mem_cons.mp w with w|w
        ·left;rw[w,xk,fE rfl];rfl
        ·exact .inr w
      ·rw[fF D] at g ⊢;exact g
     ·show 2*ME p.1 (pk b4.l W<|some M)+(b5.l++[W]).length+1<=m;rw[fV];simp only[gh]
      lia
    | some v =>
     rw[fF q0o];refine hK _ ⟨rfl,rfl,rfl,rfl,X,Y,⟨u.lo,u.tl,u.wk,λk B Q=>?_,u.ch,u.sz⟩,j8⟩;have g:=u.dn k B Q;dsimp only at g ⊢;by_cases D:k=M
     ·rw[fE D] at g ⊢;intro t c;rcases g t c with w|w
      ·exact .inl w
      ·rcases List.mem_cons.mp w with w|w
       ·left;rw[w,q];rfl
       ·exact .inr w
     ·rw[fF D] at g ⊢;exact g
   ·refine Jf λb1 b2 b3 b4 b5 M b7 b8 b9=>?_;rintro⟨rfl,rfl,rfl,rfl,X,_,u,j8⟩;refine⟨m-1,q0a,rfl,rfl,rfl,⟨u.lo,u.tl,u.wk,λk B Q=>?_,u.ch,u.sz⟩,by dsimp only at j8 ⊢;lia,q0a⟩;have g:=u.dn k B Q;dsimp only at g;by_cases D:k=M
    ·rw[fE D] at g;subst D;exact⟨hy,λt c=>(g t c).elim id λw=>fY w q0o⟩
    ·rw[fF D] at g;exact g
  by_cases q:y=p.2.1
  ·rw[fF (by simp[q]),fF fT];exact L λz=>fY q z
  ·rw[fE<|by simp[q]];refine⟨_,zZ N.ok O,?_⟩;by_cases hb:p.2.1∈v7 p.1 (if y=p.2.1 then p.2.2.1 else vB p.1 y)
   ·rw[fE<|decide_eq_true hb];obtain⟨mm,m1,m2⟩:=o.ch;refine⟨⟨mm,λk=>by have:=m1 k;have:=o.sz;lia,yk,m2⟩,λr I=>h r λz=>fY z I⟩
   ·rw[fF<|by simpa using hb];exact L λ_=>by rw[fF q] at hb;exact hb
abbrev PM:gy:=BD (top 26) 13
abbrev PN:List Str:=["self","low","high"]
theorem PP:ug ["self","low","high","ring"] PN (tY PM):=by walk_at "sc"
abbrev Yc(q:Cq)(C XC XF XT XR:ci)(k:Nat):=yQ q C "tie" PN (Pu C XC XF XT XR) k
theorem V2(F:xY q.K "tie" "Field.tie" PM f D)(l:BB q.K C)(x:MY q.K C)(b:vK q C XC 4)(d:EI q C 4)(e:HW q C 4)(g:Xc q.K q.mg "NotFace" XF)(m:Xc q.K q.mg "Tied" XT)(c:Z6 q.P q.w q.K q.mg q.base 3 "RingOfArrows" XR "ring"):Gq q 5 f D PN (Pu C XC XF XT XR):=by
 refine' ui (C8 (uG q0q) (D':=(Bd C true)×Int×Int×(OL Int)×Unit) (ms:=[0]) (j:=1) F PP rfl rfl λG A v s H E k =>
   (ul (uY (uo (vA 0 b k l.cl uh (pv 0) (ud (kf 1 (pv 1)) t6))))
   (ul (uY (uo (vA 0 b k l.cl uh (pv 0) (ud (kf 2 (pv 2)) t6))))
   (ul (uV (tw_ninT (kf 1 (pv 1)) (zJ 0 l.cl l.nB (BC k) (pv 0) (vm 2 (pv 2))) (by with_unfolding_all rfl))
   (t7<|AR rfl g)
   uK)
   (ul (uV (tw_w (Uc (tw_val (uo (vA 0 d k l.cl uh (pv 0) (ud (kf 1 (pv 1)) t6)))) (Od (tw_val (uo (vA 0 d k l.cl uh (pv 0) (ud (kf 2 (pv 2)) t6)))))))
   (t7<|AR rfl m)
   uK)
   (ul (um 3 PP.nd rfl (gc rfl) q0q (vA 0 e k l.cl uh (pv 0) (ud (kf 1 (pv 1)) (ud (kf 2 (pv 2)) t6))))
   (ul (uV (tw_trueR (vy 3 (pv 3)))
   (t7<|VO (i:=3) (α:=Int) rfl c k<|pv 3)
   uK)
   (ul (FD .ht 0 rfl l.cl x.nH (BC k) (pv 0) (vm 1 (pv 1)) (kf 2 (pv 2)))
   (t7 (FD .th 0 rfl l.cl x.nT (BC k) (pv 0) (vm 2 (pv 2)) (kf 1 (pv 1)))))))))))) λp I y h=>?_
 walk_at "wl"
 obtain⟨t,h⟩:=h;show if (lk p.1.rk p.2.1).isSome=true then _ else y XC (p.1,⟨⟩,⟨⟩,());by_cases B:(lk p.1.rk p.2.1).isSome=true
 ·rw[fE B] at h ⊢;show if (lk p.1.rk p.2.2.1).isSome=true then _ else y XC (p.1,⟨⟩,⟨⟩,());by_cases ht:(lk p.1.rk p.2.2.1).isSome=true
  ·rw[fE ht] at h ⊢;refine⟨_,zZ t.ok ht,?_⟩;by_cases u:p.2.1∈v7 p.1 p.2.2.1
   ·rw[fE u] at h;rw[fF<|by simp[u]];show if w8 p.1 p.2.1=true then _ else _;by_cases n:w8 p.1 p.2.1=true
    ·rw[fE<|.inl n] at h;rw[fE n,fE rfl];exact h
    ·rw[fF n];show if w8 p.1 p.2.2.1=true then _ else _;by_cases o:w8 p.1 p.2.2.1=true
     ·rw[fE<|.inr o] at h;rw[fE o];exact h
     ·rw[fF<|λz=>z.elim n o] at h;rw[fF o];refine⟨t,ht,by simpa using n,by simpa using o,λr k=>?_⟩
      cases r with
      | nil =>
       rw[fF q0o];have z:fK=16777216:=hX;exact⟨(by show p.1.ht.length<fK;have:=t.len;lia),(by show p.1.th.length<fK;have:=t.Yb;lia),h.2<|k rfl⟩
      | cons a r =>
       rw[fE q0o];exact h.1
   ·rw[fF u] at h;rw[fE<|by simp[u]];exact h
  ·rw[fF ht] at h ⊢;exact h
 ·rw[fF B] at h ⊢;exact h
abbrev Gd:gy:=BD (top 26) 21
abbrev Ge:List Str:=["self"]
theorem wz:ug ["self","tail","unmet","low","high","later","ready","told"] Ge (tY Gd):=by walk_at "sc"
theorem MJ:(["tail","unmet"]:List Str).Nodup:=by decide +kernel
abbrev SO(q:Cq)(C:ci)(k:Nat):=yQ q C "order" Ge (Le C) k
theorem PQ(F:xY q.K "order" "Field.order" Gd f fd)(X:BB q.K C)(cf:MY q.K C)(B:PJ q C 3)(u:Lk q C 3)(G:Ll q C 3):Gq q 4 f fd Ge (Le C):=by
 refine' ui (v8 (D':=Unit) (ms:=[0]) (j:=7) F wz rfl rfl λaf A ae s H E J =>
   (ul (um 2 wz.nd rfl (Or.inr rfl) q0q (MA .ht 0 rfl X.cl cf.nH rfl (pv 0) rfl q0s rfl q0s rfl))
   (ul (vY (is:=[]) (mb:=[0]) (D1:=(Bd C true)×Un×(Dc Int)×Int×Int×Un×Un×Un×Unit) (D2:=(Bd C true)×Un×(Dc Int)×Int×Int×Un×Un×Un×Unit) (uG q0q) x9 rfl (vH (uM (Hy 0 B J X.cl uh (pv 0)))) (Cv 3 4 (CO rfl (vT (uk (i:=3) wz.nd rfl (gc rfl)) (vT (uk (i:=4) wz.nd rfl (gc rfl)) Aq))) q0q q0q)
   (t7 (vY (is:=[]) (mb:=[0]) (D1:=(Bd C true)×Un×(Dc Int)×Int×Int×Int×Un×Un×Unit) (D2:=(Bd C true)×Un×(Dc Int)×Int×Int×Int×Un×Un×Unit) (uG q0q) x9 rfl (vH (uM (vA 0 u J X.cl uh (pv 0) (ud (kf 3 (pv 3)) (ud (kf 4 (pv 4)) t6))))) (uz 5 (uk (i:=5) wz.nd rfl (gc rfl)) q0q)
   (t7 (HL 2 (BC J) (pv 2) (vm 5 (pv 5)) OB M6)) q0q q0q)) q0q q0q)
   (ul (zI (Ts:=["tail"]) (Fr:=["unmet"]) (idx:=[2]) (k:=1) (mb:=[1]) (is:=[]) (cl:=[("unmet",s.heap.objs.size+1)]) 6 wz.nd rfl rfl rfl q0q rfl (vH (uM (Hy 0 G J X.cl uh (pv 0)))) ⟨rfl,rfl,q0s,q0s,(λx c h=>by
    rcases KL h with⟨rfl,rfl⟩|h
    ·rfl
    cases h),(fc (λz=>by cases z) (fc (λz=>by cases z) (fc (λ_=>⟨_,rfl⟩) zQ))),
    (λj x h=>by
    match j,h with
    | 0,h=>cases h;exact⟨2,_,rfl,rfl,.inl rfl,rfl,.inl rfl⟩
    | n+1,h=>cases h),rfl⟩ rfl (v9 rfl) (λO P C ex pn=>(uz 0 (uk (i:=0) MJ rfl (gc rfl)) q0q)) (λO P C ex pn=>(tws_one (tw_cm zY (Dx 1 (BC J) (pv 1) (kf 0 (pv 0))) t9 (uA _)))) (λO P C ex pn=>(kf 0 (pv 0))))
   (ul (um 7 wz.nd rfl (gc rfl) q0q (ur (α:=Int) uq))
   (ul (Ds (mb:=[0]) (D2:=(Bd C true)×Int×(Dc Int)×Un×Un×Un×(OL Int)×(OL Int)×Unit) (uG q0q) x9 (tw_trueR (vy 6 (pv 6)))
   (ul (um 1 wz.nd rfl (gc rfl) q0q (uU (K5 6 (pv 6) (Nq gv nj nq Nt (pv 6)))))
   (ul (vz 7 (pv 7) (kf 1 (pv 1)) (λh=>vF (yL gv gL gM vw (pv 7) h)))
   (t7 (vY (is:=[]) (mb:=[0]) (D1:=(Bd C true)×Int×(Dc Int)×Un×Un×Int×(OL Int)×(OL Int)×Unit) (D2:=(Bd C true)×Int×(Dc Int)×Un×Un×Int×(OL Int)×(OL Int)×Unit) (uG q0q) x9 rfl (vH (uM (vA 0 u J X.cl uh (pv 0) (ud (kf 1 (pv 1)) (ud (FC .ht 0 rfl X.cl cf.nH (BC J) (pv 0) (vm 1 (pv 1))) t6))))) (uz 5 (uk (i:=5) wz.nd rfl (gc rfl)) q0q)
   (ul (HL 2 (BC J) (pv 2) (vm 5 (pv 5)) OB UI)
   (t7 (uV (tw_cm zY (Dx 2 (BC J) (pv 2) (kf 5 (pv 5))) t9 (uA _))
   (t7<|vz 6 (pv 6) (kf 5<|pv 5)<|λh=>vF<|yL gv gL gM vw (pv 6) h)
   uK))) q0q q0q)))) q0q)
   (t7 (xM 7 (pv 7))))))))) λp Kn Ke h=>?_
 walk_at "wl"
 obtain⟨o,h⟩:=h;have sl:fK=16777216:=hX;have aa:(vo p.1).length<=63:=by have e:(vo p.1).length=p.1.ht.length:=fN _;have:=o.len;lia
 have R:(Am<|vo p.1).Nodup:=(wg _).nodup_iff.mpr o.nd;refine⟨o.len,o.nd,?_⟩;dsimp only;refine uW (λ(r:List (Int×Int)) (b:B0 C×WL.Un×Dc Int×WL.Un×WL.Un×WL.Un×WL.Un×WL.Un×Unit)=>b.1=p.1/\b.2.2.1.l.map (·.1)=vo p.1/\(∀e∈r,e.1∈vo p.1/\e.2=vB p.1 e.1)/\∀t∈vo p.1,lk b.2.2.1.l t=some (cnt p.1 (Am<|vo p.1) t-cnt p.1 (r.map (·.1)) t)) _ ?_ ?_ ?_
 ·refine⟨rfl,?_,λe he=>?_,λt g=>?_⟩
  ·show ((List.map (λx=>x.1) p.1.ht).map λk=>(k,(0:Int))).map (·.1)=vo p.1;rw[jt];exact List.map_id' _
  ·obtain⟨l,hl,rfl⟩:=List.mem_map.mp he;exact⟨yB.mp hl,rfl⟩
  ·have e:((Am<|vo p.1).map λl=>(l,vB p.1 l)).map (·.1)=Am (vo p.1):=by rw[jt];exact List.map_id' _
   show lk ((vo p.1).map λk=>(k,(0:Int))) t=some (cnt p.1 (Am<|vo p.1) t-cnt p.1 (((Am<|vo p.1).map λl=>(l,vB p.1 l)).map (·.1)) t);rw[e,Int.sub_self];exact Lg g
 ·rintro⟨l,hd⟩ r ⟨b1,b2,b3,b4,b5,b6,b7,b8,b9⟩ _ ⟨rfl,j2,j3,Q⟩ K hK;dsimp only at j2 j3 Q ⊢;have l1:l∈vo p.1/\hd=vB p.1 l:=j3 (l,hd) fM;have hl:=l1.1;have e2:=l1.2;subst e2;have v:=o.Ib hl;refine⟨by rw[zZ o.ok v];rfl,o.bl v,?_⟩;dsimp only;refine uW (λ(I:List Int)(b:B0 C×WL.Un×Dc Int×Int×Int×WL.Un×WL.Un×WL.Un×Unit)=>b.1=p.1/\b.2.2.1.l.map (·.1)=vo p.1/\I.Nodup/\(∀t∈I,t∈vo p.1)/\∀t∈vo p.1,lk b.2.2.1.l t=some (cnt p.1 (Am<|vo p.1) t-cnt p.1 (r.map (·.1)) t-if t∈I then 1 else 0)) _ ?_ ?_ ?_
  ·refine⟨rfl,j2,Pz o v,λt g=>(wy.mp g).2.2,λt g=>?_⟩;rw[Q t g,gn,cnt_cons,<- Int.sub_sub]
  ·rintro L I ⟨c1,c2,T,c4,c5,c6,c7,c8,c9⟩ _ ⟨rfl,D,k3,k4,Y⟩ K2 M;dsimp only at D Y ⊢;have Z:=List.nodup_cons.mp k3;have e0:=Y L<|k4 L fM;have cl:T.l.length<=63:=by rw[<- fN (f:=(·.1)) (as:=T.l),D];exact aa
   refine⟨_,e0,by show T.l.length<fK;lia,M _ ⟨rfl,(Lj<|by rw[e0];rfl).trans D,Z.2,λt g=>k4 t<|fP _ g,λt g=>?_⟩⟩;dsimp only;rw[xk];by_cases q:t=L
   ·rw[fE q,q,fE fM,fF Z.1];congr 1;lia
   ·rw[fF q,Y t g];simp[q]
  ·rintro⟨c1,c2,T,c4,c5,c6,c7,c8,c9⟩ ⟨rfl,D,_,_,Y⟩;refine hK _ ⟨rfl,D,λe he=>j3 e<|fP _ he,λt g=>?_⟩;dsimp only at Y ⊢;rw[Y t g];simp
 ·refine Jf λb1 b2 b3 b4 b5 b6 b7 b8 b9=>?_;rintro⟨rfl,j2,_,Q⟩;dsimp only at j2 Q ⊢
  have Q:∀t∈vo p.1,lk b3.l t=some (cnt p.1 (vo p.1) t):=λt g=>by rw[Q t g,ny,HU<|wg<|vo p.1];unfold cnt;simp
  refine⟨o.len,o.nd,?_⟩;dsimp only;refine⟨by rw[(wg _).length_eq];lia,?_⟩;refine vJ (q:=λt=>decide<|cnt p.1 (vo p.1) t=0) (λt g K hK=>⟨_,Q t<|yB.mp g,hK⟩) ?_;dsimp only
  have U:Kh p.1 b3.l ((Am<|vo p.1).filter λt=>decide<|cnt p.1 (vo p.1) t=0) [] []:=by
   have u0:JC p.1 []=vo p.1:=by unfold JC;simp
   refine⟨j2,by rw[lP];exact R.filter _,λt g=>?_,λt g=>?_,λt g _=>?_,λa ha=>fY ha q0o,gx⟩
   ·rw[lP,iv] at g;exact yB.mp g.1
   ·rw[u0,Q t g];simp
   ·rw[u0,iv,yB,gS];simp[g]
  refine⟨λm d=>d.1=p.1/\Kh p.1 d.2.2.1.l d.2.2.2.2.2.2.1.l d.2.2.2.2.2.2.2.1.l []/\64<=m+d.2.2.2.2.2.2.2.1.l.length,⟨64,rfl,U,q0o⟩,?_⟩;intro m;refine Jf λd1 d2 d3 d4 d5 d6 d7 V d9=>?_;rintro⟨rfl,N,i2⟩;dsimp only at N i2 ⊢;rcases rZ d7.l with e|⟨ys,y,e⟩
  ·rw[fF<|by rw[e];simp];rw[e] at N;exact h _<|N.done o
  ·rw[fE<|by rw[e];simp];rw[r8] at e;rw[e] at N;have yt:y∈vo p.1:=N.st y q0o;have v:=o.Ib yt;have ln:=N.len o;refine⟨ys,y,e,by show V.l.length<fK;lia,_,wd yt,by rw[zZ o.ok v];rfl,o.bl v,?_⟩;dsimp only;have K0:=N.pop o;refine uW (λ(I:List Int)(b:B0 C×Int×Dc Int×WL.Un×WL.Un×WL.Un×OL Int×OL Int×Unit)=>b.1=p.1/\b.2.2.2.2.2.2.2.1.l=V.l++[y]/\Kh p.1 b.2.2.1.l b.2.2.2.2.2.2.1.l (V.l++[y]) I/\I.Nodup/\∀t∈I,t∈vo p.1/\t∉V.l++[y]) _ ?_ ?_ ?_
   ·refine⟨rfl,rfl,K0,Pz o v,λt g=>⟨(wy.mp g).2.2,λz=>?_⟩⟩;rcases List.mem_append.mp z with z|z
    ·have yn:y∉V.l:=λw=>(List.nodup_append.mp N.nd).2.2 y w y q0o rfl;exact N.bk t z y yt yn g
    ·exact(wy.mp g).2.1<|List.mem_singleton.mp z
   ·rintro L I ⟨c1,c2,T,c4,c5,c6,c7,c8,c9⟩ _ ⟨rfl,W,D,k3,k4⟩ K2 M;dsimp only at W D ⊢;have Z:=List.nodup_cons.mp k3;have x1:=k4 L fM;have hv:=D.ct L x1.1;have S:=D.step x1.1 x1.2 Z.1 hv;have ag:=D.len o;refine⟨_,hv,by show T.l.length<fK;lia,_,by rw[xk,fE rfl],?_⟩;have ab:∀t∈I,t∈vo p.1/\t∉V.l++[y]:=λt g=>k4 t<|fP _ g;by_cases w:(cnt p.1 (JC p.1<|V.l++[y]) L+if L∈L::I then 1 else 0)-1=0
    ·rw[fE<|decide_eq_true w];rw[fE w] at S;exact⟨by show c7.l.length<fK;lia,M _ ⟨rfl,W,S,Z.2,ab⟩⟩
    ·rw[fF<|by simpa using w];rw[fF w] at S;exact M _ ⟨rfl,W,S,Z.2,ab⟩
   ·rintro⟨c1,c2,T,c4,c5,c6,c7,c8,c9⟩ ⟨rfl,W,D,_,_⟩;dsimp only at W D;have:1<=m:=by have:=ln.2.1;lia
    exact⟨m-1,q0a,rfl,by rw[W];exact D,by rw[W,fV,gh];lia⟩
end
structure PR(l:List Int):Prop where
 ri:wA l
 lt:∀c∈l,0<=c/\c<63
theorem PR.xr(d:PR a)(e:PR b):PR (xr a b):=⟨xS d.ri,λc f=>(Oy (uj e.ri) f).elim (d.lt c)<|e.lt c⟩
theorem PR.mem(b:PR a):∀k∈a,k∈ye 0 63:=λk c=>zK (b.lt k c).1 (b.lt k c).2
def Lm:Wf (List Int×List Int×Unit) (OL Int) (WL.Un×WL.Un×Unit):=λp a _=>PR p.1/\PR p.2.1/\a ⟨xr p.1 p.2.1⟩ (⟨⟩,⟨⟩,())
section
variable{XS:ci}
theorem HX(h:wA row)(k:a () (⟨⟩,())):CG XS (row,()) a b:=⟨λ_=>k,λz=>by
 have z:asc row=false:=z;rw[(xN row).mpr h] at z
 cases z⟩
end
section
variable{C:ci}{x:B0 C}
theorem BH.V3(a:BH x){c:Int}(h:(lk x.rk c).isSome=true):PR (v7 x c):=⟨(a.ok.bo c _<|zZ a.ok h).1,(a.ok.bo c _<|zZ a.ok h).2⟩
theorem V4{t h:Int}(d:t∈f h):∀{T:List Int},T.Nodup->(∀a∈T,a≠h->t∉f a)->Sf f t T=decide (h∈T):=by
 intro e
 induction e with
 | nil=>intro _ _;exact rfl
 | cons c T b =>
  intro n k;have n:=List.nodup_cons.mp n;show xor (decide<|t∈f c) (Sf f t T)=_;rw[b n.2 λa m=>k a<|fP _ m];by_cases q:c=h
  ·subst q;simp[d,n.1]
  ·have:=k c fM q;simp[this,Ne.symm q]
theorem PU(g:BH x):∀{q T acc:List Int},q.Nodup->(∀t∈q,t∈vo x)->(q.Pairwise λa b=>a∉A1 x b (vB x b))->wA T->(∀h∈T,∃t∈q,vB x t=h)->(q.foldl (BI x) (vd (v7 x) T,acc)).2.Perm (acc++T):=by
 intro M
 induction M with
 | nil =>
  intro T acc _ _ _ _ n
  cases T with
  | nil=>simp
  | cons h r=>obtain⟨t,z,_⟩:=n h fM;cases z
 | cons t q p =>
  intro T acc B D s o n;have B:=List.nodup_cons.mp B;have s:=List.pairwise_cons.mp s;have F:=D t fM;have G:=(g.ht t _<|wd F).2.2.1
  have N:∀a∈vo x,∀b∈vo x,vB x a=vB x b->a=b:=λa O b G e=>by have E:=(g.ht a _<|wd O).2.2.2;have P:=(g.ht b _<|wd G).2.2.2;rw[e,P] at E;injection E with E;exact E.symm
  have J:∀c∈T,(v7 x c).Nodup:=λc u=>by obtain⟨d,m,e⟩:=n c u;rw[<- e];exact uj (g.V3<|g.Ib<|D d m).ri
  have v:t∈vd (v7 x) T↔vB x t∈T:=by
   have:=wu (f:=v7 x) (x:=t) (l:=T) J;rw[V4 G (uj o) λQ m R z=>?_] at this
   ·exact decide_eq_decide.mp this
   ·obtain⟨d,y,e⟩:=n Q m;have K:d≠t:=λw=>R (by rw[<- e,w]);have S:d∈q:=(List.mem_cons.mp y).elim (λw=>fY w K) id;refine s.1 d S<|wy.mpr ⟨?_,Ne.symm K,F⟩;rw[e];exact z
  rw[nK];unfold BI;dsimp only;by_cases A:vB x t∈T
  ·rw[fE<|v.mpr A];have U:wA [vB x t]:=iC _ _;have H:=g.V3 (g.Ib F)
   have V:vd (v7 x) [vB x t]=v7 x (vB x t):=AS (wv _ _) H.ri λk=>by rw[wu<|λc u=>by rw[List.mem_singleton.mp u];exact uj H.ri];show xor (decide<|k∈v7 x (vB x t)) false=_;rw[mq]
   have L:=KU (f:=v7 x) o U J (λc u=>by rw[List.mem_singleton.mp u];exact uj H.ri);rw[V] at L;rw[<- L]
   have i:∀k,k∈xr T [vB x t]↔k∈T/\k≠vB x t:=λk=>by
    rw[zg q0o,kN];by_cases z:k=vB x t
    ·subst z;simp[A]
    ·simp[z]
   have W:=p (T:=xr T [vB x t]) (acc:=acc++[vB x t]) B.2 (λk I=>D k<|fP _ I) s.2 (xS o) λh j=>by have j:=(i h).mp j;obtain⟨d,y,e⟩:=n h j.1;refine⟨d,(List.mem_cons.mp y).elim (λw=>fY (by rw[<- e,w]) j.2) id,e⟩
   refine W.trans ?_;rw[kX];refine mW acc<|vj (List.nodup_cons.mpr ⟨λz=>((i _).mp z).2 rfl,uj<|xS o⟩) (uj o) λk=>?_;show k∈vB x t::xr T [vB x t]↔_;rw[gp,i];by_cases z:k=vB x t
   ·subst z;simp[A]
   ·simp[z]
  ·rw[fF λz=>A<|v.mp z]
   exact p B.2 (λk I=>D k<|fP _ I) s.2 o λh j=>by obtain⟨d,y,e⟩:=n h j;exact⟨d,(List.mem_cons.mp y).elim (λw=>fY j<|by rw[<- e,w];exact A) id,e⟩
theorem EJ(h:∀c∈row,c∉vo x):∀{o:List Int},(∀t∈o,t∈vo x)->o.foldl (BI x) (row,a)=(row,a)
 | [],_=>rfl
 | t::o,k=>by
  rw[nK];have:BI x (row,a) t=(row,a):=by unfold BI;rw[fF λz=>h t z<|k t fM]
  rw[this];exact EJ h λt b=>k t<|fP _ b
end
def A6(C d a:ci):Wf (B0 C×List Int×Unit) (OL Int) (B0 C×WL.Un×Unit):=λp b c =>
 BH p.1/\PR p.2.1/\if vr p.1 p.2.1=true then (∀o,Ord p.1 o->b ⟨Am (o.foldl (BI p.1) (p.2.1,[])).2⟩ (p.1,⟨⟩,())) else c a (p.1,⟨⟩,())
def Gg(C a b:ci):Wf (B0 C×Int×Unit) Unit (B0 C×WL.Un×Unit):=λp c d=>w8 p.1 p.2.1=false/\FS C a b p c d
abbrev SQ(q:Cq)(C a b:ci)(k:Nat):=yQ q C "take" zt (Gg C a b) k
section
variable{q:Cq}{C XC XS XO XB XP XV VX XF XT XN XR:ci}
abbrev Gh:gy:=top 17
abbrev Gi:List Str:=["one","other"]
theorem PV:ug ["one","other"] Gi (tY Gh):=by walk_at "sc"
abbrev SR(q:Cq)(k:Nat):=xj q "added" Gi Lm k
theorem PX(F:FF q "added" Gh f g)(a:xj q "must_be_sum" ["row"] (CG XS) 2)(B:Bn q.mg):Gq q 3 f g Gi Lm:=by
 refine' ui (v8 (D':=Unit) (ms:=[]) (j:=0) F PV rfl rfl λi A b s H E e =>
   (ul (uY (uo (uy a e rfl uh (ud (kf 0 (pv 0)) t6))))
   (ul (uY (uo (uy a e rfl uh (ud (kf 1 (pv 1)) t6))))
   (t7 (uD (Sg 0 1 rfl rfl B.sorted rfl B.set (pv 0) (pv 1))))))) λp l m h=>?_
 walk_at "wl"
 obtain⟨c,d,k⟩:=h;exact HX c.ri<|HX d.ri ⟨⟨c.ri,d.ri,ye 0 63,by rw[vO];decide,c.mem,d.mem⟩,k⟩
abbrev DI:gy:=top 20
abbrev DJ:List Str:=["field","row"]
theorem xv:ug ["field","row","rest","heads","tail","head"] DJ (tY DI):=by walk_at "sc"
abbrev PY(q:Cq)(C XS XC:ci)(k:Nat):=xj q "filled" DJ (A6 C XS XC) k
theorem MK(F:FF q "filled" DI f T)(D:BB q.K C)(m:SR q 4)(a:zp q C XS XC 4)(n:SO q C 4)(c:MI q C XC 4)(d:Pr q C XC 4)(B:Bn q.mg):Gq q 5 f T DJ (A6 C XS XC):=by
 refine' ui (v8 (D':=Unit) (ms:=[0]) (j:=4) F xv rfl rfl λU A J s H E w =>
   (ul (uY (uo (vA 0 a w D.cl uh (pv 0) (ud (kf 1 (pv 1)) t6))))
   (ul (um 2 xv.nd rfl (gc rfl) q0q (Fi rfl B.list (vD (kf 1 (pv 1)))))
   (ul (um 3 xv.nd rfl (gc rfl) q0q (ur (α:=Int) uq))
   (ul (vY (is:=[]) (mb:=[0]) (D1:=(Bd C true)×(List Int)×(OL Int)×(OL Int)×Int×Un×Unit) (D2:=(Bd C true)×(List Int)×(OL Int)×(OL Int)×Int×Un×Unit) (uG q0q) x9 rfl (vH (uM (Hy 0 n w D.cl uh (pv 0)))) (uz 4 (uk (i:=4) xv.nd rfl (gc rfl)) q0q)
   (t7 (uV (tw_cmI Xj (kf 4 (pv 4)) (vy 2 (pv 2)) (by with_unfolding_all rfl))
   (KD (D':=(Bd C true)×(List Int)×(OL Int)×(OL Int)×Int×Un×Unit) (ul (um 5 xv.nd rfl (gc rfl) q0q (vA 0 c w D.cl uh (pv 0) (ud (kf 4 (pv 4)) t6)))
   (ul (vz 3 (pv 3) (yM (kf 5 (pv 5))) (λh=>vF (yL gv gL gM vw (pv 3) h)))
   (t7 (um 2 xv.nd rfl (gc rfl) q0q (uy m w rfl uh (vc (i:=2) (pv 2) (ud (uM (vA 0 d w D.cl uh (pv 0) (ud (yM (kf 5 (pv 5))) t6))) t6))))))))
   uK)) q0q q0q)
   (t7 (uD (Bx rfl B.sorted (vy 3 (pv 3)))))))))) λp Kn P h=>?_
 walk_at "wl"
 obtain⟨u,Q,h⟩:=h;show if asc p.2.1=true then (if vr p.1 p.2.1=true then _ else P XC (p.1,⟨⟩,())) else P XS (p.1,⟨⟩,());rw[fE<|(xN p.2.1).mpr Q.ri];by_cases R:vr p.1 p.2.1=true
 ·rw[fE R] at h ⊢;refine⟨u,λo x=>?_⟩;have x:Ord p.1 o:=x
  have V:o.length<=63:=by rw[x.pm.length_eq];have e:(vo p.1).length=p.1.ht.length:=fN _;have:=u.len;lia
  refine uW (λ(r:List Int)(b:B0 C×List Int×OL Int×OL Int×WL.Un×WL.Un×Unit)=>b.1=p.1/\PR b.2.2.1.l/\(∀t∈r,t∈vo p.1)/\b.2.2.2.1.l.length+r.length<=63/\r.foldl (BI p.1) (b.2.2.1.l,b.2.2.2.1.l)=o.foldl (BI p.1) (p.2.1,[])) _ ⟨rfl,Q,λt L=>x.pm.mem_iff.mp L,by simpa using V,rfl⟩ ?_ ?_
  ·intro t r;refine Xt λW X M v Y Z b7=>?_;rintro _ ⟨rfl,y,N,G,g⟩ K S;dsimp only at y G g ⊢;have I:=N t fM;have z:∀t∈r,t∈vo p.1:=λt L=>N t<|fP _ L;rw[gk] at G;rw[nK] at g;unfold BI at g;dsimp only at g;by_cases q:t∈M.l
   ·rw[fE<|decide_eq_true q];rw[fE q] at g;have O:=u.Ib I;have ts:(lk p.1.rk t).isSome=true:=(u.ht t _<|wd I).1;have sl:fK=16777216:=hX;show if (lk p.1.rk t).isSome=true then _ else _;rw[fE ts];refine⟨_,wd I,by show v.l.length<fK;lia,_,wd I,u.ok,?_⟩;show if (lk p.1.rk<|vB p.1 t).isSome=true then _ else _;rw[fE O];refine⟨y,u.V3 O,S _ ⟨rfl,y.xr<|u.V3 O,z,?_,g⟩⟩;show (v.l++[vB p.1 t]).length+r.length<=63;rw[fV,gh];lia
   ·rw[fF<|by simpa using q];rw[fF q] at g;exact S _ ⟨rfl,y,z,by show v.l.length+r.length<=63;lia,g⟩
  ·refine Xt λW X M v Y Z b7=>?_;rintro⟨rfl,y,N,G,g⟩;have g:(M.l,v.l)=o.foldl (BI p.1) (p.2.1,[]):=g;have k:=h o x;rw[<- g] at k;exact⟨by show v.l.length<64;simp at G;lia,k⟩
 ·rw[fF R] at h ⊢;exact h
end
abbrev JJ:gy:=top 30
abbrev xF:=Ud
abbrev RW:=Option<|Int×List Int
def rowAt(a:List RW)(k:Int):RW:=if 0<=k then (a[k.toNat]?).join else none
def eb(a:List RW)(k:Int):List Int:=((rowAt a k).map (·.2)).getD []
structure Vr(rows:List RW):Prop where
 ok:∀k r e,rowAt rows k=some (r,e)->0<=r/\r<=12/\wA e/\(∀c∈e,c<k/\∃e',rowAt rows c=some (r-1,e'))/\vd (eb rows) e=[]
 ln:rows.length<=60
 sm:∀k r e,rowAt rows k=some (r,e)->∀c∈e,c<35
def Lp(a:List RW)(q:Int×List Int):Prop:=wA q.2/\(∀c∈q.2,∃e,rowAt a c=some (q.1,e))/\vd (eb a) q.2=[]
def DL(a:List RW):List Int:=(ye 0 a.length).filter λk=>(rowAt a k).isSome
def A9:List RW:=[some (0,[]),some (0,[]),some (0,[]),some (0,[]),some (1,[0,1]),some (1,[0,2]),some (1,[0,3]),some (1,[1,2]),some (1,[1,3]),some (1,[2,3]),some (2,[4,5,7]),some (2,[4,6,8]),some (2,[5,6,9]),some (2,[7,8,9]),some (3,[10,11,12,13])]
def Gj:Wf (Bg×Unit) Int (Bg×Unit):=λp a _=>∀r,0<=r->r<=12->a r (⟨⟩,())
def JK:Wf (List Int×List Int×Unit) (OL Int) (WL.Un×WL.Un×Unit):=λp a _=>(p.1.length<=1000/\p.2.1.length<=1000/\(p.1.filter λk=>!decide (k∈p.2.1)).length+(p.2.1.filter λk=>!decide (k∈p.1)).length<64)/\a ⟨jn p.1 p.2.1⟩ (⟨⟩,⟨⟩,())
def PZ:Wf (List RW×Unit) (OL Int) (WL.Un×Unit):=λp a _=>p.1.length<1000/\a ⟨DL p.1⟩ (⟨⟩,())
def P0:Wf (Bg×List Int×Unit) (OL Int) (Bg×WL.Un×Unit):=λp a _=>p.2.1.length<60/\∀l,wA l->(∀x∈l,x∈p.2.1)->a ⟨l⟩ (⟨⟩,⟨⟩,())
def P1:Wf (List RW×List Int×Unit) (OL Int) (WL.Un×WL.Un×Unit):=λp a _=>Vr p.1/\(∀c∈p.2.1,(rowAt p.1 c).isSome=true)/\a ⟨vd (eb p.1) p.2.1⟩ (⟨⟩,⟨⟩,())
def Lo:Wf (Int×Unit) Bool (WL.Un×Unit):=λp a _=>a true (⟨⟩,())
def Um:Wf (List Int×Unit) Bool (WL.Un×Unit):=λp a _=>a true (⟨⟩,())
def JL:Wf (List Int×List Int×Unit) Bool (WL.Un×WL.Un×Unit):=λp a _=>a (decide<|p.1=p.2.1) (⟨⟩,⟨⟩,())
def Lq:Wf (Int×Unit) (OL RW) (WL.Un×Unit):=λp a _=>0<=p.1/\a ⟨A9.take p.1.toNat⟩ (⟨⟩,())
def zL:Wf (OL RW×OL (Int×List Int)×Int×Bg×Unit) (OL Int) (OL RW×OL (Int×List Int)×WL.Un×Bg×Unit):=λp a _ =>
 Vr p.1.l/\p.1.l.length<=34/\p.2.1.l.length<=100/\(∀q∈p.2.1.l,Lp p.1.l q)/\0<=p.2.2.1/\p.2.2.1<=12 /\
 ∀e q,Vr (p.1.l++[some (p.2.2.1,e)])->(∀u∈p.2.1.l++q,Lp (p.1.l++[some (p.2.2.1,e)]) u)->q.length<=1->a ⟨e⟩ (p.1,⟨p.2.1.l++q⟩,⟨⟩,⟨⟩,())
def P2:Wf (Bg×Int×Unit) (OL RW) (Bg×WL.Un×Unit):=λp b _=>(0<=p.2.1/\p.2.1<=20)/\∀a,Vr a->a.length<=35->b ⟨a⟩ (⟨⟩,⟨⟩,())
structure xT{C:ci}(x:B0 C)(rows:List RW):Prop where
 up:x.up=rows.length
 rk:∀k,lk x.rk k=(rowAt rows k).map (·.1)
 bd:∀k,lk x.bd k=(rowAt rows k).map (·.2)
 ks:x.rk.map (·.1)=DL rows
 lb:x.bd.length<=rows.length
def P4(C:ci):Wf (B0 C×List RW×Unit) (B0 C) (WL.Un×WL.Un×Unit):=λp a _=>p.1=⟨[],[],0,[],[]⟩/\Vr p.2.1/\∀x:B0 C,xT x p.2.1->x.ht=[]->x.th=[]->a x (⟨⟩,⟨⟩,())
theorem yH{b:Type}{l:List b}{i:Int}(c:0<=i)(d:i<(l.length:Int)):∃x,EX l i=some x/\l[i.toNat]?=some x/\x∈l:=by
 have a:i.toNat<l.length:=by omega
 have e:l[i.toNat]?=some l[i.toNat]:=iz a;have:=Ks e;rw[show ((i.toNat:Nat):Int)=i by omega] at this;exact⟨_,this,e,tP a⟩
theorem Lr{n k:Int}(h:k∈ye 0 n):0<=k/\k<n:=by
 unfold ye at h;obtain⟨i,a,e⟩:=List.mem_map.mp h;have:=List.mem_range.mp a
 lia
theorem uv{k:Int}(h:rowAt rows k=some y):0<=k/\k<(rows.length:Int)/\rows[k.toNat]?=some (some y)/\EX rows k=some (some y):=by
 unfold rowAt at h;by_cases a:0<=k
 ·rw[fE a] at h
  cases e:rows[k.toNat]? with
  | none=>rw[e] at h;cases h
  | some z =>
   rw[e] at h;have h:z=some y:=h;subst h;have f:=(List.getElem?_eq_some_iff.mp e).1;have b:k<(rows.length:Int):=by omega
   obtain⟨x,d,c,_⟩:=yH a b;rw[e] at c;cases c;exact⟨a,b,rfl,d⟩
 ·rw[fF a] at h;cases h
theorem DM{k:Int}(a:0<=k)(e:rows[k.toNat]?=some z):rowAt rows k=z:=by unfold rowAt;rw[fE a,e];rfl
theorem Vr.V5(v:Vr rows){k:Int}(h:rowAt rows k=some y):wA y.2/\∀x∈y.2,x∈ye 0 35:=by obtain⟨_,_,b,c,_⟩:=v.ok k y.1 y.2 h;refine⟨b,λx a=>?_⟩;obtain⟨_,f,d⟩:=c x a;obtain⟨e,g,_⟩:=uv d;exact zK e<|v.sm k y.1 y.2 h x a
theorem yN{k:Int}(h:rowAt rows k=some y):eb rows k=y.2:=by unfold eb;rw[h];rfl
theorem V6(a:List b){n:Int}(h:0<=n):D3 a none (some n)=a.take n.toNat:=by unfold D3;rw[show (some n)=some ((n.toNat:Nat):Int) by rw[show ((n.toNat:Nat):Int)=n by lia],HT.Kk,HT.G6];simp
theorem vL{n:Int}(a:0<n)(b:n<1073741824)(h:∀r,0<=r->r<n->c r (⟨⟩,⟨⟩,())):xF (g,n,()) c d:=⟨a,b,h⟩
theorem u4:rowAt (rows++[z]) (rows.length:Int)=z:=by refine DM q0a ?_;rw[i9,iW<|fJ _,pG];rfl
theorem vp{a:List RW}{k:Int}(h:k≠(a.length:Int)):rowAt (a++[z]) k=rowAt a k:=by
 unfold rowAt;by_cases b:0<=k
 ·rw[fE b,fE b];by_cases c:k.toNat<a.length
  ·rw[ku c]
  ·rw[jo (by rw[fV,gh];lia),jo q0a]
 ·rw[fF b,fF b]
theorem Gk{a:List RW}{k:Int}(h:k≠(a.length:Int)):eb (a++[z]) k=eb a k:=by unfold eb;rw[vp h]
theorem w9{k:Int}(h:rowAt rows k=some y):k≠(rows.length:Int):=λz=>by
 have:=(uv h).2.1
 lia
theorem Gm(v:Vr rows)(p:rows.length<=35)(m:∀r e,z=some (r,e)->0<=r/\r<=12/\wA e/\(∀c∈e,∃g,rowAt rows c=some (r-1,g))/\vd (eb rows) e=[]):Vr (rows++[z]):=by
 refine⟨λk r e h=>?_,by rw[fV,gh];lia,λk r e h c n=>?_⟩
 rotate_left
 ·by_cases q:k=(rows.length:Int)
  ·rw[q,u4] at h;obtain⟨g,i⟩:=(m r e h).2.2.2.1 c n;have:=(uv i).2.1
   lia
  ·rw[vp q] at h;exact v.sm k r e h c n
 have j:∀{k r e},0<=r/\r<=12/\wA e/\(∀c∈e,c<k/\∃g,rowAt rows c=some (r-1,g))/\vd (eb rows) e=[]->0<=r/\r<=12/\wA e/\(∀c∈e,c<k/\∃g,rowAt (rows++[z]) c=some (r-1,g))/\vd (eb<|rows++[z]) e=[]:=λ{k r e} ⟨a,b,c,d,f⟩=>by
  refine⟨a,b,c,λx l=>?_,?_⟩
  ·obtain⟨o,g,i⟩:=d x l;exact⟨o,g,by rw[vp<|w9 i];exact i⟩
  ·rw[<- f];refine wm λx l=>?_;obtain⟨_,g,i⟩:=d x l;exact Gk<|w9 i
 by_cases q:k=(rows.length:Int)
 ·rw[q,u4] at h;obtain⟨a,b,c,d,f⟩:=m r e h;refine j ⟨a,b,c,λx l=>?_,f⟩;obtain⟨g,i⟩:=d x l;exact⟨by have:=(uv i).2.1;lia,g,i⟩
 ·rw[vp q] at h;exact j<|v.ok k r e h
theorem DN(h:Lp rows u):Lp (rows++[z]) u:=by
 obtain⟨a,b,c⟩:=h;refine⟨a,λx d=>?_,?_⟩
 ·obtain⟨e,q⟩:=b x d;exact⟨e,by rw[vp<|w9 q];exact q⟩
 ·rw[<- c];refine wm λx d=>?_;obtain⟨e,q⟩:=b x d;exact Gk<|w9 q
theorem P5{r:Int}:Lp (rows++[some (r,[])]) (r,[(rows.length:Int)]):=by
 refine⟨iC _ _,λx a=>⟨[],?_⟩,?_⟩
 ·rw[List.mem_singleton.mp a,u4]
 ·show xr [] (eb (rows++[some (r,[])]) (rows.length:Int))=[];rw[yN (y:=(r,[])) u4];rfl
theorem SS(h:wA e):xr e e=[]:=Fy (xS h) gx λk=>by rw[zg<|uj h];by_cases q:k∈e<;>simp[q]
theorem ML{c:Int}:vd f (l++[c])=xr (vd f l) (f c):=by unfold vd KP;rw[jb,List.foldl_append];rfl
theorem MM{r:Int}(v:Vr rows)(p:wA l)(h:∀c∈l,∃e,rowAt rows c=some (r,e)) :
  (∀c∈vd (eb rows) l,∃n,rowAt rows c=some (r-1,n))/\vd (eb rows) (vd (eb rows) l)=[]/\Lp (rows++[some (r,vd (eb rows) l)]) (r,l++[(rows.length:Int)]):=by
 have m:∀c∈l,wA (eb rows c)/\(∀d∈eb rows c,∃n,rowAt rows d=some (r-1,n))/\vd (eb rows) (eb rows c)=[]:=λc i=>by obtain⟨e,j⟩:=h c i;obtain⟨_,_,a,b,f⟩:=v.ok c r e j;rw[yN j];exact⟨a,λd k=>(b d k).2,f⟩
 have s:∀{d q},rowAt rows d=some q->(eb rows d).Nodup:=λ{d q} k=>by rw[yN k];exact uj (v.V5 k).1
 refine⟨λc i=>?_,Mp λc i=>⟨(m c i).1,λd k=>?_,(m c i).2.2⟩,?_,λx o=>?_,?_⟩
 ·obtain⟨d,k,o⟩:=Du (λc i=>uj (m c i).1) i;exact(m d k).2.1 c o
 ·obtain⟨n,q⟩:=(m c i).2.1 d k;exact s q
 ·refine List.pairwise_append.mpr ⟨p,iC _ _,λa t b u=>?_⟩;obtain⟨e,j⟩:=h a t;rw[List.mem_singleton.mp u];exact(uv j).2.1
 ·rcases List.mem_append.mp o with z|z
  ·obtain⟨e,j⟩:=h x z;exact⟨e,by rw[vp<|w9 j];exact j⟩
  ·rw[List.mem_singleton.mp z];exact⟨_,u4⟩
 ·show vd _ (l++[(rows.length:Int)])=[];rw[ML,yN (y:=(r,vd (eb rows) l)) u4,wm (g:=eb rows) λc i=>?_]
  ·exact SS<|wv _ _
  ·obtain⟨e,j⟩:=h c i;exact Gk<|w9 j
theorem Lp.sub{a:List RW}(c:a.length<=35)(h:Lp a u):∀x∈u.2,x∈ye 0 35:=λx b=>by obtain⟨e,q⟩:=h.2.1 x b;have:=uv q;exact zK q0a q0a
theorem CI{k:Int}:k∈DL rows↔(rowAt rows k).isSome=true:=by unfold DL;rw[iv];refine⟨λh=>h.2,λh=>⟨?_,h⟩⟩;obtain⟨y,a⟩:=Option.isSome_iff_exists.mp h;have:=uv a;exact zK this.1 this.2.1
theorem zM(a:List RW):(DL a).length<=a.length:=by
 have:=gD (λk=>(rowAt a k).isSome)<|ye 0 a.length;rw[vO] at this;unfold DL
 lia
theorem Ls(c:List RW):wA (DL c):=by
 refine iX _ ?_;unfold ye;rw[List.pairwise_map];refine nJ ?_<|ro;intro a b h
 lia
theorem P6(n:Nat):ye 0 ((n+1:Nat):Int)=ye 0 (n:Int)++[(n:Int)]:=by unfold ye;rw[show (((n+1:Nat):Int)-0).toNat=n+1 by lia,show ((n:Int)-0).toNat=n by lia,List.range_succ,jb];simp
theorem SU:DL (rows++[z])=DL rows++if z.isSome=true then [(rows.length:Int)] else []:=by
 unfold DL;rw[fV,gh,P6,List.filter_append];congr 1
 ·refine mK λk a=>?_;rw[vp (by have:=Lr a;omega)]
 ·rw[iw,u4];rfl
theorem P7:DL (rows++[some y])=DL rows++[(rows.length:Int)]:=SU
theorem EK{a:List RW}{k:Int}(h:(a.length:Int)<=k):rowAt a k=none:=by
 cases e:rowAt a k with
 | none=>rfl
 | some y=>have:=(uv e).2.1;omega
theorem BO{a:List RW}{j k:Int}(c:0<=j):rowAt (a.set j.toNat none) k=if k=j then none else rowAt a k:=by
 by_cases q:k=j
 ·rw[fE q,q];unfold rowAt;rw[fE c];by_cases d:j.toNat<a.length
  ·rw[nw d];rfl
  ·rw[jo<|by rw[kI];lia];rfl
 ·rw[fF q];unfold rowAt;by_cases b:0<=k
  ·rw[fE b,fE b,lK q0a]
  ·rw[fF b,fF b]
theorem P8{a:List RW}{j:Int}(b:0<=j):DL (a.set j.toNat none)=(DL a).filter λk=>!decide (k=j):=by unfold DL;rw[kI,List.filter_filter];refine mK λk _=>?_;rw[BO b];by_cases q:k=j<;>simp[q]
section
variable{C XC XS XO XB XP XV:ci}{x:B0 C}{rows:List RW}
theorem xT.lr(c:xT x rows):x.rk.length<=rows.length:=by have:=congrArg mG c.ks;rw[fN] at this;rw[this];exact zM rows
theorem xT.okb(c:xT x rows)(v:Vr rows):Pk x:=by
 have l:=v.ln;have g:=c.lr;have i:=c.lb;refine⟨λk h=>?_,λk b h=>?_,by rw[c.ks];exact(Ls rows).imp Int.le_of_lt,q0d,q0d⟩
 ·rw[c.rk,hI] at h;rw[c.bd,hI];exact h
 ·rw[c.bd] at h
  cases e:rowAt rows k with
  | none=>rw[e] at h;cases h
  | some y =>
   rw[e] at h;cases h;obtain⟨_,_,a,b,_⟩:=v.ok k y.1 y.2 e;refine⟨a,λd f=>?_⟩;obtain⟨j,q⟩:=(b d f).2;have:=uv q;exact⟨this.1,by have:=v.sm k y.1 y.2 e d f;omega⟩
theorem xT.v7(c:xT x rows)(k:Int):v7 x k=eb rows k:=by unfold K7.v7 eb;rw[c.bd]
theorem xT.put(c:xT x rows){r:Int}:xT ({ x with rk:=pk x.rk x.up r,bd:=pk x.bd x.up e,up:=x.up+1}:B0 C) (rows++[some (r,e)]):=by
 have n:rowAt rows x.up=none:=EK (by rw[c.up];exact mQ _);have a:lk x.rk x.up=none:=by rw[c.rk,n];rfl
 have b:lk x.bd x.up=none:=by rw[c.bd,n];rfl
 have d:=c.lr;have f:=c.lb;refine⟨?_,λk=>?_,λk=>?_,?_,?_⟩
 ·show x.up+1=_;rw[c.up,fV,gh]
  lia
 ·show lk (pk x.rk x.up r) k=_;rw[yG a,JB a];by_cases q:k=x.up
  ·rw[fE q,q,c.up,u4];rfl
  ·rw[fF q,vp (by rw[<- c.up];exact q),c.rk]
 ·show lk (pk x.bd x.up e) k=_;rw[yG b,JB b];by_cases q:k=x.up
  ·rw[fE q,q,c.up,u4];rfl
  ·rw[fF q,vp (by rw[<- c.up];exact q),c.bd]
 ·show (pk x.rk x.up r).map (·.1)=_;rw[yG a,jb,c.ks,P7,<- c.up];rfl
 ·show (pk x.bd x.up e).length<=_;rw[yG b,fV,fV,gh,gh]
  lia
theorem xT.take(c:xT x rows){j:Int}(a:0<=j):xT ({ x with rk:=dk x.rk j,bd:=dk x.bd j}:B0 C) (rows.set j.toNat none):=by
 have d:=c.lr;have b:=c.lb;refine⟨by rw[kI];exact c.up,λk=>?_,λk=>?_,?_,?_⟩
 ·show lk (dk x.rk j) k=_;rw[A4,BO a,c.rk];split<;>rfl
 ·show lk (dk x.bd j) k=_;rw[A4,BO a,c.bd];split<;>rfl
 ·show (dk x.rk j).map (·.1)=_;rw[P8 a,<- c.ks];unfold dk;rw[pZ];congr 1;refine mK λe _=>?_;by_cases q:e.1=j<;>simp[q]
 ·rw[kI];exact gZ (gD _ _) b
theorem xT.vr(c:xT x rows)(h:∀k∈row,(rowAt rows k).isSome=true):vr x row=true:=List.all_eq_true.mpr λk a=>by rw[c.rk,hI];exact h k a
theorem P9{r:Int}(c:xT x rows)(v:Vr rows)(l:0<=r)(m:r<=12)(i:wA e)(g:∀d∈e,∃b,rowAt rows d=some (r-1,b))(j:vd (eb rows) e=[])
 (k:∀a:B0 C,xT a (rows++[some (r,e)])->a.ht=x.ht->a.th=x.th->h x.up (a,⟨⟩,⟨⟩,())):HN C XB XS XC XO XP (x,r,e,()) h o:=by
  have n:rowAt rows x.up=none:=EK (by rw[c.up];exact mQ _)
  refine⟨c.okb v,(by show lk x.bd x.up=none;rw[c.bd,n];rfl),?_⟩
  show if r<0\/12<r then _ else if asc e=true then (if K7.vr x e=true then (if Ph x e (r-1)=true then (if KP (e.map<|K7.v7 x)=[] then h x.up _ else _) else _) else _) else _
  rw[fF q0a,fE<|(xN e).mpr i,fE (c.vr λd f=>by obtain⟨b,q⟩:=g d f;rw[q];rfl),fE,fE]
  · exact k _ c.put rfl rfl
  · rw[lV λd _ => c.v7 d]
    exact j
  · refine List.all_eq_true.mpr λd f => decide_eq_true ?_
    obtain⟨b,q⟩:=g d f
    rw[c.rk,q]
    rfl
theorem Lu(c:xT x rows){j h:Int}:h∈VW x j↔(rowAt rows h).isSome=true/\j∈eb rows h:=by
 unfold VW;rw[iv,gS,c.v7];constructor
 ·rintro⟨a,b⟩;have:=wJ a;rw[c.rk,hI] at this;exact⟨this,b⟩
 ·rintro⟨a,b⟩;exact⟨zm (by rw[c.rk,hI];exact a),b⟩
theorem SV(c:xT x rows){j:Int}:VW x j=[]↔∀h,j∉eb rows h:=by
 rw[List.eq_nil_iff_forall_not_mem];constructor
 ·intro z h a;refine z h ((Lu c).mpr ⟨?_,a⟩)
  cases e:rowAt rows h with
  | none=>unfold eb at a;rw[e] at a;cases a
  | some y=>rfl
 ·intro z h a;exact z h ((Lu c).mp a).2
theorem SY{j:Int}(c:xT x rows)(v:Vr rows)(b:(rowAt rows j).isSome=true)(e:∀h,j∉eb rows h)(f:w8 x j=false)
 (k:∀a:B0 C,xT a (rows.set j.toNat none)->a.ht=x.ht->a.th=x.th->d () (a,⟨⟩,())):Gg C XC XV (x,j,()) d i:=by
  refine⟨f,c.okb v,?_⟩
  show if (lk x.rk j).isSome=true then (if VW x j=[] then d () _ else _) else _
  rw[fE (by rw[c.rk,hI];exact b),fE<|(SV c).mpr e]
  obtain⟨y,g⟩:=Option.isSome_iff_exists.mp b
  exact k _ (c.take (uv g).1) rfl rfl
end
theorem wO{a:List RW}{n:Nat}{j:Int}:rowAt (a.take n) j=if j<(n:Int) then rowAt a j else none:=by
 unfold rowAt;by_cases b:0<=j
 ·rw[fE b,fE b,sK];by_cases c:j<(n:Int)
  ·rw[fE c,fE q0d]
  ·rw[fF c,fF q0d];rfl
 ·rw[fF b,fF b];split<;>rfl
theorem S6(v:Vr rows)(n:Nat):Vr (rows.take n):=by
 refine⟨λk r e h=>?_,gZ (List.length_take_le' _ _) v.ln,λk r e h=>?_⟩
 rotate_left
 ·rw[wO] at h;split at h
  ·exact v.sm k r e h
  ·cases h
 rw[wO] at h;by_cases q:k<(n:Int)
 ·rw[fE q] at h;obtain⟨a,b,c,d,f⟩:=v.ok k r e h;refine⟨a,b,c,λx g=>⟨(d x g).1,?_⟩,?_⟩
  ·obtain⟨l,i,j⟩:=d x g;exact⟨i,by rw[wO,fE q0a];exact j⟩
  ·rw[<- f];refine wm λx g=>?_;have:=(d x g).1;unfold eb;rw[wO,fE q0a]
 ·rw[fF q] at h;cases h
def Yd(a:List RW)(u:Int×List Int):Bool:=asc u.2&&u.2.all (λc=>decide ((rowAt a c).map (·.1)=some u.1))&&decide (vd (eb a) u.2=[])
theorem Lv{c r:Int}(h:(rowAt rows c).map (·.1)=some r):∃e,rowAt rows c=some (r,e):=by
 cases e:rowAt rows c with
 | none=>rw[e] at h;cases h
 | some y=>rw[e] at h;cases h;exact⟨y.2,rfl⟩
theorem Qa(h:Yd rows u=true):Lp rows u:=by unfold Yd at h;rw[gK,gK] at h;exact⟨(xN _).mp h.1.1,λc a=>Lv<|jC<|List.all_eq_true.mp h.1.2 c a,jC h.2⟩
def VrB(rows:List RW):Bool:=decide (rows.length<=27)&&(gl rows.length).all λk=>match rowAt rows (k:Int) with
 | none=>true
 | some (r,e)=>decide (0<=r)&&decide (r<=12)&&asc e&&e.all (λc=>decide (c<(k:Int))&&decide ((rowAt rows c).map (·.1)=some (r-1)))&&decide (vd (eb rows) e=[])
theorem Qb(h:VrB rows=true):Vr rows:=by
 unfold VrB at h;rw[gK] at h;have f:=jC h.1
 suffices g:∀k r e,rowAt rows k=some (r,e)->0<=r/\r<=12/\wA e/\(∀c∈e,c<k/\∃d,rowAt rows c=some (r-1,d))/\vd (eb rows) e=[] from⟨g,q0d,λk r e a c b=>by
  have:=((g k r e a).2.2.2.1 c b).1;have:=uv a
  omega⟩
 intro k r e a;have q:=uv a;have z:=List.all_eq_true.mp h.2 k.toNat<|List.mem_range.mpr q0d;rw[show ((k.toNat:Nat):Int)=k by omega,a] at z;simp only[gK,gS,m6] at z;exact⟨z.1.1.1.1,z.1.1.1.2,(xN _).mp z.1.1.2,λc b=>⟨(z.1.2 c b).1,Lv (z.1.2 c b).2⟩,z.2⟩
def Wr(n:Nat):List (Int×List Int):=(ye 0 n).filterMap λk=>if decide (k<4)=true then some (0,[k]) else none
def lp1:List (Int×List Int):=[(1,[4,5,7]),(1,[4,6,8]),(1,[5,6,9])]
def chk(m:Nat):Bool:=VrB (A9.take m)&&(Wr (A9.take m).length).all (Yd<|A9.take m)&&decide ((Wr (A9.take m).length).length<=4)&&decide ((A9.take m).length<=15)&&(decide ((A9.take m).length<=9)||lp1.all (Yd<|A9.take m))
theorem S7:(gl 16).all chk=true:=by decide +kernel
theorem Qc(c:wA a)(d:wA b)(f:∀k∈a,k∈ye 0 35)(g:∀k∈b,k∈ye 0 35):a.length<=1000/\b.length<=1000/\(a.filter λk=>!decide (k∈b)).length+(b.filter λk=>!decide (k∈a)).length<64:=by
 have i:=vI c f;have j:=vI d g;have h:=SX.xZ ((a.filter λk=>!decide (k∈b))++b.filter λk=>!decide (k∈a)) (ye 0 35) (List.nodup_append.mpr ⟨(uj c).filter _,(uj d).filter _,λx l y m e=>?_⟩) λk n=>?_
 ·rw[fV] at h;rw[vO] at i j h
  lia
 ·have q:=(List.mem_filter.mp l).2;rw[e] at q;simp[(List.mem_filter.mp m).1] at q
 ·rcases List.mem_append.mp n with z|z
  ·exact f k (List.mem_filter.mp z).1
  ·exact g k (List.mem_filter.mp z).1
theorem S8{a b:List Int}(h:a.length+b.length<64):a.length<=1000/\b.length<=1000/\(a.filter λk=>!decide (k∈b)).length+(b.filter λk=>!decide (k∈a)).length<64:=by
 have c:=gD (λk=>!decide (k∈b)) a;have d:=gD (λk=>!decide (k∈a)) b
 lia
theorem Gn(e:a=b)(k:c true (⟨⟩,⟨⟩,())):JL (a,b,()) c d:=by show c (decide<|a=b) _;rw[decide_eq_true e];exact k
theorem Ye(v:Vr rows)(n:rows.length<=59):Vr (rows++[some (0,[])]):=by
 refine⟨λk r e h=>?_,by rw[fV,gh];lia,λk r e h c j=>?_⟩
 ·by_cases q:k=(rows.length:Int)
  ·rw[q,u4] at h;cases h;exact⟨mQ 0,q0q,gx,(λ_ z=>by cases z),rfl⟩
  ·rw[vp q] at h;obtain⟨a,b,c,d,f⟩:=v.ok k r e h;refine⟨a,b,c,λx i=>?_,?_⟩
   ·obtain⟨m,l,g⟩:=d x i;exact⟨m,l,by rw[vp<|w9 g];exact g⟩
   ·rw[<- f];refine wm λx i=>?_;obtain⟨_,l,g⟩:=d x i;exact Gk<|w9 g
 ·by_cases q:k=(rows.length:Int)
  ·rw[q,u4] at h;cases h;cases j
  ·rw[vp q] at h;exact v.sm k r e h c j
theorem S9:xT (⟨[],[],0,[],[]⟩:B0 C) []:=by
 have n:∀k,rowAt [] k=none:=λk=>by unfold rowAt;split<;>rfl
 exact⟨rfl,(λk=>by rw[n];rfl),(λk=>by rw[n];rfl),rfl,fJ _⟩
structure Arr{C:ci}(x:B0 C)(a:List (Int×Int)):Prop where
 ok:BH x
 nt:(x.th.map (·.1)).Nodup
 pm:(a.map (·.1)).Perm (vo x)
 hd:∀e∈a,vB x e.1=e.2
def Qd(C:ci):Wf (B0 C×List RW×Bg×Int×Unit) (OL<|Int×Int) (B0 C×WL.Un×Bg×WL.Un×Unit):=λp b _ =>
 xT p.1 p.2.1/\Vr p.2.1/\p.2.1.length<=35/\p.1.ht=[]/\p.1.th=[]/\(0<=p.2.2.2.1/\p.2.2.2.1<=1000)/\∀x a,xT x p.2.1->Arr x a->b ⟨a⟩ (x,⟨⟩,⟨⟩,⟨⟩,())
def Lw(C:ci):Wf (Bg×Int×Unit) (T3 (B0 C) (OL RW)<|OL<|Int×Int) (Bg×WL.Un×Unit):=λp c _ =>
 (0<=p.2.1/\p.2.1<=20)/\∀x b a,xT x b->Vr b->b.length<=35->Arr x a->c ⟨x,⟨b⟩,⟨a⟩⟩ (⟨⟩,⟨⟩,())
def Lx:Wf (List (Int×Int)×Unit) (OL Int) (WL.Un×Unit):=λp a _=>p.1.length<64/\a ⟨Am (p.1.map (·.2))⟩ (⟨⟩,())
theorem wE:∀{l:List b} {i:Nat},l[i]?=some y->(y::l.eraseIdx i).Perm l
 | [],i,h=>by simp at h
 | a::l,0,h=>by
  have h:a=y:=by simpa using h
  rw[h];exact .refl _
 | a::l,i+1,h=>by rw[mX];exact(List.Perm.swap a y _).trans<|(wE<|by simpa using h).cons a
theorem CJ{a:Type}{l:List (Int×a)}{k:Int}:(dk l k).map (·.1)=(l.map (·.1)).filter λj=>decide (j≠k):=by unfold dk;rw[pZ];rfl
section
variable{C:ci}{x:B0 C}{rows:List RW}{a:List (Int×Int)}
theorem BH.Yf(b:BH x){l:Int}(n:l∈vo x):BH ({ x with ht:=dk x.ht l,th:=dk x.th (vB x l)}:B0 C):=by
 have o:∀{t:Int},t∈vo ({ x with ht:=dk x.ht l,th:=dk x.th (vB x l)}:B0 C)↔t∈vo x/\t≠l:=λ{t}=>by show t∈(dk x.ht l).map (·.1)↔_;rw[CJ,iv,gS];exact Iff.rfl
 refine⟨⟨b.ok.kb,b.ok.bo,b.ok.ri,b.ok.lr,b.ok.lb⟩,?_,?_,?_,λd f e=>?_,λd f e=>?_,λc h i=>?_,?_⟩
 ·show ((dk x.ht l).map (·.1)).Nodup;rw[CJ];exact b.nd.filter _
 ·exact mu (gD _ _) b.len
 ·exact mu (gD _ _) b.Yb
 ·have e:lk (dk x.ht l) d=some f:=e;rw[A4] at e;by_cases q:d=l
  ·rw[fE q] at e;cases e
  ·rw[fF q] at e;have g:=b.ht d f e;refine⟨g.1,g.2.1,g.2.2.1,?_⟩;show lk (dk x.th<|vB x l) f=some d;rw[A4,fF λz=>?_]
   ·exact g.2.2.2
   ·have:=(b.ht l _<|wd n).2.2.2;rw[<- z,g.2.2.2] at this;injection this with this;exact q this
 ·have e:lk (dk x.th<|vB x l) f=some d:=e;rw[A4] at e;by_cases q:f=vB x l
  ·rw[fE q] at e;cases e
  ·rw[fF q] at e;have g:=b.th d f e;show lk (dk x.ht l) d=some f;rw[A4,fF λz=>?_]
   ·exact g
   ·rw[z,wd n] at g;injection g with g;exact q g.symm
 ·have h:(lk (dk x.ht l) c).isSome=true:=h;have i:(lk (dk x.th<|vB x l) c).isSome=true:=i;rw[A4] at h i;refine b.one c ?_ ?_
  ·by_cases q:c=l
   ·rw[fE q] at h;cases h
   ·rw[fF q] at h;exact h
  ·by_cases q:c=vB x l
   ·rw[fE q] at i;cases i
   ·rw[fF q] at i;exact i
 ·obtain⟨r,p⟩:=b.acy;refine⟨r,λk m t j=>?_⟩;have m:=o.mp m
  have s:vB ({ x with ht:=dk x.ht l,th:=dk x.th (vB x l)}:B0 C) k=vB x k:=by unfold vB;show (lk (dk x.ht l) k).getD 0=_;rw[A4,fF m.2]
  rw[s] at j;have j:=wy.mp j;exact p k m.1 t<|wy.mpr ⟨j.1,j.2.1,(o.mp j.2.2).1⟩
theorem BH.DR(d:BH x){low high:Int}(w:(lk x.rk low).isSome=true)(y:(lk x.rk high).isSome=true)(f:low∈v7 x high)(A:w8 x low=false)(B:w8 x high=false)(D:low≠high)(ac:Wq (DR x low high))(E:x.ht.length+1<64)(F:x.th.length+1<64):BH (DR x low high):=by
 have p:=Bool.or_eq_false_iff.mp A;have r:=Bool.or_eq_false_iff.mp B;have o:lk x.ht low=none:=by simpa using p.1
 have G:lk x.th low=none:=by simpa using p.2
 have H:lk x.ht high=none:=by simpa using r.1
 have s:lk x.th high=none:=by simpa using r.2
 have t:(K7.DR x low high).ht=x.ht++[(low,high)]:=yG o;have I:(K7.DR x low high).th=x.th++[(high,low)]:=yG s;have j:∀k,lk (K7.DR x low high).ht k=if k=low then some high else lk x.ht k:=λk=>xk;have l:∀k,lk (K7.DR x low high).th k=if k=high then some low else lk x.th k:=λk=>xk;refine⟨⟨d.ok.kb,d.ok.bo,d.ok.ri,d.ok.lr,d.ok.lb⟩,?_,by rw[t];simpa using E,by rw[I];simpa using F,λm n e=>?_,λm n e=>?_,λc h i=>?_,ac⟩
 ·show ((K7.DR x low high).ht.map (·.1)).Nodup;rw[t,jb];refine List.nodup_append.mpr ⟨d.nd,q0o,λa u b f z=>?_⟩;have f:b=low:=by simpa using f
  rw[z,f] at u;have:=wJ u;rw[o] at this;cases this
 ·rw[j] at e;by_cases q:m=low
  ·rw[fE q] at e;injection e with e;subst e;subst q;exact⟨w,y,f,by rw[l,fE rfl]⟩
  ·rw[fF q] at e;have g:=d.ht m n e;refine⟨g.1,g.2.1,g.2.2.1,?_⟩;rw[l,fF λz=>?_]
   ·exact g.2.2.2
   ·rw[z,s] at g;cases g.2.2.2
 ·rw[l] at e;by_cases q:n=high
  ·rw[fE q] at e;injection e with e;subst e;subst q;rw[j,fE rfl]
  ·rw[fF q] at e;have g:=d.th m n e;rw[j,fF λz=>?_]
   ·exact g
   ·rw[z,o] at g;cases g
 ·rw[j] at h;rw[l] at i;by_cases q:c=low
  ·rw[fF λz=>D<|q.symm.trans z,q,G] at i;cases i
  ·rw[fF q] at h;by_cases v:c=high
   ·rw[v,H] at h;cases h
   ·rw[fF v] at i;exact d.one c h i
theorem xT.same(c:xT x rows){y:B0 C}(b:y.rk=x.rk)(d:y.bd=x.bd)(e:y.up=x.up):xT y rows:=by obtain⟨f,g,h,i,j⟩:=c;exact⟨e.trans f,by rw[b];exact g,by rw[d];exact h,by rw[b];exact i,by rw[d];exact j⟩
theorem Arr.mem(A:Arr x a)(h:e∈a):e.1∈vo x:=A.pm.mem_iff.mp<|List.mem_map.mpr ⟨e,h,rfl⟩
theorem Arr.pop(A:Arr x a){i:Nat}(h:a[i]?=some y):Arr ({ x with ht:=dk x.ht y.1,th:=dk x.th (vB x y.1)}:B0 C) (a.eraseIdx i):=by
 have b:(y::a.eraseIdx i).Perm a:=wE h;have g:y∈a:=b.mem_iff.mp fM;have j:=A.mem g
 have d:(y.1::(a.eraseIdx i).map (·.1)).Perm (vo x):=by
  have:=(b.map (λe:Int×Int=>e.1)).trans A.pm
  rwa [gn] at this
 have c:=List.nodup_cons.mp<|d.nodup_iff.mpr A.ok.nd;refine⟨A.ok.Yf j,?_,?_,λe f=>?_⟩
 ·show ((dk x.th<|vB x y.1).map (·.1)).Nodup;rw[CJ];exact A.nt.filter _
 ·show ((a.eraseIdx i).map (·.1)).Perm ((dk x.ht y.1).map (·.1));rw[CJ];refine vj c.2 (A.ok.nd.filter _) λk=>?_;rw[iv,gS];have:=d.mem_iff (a:=k);rw[gp] at this;constructor
  ·exact λz=>⟨this.mp<|.inr z,λw=>c.1<|w▸z⟩
  ·exact λz=>(this.mpr z.1).elim (λw=>fY w z.2) id
 ·have l:e∈a:=b.mem_iff.mp<|fP _ f;have m:e.1≠y.1:=λz=>c.1<|z▸List.mem_map.mpr ⟨e,f,rfl⟩;show (lk (dk x.ht y.1) e.1).getD 0=e.2;rw[A4,fF m];exact A.hd e l
theorem Arr.Ta(A:Arr x a)(c:xT x rows)(v:rows.length<=35):x.ht.length<=35/\x.th.length<=35/\a.length<=35:=by
 have i:=c.lr;have d:(x.rk.map (·.1)).Nodup:=by rw[c.ks];exact uj<|Ls rows
 have g:(vo x).length<=(x.rk.map (·.1)).length:=JD A.ok.nd d λk b=>zm (A.ok.ht k _<|wd b).1
 have f:(x.th.map (·.1)).length<=(x.rk.map (·.1)).length:=JD A.nt d λk b=>by obtain⟨l,e⟩:=Option.isSome_iff_exists.mp<|wJ b;exact zm (A.ok.ht l k<|A.ok.th l k e).2.1
 have h:=A.pm.length_eq;have e:(vo x).length=x.ht.length:=fN _;rw[fN] at g f h;rw[fN] at f
 lia
theorem Arr.add(A:Arr x a)(c:xT x rows)(v:rows.length<=35){low high:Int}(k:(lk x.rk low).isSome=true)(l:(lk x.rk high).isSome=true)(d:low∈v7 x high)(f:w8 x low=false)(g:w8 x high=false)(m:low≠high)(ac:Wq (DR x low high)):Arr (DR x low high) (a++[(low,high)]):=by
 have q:=A.Ta c v;have h:lk x.ht low=none:=by simpa using(Bool.or_eq_false_iff.mp f).1
 have i:lk x.th high=none:=by simpa using(Bool.or_eq_false_iff.mp g).2
 have n:(K7.DR x low high).ht=x.ht++[(low,high)]:=yG h;have o:(K7.DR x low high).th=x.th++[(high,low)]:=yG i;refine⟨A.ok.DR k l d f g m ac q0a q0a,?_,?_,λe p=>?_⟩
 ·rw[o,jb];refine List.nodup_append.mpr ⟨A.nt,q0o,λa j b d z=>?_⟩;have d:b=high:=by simpa using d
  rw[z,d] at j;have:=wJ j;rw[i] at this;cases this
 ·show ((a++[(low,high)]).map (·.1)).Perm ((K7.DR x low high).ht.map (·.1));rw[n,jb,jb];exact A.pm.append_right _
 ·show (lk (pk x.ht low high) e.1).getD 0=e.2;rw[xk];rcases List.mem_append.mp p with z|z
  ·have:e.1≠low:=λw=>by have:=wJ<|A.mem z;rw[w,h] at this;cases this
   rw[fF this];exact A.hd e z
  ·have z:e=(low,high):=by simpa using z
   rw[z,fE rfl];rfl
theorem Qe(v:Vr rows){k:Int}(d:rowAt rows k=some y):y.2.length<=95:=by
 have b:=v.ok k y.1 y.2 d
 have:=vI (U:=DL rows) b.2.2.1 λc e=>by obtain⟨_,g,f⟩:=b.2.2.2.1 c e;exact CI.mpr (by rw[f];rfl)
 have h:=zM rows;have i:=v.ln
 lia
theorem Tb(i:Pk x)(b:x.ht=[])(d:x.th=[]):Arr x []:=by
 have f:vo x=[]:=by unfold vo;rw[b];rfl
 refine⟨⟨i,by rw[f];exact mj,by rw[b];decide,by rw[d];decide,λl h e=>?_,λl h e=>?_,λc e=>?_,λ_=>0,λl g=>?_⟩,by rw[d];exact mj,by rw[f];exact .refl _,λe j=>by cases j⟩
 ·rw[b] at e;cases e
 ·rw[d] at e;cases e
 ·rw[b] at e;cases e
 ·rw[f] at g;cases g
theorem Qf{i:Nat}(A:Arr x a)(c:xT x rows)(h:a[i]?=some y)(k:∀v (b:B0 C),xT b rows->Arr b (a.eraseIdx i)->d v (b,⟨⟩,())):FY C g j (x,y.1,()) d l:=by have f:=A.mem<|iP h;have e:=wd f;refine⟨A.ok,?_⟩;show if (lk x.rk y.1).isSome=true then (if (lk x.ht y.1).isSome=true then d (vB x y.1) _ else _) else _;rw[fE (A.ok.ht _ _ e).1,fE<|by rw[e];rfl];exact k _ _ (c.same rfl rfl rfl)<|A.pop h
theorem V7{n:ci}{low high:Int}(A:Arr x a)(c:xT x rows)(v:Vr rows)(o:rows.length<=35)(b:rowAt rows high=some y)(h:low∈y.2)
 (i:∀D∈[d,e],f D (x,⟨⟩,⟨⟩,()))(k:∀g:B0 C,xT g rows->Arr g (a++[(low,high)])->p () (g,⟨⟩,⟨⟩,())):Pu C B n d e (x,low,high,()) p f:=by
  have r:=v.ok high y.1 y.2 b
  obtain⟨s,E,u⟩:=r.2.2.2.1 low h
  have j:(lk x.rk low).isSome=true:=by rw[c.rk,u];rfl
  have l:(lk x.rk high).isSome=true:=by rw[c.rk,b];rfl
  have m:low∈K7.v7 x high:=by rw[c.v7,yN b];exact h
  refine⟨A.ok,?_⟩
  show if (lk x.rk low).isSome=true then (if (lk x.rk high).isSome=true then (if low∈K7.v7 x high then (if w8 x low=true\/w8 x high=true then f d _ else f e _/\_) else _) else _) else _
  rw[fE j,fE l,fE m]
  by_cases t:w8 x low=true\/w8 x high=true
  · rw[fE t]; exact i d q0o
  · rw[fF t]
    have w:w8 x low=false:=by cases q:w8 x low with|true=>exact fY (.inl q) t|false=>rfl
    have z:w8 x high=false:=by cases q:w8 x high with|true=>exact fY (.inr q) t|false=>rfl
    exact⟨i e q0o,λac=>k _ (c.same rfl rfl rfl)<|A.add c o j l m w z (Int.ne_of_lt s) ac⟩
end
section
variable{q:Cq}{C XC XS XO XB XP XV VX XF XT XN XR:ci}
abbrev JM:gy:=top 32
abbrev JN:List Str:=["_law_bag_here"]
theorem Tc:ug ["_law_bag_here"] JN (tY JM):=by walk_at "sc"
abbrev V8(q:Cq)(k:Nat):=xj q "_law_rank" JN Gj k
theorem Td(F:FF q "_law_rank" JM f k)(a:xj q "_law_pull" ["_law_bag_here","_law_many"] xF 1):Gq q 2 f k JN Gj:=by
 refine' ui (v8 (D':=Unit) (ms:=[0]) (j:=0) F Tc rfl rfl λm A c s H E d =>
   (ul (uV (tw_cm zY (uo (uy a d rfl uh (uJ (i:=0) (pv 0) (ud t9 t6)))) t9 (uA _))
   (t7<|uD<|uy a d rfl uh<|uJ (i:=0) (pv 0)<|ud t9 t6)
   uK)
   (t7 (uD (uU (yb (vD (uM (ur (uc t9 (uc t9 (uc t9 (uc t9 (uc t9 (uc t9 (uc t9 (uc t9 uq))))))))))) (uo (uy a d rfl uh (uJ (i:=0) (pv 0) (ud t9 t6)))))))))) λp n t h=>?_
 walk_at "wl"
 have h:∀r,0<=r->r<=12->n r (⟨⟩,()):=h;refine vL q0q q0q λr u v=>?_
 try dsimp only
 by_cases q:r=11
 ·rw[fE<|decide_eq_true q];refine vL q0q q0q λs e b=>h s e ?_;have b:s<13:=b
  lia
 ·rw[fF<|by simpa using q];refine vL q0q q0q λs e b=>?_;have b:s<8:=b;obtain⟨x,o,_,g⟩:=yH (l:=[(0:Int),0,1,1,1,2,2,3]) e (by simpa using b);refine⟨x,o,h x ?_ ?_⟩
  ·simp at g;lia
  ·simp at g;lia
abbrev JO:gy:=top 33
abbrev JP:List Str:=["_law_one","_law_other"]
theorem Ly:ug ["_law_one","_law_other","_law_left"] JP (tY JO):=by walk_at "sc"
theorem Qg:(["_law_x","_law_other"]:List Str).Nodup:=by decide +kernel
theorem Qh:(["_law_x","_law_one"]:List Str).Nodup:=by decide +kernel
abbrev JQ(q:Cq)(k:Nat):=xj q "_law_join" JP JK k
theorem Te(F:FF q "_law_join" JO f m)(B:Bn q.mg):Gq q 2 f m JP JK:=by
 refine' ui (v8 (D':=Unit) (ms:=[]) (j:=1) F Ly rfl rfl λo A g s H E t =>
   (ul (zI (Ts:=["_law_x"]) (Fr:=["_law_other"]) (idx:=[1]) (k:=1) (mb:=[1]) (is:=[]) (cl:=[("_law_other",s.heap.objs.size+1+1)]) 2 Ly.nd rfl rfl rfl q0q rfl (vH (kf 0 (pv 0))) ⟨rfl,rfl,q0s,q0s,(λx c h=>by
    rcases KL h with⟨rfl,rfl⟩|h
    ·rfl
    cases h),(fc (λz=>by cases z) (fc (λz=>by cases z) (fc (λ_=>⟨_,rfl⟩) zQ))),
    (λj x h=>by
    match j,h with
    | 0,h=>cases h;exact⟨1,_,rfl,rfl,.inl rfl,rfl,.inl rfl⟩
    | n+1,h=>cases h),rfl⟩ rfl (v9 rfl) (λa b C d e=>(uz 0 (uk (i:=0) Qg rfl (gc rfl)) q0q)) (λa b C d e=>(tws_one (tw_cmI Hq (kf 0 (pv 0)) (vD (kf 1 (pv 1))) (by with_unfolding_all rfl)))) (λa b C d e=>(kf 0 (pv 0))))
   (t7 (uD (Bx rfl B.sorted (vD (uM (Bv (vy 2 (pv 2)) (vD (uM (wS (Ts:=["_law_x"]) (Fr:=["_law_one"]) (idx:=[0]) (k:=1) (mb:=[1]) (is:=[]) (cl:=[("_law_one",s.heap.objs.size+1)]) rfl (vH (kf 1 (pv 1))) ⟨rfl,rfl,q0s,q0s,(λx c h=>by
    rcases KL h with⟨rfl,rfl⟩|h
    ·rfl
    cases h),(fc (λz=>by cases z) (fc (λz=>by cases z) (fc (λ_=>⟨_,rfl⟩) zQ))),
    (λj x h=>by
    match j,h with
    | 0,h=>cases h;exact⟨0,_,rfl,rfl,.inl rfl,rfl,.inl rfl⟩
    | n+1,h=>cases h),rfl⟩ rfl (v9 rfl) (λa b C d e=>(uz 0 (uk (i:=0) Qh rfl (gc rfl)) q0q)) (λa b C d e=>(tws_one (tw_cmI Hq (kf 0 (pv 0)) (vD (kf 1 (pv 1))) (by with_unfolding_all rfl)))) (λa b C d e=>(kf 0 (pv 0)))))))))))))) λp u v h=>?_
 walk_at "wl"
 obtain⟨⟨w,y,D⟩,r⟩:=h;refine⟨uZ q0d,vJ (q:=λk=>!decide (k∈p.2.1)) (λk _ K l=>l) ?_⟩;refine⟨uZ (show p.2.1.length<=1000 by omega),vJ (q:=λk=>!decide (k∈p.1)) (λk _ K l=>l) ?_⟩;have G:=gD (λk=>!decide (k∈p.2.1)) p.1;have I:=gD (λk=>!decide (k∈p.1)) p.2.1;refine⟨uZ ?_,?_,r⟩
 ·show (p.1.filter λk=>!decide (k∈p.2.1)).length+(p.2.1.filter λk=>!decide (k∈p.1)).length<=1000;omega
 ·rw[fV];show (p.1.filter λk=>!decide (k∈p.2.1)).length+(p.2.1.filter λk=>!decide (k∈p.1)).length<64;omega
abbrev JR:gy:=top 34
abbrev JS:List Str:=["_law_rows_here"]
theorem Tf:ug ["_law_rows_here"] JS (tY JR):=by walk_at "sc"
theorem Qi:(["_law_k","_law_rows_here"]:List Str).Nodup:=by decide +kernel
abbrev Qj(q:Cq)(k:Nat):=xj q "_law_here" JS PZ k
theorem Tg(F:FF q "_law_here" JR f t)(B:Bn q.mg):Gq q 2 f t JS PZ:=by
 refine' ui (v8 (D':=Unit) (ms:=[]) (j:=0) F Tf rfl rfl λu A d s H E I =>
   (t7 (uD (wS (Ts:=["_law_k"]) (Fr:=["_law_rows_here"]) (idx:=[0]) (k:=1) (mb:=[1]) (is:=[]) (cl:=[("_law_rows_here",s.heap.objs.size+1)]) rfl (wG rfl B.range (xC rfl B.len (vD (kf 0 (pv 0))))) ⟨rfl,rfl,q0s,q0s,(λx c h=>by
    rcases KL h with⟨rfl,rfl⟩|h
    ·rfl
    cases h),(fc (λz=>by cases z) (fc (λz=>by cases z) (fc (λ_=>⟨_,rfl⟩) zQ))),
    (λj x h=>by
    match j,h with
    | 0,h=>cases h;exact⟨0,_,rfl,rfl,.inl rfl,rfl,.inl rfl⟩
    | n+1,h=>cases h),rfl⟩ rfl (v9 rfl) (λa b C m o=>(uz 0 (uk (i:=0) Qi rfl (gc rfl)) q0q)) (λa b C m o=>(tws_one (tw_cm KI (yb (vD (kf 1 (pv 1))) (kf 0 (pv 0))) IV (uA _)))) (λa b C m o=>(kf 0 (pv 0))))))) λp J L h=>?_
 walk_at "wl"
 obtain⟨M,v⟩:=h;refine⟨⟨q0a,q0a⟩,?_,vJ (q:=λk=>(rowAt p.1 k).isSome) (λk e K g=>?_) v⟩
 ·rw[vO];exact uZ q0a
 ·obtain⟨r,w⟩:=Lr e;obtain⟨x,D,G,_⟩:=yH (l:=p.1) r w;rw[DM r G] at g;refine⟨x,D,?_⟩
  cases x with
  | none=>exact g
  | some y=>exact g
abbrev JT:gy:=top 35
abbrev JU:List Str:=["_law_bag_here","_law_row_here"]
theorem zN:ug ["_law_bag_here","_law_row_here","_law_found","_law_count","_law_k"] JU (tY JT):=by walk_at "sc"
abbrev Qk(q:Cq)(k:Nat):=xj q "_law_some" JU P0 k
theorem Th(F:FF q "_law_some" JT f Q)(a:xj q "_law_pull" ["_law_bag_here","_law_many"] xF 2)(d:JQ q 2)(B:Bn q.mg):Gq q 3 f Q JU P0:=by
 refine' ui (v8 (D':=Unit) (ms:=[0]) (j:=3) F zN rfl rfl λR A D s H E m =>
   (ul (um 2 zN.nd rfl (gc rfl) q0q (ur (α:=Int) uq))
   (ul (uV (tw_cmL (I0 m.units) (vD (kf 1 (pv 1))) (vD (uM (ur (α:=Int) uq))) (uA _))
   (t7<|xM 2<|pv 2)
   uK)
   (ul (um 3 zN.nd rfl (gc rfl) q0q (uy a m rfl uh (uJ (i:=0) (pv 0) (ud t9 t6))))
   (ul (uV (tw_cm zY (kf 3 (pv 3)) t9 (uA _))
   (t7<|um 3 zN.nd rfl (gc rfl) q0q<|uU<|N6 Ae (uo<|uy a m rfl uh<|uJ (i:=0) (pv 0)<|ud t9 t6)<|xC rfl B.len<|vD<|kf 1<|pv 1)
   uK)
   (ul (vY (is:=[]) (mb:=[0]) (D1:=Bg×(List Int)×(OL Int)×Int×Int×Unit) (D2:=Bg×(List Int)×(OL Int)×Int×Int×Unit) (uG q0q) x9 rfl (wG rfl B.range (kf 3 (pv 3))) (uz 4 (uk (i:=4) zN.nd rfl (gc rfl)) q0q)
   (t7 (um 2 zN.nd rfl (gc rfl) q0q (uy d m rfl uh (vc (i:=2) (pv 2) (ud (uM (ur (uc (yb (vD (kf 1 (pv 1))) (uo (uy a m rfl uh (uJ (i:=0) (pv 0) (ud (xC rfl B.len (vD (kf 1 (pv 1)))) t6))))) uq))) t6))))) q0q q0q)
   (t7 (xM 2 (pv 2))))))))) λp M u h=>?_
 walk_at "wl"
 obtain⟨Y,N⟩:=h;by_cases G:p.2.1=[]
 ·rw[fE<|decide_eq_true G];exact N [] gx λ_ z=>by cases z
 rw[fF<|by simpa using G]
 have I:0<(p.2.1.length:Int):=by
  have:=List.length_pos_iff.mpr G
  lia
 have g:∀(n c:Int),Fv (λ(x:Int)(b:Bg×List Int×OL Int×Int×WL.Un×Unit) J (Z:OL Int->Bg×WL.Un×Unit->Prop) u=>xF (b.1,(b.2.1.length:Int),()) (λx v=>∃o,EX b.2.1 x=some o/\JK (b.2.2.1.l,[o],()) (λx t=>J (v.1,b.2.1,x,b.2.2.2.1,⟨⟩,b.2.2.2.2.2)) λC t=>u C (v.1,⟨⟩,())) λC v=>u C (v.1,⟨⟩,()))
   (ye 0 n) (⟨⟩,p.2.1,⟨[]⟩,c,⟨⟩,p.2.2) (λO=>M O.2.2.1 (O.1,⟨⟩,())) M u:=by
  intro n c;refine uW (λ(r:List Int)(b:Bg×List Int×OL Int×Int×WL.Un×Unit)=>b.2.1=p.2.1/\wA b.2.2.1.l/\∀x∈b.2.2.1.l,x∈p.2.1) (ye 0 n) ⟨rfl,gx,(λ_ z=>by cases z)⟩ ?_ ?_
  ·rintro x r b _ ⟨e,k,g2⟩ K S;rw[e];refine vL I q0a λr P w=>?_;obtain⟨y,T,_,U⟩:=yH (l:=p.2.1) P w;have V:=vI k g2;refine⟨y,T,S8 (show b.2.2.1.l.length+1<64 by lia),S _ ⟨rfl,FA k<|iC _ _,λz W=>?_⟩⟩;rcases Fz.mp W with⟨L,_⟩|⟨L,_⟩
   ·exact g2 z L
   ·rw[List.mem_singleton.mp L];exact U
  ·rintro b ⟨_,k,g2⟩;exact N _ k g2
 refine vL q0q q0q λr P w=>?_
 try dsimp only
 have w:r<7:=w;by_cases q:r=6
 ·rw[fE<|decide_eq_true q];refine vL q0q q0q λs X k=>?_;have k:s<3:=k
  have b1:s*(p.2.1.length:Int)<=2*60:=by
   have:s*(p.2.1.length:Int)<=2*(p.2.1.length:Int):=Int.mul_le_mul_of_nonneg_right q0a q0a
   lia
  have b0:0<=s*(p.2.1.length:Int):=Int.mul_nonneg X q0a;exact⟨.inl ⟨q0a,q0a⟩,⟨q0a,q0a⟩,g _ _⟩
 ·rw[fF<|by simpa using q];exact⟨⟨q0a,q0a⟩,g _ _⟩
abbrev JV:gy:=top 36
abbrev JW:List Str:=["_law_rows_here","_law_row_here"]
theorem CK:ug ["_law_rows_here","_law_row_here","_law_found","_law_cell"] JW (tY JV):=by walk_at "sc"
abbrev Ql(q:Cq)(k:Nat):=xj q "_law_edge" JW P1 k
theorem Ti(F:FF q "_law_edge" JV f t)(a:JQ q 2):Gq q 3 f t JW P1:=by
 refine' ui (v8 (D':=Unit) (ms:=[]) (j:=2) F CK rfl rfl λu A k s H E w =>
   (ul (um 2 CK.nd rfl (gc rfl) q0q (ur (α:=Int) uq))
   (ul (vY (is:=[]) (mb:=[]) (D1:=(List (Option (Int×(List Int))))×(List Int)×(OL Int)×Int×Unit) (D2:=(List (Option (Int×(List Int))))×(List Int)×(OL Int)×Int×Unit) (uG q0q) x9 rfl (vH (kf 1 (pv 1))) (uz 3 (uk (i:=3) CK.nd rfl (gc rfl)) q0q)
   (t7 (um 2 CK.nd rfl (gc rfl) q0q (uy a w rfl uh (vc (i:=2) (pv 2) (ud (Bu (yM (yb (vD (kf 0 (pv 0))) (kf 3 (pv 3))))) t6))))) q0q q0q)
   (t7 (xM 2 (pv 2)))))) λp B P h=>?_
 walk_at "wl"
 obtain⟨v,D,G⟩:=h;refine uW (λ(r:List Int)(b:List RW×List Int×OL Int×WL.Un×Unit)=>b.1=p.1/\(∀c∈r,(rowAt p.1 c).isSome=true)/\wA b.2.2.1.l/\(∀x∈b.2.2.1.l,x∈ye 0 35)/\(r.map<|eb p.1).foldl xr b.2.2.1.l=vd (eb p.1) p.2.1) p.2.1 ⟨rfl,D,gx,(λ_ z=>by cases z),rfl⟩ ?_ ?_
 ·rintro c r b _ ⟨e,o,g1,g2,d⟩ K I;obtain⟨y,m⟩:=Option.isSome_iff_exists.mp<|o c fM;obtain⟨_,_,_,J⟩:=uv m;obtain⟨g,n⟩:=v.V5 m;rw[e];have L:=vI g1 g2;have M:=vI g n;rw[vO] at L M;refine⟨_,J,y,rfl,Qc g1 g g2 n,I _ ⟨rfl,λc N=>o c<|fP _ N,FA g1 g,λx O=>?_,?_⟩⟩
  ·rcases Fz.mp O with⟨z,_⟩|⟨z,_⟩
   ·exact g2 x z
   ·exact n x z
  ·rw[<- d];show (r.map<|eb p.1).foldl xr (jn b.2.2.1.l y.2)=(r.map<|eb p.1).foldl xr (xr b.2.2.1.l<|eb p.1 c);rw[Uh g1 g,yN m]
 ·rintro b ⟨_,_,_,_,d⟩;have d:b.2.2.1.l=vd (eb p.1) p.2.1:=d;show B b.2.2.1 _;rw[show b.2.2.1=OL.mk b.2.2.1.l from rfl,d];exact G
abbrev Go:gy:=top 43
abbrev Gp:List Str:=["_law_found"]
theorem Qm:ug ["_law_found"] Gp (tY Go):=by walk_at "sc"
abbrev Tj(q:Cq)(k:Nat):=xj q "_law_whole" Gp Lo k
theorem Qn(F:FF q "_law_whole" Go f b)(B:Bn q.mg):Gq q 2 f b Gp Lo:=by
 refine' ui (v8 (D':=Unit) (ms:=[]) (j:=0) F Qm rfl rfl λc A a s H E d =>
   (t7 (uD (uU (Jb (BA (ty:="int") rfl B.isinstance (ES (v:=.ty "int") rfl B.int PyProof.Rows.boot_int rfl) (kf 0 (pv 0))) (Cu (Vu (BA (ty:="bool") rfl B.isinstance (ES (v:=.ty "bool") rfl B.bool PyProof.Rows.boot_bool rfl) (kf 0 (pv 0)))))))))) λp e g h=>?_
 walk_at "wl"
 exact h
abbrev s_row:gy:=top 44
abbrev Qo:List Str:=["_law_found"]
theorem Qp:ug ["_law_found","_law_one"] Qo (tY s_row):=by walk_at "sc"
abbrev Yg(q:Cq)(k:Nat):=xj q "_law_row" Qo Um k
theorem V9(F:FF q "_law_row" s_row f d)(a:Tj q 2)(B:Bn q.mg):Gq q 3 f d Qo Um:=by
 refine' ui (v8 (D':=Unit) (ms:=[]) (j:=1) F Qp rfl rfl λe A c s H E g =>
   (ul (uV (tw_not (tw_val (BA (ty:="list") rfl B.isinstance (ES (v:=.ty "list") rfl B.list jw rfl) (kf 0 (pv 0)))))
   (t7<|uD<|uU KA)
   uK)
   (ul (vY (is:=[]) (mb:=[]) (D1:=(List Int)×Int×Unit) (D2:=(List Int)×Int×Unit) (uG q0q) x9 rfl (vH (kf 0 (pv 0))) (uz 1 (uk (i:=1) Qp.nd rfl (gc rfl)) q0q)
   (t7 (uV (tw_not (tw_val (uo (uy a g rfl uh (ud (kf 1 (pv 1)) t6)))))
   (t7<|uD<|uU KA)
   uK)) q0q q0q)
   (t7 (uD (uU KA)))))) λp l m h=>?_
 walk_at "wl"
 rw[fF q0q];exact uW (λ(r:List Int)(b:List Int×WL.Un×Unit)=>True) p.1 trivial (λx r b _ _ K k=>k _ trivial) λ_ _=>h
abbrev s_same:gy:=top 45
abbrev JX:List Str:=["_law_found","_law_due"]
theorem Tk:ug ["_law_found","_law_due"] JX (tY s_same):=by walk_at "sc"
abbrev Wa(q:Cq)(k:Nat):=xj q "_law_same" JX JL k
theorem Tl(F:FF q "_law_same" s_same f d)(a:Yg q 3):Gq q 4 f d JX JL:=by
 refine' ui (v8 (D':=Unit) (ms:=[]) (j:=0) F Tk rfl rfl λe A b s H E c =>
   (t7 (uD (uU (Jb (uo (uy a c rfl uh (ud (kf 0 (pv 0)) t6))) (Cu (Vt (I0 c.units) (vD (kf 0 (pv 0))) (vD (kf 1 (pv 1))) (uA _)))))))) λp g i h=>?_
 walk_at "wl"
 exact h
abbrev Gr:gy:=top 31
abbrev Gu:List Str:=["_law_many"]
theorem zx:ug ["_law_many","_law_pairs","_law_threes","_law_rows_here"] Gu (tY Gr):=by walk_at "sc"
theorem MN:(["_law_k"]:List Str).Nodup:=by decide +kernel
theorem MO:(["_law_pair"]:List Str).Nodup:=by decide +kernel
theorem MP:(["_law_three"]:List Str).Nodup:=by decide +kernel
abbrev To(q:Cq)(k:Nat):=xj q "_law_stock" Gu Lq k
theorem Qq(F:FF q "_law_stock" Gr f m)(B:Bn q.mg):Gq q 2 f m Gu Lq:=by
 refine' ui (v8 (D':=Unit) (ms:=[]) (j:=3) F zx rfl rfl λn A l s H E t =>
   (ul (um 1 zx.nd rfl (gc rfl) q0q (ur (uc (uM (ur (uc t9 (uc t9 uq)))) (uc (uM (ur (uc t9 (uc t9 uq)))) (uc (uM (ur (uc t9 (uc t9 uq)))) (uc (uM (ur (uc t9 (uc t9 uq)))) (uc (uM (ur (uc t9 (uc t9 uq)))) (uc (uM (ur (uc t9 (uc t9 uq)))) uq))))))))
   (ul (um 2 zx.nd rfl (gc rfl) q0q (ur (uc (uM (ur (uc t9 (uc t9 (uc t9 uq))))) (uc (uM (ur (uc t9 (uc t9 (uc t9 uq))))) (uc (uM (ur (uc t9 (uc t9 (uc t9 uq))))) (uc (uM (ur (uc t9 (uc t9 (uc t9 uq))))) uq))))))
   (ul (um 3 zx.nd rfl (gc rfl) q0q (Bv (vD (uM (wS (Ts:=["_law_k"]) (Fr:=[]) (idx:=[]) (k:=1) (mb:=[]) (is:=[]) (cl:=[]) rfl (wG rfl B.range t9) ⟨rfl,rfl,q0s,q0s,(λx c h=>by
    cases h),(fc (λz=>by cases z) (fc (λz=>by cases z) zQ)),
    (λj x h=>by cases h),rfl⟩ rfl (v9 rfl) (λa b C d e=>(uz 0 (uk (i:=0) MN rfl (gc rfl)) q0q)) (λa b C d e=>tws_nil) (λa b C d e=>(yy (vN t9 (uM (ur (α:=Int) uq)))))))) (vD (uM (wS (Ts:=["_law_pair"]) (Fr:=[]) (idx:=[]) (k:=1) (mb:=[]) (is:=[1]) (cl:=[]) rfl (Ft 1 (pv 1) q0q) ⟨rfl,rfl,q0s,q0s,(λx c h=>by
    cases h),(fc (λz=>by cases z) (fc (λz=>by cases z) zQ)),
    (λj x h=>by cases h),rfl⟩ rfl (v9 rfl) (λa b C d e=>(uz 0 (uk (i:=0) MO rfl (gc rfl)) q0q)) (λa b C d e=>tws_nil) (λa b C d e=>(yy (vN t9 (kf 0 (pv 0))))))))))
   (ul (um 3 zx.nd rfl (gc rfl) q0q (Bv (vD (uM (Bv (vy 3 (pv 3)) (vD (uM (wS (Ts:=["_law_three"]) (Fr:=[]) (idx:=[]) (k:=1) (mb:=[]) (is:=[2]) (cl:=[]) rfl (Ft 2 (pv 2) q0q) ⟨rfl,rfl,q0s,q0s,(λx c h=>by
    cases h),(fc (λz=>by cases z) (fc (λz=>by cases z) zQ)),
    (λj x h=>by cases h),rfl⟩ rfl (v9 rfl) (λa b C d e=>(uz 0 (uk (i:=0) MP rfl (gc rfl)) q0q)) (λa b C d e=>tws_nil) (λa b C d e=>(yy (vN t9 (kf 0 (pv 0))))))))))) (vD (uM (ur (uc (yy (vN t9 (uM (ur (uc t9 (uc t9 (uc t9 (uc t9 uq)))))))) uq))))))
   (t7 (uD (Ho (vy 3 (pv 3)) Fl (Fo (kf 0 (pv 0))))))))))) λp u v h=>?_
 walk_at "wl"
 obtain⟨o,r⟩:=h;refine⟨q0q,(by rw[vO];exact uZ q0q),vk (f:=λ_=>some<|some (0,[])) (λx _ K g=>g) ?_⟩;refine⟨uZ q0q,vk (f:=λx=>some<|some (1,x)) (λx _ K g=>g) ?_⟩;refine⟨uZ q0q,uZ q0q,vk (f:=λx=>some<|some (2,x)) (λx _ K g=>g) ?_⟩;refine⟨uZ q0q,uZ q0q,?_⟩;rw[V6 _ o];exact r
abbrev BP:gy:=top 37
abbrev BQ:List Str:=["_law_rows_here","_law_loops","_law_rank_here","_law_bag_here"]
theorem vZ:ug ["_law_rows_here","_law_loops","_law_rank_here","_law_bag_here","_law_number","_law_edge_here","_law_beneath","_law_k","_law_kin","_law_chosen"] BQ (tY BP):=by walk_at "sc"
theorem B9:(["_law_at","_law_one","_law_rank_here"]:List Str).Nodup:=by decide +kernel
theorem HY:(["_law_k","_law_rank_here","_law_rows_here"]:List Str).Nodup:=by decide +kernel
abbrev MQ(q:Cq)(k:Nat):=xj q "_law_edge_by" BQ zL k
theorem JY(F:FF q "_law_edge_by" BP f fd)(a:xj q "_law_pull" ["_law_bag_here","_law_many"] xF 3)(I:JQ q 3)(J:Qj q 3)(L:Qk q 3)(M:Ql q 3)(B:Bn q.mg):Gq q 4 f fd BQ zL:=by
 refine' ui (v8 (D':=Unit) (ms:=[0,1,3]) (j:=6) F vZ rfl rfl λae A aa s H E N =>
   (ul (um 4 vZ.nd rfl (gc rfl) q0q (uU (xC rfl B.len (vy 0 (pv 0)))))
   (ul (um 5 vZ.nd rfl (gc rfl) q0q (ur (α:=Int) uq))
   (ul (uV (tw_cm zY (kf 2 (pv 2)) t9 (uA _))
   (ul (vz 1 (pv 1) (vN t9 (uM (ur (uc (kf 4 (pv 4)) uq)))) (λh=>vF (yL gv gL gM vw (pv 1) h)))
   (t7 (xM 5 (pv 5))))
   uK)
   (ul (uV (tw_cm Ob (uo (uy a N rfl uh (uJ (i:=3) (pv 3) (ud t9 t6)))) t9 (uA _))
   (ul (zI (Ts:=["_law_at","_law_one"]) (Fr:=["_law_rank_here"]) (idx:=[2]) (k:=2) (mb:=[2]) (is:=[1]) (cl:=[("_law_rank_here",s.heap.objs.size+1+1)]) 6 vZ.nd rfl rfl rfl q0q rfl (Ft 1 (pv 1) q0q) ⟨rfl,rfl,q0s,q0s,(λx c h=>by
    rcases KL h with⟨rfl,rfl⟩|h
    ·rfl
    cases h),(fc (λz=>by cases z) (fc (λz=>by cases z) (fc (λz=>by cases z) (fc (λ_=>⟨_,rfl⟩) zQ)))),
    (λj x h=>by
    match j,h with
    | 0,h=>cases h;exact⟨2,_,rfl,rfl,.inl rfl,rfl,.inl rfl⟩
    | n+1,h=>cases h),rfl⟩ rfl (v9 rfl) (λd g C V W=>(Cv 0 1 (CO rfl (vT (uk (i:=0) B9 rfl (gc rfl)) (vT (uk (i:=1) B9 rfl (gc rfl)) Aq))) q0q q0q)) (λd g C V W=>(tws_one (tw_cm zY (kf 0 (pv 0)) (AF Ip (kf 2 (pv 2)) t9) (uA _)))) (λd g C V W=>(kf 1 (pv 1))))
   (ul (vY (is:=[]) (mb:=[0,1,3]) (D1:=(OL (Option (Int×(List Int))))×(OL (Int×(List Int)))×Int×Bg×Int×(OL Int)×(OL (List Int))×Int×Un×Un×Unit) (D2:=(OL (Option (Int×(List Int))))×(OL (Int×(List Int)))×Int×Bg×Int×(OL Int)×(OL (List Int))×Int×Un×Un×Unit) (uG q0q) x9 rfl (wG rfl B.range (yb (vD (uM (ur (uc t9 (uc t9 (uc t9 (uc t9 (uc t9 (uc t9 (uc t9 (uc t9 uq))))))))))) (uo (uy a N rfl uh (uJ (i:=3) (pv 3) (ud t9 t6)))))) (uz 7 (uk (i:=7) vZ.nd rfl (gc rfl)) q0q)
   (t7 (uV (tw_cmL (Fp N.units) (vy 6 (pv 6)) (vD (uM (ur (α:=(List Int)) uq))) (uA _))
   (t7<|um 5 vZ.nd rfl (gc rfl) q0q<|uy I N rfl uh<|vc (i:=5) (pv 5)<|ud (yb (vy 6<|pv 6)<|uo<|uy a N rfl uh<|uJ (i:=3) (pv 3)<|ud (xC rfl B.len<|vy 6<|pv 6) t6) t6)
   uK)) q0q q0q)
   (ul (uV (tw_cmL (I0 N.units) (vy 5 (pv 5)) (vD (uM (ur (α:=Int) uq))) (uA _))
   (t7<|vz 1 (pv 1) (vN (kf 2<|pv 2)<|uM<|ur<|uc (kf 4<|pv 4) uq)<|λh=>vF<|yL gv gL gM vw (pv 1) h)
   uK)
   (t7 (xM 5 (pv 5))))))
   uK)
   (ul (zI (Ts:=["_law_k"]) (Fr:=["_law_rank_here","_law_rows_here"]) (idx:=[2,0]) (k:=1) (mb:=[1,2]) (is:=[]) (cl:=[("_law_rows_here",s.heap.objs.size+1),("_law_rank_here",s.heap.objs.size+1+1)]) 8 vZ.nd rfl rfl rfl q0q rfl (vH (uM (uy J N rfl uh (vc (i:=0) (pv 0) t6)))) ⟨rfl,rfl,q0s,q0s,(λx c h=>by
    rcases KL h with⟨rfl,rfl⟩|h
    ·rfl
    rcases KL h with⟨rfl,rfl⟩|h
    ·rfl
    cases h),(fc (λz=>by cases z) (fc (λz=>by cases z) (fc (λ_=>⟨_,rfl⟩) (fc (λ_=>⟨_,rfl⟩) zQ)))),
    (λj x h=>by
    match j,h with
    | 0,h=>cases h;exact⟨2,_,rfl,rfl,.inl rfl,rfl,.inl rfl⟩
    | 1,h=>cases h;exact⟨0,_,rfl,rfl,.inl rfl,rfl,.inl rfl⟩
    | n+2,h=>cases h),rfl⟩ rfl (v9 rfl) (λd g C V W=>(uz 0 (uk (i:=0) HY rfl (gc rfl)) q0q)) (λd g C V W=>(tws_one (tw_cm zY (IZ (yM (yb (vy 2 (pv 2)) (kf 0 (pv 0))))) (kf 1 (pv 1)) (uA _)))) (λd g C V W=>(kf 0 (pv 0))))
   (ul (um 9 vZ.nd rfl (gc rfl) q0q (uy L N rfl uh (uJ (i:=3) (pv 3) (vc (i:=8) (pv 8) t6))))
   (ul (vz 1 (pv 1) (vN (kf 2 (pv 2)) (uM (Bv (vy 9 (pv 9)) (vD (uM (ur (uc (kf 4 (pv 4)) uq))))))) (λh=>vF (yL gv gL gM vw (pv 1) h)))
   (t7 (uD (uy M N rfl uh (vc (i:=0) (pv 0) (vc (i:=9) (pv 9) t6))))))))))))) λp Kn Ke h=>?_
 walk_at "wl"
 obtain⟨v,hn,hq,X,r0,r1,Z⟩:=h;by_cases h0:p.2.2.1=0
 ·rw[fE<|decide_eq_true h0];refine⟨AX q0a,?_⟩;refine Z [] [(0,[(p.1.l.length:Int)])] (Gm v q0a λr e z=>?_) (λu O=>?_) q0o
  ·cases z;exact⟨r0,r1,gx,(λ_ z=>by cases z),rfl⟩
  ·rcases List.mem_append.mp O with z|z
   ·exact DN<|X u z
   ·rw[List.mem_singleton.mp z];have:=P5 (rows:=p.1.l) (r:=p.2.2.1);rw[h0] at this ⊢;exact this
 ·rw[fF<|by simpa using h0];refine vL q0q q0q λx g0 g1=>?_
  try dsimp only
  by_cases hx:x<3
  ·rw[fE<|decide_eq_true hx];refine⟨uZ q0a,vk (f:=λu:Int×List Int=>if decide (u.1=p.2.2.1-1)=true then some u.2 else none) (λu _ K D=>?_) ?_⟩
   ·show if decide (u.1=p.2.2.1-1)=true then K (some u.2) _ else K none _;by_cases z:decide (u.1=p.2.2.1-1)=true
    ·rw[fE z] at D ⊢;exact D
    ·rw[fF z] at D ⊢;exact D
   ·have ly:(p.2.1.l.filterMap λu:Int×List Int=>if decide (u.1=p.2.2.1-1)=true then some u.2 else none).length<=100:=gZ (List.length_filterMap_le _ _) hq
    have Y:∀z∈(p.2.1.l.filterMap λu:Int×List Int=>if decide (u.1=p.2.2.1-1)=true then some u.2 else none),Lp p.1.l (p.2.2.1-1,z):=λz hz=>by
     obtain⟨u,O,e⟩:=List.mem_filterMap.mp hz;by_cases q:decide (u.1=p.2.2.1-1)=true
     ·rw[fE q] at e;cases e;rw[<- jC q];exact X u O
     ·rw[fF q] at e;cases e
    generalize (p.2.1.l.filterMap λu:Int×List Int=>if decide (u.1=p.2.2.1-1)=true then some u.2 else none)=ys at ly Y;refine vL q0q q0q λs g2 g3=>?_;obtain⟨m,m1,_,m3⟩:=yH (l:=[(2:Int),2,2,2,0,1,3,4]) g2 (by simpa using g3);refine⟨m,m1,⟨by simp at m3;lia,by simp at m3;lia⟩,?_⟩;refine uW (λ(r:List Int) (b:OL RW×OL (Int×List Int)×Int×Bg×Int×OL Int×OL (List Int)×WL.Un×WL.Un×WL.Un×Unit)=>b.1=p.1/\b.2.1=p.2.1/\b.2.2.1=p.2.2.1/\b.2.2.2.2.1=(p.1.l.length:Int)/\b.2.2.2.2.2.2.1.l=ys/\Lp p.1.l (p.2.2.1-1,b.2.2.2.2.2.1.l)) (ye 0 m) ⟨rfl,rfl,rfl,rfl,rfl,gx,(λ_ z=>by cases z),rfl⟩ ?_ ?_
    ·intro y r;refine Xu λb1 b2 b3 b4 b5 P b7 b8=>?_;rintro _ ⟨R,S,T,U,e5,o⟩ K D;dsimp only at R S T U e5 o ⊢;subst e5;by_cases q:b7.l=[]
     ·rw[fF<|by simp[q]];exact D _ ⟨R,S,T,U,rfl,o⟩
     ·rw[fE<|by simp[q]];have:=List.length_pos_iff.mpr q;refine vL q0a q0a λt t0 t1=>?_;obtain⟨z,z1,_,z3⟩:=yH (l:=b7.l) t0 t1;have G:=Y z z3;have s1:=vI o.1<|o.sub q0a;have s2:=vI G.1<|G.sub q0a;rw[vO] at s1 s2;have s1:P.l.length<=35:=s1;have s2:z.length<=35:=s2;refine⟨z,z1,Qc o.1 G.1 (o.sub q0a)<|G.sub q0a,D _ ⟨R,S,T,U,rfl,?_⟩⟩;show Lp p.1.l (p.2.2.1-1,jn P.l z);have nn:∀c,(∃e,rowAt p.1.l c=some (p.2.2.1-1,e))->(eb p.1.l c).Nodup:=λc ⟨e,he⟩=>by rw[yN he];exact uj (v.V5 he).1
      refine⟨FA o.1 G.1,λc Q=>?_,?_⟩
      ·rcases Fz.mp Q with⟨w,_⟩|⟨w,_⟩
       ·exact o.2.1 c w
       ·exact G.2.1 c w
      ·show vd (eb p.1.l) (jn P.l z)=[];rw[Uh o.1 G.1,KU o.1 G.1 (λc Q=>nn c<|o.2.1 c Q)<|λc Q=>nn c<|G.2.1 c Q,show vd (eb p.1.l) P.l=[] from o.2.2,show vd (eb p.1.l) z=[] from G.2.2];rfl
    ·refine Xu λb1 b2 b3 b4 b5 P b7 b8=>?_;rintro⟨R,S,T,U,e5,o⟩;dsimp only at R S T U e5 o ⊢;subst R S T U
     have va:Vr (p.1.l++[some (p.2.2.1,P.l)]):=Gm v q0a λr e z=>by
      cases z;exact⟨r0,r1,o.1,o.2.1,o.2.2⟩
     by_cases q:P.l=[]
     ·rw[fE<|decide_eq_true q];refine⟨AX q0a,Z P.l [(p.2.2.1,[(p.1.l.length:Int)])] va (λu O=>?_) q0o⟩;rcases List.mem_append.mp O with z|z
      ·exact DN<|X u z
      ·rw[List.mem_singleton.mp z,q];exact P5
     ·rw[fF<|by simpa using q];have:=Z P.l [] va (λu O=>DN<|X u<|by simpa using O) q0o;rw[jR] at this;exact this
  ·rw[fF<|by simpa using hx];refine⟨(show p.1.l.length<1000 by lia),uZ (by have:=zM p.1.l;show (DL p.1.l).length<=1000;lia),vJ (q:=λk=>decide ((rowAt p.1.l k).map (·.1)=some p.2.2.1)) (λk ab K D=>?_) ?_⟩
   ·obtain⟨y,Y⟩:=Option.isSome_iff_exists.mp<|CI.mp ab;refine⟨_,(uv Y).2.2.2,y,rfl,?_⟩;rw[Y] at D;show if decide (y.1=p.2.2.1)=true then _ else _;by_cases z:y.1=p.2.2.1
    ·rw[fE<|by simp[z]] at D ⊢;exact D
    ·rw[fF<|by simpa using z] at D ⊢;exact D
   ·have hs:=gD (λk=>decide ((rowAt p.1.l k).map (·.1)=some p.2.2.1))<|DL p.1.l;have af:=zM p.1.l;refine⟨(show ((DL p.1.l).filter _).length<60 by lia),λl l1 l2=>?_⟩
    have hl:∀c∈l,∃e,rowAt p.1.l c=some (p.2.2.1,e):=λc Q=>by
     have:=(List.mem_filter.mp<|l2 c Q).2
     cases e:rowAt p.1.l c with
     | none=>rw[e] at this;simp at this
     | some y =>
      rw[e] at this;have this:y.1=p.2.2.1:=by simpa using this
      exact⟨y.2,by rw[<- this]⟩
    obtain⟨c1,c2,c3⟩:=MM v l1 hl;have ll:l.length<=((DL p.1.l).filter λk=>decide ((rowAt p.1.l k).map (·.1)=some p.2.2.1)).length:=vI l1 l2;refine⟨uZ (show l.length+1<=1000 by lia),AX q0a,v,λc Q=>?_,?_⟩
    ·obtain⟨e,he⟩:=hl c Q;show (rowAt p.1.l c).isSome=true;rw[he];rfl
    ·refine Z _ [(p.2.2.1,l++[(p.1.l.length:Int)])] (Gm v q0a λr e z=>?_) (λu O=>?_) q0o
     ·cases z;exact⟨r0,r1,wv _ _,c1,c2⟩
     ·rcases List.mem_append.mp O with z|z
      ·exact DN<|X u z
      ·rw[List.mem_singleton.mp z];exact c3
abbrev JZ:gy:=top 38
abbrev J0:List Str:=["_law_bag_here","_law_most"]
theorem yI:ug ["_law_bag_here","_law_most","_law_rows_here","_law_k","_law_loops","_law_rank_here"] J0 (tY JZ):=by walk_at "sc"
theorem Qr:(["_law_k"]:List Str).Nodup:=by decide +kernel
abbrev Wb(q:Cq)(k:Nat):=xj q "_law_rows" J0 P2 k
theorem Tq(F:FF q "_law_rows" JZ f fd)(o:xj q "_law_pull" ["_law_bag_here","_law_many"] xF 4)(I:To q 4)(M:V8 q 4)(D:MQ q 4)(B:Bn q.mg):Gq q 5 f fd J0 P2:=by
 refine' ui (v8 (D':=Unit) (ms:=[0]) (j:=4) F yI rfl rfl λaa A Y s H E P =>
   (ul (um 2 yI.nd rfl (gc rfl) q0q (ur (α:=(Option (Int×(List Int)))) uq))
   (ul (uV (tw_cm zY (uo (uy o P rfl uh (uJ (i:=0) (pv 0) (ud t9 t6)))) t9 (uA _))
   (t7<|um 2 yI.nd rfl (gc rfl) q0q<|uy I P rfl uh<|ud (uo<|uy o P rfl uh<|uJ (i:=0) (pv 0)<|ud t9 t6) t6)
   uK)
   (ul (zI (Ts:=["_law_k"]) (Fr:=[]) (idx:=[]) (k:=1) (mb:=[]) (is:=[]) (cl:=[]) 4 yI.nd rfl rfl rfl q0q rfl (wG rfl B.range (xC rfl B.len (vy 2 (pv 2)))) ⟨rfl,rfl,q0s,q0s,(λx c h=>by
    cases h),(fc (λz=>by cases z) (fc (λz=>by cases z) zQ)),
    (λj x h=>by cases h),rfl⟩ rfl (v9 rfl) (λN O C ex pn=>(uz 0 (uk (i:=0) Qr rfl (gc rfl)) q0q)) (λN O C ex pn=>(tws_one (tw_cm Ob (kf 0 (pv 0)) t9 (uA _)))) (λN O C ex pn=>(vN t9 (uM (ur (uc (kf 0 (pv 0)) uq))))))
   (ul (uV (tw_cm Ua (xC rfl B.len (vy 2 (pv 2))) t9 (uA _))
   (t7<|um 4 yI.nd rfl (gc rfl) q0q<|Bv (vy 4<|pv 4)<|vD<|uM<|ur<|uc (vN t9<|uM<|ur<|uc t9<|uc t9<|uc t9 uq)<|uc (vN t9<|uM<|ur<|uc t9<|uc t9<|uc t9 uq)<|uc (vN t9<|uM<|ur<|uc t9<|uc t9<|uc t9 uq) uq)
   uK)
   (ul (vY (is:=[]) (mb:=[0]) (D1:=Bg×Int×(OL (Option (Int×(List Int))))×Int×(OL (Int×(List Int)))×Un×Unit) (D2:=Bg×Int×(OL (Option (Int×(List Int))))×Int×(OL (Int×(List Int)))×Un×Unit) (uG q0q) x9 rfl (wG rfl B.range (uo (uy o P rfl uh (uJ (i:=0) (pv 0) (ud (AF Ad (kf 1 (pv 1)) t9) t6))))) (uz 3 (uk (i:=3) yI.nd rfl (gc rfl)) q0q)
   (t7 (uV (tw_cm zY (uo (uy o P rfl uh (uJ (i:=0) (pv 0) (ud t9 t6)))) t9 (uA _))
   (t7<|vz 2 (pv 2) RC<|λh=>vF<|yL gv gL gM vw (pv 2) h)
   (KD (D':=Bg×Int×(OL (Option (Int×(List Int))))×Int×(OL (Int×(List Int)))×Un×Unit) (ul (um 5 yI.nd rfl (gc rfl) q0q (uy M P rfl uh (uJ (i:=0) (pv 0) t6)))
   (t7 (vz 2 (pv 2) (yy (vN (kf 5 (pv 5)) (uM (uy D P rfl uh (uJ (i:=2) (pv 2) (uJ (i:=4) (pv 4) (ud (kf 5 (pv 5)) (uJ (i:=0) (pv 0) t6)))))))) (λh=>vF (yL gv gL gM vw (pv 2) h)))))))) q0q q0q)
   (t7 (xM 2 (pv 2))))))))) λp X J h=>?_
 walk_at "wl"
 obtain⟨hm,hk⟩:=h
 have U:∀(a:List RW) (w:List (Int×List Int)) (n:Int),n<=20->Vr a->a.length<=15->(∀u∈w,Lp a u)->w.length<=20 ->
   Fv (λ(x:Int) (b:Bg×Int×OL RW×WL.Un×OL (Int×List Int)×WL.Un×Unit) L (Kr:OL RW->Bg×WL.Un×Unit->Prop) J =>
    xF (b.1,9,()) (λx d=>if decide (x=8)=true then b.2.2.1.l.length<fK/\L (d.1,b.2.1,⟨b.2.2.1.l++[none]⟩,⟨⟩,b.2.2.2.2.1,b.2.2.2.2.2.1,b.2.2.2.2.2.2) else
     Gj (d.1,()) (λx d=>zL (b.2.2.1,b.2.2.2.2.1,x,d.1,()) (λQ d=>d.1.l.length<fK/\L (d.2.2.2.1,b.2.1,⟨d.1.l++[some (x,Q.l)]⟩,⟨⟩,d.2.1,⟨⟩,b.2.2.2.2.2.2)) λC d=>J C (d.2.2.2.1,⟨⟩,())) λC d=>J C (d.1,⟨⟩,())) λC d=>J C (d.1,⟨⟩,()))
   (ye 0 n) (⟨⟩,p.2.1,⟨a⟩,⟨⟩,⟨w⟩,⟨⟩,p.2.2) (λV=>X V.2.2.1 (V.1,⟨⟩,())) X J:=by
  intro a w n hn v hl Z ab;refine uW (λ(r:List Int) (b:Bg×Int×OL RW×WL.Un×OL (Int×List Int)×WL.Un×Unit)=>Vr b.2.2.1.l/\(∀u∈b.2.2.2.2.1.l,Lp b.2.2.1.l u)/\b.2.2.1.l.length+r.length<=35/\b.2.2.2.2.1.l.length+r.length<=100) (ye 0 n) ⟨v,Z,(by rw[vO];show a.length+_<=35;lia),(by rw[vO];show w.length+_<=100;lia)⟩ ?_ ?_
  ·rintro y r b _ ⟨T,g2,g3,g4⟩ K G;rw[gk] at g3 g4;refine vL q0q q0q λs s0 s1=>?_;dsimp only;by_cases q:s=8
   ·rw[fE<|decide_eq_true q];refine⟨AX q0a,G _ ⟨Gm T q0a (λr e z=>by cases z),λu R=>DN<|g2 u R,?_,?_⟩⟩
    ·show (b.2.2.1.l++[none]).length+r.length<=35;rw[fV,gh]
     lia
    ·show b.2.2.2.2.1.l.length+r.length<=100
     lia
   ·rw[fF<|by simpa using q];intro t t0 t1;refine⟨T,(show b.2.2.1.l.length<=34 by lia),(show b.2.2.2.2.1.l.length<=100 by lia),g2,t0,t1,λe u v1 v2 v3=>⟨AX (show b.2.2.1.l.length<1000 by lia),G _ ⟨v1,v2,?_,?_⟩⟩⟩
    ·show (b.2.2.1.l++[some (t,e)]).length+r.length<=35;rw[fV,gh]
     lia
    ·show (b.2.2.2.2.1.l++u).length+r.length<=100;rw[fV]
     lia
  ·rintro b ⟨T,_,g3,_⟩;exact hk _ T q0a
 have S:∀(a:List RW) (W:List (Int×List Int)),Vr a->a.length<=15->(∀u∈W,Lp a u)->W.length<=20->∀g:Bg,xF (g,p.2.1+1,()) (λx d=>(-2 ^ 62<=x/\x<2 ^ 62)/\Fv (λ(x:Int) (b:Bg×Int×OL RW×WL.Un×OL (Int×List Int)×WL.Un×Unit) L (Kr:OL RW->Bg×WL.Un×Unit->Prop) J =>
    xF (b.1,9,()) (λx d=>if decide (x=8)=true then b.2.2.1.l.length<fK/\L (d.1,b.2.1,⟨b.2.2.1.l++[none]⟩,⟨⟩,b.2.2.2.2.1,b.2.2.2.2.2.1,b.2.2.2.2.2.2) else
     Gj (d.1,()) (λx d=>zL (b.2.2.1,b.2.2.2.2.1,x,d.1,()) (λQ d=>d.1.l.length<fK/\L (d.2.2.2.1,b.2.1,⟨d.1.l++[some (x,Q.l)]⟩,⟨⟩,d.2.1,⟨⟩,b.2.2.2.2.2.2)) λC d=>J C (d.2.2.2.1,⟨⟩,())) λC d=>J C (d.1,⟨⟩,())) λC d=>J C (d.1,⟨⟩,()))
   (ye 0 x) (d.1,p.2.1,⟨a⟩,⟨⟩,⟨W⟩,⟨⟩,p.2.2) (λV=>X V.2.2.1 (V.1,⟨⟩,())) X J) (λC d=>J C (d.1,⟨⟩,())):=by
  intro a W v l1 Z l2 g;exact vL q0a q0a λr g0 T=>⟨⟨q0a,q0a⟩,U a W r q0a v l1 Z l2⟩
 refine vL q0q q0q λx g0 T=>?_;dsimp only;by_cases hx:x=1
 ·rw[fE<|decide_eq_true hx];refine vL q0q q0q λm m0 m1=>⟨m0,?_⟩;dsimp only;have c:=List.all_eq_true.mp S7 m.toNat<|List.mem_range.mpr q0a;unfold chk at c;simp only[gK,Bool.or_eq_true,gS] at c;obtain⟨⟨⟨⟨c1,c2⟩,c3⟩,c4⟩,c5⟩:=c;have v:=Qb c1;refine⟨⟨q0a,q0a⟩,(by rw[vO];exact uZ q0a),vk (f:=λk:Int=>if decide (k<4)=true then some (0,[k]) else none) (λk _ K G=>?_) ?_⟩
  ·show if decide (k<4)=true then K (some (0,[k])) _ else K none _;by_cases z:decide (k<4)=true
   ·rw[fE z] at G ⊢;exact G
   ·rw[fF z] at G ⊢;exact G
  ·have l0:∀u∈Wr (A9.take m.toNat).length,Lp (A9.take m.toNat) u:=λu R=>Qa<|List.all_eq_true.mp c2 u R;by_cases h9:9<((A9.take m.toNat).length:Int)
   ·rw[fE<|decide_eq_true h9];have c5:lp1.all (Yd<|A9.take m.toNat)=true:=c5.elim (λz=>fY z q0a) id;refine⟨uZ (show (Wr (A9.take m.toNat).length).length+3<=1000 by lia),S _ (Wr (A9.take m.toNat).length++lp1) v c4 (λu R=>?_) ?_ _⟩
    ·rcases List.mem_append.mp R with z|z
     ·exact l0 u z
     ·exact Qa<|List.all_eq_true.mp c5 u z
    ·rw[fV];show _+3<=20
     lia
   ·rw[fF<|by simpa using h9];exact S _ (Wr (A9.take m.toNat).length) v c4 l0 q0a _
 ·rw[fF<|by simpa using hx];refine⟨⟨q0q,q0q⟩,uZ q0q,vk (f:=λk:Int=>if decide (k<4)=true then some (0,[k]) else none) (λk _ K G=>?_) ?_⟩
  ·show if decide (k<4)=true then K (some (0,[k])) _ else K none _;by_cases z:decide (k<4)=true
   ·rw[fE z] at G ⊢;exact G
   ·rw[fF z] at G ⊢;exact G
  ·exact S [] [] (Qb rfl) q0q (λu R=>by cases R) q0q _
abbrev J1:gy:=top 39
abbrev J2:List Str:=["_law_body","_law_rows_here"]
theorem Gv:ug ["_law_body","_law_rows_here","_law_number","_law_row_here"] J2 (tY J1):=by walk_at "sc"
abbrev Wc(q:Cq)(C:ci)(k:Nat):=xj q "_law_fill" J2 (P4 C) k
set_option tactic.hygienic true in
theorem Tr(F:FF q "_law_fill" J1 f W)(D:BB q.K C)(a:Ya q C XB XS XC XO XP 8)(g:SQ q C XC XV 8)(B:Bn q.mg):Gq q 9 f W J2 (P4 C):=by
 refine' ui (v8 (D':=Unit) (ms:=[]) (j:=2) F Gv rfl rfl λX A G s H E I =>
   (ul (vY (is:=[]) (mb:=[]) (D1:=(Bd C true)×(List (Option (Int×(List Int))))×Int×(Option (Int×(List Int)))×Unit) (D2:=(Bd C true)×(List (Option (Int×(List Int))))×Int×(Option (Int×(List Int)))×Unit) (uG q0q) x9 rfl (R6 rfl B.enumerate (kf 1 (pv 1))) (Cv 2 3 (CO rfl (vT (uk (i:=2) Gv.nd rfl (gc rfl)) (vT (uk (i:=3) Gv.nd rfl (gc rfl)) Aq))) q0q q0q)
   (t7 (uV (tw_cm Vs (kf 3 (pv 3)) IV (uA _))
   (ul (uY (uo (vA 0 a I D.cl uh (pv 0) (ud t9 (ud (uM (ur (α:=Int) uq)) t6)))))
   (t7 (uY (uo (vA 0 g I D.cl uh (pv 0) (ud (kf 2 (pv 2)) t6))))))
   (t7 (uY (uo (vA 0 a I D.cl uh (pv 0) (ud (IZ (yM (kf 3 (pv 3)))) (ud (uM (Fi rfl B.list (vD (Bu (yM (kf 3 (pv 3))))))) t6)))))))) q0q q0q)
   (t7 (xM 0 (pv 0))))) λp Kn Ke h=>?_
 walk_at "wl"
 obtain⟨Y,v,Z⟩:=h;refine uW (λ(r:List (Int×RW)) (b:B0 C×List RW×WL.Un×WL.Un×Unit)=>∃k,r=Mo k (p.2.1.drop k)/\k<=p.2.1.length/\xT b.1 (p.2.1.take k)/\b.1.ht=[]/\b.1.th=[]) (Mo 0 p.2.1) ⟨0,rfl,g9 _,?_⟩ ?_ ?_
 ·show xT p.1 []/\p.1.ht=[]/\p.1.th=[];rw[Y];exact⟨S9,rfl,rfl⟩
 ·rintro x r b _ ⟨k,e,P,c,m,n⟩ K hK
  have l:k<p.2.1.length:=by
   rcases Nat.lt_or_ge k p.2.1.length with z|z
   ·exact z
   ·rw[List.drop_of_length_le z] at e;cases e
  rw[mC l] at e;have e1:x=((k:Int),p.2.1[k]):=by cases e;rfl
  have e2:r=Mo (k+1) (p.2.1.drop<|k+1):=by cases e;rfl
  have tk:p.2.1.take (k+1)=p.2.1.take k++[p.2.1[k]]:=(List.take_append_getElem l).symm;have J:(p.2.1.take k).length=k:=List.length_take_of_le P;have L:=S6 v k;have next:∀o:B0 C,xT o (p.2.1.take k++[p.2.1[k]])->o.ht=[]->o.th=[]->K (o,b.2.1,⟨⟩,⟨⟩,b.2.2.2.2):=λo h m1 m2=>hK _ ⟨k+1,e2,l,by rw[tk];exact h,m1,m2⟩
  have Q:rowAt p.2.1 (k:Int)=p.2.1[k]:=DM q0a (by rw[i9];exact iz l);have ln:=v.ln;subst e1;dsimp only
  cases z:p.2.1[k] with
  | none =>
   rw[fE<|show (none:RW).isNone=true from rfl];rw[z] at next
   refine P9 c L (mQ 0) q0q gx (λ_ q=>by cases q) rfl λR M u w=>?_;have S:Vr (p.2.1.take k++[some (0,[])]):=Ye L q0a;refine SY M S (by have:=u4 (rows:=p.2.1.take k) (z:=some (0,[]));rw[J] at this;rw[this];rfl) (λh t=>?_) (by unfold w8;rw[u,w,m,n];rfl) λx2 T g3 g4=>next x2 ?_ (g3.trans<|u.trans m)<|g4.trans<|w.trans n
   ·cases q:rowAt (p.2.1.take k++[some (0,[])]) h with
    | none=>unfold eb at t;rw[q] at t;cases t
    | some y =>
     rw[yN q] at t;have U:=((S.ok h y.1 y.2 q).2.2.2.1 _ t).1;have N:=(uv q).2.1;rw[fV,gh,J] at N
     lia
   ·rw[i9,List.set_append_right _ _ q0a,J,pG] at T;exact T
  | some y =>
   rw[fF q0o];rw[z] at next Q
   obtain⟨U,N,a3,V,a5⟩:=v.ok k y.1 y.2 Q;refine⟨y,rfl,y,rfl,P9 c L U N a3 (λd O=>?_) ?_ λR M u w=>next R M (u.trans m)<|w.trans n⟩
   ·obtain⟨q1,e',q2⟩:=V d O;exact⟨e',by rw[wO,fE q1];exact q2⟩
   ·rw[<- a5];refine wm λd O=>?_;unfold eb;rw[wO,fE (V d O).1]
 ·rintro b ⟨k,e,P,c,m,n⟩
  have:k=p.2.1.length:=by
   rcases Nat.lt_or_ge k p.2.1.length with z|z
   ·rw[mC z] at e;cases e
   ·lia
  rw[this,tV] at c;exact Z _ c m n
abbrev J3:gy:=top 40
abbrev J4:List Str:=["_law_field","_law_rows_here","_law_bag_here","_law_tries"]
theorem xR:ug ["_law_field","_law_rows_here","_law_bag_here","_law_tries","_law_arrows","_law_k","_law_highs","_law_gone","_law_high","_law_low"] J4 (tY J3):=by walk_at "sc"
theorem Qs:(["_law_k","_law_rows_here"]:List Str).Nodup:=by decide +kernel
abbrev Wd(q:Cq)(C:ci)(k:Nat):=xj q "_law_ties" J4 (Qd C) k
theorem Tt(F:FF q "_law_ties" J3 f fd)(ct:BB q.K C)(o:Qj q 6)(d:xj q "_law_pull" ["_law_bag_here","_law_many"] xF 6)(g:SN q C XC XN 6)(L:Yc q C XC XF XT XR 6)(a:X4 q XT XR "Tied" "RingOfArrows")(B:Bn q.mg):Gq q 7 f fd J4 (Qd C):=by
 refine' ui (v8 (D':=Unit) (ms:=[0,2]) (j:=6) F xR rfl rfl λae A S s H E m =>
   (ul (um 4 xR.nd rfl (gc rfl) q0q (ur (α:=(Int×Int)) uq))
   (ul (zI (Ts:=["_law_k"]) (Fr:=["_law_rows_here"]) (idx:=[1]) (k:=1) (mb:=[1]) (is:=[]) (cl:=[("_law_rows_here",s.heap.objs.size+1)]) 6 xR.nd rfl rfl rfl q0q rfl (vH (uM (uy o m rfl uh (ud (kf 1 (pv 1)) t6)))) ⟨rfl,rfl,q0s,q0s,(λx c h=>by
    rcases KL h with⟨rfl,rfl⟩|h
    ·rfl
    cases h),(fc (λz=>by cases z) (fc (λz=>by cases z) (fc (λ_=>⟨_,rfl⟩) zQ))),
    (λj x h=>by
    match j,h with
    | 0,h=>cases h;exact⟨1,_,rfl,rfl,.inl rfl,rfl,.inl rfl⟩
    | n+1,h=>cases h),rfl⟩ rfl (v9 rfl) (λu I C ex pn=>(uz 0 (uk (i:=0) Qs rfl (gc rfl)) q0q)) (λu I C ex pn=>(tws_one (tw_cmL (Fp m.units) (vD (Bu (yM (yb (vD (kf 1 (pv 1))) (kf 0 (pv 0)))))) (vD (uM (ur (α:=Int) uq))) (uA _)))) (λu I C ex pn=>(kf 0 (pv 0))))
   (ul (vY (is:=[]) (mb:=[0,2]) (D1:=(Bd C true)×(List (Option (Int×(List Int))))×Bg×Int×(OL (Int×Int))×Int×(OL Int)×Un×Un×Un×Unit) (D2:=(Bd C true)×(List (Option (Int×(List Int))))×Bg×Int×(OL (Int×Int))×Int×(OL Int)×Un×Un×Un×Unit) (uG q0q) x9 rfl (wG rfl B.range (kf 3 (pv 3))) (uz 5 (uk (i:=5) xR.nd rfl (gc rfl)) q0q)
   (t7 (uV (tw_w (Ja (tw_cmL (Fp m.units) (vy 4 (pv 4)) (vD (uM (ur (α:=(Int×Int)) uq))) (uA _)) (Fq (tw_cm zY (uo (uy d m rfl uh (uJ (i:=2) (pv 2) (ud t9 t6)))) t9 (uA _)))))
   (KD (D':=(Bd C true)×(List (Option (Int×(List Int))))×Bg×Int×(OL (Int×Int))×Int×(OL Int)×Un×Un×Un×Unit) (ul (um 7 xR.nd rfl (gc rfl) q0q (uU (Mz 4 (pv 4) (uo (uy d m rfl uh (uJ (i:=2) (pv 2) (ud (xC rfl B.len (vy 4 (pv 4))) t6)))) (λh=>yL gv nj nq Nv (pv 4) h))))
   (t7 (uY (uo (vA 0 g m ct.cl uh (pv 0) (ud (IZ (kf 7 (pv 7))) t6)))))))
   (t7 (uV (tw_cmL (Fp m.units) (vy 6 (pv 6)) (vD (uM (ur (α:=Int) uq))) (uA _))
   (KD (D':=(Bd C true)×(List (Option (Int×(List Int))))×Bg×Int×(OL (Int×Int))×Int×(OL Int)×Un×Un×Un×Unit) (ul (um 8 xR.nd rfl (gc rfl) q0q (uU (yb (vy 6 (pv 6)) (uo (uy d m rfl uh (uJ (i:=2) (pv 2) (ud (xC rfl B.len (vy 6 (pv 6))) t6)))))))
   (ul (um 9 xR.nd rfl (gc rfl) q0q (uU (yb (vD (Bu (yM (yb (vD (kf 1 (pv 1))) (kf 8 (pv 8)))))) (uo (uy d m rfl uh (uJ (i:=2) (pv 2) (ud (xC rfl B.len (vD (Bu (yM (yb (vD (kf 1 (pv 1))) (kf 8 (pv 8))))))) t6)))))))
   (ul (Sn rfl (VM rfl a.m1 rfl a.m2 a.x1 a.x2) (X3 0 L m ct.cl (λE1 Φ T=>(pv 0)) (λE1 Φ T=>(ud (kf 9 (pv 9)) (ud (kf 8 (pv 8)) t6)))) (λx' =>
   (t7 (um 8 xR.nd rfl (gc rfl) q0q (uU (VE t9))))))
   (t7 (uV (tw_cm Ub (kf 8 (pv 8)) t9 (uA _))
   (t7<|vz 4 (pv 4) (vN (kf 9<|pv 9)<|kf 8<|pv 8)<|λh=>vF<|yL gv gL gM vw (pv 4) h)
   uK))))))
   uK)))) q0q q0q)
   (t7 (uD (Ju rfl B.sorted (vy 4 (pv 4))))))))) λp Kn Ke h=>?_
 walk_at "wl"
 obtain⟨c0,v,U,n1,n2,tr,h⟩:=h;have sl:fK=16777216:=hX;refine⟨by show p.2.1.length<1000;lia,by show (DL p.2.1).length<=fK;have:=zM p.2.1;lia,?_⟩;refine vJ (q:=λk=>!decide (eb p.2.1 k=[])) (λk hk K M=>?_) ?_
 ·obtain⟨y,t⟩:=Option.isSome_iff_exists.mp<|CI.mp hk;refine⟨_,(uv t).2.2.2,y,rfl,?_⟩;rw[yN t] at M;exact M
 dsimp only;refine⟨q0a,?_⟩;refine uW (λ(_:List Int) (b:B0 C×List RW×Bg×Int×OL (Int×Int)×WL.Un×OL Int×WL.Un×WL.Un×WL.Un×Unit)=>b.2.1=p.2.1/\b.2.2.2.2.2.2.1.l=(DL p.2.1).filter (λk=>!decide (eb p.2.1 k=[]))/\xT b.1 p.2.1/\Arr b.1 b.2.2.2.2.1.l) _ ⟨rfl,rfl,c0,Tb (c0.okb v) n1 n2⟩ ?_ ?_
 ·intro k r;refine Uf λO b2 b3 b4 N b6 P b8 b9 V W=>?_;rintro _ ⟨rfl,J,c,A⟩ K M;dsimp only at J c A ⊢;have al:=A.Ta c U;refine' Ws (G:=_) (λel=>?_) ?_
  rotate_left
  ·by_cases X:N.l=[]
   ·rw[fF (by simp[X]),fF fT];exact el
   ·rw[fE<|by simp[X]];refine vL q0q q0q λz z0 z1=>?_;by_cases e8:z=8
    ·rw[fE<|decide_eq_true e8];have p5:0<N.l.length:=List.length_pos_iff.mpr X;refine vL q0a q0a λi Q Y=>?_;obtain⟨y,a1,Z,R⟩:=yH Q Y;exact⟨Q,y,Z,q0a,Qf A c Z λw x' c' A'=>M _ ⟨rfl,J,c',A'⟩⟩
    ·rw[fF<|by simpa using e8];exact el
  ·by_cases q:P.l=[]
   ·rw[fF<|by simp[q]];exact M _ ⟨rfl,J,c,A⟩
   ·rw[fE<|by simp[q]];have l7:P.l.length<=35:=by rw[J];have:=gD (λk=>!decide (eb p.2.1 k=[]))<|DL p.2.1;have:=zM p.2.1;lia
    have p7:0<P.l.length:=List.length_pos_iff.mpr q;refine vL q0a q0a λi Q Y=>?_;obtain⟨hg,a1,Z,R⟩:=yH Q Y;rw[J,iv] at R;obtain⟨y,t⟩:=Option.isSome_iff_exists.mp<|CI.mp R.1;have yn:y.2≠[]:=λz=>by have:=R.2;rw[yN t,z] at this;simp at this
    have yl:y.2.length<=95:=by exact Qe v t
    have py:0<y.2.length:=List.length_pos_iff.mpr yn;refine⟨hg,a1,_,(uv t).2.2.2,y,rfl,_,(uv t).2.2.2,y,rfl,vL q0a q0a λi' aa ab=>?_⟩;obtain⟨lo,l1,l2,l3⟩:=yH aa ab;refine⟨lo,l1,V7 A c v U t l3 (λD hD=>⟨hD,?_⟩) λx' c' A'=>?_⟩
    ·rw[fF<|λz=>fY (jC z) q0a];exact M _ ⟨rfl,J,c,A⟩
    ·rw[fE<|decide_eq_true (uv t).1];exact⟨by show N.l.length<fK;lia,M _ ⟨rfl,J,c',A'⟩⟩
 ·refine Uf λO b2 b3 b4 N b6 P b8 b9 V W=>?_;rintro⟨rfl,J,c,A⟩;have c:xT O p.2.1:=c;have A:Arr O N.l:=A;have al:=A.Ta c U;refine⟨by show N.l.length<64;lia,λps hp _=>h O ps c ⟨A.ok,A.nt,(hp.map _).trans A.pm,λe he=>A.hd e<|hp.mem_iff.mp he⟩⟩
abbrev Gw:gy:=top 41
abbrev Gx:List Str:=["_law_bag_here","_law_most"]
theorem A7:ug ["_law_bag_here","_law_most","_law_rows_here","_law_field","_law_arrows"] Gx (tY Gw):=by walk_at "sc"
abbrev Tu(q:Cq)(C:ci)(k:Nat):=xj q "_law_house" Gx (Lw C) k
theorem Qt(F:FF q "_law_house" Gw f I)(e:Mk q.K C g)(k:uE q.P q.w q.K q.mg q.base (uP q.P q.w) 8 g b ["self"] (CC C))(l:Binds q.K b ["self"] [])(d:q.mg "Field"=some (.ref C))(m:Wb q 9)(o:Wc q C 9)(r:Wd q C 9)(t:xj q "_law_pull" ["_law_bag_here","_law_many"] xF 9)(B:Bn q.mg):Gq q 10 f I Gx (Lw C):=by
 refine' ui (v8 (D':=Unit) (ms:=[0]) (j:=3) F A7 rfl rfl λJ A D s H E y =>
   (ul (um 2 A7.nd rfl (gc rfl) q0q (uy m y rfl uh (uJ (i:=0) (pv 0) (ud (kf 1 (pv 1)) t6))))
   (ul (um 3 A7.nd rfl (gc rfl) q0q (uy o y rfl uh (RJ (OS e k y rfl d l uh) (vc (i:=2) (pv 2) t6))))
   (ul (um 4 A7.nd rfl (gc rfl) q0q (uy r y rfl uh (uJ (i:=3) (pv 3) (vc (i:=2) (pv 2) (uJ (i:=0) (pv 0) (ud (uo (uy t y rfl uh (uJ (i:=0) (pv 0) (ud (AF Ad (N6 Ae t9 (xC rfl B.len (vy 2 (pv 2)))) t9) t6)))) t6))))))
   (t7 (Sh 3 2 4 (pv 3) (pv 2) (pv 4))))))) λp R S h=>?_
 walk_at "wl"
 obtain⟨L,h⟩:=h;refine⟨L,λu v G=>?_⟩;refine⟨rfl,v,λx c M N=>?_⟩;dsimp only;refine⟨.inl q0q,vL (n:=2*(u.length:Int)+1) q0a q0a λz T U=>?_⟩;exact⟨c,v,G,M,N,by show 0<=z/\z<=1000;lia,λO a Q A=>h O u a Q v G A⟩
abbrev Gy:gy:=top 42
abbrev Gz:List Str:=["_law_arrows"]
theorem Qu:ug ["_law_arrows"] Gz (tY Gy):=by walk_at "sc"
theorem EL:(["_law_low","_law_high"]:List Str).Nodup:=by decide +kernel
abbrev Tv(q:Cq)(k:Nat):=xj q "_law_heads" Gz Lx k
theorem Qv(F:FF q "_law_heads" Gy f m)(B:Bn q.mg):Gq q 2 f m Gz Lx:=by
 refine' ui (v8 (D':=Unit) (ms:=[]) (j:=0) F Qu rfl rfl λn A d s H E t =>
   (t7 (uD (Bx rfl B.sorted (vD (uM (wS (Ts:=["_law_low","_law_high"]) (Fr:=[]) (idx:=[]) (k:=2) (mb:=[]) (is:=[]) (cl:=[]) rfl (vH (kf 0 (pv 0))) ⟨rfl,rfl,q0s,q0s,(λx c h=>by
    cases h),(fc (λz=>by cases z) (fc (λz=>by cases z) (fc (λz=>by cases z) zQ))),
    (λj x h=>by cases h),rfl⟩ rfl (v9 rfl) (λa b C g l=>(Cv 0 1 (CO rfl (vT (uk (i:=0) EL rfl (gc rfl)) (vT (uk (i:=1) EL rfl (gc rfl)) Aq))) q0q q0q)) (λa b C g l=>tws_nil) (λa b C g l=>(kf 1 (pv 1)))))))))) λp u v h=>?_
 walk_at "wl"
 obtain⟨o,h⟩:=h;have w:fK=16777216:=hX;refine⟨q0a,?_⟩;refine vk (f:=λ(e:Int×Int)=>some e.2) (λe y K r=>r) ?_;rw[rr];exact⟨by rw[fN];exact o,h⟩
end
abbrev Qw:gy:=top 29
theorem We{K:fB}{p:VI K×Unit}{a:Bg->WL.Un×Unit->Prop}{b:ci->WL.Un×Unit->Prop}(k:a ⟨⟩ (⟨⟩,())):OJ K p a b:=k
section
variable{C:ci}{x:B0 C}{rows:List RW}{a:List (Int×Int)}
theorem Arr.head(A:Arr x a){h:Int}(c:h∈a.map (·.2)):∃t∈vo x,vB x t=h:=by obtain⟨e,b,rfl⟩:=List.mem_map.mp c;exact⟨e.1,A.mem b,A.hd e b⟩
theorem Arr.row(A:Arr x a)(c:xT x rows){h:Int}(b:h∈a.map (·.2)):∃y,rowAt rows h=some y:=by obtain⟨t,d,e⟩:=A.head b;have:=A.ok.Ib d;rw[e,c.rk,hI] at this;exact Option.isSome_iff_exists.mp this
theorem J5(A:Arr x a)(d:wA T)(f:∀h∈T,h∈a.map (·.2))(b:Ord x o):Am (o.foldl (BI x) (vd (v7 x) T,[])).2=T:=by
 have p:=PU A.ok (q:=o) (T:=T) (acc:=[]) (b.pm.nodup_iff.mpr A.ok.nd) (λt c=>b.pm.mem_iff.mp c) b.up d λh g=>by obtain⟨t,c,e⟩:=A.head<|f h g;exact⟨t,b.pm.mem_iff.mpr c,e⟩
 rw[lP] at p;exact(Bw p.symm<|Ht d).symm
theorem EM(A:Arr x a)(c:xT x rows)(v:Vr rows)(n:wA T)(i:∀h∈T,h∈a.map (·.2))(e:row=vd (K7.v7 x) T)(k:j ⟨T⟩ (x,⟨⟩,())):A6 C u w (x,row,()) j z:=by
 subst e
 have l:∀h∈T,(lk x.rk h).isSome=true:=λh b=>by obtain⟨t,p,e⟩:=A.head<|i h b;rw[<- e];exact A.ok.Ib p
 have f:∀d∈vd (K7.v7 x) T,∃h∈T,d∈K7.v7 x h:=λd g=>Du (λh b=>uj (A.ok.V3<|l h b).ri) g;refine⟨A.ok,⟨wv _ _,λd g=>?_⟩,?_⟩
 ·obtain⟨h,b,q⟩:=f d g;exact(A.ok.V3<|l h b).lt d q
 ·show if K7.vr x (vd (K7.v7 x) T)=true then (∀o,Ord x o->j ⟨Am (o.foldl (BI x) (vd (K7.v7 x) T,[])).2⟩ (x,⟨⟩,())) else _;rw[fE<|c.vr λd g=>?_]
  ·intro o r;rw[J5 A n i r];exact k
  ·obtain⟨h,b,q⟩:=f d g;obtain⟨y,m⟩:=A.row c<|i h b;rw[c.v7,yN m] at q;obtain⟨_,B,s⟩:=(v.ok h y.1 y.2 m).2.2.2.1 d q;rw[s];rfl
theorem MR(A:Arr x a)(c:xT x rows)(n:rows.length<=35)(l:wA T)(f:∀h∈T,h∈a.map (·.2))(k:j ⟨[]⟩ (x,⟨⟩,())):A6 C p q (x,T,()) j r:=by
 refine⟨A.ok,⟨l,λd b=>?_⟩,?_⟩
 ·obtain⟨y,g⟩:=A.row c<|f d b;have:=uv g;exact⟨this.1,by have:=this.2.1;lia⟩
 ·show if K7.vr x T=true then (∀o,Ord x o->j ⟨Am (o.foldl (BI x) (T,[])).2⟩ (x,⟨⟩,())) else _;rw[fE (c.vr λd b=>by obtain⟨y,g⟩:=A.row c<|f d b;rw[g];rfl)];intro o m;rw[EJ (λd b z=>?_) λt i=>m.pm.mem_iff.mp i]
  ·exact k
  ·obtain⟨t,i,e⟩:=A.head<|f d b;refine A.ok.one d (wJ z) ?_;rw[<- e,(A.ok.ht t _<|wd i).2.2.2];rfl
end
section
variable{q:Cq}{C XC XS XO XB XP XV VX XF XT XN XR:ci}
abbrev A8:gy:=top 46
theorem zy:ug ["_law_script","_law_bag_here","_law_field","_law_rows_here","_law_arrows","_law_heads_here","_law_head","_law_row_here"] ["_law_script"] (tY A8):=by walk_at "sc"
theorem Wg{f:ci}{R:gF}(F:FF q "law" A8 f R)(z:xj q "_law_bag" ["_law_script"] (OJ q.K) 10)(o:Tu q C 10)(t:Tv q 10)(m:Wa q 10)(e:PY q C XS XC 10)(u:Qk q 10)(w:Ql q 10)(B:Bn q.mg):Gq q 11 f R ["_law_script"] (Uj q.K):=by
 refine' ui (v8 (D':=Unit) (ms:=[]) (j:=7) F zy rfl rfl λX A O s H E n =>
   (ul (um 1 zy.nd rfl (gc rfl) q0q (uy z n rfl uh (ud (kf 0 (pv 0)) t6)))
   (ul (Si 2 3 4 (CO rfl (vT (uk (i:=2) zy.nd rfl (gc rfl)) (vT (uk (i:=3) zy.nd rfl (gc rfl)) (vT (uk (i:=4) zy.nd rfl (gc rfl)) Aq)))) q0q q0q q0q (uy o n rfl uh (uJ (i:=1) (pv 1) (ud t9 t6))))
   (ul (um 5 zy.nd rfl (gc rfl) q0q (uy t n rfl uh (vc (i:=4) (pv 4) t6)))
   (ul (vY (is:=[5]) (mb:=[5]) (D1:=(VI q.K)×Bg×(Bd C true)×(OL (Option (Int×(List Int))))×(OL (Int×Int))×Un×Int×Un×Unit) (D2:=(VI q.K)×Bg×(Bd C true)×(OL (Option (Int×(List Int))))×(OL (Int×Int))×Un×Int×Un×Unit) (uG q0q) x9 rfl (Ft 5 (pv 5) q0q) (uz 6 (uk (i:=6) zy.nd rfl (gc rfl)) q0q)
   (t7 (uV (tw_not (tw_val (uo (uy m n rfl uh (ud (uM (uy e n rfl uh (uJ (i:=2) (pv 2) (ud (uM (Fi rfl B.list (vD (Bu (yM (yb (vy 3 (pv 3)) (kf 6 (pv 6)))))))) t6)))) (ud (uM (ur (uc (kf 6 (pv 6)) uq))) t6))))))
   (t7<|uD<|uU KA)
   uK)) q0q q0q)
   (ul (um 7 zy.nd rfl (gc rfl) q0q (uy u n rfl uh (uJ (i:=1) (pv 1) (vc (i:=5) (pv 5) t6))))
   (t7 (uD (uU (Jb (uo (uy m n rfl uh (ud (uM (uy e n rfl uh (uJ (i:=2) (pv 2) (ud (uM (uy w n rfl uh (vc (i:=3) (pv 3) (vc (i:=7) (pv 7) t6)))) t6)))) (vc (i:=7) (pv 7) t6)))) (Cu (uo (uy m n rfl uh (ud (uM (uy e n rfl uh (uJ (i:=2) (pv 2) (vc (i:=7) (pv 7) t6)))) (ud (uM (ur (α:=Int) uq)) t6))))))))))))))) λp Y Ke h=>?_
 walk_at "wl"
 have h:Y true (⟨⟩,()):=h;refine We ?_;refine⟨⟨q0q,q0q⟩,λx G a c v S A=>?_⟩;dsimp only;have al:=A.Ta c S;refine⟨show a.length<64 by lia,?_⟩;dsimp only;have U:∀k∈Am (a.map (·.2)),k∈a.map (·.2):=λk I=>yB.mp I;refine uW (λ(r:List Int) (b:VI q.K×Bg×B0 C×OL RW×OL (Int×Int)×WL.Un×WL.Un×WL.Un×Unit)=>b.2.2.1=x/\b.2.2.2.1.l=G/\∀k∈r,k∈a.map (·.2)) _ ⟨rfl,rfl,U⟩ ?_ ?_
 ·intro k r;refine Jf λP Z N b4 b5 b6 b7 b8 b9=>?_;rintro _ ⟨J,D,n⟩ K hK;dsimp only at J D ⊢;subst J;have V:=n k fM;obtain⟨y,L⟩:=A.row c V;rw[D];refine⟨_,(uv L).2.2.2,y,rfl,?_⟩;refine EM (T:=[k]) A c v (iC _ _) (λj M=>by rw[List.mem_singleton.mp M];exact V) ?_ ?_
  ·have g:=A.ok.V3 (c:=k) (by rw[c.rk,L];rfl)
   have P:vd (v7 N) [k]=v7 N k:=AS (wv _ _) g.ri λd=>by rw[wu<|λj M=>by rw[List.mem_singleton.mp M];exact uj g.ri];show xor (decide<|d∈v7 N k) false=_;rw[mq]
   rw[P,c.v7,yN L]
  ·refine Gn rfl ?_;dsimp only;rw[fF q0q];exact hK _ ⟨rfl,D,λj M=>n j<|fP _ M⟩
 ·refine Jf λP Z N b4 b5 b6 b7 b8 b9=>?_;rintro⟨J,D,_⟩;dsimp only at J D ⊢;subst J;have sn:(Am (a.map (·.2))).length=a.length:=by rw[(wg _).length_eq,fN]
  refine⟨show (Am (a.map (·.2))).length<60 by lia,λl W l2=>?_⟩;dsimp only;have Q:∀k∈l,k∈a.map (·.2):=λk I=>U k<|l2 k I;rw[D];refine⟨v,λk I=>by obtain⟨y,L⟩:=A.row c<|Q k I;rw[L];rfl,?_⟩;dsimp only;refine EM (T:=l) A c v W Q (wm λk _=>(c.v7 k).symm)<|Gn rfl ?_;dsimp only;rw[fE rfl];exact MR A c S W Q<|Gn rfl h
end
section
variable{P:gf}{w:gu}{K:fB}{mg:Str->Option cr}{base:gE}
theorem Qx:ug ["_law_bag_here","_law_many","_law_seed","_law_mixed","_law_drawn"] ["_law_bag_here","_law_many"] (tY JJ):=⟨rfl,rfl,rfl,q0s,rfl,q0s,q0s⟩
theorem Tw(F:xY K "_law_pull" "_law_pull" JJ f I)(c:mg "len"=none):uE P w K mg base NF 1 f I ["_law_bag_here","_law_many"] WL.Oo:=by
 refine F.ok Qx (λJ H Q E h=>?_)<|λL A p s H J Q E N h=>?_
 ·obtain⟨g,q,m,i,z,s,e,rfl,_⟩:=h;rfl
 ·obtain⟨g,q,m,i,z,j,e,rfl,B,d,v,k⟩:=h;have l:=Qx.nd
  refine⟨_,vi (Kd (wQ TQ (xh vM (pv 0) uw (λ_ _=>rfl)) uw (uA _))
    (vi (QR (pv 0) uw NP uw M6 set_list)
    (vi (yU (i:=2) l rfl (gc rfl) (xh vM (pv 0) uw (λ_ _=>rfl)))
    (vi (Kd (wQ TQ (xh vM (pv 0) uw (λ_ _=>rfl)) (vW xl (by rfl) c md (ue (xh vM (pv 0) uw (λ_ _=>rfl)) uu)) (uA _))
     (wP (yU (i:=2) l rfl (gc rfl) (xh vM (xh vM (pv 0) uw (λ_ _=>rfl)) (vU Ip (xh vM (pv 0) uw (λ_ _=>rfl)) uw) (λ_ _=>rfl)))) yp)
    (vi (Kd (TJ (wQ TR (xh vM (pv 0) uw (λ_ _=>rfl)) (vW xl (by rfl) c md (ue (xh vM (pv 0) uw (λ_ _=>rfl)) uu)) (uA _)) (M3 (wQ TN (pv 2) (vU UN uw uw) (uA _)))).pt
     (vi (yU (i:=3) l rfl (gc rfl) (vU Bf (vU Ad (vU Ad (vU Ae (pv 2) uw) (vU Ae (xh vM (pv 0) uw (λ_ _=>rfl)) uw)) uw) uw))
     (vi (yU (i:=3) l rfl (gc rfl) (vU Bf (vU Ae (pv 3) (pv 3)) uw))
     (wP (Bc (vU Bf (vU Kf (vU Bf (vU Ae (vU Ad (pv 3) (xh vM (pv 0) uw (λ_ _=>rfl))) uw) uw) uw) (pv 1)))))) yp)
    (wP (Il (pv 2) (M5 (pv 0) uw set_list))))))) yp)
   (vi (yU (i:=4) l rfl (gc rfl) (vU Bf (xh vM (pv 0) uw (λ_ _=>rfl)) (pv 1)))
   (vi (Il (vU Kf (xh vM (pv 0) uw (λ_ _=>rfl)) (pv 1)) (M5 (pv 0) uw set_list))
   (wP (Bc (pv 4))))),?_⟩
  refine⟨_,rfl,g,_,_,_,rfl,rfl,vn.of B.ob,On _ _ _ _,_,_,rfl,rfl,_,rfl,?_⟩;refine Q8 (λ_=>?_)<|λ_=>?_
  ·-- r[1] += 1;x=r[3]
   refine⟨_,rfl,g,_,_,_,rfl,rfl,B.ob,q0q,rfl,_,_,rfl,rfl,g,_,_,1,rfl,rfl,B.ob,rfl,?_⟩;have a:B5 (upd H g<|.lst<|D4 q (i+1) z j) g q m (i+1) z j:=B.put (by have:=B.i0;lia);refine⟨_,rfl,g,_,_,_,rfl,rfl,vn.of a.ob,ZV _ _ _ _,?_⟩;refine⟨_,rfl,g,_,_,_,rfl,rfl,vn.of a.ob,Om _ _ _ _,_,rfl,g,_,_,_,rfl,rfl,vn.of a.ob,VC _ _ _ _,q,_,rfl,.inl<|vn.of a.sc,_,_,rfl,rfl,_,rfl,?_⟩;have b:=a;refine' YR (α:=Int) (G:=_) (λy=>Q8 (λC=>?_)<|λC=>?_) ?_
   rotate_left
   ·have t:i+1<=((m.map V.int).length:Int):=jC C;rw[fN] at t;obtain⟨n,M⟩:=RI (ns:=m) (i:=i+1-1) (by have:=B.i0;lia) q0a;refine⟨_,rfl,g,_,_,_,rfl,rfl,vn.of a.ob,VC _ _ _ _,_,rfl,g,_,_,_,rfl,rfl,vn.of a.ob,Om _ _ _ _,_,_,rfl,rfl,q,_,_,_,rfl,rfl,vn.of a.sc,M,?_⟩;exact y n
   ·exact y j
   ·intro n;refine⟨_,rfl,g,_,_,_,rfl,rfl,vn.of a.ob,Om _ _ _ _,_,rfl,g,_,_,_,rfl,rfl,vn.of a.ob,VC _ _ _ _,q,_,rfl,.inl<|vn.of a.sc,_,_,rfl,rfl,_,rfl,?_⟩;refine' Ws (G:=_) (λD=>Q8 (λ_=>Zr D)<|λ_=>?_) ?_
    ·refine⟨_,rfl,_,_,rfl,rfl,⟨q0q,q0q,q0q⟩,_,_,rfl,rfl,_,rfl,?_⟩;refine Q8 (λ_=>D)<|λ_=>?_;refine⟨_,rfl,_,rfl,g,_,_,2,rfl,rfl,a.ob,rfl,?_⟩;have b:=a.put (z':=n) a.i0;have u:=(Kp.at (g:=g) (H:=H) (o:=.lst<|D4 q (i+1) z j)).trans<|Kp.at (o:=.lst<|D4 q (i+1) n j);refine⟨_,rfl,g,_,_,_,rfl,rfl,vn.of b.ob,On _ _ _ _,_,rfl,_,_,rfl,rfl,d,?_⟩;refine⟨_,rfl,g,_,_,_,rfl,rfl,vn.of b.ob,On _ _ _ _,_,rfl,_,_,rfl,rfl,⟨d,v⟩,_,rfl,g,_,_,2,rfl,rfl,b.ob,rfl,?_⟩;exact⟨_,rfl,k _ _ _ _ (u.trans Kp.at) (b.put b.i0) (lS _ q0a)<|kP _ d⟩
    ·refine⟨_,rfl,_,_,rfl,rfl,.inr ⟨q0q,q0q⟩,_,rfl,g,_,_,_,rfl,rfl,vn.of a.ob,Om _ _ _ _,_,_,rfl,rfl,.inr ⟨q0q,q0q⟩,_,_,rfl,rfl,_,_,rfl,rfl,_,_,rfl,rfl,(by show (0:Int)<2147483647;decide),?_⟩;refine⟨_,rfl,_,rfl,_,_,rfl,rfl,.inl<|Xs _,_,_,rfl,rfl,(by show (0:Int)<2147483629;decide),?_⟩;refine⟨_,rfl,_,rfl,g,_,_,_,rfl,rfl,vn.of a.ob,Om _ _ _ _,_,_,rfl,rfl,_,_,rfl,rfl,.inr ⟨q0q,q0q⟩,_,_,rfl,rfl,(by show (0:Int)<998244353;decide),_,_,rfl,rfl,⟨q0q,q0q⟩,_,rfl,_,_,rfl,rfl,d,?_⟩;exact k _ _ _ _ Kp.at a (lS _ q0a)<|kP _ d
  ·have b:=B;have u:=Kp.refl g H;refine⟨_,rfl,g,_,_,_,rfl,rfl,vn.of b.ob,On _ _ _ _,_,rfl,_,_,rfl,rfl,d,?_⟩;refine⟨_,rfl,g,_,_,_,rfl,rfl,vn.of b.ob,On _ _ _ _,_,rfl,_,_,rfl,rfl,⟨d,v⟩,_,rfl,g,_,_,2,rfl,rfl,b.ob,rfl,?_⟩;exact⟨_,rfl,k _ _ _ _ (u.trans Kp.at) (b.put b.i0) (lS _ q0a)<|kP _ d⟩
theorem Lz:ug ["_law_script","_law_salt","_law_one"] ["_law_script"] (tY Qw):=⟨rfl,rfl,rfl,q0s,rfl,q0s,q0s⟩
theorem a0f(a:List Int)(b c:Option Int):∃d:List Int,CS (a.map V.int) b c=d.map V.int:=by unfold CS;exact⟨_,by rw[<- List.map_drop,<- List.map_take]⟩
theorem Wh(F:xY K "_law_bag" "_law_bag" Qw f U)(m:mg "len"=none)(g:mg "list"=none):uE P w K mg base NF 1 f U ["_law_script"] (WL.Ui K):=by
 refine F.ok Lz (λX H Q E h=>?_)<|λY A B s H X Q E hr h=>?_
 ·obtain⟨a,N,rfl,_⟩:=h;rfl
 ·obtain⟨a,N,rfl,C,k⟩:=h
  refine⟨_,vi (yU (i:=1) Lz.nd rfl (gc rfl) (vW xl (by rfl) m md (ue (yY Ck (pv 0) Ci (Cj uw)) uu)))
   (vi (Na PassesOwn.never rfl (EU (yY Ck (pv 0) Ci (Cj uw))) (uk (i:=2) Lz.nd rfl (gc rfl))
    (wP (yU (i:=1) Lz.nd rfl (gc rfl) (vU Bf (vU Ad (vU Ae (pv 1) uw) (pv 2)) uw))))
   (wP (Bc (Ni (ue (wD xm rfl g jw (ue (yY Ck (pv 0) Ci (Cj uw)) uu)) (ue uw (ue uw (ue (pv 1) uu)))))))),?_⟩
  obtain⟨b,j⟩:=a0f N none<|some 63;refine⟨_,rfl,63,rfl,a,_,rfl,C,λp Z=>?_⟩;rw[j];have O:Ce H (upd H p<|.lst<|b.map V.int):=ze Z;refine⟨p,_,rfl,.inl<|vn.of tZ,?_⟩;refine⟨_,rfl,63,rfl,a,_,rfl,O.seq C,λn D=>?_⟩;rw[j];have s2:Ce (upd H p<|.lst<|b.map V.int) (upd (upd H p<|.lst<|b.map V.int) n<|.lst<|b.map V.int):=ze D;have c:=O.trans s2;generalize G:upd (upd H p<|.lst<|b.map V.int) n (.lst<|b.map V.int)=H2 at c;have q:H2 n=some (.lst<|b.map V.int):=by rw[<- G];exact tZ
  refine⟨n,rfl,⟨_,vn.of q⟩,Nb (K:=K) (a:=n) (xs:=b.map V.int) (λi u x=>x=H2/\∃(r:Int)(v:Option V),u=[some<|.ref a,some<|.int r,v]) ⟨rfl,_,none,rfl⟩ (λi u x _ z9=>QJ z9 λe _=>by rw[e];exact vn.of q) ?_ ?_⟩
  ·rintro i y u x d ⟨rfl,r,v,rfl⟩
   obtain⟨z,rfl⟩:∃z,y=V.int z:=by
    rw[iK] at d
    cases e:b[i]? with
    | none=>rw[e] at d;cases d
    | some z=>rw[e] at d;exact⟨z,(gV d).symm⟩
   exact⟨_,rfl,_,_,rfl,rfl,.inr ⟨q0q,q0q⟩,_,rfl,_,_,rfl,rfl,_,_,rfl,rfl,(by show (0:Int)<1000003;decide),rfl,_,_,rfl⟩
  ·rintro u x ⟨rfl,r,v,rfl⟩;refine⟨_,rfl,63,rfl,a,_,rfl,c.seq C,λp3 I=>?_⟩;rw[j];refine⟨p3,_,rfl,.inl<|vn.of tZ,λJ t=>⟨_,rfl,(by decide:4<=fK),λR l=>?_⟩⟩;have L:=ze (o:=.lst<|b.map V.int) I;have S:=ze (o:=.lst<|b.map V.int) t;have T:=ze (o:=.lst<|D4 J 0 0 r) l;have M:J≠R:=uf tZ l;refine k _ R J b r (((c.trans L).trans S).trans T) ⟨tZ,T _ _ tZ,mQ _,M⟩ ?_ ?_
   ·exact(((c.trans L).trans S).free l)
   ·exact((c.trans L).free t)
end
local macro_rules | `(tactic| walk_at "ss") => `(tactic| exact ⟨rfl, rfl, rfl, by decide +kernel, rfl, by decide +kernel, by decide +kernel, by decide +kernel, rfl, rfl⟩)
section
variable{q:Cq}{C XC XS XO XB XP XV VX XF XT XN XR:ci}
abbrev J7:gy:=BD (top 26) 1
theorem Tx:xE B6 B6 (tY J7):=by walk_at "ss"
abbrev DO:gy:=BD (top 26) 4
theorem MS:xE xP xP (tY DO):=by walk_at "ss"
abbrev GB:gy:=BD (top 26) 8
theorem Qy:xE zr zr (tY GB):=by walk_at "ss"
abbrev yJ:gy:=BD (top 26) 9
theorem Eb:xE vE vE (tY yJ):=by walk_at "ss"
abbrev BR:gy:=BD (top 26) 7
theorem J8:xE w6 w6 (tY BR):=by walk_at "ss"
abbrev GC:gy:=BD (top 26) 2
theorem HZ:xE zt zt (tY GC):=by walk_at "ss"
theorem Tz{f:ci}{fd:gF}{k:Nat}(F:Dw q.P q.K C "put" "Field.put" J7 f fd)(G:Fs q.P q.w q.K q.mg q.base C "put" B6 (xG q.T<|HN C XB XS XC XO XP) k):Gq q (k+1) f fd B6 (HN C XB XS XC XO XP) :=
 zi (m:="put") (ta:=(BX (uH 1)<|BX (uH 2) Cc)) F Tx rfl rfl (λ_=>⟨_,rfl⟩) G (λyh cc A outer s H E=>(ue (pv 1)<|ue (pv 2) uu)) (λa r H Q hl h=>by obtain⟨u1,u2,rfl⟩:=lx2 r<|lN hl;exact⟨u1,rfl,u2,rfl,h⟩) (λf2 env h=>cw_cons h)
theorem MT{f:ci}{fd:gF}{k:Nat}(F:Dw q.P q.K C "cells" "Field.cells" DO f fd)(G:Fs q.P q.w q.K q.mg q.base C "cells" xP (xG q.T<|CH C) k):Gq q (k+1) f fd xP (CH C) :=
 zi (m:="cells") (ta:=Cc) F MS rfl rfl (λ_=>⟨_,rfl⟩) G (λyh cc A outer s H E=>uu) (λa r H Q hl h=>by obtain rfl:=lx0 r<|lN hl;exact h) (λf2 env h=>cw_nil h)
theorem Qz{f:ci}{fd:gF}{k:Nat}(F:Dw q.P q.K C "over" "Field.over" GB f fd)(G:Fs q.P q.w q.K q.mg q.base C "over" zr (xG q.T<|FR C XC) k):Gq q (k+1) f fd zr (FR C XC) :=
 zi (m:="over") (ta:=(BX (uH 1) Cc)) F Qy rfl rfl (λ_=>⟨_,rfl⟩) G (λyh cc A outer s H E=>(ue (pv 1) uu)) (λa r H Q hl h=>by obtain⟨u1,rfl⟩:=Yi r<|lN hl;exact⟨u1,rfl,h⟩) (λf2 env h=>cw_cons h)
theorem Ec{f:ci}{fd:gF}{k:Nat}(F:Dw q.P q.K C "border_of" "Field.border_of" yJ f fd)(G:Fs q.P q.w q.K q.mg q.base C "border_of" vE (xG q.T<|w4 C XS XC) k):Gq q (k+1) f fd vE (w4 C XS XC) :=
 zi (m:="border_of") (ta:=(BX (uH 1) Cc)) F Eb rfl rfl (λ_=>⟨_,rfl⟩) G (λyh cc A outer s H E=>(ue (pv 1) uu)) (λa r H Q hl h=>by obtain⟨u1,rfl⟩:=Yi r<|lN hl;exact⟨u1,rfl,h⟩) (λf2 env h=>cw_cons h)
theorem J9{f:ci}{fd:gF}{k:Nat}(F:Dw q.P q.K C "border" "Field.border" BR f fd)(G:Fs q.P q.w q.K q.mg q.base C "border" w6 (xG q.T<|AW C XC) k):Gq q (k+1) f fd w6 (AW C XC) :=
 zi (m:="border") (ta:=(BX (uH 1) Cc)) F J8 rfl rfl (λ_=>⟨_,rfl⟩) G (λyh cc A outer s H E=>(ue (pv 1) uu)) (λa r H Q hl h=>by obtain⟨u1,rfl⟩:=Yi r<|lN hl;exact⟨u1,rfl,h⟩) (λf2 env h=>cw_cons h)
theorem QA{f:ci}{fd:gF}(F:Dw q.P q.K C "take" "Field.take" GC f fd)(ct:BB q.K C)(wx:vK q C XC 7)(MU:EI q C 7)(G:Fs q.P q.w q.K q.mg q.base C "take" zt (xG q.T<|FS C XC XV) 7):Gq q 8 f fd zt (Gg C XC XV):=by
 refine' ui (XY (A:=B0 C×Int×Unit) (PO:=B0 C×WL.Un×Unit) (ms:=[0]) (uG q0q) F HZ rfl λyh cc A outer s H E D hr =>
  Uk (uY<|uo<|vA 0 wx hr ct.cl OM (pv 0)<|ud (kf 1<|pv 1) t6)
   (Uk (uV (tw_val (uo (vA 0 MU hr ct.cl OM (pv 0) (ud (kf 1 (pv 1)) t6)))) N7 uK)
    (Sd (m:="take") (ta:=BX (uH 1) Cc) D HZ rfl (λ_=>⟨_,rfl⟩) G hr (ue (pv 1) uu) (λa r H Q hl h=>by obtain⟨u,rfl⟩:=Yi r hl;exact⟨u,rfl,h⟩) (λf2 env h=>cw_cons h)))) λp Kn Ke h=>?_
 walk_at "wl"
 obtain⟨t,ok,h⟩:=h;show if (lk p.1.rk p.2.1).isSome=true then (if w8 p.1 p.2.1=true then False else FS C XC XV (p.1,p.2) (λx p=>Kn () p) Ke) else Ke XC (p.1,⟨⟩,());by_cases hs:(lk p.1.rk p.2.1).isSome=true
 ·rw[fE hs,fF<|by simp[t]];exact⟨ok,h⟩
 ·rw[fF hs] at h ⊢;exact h
abbrev GD:gy:=BD (top 26) 0
theorem QB:xE ["self"] ["self"] (tY GD):=by walk_at "ss"
theorem QC{k:Nat}(F:Dw q.P q.K C "__init__" "Field.__init__" GD f b)(c:BB q.K C)(d:MY q.K C)(G:Fs q.P q.w q.K q.mg q.base C "__init__" ["self"] (FE C) k):uE q.P q.w q.K q.mg q.base (uP q.P q.w) (k+1) f b ["self"] (CC C) :=
 OR (p3:=⟨0,0,0,0⟩) (p4:=⟨0,0,0,0⟩) F QB c d (λ_=>⟨_,rfl⟩) rfl G (λ_=>rfl) λe g A a s H E=>vi (Bi (pv 0) Az rfl)<|wP<|Bi (pv 0) Az rfl
end
end K7
namespace K7
open PySem L2 WL
open WL.Rep (rp)
open WL.Ow (sl)
open WL.Sls (rel)
abbrev LA:List cr:=[.type "ValueError",.type "Exception",.type "BaseException",.type "object"]
abbrev yK:gy:=BD (top 13) 0
abbrev Ka:gy:=BD (top 24) 0
theorem TB:ug ["self"] ["self"] (tY Ka):=⟨rfl,rfl,rfl,q0s,rfl,q0s,q0s⟩
theorem QD:xE ["self","ring"] ["self","ring"] (tY yK):=⟨rfl,rfl,rfl,q0s,rfl,q0s,q0s,q0s,rfl,rfl⟩
theorem TC[L2.GX]{K:fB}(F:xY K "__init__" "Body.__init__" Ka f fd)(ct:BB K C):uE P w K mg base (uP P w) 1 f fd ["self"] (FE C) :=
 R7 F TB ct λb A a s H E=>vi (Bi (pv 0) Az rfl)<|vi (Bi (pv 0) Az rfl)<|wP<|Bi (pv 0) uw rfl
def gx0:L2.GX:=⟨λ_ _ _=>True⟩
section
variable{P:gf}{K:fB}{C:ci}
structure Mx(P:gf)(K:fB)(C:ci)(m q:Str)(st:gy):Prop where
 ex:∃f fd,Meth K C m f/\∃(oc:cr)(od:Option ci)(kV doc pm:cr)(an:Option ci)(yh cc:ci)(ct:cr) (LX:Array (Option cr)) (ocD:cr) (odD:Option ci) (vsD:Array cr) (slD:Array (Option cr)) (file:Str) (tf:Tok) (occ:cr) (odc:Option ci) (slc:Array (Option cr)),
  fd=jr m q (uX st) (uC st) (tY st) [("__class__",cc)] .none kV doc pm an (.ref yh) ct/\K.lookup f=some ⟨oc,od,.func fd,LX⟩/\iu K (.ref yh) q=true/\h8 K (.ref f)=true/\K.lookup yh=some ⟨ocD,odD,.fields vsD,slD⟩/\vsD[2]?=some (.str file tf)/\((P.main.file:Str)==file)=true/\K.lookup cc=some ⟨occ,odc,.cell<|some<|.ref C,slc⟩
theorem mx_mk{st:gy}{e:cr}(a:gr K (.ref C) m=some (some<|.ref f))(i:mU K (.ref f)=true)
 (l:K.lookup f=some ⟨y,od,.func<|jr m q (uX st) (uC st) (tY st) [("__class__",g)] .none e h pm z (.ref b) ct,j⟩)(c:iu K (.ref b) q=true)(k:h8 K (.ref f)=true)(n:K.lookup b=some ⟨o,p,.fields d,r⟩)(s:d[2]?=some (.str file A))(t:((P.main.file:Str)==file)=true)(u:K.lookup g=some ⟨v,w,.cell<|some<|.ref C,x⟩):Mx P K C m q st :=
  ⟨_,_,⟨a,i,k⟩,_,_,_,_,_,_,_,_,_,_,_,_,_,_,_,_,_,_,_,rfl,l,c,k,n,s,t,u⟩
structure Sx(K:fB)(C:ci)(m q:Str)(st:gy):Prop where
 ex:∃f fd,Sm K C m f/\xY K m q st f fd
theorem sx_mk{st:gy}{d:cr}(a:iZ K C C m=some (some<|.ref f))(ty:nC K (.ref f)=some (.type "function"))(fn:kR K f=true)
 (l:K.lookup f=some ⟨h,od,.func<|iG m q (uX st) (uC st) (tY st) .none d e pm i b ct,g⟩)(c:iu K b q=true)(k:h8 K (.ref f)=true):Sx K C m q st:=⟨_,_,⟨a,ty,fn⟩,CW l c k⟩
theorem Mx.fx{st:gy}(M:Mx P K C m q st)(cl:∃s,lj K C=some s)(sub:jK K C (.ref C)=some true)(e:f9 K qh "thirdparty.any"=some none)(g:(P.main.scope.names.lookup ("super":Str)).isSome=false)(h:((uX st).posonlyargs++(uX st).args).head?=some p)(hs:p.arg="self")(ps:List Str)
 (b:∀(i a j:cr)(n:Option ci)(d o:ci)(ct:cr)(us:List cr),us.length=ps.length->rD (jr m q (uX st) (uC st) (tY st) [("__class__",o)] .none i a j n (.ref d) ct) ⟨us,[]⟩=pure (ps.zip us)):∃f fd,Meth K C m f/\Dw P K C m q st f fd/\Binds K fd ps []:=by
  obtain⟨f,fd,t,H,I,i,a,j,n,d,o,ct,u,v,w,x,y,r,J,z,A,B,rfl,l,c,k,D,E,F,G⟩:=M.ex
  exact⟨f,_,t,⟨⟨_,_,_,_,_,_,_,_,_,_,rfl,l,c,⟨⟨_,_,_,_,p,l,h,hs⟩,⟨_,_,_,_,_,_,D,E,F⟩,⟨_,_,_,G⟩,cl,sub,e,g⟩⟩,k⟩,.all<|b i a j n d o ct⟩
end
set_option tactic.hygienic true in
theorem TF{K:fB}(X:K.In h)(e:tM K N=true)(q:f9 K N x=some (some v)):h.nsMap N x=some v:=by
 obtain⟨o,k,l,b,f,_,g⟩:=Heap.Ns.of_isNs<|oE X e;unfold f9 at q;split at q
 ·rename_i c d i m n z
  have a:=X _ _ z;rw[b] at a;cases a;cases f;split at q
  ·rename_i p j
   cases q;rw[<- g];unfold nsFind findBy;rw[<- sk,j];rfl
  ·split at q<;>cases q
 ·cases q
theorem all_mk{l:pF}{K:fB}{XF:ci}{ef:Nat}{d2:List cr}{eg:Bool}(X:K.In h)(G:h.Ns f7 mg)(eh:mg "law"=some (.ref fa))
 (a1:f9 K f7 "is_sum"=some (some<|.ref f1))
 (l1:K.lookup f1=some ⟨eO,eP,.func<|iG "is_sum" "is_sum" (uX wh) (uC wh) (tY wh) .none eQ eR eS eT (.ref c) eU,eV⟩)
 (c1:iu K (.ref c) "is_sum"=true)
 (k1:h8 K (.ref f1)=true)
 (lc:K.lookup c=some ⟨eW,eX,.fields ei,eY⟩)
 (ev:ei[11]?=some (.ref bZ))
 (ej:K.lookup bZ=none)
 (aL:f9 K f7 "law"=some (some<|.ref fL))
 (lL:K.lookup fL=some ⟨eZ,e0,.func<|iG "law" "law" (uX A8) (uC A8) (tY A8) .none ek el em en d7 eo,e1⟩)
 (cL:iu K d7 "law"=true)
 (kL:h8 K (.ref fL)=true)
 (J:Dq K "must_be_sum" DD)
 (b0:Dq K "total" FQ)
 (t:Dq K "row_from_first" wM)
 (b1:Dq K "added" Gh)
 (bJ:Dq K "filled" DI)
 (dz:Dq K "_law_bag" Qw)
 (cV:Dq K "_law_pull" JJ)
 (cW:Dq K "_law_rank" JM)
 (cX:Dq K "_law_join" JO)
 (cY:Dq K "_law_here" JR)
 (cZ:Dq K "_law_some" JT)
 (c0:Dq K "_law_edge" JV)
 (b2:Dq K "_law_whole" Go)
 (dA:Dq K "_law_row" s_row)
 (c2:Dq K "_law_same" s_same)
 (b3:Dq K "_law_stock" Gr)
 (aV:Dq K "_law_edge_by" BP)
 (c3:Dq K "_law_rows" JZ)
 (c4:Dq K "_law_fill" J1)
 (c5:Dq K "_law_ties" J3)
 (b4:Dq K "_law_house" Gw)
 (b5:Dq K "_law_heads" Gy)
 (aC:f9 K f7 "Field"=some (some<|.ref C))
 (Q:Mq K C "must_stand" "Body.must_stand" yE)
 (ao:Mq K C "must_hold" "Body.must_hold" zn)
 (u:Mq K C "must_have_rank" "Body.must_have_rank" wK)
 (aW:Mq K C "is_tied" "Field.is_tied" BJ)
 (b6:Mq K C "steps" "Field.steps" FZ)
 (b7:Mq K C "tails" "Field.tails" F8)
 (bK:Mq K C "arrows" "Field.arrows" DG)
 (aX:Mq K C "head_of" "Field.head_of" BL)
 (b8:Mq K C "untie" "Field.untie" Ga)
 (aq:Mq K C "ring_with" "Field.ring_with" zv)
 (dB:Mq K C "tie" "Field.tie" PM)
 (b9:Mq K C "order" "Field.order" Gd)
 (dC:Mx l.prog K C "put" "Field.put" J7)
 (dD:Sx K C "put" "Body.put" Pp)
 (ca:Mx l.prog K C "cells" "Field.cells" DO)
 (cb:Sx K C "cells" "Body.cells" FW)
 (c6:Mx l.prog K C "over" "Field.over" GB)
 (c7:Sx K C "over" "Body.over" Jz)
 (ar:Mx l.prog K C "border_of" "Field.border_of" yJ)
 (au:Sx K C "border_of" "Body.border_of" zq)
 (bL:Mx l.prog K C "border" "Field.border" BR)
 (bM:Sx K C "border" "Body.border" DF)
 (c8:Mx l.prog K C "take" "Field.take" GC)
 (c9:Sx K C "take" "Body.take" JA)
 (az:Mx l.prog K C "__init__" "Field.__init__" GD)
 (aA:Sx K C "__init__" "Body.__init__" Ka)
 (pg:kZ K C Str.empty=true)
 (hd:mh K C=true)
 (po:oO K C=true)
 (sa:gr K (.ref C) "__setattr__"=some (some<|.builtin "object.__setattr__"))
 (mk:pA K C=true)
 (kc:h8 K (.ref C)=true)
 (nR:gr K (.ref C) "ranks"=some none)
 (nB:gr K (.ref C) "borders"=some none)
 (nU:gr K (.ref C) "upcoming"=some none)
 (nH:gr K (.ref C) "head_by_tail"=some none)
 (nT:gr K (.ref C) "tail_by_head"=some none)
 (cT:lj K C=some e2)
 (cU:jK K C (.ref C)=some true)
 (cN:f9 K qh "thirdparty.any"=some none)
 (cO:(l.prog.main.scope.names.lookup ("super":Str)).isSome=false)
 (aY:f9 K f7 "NotASum"=some (some<|.ref XS))
 (aZ:im K XS LA "ValueError.__new__"=true)
 (bN:f9 K f7 "NoCell"=some (some<|.ref XC))
 (bO:im K XC LA "ValueError.__new__"=true)
 (av:f9 K f7 "OtherRank"=some (some<|.ref XO))
 (aw:im K XO LA "ValueError.__new__"=true)
 (a0:f9 K f7 "BadRank"=some (some<|.ref XB))
 (a2:im K XB LA "ValueError.__new__"=true)
 (R:f9 K f7 "OpenBorder"=some (some<|.ref XP))
 (S:im K XP LA "ValueError.__new__"=true)
 (da:f9 K f7 "Full"=some (some<|.ref d8))
 (db:im K d8 LA "ValueError.__new__"=true)
 (a3:f9 K f7 "Covered"=some (some<|.ref XV))
 (a4:im K XV LA "ValueError.__new__"=true)
 (a5:f9 K f7 "NotFace"=some (some<|.ref XF))
 (a6:im K XF LA "ValueError.__new__"=true)
 (bq:f9 K f7 "Tied"=some (some<|.ref XT))
 (dc:im K XT LA "ValueError.__new__"=true)
 (a7:f9 K f7 "NotTied"=some (some<|.ref XN))
 (a8:im K XN LA "ValueError.__new__"=true)
 (T:f9 K f7 "MOST_CELLS"=some (some<|.int 120 cG))
 (aB:f9 K f7 "TOP_RANK"=some (some<|.int 12 du))
 (d9:f9 K f7 "RingOfArrows"=some (some<|.ref XR))
 (e3:f9 K f7 "BodyError"=some (some<|.ref XE))
 (lB:K.lookup XR=some (iI e4 qB XR dN e5 (.ref XE::LA) true e6 d2 eg eK e7 e8 e9 fb fe ff "ValueError.__new__"))
 (ep:f9 K dN "__init__"=some (some<|.ref fI))
 (ea:tM K dN=true)
 (er:PySem.W.tailIn K LA (.ref XE::LA)=true)
 (lI:K.lookup fI=some ⟨.type "function",fh,.func<|jr "__init__" "RingOfArrows.__init__" (uX yK) (uC yK) (tY yK) [("__class__",cc)] (.ref TD) es et eu ew (.ref dO) ey,fi⟩)
 (cI:iu K (.ref dO) "RingOfArrows.__init__"=true)
 (lD:K.lookup dO=some ⟨fj,fo,.fields ez,fp⟩)
 (fD:ez[2]?=some (.str dE ft))
 (pD:((l.prog.main.file:Str)==dE)=true)
 (eA:K.lookup cc=some ⟨eL,eM,.cell<|some<|.ref XR,eN⟩)
 (eB:lj K XR=some fv)
 (eC:jK K XR (.ref XR)=some true)
 (eD:iZ K XR XR "__init__"=some (some<|.builtin "ValueError.__init__"))
 (eE:jK K XR (.type "ValueError")=some true)
 (sB:gr K (.ref XR) "__setattr__"=some (some<|.builtin "object.__setattr__"))
 (eF:gr K (.ref XR) "ring"=some none)
 (lT:K.lookup TD=some ⟨fw,fy,.seq #[dT] ef,fz⟩)
 (eG:j0 K (.ref XT) [.ref XT,.ref XR]=some true)
 (eH:j0 K (.ref XR) [.ref XT,.ref XR]=some true)
 (eI:f9 K f7 "super"=some none)
 (zz:Bz K) :
    ∃(c bZ:ci)(fd:gF),mz K "is_sum"=some (c,bZ)/\K.lookup bZ=none/\(∀(s:fH)(v:cr),rg s fd ⟨[v],[]⟩ [("_law_script",v)])/\∀base:gE,K.In base->base.Ns f7 mg->Hk mg base c bZ->uE l.prog w K mg base NF 11 fa fd ["_law_script"] (KY K bZ):=by
  letI:L2.GX:=gx0
  have e:=eh.symm.trans<|gW X G aL
  cases e
  have ht:mz K "is_sum"=some (c,bZ):=by
    unfold mz
    rw[a1]
    dsimp only
    rw[l1]
    dsimp only[iG]
    rw[lc]
    dsimp only
    rw[ev]
  have j:=CW (st:=wh) l1 c1 k1
  have ah:Fn K mg "is_sum" wh ["row"] f1 _:=⟨j,gW X G a1,j.binds (ps:=["row"])<|λ_ _ _ _ _ _=>EN λ_=>rfl⟩
  have dF:=CW (st:=A8) lL cL kL
  have b:=J.fn X G ["row"]<|λ_ _ _ _ _ _=>EN λ_=>rfl
  have aF:=b0.fn X G ["rows"]<|λ_ _ _ _ _ _=>EN λ_=>rfl
  have d:=t.fn X G ["earlier","last"]<|λ_ _ _ _ _ _=>BS λ_ _=>rfl
  have aG:=b1.fn X G ["one","other"]<|λ_ _ _ _ _ _=>BS λ_ _=>rfl
  have ai:=bJ.fn X G ["field","row"]<|λ_ _ _ _ _ _=>BS λ_ _=>rfl
  have cQ:=dz.fn X G ["_law_script"]<|λ_ _ _ _ _ _=>EN λ_=>rfl
  have br:=cV.fn X G ["_law_bag_here","_law_many"]<|λ_ _ _ _ _ _=>BS λ_ _=>rfl
  have bt:=cW.fn X G ["_law_bag_here"]<|λ_ _ _ _ _ _=>EN λ_=>rfl
  have bu:=cX.fn X G ["_law_one","_law_other"]<|λ_ _ _ _ _ _=>BS λ_ _=>rfl
  have bv:=cY.fn X G ["_law_rows_here"]<|λ_ _ _ _ _ _=>EN λ_=>rfl
  have bA:=cZ.fn X G ["_law_bag_here","_law_row_here"]<|λ_ _ _ _ _ _=>BS λ_ _=>rfl
  have bB:=c0.fn X G ["_law_rows_here","_law_row_here"]<|λ_ _ _ _ _ _=>BS λ_ _=>rfl
  have aH:=b2.fn X G ["_law_found"]<|λ_ _ _ _ _ _=>EN λ_=>rfl
  have cR:=dA.fn X G ["_law_found"]<|λ_ _ _ _ _ _=>EN λ_=>rfl
  have bC:=c2.fn X G ["_law_found","_law_due"]<|λ_ _ _ _ _ _=>BS λ_ _=>rfl
  have aI:=b3.fn X G ["_law_many"]<|λ_ _ _ _ _ _=>EN λ_=>rfl
  have L:=aV.fn X G ["_law_rows_here","_law_loops","_law_rank_here","_law_bag_here"]<|λ_ _ _ _ _ _=>YQ λ_ _ _ _=>rfl
  have bD:=c3.fn X G ["_law_bag_here","_law_most"]<|λ_ _ _ _ _ _=>BS λ_ _=>rfl
  have bE:=c4.fn X G ["_law_body","_law_rows_here"]<|λ_ _ _ _ _ _=>BS λ_ _=>rfl
  have bF:=c5.fn X G ["_law_field","_law_rows_here","_law_bag_here","_law_tries"]<|λ_ _ _ _ _ _=>YQ λ_ _ _ _=>rfl
  have aJ:=b4.fn X G ["_law_bag_here","_law_most"]<|λ_ _ _ _ _ _=>BS λ_ _=>rfl
  have aK:=b5.fn X G ["_law_arrows"]<|λ_ _ _ _ _ _=>EN λ_=>rfl
  have n:=Q.fn ["self","cell"]<|λ_ _ _ _ _ _=>BS λ_ _=>rfl
  have y:=ao.fn ["self","row"]<|λ_ _ _ _ _ _=>BS λ_ _=>rfl
  have f:=u.fn ["self","row","rank"]<|λ_ _ _ _ _ _=>Up λ_ _ _=>rfl
  have M:=aW.fn ["self","cell"]<|λ_ _ _ _ _ _=>BS λ_ _=>rfl
  have aM:=b6.fn ["self","low","high"]<|λ_ _ _ _ _ _=>Up λ_ _ _=>rfl
  have aN:=b7.fn ["self"]<|λ_ _ _ _ _ _=>EN λ_=>rfl
  have aj:=bK.fn ["self"]<|λ_ _ _ _ _ _=>EN λ_=>rfl
  have N:=aX.fn ["self","cell"]<|λ_ _ _ _ _ _=>BS λ_ _=>rfl
  have aO:=b8.fn ["self","low"]<|λ_ _ _ _ _ _=>BS λ_ _=>rfl
  have A:=aq.fn ["self","low","high"]<|λ_ _ _ _ _ _=>Up λ_ _ _=>rfl
  have cS:=dB.fn ["self","low","high"]<|λ_ _ _ _ _ _=>Up λ_ _ _=>rfl
  have aP:=b9.fn ["self"]<|λ_ _ _ _ _ _=>EN λ_=>rfl
  obtain⟨d3,d4,dd,de,df⟩:=dC.fx ⟨_,cT⟩ cU cN cO rfl rfl B6<|λ_ _ _ _ _ _ _=>Up λ_ _ _=>rfl
  obtain⟨d5,d6,dg,bG⟩:=dD.ex
  obtain⟨dI,dJ,bP,bQ,bR⟩:=ca.fx ⟨_,cT⟩ cU cN cO rfl rfl xP<|λ_ _ _ _ _ _ _=>EN λ_=>rfl
  obtain⟨dL,dM,bS,ak⟩:=cb.ex
  obtain⟨dP,dQ,cd,cg,cj⟩:=c6.fx ⟨_,cT⟩ cU cN cO rfl rfl zr<|λ_ _ _ _ _ _ _=>BS λ_ _=>rfl
  obtain⟨dR,dS,ck,aQ⟩:=c7.ex
  obtain⟨cH,cJ,U,V,Y⟩:=ar.fx ⟨_,cT⟩ cU cN cO rfl rfl vE<|λ_ _ _ _ _ _ _=>BS λ_ _=>rfl
  obtain⟨cK,cM,aa,o⟩:=au.ex
  obtain⟨dv,dw,a9,ba,bb⟩:=bL.fx ⟨_,cT⟩ cU cN cO rfl rfl w6<|λ_ _ _ _ _ _ _=>BS λ_ _=>rfl
  obtain⟨dx,dy,bc,O⟩:=bM.ex
  obtain⟨dU,dV,cm,cn,cp⟩:=c8.fx ⟨_,cT⟩ cU cN cO rfl rfl zt<|λ_ _ _ _ _ _ _=>BS λ_ _=>rfl
  obtain⟨dW,dX,cq,aR⟩:=c9.ex
  obtain⟨dY,dZ,aS,cs,cu⟩:=az.fx ⟨_,cT⟩ cU cN cO rfl rfl ["self"]<|λ_ _ _ _ _ _ _=>EN λ_=>rfl
  obtain⟨d0,d1,cv,aT⟩:=aA.ex
  have B:=zz.bn X G
  have cP:=rW X G eI
  have ab:=gW X G T
  have aD:=gW X G aB
  have be:Xc K mg "NotASum" XS:=⟨⟨_,_,_,_,gW X G aY,aZ,gw⟩,λ_=>trivial⟩
  have bT:Xc K mg "NoCell" XC:=⟨⟨_,_,_,_,gW X G bN,bO,gw⟩,λ_=>trivial⟩
  have ax:Xc K mg "OtherRank" XO:=⟨⟨_,_,_,_,gW X G av,aw,gw⟩,λ_=>trivial⟩
  have bf:Xc K mg "BadRank" XB:=⟨⟨_,_,_,_,gW X G a0,a2,gw⟩,λ_=>trivial⟩
  have ae:Xc K mg "OpenBorder" XP:=⟨⟨_,_,_,_,gW X G R,S,gw⟩,λ_=>trivial⟩
  have dh:Xc K mg "Full" d8:=⟨⟨_,_,_,_,gW X G da,db,gw⟩,λ_=>trivial⟩
  have bg:Xc K mg "Covered" XV:=⟨⟨_,_,_,_,gW X G a3,a4,gw⟩,λ_=>trivial⟩
  have bh:Xc K mg "NotFace" XF:=⟨⟨_,_,_,_,gW X G a5,a6,gw⟩,λ_=>trivial⟩
  have di:Xc K mg "Tied" XT:=⟨⟨_,_,_,_,gW X G bq,dc,gw⟩,λ_=>trivial⟩
  have bi:Xc K mg "NotTied" XN:=⟨⟨_,_,_,_,gW X G a7,a8,gw⟩,λ_=>trivial⟩
  have I:BB K C:=⟨⟨pg,hd,po,sa⟩,nR,nB,nU⟩
  have cf:MY K C:=⟨nH,nT⟩
  have cw:=gW X G aC
  refine⟨c,bZ,iG "law" "law" (uX A8) (uC A8) (tY A8) .none ek el em en d7 eo,ht,ej,λs v=>.of_eq rfl,λbase _ _ Bt=>?_⟩
  let q:Cq:=⟨l.prog,w,K,mg,base,bZ⟩
  have SD:L2.Jk l.prog K XR fI dO cc "self":=⟨⟨_,_,_,_,_,lI,rfl,rfl⟩,⟨_,_,_,_,_,_,lD,fD,pD⟩,⟨_,_,_,eA⟩,⟨_,eB⟩,eC,cN,cO⟩
  have bU:uE l.prog w K mg base (uP l.prog w) 3 fI _ ["self","ring"] (VN K XR "ring"):=Ss (P:=l.prog) (w:=w) (mg:=mg) (base:=base) (k:=2) (r:="ring") (fl:="ring") lI cI rfl QD SD (λ_=>⟨_,rfl⟩) cP B.list rfl lB eD eE rfl (λx=>by rw[PySem.refuseLoop_ref];exact PySem.F.store_ValueError.passes _) sB eF q0q q0q
  have eJ:∀h:gE,K.In h->∃mN,h.Ns dN mN/\mN "__init__"=some (.ref fI):=λh Z=>⟨_,.of_isNs<|oE Z ea,TF Z ea ep⟩
  have hB:Binds K (jr "__init__" "RingOfArrows.__init__" (uX yK) (uC yK) (tY yK) [("__class__",cc)] (.ref TD) es et eu ew (.ref dO) ey) ["self","ring"] []:=λs us Z hl=>by
    have hl:us.length=2:=by simpa using hl
    obtain⟨u1,u2,rfl⟩:=lx2 us hl
    exact PySem.W.binds_K Z rfl lT rfl rfl rfl
  have H:Z6 l.prog w K mg base 3 "RingOfArrows" XR "ring":=⟨⟨fI,dN,_,_,_,_,_,_,LA,_,_,_,_,_,_,_,_,_,_,_,_,_,_,_,gW X G d9,lB,eJ,λh Z=>rV Z er,lI,rfl,gw,rfl,bU,hB⟩,λ_ _ _ _ _ _=>trivial⟩
  have i:X4 q XT XR "Tied" "RingOfArrows":=⟨gW X G bq,gW X G d9,eG,eH⟩
  obtain⟨bx,fA,bz,bw,ec,ed,ee⟩:=be.ex
  have cx:=Pe b.fn ah (Jx (P:=l.prog) (w:=w) j rfl Bt B.all B.zip) ec ed ee λ_=>trivial
  have cy:=Pf b.fn ah (Jy (P:=l.prog) (w:=w) j rfl Bt B.all B.zip) ec ed ee λ_=>trivial
  have dj:=QC (q:=q) cs I cf ⟨⟨_,_,cv,TC (P:=l.prog) (w:=w) (mg:=mg) (base:=base) aT I,aT.binds<|λ_ _ _ _ _ _=>EN λ_=>rfl,cP⟩⟩
  have aU:xj q _ _ _ _:=b.fk cx
  have cz:xj q _ _ _ _:=aF.fk<|Pg aF.fn b cy B.set B.sorted
  have a:yQ q C _ _ _ _:=n.fm<|D8 (q:=q) n.fn I bT
  have g:yQ q C _ _ _ _:=y.fm<|FT (q:=q) y.fn I (aU.up q0q)<|a.up q0q
  have p:yQ q C _ _ _ _:=f.fm<|AZ (q:=q) f.fn I ax
  have af:yQ q C _ _ _ _:=⟨_,_,Ec (q:=q) V ⟨⟨_,_,aa,(FV (q:=q) o I (cz.up q0q)<|g.up q0q),o.binds<|λ_ _ _ _ _ _=>BS λ_ _=>rfl,cP⟩⟩,U,Y⟩
  have bV:yQ q C _ _ _ _:=⟨_,_,MT (q:=q) bQ ⟨⟨_,_,bS,(Pn (q:=q) ak I B),ak.binds<|λ_ _ _ _ _ _=>EN λ_=>rfl,cP⟩⟩,bP,bR⟩
  have cA:yQ q C _ _ _ _:=⟨_,_,Qz (q:=q) cg ⟨⟨_,_,ck,(SG (q:=q) aQ I (a.up q0q)<|bV.up q0q),aQ.binds<|λ_ _ _ _ _ _=>BS λ_ _=>rfl,cP⟩⟩,cd,cj⟩
  have dm:yQ q C _ _ _ _:=⟨_,_,Tz (q:=q) de ⟨⟨_,_,dg,(VZ (q:=q) bG I (g.up q0q) (p.up q0q) (af.up q0q) bf dh ae ab aD B),bG.binds<|λ_ _ _ _ _ _=>Up λ_ _ _=>rfl,cP⟩⟩,dd,df⟩
  have bj:yQ q C _ _ _ _:=⟨_,_,J9 (q:=q) ba ⟨⟨_,_,bc,(MD (q:=q) O I (a.up q0q) B),O.binds<|λ_ _ _ _ _ _=>BS λ_ _=>rfl,cP⟩⟩,a9,bb⟩
  have E:yQ q C _ _ _ _:=M.fm<|JF (q:=q) M.fn I cf
  have cB:yQ q C _ _ _ _:=⟨_,_,QA (q:=q) cn I (a.up q0q) (E.up q0q) ⟨⟨_,_,cq,((SJ (q:=q) aR I (cA.up q0q) bg)).mono q0q,aR.binds<|λ_ _ _ _ _ _=>BS λ_ _=>rfl,cP⟩⟩,cm,cp⟩
  have al:yQ q C _ _ _ _:=aM.fm<|PD (q:=q) aM.fn I cf
  have an:yQ q C _ _ _ _:=aN.fm<|PH (q:=q) aN.fn I cf B
  have bm:yQ q C _ _ _ _:=aj.fm<|MH (q:=q) aj.fn I cf<|an.up q0q
  have aE:yQ q C _ _ _ _:=N.fm<|JI (q:=q) N.fn I cf<|a.up q0q
  have bW:yQ q C _ _ _ _:=aO.fm<|PL (q:=q) aO.fn I cf (a.up q0q) bi
  have D:xj q _ _ _ _:=d.fk<|A5 (q:=q) d.fn
  have ag:yQ q C _ _ _ _:=A.fm<|Gc (q:=q) A.fn I cf (D.up q0q)<|al.up q0q
  have dq:yQ q C _ _ _ _:=cS.fm<|V2 (q:=q) cS.fn I cf (a.up q0q) (E.up q0q) (ag.up q0q) bh di H
  have bX:yQ q C _ _ _ _:=aP.fm<|PQ (q:=q) aP.fn I cf (bm.up q0q) (al.up q0q)<|an.up q0q
  have cC:xj q _ _ _ _:=aG.fk<|PX (q:=q) aG.fn (aU.up q0q) B
  have bY:xj q _ _ _ _:=ai.fk<|MK (q:=q) ai.fn I (cC.up q0q) (g.up q0q) (bX.up q0q) (aE.up q0q) (bj.up q0q) B
  have dG:xj q _ _ _ _:=cQ.fk<|XM<|Wh cQ.fn B.len B.list
  have m:xj q _ _ _ _:=br.fk<|VD<|Tw br.fn B.len
  have dr:xj q _ _ _ _:=bt.fk<|Td (q:=q) bt.fn<|m.up q0q
  have ay:xj q _ _ _ _:=bu.fk<|Te (q:=q) bu.fn B
  have k_here:xj q _ _ _ _:=bv.fk<|Tg (q:=q) bv.fn B
  have bH:xj q _ _ _ _:=bA.fk<|Th (q:=q) bA.fn (m.up q0q) (ay.up q0q) B
  have bI:xj q _ _ _ _:=bB.fk<|Ti (q:=q) bB.fn<|ay.up q0q
  have k_whole:xj q _ _ _ _:=aH.fk<|Qn (q:=q) aH.fn B
  have dH:xj q _ _ _ _:=cR.fk<|V9 (q:=q) cR.fn (k_whole.up q0q) B
  have k_same:xj q _ _ _ _:=bC.fk<|Tl (q:=q) bC.fn<|dH.up q0q
  have cD:xj q _ _ _ _:=aI.fk<|Qq (q:=q) aI.fn B
  have bp:xj q _ _ _ _:=L.fk<|JY (q:=q) L.fn (m.up q0q) (ay.up q0q) (k_here.up q0q) (bH.up q0q) (bI.up q0q) B
  have ds:xj q _ _ _ _:=bD.fk<|Tq (q:=q) bD.fn (m.up q0q) (cD.up q0q) (dr.up q0q) (bp.up q0q) B
  have k_fill:xj q _ _ _ _:=bE.fk<|Tr (q:=q) bE.fn I (dm.up q0q) (cB.up q0q) B
  have dt:xj q _ _ _ _:=bF.fk<|Tt (q:=q) bF.fn I (k_here.up q0q) (m.up q0q) (bW.up q0q) (dq.up q0q) i B
  have cE:xj q _ _ _ _:=aJ.fk<|Qt (q:=q) aJ.fn ⟨mk,aS.at_,aS.fn,kc⟩ (dj.mono q0q) cu cw (ds.up q0q) (k_fill.up q0q) (dt.up q0q) (m.up q0q) B
  have cF:xj q _ _ _ _:=aK.fk<|Qv (q:=q) aK.fn B
  exact XU (XQ<|Wg (q:=q) dF (dG.up q0q) (cE.up q0q) (cF.up q0q) (k_same.up q0q) (bY.up q0q) (bH.up q0q) (bI.up q0q) B) λ_ _ _ _ z=>z
theorem walk{l:pF}{q:gf}{loose:List Str}{XP:(Str->Option cr)->gE->Prop}{YP:gu->gE->Prop}{d:DefRec}{K:Params->fB}{dx:DefRec}(hn:l.most=some 63)(hdf:d.params.defaults=[])
  (hY:∀(w:gu)(h:gE),YP w h->(K w.params).In h) (a0g:(PyProof.Rows.recsOf q).find? (λe=>e.name==("is_sum":Str))=some dx)
  (F:∀(w:gu)(mg:Str->Option cr)(fa:ci)(h:gE),(K w.params).In h->h.Ns f7 mg->mg d.name=some (.ref fa) ->
   ∃(c tab:ci)(fd:gF),mz (K w.params) "is_sum"=some (c,tab)/\(K w.params).lookup tab=none/\(∀(s:fH)(u:cr),rg s fd ⟨[u],[]⟩ [("_law_script",u)]) /\
    ∀base:gE,(K w.params).In base->base.Ns f7 mg->Hk mg base c tab->uE l.prog w (K w.params) mg base NF 11 fa fd ["_law_script"] (KY (K w.params) tab)) :
  tR q loose XP YP l.row.toRowW d [] (λf vs=>sw f vs) :=
 L2.NU (n:=63) (k:=11) (x:="_law_script") (tx:="is_sum") (CX:=NF) (sp:=λ_ K tab=>KY K tab) hn q0q hdf ⟨rfl,q0q,q0q⟩ hY a0g F (λ_ K H a tab ns _ hS hH=>⟨a,ns,rfl,hS,⟨#[],hH,trivial⟩,λ_=>rfl⟩) λ_ _ _ _ z=>z
end K7
open WL
open K7
local macro_rules | `(tactic| walk_at "kf") => `(tactic| exact dq_mk (by k_is) (by k_is) (by k_is) (by k_is))
local macro_rules | `(tactic| walk_at "km") => `(tactic| exact mq_mk (by k_is) (by k_is) (by k_is) (by k_is) (by k_is))
local macro_rules | `(tactic| walk_at "kx") => `(tactic| exact mx_mk (by k_is) (by k_is) (by k_is) (by k_is) (by k_is) (by k_is) (by rfl) (by rfl) (by k_is))
local macro_rules | `(tactic| walk_at "ks") => `(tactic| exact sx_mk (by rfl) (by k_is) (by k_is) (by k_is) (by k_is) (by k_is))
set_option tactic.hygienic true
set_option hygiene true
namespace PySem.W.Fast
def tw12211246951252865573:=0
def tw5146744364534083966:=0
def tw1038010016906122848:=0
def tw7845129101482482273:=0
def tw17169005692964542748:=0
def tw8316899042288819602:=0
def tw4516683622718914386:=0
def tw12761343926208099778:=0
def tw17493816408740510855:=0
def tw17025781002192439831:=0
def tw1040792728295684932:=0
def tw12456178794482624522:=0
def tw940063927870737395:=0
def tw6384589852338832633:=0
def tw13691426295729458130:=0
def tw12090705216882650614:=0
def tw15607725576940226467:=0
def tw1754173989049534350:=0
def tw8320195099941440441:=0
def tw9836231863654256884:=0
def tw8134028735724649799:=0
def tw14175154194391518923:=0
def tw17064371958961663975:=0
def tw758966103408057506:=0
def tw16579153339655361916:=0
def tw9790196369477639256:=0
def tw17635342867021515239:=0
def tw15252190417283371107:=0
def tw439286134713709275:=0
def tw3769701845541834194:=0
def tw15207926570642448504:=0
def tw7329074929291178564:=0
def tw693911512892657393:=0
def tw10469427627589708253:=0
def tw5025353362689573156:=0
def tw18043589422065160438:=0
def tw6152933688191360617:=0
def tw12185641019616936030:=0
def tw13288441193568110487:=0
def tw15187411792699835208:=0
def tw8076660799581485572:=0
def tw8643880963352821812:=0
def tw10981252862908080856:=0
def tw4203010775136271704:=0
def tw17224521099941623410:=0
def tw17061153285515664213:=0
def tw3628148948375501461:=0
def tw12969026476034382862:=0
def tw7595810046349260603:=0
def tw11163793928332337814:=0
def tw16823733071734825196:=0
def tw1781331847081655069:=0
def tw12180910855786899074:=0
def tw14355707354227462845:=0
def tw7004042096533757031:=0
def tw6097240783965733223:=0
def tw13484756625681814416:=0
def tw8862982406486564838:=0
def tw18103336091744627540:=0
def tw14037512024904609441:=0
def tw1758213201513956476:=0
def tw2819145737737009250:=0
def tw17095525714667771019:=0
def tw17593552459039520650:=0
def tw8606590900395266174:=0
def tw16022487966466066471:=0
def tw16968983833034837894:=0
def tw10852692733068510061:=0
def tw18284040986032883754:=0
def tw5201926887650908085:=0
def tw8950124158374881216:=0
def tw6100905987069060003:=0
def tw10845251411220704310:=0
def tw7289685913051505285:=0
def tw17300668259265652368:=0
def tw5565295828225723219:=0
def tw16191899435424571024:=0
def tw15771765724338078932:=0
def tw14214201198500123781:=0
def tw11470016500647813093:=0
def tw10980286331199554013:=0
def tw13112097632810095620:=0
def tw17848637522644057904:=0
def tw17268922227749847452:=0
def tw8046356446929550701:=0
def tw1883249378052947494:=0
def tw12641553908482355752:=0
def tw2038107459314247728:=0
def tw14611666318267754850:=0
def tw10312279776492623170:=0
def tw7969754643514016697:=0
def tw13780610163305583382:=0
def tw17110868270140078372:=0
def tw11536496772968066423:=0
def tw17480285640145618730:=0
def tw10827147460369121821:=0
def tw4637760225271184079:=0
def tw5549986373973960161:=0
def tw11589181742537206807:=0
def tw5925939244951367838:=0
def tw2857685967454302171:=0
def tw66313362950823231:=0
def tw6763099023231859639:=0
def tw12457229918611440566:=0
def tw9018336939207429613:=0
def tw8938491253898096672:=0
def tw301349360402141948:=0
def tw8426014831573565614:=0
def tw8062352411742189249:=0
def tw9200773211727611673:=0
def tw15973115429940575406:=0
def tw14709482962704216341:=0
def tw6310900623943547237:=0
def tw1452773976892304901:=0
def tw3938056983253370610:=0
def tw1721520455687333511:=0
def tw4067713288004444543:=0
def tw10604888559134498045:=0
def tw19476518182177927:=0
def tw15619822403371155516:=0
def tw13868678243344571736:=0
def tw15491975595049120423:=0
def tw6375162917452416300:=0
def tw17757409628712861266:=0
def tw10756333261500560169:=0
def tw5949217253121824379:=0
def tw282942098732035834:=0
def tw3557758507281238344:=0
def tw12010405756855339182:=0
def tw9940958460681752431:=0
def tw13941809594580678297:=0
def tw12358123115274827687:=0
def tw9125223310105279766:=0
def tw8944320781548943907:=0
def tw6621829727299495617:=0
def tw1603432229299831815:=0
def tw10473330948579911138:=0
def tw10375464587142500001:=0
def tw8002319275880434425:=0
end PySem.W.Fast
open PySem PySem.W PyProof.Rows
set_option maxHeartbeats 0 in
theorem PySem.Challenge.cw_slimbody_k22_the_border_of_a_head_holds : PySem.Challenge.rw_slimbody_k22_the_border_of_a_head.Holds := by
  w_on; o_law; k_head; (case hw => w_witness2)
  k_fill
  refine K7.walk (l := PySem.Challenge.rw_slimbody_k22_the_border_of_a_head) rfl rfl (fun w h Y => PySem.W.kIn_of Y) (by rfl) ?j2q
  case j2q =>
    intro w mg fa h KX G hmg
    refine' K7.all_mk KX G hmg ?j1L ?j1M ?j1N ?j1O ?j1P ?j1Q ?j1s ?j1R ?j1S ?j1T ?j1U ?j0c ?j0J ?j0a ?j0K ?j0D ?j1n ?j0V ?j0W ?j0X ?j0Y ?j0Z ?j1a ?j0L ?j1o ?j1b ?j0M ?j0q ?j1c ?j1d ?j1e ?j0N ?j0O ?j1V ?j0d ?j0h ?j0b ?j0r ?j0P ?j0Q ?j0E ?j0s ?j0R ?j0i ?j1p ?j0S ?j1q ?j1r ?j0T ?j0U ?j1f ?j1g ?j0j ?j0k ?j0F ?j0G ?j1h ?j1i ?j0n ?j0o ?j1W ?j1X ?j1Y ?j1Z ?j2a ?j2b ?j2c ?j2d ?j2e ?j2f ?j2g ?j1t ?j1u ?j1v ?j1w ?j0t ?j0u ?j0H ?j0I ?j0l ?j0m ?j0v ?j0w ?j0e ?j0f ?j1j ?j1k ?j0x ?j0y ?j0z ?j0A ?j1l ?j1m ?j0B ?j0C ?j0g ?j0p ?j1x ?j1y ?j2h ?j1z ?j1A ?j1B ?j2i ?j2j ?j2k ?j2l ?j2m ?j1C ?j1D ?j1E ?j1F ?j1G ?j2n ?j1H ?j2o ?j1I ?j1J ?j1K ?j2p
    (case j1L => k_is)
    (case j1M => k_is)
    (case j1N => k_is)
    (case j1O => k_is)
    (case j1P => k_is)
    (case j1Q => rfl)
    (case j1s => rfl)
    (case j1R => k_is)
    (case j1S => k_is)
    (case j1T => k_is)
    (case j1U => k_is)
    (case j0c => walk_at "kf")
    (case j0J => walk_at "kf")
    (case j0a => walk_at "kf")
    (case j0K => walk_at "kf")
    (case j0D => walk_at "kf")
    (case j1n => walk_at "kf")
    (case j0V => walk_at "kf")
    (case j0W => walk_at "kf")
    (case j0X => walk_at "kf")
    (case j0Y => walk_at "kf")
    (case j0Z => walk_at "kf")
    (case j1a => walk_at "kf")
    (case j0L => walk_at "kf")
    (case j1o => walk_at "kf")
    (case j1b => walk_at "kf")
    (case j0M => walk_at "kf")
    (case j0q => walk_at "kf")
    (case j1c => walk_at "kf")
    (case j1d => walk_at "kf")
    (case j1e => walk_at "kf")
    (case j0N => walk_at "kf")
    (case j0O => walk_at "kf")
    (case j1V => k_is)
    (case j0d => walk_at "km")
    (case j0h => walk_at "km")
    (case j0b => walk_at "km")
    (case j0r => walk_at "km")
    (case j0P => walk_at "km")
    (case j0Q => walk_at "km")
    (case j0E => walk_at "km")
    (case j0s => walk_at "km")
    (case j0R => walk_at "km")
    (case j0i => walk_at "km")
    (case j1p => walk_at "km")
    (case j0S => walk_at "km")
    (case j1q => walk_at "kx")
    (case j1r => walk_at "ks")
    (case j0T => walk_at "kx")
    (case j0U => walk_at "ks")
    (case j1f => walk_at "kx")
    (case j1g => walk_at "ks")
    (case j0j => walk_at "kx")
    (case j0k => walk_at "ks")
    (case j0F => walk_at "kx")
    (case j0G => walk_at "ks")
    (case j1h => walk_at "kx")
    (case j1i => walk_at "ks")
    (case j0n => walk_at "kx")
    (case j0o => walk_at "ks")
    (case j1W => k_is)
    (case j1X => k_is)
    (case j1Y => k_is)
    (case j1Z => k_is)
    (case j2a => k_is)
    (case j2b => k_is)
    (case j2c => k_is)
    (case j2d => k_is)
    (case j2e => k_is)
    (case j2f => k_is)
    (case j2g => k_is)
    (case j1t => k_is)
    (case j1u => k_is)
    (case j1v => k_is)
    (case j1w => rfl)
    (case j0t => k_is)
    (case j0u => k_exc)
    (case j0H => k_is)
    (case j0I => k_exc)
    (case j0l => k_is)
    (case j0m => k_exc)
    (case j0v => k_is)
    (case j0w => k_exc)
    (case j0e => k_is)
    (case j0f => k_exc)
    (case j1j => k_is)
    (case j1k => k_exc)
    (case j0x => k_is)
    (case j0y => k_exc)
    (case j0z => k_is)
    (case j0A => k_exc)
    (case j1l => k_is)
    (case j1m => k_exc)
    (case j0B => k_is)
    (case j0C => k_exc)
    (case j0g => k_is)
    (case j0p => k_is)
    (case j1x => k_is)
    (case j1y => k_is)
    (case j2h => k_is)
    (case j1z => k_is)
    (case j1A => kernel_rfl)
    (case j1B => kernel_rfl)
    (case j2i => k_is)
    (case j2j => k_is)
    (case j2k => k_is)
    (case j2l => rfl)
    (case j2m => rfl)
    (case j1C => k_is)
    (case j1D => k_is)
    (case j1E => k_is)
    (case j1F => rfl)
    (case j1G => k_is)
    (case j2n => k_is)
    (case j1H => k_is)
    (case j2o => k_is)
    (case j1I => first | rfl | kernel_rfl)
    (case j1J => first | rfl | kernel_rfl)
    (case j1K => k_is)
    (case j2p => constructor <;> k_is)
