import PyProof.Rows.All
import Wide.All
import OpenK.AllK
import Wide.FinOn
import Lean
import PyProof.EqAt
import PyProof.EqKinds
import PyProof.TupleCall
import PyProof.Rows.SetFrom
import PyProof.Rows.SortWalkRead
import PyProof.Rows.EqDataRows
import PyProof.CompFree
import PyProof.ZipIter
import PyProof.Rows.ZipGen
import PyProof.GenCompD
import PyProof.CodeObjX
import KE.KNest
import PyProof.DictWalks
import PyProof.AutoListH
import PyProof.WalksMore
import PyProof.Draws
import PyProof.EnumFor
import PyProof.EnumMake
import PyProof.EnumStmt
import PyProof.Rows.EnumRows
import KE.KSuper
import PyProof.WalkInts
import KE.KTryMore
import PyProof.ExcClass2
import PyProof.ExcInit
import PyProof.InstStore
import PyProof.ExcBaseAll.ValueError
import PyProof.InstStoreFacts
import KE.KSortTup
import PyProof.Rows.SortShellK
import PyProof.DictCompW
import KE.KRevSl
import PySem.Challenge.RW_slimbody_k27_whole_carried_up_without_ta
set_option Elab.async false
set_option linter.all false
set_option tactic.hygienic false
set_option compiler.extract_closed false
set_option hygiene false
set_option genSizeOf false
set_option genInjectivity false
set_option maxRecDepth 100000
set_option maxHeartbeats 4000000
theorem e0a2  {p0:Prop} {p1:Prop} {G:Prop} (h:p0/\p1) (k:p0->p1->G):G:=by obtain ⟨h0,h1⟩:=h;exact k h0 h1
theorem e0a3  {p0:Prop} {p1:Prop} {p2:Prop} {G:Prop} (h:p0/\p1/\p2) (k:p0->p1->p2->G):G:=by obtain ⟨h0,h1,h2⟩:=h;exact k h0 h1 h2
theorem e0a4  {p0:Prop} {p1:Prop} {p2:Prop} {p3:Prop} {G:Prop} (h:p0/\p1/\p2/\p3) (k:p0->p1->p2->p3->G):G:=by obtain ⟨h0,h1,h2,h3⟩:=h;exact k h0 h1 h2 h3
theorem e0a6  {p0:Prop} {p1:Prop} {p2:Prop} {p3:Prop} {p4:Prop} {p5:Prop} {G:Prop} (h:p0/\p1/\p2/\p3/\p4/\p5) (k:p0->p1->p2->p3->p4->p5->G):G:=by obtain ⟨h0,h1,h2,h3,h4,h5⟩:=h;exact k h0 h1 h2 h3 h4 h5
theorem e1a1 {uT:Sort _} {p0:uT->Prop} {G:Prop} (h:∃ x0:uT,p0 x0) (k:∀ x0:uT,p0 x0->G):G:=by obtain ⟨x0,h0⟩:=h;exact k x0 h0
theorem e1a2 {uT:Sort _} {p0:uT->Prop} {p1:uT->Prop} {G:Prop} (h:∃ x0:uT,p0 x0/\p1 x0) (k:∀ x0:uT,p0 x0->p1 x0->G):G:=by obtain ⟨x0,h0,h1⟩:=h;exact k x0 h0 h1
theorem e1a3 {uT:Sort _} {p0:uT->Prop} {p1:uT->Prop} {p2:uT->Prop} {G:Prop} (h:∃ x0:uT,p0 x0/\p1 x0/\p2 x0) (k:∀ x0:uT,p0 x0->p1 x0->p2 x0->G):G:=by obtain ⟨x0,h0,h1,h2⟩:=h;exact k x0 h0 h1 h2
theorem e1a4 {uT:Sort _} {p0:uT->Prop} {p1:uT->Prop} {p2:uT->Prop} {p3:uT->Prop} {G:Prop} (h:∃ x0:uT,p0 x0/\p1 x0/\p2 x0/\p3 x0) (k:∀ x0:uT,p0 x0->p1 x0->p2 x0->p3 x0->G):G:=by obtain ⟨x0,h0,h1,h2,h3⟩:=h;exact k x0 h0 h1 h2 h3
theorem e2a2 {uT:Sort _} {vn:Sort _} {p0:uT->vn->Prop} {p1:uT->vn->Prop} {G:Prop} (h:∃ x0:uT,∃ x1:vn,p0 x0 x1/\p1 x0 x1) (k:∀ x0:uT,∀ x1:vn,p0 x0 x1->p1 x0 x1->G):G:=by obtain ⟨x0,x1,h0,h1⟩:=h;exact k x0 x1 h0 h1
theorem e2a3 {uT:Sort _} {vn:Sort _} {p0:uT->vn->Prop} {p1:uT->vn->Prop} {p2:uT->vn->Prop} {G:Prop} (h:∃ x0:uT,∃ x1:vn,p0 x0 x1/\p1 x0 x1/\p2 x0 x1) (k:∀ x0:uT,∀ x1:vn,p0 x0 x1->p1 x0 x1->p2 x0 x1->G):G:=by obtain ⟨x0,x1,h0,h1,h2⟩:=h;exact k x0 x1 h0 h1 h2
theorem e2a4 {uT:Sort _} {vn:Sort _} {p0:uT->vn->Prop} {p1:uT->vn->Prop} {p2:uT->vn->Prop} {p3:uT->vn->Prop} {G:Prop} (h:∃ x0:uT,∃ x1:vn,p0 x0 x1/\p1 x0 x1/\p2 x0 x1/\p3 x0 x1) (k:∀ x0:uT,∀ x1:vn,p0 x0 x1->p1 x0 x1->p2 x0 x1->p3 x0 x1->G):G:=by obtain ⟨x0,x1,h0,h1,h2,h3⟩:=h;exact k x0 x1 h0 h1 h2 h3
theorem e2a5 {uT:Sort _} {vn:Sort _} {p0:uT->vn->Prop} {p1:uT->vn->Prop} {p2:uT->vn->Prop} {p3:uT->vn->Prop} {p4:uT->vn->Prop} {G:Prop} (h:∃ x0:uT,∃ x1:vn,p0 x0 x1/\p1 x0 x1/\p2 x0 x1/\p3 x0 x1/\p4 x0 x1) (k:∀ x0:uT,∀ x1:vn,p0 x0 x1->p1 x0 x1->p2 x0 x1->p3 x0 x1->p4 x0 x1->G):G:=by obtain ⟨x0,x1,h0,h1,h2,h3,h4⟩:=h;exact k x0 x1 h0 h1 h2 h3 h4
theorem e3a2 {uT:Sort _} {vn:Sort _} {vZ:Sort _} {p0:uT->vn->vZ->Prop} {p1:uT->vn->vZ->Prop} {G:Prop} (h:∃ x0:uT,∃ x1:vn,∃ x2:vZ,p0 x0 x1 x2/\p1 x0 x1 x2) (k:∀ x0:uT,∀ x1:vn,∀ x2:vZ,p0 x0 x1 x2->p1 x0 x1 x2->G):G:=by obtain ⟨x0,x1,x2,h0,h1⟩:=h;exact k x0 x1 x2 h0 h1
theorem e3a3 {uT:Sort _} {vn:Sort _} {vZ:Sort _} {p0:uT->vn->vZ->Prop} {p1:uT->vn->vZ->Prop} {p2:uT->vn->vZ->Prop} {G:Prop} (h:∃ x0:uT,∃ x1:vn,∃ x2:vZ,p0 x0 x1 x2/\p1 x0 x1 x2/\p2 x0 x1 x2) (k:∀ x0:uT,∀ x1:vn,∀ x2:vZ,p0 x0 x1 x2->p1 x0 x1 x2->p2 x0 x1 x2->G):G:=by obtain ⟨x0,x1,x2,h0,h1,h2⟩:=h;exact k x0 x1 x2 h0 h1 h2
theorem e3a4 {uT:Sort _} {vn:Sort _} {vZ:Sort _} {p0:uT->vn->vZ->Prop} {p1:uT->vn->vZ->Prop} {p2:uT->vn->vZ->Prop} {p3:uT->vn->vZ->Prop} {G:Prop} (h:∃ x0:uT,∃ x1:vn,∃ x2:vZ,p0 x0 x1 x2/\p1 x0 x1 x2/\p2 x0 x1 x2/\p3 x0 x1 x2) (k:∀ x0:uT,∀ x1:vn,∀ x2:vZ,p0 x0 x1 x2->p1 x0 x1 x2->p2 x0 x1 x2->p3 x0 x1 x2->G):G:=by obtain ⟨x0,x1,x2,h0,h1,h2,h3⟩:=h;exact k x0 x1 x2 h0 h1 h2 h3
theorem e3a5 {uT:Sort _} {vn:Sort _} {vZ:Sort _} {p0:uT->vn->vZ->Prop} {p1:uT->vn->vZ->Prop} {p2:uT->vn->vZ->Prop} {p3:uT->vn->vZ->Prop} {p4:uT->vn->vZ->Prop} {G:Prop} (h:∃ x0:uT,∃ x1:vn,∃ x2:vZ,p0 x0 x1 x2/\p1 x0 x1 x2/\p2 x0 x1 x2/\p3 x0 x1 x2/\p4 x0 x1 x2) (k:∀ x0:uT,∀ x1:vn,∀ x2:vZ,p0 x0 x1 x2->p1 x0 x1 x2->p2 x0 x1 x2->p3 x0 x1 x2->p4 x0 x1 x2->G):G:=by obtain ⟨x0,x1,x2,h0,h1,h2,h3,h4⟩:=h;exact k x0 x1 x2 h0 h1 h2 h3 h4
theorem e4a4 {uT:Sort _} {vn:Sort _} {vZ:Sort _} {xB:Sort _} {p0:uT->vn->vZ->xB->Prop} {p1:uT->vn->vZ->xB->Prop} {p2:uT->vn->vZ->xB->Prop} {p3:uT->vn->vZ->xB->Prop} {G:Prop} (h:∃ x0:uT,∃ x1:vn,∃ x2:vZ,∃ x3:xB,p0 x0 x1 x2 x3/\p1 x0 x1 x2 x3/\p2 x0 x1 x2 x3/\p3 x0 x1 x2 x3) (k:∀ x0:uT,∀ x1:vn,∀ x2:vZ,∀ x3:xB,p0 x0 x1 x2 x3->p1 x0 x1 x2 x3->p2 x0 x1 x2 x3->p3 x0 x1 x2 x3->G):G:=by obtain ⟨x0,x1,x2,x3,h0,h1,h2,h3⟩:=h;exact k x0 x1 x2 x3 h0 h1 h2 h3
theorem e4a6 {uT:Sort _} {vn:Sort _} {vZ:Sort _} {xB:Sort _} {p0:uT->vn->vZ->xB->Prop} {p1:uT->vn->vZ->xB->Prop} {p2:uT->vn->vZ->xB->Prop} {p3:uT->vn->vZ->xB->Prop} {p4:uT->vn->vZ->xB->Prop} {p5:uT->vn->vZ->xB->Prop} {G:Prop} (h:∃ x0:uT,∃ x1:vn,∃ x2:vZ,∃ x3:xB,p0 x0 x1 x2 x3/\p1 x0 x1 x2 x3/\p2 x0 x1 x2 x3/\p3 x0 x1 x2 x3/\p4 x0 x1 x2 x3/\p5 x0 x1 x2 x3) (k:∀ x0:uT,∀ x1:vn,∀ x2:vZ,∀ x3:xB,p0 x0 x1 x2 x3->p1 x0 x1 x2 x3->p2 x0 x1 x2 x3->p3 x0 x1 x2 x3->p4 x0 x1 x2 x3->p5 x0 x1 x2 x3->G):G:=by obtain ⟨x0,x1,x2,x3,h0,h1,h2,h3,h4,h5⟩:=h;exact k x0 x1 x2 x3 h0 h1 h2 h3 h4 h5
theorem e5a3 {uT:Sort _} {vn:Sort _} {vZ:Sort _} {xB:Sort _} {Ah:Sort _} {p0:uT->vn->vZ->xB->Ah->Prop} {p1:uT->vn->vZ->xB->Ah->Prop} {p2:uT->vn->vZ->xB->Ah->Prop} {G:Prop} (h:∃ x0:uT,∃ x1:vn,∃ x2:vZ,∃ x3:xB,∃ x4:Ah,p0 x0 x1 x2 x3 x4/\p1 x0 x1 x2 x3 x4/\p2 x0 x1 x2 x3 x4) (k:∀ x0:uT,∀ x1:vn,∀ x2:vZ,∀ x3:xB,∀ x4:Ah,p0 x0 x1 x2 x3 x4->p1 x0 x1 x2 x3 x4->p2 x0 x1 x2 x3 x4->G):G:=by obtain ⟨x0,x1,x2,x3,x4,h0,h1,h2⟩:=h;exact k x0 x1 x2 x3 x4 h0 h1 h2
theorem e5a4 {uT:Sort _} {vn:Sort _} {vZ:Sort _} {xB:Sort _} {Ah:Sort _} {p0:uT->vn->vZ->xB->Ah->Prop} {p1:uT->vn->vZ->xB->Ah->Prop} {p2:uT->vn->vZ->xB->Ah->Prop} {p3:uT->vn->vZ->xB->Ah->Prop} {G:Prop} (h:∃ x0:uT,∃ x1:vn,∃ x2:vZ,∃ x3:xB,∃ x4:Ah,p0 x0 x1 x2 x3 x4/\p1 x0 x1 x2 x3 x4/\p2 x0 x1 x2 x3 x4/\p3 x0 x1 x2 x3 x4) (k:∀ x0:uT,∀ x1:vn,∀ x2:vZ,∀ x3:xB,∀ x4:Ah,p0 x0 x1 x2 x3 x4->p1 x0 x1 x2 x3 x4->p2 x0 x1 x2 x3 x4->p3 x0 x1 x2 x3 x4->G):G:=by obtain ⟨x0,x1,x2,x3,x4,h0,h1,h2,h3⟩:=h;exact k x0 x1 x2 x3 x4 h0 h1 h2 h3
theorem e5a6 {uT:Sort _} {vn:Sort _} {vZ:Sort _} {xB:Sort _} {Ah:Sort _} {p0:uT->vn->vZ->xB->Ah->Prop} {p1:uT->vn->vZ->xB->Ah->Prop} {p2:uT->vn->vZ->xB->Ah->Prop} {p3:uT->vn->vZ->xB->Ah->Prop} {p4:uT->vn->vZ->xB->Ah->Prop} {p5:uT->vn->vZ->xB->Ah->Prop} {G:Prop} (h:∃ x0:uT,∃ x1:vn,∃ x2:vZ,∃ x3:xB,∃ x4:Ah,p0 x0 x1 x2 x3 x4/\p1 x0 x1 x2 x3 x4/\p2 x0 x1 x2 x3 x4/\p3 x0 x1 x2 x3 x4/\p4 x0 x1 x2 x3 x4/\p5 x0 x1 x2 x3 x4) (k:∀ x0:uT,∀ x1:vn,∀ x2:vZ,∀ x3:xB,∀ x4:Ah,p0 x0 x1 x2 x3 x4->p1 x0 x1 x2 x3 x4->p2 x0 x1 x2 x3 x4->p3 x0 x1 x2 x3 x4->p4 x0 x1 x2 x3 x4->p5 x0 x1 x2 x3 x4->G):G:=by obtain ⟨x0,x1,x2,x3,x4,h0,h1,h2,h3,h4,h5⟩:=h;exact k x0 x1 x2 x3 x4 h0 h1 h2 h3 h4 h5
theorem e6a2 {uT:Sort _} {vn:Sort _} {vZ:Sort _} {xB:Sort _} {Ah:Sort _} {Rz:Sort _} {p0:uT->vn->vZ->xB->Ah->Rz->Prop} {p1:uT->vn->vZ->xB->Ah->Rz->Prop} {G:Prop} (h:∃ x0:uT,∃ x1:vn,∃ x2:vZ,∃ x3:xB,∃ x4:Ah,∃ x5:Rz,p0 x0 x1 x2 x3 x4 x5/\p1 x0 x1 x2 x3 x4 x5) (k:∀ x0:uT,∀ x1:vn,∀ x2:vZ,∀ x3:xB,∀ x4:Ah,∀ x5:Rz,p0 x0 x1 x2 x3 x4 x5->p1 x0 x1 x2 x3 x4 x5->G):G:=by obtain ⟨x0,x1,x2,x3,x4,x5,h0,h1⟩:=h;exact k x0 x1 x2 x3 x4 x5 h0 h1
theorem e7a2 {uT:Sort _} {vn:Sort _} {vZ:Sort _} {xB:Sort _} {Ah:Sort _} {Rz:Sort _} {Zi:Sort _} {p0:uT->vn->vZ->xB->Ah->Rz->Zi->Prop} {p1:uT->vn->vZ->xB->Ah->Rz->Zi->Prop} {G:Prop} (h:∃ x0:uT,∃ x1:vn,∃ x2:vZ,∃ x3:xB,∃ x4:Ah,∃ x5:Rz,∃ x6:Zi,p0 x0 x1 x2 x3 x4 x5 x6/\p1 x0 x1 x2 x3 x4 x5 x6) (k:∀ x0:uT,∀ x1:vn,∀ x2:vZ,∀ x3:xB,∀ x4:Ah,∀ x5:Rz,∀ x6:Zi,p0 x0 x1 x2 x3 x4 x5 x6->p1 x0 x1 x2 x3 x4 x5 x6->G):G:=by obtain ⟨x0,x1,x2,x3,x4,x5,x6,h0,h1⟩:=h;exact k x0 x1 x2 x3 x4 x5 x6 h0 h1
theorem us0 {α:Type} {P:List α->Prop} (h:P []) (us:List α) (e:us.length=0):P us:=by
 cases us with
 | nil=>exact h
 | cons=>cases e
theorem us1 {α:Type} {P:List α->Prop} (h:∀ a,P [a]) (us:List α) (e:us.length=1):P us:=by
 cases us with
 | nil=>cases e
 | cons a t=>exact us0 (P:=fun t=>P (a :: t)) (h a) t (Nat.succ.inj e)
theorem us2 {α:Type} {P:List α->Prop} (h:∀ a b,P [a,b]) (us:List α) (e:us.length=2):P us:=by
 cases us with
 | nil=>cases e
 | cons a t=>exact us1 (P:=fun t=>P (a :: t)) (h a) t (Nat.succ.inj e)
theorem us3 {α:Type} {P:List α->Prop} (h:∀ a b c,P [a,b,c]) (us:List α) (e:us.length=3):P us:=by
 cases us with
 | nil=>cases e
 | cons a t=>exact us2 (P:=fun t=>P (a :: t)) (h a) t (Nat.succ.inj e)
theorem us4 {α:Type} {P:List α->Prop} (h:∀ a b c d,P [a,b,c,d]) (us:List α) (e:us.length=4):P us:=by
 cases us with
 | nil=>cases e
 | cons a t=>exact us3 (P:=fun t=>P (a :: t)) (h a) t (Nat.succ.inj e)
theorem cutG {α:Sort _} {G:α->Prop} {P:Prop} (k:(∀ a,G a)->P) (h:∀ a,G a):P:=k h
theorem cutP {G P:Prop} (k:G->P) (h:G):P:=k h
theorem lx0 {α:Type} (us:List α) (e:us.length=0):us=[]:=us0 (P:=fun us=>us=[]) rfl us e
theorem lx1 {α:Type} (us:List α) (e:us.length=1):∃ a,us=[a]:=us1 (P:=fun us=>∃ a,us=[a]) (fun a=>⟨a,rfl⟩) us e
theorem lx2 {α:Type} (us:List α) (e:us.length=2):∃ a b,us=[a,b]:=us2 (P:=fun us=>∃ a b,us=[a,b]) (fun a b=>⟨a,b,rfl⟩) us e
open PySem renaming wpAny_bind->am,wpAny_pure->ap,Value->ci,Addr->cr,starEach->f9,sizeLine->gf,Shared->gk,wpAny->gn,model->gp,mainGlobals->gz,Stmt->gP,Program->gS,wpAny_holding->gV,attributeBase->gY,FuncData->g9,wpAny_newObj_type->hI,Expr->hO,Heap->hR,World->ic,wpAny_call_entry->ie,wpAny_mono->io,behindInMarks->iq,sizeLine_eq->iu,wpAny_field->iv,wpAny_setState_of->iz,backTo->iJ,Around->iR,compareOp->iT,excClassObj->iZ,wpAny_askSetting->i7,SetTable->ja,wpAny_loadPart_at->jc,codeAny_builtin->jf,wpAny_setField_rec->ji,codeAny_mono->jl,swapsWith->jp,mem_of_lookup->jx,wpAny_truthy_bool->jA,foldedSetIterable->jB,intKind->jG,ExcBaseFacts->jI,wpAny_Call_Name_kw->jO,cLine->jQ,wpAny_loadName_local->jV,holding->jW,keywordEach->jX,wpAny_typeOf->jY,sysModules->j4,plainId_quiet->j5,wpAny_seqItems->kg,unsupported->ku,tupleKind_room_in1->kA,wpAny_passesOwn->kH,rawInt->kM,builtinLookup_eq_fast->kO,Scope->kZ,wpAny_rule->k8,wpAny_isInstance->lq,binaryOp->lF,codeAny->lJ,codeAny_of_tree->lM,wpAny_call->lP,getMethod->lQ,wpAny_of_eq->lR,bootBuiltins->lY,standAt->lZ,backToKw->l6,wpAny_setField->md,typeLookup->mu,hashInt->my,wpAny_standAt->mB,callWith->mC,sliceBounds->mD,codeAny_call_builtin->mH,boot_len->mI,wpAny_execs_nil->mS,typeLookup_type->mV,getItem->m6,call_meetsIn->m9,builtinsNs->ny,closureFor->nE,relabel->n8,wpAny_attempt->om,wpAny_comprehension_free->oo,wpAny_onRaise->oq,tupleKind->ou,GenState->oz,wpAny_Name->oR,assignEach->oS,Keyword->oU,intKind_is->oX,sub_set_self->oY,wpAny_specialOf->o4,wpAny_updateSeq->o7,IsPart->pA,firstArgMember->pC,IsPair->pG,wpAny_updateSeq_pair->pH,valueAt->pK,wpAny_loadName_free->pO,wpAny_setEntries_of->pT,Obj->pV,wpAny_isSubtype_exc->pX,isTrue->qa,wpAny_load->qb,wpAny_pyIter_tuple->qc,CmpOp->qu,wpAny_Call_method->qv,callerA->qw,cStatics->qz,ks_wpAt_mono->qA,plainObj_wpAny_Assign_Attribute->qF,wpAny_eqBool_int->qK,PassesOwn->qL,argsOk->qN,subscripted->qV,IsZip->rf,wpAny_letGo->rg,Within->rh,wpAny_AugAssign_SubscriptAny->ro,letOwnedTupleGo->rq,wpAny_tests_nil->rA,setItem->rE,BindsTo->rG,OwnTail->rM,wpAny_Compare1->rO,assign->rP,recursionLimit->rR,bindArgs->rS,atKey->rX,relayAll->r8,storeSet->r9,entryFor->sd,entryFor_alias->se,wpAny_runValue->sf,isSubtype_type->sg,compEnvC->si,refuseLoop->sr,evalPart_none->sI,wpAny_getItem_list_slice->sJ,call->sK,wpAny_newList->sM,wpAt->sO,table->sV,pickOrder->sW,TriplesOk->sZ,noteFrame->td,field->tj,spliced->tE,truthy->tF,leaving->tG,seqIndex_neg->tJ,wpAny_Call_method_late->tL,wpAny_isTrue_Compare1->tT,weight_type_call_type->tX
open PySem.Heap renaming get?_push_of_some->ce,lt_size->gl,get?_push_size->gu,get?_update_other->gW,get?_update_self->hZ,SameBut->ij,size_push->iW,FlyingW->kQ,get?_none_of_le->mh,get?_push_at->ni,size_update->nM,get?_update_ne->o8,IsTuple->pM,MadeExcOf->qJ
open PySem.W renaming Frag->fZ,nsIn->gB,findIn->gN,mg_of->hX,envX->ig,keepIn->iC,excIn->iH,codeIn->iN,fnOf->iX,kia_one->i9,Looks->jg,emptyDict->jh,ks_superIn->jm,instObj->jK,fnX->jM,mroIn->j9,exmAny->kD,hideAll->kW,methodObj->lw,fnIn->lE,plainGet->lO,clsIn->lS,kas_rev_size->mf,of_hideAll->mr,hasDictIn->mK,tabIn->mW,isFn->nA,methodCall_KW->nP,lookIn->oa,typeIn->og,looks_findIn->oh,hideAll_get->oy,plainGet_of->oA,looks_clsIn->oB,callWith_of->oJ,looks_mroIn->oK,ks_superObj->oM,callWith_K->oT,isNs_of_in->oZ,plainOver->pc,takerIn->pP,makesIn->pQ,OpenLaw->pU,kitOne->qd,CodeHd->qh,tabObj->qi,ks_loadName_global->qj,MethP->qC,kas_rev->qD,cellsFrom_some->qM,funFrames_hide->qO,hideAll_none->rj,looks_opaque->rD,callWith_K0->rH,codeRec_of->rV,tail_of_in->sj,mg_none_of->sk,kitx_list->sx,kitx_dict->sy,handedIn->sH,kat_cons->sP,keeps_M->tm,alongIn->tq,kas_place->tz,kat_yes->tD,kat_go->tQ,kat_no->tR,nsOkIn->tS,WalkO->tY
open Nat renaming le_refl->ga,ne_of_lt->gx,lt_of_lt_of_le->gD,le_trans->gO,zero_le->im,ne_of_gt->iG,lt_succ_self->iQ,lt_of_le_of_lt->iY,lt_irrefl->jj,le_of_lt_succ->jv,le_succ->kN,le_of_lt->kR,lt_trans->mE,succ_pos->mG,mod_lt->mU,lt_succ_of_lt->nq,le_add_right->nQ,le_of_eq->pR,sub_self->pW,le_of_not_lt->qe,zero_add->rZ,div_lt_of_lt_mul->sL,lt_trichotomy->tV
open List renaming mem_cons_self->gc,mem_cons_of_mem->gg,length_map->gh,size_toArray->gv,length_append->gw,mem_append_right->gE,length_singleton->gF,length_cons->gG,range->gH,map_cons->gK,mem_cons->gL,length_filter_le->gQ,lookup_cons->gX,find?_cons->h8,mem_append_left->il,not_mem_nil->iD,mem_filter->iE,getD_eq_getElem?_getD->iK,take_of_length_le->iM,filter_cons->iO,getElem?_eq_getElem->iP,getElem?_map->i4,mem_of_getElem?->jd,pairwise_singleton->je,getElem?_append_right->jk,map_append->jw,lookup->jD,getElem?_eq_none->jJ,append_nil->jN,map_map->jP,filterMap_cons->jU,replicate->jZ,mem_append->ki,length_range->kB,append_assoc->kC,getElem?_of_mem->kI,length_take->kP,getElem?_append_left->kS,length_set->lm,foldl_cons->lp,mem_singleton->lv,nodup_nil->lK,perm_append_comm->lU,length_drop->lW,getElem?_set_ne->mi,take_append_of_le_length->mj,length_nil->mn,nil_append->mo,map_congr_left->mw,drop_eq_getElem_cons->mY,length->m7,reverse_cons->m8,filter_congr->ng,any_cons->nj,eraseIdx_cons_succ->nJ,all_eq_true->nN,getElem?_set_self->nZ,map_nil->n6,filterMap_eq_map'->n9,of_mem_zip->oi,all_cons->ph,ext_getElem?->pL,eraseIdxIfInBounds_toArray->pS,filter_map->qq,getElem?_take_of_lt->qU,findIdx?->qY,getElem?_replicate->rr,getElem?_cons_succ->rC,pairwise_lt_range->rL,length_replicate->rT,take_append_drop->rY,eq_nil_or_concat->su,concat_eq_append->sv,getElem?_range->sN,filterMap_map->sR,getElem?_take->sS,getElem?_drop->sT,map_filterMap->sU,contains_cons->ts,take_sublist->tH,getElem_mem->tW,any_eq_true->tZ,drop_length->t6,zipIdx_cons->t7,take_length->t9,getElem_map->uc
open Array renaming length_toList->gm,getElem?_toList->gZ,getElem?_eq_getElem->iL,getD_eq_getD_getElem?->ko,size_map->lG,toList_extract->l9,toList_append->oV,append_assoc->o9,toList_push->pB,toList->rn,getElem?_eq_none->rB,find?_toList->sG
open Bool renaming false_ne_true->gr,and_eq_true->g8,false_eq_true->kf,eq_iff_iff->lj,xor_assoc->lN,xor_false->mQ,false_xor->oQ,and_self->pq,or_false->qZ,not_eq_true'->tP
open PySem.SetTable renaming below->gA,sizeAbove->hW,eraseAt->ik,runEnd->iA,insertAt->iB,bits->iF,leap->jy,fresh->jC,has->jL,turns->jR,fill->j7,Probe->kq,advance->kF,grown->lu,laid->mM,freeSlot->o5,layClean->o6,probe->pY,slot->qo,roomFor->sD,fits->tN,road->tO
open PySem.Value renaming ref->gC,type->ju,int->kK,isInt->lX,bool->qr,float->rN
open PySem.F renaming excBase_ValueError->gJ,slot_dict_get->jE,slot_tuple_iterator_next->kU,plainAttrs_list->lh,entry_dict_get->lx,plainAttrs_dict->nc,plain_list_iadd->nL,slot_list_pop->nX,type_list_pop->nY,plain_set_new->oO,slot_zip_next->oP,plain_extend_loop->pE,slot_dict_delitem->qm,args_dict_get_2->qG,args_dict_get_3->qH,args_tuple_iterator_next_1->qP,slot_dict_pop->qW,type_dict_get->qX,entry_tuple_iterator_next->rc,entry_proto_collect->sX,plain_proto_collect->sY
open Sum renaming inl->gM,inr->pN
open List.Pairwise renaming nil->gR,filter->i8,imp->oj
open False renaming elim->gU
open Option renaming isSome_map->hV,getD_none->pJ,map->sA
open Option.some renaming inj->ii
open PySem.SetTable.layClean renaming free->iw
open PySem.Builtin.SmallTypes renaming nextOf->iI,ownedTupleIsFree->jr,ownedTupleHandOut->mP
open PySem.Around renaming under_plainId->iU,under->qT,frames_deeper->rJ,under_plain->sF
open PySem.Calls renaming evalArgs_plain->iV,spliced_cons->jq,callWith_builtin->jz,spliced_nil->kj,loadGlobal_builtin->m4,Name_function_global->qt,call_function_entry->qI
open PySem.SetTable.probe renaming go->jb
open PyProof.Rows renaming callWith_type1->jt,boot_sorted->jF,slot_tuple_getitem->jH,boot_list->jS,IntsAre->kd,seqObj->lA,AllBare->mz,boot_set->mZ,envOfC->nO,callWith_builtin1->oN,Subscript_->rW,size_push'->sh,listUpdate_at->sQ,subscriptTail_builtinR->tK
open PySem.Spec renaming sameAll->jT,same->j0
open PySem.Builtin.Slice renaming slicePlaces->kh,sliceAdjust->pr
open PySem.Builtin.Tuple renaming tupleExact->ky,tupleItemsOf->pf
open Int renaming toNat_natCast->kE,le_refl->nw,emod_lt_of_pos->pI,emod_nonneg->qE
open PySem.Builtin.List renaming listSameRef->kG,listExtendWith->pi
open PySem.W.KasT renaming kasWp->kJ,kasWp_bind->mq
open PySem.Str renaming ofString->kT
open PySem.Heap.SameBut renaming refl->kX,update->nK
open PySem.Shared renaming TypeIs->kY
open PySem.SeqAt renaming noMixAll->lH,noMix->oF,shaped->rs
open ForInStep renaming yield->lV
open PySem.SetTable.below renaming go->l8
open Nat.succ renaming inj->ml
open Sum.inl renaming inj->mJ
open PySem.Code renaming quiet_builtin->mO,isFrame->rF
open PySem.PyData renaming canLayAll0->mX,depthAll->nV,canLay0->ot,depth->q7
open List.Perm renaming append_left->nC,cons->nS,refl->nW,of_eq->sC
open Or renaming inl->nI,inr->tU
open PyProof.Rows.F renaming plain_set_update_loop->ol,entry_set_update_loop->sE
open PySem.Builtin.Frozenset renaming newClass->oE,oneOther->oG
open String renaming splitOnAux->pw,splitOn->qp
open PySem.Heap.UpToSlots renaming of_keeps->pF
open Classical renaming byContradiction->pZ
open PyProof.Rows.IntsAre renaming int_at->qf,length->qg
open PySem.Heap.IsSliceOf renaming new->qk
open PySem.pickOrder renaming go->qx
open PySem.W.Looks renaming ld->qQ
open PySem.SeqAt.EqAt renaming int_str->qR,str_int->qS
open PySem.Heap.DictOf renaming new->rK
open PySem.Heap.Ns1 renaming of_empty->rQ
open PySem.Data renaming fields->sw
open Function renaming comp->tM
abbrev f7:=@if_pos
abbrev f8:=@if_neg
abbrev gy:=@absurd
abbrev gI:=@decide_eq_false
abbrev hJ:=@decide_eq_true_eq
abbrev jo:=@of_decide_eq_true
abbrev k9:=@or_false
abbrev oC:=@if_false
abbrev oH:=@beq_self_eq_true
abbrev oW:=@not_or
abbrev qy:=@bne_self_eq_false
theorem q0q{p:Prop}(h:p:=by decide):p:=h
theorem q0d{p:Prop}(h:p:=by omega):p:=h
theorem q0o{p:Prop}(h:p:=by simp):p:=h
theorem q0s{p:Prop}(h:p:=by decide +kernel):p:=h
theorem q0a{p:Prop}(h:p:=by lia):p:=h
namespace L2
open PySem PySem.Spec PyProof.Rows
abbrev Key:=Sum Int Str
def yX:Key->ci->Bool
 | .inl k,v=>lX k v
 | .inr x,v=>Value.isStrOf x v
def ZG(w:ic):Key->Int
 | .inl k=>my k
 | .inr x=>hashStr w x
theorem vp:∀{k:Key} {v:ci},yX k v=true->(∃i t,k=gM i/\v=kK i t)\/(∃x t,k=pN x/\v=Value.str x t)
 | .inl i,v,h=>by
  obtain⟨t,e⟩:=Value.isInt_shape (k:=i) (v:=v) h;exact .inl ⟨i,t,rfl,e⟩
 | .inr x,v,h=>by obtain⟨t,e⟩:=Value.isStrOf_shape (x:=x) (v:=v) h;exact .inr ⟨x,t,rfl,e⟩
theorem L8(i:Int)(t:Tok):yX (.inl i) (.int i t)=true:=by simp[yX,lX]
theorem L9(x:Str)(t:Tok):yX (.inr x) (.str x t)=true:=by simp[yX,Value.isStrOf]
theorem Vd(a b:Int):decide ((gM a:Key)=gM b)=(a==b):=by
 by_cases e:a=b
 ·subst e;simp
 ·have h:¬(gM a:Key)=gM b:=λq=>e<|mJ q;rw[gI h];exact(beq_eq_false_iff_ne.mpr e).symm
theorem Ve(a b:Str):decide ((pN a:Key)=pN b)=decide (a=b):=by
 by_cases e:a=b
 ·subst e;simp
 ·have h:¬(pN a:Key)=pN b:=λq=>e<|Sum.inr.inj q;rw[gI h,gI e]
theorem Vf(a:Int)(b:Str):decide ((gM a:Key)=pN b)=false:=gI<|λq=>nomatch q
theorem Vg(a:Str)(b:Int):decide ((pN a:Key)=gM b)=false:=gI<|λq=>nomatch q
def uJ(prog:gS)(w:ic):PySem.KeyKind prog w Key where
 is:=yX
 hash:=ZG w
 inj:=λv a b ha hb=>by
  rcases vp ha with⟨i,t,rfl,rfl⟩|⟨x,t,rfl,rfl⟩
  ·rcases vp hb with⟨j,u,rfl,e⟩|⟨y,u,rfl,e⟩
   ·injection e with e1 _;rw[e1]
   ·exact nomatch e
  ·rcases vp hb with⟨j,u,rfl,e⟩|⟨y,u,rfl,e⟩
   ·exact nomatch e
   ·injection e with e1 _;rw[e1]
 byValue:=λk v h=>by rcases vp h with⟨i,t,rfl,rfl⟩|⟨x,t,rfl,rfl⟩<;>rfl
 pyHash:=λhv h=>by
  rcases vp hv with⟨i,t,rfl,rfl⟩|⟨x,t,rfl,rfl⟩
  ·exact wpAny_pyHash_int h
  ·exact wpAny_pyHash_str h
 eqBool:=λhu hv h=>by
  rcases vp hu with⟨i,t,rfl,rfl⟩|⟨x,t,rfl,rfl⟩
  ·rcases vp hv with⟨j,u,rfl,rfl⟩|⟨y,u,rfl,rfl⟩
   ·rw[Vd] at h;exact qK h
   ·rw[Vf] at h;exact qR i t y u _ _ _ _ h
  ·rcases vp hv with⟨j,u,rfl,rfl⟩|⟨y,u,rfl,rfl⟩
   ·rw[Vg] at h;exact qS x t j u _ _ _ _ h
   ·rw[Ve] at h;exact wpAny_eqBool_str h
 «strs»:=λk x t v h=>by
  rcases vp h with⟨i,u,rfl,e⟩|⟨y,u,rfl,e⟩
  ·exact nomatch e
  ·injection e with e1 _;subst e1;cases v<;>rfl
theorem He(a:gS)(w:ic)(i:Int)(t:Tok):(uJ a w).is (.inl i) (.int i t)=true:=L8 i t
theorem Hf(a:gS)(w:ic)(x:Str)(t:Tok):(uJ a w).is (.inr x) (.str x t)=true:=L9 x t
set_option genInjectivity true in
inductive V where
 | vK|bl (b:Bool)|int (i:Int)|str (x:Str)|KI (b:Array UInt8)|Vh (b:UInt64)|ref (a:cr)|ty (n:String)
 deriving DecidableEq
def RelV:V->ci->Prop
 | .vK,u=>u=Value.none
 | .bl b,u=>u=qr b
 | .int i,u=>∃t,u=kK i t
 | .str x,u=>∃t,u=Value.str x t
 | .KI b,u=>∃t,u=Value.bytes b t
 | .Vh b,u=>∃t,u=rN b t
 | .ref a,u=>u=gC a
 | .ty n,u=>u=ju n
abbrev Vals:List V->List ci->Prop:=Paired RelV
theorem Vals.length{xs:List V}{us:List ci}(r:Vals xs us):xs.length=us.length:=Paired.length r
theorem Vals.get:∀{a:List V} {b:List ci} {i:Nat} {x:V},Vals a b->a[i]?=some x->∃u,b[i]?=some u/\RelV x u:=by
 intro _ _ i x z
 induction z generalizing i with
 | nil=>intro e;simp at e
 | cons r t c =>
  intro e
  cases i with
  | zero=>simp at e;subst e;exact⟨_,rfl,r⟩
  | succ i=>exact e1a2 (c<|by simpa using e) λu d f=>⟨u,by simpa using d,f⟩
theorem Vals.set(r:RelV x u):∀{a:List V} {b:List ci} (i:Nat),Vals a b->Vals (a.set i x) (b.set i u)
 | _,_,_,.nil=>.nil
 | _,_,0,.cons _ t=>.cons r t
 | _,_,i+1,.cons q t=>.cons q<|Vals.set r i t
theorem Vals.append:∀{a b:List V} {c d:List ci},Vals a c->Vals b d->Vals (a++b) (c++d):=by
 intro _ _ _ _ z s
 induction z with
 | nil=>exact s
 | cons h t e=>exact .cons h e
theorem Vals.take:∀{a:List V} {b:List ci} (n:Nat),Vals a b->Vals (a.take n) (b.take n)
 | _,_,0,_=>.nil
 | _,_,_+1,.nil=>.nil
 | _,_,n+1,.cons r t=>.cons r<|Vals.take n t
theorem Vals.drop:∀{a:List V} {b:List ci} (n:Nat),Vals a b->Vals (a.drop n) (b.drop n)
 | _,_,0,r=>r
 | _,_,_+1,.nil=>.nil
 | _,_,n+1,.cons _ t=>Vals.drop n t
def yu:Option V->Option ci->Prop
 | some v,some u=>RelV v u
 | none,none=>True
 | _,_=>False
def KV{a:Type}:List (a×V)->List (a×ci)->Prop:=Paired λ(p:a×V)(q:a×ci)=>p.1=q.1/\RelV p.2 q.2
def kV:Key->V
 | .inl i=>.int i
 | .inr x=>.str x
inductive HO where
 | lst (xs:List V)
 | tup (xs:List V)
 | dK (wv:List (Key×V))|dT (wv:List (List Key×V))
 | set (S:Int->Bool) (n:Nat)
 | ins (C dx:cr) (fs:List (Str×V))
 | own (x:cr)
 | xd (fs:List (Str×V))
 | met (f x:cr)
 | xO (lo hi:Int)
 | IH (o:Obj) (u:HO)
 | Ea (ps:Array ci)
 | ext (φ:hR->Prop)
abbrev Hp:=cr->Option HO
def upd(H:Hp)(a:cr)(o:HO):Hp:=λb=>if b=a then some o else H b
theorem uh:upd H a o a=some o:=by unfold upd;rw[f7 rfl]
theorem ud(h:b≠a):upd H a o b=H b:=by unfold upd;rw[f8 h]
theorem RA:upd (upd H a o) a u=upd H a u:=by funext b;unfold upd;split<;>rfl
theorem Xo{H:Hp}{a b:cr}{o u:HO}(h:H a=some o)(c:H b=some u)(d:o≠u):a≠b:=by intro e;subst e;rw[h] at c;exact d<|ii c
theorem uo{H:Hp}{a b:cr}{o:HO}(h:H a=some o)(c:H b=none):a≠b:=by intro e;subst e;rw[h] at c;cases c
section
variable(P:gS)(w:ic)
def vk(H:Hp)(h:hR)(a:cr):HO->Prop
 | .lst xs=>xs.length<=gf/\∃(yW:List ci)(n:Nat),Vals xs yW/\h.get? a=some { cls:=.type "list",data:=.seq yW.toArray n}
 | .tup xs=>xs.length<=gf/\∃yW:List ci,Vals xs yW/\IsTup h a yW.toArray
 | .dK wv=>wv.length<=gf/\(a==j4)=false/\∃vs,KV wv vs/\h.DictOf (uJ P w) a vs
 | .dT wv=>wv.length<=gf/\(a==j4)=false/\∃xs:List (List Key×cr×ci),
   Paired (λ(p:List Key×V)(q:List Key×cr×ci)=>p.1=q.1/\H q.2.1=some (.tup<|p.1.map kV)/\RelV p.2 q.2.2) wv xs /\
   ∃o es ep,h.get? a=some o/\o.ExactDict/\o.data=.dict es ep/\es.toList=xs.map (entryOfKey<|ou<|uJ P w)/\(xs.map (·.1)).Nodup
 | .set S n=>h.SetOf (jG P w) a S n
 | .ins C dx fs=>H dx=some (.own a)/\fs.length<=1000/\dx≠a/\h.get? a=some (jK C dx) /\
   ∃mA,h.Ns1 dx mA/\(∀f,yu (fs.lookup f)<|mA f)/\rh mA (fs.map (·.1))
 | .own _=>∃o,h.get? a=some o
 | .xd fs=>∃mA,h.Ns1 a mA/\∀f,yu (fs.lookup f)<|mA f
 | .xO lo hi=>∃t u v,h.get? a=some { cls:=.type "range",data:=.fields #[.int lo t,.int hi u,.int 1 v]}
 | .IH o u=>h.get? a=some o/\vk H h a u
 | .Ea ps=>h.get? a=some { cls:=.none,data:=.fields ps}
 | .met f x=>h.get? a=some (lw (.ref f)<|.ref x)
 | .ext φ=>φ h/\(∃o,h.get? a=some o)/\∀h1 h2:hR,φ h1->(∀o,h1.get? a=some o->h2.get? a=some o)->φ h2
def wU(H:Hp)(h:hR):Prop:=∀a o,H a=some o->vk P w H h a o
end
theorem vk.lt(x:vk P w H h a o):a<h.objs.size:=by
 cases o with
 | lst c=>obtain⟨_,_,_,_,e⟩:=x;exact gl e
 | tup c=>obtain⟨_,_,_,p⟩:=x;exact p.lt
 | dK b=>obtain⟨_,_,_,_,o,_,_,e,_⟩:=x;exact gl e
 | dT b=>obtain⟨_,_,_,_,o,_,_,e,_⟩:=x;exact gl e
 | set S n=>obtain⟨o,_,_,_,e,_⟩:=x;exact gl e
 | ins C d fs=>obtain⟨_,_,_,e,_⟩:=x;exact gl e
 | own y=>obtain⟨_,e⟩:=x;exact gl e
 | xd fs=>obtain⟨_,⟨_,_,_,e,_⟩,_⟩:=x;exact gl e
 | xO lo g=>obtain⟨_,_,_,e⟩:=x;exact gl e
 | IH i u=>obtain⟨e,_⟩:=x;exact gl e
 | Ea j=>exact gl<|show h.get? a=some _ from x
 | met f y=>exact gl<|show h.get? a=some _ from x
 | ext k=>obtain⟨_,⟨_,e⟩,_⟩:=x;exact gl e
theorem Paired.Vi:∀{c:List g} {d:List i},Paired F c d->(∀a b,F a b->G a b)->Paired G c d:=by
 intro _ _ z f
 induction z with
 | nil=>exact .nil
 | cons h t e=>exact .cons (f _ _ h) e
theorem vk.Cd(x:vk P w H h a o)(k:∀b u,(b=a\/H b=some (.own a))->h.get? b=some u->F.get? b=some u)
 (G:∀b,H b=some (.own a)->D b=some (.own a))(I:∀b m,H b=some (.tup m)->D b=some (.tup m)):vk P w D F a o:=by
  induction o with
  | lst m=>obtain⟨z,l,n,r,e⟩:=x;exact⟨z,l,n,r,k _ _ (.inl rfl) e⟩
  | tup m=>obtain⟨z,l,r,g,e,c⟩:=x;exact⟨z,l,r,g,k _ _ (.inl rfl) e,c⟩
  | dK s=>obtain⟨z,y,J,r,g,i,j,e,c⟩:=x;exact⟨z,y,J,r,g,i,j,k _ _ (.inl rfl) e,c⟩
  | dT s =>
    obtain⟨z,y,m,r,g,i,j,e,c⟩:=x
    exact⟨z,y,m,Paired.Vi r λp q z=>⟨z.1,I _ _ z.2.1,z.2.2⟩,g,i,j,k _ _ (.inl rfl) e,c⟩
  | set S n=>obtain⟨g,i,j,t,e,c⟩:=x;exact⟨g,i,j,t,k _ _ (.inl rfl) e,c⟩
  | ins C Q fs =>
    obtain⟨d,z,L,e,A,⟨B,i,j,M,c⟩,r⟩:=x
    exact⟨G _ d,z,L,k _ _ (.inl rfl) e,A,⟨B,i,j,k _ _ (.inr d) M,c⟩,r⟩
  | own y=>obtain⟨g,e⟩:=x;exact⟨g,k _ _ (.inl rfl) e⟩
  | xd fs=>obtain⟨A,⟨B,i,j,e,c⟩,r⟩:=x;exact⟨A,⟨B,i,j,k _ _ (.inl rfl) e,c⟩,r⟩
  | xO lo R=>obtain⟨t,u,v,e⟩:=x;exact⟨t,u,v,k _ _ (.inl rfl) e⟩
  | IH g u N=>obtain⟨e,q⟩:=x;exact⟨k _ _ (.inl rfl) e,N q⟩
  | Ea O =>
    have e:h.get? a=some { cls:=.none,data:=.fields O}:=x
    exact k a _ (.inl rfl) e
  | met f y =>
    have e:h.get? a=some (lw (.ref f)<|.ref y):=x
    exact k a _ (.inl rfl) e
  | ext T=>obtain⟨p,⟨o,e⟩,E⟩:=x;exact⟨E _ _ p λo q=>k _ _ (.inl rfl) q,⟨o,k _ _ (.inl rfl) e⟩,E⟩
theorem wU.lt(x:wU P w H h)(e:H a=some o):a<h.objs.size:=(x a o e).lt
theorem wU.fresh(x:wU P w H h)(e:h.objs.size<=a):H a=none:=by
 cases q:H a with
 | none=>rfl
 | some u=>exact gy (gD (x.lt q) e)<|jj _
theorem wU.kept(x:wU P w H h)(k:∀b u,h.get? b=some u->c.get? b=some u):wU P w H c:=λa o e =>
 (x a o e).Cd (λb u _ q=>k b u q) (λ_ q=>q) λ_ _ q=>q
theorem wU.laid(x:wU P w H h)(k:∀b u,h.get? b=some u->h'.get? b=some u)(i:h.objs.size<=a)(d:vk P w (upd H a o) h' a o):wU P w (upd H a o) h':=λb u e=>by
 have f:=x.fresh i;by_cases g:b=a
 ·subst g;rw[uh] at e;cases e;exact d
 ·rw[ud g] at e;exact(x b u e).Cd (λc v _ q=>k c v q) (λc q=>by rw[ud<|uo q f];exact q) λc j q=>by rw[ud<|uo q f];exact q
def Rd(H:Hp)(a:cr)(u:HO):Prop:=H a=some u\/∃o,H a=some (.IH o u)
theorem Rd.of(h:H a=some u):Rd H a u:=.inl h
theorem Rd.ok(r:Rd H a u)(x:wU P w H h):vk P w H h a u:=by
 rcases r with r|⟨o,r⟩
 ·exact x a u r
 ·obtain⟨_,q⟩:=x a _ r;exact q
def Xp:Option HO->Prop
 | some (.lst _)=>True
 | some (.dK _)=>True
 | some (.dT _)=>True
 | some (.set _ _)=>True
 | some (.ins _ _ _)=>True
 | some (.ext _)=>True
 | _=>False
theorem wU.write(t:wU P w H h)(g:Xp (H x))(o:e=x\/H e=some (.own x))(k:∀b u,b≠e->h.get? b=some u->h'.get? b=some u)(m:∃u,h'.get? e=some u)
 (n:vk P w (upd H x p) h' x p):wU P w (upd H x p) h':=λb u q=>by
  have d:∀c y,H c=some (.own y)->c≠x:=λc y r z=>by subst z;rw[r] at g;exact g
  have f:∀c i,H c=some (.tup i)->c≠x:=λc i r z=>by subst z;rw[r] at g;exact g
  by_cases j:b=x
  · subst j; rw[uh] at q; cases q; exact n
  · rw[ud j] at q
    by_cases a:b=e
    · have s : H b = some (.own x) := by
        rcases o with z|z
        · exact gy (a.trans z) j
        · rw[a]; exact z
      rw[q] at s;cases s
      obtain⟨v,A⟩:=m
      exact⟨v,by rw[a];exact A⟩
    · refine(t b u q).Cd (λc v l r => k c v ?_ r) (λc r => by rw[ud<|d c b r]; exact r) λc i r => by rw[ud<|f c i r]; exact r
      rcases l with rfl|l
      · exact a
      · rintro rfl
        rcases o with z|z
        · exact d c b l z
        · rw[l] at z; cases z; exact j rfl
structure Un(fs ex:List cr)(H H':Hp)(h h':hR):Prop where
 keep:∀b o,h.get? b=some o->H b=none->b∉fs->b∉ex->h'.get? b=some o
 slot:∀b o,h.get? b=some o->H b=none->b∈fs->b∉ex->∃sl,h'.get? b=some { o with slots:=sl}
 free:∀b o,h.get? b=some o->H b=none->b∉ex->H' b=none
 there:∀b o,h.get? b=some o->b∉ex->∃o',h'.get? b=some o'
 Az:∀b xs,H b=some (.tup xs)->H' b=some (.tup xs)
 Ai:∀b o u,H b=some (.IH o u)->H' b=some (.IH o u)
 Aj:∀b ps,H b=some (.Ea ps)->∃more,H' b=some (.Ea<|ps++more)
theorem Un.any(u:Un fs e H H1 h f)(q:h.get? b=some a)(n:H b=none)(c:b∉e):∃g,f.get? b=some { a with slots:=g}:=by
 by_cases d:b∈fs
 ·exact u.slot b a q n d c
 ·exact⟨a.slots,u.keep b a q n d c⟩
theorem Un.trans(a:Un fs ex H H1 h h1)(b:Un fs ex H1 H2 h1 h2):Un fs ex H H2 h h2 where
 keep:=λc ob q n hc hx=>b.keep c ob (a.keep c ob q n hc hx) (a.free c ob q n hx) hc hx
 slot:=λc ob q n hc hx=>by obtain⟨sl,e1⟩:=a.slot c ob q n hc hx;obtain⟨ZH,e2⟩:=b.slot c _ e1 (a.free c ob q n hx) hc hx;exact⟨ZH,e2⟩
 free:=λc ob q n hx=>by obtain⟨o',e1⟩:=a.there c ob q hx;exact b.free c o' e1 (a.free c ob q n hx) hx
 there:=λc ob q hx=>by obtain⟨o',e1⟩:=a.there c ob q hx;exact b.there c o' e1 hx
 Az:=λc xs q=>b.Az c xs<|a.Az c xs q
 Ai:=λc ob xs q=>b.Ai c ob xs<|a.Ai c ob xs q
 Aj:=λc ps q=>by obtain⟨m1,e1⟩:=a.Aj c ps q;obtain⟨m2,e2⟩:=b.Aj c _ e1;exact⟨m1++m2,by rw[e2,o9]⟩
theorem Un.kept(k:∀b u,h.get? b=some u->c.get? b=some u):Un fs d H H h c :=
 ⟨λb a q _ _ _=>k b a q,λb a q _ _ _=>⟨a.slots,k b a q⟩,λ_ _ _ n _=>n,λb a q _=>⟨a,k b a q⟩,λ_ _ q=>q,λ_ _ _ q=>q,λ_ e q=>⟨#[],by rw[q];simp⟩⟩
theorem Un.refl:Un fs a H H h h:=Un.kept λ_ _ q=>q
theorem Un.laid(k:∀b u,h.get? b=some u->h'.get? b=some u)(hp:h.objs.size<=a)(hn:H a=none):Un fs ex H (upd H a o) h h' where
 keep:=λb u q _ _ _=>k b u q
 slot:=λb u q _ _ _=>⟨u.slots,k b u q⟩
 free:=λb u q n _=>by rw[ud<|gx<|gD (gl q) hp];exact n
 there:=λb u q _=>⟨u,k b u q⟩
 Az:=λb xs q=>by rw[ud<|uo q hn];exact q
 Ai:=λb u xs q=>by rw[ud<|uo q hn];exact q
 Aj:=λb ps q=>⟨#[],by rw[ud<|uo q hn,q];simp⟩
theorem Un.write(c:Xp (H x))(j:e=x\/H e=some (.own x))(k:∀b u,b≠e->h.get? b=some u->h'.get? b=some u)(d:∃u,h'.get? e=some u):Un fs p H (upd H x o) h h':=by
 have g:∀b,H b=none->b≠x:=λb n z=>by subst z;rw[n] at c;exact c
 have i:∀b,H b=none->b≠e:=λb n z=>by
  subst z;rcases j with r|r
  ·exact g b n r
  ·rw[n] at r;cases r
 have f:∀b u,H b=some u->¬Xp (some u)->b≠x:=λb u q l z=>by subst z;rw[q] at c;exact l c
 refine⟨λb u q n _ _=>k b u (i b n) q,λb u q n _ _=>⟨u.slots,k b u (i b n) q⟩,λb u q n _=>by rw[ud (g b n)];exact n,λb u q _=>?_,
  λb m q=>by rw[ud (f b _ q λz=>z)];exact q,λb u m q=>by rw[ud (f b _ q λz=>z)];exact q,λb s q=>⟨#[],by rw[ud (f b _ q λz=>z),q];simp⟩⟩
 by_cases a:b=e
 ·subst a;exact d
 ·exact⟨u,k b u a q⟩
def Zj(h:hR)(H:Hp):List cr:=(gH h.objs.size).filter λa=>(H a).isSome
def Hg(h:hR)(H:Hp):hR:=kW h<|Zj h H
theorem Ma(h:hR)(H:Hp):(Hg h H).objs.size=h.objs.size:=PySem.W.hideAll_size _ _
theorem CO{h:hR}(e:h.get? b=some o)(n:H b=none):(Hg h H).get? b=some o :=
 oy _ e λa=>by have q:(H b).isSome=true:=(List.mem_filter.mp a).2;rw[n] at q;simp at q
theorem RB(e:(Hg h H).get? b=some o):h.get? b=some o/\H b=none:=by
 have a:h.get? b=some o:=mr (Zj h H) e;refine⟨a,?_⟩
 cases q:H b with
 | none=>rfl
 | some x =>
  have c:b∈Zj h H:=List.mem_filter.mpr ⟨List.mem_range.mpr<|gl a,by simp[q]⟩;have z:(Hg h H).get? b=none:=rj (Zj h H) c;rw[z] at e;cases e
def RC(g h:hR)(L:cr):List (cr×Obj):=(gH h.objs.size).filterMap λa=>if a=L\/(g.get? a).isSome=true then none else (h.get? a).map λo=>(a,o)
def rest(g h:hR)(L d:cr):List (cr×Obj):=(RC g h L).filter λp=>decide<|p.1≠d
structure Mod(K:fZ)(mg:Str->Option ci)(base:hR):Prop where
 Ay:K.In base
 glob:base.Ns gz mg
 blt:∃mb,base.Ns ny mb/\∀x:Str,x≠"__name__"->mb x=lY x
 nolimit:base.NoLimit
structure Cx where
 prog:gS
 w:ic
 K:fZ
 mg:Str->Option ci
 base:hR
 A:iR
 N:List Str
 s₀:gk
 H₀:Hp
 env:Env
 outer:List Env
 stack:List Env
 ex:List cr
 fn:Str->Bool
 calm:Bool
 pn:List (cr×Obj)
 xe:ci->gk->Prop
def yp(l:List Env):List cr:=l.filterMap (·.frame)
abbrev Cx.fs(X:Cx):List cr:=yp X.outer
def ZI(a:kZ)(x:Str):Prop:=a.names.lookup x=some .local\/a.names.lookup x=some .cell\/a.names.lookup x=some .free
def Loc(a:kZ)(x:Str):Prop:=a.names.lookup x=some .local\/a.names.lookup x=some .cell
def Look(a:Env)(h:hR)(m:Str->Option ci)(x:Str)(u:ci):Prop :=
 (a.kindOf x=some .local/\m x=some u)\/((a.kindOf x=some .cell\/a.kindOf x=some .free)/\∃c,a.cells.lookup x=some c/\h.IsCell c (some u))
structure Cx.Ok(X:Cx):Prop where
 mod:Mod X.K X.mg X.base
 kind:X.env.scope.kind=.function
 glob:X.env.globals=gz
 blt:X.env.builtins=ny
 above:X.s₀.heap.objs.size<=X.env.locals
 inj:∀x y c,X.env.cells.lookup x=some c->X.env.cells.lookup y=some c->x=y
 has:∀x,(X.env.kindOf x=some .cell\/X.env.kindOf x=some .free)->∃c,X.env.cells.lookup x=some c
 Ny:∀x c,X.fn x=true->X.env.cells.lookup x=some c->X.s₀.heap.objs.size<=c
 hd:X.calm=true->X.A.handled=none
 frames:X.A.frames=some X.stack
 Bj:X.stack=X.outer\/(X.stack=X.env::X.outer/\X.env.frame=some X.env.locals)
 RD:∀b∈X.ex,b≠X.env.locals/\∀x c,X.env.cells.lookup x=some c->c≠b
 bs:∀b o,X.base.get? b=some o->X.s₀.heap.get? b=some o/\X.H₀ b=none
 Hh:X.base.objs.size<=X.s₀.heap.objs.size
 Ce:∀b o,X.base.get? b=some o->b∉X.ex
 CP:∀b∈X.ex,b∉X.fs
 xC:X.s₀.heap.FunFrames X.base X.outer
 IC:∀b∈X.fs,X.H₀ b=none
structure Inv(X:Cx)(pins:List (cr×Obj))(σ:List (Option V))(H:Hp)(s:gk):Prop where
 ok:X.Ok
 os:s.os=X.s₀.os
 bare:mz s.gens
 base:Un X.fs X.ex X.H₀ H X.s₀.heap s.heap
 loc:∃m,s.heap.Ns X.env.locals m/\∀(i:Nat)(x:Str)(v:V),X.N[i]?=some x->σ[i]?=some (some v)->ZI X.env.scope x->∃u,RelV v u/\Look X.env s.heap m x u
 cell:∀x c,X.env.cells.lookup x=some c->∃v,s.heap.IsCell c v
 free:H X.env.locals=none
 xh:∀x c,X.env.cells.lookup x=some c->H c=none
 pin:∀p∈X.pn++pins,s.heap.get? p.1=some p.2/\H p.1=none/\p.1≠X.env.locals/\p.1∉X.fs/\∀v,p.2.data≠.cell v
 uU:wU X.prog X.w H s.heap
 len:σ.length=X.N.length
section
variable{X:Cx}{pins:List (cr×Obj)}{σ:List (Option V)}{H H':Hp}{s:gk}
theorem Cx.Ok.ZJ(a:X.Ok)(e:X.base.get? b=some o):b∉X.fs:=λc=>by have:=(a.xC.mem c).1;rw[e] at this;cases this
theorem Inv.bs(I:Inv X pins σ H s):∀b o,X.base.get? b=some o->s.heap.get? b=some o/\H b=none:=λb o e =>
 ⟨I.base.keep b o (I.ok.bs b o e).1 (I.ok.bs b o e).2 (I.ok.ZJ e)<|I.ok.Ce b o e,I.base.free b o (I.ok.bs b o e).1 (I.ok.bs b o e).2<|I.ok.Ce b o e⟩
theorem Inv.bk(I:Inv X pins σ H s):∀b o,X.base.get? b=some o->s.heap.get? b=some o:=λb o e=>(I.bs b o e).1
theorem Inv.mod(I:Inv X pins σ H s):Mod X.K X.mg X.base:=I.ok.mod
theorem Inv.xP(I:Inv X pins σ H s):X.K.In s.heap:=I.ok.mod.Ay.keeps I.bk
theorem Inv.nolimit(I:Inv X pins σ H s):s.heap.NoLimit:=I.ok.mod.nolimit.keeps I.bk
theorem Inv.lt(I:Inv X pins σ H s):X.env.locals<s.heap.objs.size:=e1a2 I.loc λ_ a _=> a.lt
theorem Inv.sz(I:Inv X pins σ H s):X.s₀.heap.objs.size<=s.heap.objs.size:=gO I.ok.above<|kR I.lt
theorem Inv.ZK(I:Inv X pins σ H s)(h:s.heap.objs.size<=a):a∉X.fs:=λb=>by obtain⟨_,o,c,_⟩:=I.ok.xC.mem b;exact gy (gD (gl c)<|gO I.sz h)<|jj _
theorem Inv.ZL(I:Inv X pins σ H s):∀x c,X.env.cells.lookup x=some c->c≠X.env.locals:=λx c e z=>by refine e2a2 (I.cell x c e) λv o d f=>?_;obtain⟨m,⟨g,h,i,a,b,_⟩,_⟩:=I.loc;rw[z,a] at d;cases d;rw[b] at f;cases f
theorem Inv.xC(I:Inv X pins σ H s):s.heap.FunFrames X.base X.outer:=by
 have a:∀(l:List Env),(∀b∈yp l,b∈X.fs)->X.s₀.heap.FunFrames X.base l->s.heap.FunFrames X.base l:=by
  intro l
  induction l with
  | nil=>intro _ _;trivial
  | cons h r i =>
   intro g j;obtain⟨k,⟨L,o,c,m,n,p⟩,q⟩:=j;have d:L∈X.fs:=g L (by unfold yp;rw[jU,c];exact gc);obtain⟨t,e⟩:=I.base.slot L o n (I.ok.IC L d) d λz=>I.ok.CP L z d;exact⟨k,⟨L,_,c,m,e,p⟩,i (λb f=>g b<|by unfold yp;rw[jU,c];exact gg _ f) q⟩
 exact a X.outer (λ_ f=>f) I.ok.xC
theorem Inv.stack(I:Inv X pins σ H s):s.heap.FunFrames X.base X.stack:=by
 rcases I.ok.Bj with e|⟨e,a⟩
 ·rw[e];exact I.xC
 ·rw[e];refine e1a2 I.loc λm b _=>?_;refine .cons (by rw[I.ok.kind];decide) a b ?_ I.xC;exact mh<|gO I.ok.Hh I.ok.above
theorem Inv.CQ(I:Inv X pins σ H s):∀b∈yp X.stack,b∈X.env.locals::X.fs:=λb a=>by
 rcases I.ok.Bj with e|⟨e,c⟩
 ·rw[e] at a;exact gg _ a
 ·rw[e] at a;unfold yp at a;rw[jU,c] at a;exact a
theorem Inv.KJ(I:Inv X pins σ H s):∀b∈yp X.stack,H b=none:=λb a=>by
 rcases List.mem_cons.mp (I.CQ b a) with e|a
 ·rw[e];exact I.free
 ·obtain⟨_,o,c,_⟩:=I.ok.xC.mem a;exact I.base.free b o c (I.ok.IC b a) λz=>I.ok.CP b z a
theorem Inv.step{g':Array oz}{t':Nat}{ch:List cr}(I:Inv X pins σ H s)
 (g:∀b∈ch,(b∈X.ex\/X.s₀.heap.objs.size<=b)/\b≠X.env.locals/\(∀x c,X.env.cells.lookup x=some c->c≠b)/\∀p∈X.pn++pins,p.1≠b)
 (h:∀b o,b≠X.env.locals->b∉X.fs->b∉ch->s.heap.get? b=some o->H b=none->h'.get? b=some o)
 (B:∀b o,b≠X.env.locals->b∈X.fs->b∉ch->s.heap.get? b=some o->H b=none->∃R,h'.get? b=some { o with slots:=R}) (f:∀b o,b∉ch->s.heap.get? b=some o->H b=none->H' b=none)
 (D:∀b o,b∉ch->s.heap.get? b=some o->∃G,h'.get? b=some G)
 (J:∀b C,H b=some (.tup C)->H' b=some (.tup C)) (L:∀b o u,H b=some (.IH o u)->H' b=some (.IH o u)) (M:∀b Q,H b=some (.Ea Q)->∃N,H' b=some (.Ea<|Q++N))
 (ns:∀m,s.heap.Ns X.env.locals m->h'.Ns X.env.locals m) (S:wU X.prog X.w H' h') (hg:mz g') :
    Inv X pins σ H' { s with heap:=h',gens:=g',drawn:=d',toks:=t'}:=by
  have O:∀b o,X.s₀.heap.get? b=some o->b≠X.env.locals:=λb o e=>gx<|gD (gl e) I.ok.above
  have y:∀b o,X.s₀.heap.get? b=some o->b∉X.ex->b∉ch:=λb o e a E=>by
    rcases(g b E).1 with z|z
    · exact a z
    · exact gy (gD (gl e) z)<|jj _
  have j:∀x c,X.env.cells.lookup x=some c->∀v,s.heap.IsCell c v->h'.IsCell c v:=λx c e v z9=>e1a2 z9 λo F T=>by
    have t:c∉ch:=λz=>(g c z).2.2.1 x c e rfl
    by_cases W:c∈X.fs
    · obtain⟨R, q⟩ := B c o (I.ZL x c e) W t F (I.xh x c e)
      exact⟨_,q,T⟩
    · exact⟨o, h c o (I.ZL x c e) W t F<|I.xh x c e, T⟩
  refine⟨I.ok,I.os,hg,⟨λb o e n E a=>?_,λb o e n E a=>?_,λb o e n a=>?_,λb o e a=>?_,λb C e=>J b C<|I.base.Az b C e,λb o C e=>L b o C<|I.base.Ai b o C e,λb Q e=>?_⟩,?_,λx c e=>?_,?_,λx c e=>?_,λp Y=>?_,S,I.len⟩
  · exact h b o (O b o e) E (y b o e a) (I.base.keep b o e n E a)<|I.base.free b o e n a
  · obtain⟨R, A⟩ := I.base.slot b o e n E a
    obtain⟨U,P⟩:=B b _ (O b o e) E (y b o e a) A<|I.base.free b o e n a
    exact⟨U,P⟩
  · obtain⟨G, A⟩ := I.base.there b o e a
    exact f b G (y b o e a) A<|I.base.free b o e n a
  · obtain⟨G, A⟩ := I.base.there b o e a
    exact D b G (y b o e a) A
  · obtain⟨m1, A⟩ := I.base.Aj b Q e
    obtain⟨m2,P⟩:=M b _ A
    exact⟨m1++m2,by rw[P,o9]⟩
  · refine e1a2 I.loc λm hn hl => ?_
    refine⟨m,ns m hn,λi x v A P e3=>?_⟩
    refine e1a2 (hl i x v A P e3) λu r l=>?_
    refine⟨u,r,?_⟩
    rcases l with l|⟨k,c,e,z⟩
    · exact .inl l
    · exact .inr ⟨k, c, e, j x c e _ z⟩
  · obtain⟨v, z⟩ := I.cell x c e
    exact⟨v,j x c e v z⟩
  · obtain⟨m, ⟨o, _, _, F, _⟩, _⟩ := I.loc
    exact f _ o (λz=>(g _ z).2.1 rfl) F I.free
  · refine e2a2 (I.cell x c e) λv o F T => ?_
    exact f c o (λz=>(g c z).2.2.1 x c e rfl) F<|I.xh x c e
  · obtain⟨e, n, Z, nf, d⟩ := I.pin p Y
    have t:p.1∉ch:=λz=>(g p.1 z).2.2.2 p Y rfl
    exact⟨h p.1 p.2 Z nf t e n,f p.1 p.2 t e n,Z,nf,d⟩
theorem Inv.un{t':Nat}(I:Inv X pins σ H s)(u:Un X.fs [] H H' s.heap h')(c:wU X.prog X.w H' h'):Inv X pins σ H' { s with heap:=h',toks:=t'}:=by
 obtain⟨m,⟨o,l,p,h,r⟩,_⟩:=id I.loc;obtain⟨q,i⟩:=u.any h I.free q0o
 exact I.step (g':=s.gens) (d':=s.drawn) (ch:=[]) (λ_ z=>nomatch z) (λb o _ d _ e n=>u.keep b o e n d q0o) (λb o _ d _ e n=>u.slot b o e n d q0o) (λb o _ e n=>u.free b o e n q0o) (λb o _ e=>u.there b o e q0o) u.Az u.Ai u.Aj (λt j=>by
  refine e3a2 j λv f g a k=>?_;rw[h] at a;cases a
  exact⟨_,f,g,i,k⟩) c I.bare
theorem Inv.call{g':Array oz}{t':Nat}{ch:List cr}(I:Inv X pins σ H s)(u:Un (yp X.stack) ch H H' s.heap h')(g:wU X.prog X.w H' h')(l:mz g')
 (d:∀b∈ch,(b∈X.ex\/X.s₀.heap.objs.size<=b)/\b≠X.env.locals/\(∀x c,X.env.cells.lookup x=some c->c≠b)/\∀p∈X.pn++pins,p.1≠b) :
    Inv X pins σ H' { s with heap:=h',gens:=g',drawn:=d',toks:=t'}:=by
  obtain⟨m,⟨o,y,A,k,r⟩,_⟩:=id I.loc
  obtain⟨B,h⟩:=u.any k I.free λz=>(d _ z).2.1 rfl
  exact I.step (ch:=ch) d (λb o h q a e n=>u.keep b o e n (λz=>(List.mem_cons.mp (I.CQ b z)).elim h q) a) (λb o _ _ a e n=>u.any e n a) (λb o a e n=>u.free b o e n a) (λb o a e=>u.there b o e a) u.Az u.Ai u.Aj (λC t=>by
    refine e3a2 t λD i j f v=>?_
    rw[k] at f;cases f
    exact⟨_,i,j,h,v⟩) g l
theorem Inv.turned{t':Nat}(I:Inv X pins σ H s)(k:∀b o,b≠a->s.heap.get? b=some o->h.get? b=some o)(i:H a=none)(g:a≠X.env.locals)
 (j:a∈X.ex\/X.s₀.heap.objs.size<=a)(l:∀x c,X.env.cells.lookup x=some c->c≠a)(t:∀p∈X.pn++pins,p.1≠a):Inv X pins σ H { s with heap:=h,toks:=t'}:=by
  have f:∀b u,H b=some u->b≠a:=λb u e z=>by rw[z,i] at e;cases e
  refine I.step (g':=s.gens) (d':=s.drawn) (ch:=[a]) (λb w=>?_) (λb o _ _ d e _=>k b o (λz=>d<|by simp[z]) e) (λb o _ _ d e _=>⟨o.slots,k b o (λz=>d<|by simp[z]) e⟩) (λ_ _ _ _ n=>n)
    (λb o d e=>⟨o,k b o (λz=>d<|by simp[z]) e⟩) (λ_ _ e=>e) (λ_ _ _ e=>e) (λb D e=>⟨#[],by rw[e];simp⟩) (λm y=>?_) (λb u e=>?_) I.bare
  · have e : b = a := by simpa using w
    subst e
    exact⟨j,g,l,t⟩
  · refine e3a2 y λo A B C r => ?_
    exact⟨o,A,B,k _ o (Ne.symm g) C,r⟩
  · refine(I.uU b u e).Cd (λc v d q => k c v ?_ q) (λ_ q => q) λ_ _ q => q
    rcases d with z|z
    · rw[z]; exact f b u e
    · exact f c _ z
theorem Inv.tok(I:Inv X pins σ H s)(t:Nat):Inv X pins σ H { s with toks:=t}:=I.un (h':=s.heap) (t':=t) Un.refl I.uU
theorem Inv.kept{t':Nat}(I:Inv X pins σ H s)(k:∀b u,s.heap.get? b=some u->a.get? b=some u):Inv X pins σ H { s with heap:=a,toks:=t'}:=I.un (Un.kept k)<|I.uU.kept k
theorem Inv.laid{t':Nat}(I:Inv X pins σ H s)(k:∀b u,s.heap.get? b=some u->h'.get? b=some u)(c:s.heap.objs.size<=a)(d:vk X.prog X.w (upd H a o) h' a o) :
  Inv X pins σ (upd H a o) { s with heap:=h',toks:=t'}:=I.un (Un.laid k c<|I.uU.fresh c)<|I.uU.laid k c d
theorem Inv.write{t':Nat}(I:Inv X pins σ H s)(d:Xp (H x))(f:e=x\/H e=some (.own x))(k:∀b u,b≠e->s.heap.get? b=some u->h'.get? b=some u)(a:∃u,h'.get? e=some u)
 (c:vk X.prog X.w (upd H x o) h' x o):Inv X pins σ (upd H x o) { s with heap:=h',toks:=t'}:=I.un (Un.write d f k a)<|I.uU.write d f k a c
theorem Inv.yw(I:Inv X pins σ H s)(h:∀p∈pins',s.heap.get? p.1=some p.2/\H p.1=none/\p.1≠X.env.locals/\p.1∉X.fs/\∀v,p.2.data≠.cell v):Inv X pins' σ H s :=
 ⟨I.ok,I.os,I.bare,I.base,I.loc,I.cell,I.free,I.xh,λp a=>(List.mem_append.mp a).elim (λz=>I.pin p<|il _ z)<|h p,I.uU,I.len⟩
theorem Hi{N:List Str}(c:N.Nodup){i j:Nat}(a:N[i]?=some x)(b:N[j]?=some x):i=j:=by obtain⟨f,d⟩:=List.getElem?_eq_some_iff.mp a;obtain⟨g,e⟩:=List.getElem?_eq_some_iff.mp b;exact(List.getElem_inj c).mp<|d.trans e.symm
theorem Ey{E:ci->gk->Prop}{i:Nat}{Q:Unit->gk->Prop}(I:Inv X pins σ H s)(hN:X.N.Nodup)(S:X.N[i]?=some x)(B:Loc X.env.scope x)(r:RelV v u)
 (h:∀s',Inv X pins (σ.set i<|some v) H s'->(∃a,ij a s.heap s'.heap/\(a=X.env.locals\/X.env.cells.lookup x=some a))->Q () s')(hf:X.fn x=true\/X.env.scope.names.lookup x=some .local:=by first|exact .inl rfl|exact .inr rfl|assumption):gn M A (storeName X.env x u) Q E s:=by
  refine e1a2 (id I.loc) λm hn hl=>?_
  have T:(X.env.scope.kind==.class||(X.env.scope.kind==.module&&X.env.locals != X.env.globals))=false:=by rw[I.ok.kind];rfl
  have F:i<σ.length:=by rw[I.len];exact(List.getElem?_eq_some_iff.mp S).1
  have J:=I.ZL
  have g:∀{a:cr} {R:hR},(∃o,s.heap.get? a=some o/\H a=none)->ij a s.heap R->wU X.prog X.w H R:=λ{a R} ha f b ob e=>by
    refine e1a2 ha λ_ _ C=>?_
    refine(I.uU b ob e).Cd (λc w' t q=>(f.2 c ?_).trans q) (λ_ q=>q) λ_ _ q=>q
    rintro rfl
    rcases t with rfl|t
    · rw[C] at e; cases e
    · rw[C] at t; cases t
  rcases B with G|G
  · refine wpAny_storeName_local G hn (λR aa f => ?_) T
    refine e3a2 (id hn) λoL _ _ ab _=>?_
    refine h _ ⟨I.ok,I.os,I.bare,⟨λb o e n L B=>?_,λb o e n L B=>?_,I.base.free,λb o e B=>?_,I.base.Az,I.base.Ai,I.base.Aj⟩,⟨_,aa,λj y v' l D e3=>?_⟩,λy c e=>?_,I.free,I.xh,λp hp=>?_,g ⟨oL,ab,I.free⟩ f,by simpa using I.len⟩ ⟨_,f,.inl rfl⟩
    · exact(f.2 b<|gx<|gD (gl e) I.ok.above).trans<|I.base.keep b o e n L B
    · obtain⟨sl, l⟩ := I.base.slot b o e n L B
      exact⟨sl,(f.2 b<|gx<|gD (gl e) I.ok.above).trans l⟩
    · obtain⟨o', l⟩ := I.base.there b o e B
      exact⟨o',(f.2 b<|gx<|gD (gl e) I.ok.above).trans l⟩
    · by_cases O : j = i
      · subst O
        rw[S] at l;cases l
        rw[nZ F] at D
        cases D
        exact⟨u,r,.inl ⟨G,q0o⟩⟩
      · rw[mi<|Ne.symm O] at D
        refine e1a2 (hl j y v' l D e3) λu' r' q=>?_
        refine⟨u',r',?_⟩
        rcases q with⟨k,e⟩|⟨k,c,e,z⟩
        · refine .inl ⟨k, ?_⟩
          have:y≠x:=λe=>O<|Hi hN l<|e▸S
          simp[this,e]
        · exact .inr ⟨k, c, e, z.sameBut f<|J y c e⟩
    · obtain⟨w', z⟩ := I.cell y c e
      exact⟨w',z.sameBut f<|J y c e⟩
    · obtain⟨e, n, ne, nf, d⟩ := I.pin p hp
      exact⟨(f.2 p.1 ne).trans e,n,ne,nf,d⟩
  · have P : X.fn x = true := by
      rcases hf with z|z
      · exact z
      · rw[z] at G; cases G
    obtain⟨c,t⟩:=I.ok.has x<|.inl G
    obtain⟨w',z⟩:=I.cell x c t
    refine wpAny_storeName_cell I.ok.kind G t z<|λR U f=>?_
    refine e1a2 (id z) λoc W Y=>?_
    refine h { s with heap:=R} ⟨I.ok,I.os,I.bare,⟨λb o e n L B=>?_,λb o e n L B=>?_,I.base.free,λb o e B=>?_,I.base.Az,I.base.Ai,I.base.Aj⟩,⟨m,hn.sameBut f<|Ne.symm<|J x c t,λj y v' l D e3=>?_⟩,λy c' e=>?_,I.free,I.xh,λp hp=>?_,g ⟨oc,W,I.xh x c t⟩ f,by simpa using I.len⟩ ⟨c,f,.inr t⟩
    · exact(f.2 b<|gx<|gD (gl e)<|I.ok.Ny x c P t).trans<|I.base.keep b o e n L B
    · obtain⟨sl, l⟩ := I.base.slot b o e n L B
      exact⟨sl,(f.2 b<|gx<|gD (gl e)<|I.ok.Ny x c P t).trans l⟩
    · obtain⟨o', l⟩ := I.base.there b o e B
      exact⟨o',(f.2 b<|gx<|gD (gl e)<|I.ok.Ny x c P t).trans l⟩
    · by_cases O : j = i
      · subst O
        rw[S] at l;cases l
        rw[nZ F] at D
        cases D
        exact⟨u,r,.inr ⟨.inl G,c,t,U⟩⟩
      · rw[mi<|Ne.symm O] at D
        refine e1a2 (hl j y v' l D e3) λu' r' q=>?_
        refine⟨u',r',?_⟩
        rcases q with q|⟨k,c',e,z'⟩
        · exact .inl q
        · refine .inr ⟨k, c', e, z'.sameBut f ?_⟩
          rintro rfl
          exact O<|Hi hN l<|I.ok.inj _ _ _ e t▸S
    · by_cases Z : c' = c
      · subst Z; exact⟨_, U⟩
      · obtain⟨w2, z2⟩ := I.cell y c' e
        exact⟨w2,z2.sameBut f Z⟩
    · obtain⟨e, n, ne, nf, d⟩ := I.pin p hp
      refine⟨(f.2 p.1 ?_).trans e,n,ne,nf,d⟩
      intro q
      rw[q,W] at e
      have q':oc=p.2:=ii e
      exact d w' (by rw[<- q'];exact Y)
theorem Hj{i:Nat}(I:Inv X pins σ H s)(b:X.N.Nodup)(c:X.N[i]?=some x)(d:Loc X.env.scope x)(r:RelV v u)
 (h:∀a,Inv X pins (σ.set i<|some v) H a->Q () a)(e:X.fn x=true\/X.env.scope.names.lookup x=some .local:=by first|exact .inl rfl|exact .inr rfl|assumption):gn M A (storeName X.env x u) Q E s :=
  Ey I b c d r (λa f _=>h a f) e
theorem Inv.UB{a:gk}(I:Inv X pins σ H s)(g:a.os=s.os)(u:Un (yp X.stack) ch H H' s.heap a.heap)(d:wU X.prog X.w H' a.heap)(h:mz a.gens)
 (f:∀b∈ch,(b∈X.ex\/X.s₀.heap.objs.size<=b)/\b≠X.env.locals/\(∀x c,X.env.cells.lookup x=some c->c≠b)/\∀p∈X.pn++pins,p.1≠b):Inv X pins σ H' a:=by
  obtain⟨m,i,j,k,l⟩:=a
  have e:l=s.os:=g
  subst e
  exact I.call (g':=i) (t':=k) (d':=j) u d h f
end
abbrev XK:=ci->Option cr->Hp->Prop
abbrev St:=List<|Option V
abbrev VK:=V->Hp->Prop
abbrev TE:=St->Hp->VK->Prop
abbrev TT:=St->Hp->(Bool->Hp->Prop)->Prop
abbrev TA:=St->Hp->(List V->Hp->Prop)->Prop
structure Ends where
 nx:St->Hp->Prop
 rt:VK
 bk:St->Hp->Prop:=λ_ _=>False
 ct:St->Hp->Prop:=λ_ _=>False
abbrev TS:=Ends->St->Hp->Prop
def EP(X:Cx)(a:List (cr×Obj))(c:St)(Q:VK)(u:ci)(d:gk):Prop:=∃v b,Inv X a c b d/\RelV v u/\Q v b
def TP(X:Cx)(a:List (cr×Obj))(d:St)(Q:Bool->Hp->Prop)(b:Bool)(e:gk):Prop:=∃c,Inv X a d c e/\Q b c
def AP(X:Cx)(a:List (cr×Obj))(d:St)(Q:List V->Hp->Prop)(e:List ci)(f:gk):Prop:=∃b c,Inv X a d c f/\Vals b e/\Q b c
def SP(X:Cx)(b:List (cr×Obj))(D:Ends)(f:Flow)(d:gk):Prop :=
 match f with
 | .next=>∃a c,Inv X b a c d/\D.nx a c
 | .brk=>∃a c,Inv X b a c d/\D.bk a c
 | .cont=>∃a c,Inv X b a c d/\D.ct a c
 | .ret u=>∃v a c,Inv X b a c d/\RelV v u/\D.rt v c
def PE(X:Cx)(e:hO)(t:TE):Prop :=
 ∀(a:List (cr×Obj)) (s:gk) (b:St) (H:Hp) (Q:VK),Inv X a b H s->t b H Q->gn (gp X.prog X.w) X.A (eval e X.env) (EP X a b Q) X.xe s
def PT(X:Cx)(e:hO)(t:TT):Prop :=
 ∀(a:List (cr×Obj)) (s:gk) (b:St) (H:Hp) (Q:Bool->Hp->Prop),Inv X a b H s->t b H Q->gn (gp X.prog X.w) X.A (qa e X.env<|eval e X.env) (TP X a b Q) X.xe s
def PW(X:Cx)(e:hO)(t:TT):Prop :=
 ∀(b:Sem ci) (a:List (cr×Obj)) (s:gk) (c:St) (H:Hp) (Q:Bool->Hp->Prop),Inv X a c H s->t c H Q->gn (gp X.prog X.w) X.A (qa e X.env b) (TP X a c Q) X.xe s
theorem PW.pt(h:PW X e t):PT X e t:=h _
def PA(X:Cx)(d:List hO)(t:TA):Prop :=
 ∀(b:Pos) (a:List (cr×Obj)) (s:gk) (c:St) (H:Hp) (Q:List V->Hp->Prop),Inv X a c H s->t c H Q->gn (gp X.prog X.w) X.A (tE<|iJ b<|f9 d X.env) (AP X a c Q) X.xe s
def PS(X:Cx)(c:gP)(t:TS):Prop :=
 ∀(a:List (cr×Obj)) (s:gk) (b:St) (H:Hp) (D:Ends),Inv X a b H s->t D b H->gn (gp X.prog X.w) X.A (exec c X.env) (SP X a D) X.xe s
def Ed(X:Cx)(c:List gP)(t:TS):Prop :=
 ∀(a:List (cr×Obj)) (s:gk) (b:St) (H:Hp) (D:Ends),Inv X a b H s->t D b H->gn (gp X.prog X.w) X.A (execs c X.env) (SP X a D) X.xe s
theorem uR{b:Type}{t:Sem b}{Q c:b->gk->Prop}{M:Model}{A:iR}{E:ci->gk->Prop}{s:gk}(h:gn M A t Q E s)(d:∀a s,Q a s->c a s):gn M A t c E s:=io h d λ_ _ x=>x
section
variable{X:Cx}
def uN(i:Nat):TE:=λa H Q=>∃v,a[i]?=some (some v)/\Q v H
def tC(v:V):TE:=λ_ H Q=>Q v H
theorem II{i:Nat}(n:X.N[i]?=some x)(o:ZI X.env.scope x)(g:(x==("__debug__":Str))=false:=by decide)(j:(x==("__classdict__":Str))=false:=by decide):PE X (.Name x pos) (uN i):=by
 intro f s p H Q I h;refine e1a2 h λv e h=>?_;refine e1a2 I.loc λm q t=>?_;refine e1a2 (t i x v n e o) λu r l=>?_;have b:EP X f p Q u s:=⟨v,H,I,r,h⟩;rcases l with⟨d,w⟩|⟨d,c,k,a⟩
 ·exact oR (jV I.ok.kind d q w b) g
 ·rcases d with d|d
  ·exact oR (wpAny_loadName_cell I.ok.kind d k a b) g
  ·exact oR (pO I.ok.kind d k a b j) g
theorem uE{i j pos}:PE X (.Constant (.int i) j pos) (tC<|.int i):=λ_ _ _ H _ I h=>wpAny_Constant_int ⟨.int i,H,I.tok _,⟨_,rfl⟩,h⟩
theorem Xq{b j pos}:PE X (.Constant (.bool b) j pos) (tC<|.bl b):=λ_ _ _ H _ I h=>Constant_bool ⟨.bl b,H,I,rfl,h⟩
theorem IJ{j pos}:PE X (.Constant .none j pos) (tC .vK):=λ_ _ _ H _ I h=>Constant_none ⟨.vK,H,I,rfl,h⟩
theorem Fe{x j pos}:PE X (.Constant (.str x) j pos) (tC<|.str x):=λ_ _ _ H _ I h=>Calls.Constant_str ⟨.str x,H,I.tok _,⟨_,rfl⟩,h⟩
def Gl(X:Cx)(x:Str):Prop:=X.env.kindOf x=some .globalImplicit
theorem yx(I:Inv X a e H s)(b:Gl X x)(c:X.mg x=some u)(h:Q u s)
 (d:(x==("__debug__":Str))=false:=by decide):gn (gp X.prog X.w) X.A (eval (.Name x pos) X.env) Q E s :=
  qt I.ok.kind b (Calls.loadGlobal_global (by rw[I.ok.glob];exact I.mod.glob.keeps I.bk) c h) d
theorem yy(I:Inv X a j H s)(b:Gl X x)(c:X.mg x=none)(d:lY x=some u)(h:Q u s)
 (e:x≠"__name__":=by decide)(f:(x==("__debug__":Str))=false:=by decide):gn (gp X.prog X.w) X.A (eval (.Name x pos) X.env) Q E s:=by
  refine e1a2 I.mod.blt λk g i=>?_
  exact qt I.ok.kind b (m4 (by rw[I.ok.glob];exact I.mod.glob.keeps I.bk) c (by rw[I.ok.blt];exact g.keeps I.bk) ((i x e).trans d) h) f
theorem RE(a:Gl X x)(b:X.mg x=some u)(r:RelV v u)(c:(x==("__debug__":Str))=false:=by decide):PE X (.Name x pos) (tC v) :=
 λ_ _ _ H _ I h=>yx I a b ⟨v,H,I,r,h⟩ c
theorem Ff(a:Gl X x)(b:X.mg x=none)(c:lY x=some u)(r:RelV v u)(d:x≠"__name__":=by decide)(e:(x==("__debug__":Str))=false:=by decide):PE X (.Name x pos) (tC v) :=
 λ_ _ _ H _ I h=>yy I a b c ⟨v,H,I,r,h⟩ d e
variable{a b:hO}{ta tb:TE}{pos:Pos}
def PC(X:Cx)(g:qu)(a b:hO)(t:TE):Prop :=
 ∀(c:List (cr×Obj)) (s:gk) (f:St) (H:Hp) (Q:VK),Inv X c f H s->t f H Q ->
  gn (gp X.prog X.w) X.A (eval a X.env) (λv d=>gn (gp X.prog X.w) X.A (eval b X.env) (λu e=>gn (gp X.prog X.w) X.A (iT g v u) (EP X c f Q) X.xe e) X.xe d) X.xe s
theorem Hk(b:hO)(h:op≠.In)(c:op≠.NotIn):iq op b=false:=by
 have d:(op==CmpOp.In)=false:=by cases op<;>first|rfl|exact gy rfl h
 have e:(op==CmpOp.NotIn)=false:=by cases op<;>first|rfl|exact gy rfl c
 cases b<;>simp[iq,d,e]
def tB(t:TE):TT:=λd H Q=>t d H λx e=>∃c,x=.bl c/\Q c e
theorem NF(h:PC X op a b t)(d:iq op b=false:=by first|exact Hk _ q0q q0q|rfl):PE X (.Compare a [op] [b] pos) t:=λc s e H Q I f=>rO (h c s e H Q I f) d
theorem IK{f:qu}{t:TE}(h:PC X f a b t)(g:iq f b=false:=by first|exact Hk _ q0q q0q|rfl):PT X (.Compare a [f] [b] pos) (tB t):=by intro e s i H Q I j;refine tT (uR (h e s i H _ I j) λv r g=>uR g λu w k=>uR k λc y l=>e2a3 l λx m n o p=>?_) g;obtain⟨d,rfl,q⟩:=p;cases o;exact jA ⟨m,n,q⟩
theorem Vj{e:hO}{t:TE}(h:PE X e t)(g:∀c,qa e X.env c=(do let v <- c;lZ e.pos;jW [v] (tF v)):=by intro _;rfl):PT X e (tB t):=by intro f s i H Q I j;refine isTrue_plain (uR (h f s i H _ I j) λv p k=>e2a3 k λx l m n o=>?_)<|g _;obtain⟨d,rfl,q⟩:=o;cases n;exact jA ⟨l,m,q⟩
variable{tA Zk:TT}{rest:List hO}
def ZM(t u:TT):TT:=λd H Q=>t d H λc e=>if c=true then u d e Q else Q false e
def tOr(t u:TT):TT:=λd H Q=>t d H λc e=>if c=true then Q true e else u d e Q
def ZN(t:TT):TT:=λd H Q=>t d H λc e=>Q (!c) e
theorem RF(f:PT X a tA):PW X (.BoolOp .And [a] pos) tA:=by
 intro i d s g H Q I h;refine isTrue_and<|uR (f d s g H Q I h) λc j e=>?_
 cases c with
 | true=>exact isTrue_and_nil e
 | false=>exact e
theorem NG(f:PT X a tA):PW X (.BoolOp .Or [a] pos) tA:=by
 intro i d s g H Q I h;refine isTrue_or<|uR (f d s g H Q I h) λc j e=>?_
 cases c with
 | false=>exact isTrue_or_nil e
 | true=>exact e
theorem Vk(j:PT X a tA)(k:PW X (.BoolOp .And (b::rest) pos) Zk):PW X (.BoolOp .And (a::b::rest) pos) (ZM tA Zk):=by
 intro l d s e H Q I h;refine isTrue_and<|uR (j d s e H _ I h) λc m n=>e1a2 n λf g i=>?_
 cases c with
 | true=>exact k l d m e f Q g i
 | false=>exact⟨f,g,i⟩
theorem UC(j:PT X a tA)(k:PW X (.BoolOp .Or (b::rest) pos) Zk):PW X (.BoolOp .Or (a::b::rest) pos) (tOr tA Zk):=by
 intro l d s e H Q I h;refine isTrue_or<|uR (j d s e H _ I h) λc m n=>e1a2 n λf g i=>?_
 cases c with
 | true=>exact⟨f,g,i⟩
 | false=>exact k l d m e f Q g i
theorem Vl(e:PT X a tA):PT X (.UnaryOp .Not a pos) (ZN tA):=by intro d s f H Q I h;exact isTrue_not<|e d s f H (λc g=>Q (!c) g) I h
def Xr(ta tb:TE):TE:=λd H Q=>ta d H λx e=>∃c,x=.bl c/\if c=true then tb d e Q else Q (.bl false) e
def ZO(ta tb:TE):TE:=λd H Q=>ta d H λx e=>∃c,x=.bl c/\if c=true then Q (.bl true) e else tb d e Q
def Xs(ta:TE):TE:=λd H Q=>ta d H λx e=>∃c,x=.bl c/\Q (.bl<|!c) e
theorem Vm{op}(h:PE X a t):PE X (.BoolOp op [a] pos) t:=λc s d H Q I e=>BoolOp_one<|h c s d H Q I e
theorem Vn(j:PE X a ta)(k:PE X (.BoolOp .And (b::rest) pos) tb):PE X (.BoolOp .And (a::b::rest) pos) (Xr ta tb):=by
 intro d s f H Q I h;refine BoolOp_and<|uR (j d s f H _ I h) λv l m=>e2a3 m λx g i n e=>?_;obtain⟨c,rfl,e⟩:=e;cases n;refine jA ?_
 cases c with
 | true=>exact k d l f g Q i e
 | false=>exact⟨.bl false,g,i,rfl,e⟩
theorem Xt(j:PE X a ta)(k:PE X (.BoolOp .Or (b::rest) pos) tb):PE X (.BoolOp .Or (a::b::rest) pos) (ZO ta tb):=by
 intro d s f H Q I h;refine BoolOp_or<|uR (j d s f H _ I h) λv l m=>e2a3 m λx g i n e=>?_;obtain⟨c,rfl,e⟩:=e;cases n;refine jA ?_
 cases c with
 | false=>exact k d l f g Q i e
 | true=>exact⟨.bl true,g,i,rfl,e⟩
theorem Vo(f:PE X a ta):PE X (.UnaryOp .Not a pos) (Xs ta):=by intro d s g H Q I h;refine UnaryOp_<|uR (f d s g H _ I h) λv m i=>e2a3 i λx j k l e=>?_;obtain⟨c,rfl,e⟩:=e;cases l;exact not_of<|jA ⟨.bl<|!c,j,k,rfl,e⟩
end
def vA(K:fZ)(H:Hp)(a:cr)(c:List V):Prop :=
 Rd H a (.lst c) \/
  ∃(o:Obj)(b:Array ci)(n:Nat),K.lookup a=some o/\o.cls=.type "list"/\o.dict=none/\o.data=.seq b n/\b.size<=gf/\Vals c b.toList
def yq(K:fZ)(H:Hp)(a:cr)(c:List V):Prop :=
 Rd H a (.tup c) \/
  ∃(o:Obj)(b:Array ci)(n:Nat),K.lookup a=some o/\o.cls=.type "tuple"/\o.data=.seq b n/\b.size<=gf/\Vals c b.toList
def ZP:ci->Option V
 | .none=>some .vK
 | .bool b=>some<|.bl b
 | .int i _=>some<|.int i
 | .str x _=>some<|.str x
 | .bytes b _=>some<|.KI b
 | .float b _=>some<|.Vh b
 | .ref a=>some<|.ref a
 | .type n=>some<|.ty n
 | _=>none
theorem RelV.abs(r:RelV x u):ZP u=some x:=by
 cases x with
 | vK=>cases r;rfl
 | bl _=>cases r;rfl
 | int _=>obtain⟨t,rfl⟩:=r;rfl
 | str _=>obtain⟨t,rfl⟩:=r;rfl
 | KI _=>obtain⟨t,rfl⟩:=r;rfl
 | Vh _=>obtain⟨t,rfl⟩:=r;rfl
 | ref _=>cases r;rfl
 | ty _=>cases r;rfl
theorem RelV.inj(r:RelV x u)(q:RelV y u):x=y:=ii<|r.abs.symm.trans q.abs
theorem Vals.inj:∀{d c:List V} {e:List ci},Vals d e->Vals c e->d=c:=by
 intro _ c _ z
 induction z generalizing c with
 | nil=>intro q;cases q;rfl
 | cons h t f=>intro q;cases q with|cons a b=>rw[h.inj a,f b]
theorem vA.of{K:fZ}(h:H a=some (.lst b)):vA K H a b:=.inl<|.inl h
theorem yq.of{K:fZ}(h:H a=some (.tup b)):yq K H a b:=.inl<|.inl h
theorem Inv.list(I:Inv X c j H s)(h:vA X.K H a d):∃b:List ci,Vals d b/\PlainL s.heap a b.toArray/\d.length<=gf:=by
 rcases h with h|⟨o,b,n,f,g,hd,i,k,r⟩
 ·obtain⟨z,b,n,r,e⟩:=h.ok I.uU;exact⟨b,r,⟨_,n,e,rfl,rfl,rfl⟩,z⟩
 ·refine⟨b.toList,r,⟨o,n,I.xP a o f,g,hd,by simpa using i⟩,?_⟩;have e:=r.length;simp only[gm] at e
  lia
theorem Inv.tuple(I:Inv X c j H s)(h:yq X.K H a d):∃b:List ci,Vals d b/\IsTup s.heap a b.toArray/\d.length<=gf:=by
 rcases h with h|⟨o,b,n,f,g,i,k,r⟩
 ·obtain⟨z,b,r,p⟩:=h.ok I.uU;exact⟨b,r,p,z⟩
 ·refine⟨b.toList,r,⟨o,I.xP a o f,g,n,by simpa using i⟩,?_⟩;have e:=r.length;simp only[gm] at e
  lia
theorem Inv.Hl(I:Inv X f q H s)(h:vA X.K H a j)(k:vA X.K H a l):j=l:=by
 obtain⟨c,r,⟨o,n,e,_,_,d⟩,_⟩:=I.list h;obtain⟨b,m,⟨t,u,g,_,_,i⟩,_⟩:=I.list k;rw[e] at g;cases g;rw[d] at i;injection i with p _;have:c=b:=by simpa using congrArg rn p
 subst this;exact r.inj m
theorem Inv.Mb(I:Inv X f q H s)(h:yq X.K H a j)(k:yq X.K H a l):j=l:=by
 obtain⟨c,r,⟨o,e,_,n,d⟩,_⟩:=I.tuple h;obtain⟨b,m,⟨t,g,_,u,i⟩,_⟩:=I.tuple k;rw[e] at g;cases g;rw[d] at i;injection i with p _;have:c=b:=by simpa using congrArg rn p
 subst this;exact r.inj m
abbrev Cx.Ee(X:Cx)(E:ci->gk->Prop):Cx:={ X with xe:=E}
abbrev Cx.Zl(X:Cx):Cx:=X.Ee λ_ _=>False
theorem Cx.Ok.Ee{X:Cx}(a:X.Ok)(E:ci->gk->Prop):(X.Ee E).Ok :=
 ⟨a.mod,a.kind,a.glob,a.blt,a.above,a.inj,a.has,a.Ny,a.hd,a.frames,a.Bj,a.RD,a.bs,a.Hh,a.Ce,a.CP,a.xC,a.IC⟩
theorem Cx.Ok.yY{X:Cx}{E:ci->gk->Prop}(a:(X.Ee E).Ok):X.Ok :=
 ⟨a.mod,a.kind,a.glob,a.blt,a.above,a.inj,a.has,a.Ny,a.hd,a.frames,a.Bj,a.RD,a.bs,a.Hh,a.Ce,a.CP,a.xC,a.IC⟩
theorem Inv.Ee(I:Inv X a b H s)(E:ci->gk->Prop):Inv (X.Ee E) a b H s:=⟨I.ok.Ee E,I.os,I.bare,I.base,I.loc,I.cell,I.free,I.xh,I.pin,I.uU,I.len⟩
theorem Inv.yY(I:Inv (X.Ee E) a b H s):Inv X a b H s:=⟨I.ok.yY,I.os,I.bare,I.base,I.loc,I.cell,I.free,I.xh,I.pin,I.uU,I.len⟩
theorem SP.yY(h:SP (X.Ee E) c D f d):SP X c D f d:=by
 cases f with
 | next=>obtain⟨a,b,I,q⟩:=h;exact⟨a,b,I.yY,q⟩
 | brk=>obtain⟨a,b,I,q⟩:=h;exact⟨a,b,I.yY,q⟩
 | cont=>obtain⟨a,b,I,q⟩:=h;exact⟨a,b,I.yY,q⟩
 | ret u=>obtain⟨v,a,b,I,r,q⟩:=h;exact⟨v,a,b,I.yY,r,q⟩
theorem Ed.Zl{b:List gP}(h:Ed X.Zl b t):Ed X b t:=λa s c H D I d =>
 io (h a s c H D (I.Ee _) d) (λ_ _ q=>q.yY) λ_ _ z=>gU z
section
variable{X:Cx}{st:gP}{rest:List gP}{t u:TS}
def UD:TS:=λD a H=>D.nx a H
def IL(t u:TS):TS:=λD a H=>t { D with nx:=u D} a H
theorem yz:Ed X [] UD:=λ_ _ a H _ I h=>mS ⟨a,H,I,h⟩
theorem vr(c:PS X st t)(d:Ed X rest u):Ed X (st::rest) (IL t u):=by
 intro a s e H D I h;refine wpAny_execs_cons<|uR (c a s e H { D with nx:=u D} I h) λf g q=>?_
 cases f with
 | next =>
  refine e2a2 q λb i j q=>?_;exact d a g b i D j q
 | ret v=>exact q
 | brk=>exact q
 | cont=>exact q
theorem wQ(b:PS X st t):Ed X [st] t:=by
 intro a s c H D I h;refine wpAny_execs_cons<|uR (b a s c H D I h) λf d q=>?_
 cases f with
 | next=>exact mS q
 | ret v=>exact q
 | brk=>exact q
 | cont=>exact q
theorem Inv.quiet(I:Inv X a b H s):interactive X.env=false:=by simp[interactive,I.ok.kind]
def Hm(b:TE):TS:=λD a H=>b a H λ_ c=>D.nx a c
theorem AA(c:PE X e d)(f:jp e none pos.line X.env=pure false:=by rfl):PS X (.Expr e pos) (Hm d):=by intro a s b H D I h;exact wpAny_Expr_any (uR (c a s b H _ I h) λv l g=>e2a3 g λx i j m k=>⟨b,i,j,k⟩) I.quiet f
def Vp(a:TE):TS:=λD b H=>a b H D.rt
theorem Bl(c:PE X e d):PS X (.Return (some e) pos) (Vp d):=by intro a s b H D I h;exact wpAny_Return_some<|uR (c a s b H _ I h) λv l f=>e2a3 f λx g i j k=>⟨x,b,g,i,j,k⟩
def ZQ(c:TT)(t u:TS):TS:=λD a H=>c a H λb d=>if b=true then t D a d else u D a d
theorem KL{c:hO}{a b:List gP}{g:TT}(m:PT X c g)(n:Ed X a t)(o:Ed X b u):PS X (.If c a b pos) (ZQ g t u):=by
 intro e s f H D I h;refine wpAny_If<|uR (m e s f H _ I h) λd i p=>e1a2 p λj k l=>?_
 cases d with
 | true=>exact n e i f j D k l
 | false=>exact o e i f j D k l
def Vq:TS:=λ_ _ _=>False
theorem Mc:Ed X a Vq:=λ_ _ _ _ _ _ h=>h.elim
end
abbrev TG:=V->St->Hp->(St->Hp->Prop)->Prop
abbrev Xe:=List V->St->Hp->(St->Hp->Prop)->Prop
def PG(X:Cx)(a:hO)(t:TG):Prop :=
 ∀(b:List (cr×Obj)) (s:gk) (d:St) (H:Hp) (v:V) (u:ci) (Q:St->Hp->Prop),Inv X b d H s->RelV v u->t v d H Q ->
  gn (gp X.prog X.w) X.A (rP a X.env u) (λ_ f=>∃c e,Inv X b c e f/\Q c e) X.xe s
def Zm(X:Cx)(g:List hO)(t:Xe):Prop :=
 ∀(a:List (cr×Obj)) (s:gk) (c:St) (H:Hp) (d:List V) (e:List ci) (Q:St->Hp->Prop),Inv X a c H s->Vals d e->t d c H Q ->
  gn (gp X.prog X.w) X.A (assignInOrder ((oS g X.env).map (·.2)) e) (λ_ h=>∃b f,Inv X a b f h/\Q b f) X.xe s
abbrev NH:=V->V->V->Hp->(Hp->Prop)->Prop
def Vs(X:Cx)(t:NH):Prop :=
 ∀(a:List (cr×Obj)) (s:gk) (b:St) (H:Hp) (o i v:V) (c d u:ci) (Q:Hp->Prop),Inv X a b H s->RelV o c->RelV i d->RelV v u->t o i v H Q ->
  gn (gp X.prog X.w) X.A (rE c d u) (λ_ f=>∃e,Inv X a b e f/\Q e) X.xe s
abbrev Zn:=V->V->Hp->VK->Prop
def ZR(X:Cx)(c:Operator)(t:Zn):Prop :=
 ∀(a:List (cr×Obj)) (s:gk) (b:St) (H:Hp) (x y:V) (v u:ci) (Q:VK),Inv X a b H s->RelV x v->RelV y u->t x y H Q ->
  gn (gp X.prog X.w) X.A (inplaceOp c v u) (EP X a b Q) X.xe s
def BU(i:Nat):TG:=λv a H Q=>Q (a.set i<|some v) H
theorem ut{i:Nat}(b:X.N.Nodup)(c:X.N[i]?=some x:=by rfl)(d:Loc X.env.scope x:=by exact nI rfl)(e:X.fn x=true\/X.env.scope.names.lookup x=some .local:=by first|exact .inl rfl|exact .inr rfl|assumption):PG X (.Name x pos) (BU i):=by intro a s g H v u Q I r h;exact wpAny_assign_Name<|Hj I b c d r (λj f=>⟨_,H,f,h⟩) e
def Vt:Xe:=λa b H Q=>a=[]/\Q b H
def Ez(t:TG)(u:Xe):Xe:=λb c H Q=>∃v r,b=v::r/\t v c H λa d=>u r a d Q
theorem zJ:Zm X [] Vt:=by intro a s b H c d Q I r h;obtain⟨e,h⟩:=h;subst e;cases r;exact assignInOrder_nil ⟨b,H,I,h⟩
theorem vH{e:hO}{b:List hO}{t:TG}{u:Xe}(d:PG X e t)(f:Zm X b u)
  (g:(oS (e::b) X.env).map (·.2)=rP e X.env::(oS b X.env).map (·.2):=by rfl):Zm X (e::b) (Ez t u):=by
 intro a s i H q w Q I r h;obtain⟨v,x,j,h⟩:=h;subst j
 cases r with
 | cons r k =>
  rw[g];refine assignInOrder_cons<|uR (d a s i H _ _ _ I r h) λ_ l m=>e2a2 m λc n o p=>?_;exact f a l c n _ _ Q o k p
def Vu(K:fZ)(n:Nat)(t:Xe):TG:=λv c H Q=>∃a b,v=.ref a/\yq K H a b/\b.length=n/\t b c H Q
theorem Bm{k:Nat}{n:Nat}(l:X.calm=true)(h:Zm X d t)
 (m:(oS d X.env).length=n:=by rfl)(f:(oS d X.env).findIdx? (·.1)=none:=by rfl):PG X (.Tuple d k pos) (Vu X.K n t):=by
  intro c s i H v u Q I r g
  obtain⟨a,p,q,w,x,g⟩:=g
  subst q
  cases r
  obtain⟨y,j,z,D⟩:=I.tuple w
  refine assign_Tuple_tuple (I.ok.hd l) z (by simp[m,<- x,j.length]) f λA B=>?_
  have C:Inv X c i H { s with heap:=A}:=I.kept (t':=s.toks) λb o e=>B b o (gx<|gl e) e
  exact h c _ i H p _ Q C (by simpa using j) g
def ZS(b c:TE)(t:NH):TG:=λv a H Q=>b a H λo d=>c a d λi e=>t o i v e λf=>Q a f
theorem NI{o i:hO}{f g:TE}{t:NH}(j:PE X o f)(k:PE X i g)(l:Vs X t)
  (m:∀v,rP (.Subscript o i pos) X.env v=(do
   let b <- jW [v] (eval o X.env)
   let c <- jW [v,b] (eval i X.env)
   lZ pos
   jW [v,b,c] (rE b c v)
   release [v,b,c] []):=by intro _;rfl):PG X (.Subscript o i pos) (ZS f g t):=by
 intro a s e H v u Q I r h;rw[m];refine am<|gV<|uR (j a s e H _ I h) λb n d=>e2a3 d λx p q w z=>?_;refine am<|gV<|uR (k a n e p _ q z) λc A d=>e2a3 d λy B C D E=>?_;refine am<|mB<|am<|gV<|uR (l a A e B x y v b c u _ C w D r E) λ_ L d=>e1a2 d λF G J=>?_;exact wpAny_release ⟨e,F,G,J⟩
def Vv(b:TE)(g:TG):TS:=λD a H=>b a H λx c=>g x a c D.nx
theorem IM{b e:hO}{c:TE}{g:TG}(f:PE X e c)(i:PG X b g)(j:swapsWithSole [b] e pos.line X.env=pure false:=by rfl)(hw:swappedStores [b] e X.env=pure none:=by rfl)
  (k:(oS [b] X.env).map (·.2)=[rP b X.env]:=by rfl):PS X (.Assign [b] e pos) (Vv c g):=by
 intro a s d H D I h;refine wpAny_Assign_stores (uR (f a s d H _ I h) λv l m=>e2a3 m λx n o p r=>?_) j hw;rw[k];exact uR (i a l d n x v _ o p r) λ_ t q=>q
theorem yZ{i:Nat}{x:Str}{e:hO}{c:TE}{a:Pos}(d:X.N.Nodup)(f:X.N[i]?=some x)(g:Loc X.env.scope x)(j:PE X e c)(k:jp e (some<|.Name x a) pos.line X.env=pure false:=by rfl)(l:X.fn x=true\/X.env.scope.names.lookup x=some .local:=by first|exact .inl rfl|exact .inr rfl|assumption) :
  PS X (.Assign [.Name x a] e pos) (Vv c<|BU i):=by
 intro b s m H D I h;refine wpAny_Assign_Name (uR (j b s m H _ I h) λv u n=>e2a3 n λy o p q r=>?_) k;exact Hj p d f g q (λw t=>⟨_,o,t,r⟩) l
def Xu(e f g:TE)(a:V->V->Hp->VK->Prop)(d:Zn)(b:NH):TS:=λD c H=>e c H λo h=>f c h λi j=>a o i j λx k=>g c k λy l=>d x y l λz m=>b o i z m λn=>D.nx c n
def Xv(X:Cx)(t:V->V->Hp->VK->Prop):Prop :=
 ∀(a:List (cr×Obj)) (s:gk) (b:St) (H:Hp) (o i:V) (c d:ci) (Q:VK),Inv X a b H s->RelV o c->RelV i d->t o i H Q ->
  gn (gp X.prog X.w) X.A (m6 c d) (EP X a b Q) X.xe s
theorem RG{o i e:hO}{p q r:TE}{d:V->V->Hp->VK->Prop}{l:Zn}{f:NH}{t:Operator}{m:Pos}(z:PE X o p)(A:PE X i q)(B:Xv X d)(C:PE X e r)(E:ZR X t l)(F:Vs X f)
  (G:∀g j b,augStore i g j b=(do jW [b,g,j] (rE g j b);release [b,g,j] [];pure .next):=by intros;rfl):PS X (.AugAssign (.Subscript o i m) t e pos) (Xu p q r d l f):=by
 intro a s k H D I h;refine ro (uR (z a s k H _ I h) λg J c=>e2a3 c λu L M w N=>?_) G;refine uR (A a J k L _ M N) λj O c=>e2a3 c λx P Q y R=>?_;refine uR (B a O k P u x g j _ Q w y R) λn S c=>e2a3 c λT U W Y Z=>?_;refine uR (C a S k U _ W Z) λv s4 c=>e2a3 c λx4 H4 I4 r4 q4=>?_;refine uR (E a s4 k H4 T x4 n v _ I4 Y r4 q4) λb s5 c=>e2a3 c λx5 H5 I5 r5 q5=>?_;exact uR (F a s5 k H5 u x x5 g j b _ I5 w y r5 q5) λ_ s6 c=>e1a2 c λH6 I6 q6=>⟨k,H6,I6,q6⟩
def ZU(f:Int->Int->Int):Zn:=λx y H Q=>∃i j,x=.int i/\y=.int j/\Q (.int<|f i j) H
theorem NJ:ZR X .Add (ZU λi j=>i+j):=by intro a s f H x y v u Q I b c h;obtain⟨i,j,d,e,q⟩:=h;subst d;subst e;obtain⟨t,rfl⟩:=b;obtain⟨g,rfl⟩:=c;exact iadd_int ⟨.int _,H,I.tok _,⟨_,rfl⟩,q⟩
theorem Vw:ZR X .Sub (ZU λi j=>i-j):=by intro a s f H x y v u Q I b c h;obtain⟨i,j,d,e,q⟩:=h;subst d;subst e;obtain⟨t,rfl⟩:=b;obtain⟨g,rfl⟩:=c;exact isub_int ⟨.int _,H,I.tok _,⟨_,rfl⟩,q⟩
def Vx(c:TT)(h:TS):TS:=λD a H=>∃W:Nat->St->Hp->Prop,(∃m,W m a H)/\∀m a H,W m a H ->
 c a H λb e=>if b=true then ∃N:St->Hp->Prop,(∀d f,N d f->∃g,g<m/\W g d f)/\h { D with nx:=N,ct:=N,bk:=D.nx} a e else D.nx a e
theorem NK{c:hO}{g:List gP}{u:TT}{x:TS}(y:qL (gp X.prog X.w) X.A X.env X.xe)(F:PT X c u)(G:Ed X g x):PS X (.While c g [] pos) (Vx u x):=by
 intro a s J H D I h;obtain⟨W,⟨L,M⟩,i⟩:=h;refine wpAny_While<|codeAny_whileLoop (λn O=>∃j z,Inv X a j z O/\W n j z) ?_ L ⟨J,H,I,M⟩;rintro n P ⟨e,H1,Q,R⟩;refine kH y<|uR (F a P e H1 _ Q<|i n e H1 R) λb S T=>e1a2 T λB C l=>?_
 cases b with
 | true =>
  refine e1a2 l λN E l=>?_;rw[f7 rfl];refine kH y<|uR (G a S e B _ C l) λf U m=>?_
  cases f with
  | next =>
   refine e2a2 m λd k o p=>?_;refine e1a2 (E d k p) λq r t=>?_;exact⟨q,r,d,k,o,t⟩
  | cont =>
   refine e2a2 m λd k o p=>?_;refine e1a2 (E d k p) λq r t=>?_;exact⟨q,r,d,k,o,t⟩
  | brk=>exact m
  | ret v=>exact m
 | false =>
  rw[f8 gr];exact mS ⟨e,B,C,l⟩
structure It where
 go:Nat->Hp->Prop
 G9:Nat->Hp->V->Hp->Prop
 stop:Nat->Hp->Prop
def Ak(X:Cx)(a:List (cr×Obj))(H:Hp)(b:cr):Prop :=
 H b=none/\b≠X.env.locals/\b∉X.fs/\(b∈X.ex\/X.s₀.heap.objs.size<=b)/\(∀x c,X.env.cells.lookup x=some c->c≠b)/\∀p∈X.pn++a,p.1≠b
theorem Inv.Fh(I:Inv X a i H s)(d:s.heap.objs.size<=b)(f:g b=none):Ak X a g b:=by
 refine⟨f,iG<|gD I.lt d,I.ZK d,.inr<|gO I.sz d,λx c e z=>?_,λp h z=>?_⟩
 ·obtain⟨v,q⟩:=I.cell x c e;exact gy (gD q.lt<|by rw[z];exact d)<|jj _
 ·exact gy (gD (gl (I.pin p h).1)<|by rw[z];exact d)<|jj _
structure Turn(P:gS)(w:ic)(K:fZ)(tg:hO)(J:It)(fp:List cr)(it:cr)(tn:Nat->hR->Prop):Prop where
 mem:it∈fp
 obj:∀i h,tn i h->∀b∈fp,∃o,h.get? b=some o/\∀v,o.data≠.cell v
 keep:∀i h h',tn i h->(∀b∈fp,∀o,h.get? b=some o->h'.get? b=some o)->tn i h'
 item:∀(X:Cx),X.prog=P->X.w=w->X.K=K->X.calm=true->∀(i:Nat) (pins:List (cr×Obj)) (s:gk) (σ:St) (H:Hp) (E:ci->gk->Prop),Inv X pins σ H s->(∀b∈fp,Ak X pins H b)->tn i s.heap->J.go i H ->
  gn (gp P w) X.A (pyNext (.ref it)) (λr s1=>∃u,r=some u /\
   gn (gp P w) X.A (rq tg (.ref it) u) (λ_ s2=>∃x H',Inv X pins σ H' s2/\RelV x u/\J.G9 i H x H'/\tn (i+1) s2.heap/\∀b∈fp,H' b=none) E s1) E s
 done:∀(X:Cx),X.prog=P->X.w=w->X.K=K->X.calm=true->∀(i:Nat) (pins:List (cr×Obj)) (s:gk) (σ:St) (H:Hp) (E:ci->gk->Prop),Inv X pins σ H s->(∀b∈fp,Ak X pins H b)->tn i s.heap->J.stop i H ->
  gn (gp P w) X.A (pyNext<|.ref it) (λr s1=>r=none/\Inv X pins σ H s1) E s
 self:∀(A:iR)(i:Nat)(s:gk)(Q:ci->gk->Prop)(E:ci->gk->Prop),tn i s.heap->Q (.ref it) s->gn (gp P w) A (pyIter<|.ref it) Q E s
abbrev TI:=St->Hp->(It->Hp->Prop)->Prop
def PIE(X:Cx)(a:List (cr×Obj))(i:St)(j:hO)(R:It->Hp->Prop)(c:ci)(e:gk):Prop :=
 ∃(f:cr)(g:List cr)(h:Nat->hR->Prop)(J:It)(d:Hp),c=.ref f/\Inv X a i d e/\Turn X.prog X.w X.K j J g f h/\h 0 e.heap/\(∀b∈g,Ak X a d b)/\R J d
def PI(X:Cx)(d b:hO)(e:TI):Prop :=
 ∀(a:List (cr×Obj)) (s:gk) (c:St) (H:Hp) (R:It->Hp->Prop),Inv X a c H s->e c H R ->
  gn (gp X.prog X.w) X.A (eval b X.env) (λv f=>gn (gp X.prog X.w) X.A (pyIter v) (PIE X a c d R) X.xe f) X.xe s
theorem NL{s:gk}(b:s.heap.get? c=some o)(d:o.cls=.type n)(e:o.data=.fields f)
 (g:["enumerate","zip","dict_itemiterator","dict_reverseitemiterator","odict_iterator","itertools.zip_longest","itertools.pairwise"].contains n=false)(a:Q () s):gn M A (rq i (.ref c) u) Q E s:=by
  cases i<;>first
    | exact ap a
    | (cases u<;>first
        | exact ap a
        | (refine am (qb b ?_)
           rw[d,e]
           show gn M A (if (["enumerate","zip","dict_itemiterator","dict_reverseitemiterator","odict_iterator","itertools.zip_longest","itertools.pairwise"].contains n&&f[0]?==some (kM _))=true then _ else _) Q E s
           rw[f8<|by intro h;rw[g,Bool.false_and] at h;cases h]
           exact ap a))
def Xf(K:fZ)(a:cr):It :=
 ⟨λi H=>∃b x,vA K H a b/\b[i]?=some x,λi H x c=>c=H/\∀b,vA K H a b->b[i]?=some x,λi H=>∃b,vA K H a b/\b.length<=i⟩
def ZV(K:fZ)(a:cr):It :=
 ⟨λi H=>∃b x,yq K H a b/\b[i]?=some x,λi H x c=>c=H/\∀b,yq K H a b->b[i]?=some x,λi H=>∃b,yq K H a b/\b.length<=i⟩
def Vy(a:Int)(n:Nat):It:=⟨λi _=>i<n,λi H x b=>b=H/\x=.int (a+i),λi _=>n<=i⟩
theorem Md{P:gS}{w:ic}{K:fZ}{tg:hO}(a it:cr):Turn P w K tg (Xf K a) [it] it (λi h=>h.IsListIter it a i) where
 mem:=by simp
 obj:=λi h st b hb=>by
  have e:b=it:=by simpa using hb
  subst e;refine e1a3 st λo e c d=>?_;exact⟨o,e,λv z=>by rw[d] at z;cases z⟩
 keep:=λi h h' st k=>st.at λo e=>k it q0o o e
 item:=by intro X hP hw hK hc i pins s σ H E I hf st hg;subst hP hw hK;refine e2a2 hg λxs x hq hx=>?_;refine e1a3 (I.list hq) λyW rv p hz=>?_;refine e1a2 (rv.get hx) λu hu ru=>?_;refine e0a6 (hf it q0o) λf0 f1 f2 f3 f4 f5=>?_;refine wpAny_pyNext_list_item st p.isList (x:=u) (by simpa using hu) λh' UE sb=>?_;have I1:Inv X pins σ H { s with heap:=h'}:=I.turned (t':=s.toks) (λb o hb e=>(sb.2 b hb).trans e) f0 f1 f3 f4 f5;refine e1a3 (id UE) λo e c d=>?_;exact⟨u,rfl,NL (s:={ s with heap:=h'}) e c d q0q ⟨x,H,I1,ru,⟨rfl,λys hy=>by rw[I.Hl hy hq];exact hx⟩,UE,λb hb=>(hf b hb).1⟩⟩
 done:=by intro X hP hw hK hc i pins s σ H E I hf st hg;subst hP hw hK;refine e1a2 hg λxs hq hx=>?_;refine e1a3 (I.list hq) λyW rv p hz=>?_;refine e0a6 (hf it q0o) λf0 f1 f2 f3 f4 f5=>?_;have hl:=rv.length;exact wpAny_pyNext_list_end (I.ok.hd hc) st p.isList (by simp;lia) λh' eb=>⟨rfl,I.turned (t':=s.toks) (λb o hb e=>eb b o hb e) f0 f1 f3 f4 f5⟩
 self:=λ_ _ _ _ _ st h=>wpAny_pyIter_listiter st h
theorem IN{P:gS}{w:ic}{K:fZ}{tg:hO}(a it:cr):Turn P w K tg (ZV K a) [it] it (λi h=>h.IsTupleIter it a i) where
 mem:=by simp
 obj:=λi h st b hb=>by
  have e:b=it:=by simpa using hb
  subst e;refine e1a3 st λo e c d=>?_;exact⟨o,e,λv z=>by rw[d] at z;cases z⟩
 keep:=λi h h' st k=>st.at λo e=>k it q0o o e
 item:=by intro X hP hw hK hc i pins s σ H E I hf st hg;subst hP hw hK;refine e2a2 hg λxs x hq hx=>?_;refine e1a3 (I.tuple hq) λyW rv p hz=>?_;refine e1a2 (rv.get hx) λu hu ru=>?_;refine e0a6 (hf it q0o) λf0 f1 f2 f3 f4 f5=>?_;refine wpAny_pyNext_tuple_item st (show s.heap.IsTuple a yW.toArray from p) (x:=u) (by simpa using hu) λh' UE sb=>?_;have I1:Inv X pins σ H { s with heap:=h'}:=I.turned (t':=s.toks) (λb o hb e=>(sb.2 b hb).trans e) f0 f1 f3 f4 f5;refine e1a3 (id UE) λo e c d=>?_;exact⟨u,rfl,NL (s:={ s with heap:=h'}) e c d q0q ⟨x,H,I1,ru,⟨rfl,λys hy=>by rw[I.Mb hy hq];exact hx⟩,UE,λb hb=>(hf b hb).1⟩⟩
 done:=by intro X hP hw hK hc i pins s σ H E I hf st hg;subst hP hw hK;refine e1a2 hg λxs hq hx=>?_;refine e1a3 (I.tuple hq) λyW rv p hz=>?_;refine e0a6 (hf it q0o) λf0 f1 f2 f3 f4 f5=>?_;have hl:=rv.length;exact wpAny_pyNext_tuple_end (I.ok.hd hc) st (show s.heap.IsTuple a yW.toArray from p) (by simp;lia) λh' eb=>⟨rfl,I.turned (t':=s.toks) (λb o hb e=>eb b o hb e) f0 f1 f3 f4 f5⟩
 self:=λ_ _ _ _ _ st h=>wpAny_pyIter_tupleiter st h
theorem IP{P:gS}{w:ic}{K:fZ}{tg:hO}(it:cr)(lo:Int)(n:Nat):Turn P w K tg (Vy lo n) [it] it (λi h=>IsRangeIter h it (lo+(i:Nat)*1) ((n:Int)-(i:Nat)) 1) where
 mem:=by simp
 obj:=λi h st b hb=>by
  have e:b=it:=by simpa using hb
  subst e
  exact⟨_,st,λv z=>by
   have z':sw _=Data.cell v:=z
   cases z'⟩
 keep:=λi h h' st k=>k it q0o _ st
 item:=by intro X hP hw hK hc i pins s σ H E I hf st hg;subst hP hw hK;refine e0a6 (hf it q0o) λf0 f1 f2 f3 f4 f5=>?_;have W:=Walks.range (prog:=X.prog) (w:=X.w) (I.ok.hd hc) it lo 1 n;refine W.item i s _ _ hg st λv h' tk hv UE kk=>?_;obtain⟨t,rfl⟩:=hv;have I1:Inv X pins σ H { s with heap:=h',toks:=tk}:=I.turned (λb o hb e=>kk b o (by simpa using hb) e) f0 f1 f3 f4 f5;refine⟨_,rfl,NL (s:={ s with heap:=h',toks:=tk}) (n:="range_iterator") UE rfl rfl q0q ⟨.int<|lo+i,H,I1,⟨t,?_⟩,⟨rfl,rfl⟩,UE,λb hb=>(hf b hb).1⟩⟩;rw[Int.mul_one]
 done:=by intro X hP hw hK hc i pins s σ H E I hf st hg;refine e0a6 (hf it q0o) λf0 f1 f2 f3 f4 f5=>?_;exact wpAny_pyNext_range_end (I.ok.hd hc) st (by have:n<=i:=hg;lia) λh' eb=>⟨rfl,I.turned (t':=s.toks) (λb o hb e=>eb b o hb e) f0 f1 f3 f4 f5⟩
 self:=λ_ _ _ _ _ st h=>wpAny_pyIter_rangeiter st h
def Xw(K:fZ)(c:TE):TI:=λd H R=>c d H λx b=>∃a,x=.ref a/\(∃e,vA K b a e)/\R (Xf K a) b
def ZW(K:fZ)(c:TE):TI:=λd H R=>c d H λx b=>∃a,x=.ref a/\(∃e,yq K b a e)/\R (ZV K a) b
theorem Fi{l:hO}{g:TE}(i:PE X l g):PI X y l (Xw X.K g):=by
 intro c s j H R I h;refine uR (i c s j H _ I h) λv d k=>e2a3 k λx m f n r=>?_;obtain⟨a,e,⟨z,t⟩,q⟩:=r;subst e;cases n;refine e1a3 (f.list t) λu A p B=>?_;refine wpAny_pyIter_list p.isList ?_;refine⟨d.heap.objs.size,[d.heap.objs.size],_,_,m,rfl,f.kept (t':=d.toks) λb o e=>ce _ e,Md a _,⟨_,gu _ rfl,rfl,rfl⟩,λb w=>?_,q⟩;have e:b=d.heap.objs.size:=by simpa using w
 subst e;exact f.Fh (ga _)<|f.uU.fresh<|ga _
theorem Vz{l:hO}{i:TE}(j:PE X l i):PI X y l (ZW X.K i):=by
 intro c s k H R I h;refine uR (j c s k H _ I h) λv d m=>e2a3 m λx n f r t=>?_;obtain⟨a,e,⟨z,u⟩,q⟩:=t;subst e;cases r;refine e1a3 (f.tuple u) λg A p B=>?_;refine qc (show d.heap.IsTuple a g.toArray from p) ?_;refine⟨d.heap.objs.size,[d.heap.objs.size],_,_,n,rfl,f.kept (t':=d.toks) λb o e=>ce _ e,IN a _,⟨_,gu _ rfl,rfl,rfl⟩,λb w=>?_,q⟩;have e:b=d.heap.objs.size:=by simpa using w
 subst e;exact f.Fh (ga _)<|f.uU.fresh<|ga _
theorem Hn{a c:Int}{f:Nat}(I:Inv X d h H s)(i:-(2 ^ 62)<=a)(j:a<2 ^ 62)(k:-(2 ^ 62)<=c)(l:c<2 ^ 62)
 (q:R (Vy a (c-a).toNat) H):gn (gp X.prog X.w) X.A (pyIter<|.ref s.heap.objs.size) (PIE X d h r R) E { s with heap:=s.heap.push { cls:=.type "range",data:=.fields #[.int a t,.int c u,.int 1 v]},toks:=f}:=by
  refine wpAny_pyIter_range (IsRange.new ..) (small_one i j k l) ?_
  have g:Inv X d h H { s with heap:=s.heap.push { cls:=.type "range",data:=.fields #[.int a t,.int c u,.int 1 v]},toks:=f}:=I.kept λb o e=>ce _ e
  refine⟨(s.heap.push { cls:=.type "range",data:=.fields #[.int a t,.int c u,.int 1 v]}).objs.size,[(s.heap.push { cls:=.type "range",data:=.fields #[.int a t,.int c u,.int 1 v]}).objs.size],_,_,H,rfl,
    g.kept (t':=f) λb o e=>ce _ e,IP _ a (c-a).toNat,?_,λb m=>?_,q⟩
  · have n : a+((0 : Nat) : Int)*1 = a := by simp
    have p:(((c-a).toNat:Nat):Int)-((0:Nat):Int)=Builtin.Range.rangeSize a c 1:=by rw[rangeSize_one];split<;>lia
    rw[n,p]
    exact gu _ rfl
  · have e : b = (s.heap.push { cls := .type "range", data := .fields #[.int a t, .int c u, .int 1 v] }).objs.size := by simpa using m
    subst e
    exact g.Fh (ga _)<|g.uU.fresh<|ga _
def Xx(a:TA):TI:=λb H R=>a b H λc d=>∃j:Int,c=[.int j]/\-(2 ^ 62)<=j/\j<2 ^ 62/\R (Vy 0 j.toNat) d
def UF(a:TA):TI:=λb H R=>a b H λc d=>∃i j:Int,c=[.int i,.int j]/\(-(2 ^ 62)<=i/\i<2 ^ 62/\-(2 ^ 62)<=j/\j<2 ^ 62)/\R (Vy i (j-i).toNat) d
theorem Me{a:hO}{f:TA}{p b:Pos}(g:Gl X "range")(i:X.mg "range"=none)(k:PA X [a] f)(l:f9 [a] X.env=[(false,eval a X.env)]:=by rfl):PI X x (.Call (.Name "range" p) [a] [] b) (Xx f):=by
 intro c s m H R I h;refine Call_<|yy I g i boot_range<|jt (uR (k b c s m H _ I h) λy z n=>e2a3 n λA B o u d=>?_) l rfl;obtain⟨j,e,d,v,q⟩:=d;subst e
 cases u with
 | cons r w =>
  cases w;obtain⟨t,rfl⟩:=r;exact call_range_1<|Hn o q0a q0a d v (by simpa using q)
theorem Mg{a b:hO}{l:TA}{p c:Pos}(m:Gl X "range")(n:X.mg "range"=none)(o:PA X [a,b] l)(u:f9 [a,b] X.env=[(false,eval a X.env),(false,eval b X.env)]:=by rfl)(d:f9 [b] X.env=[(false,eval b X.env)]:=by rfl) :
  PI X C (.Call (.Name "range" p) [a,b] [] c) (UF l):=by
 intro f s v H R I h;refine Call_<|yy I m n boot_range<|jt (uR (o c f s v H _ I h) λD E ⟨F,H1,w,x,g⟩=>?_) (by rw[u,d]) (by rw[d];rfl);obtain⟨i,j,e,⟨g,y,z,A⟩,q⟩:=g;subst e
 cases x with
 | cons r k =>
  cases k with
  | cons B k =>
   cases k;obtain⟨t,rfl⟩:=r;obtain⟨G,rfl⟩:=B;exact call_range_2<|Hn w g y z A q
def ZX(f:TI)(g:TG)(h:TS):TS:=λD a H=>f a H λJ j=>∃W:Nat->Nat->St->Hp->Prop,(∃m,W 0 m a j)/\∀i m a H,W i m a H ->
 (J.stop i H/\D.nx a H)\/(J.go i H/\∃N:St->Hp->Prop,(∀b c,N b c->∃e,e<m/\W (i+1) e b c)/\∀x c,J.G9 i H x c->g x a c λd k=>h { D with nx:=N,ct:=N,bk:=D.nx} d k)
def CS(a:List cr)(h:hR):List (cr×Obj):=a.filterMap λb=>(h.get? b).map λo=>(b,o)
theorem wD{h:hR}(a:b∈c)(e:h.get? b=some o):(b,o)∈CS c h:=List.mem_filterMap.mpr ⟨b,a,by rw[e];rfl⟩
theorem Mh(a:p∈CS c h):p.1∈c/\h.get? p.1=some p.2:=by
 refine e1a2 (List.mem_filterMap.mp a) λb d e=>?_
 cases q:h.get? b with
 | none=>rw[q] at e;cases e
 | some o =>
  rw[q] at e;have f:(b,o)=p:=ii e;subst f;exact⟨d,q⟩
theorem Inv.pinned(I:Inv X a g H s)(h:∀b∈fp,Ak X a H b)(i:∀b∈fp,∃o,s.heap.get? b=some o/\∀v,o.data≠.cell v):Inv X (a++CS fp s.heap) g H s :=
 I.yw λp j=>(List.mem_append.mp j).elim (λz=>I.pin p<|gE _ z) λz=>by obtain⟨c,e⟩:=Mh z;obtain⟨k,l,m,_⟩:=h p.1 c;refine e1a2 (i p.1 c) λo f d=>?_;rw[e] at f;cases f;exact⟨e,k,l,m,d⟩
theorem Inv.y8(I:Inv X (a++d) b H s):Inv X a b H s:=I.yw λp c=>I.pin p<|gE _<|il _ c
theorem NM{j:hO}{C:List gP}{wi:TI}{g:TG}{tb:TS}{Y:Pos}(M:qL (gp X.prog X.w) X.A X.env X.xe)(hc:X.calm=true)(hi:PI X tg j wi)(hg:PG X tg g)(k:Ed X C tb)
  (hs:∀x,jB j X.env x=pure x:=by intro _;rfl):PS X (.For tg j C [] Y) (ZX wi g tb):=by
 intro a s σ H D I h;refine wpAny_For (uR (hi a s σ H _ I h) λv s1 h1=>uR h1 λai s2 h2=>?_) hs;obtain⟨it,O,tn,J,H2,e,I2,T,Z,f2,W,⟨m0,w0⟩,P⟩:=h2;subst e
 -- ag aa true of the E Q through the ah
 have l:∀{B:Hp},(∀b∈O,B b=none)->∀b∈O,Ak X a B b:=λhn b k=>⟨hn b k,(f2 b k).2⟩;refine codeAny_forLoop_any (λn s'=>∃i p B,Inv X a p B s'/\tn i s'.heap/\(∀b∈O,B b=none)/\W i n p B) ?_ m0 ⟨0,σ,H2,I2,Z,λb k=>(f2 b k).1,w0⟩;rintro n s3 ⟨i,q,H3,I3,R,S,w3⟩;rcases P i n q H3 w3 with⟨stop,qn⟩|⟨go,N,hN,step⟩
 ·refine kH M<|uR (T.done X rfl rfl rfl hc i a s3 q H3 X.xe I3 (l S) R stop) λr s4 G=>e0a2 G λhr I4=>?_;subst hr;exact mS ⟨q,H3,I4,qn⟩
 ·refine kH M<|uR (T.item X rfl rfl rfl hc i a s3 q H3 X.xe I3 (l S) R go) λr s4 G=>e1a2 G λu hr h4=>?_;subst hr;refine kH M<|uR h4 λ_ s5 G=>e2a5 G λx H5 I5 r5 y5 L ab=>?_;have ae:=I5.pinned (l ab)<|T.obj _ _ L;refine kH M<|uR (hg _ s5 q H5 x u _ ae r5<|step x H5 y5) λ_ s6 G=>e2a2 G λaf H6 I6 q6=>?_;refine kH M (uR (k _ s6 af H6 _ I6 q6) λf s7 F=>?_)
  have t:∀{c:St} {y:Hp},Inv X (a++CS O s5.heap) c y s7->N c y->∃m,m<n/\∃i p B,Inv X a p B s7/\tn i s7.heap/\(∀b∈O,B b=none)/\W i m p B:=λ{c y} z U=>by refine e1a2 (hN c y U) λm' hm w7=>?_;refine⟨m',hm,i+1,c,y,z.y8,T.keep _ _ _ L λb k o e=>(z.pin (b,o)<|gE _<|gE _<|wD k e).1,λb k=>?_,w7⟩;refine e1a2 (T.obj _ _ L b k) λo e d=>?_;exact(z.pin (b,o)<|gE _<|gE _<|wD k e).2.1
  cases f with
  | next=>obtain⟨c,y,z,U⟩:=F;exact t z U
  | cont=>obtain⟨c,y,z,U⟩:=F;exact t z U
  | brk=>obtain⟨c,y,z,F⟩:=F;exact⟨c,y,z.y8,F⟩
  | ret v=>obtain⟨x7,c,y,z,r7,F⟩:=F;exact⟨x7,c,y,z.y8,r7,F⟩
theorem NN{K:fZ}{a:cr}{xs:List V}{g:TG}{l:TS}{D:Ends}{b:St}{H:Hp}(c:Nat->St->Hp->Prop)(o:c 0 b H)(r:∀i b H,i<=xs.length->c i b H->vA K H a xs)
  (s:∀i x b H,xs[i]?=some x->c i b H->g x b H λd k=>l { D with nx:=c<|i+1,ct:=c<|i+1,bk:=D.nx} d k) (t:∀b H,c xs.length b H->D.nx b H) :
  ∃W:Nat->Nat->St->Hp->Prop,(∃m,W 0 m b H)/\∀i m b H,W i m b H ->
   ((Xf K a).stop i H/\D.nx b H)\/((Xf K a).go i H/\∃N:St->Hp->Prop,(∀f h,N f h->∃n,n<m/\W (i+1) n f h)/\∀x h,(Xf K a).G9 i H x h->g x b h λd k=>l { D with nx:=N,ct:=N,bk:=D.nx} d k):=by
 refine⟨λi m b H=>m=xs.length-i/\i<=xs.length/\c i b H,⟨xs.length,q0o,im _,o⟩,?_⟩;rintro i m b H ⟨rfl,u,p⟩;have q:=r i b H u p;by_cases j:i<xs.length
 ·refine .inr ⟨⟨xs,xs[i],q,by simp[j]⟩,c<|i+1,λf h v=>⟨xs.length-(i+1),q0d,rfl,j,v⟩,λx h y=>?_⟩;obtain⟨e,y⟩:=y;subst e;exact s i x b _ (y xs q) p
 ·have e:i=xs.length:=by omega
  subst e;exact .inl ⟨⟨xs,q,ga _⟩,t b H p⟩
abbrev R2:=V->V->Hp->VK->Prop
def zW(X:Cx)(f:ci->ci->Sem ci)(r:R2):Prop :=
 ∀(a:List (cr×Obj)) (s:gk) (b:St) (H:Hp) (x y:V) (v u:ci) (Q:VK),Inv X a b H s->RelV x v->RelV y u->r x y H Q ->
  gn (gp X.prog X.w) X.A (f v u) (EP X a b Q) X.xe s
def ZY(X:Cx)(f:ci->Sem ci)(r:V->Hp->VK->Prop):Prop :=
 ∀(a:List (cr×Obj)) (s:gk) (b:St) (H:Hp) (x:V) (v:ci) (Q:VK),Inv X a b H s->RelV x v->r x H Q ->
  gn (gp X.prog X.w) X.A (f v) (EP X a b Q) X.xe s
def xQ(X:Cx)(f:ci)(r:List V->Hp->VK->Prop):Prop :=
 ∀(a:List (cr×Obj)) (s:gk) (b:St) (H:Hp) (c:List V) (d:List ci) (Q:VK),Inv X a b H s->Vals c d->r c H Q ->
  gn (gp X.prog X.w) X.A (call f d) (EP X a b Q) X.xe s
def ZZ(X:Cx)(r:V->Hp->(Bool->Hp->Prop)->Prop):Prop :=
 ∀(a:List (cr×Obj)) (s:gk) (b:St) (H:Hp) (x:V) (v:ci) (Q:Bool->Hp->Prop),Inv X a b H s->RelV x v->r x H Q ->
  gn (gp X.prog X.w) X.A (tF v) (TP X a b Q) X.xe s
def Xg(r:R2)(b c:TE):TE:=λa H Q=>b a H λx d=>c a d λy e=>r x y e Q
def tUn(r:V->Hp->VK->Prop)(a:TE):TE:=λb H Q=>a b H λx c=>r x c Q
def rI(C:Int->Int->Prop)(g:Int->Int->V):R2:=λx y H Q=>∃i j,x=.int i/\y=.int j/\C i j/\Q (g i j) H
def Rs(g:Int->Int->V):R2:=λx y H Q=>∃i j,x=.int i/\y=.int j/\Q (g i j) H
def rU(g:Int->V):V->Hp->VK->Prop:=λx H Q=>∃i,x=.int i/\Q (g i) H
theorem VA(m:PE X a n)(o:PE X b p){c:List (cr×Obj)}{s:gk}{d:St}{H:Hp}{R:V->V->Hp->Prop}(I:Inv X c d H s)
  (h:n d H λx k=>p d k λy e=>R x y e) {Q:ci->gk->Prop} {f:ci->ci->Sem ci}
  (q:∀v u j x y e,Inv X c d e j->RelV x v->RelV y u->R x y e->gn (gp X.prog X.w) X.A (f v u) Q X.xe j) :
  gn (gp X.prog X.w) X.A (eval a X.env) (λv g=>gn (gp X.prog X.w) X.A (eval b X.env) (λu i=>gn (gp X.prog X.w) X.A (f v u) Q X.xe i) X.xe g) X.xe s:=by
 refine uR (m c s d H _ I h) λv r l=>e2a3 l λx k t z B=>?_;refine uR (o c r d k _ t B) λu j l=>e2a3 l λy e C D E=>?_;exact q v u j x y e C z D E
theorem v0(d:zW X (lF op) r)(e:PE X a f)(g:PE X b i):PE X (.BinOp a op b pos) (Xg r f i):=by intro c s j H Q I h;exact wpAny_BinOp<|VA e g I h λv u k x y l m n o q=>d c k j l x y v u Q m n o q
theorem UG{c:UnaryOp}{r:V->Hp->VK->Prop}(e:ZY X (unaryOp c) r)(f:PE X a g):PE X (.UnaryOp c a pos) (tUn r g):=by intro b s d H Q I h;exact UnaryOp_<|uR (f b s d H _ I h) λv i j=>e2a3 j λx k l m n=>e b i d k x v Q l m n
theorem Zo{f:ci->ci->Sem ci}{C:Int->Int->Prop}{g:Int->Int->Int}
 (a:∀(i j:Int)(t u:Tok)(s:gk)(Q:ci->gk->Prop)(E:ci->gk->Prop),C i j->Q (.int (g i j) s.toks) { s with toks:=s.toks+1}->gn (gp X.prog X.w) X.A (f (.int i t)<|.int j u) Q E s) :
    zW X f (rI C λi j=>.int<|g i j):=by
  intro b s l H x y v u Q I c d h
  obtain⟨i,j,rfl,rfl,e,q⟩:=h
  obtain⟨t,rfl⟩:=c
  obtain⟨k,rfl⟩:=d
  exact a i j t k s _ _ e ⟨.int<|g i j,H,I.tok _,⟨_,rfl⟩,q⟩
theorem Xy{f:ci->ci->Sem ci}{g:Int->Int->Int}
 (a:∀(i j:Int)(t u:Tok)(s:gk)(Q:ci->gk->Prop)(E:ci->gk->Prop),Q (.int (g i j) s.toks) { s with toks:=s.toks+1}->gn (gp X.prog X.w) X.A (f (.int i t)<|.int j u) Q E s) :
    zW X f (Rs λi j=>.int<|g i j):=by
  intro b s k H x y v u Q I c d h
  obtain⟨i,j,rfl,rfl,q⟩:=h
  obtain⟨t,rfl⟩:=c
  obtain⟨e,rfl⟩:=d
  exact a i j t e s _ _ ⟨.int<|g i j,H,I.tok _,⟨_,rfl⟩,q⟩
theorem RH{f:ci->ci->Sem ci}{g:Int->Int->Bool}
 (a:∀(i j:Int)(t u:Tok)(s:gk)(Q:ci->gk->Prop)(E:ci->gk->Prop),Q (.bool<|g i j) s->gn (gp X.prog X.w) X.A (f (.int i t)<|.int j u) Q E s) :
    zW X f (Rs λi j=>.bl<|g i j):=by
  intro b s k H x y v u Q I c d h
  obtain⟨i,j,rfl,rfl,q⟩:=h
  obtain⟨t,rfl⟩:=c
  obtain⟨e,rfl⟩:=d
  exact a i j t e s _ _ ⟨.bl<|g i j,H,I,rfl,q⟩
def Z0(i j:Int):Prop:=0<j/\j<1073741824
def Z1(i j:Int):Prop:=0<=j/\j<=1000000/\i.natAbs<2 ^ 64
def VB(i j:Int):Prop:=(-(2 ^ 64)<i/\i<2 ^ 64)\/(-(2 ^ 64)<j/\j<2 ^ 64)
theorem VB.ok{i j:Int}(h:VB i j):IntMulOk i j:=by
 rcases h with⟨a,b⟩|⟨a,b⟩
 ·exact .of_left<|intBits_le_64 a b
 ·exact .of_right<|intBits_le_64 a b
theorem Al:zW X (lF .Add) (Rs λi j=>.int<|i+j):=Xy λ_ _ _ _ _ _ _ q=>add_int q
theorem Fj:zW X (lF .Sub) (Rs λi j=>.int<|i-j):=Xy λ_ _ _ _ _ _ _ q=>sub_int q
theorem Am:zW X (lF .Mult) (rI VB λi j=>.int<|i*j):=Zo λ_ _ _ _ _ _ _ a q=>mul_int q a.ok
theorem KN:zW X (lF .FloorDiv) (rI Z0 λi j=>.int<|i / j):=Zo λi j _ _ _ _ _ a q=>by have b:(0:Int)<j:=a.1;have c:j<1073741824:=a.2;exact floordiv_int q0d (by rw[Int.fdiv_eq_ediv_of_nonneg i q0d];exact q)<|.inl<|PyProof.noPylong_small q0d
theorem Bo:zW X (lF .Mod) (rI (λ_ j=>0<j) λi j=>.int<|i%j):=Zo λi j _ _ _ _ _ a q=>by exact mod_int' q0a (by rw[Int.fmod_eq_emod_of_nonneg i q0a];exact q)
theorem VC:zW X (lF .Pow) (rI Z1 λi j=>.int<|i ^ j.toNat):=Zo λ_ _ _ _ _ _ _ a q=>pow_int_small a.1 a.2.1 a.2.2 q
theorem unI{f:ci->Sem ci}{g:Int->Int}
 (a:∀(i:Int)(t:Tok)(s:gk)(Q:ci->gk->Prop)(E:ci->gk->Prop),Q (.int (g i) s.toks) { s with toks:=s.toks+1}->gn (gp X.prog X.w) X.A (f<|.int i t) Q E s) :
    ZY X f (rU λi=>.int<|g i):=by
  intro b s d H x v Q I c h
  obtain⟨i,rfl,q⟩:=h
  obtain⟨t,rfl⟩:=c
  exact a i t s _ _ ⟨.int<|g i,H,I.tok _,⟨_,rfl⟩,q⟩
theorem NO:ZY X (unaryOp .USub) (rU λi=>.int (-i)):=unI λ_ _ _ _ _ q=>neg_int q
def VD:V->V->Bool
 | .vK,.vK=>true|.vK,.int _=>true|.int _,.vK=>true|.vK,.bl _=>true|.bl _,.vK=>true|.vK,.str _=>true|.str _,.vK=>true
 | .int _,.int _=>true|.bl _,.bl _=>true|.str _,.str _=>true|.KI _,.KI _=>true
 | .int _,.str _=>true|.str _,.int _=>true|.bl _,.str _=>true|.str _,.bl _=>true
 | _,_=>false
def rEq:R2:=λx y H Q=>VD x y=true/\Q (.bl<|decide<|x=y) H
def rNe:R2:=λx y H Q=>VD x y=true/\Q (.bl<|!decide (x=y)) H
theorem KO{i j:Int}:decide (V.int i=V.int j)=(i==j):=by rw[lj];simp
theorem NP{i j:Bool}:decide (V.bl i=V.bl j)=(i==j):=by rw[lj];simp
theorem KP:decide (V.str i=V.str j)=(i==j):=by rw[lj];simp
theorem KQ:decide (V.KI i=V.KI j)=(i.toList==j.toList):=by rw[lj];cases i;cases j;simp
theorem uO{k b:Bool}(I:Inv X a c H s)(q:Q (.bl k) H)(e:k=b):EP X a c Q (.bool b) s:=by subst e;exact⟨.bl k,H,I,rfl,q⟩
theorem Xz:zW X (iT .Eq) rEq:=by
 intro e s f H x y v u Q I d a h;obtain⟨c,q⟩:=h
 cases x with
 | vK =>
  cases d
  cases y with
  | vK=>cases a;exact PySem.EqNone.eq_none_none<|uO I q q0o
  | bl j=>cases a;exact PySem.EqNone.eq_none_bool<|uO I q q0o
  | int j=>obtain⟨b,rfl⟩:=a;exact PySem.EqNone.eq_none_int<|uO I q q0o
  | str j=>obtain⟨b,rfl⟩:=a;exact PySem.EqNone.eq_none_str<|uO I q q0o
  | _=>exact gy (show false=true from c) gr
 | bl i =>
  cases d
  cases y with
  | vK=>cases a;exact PySem.EqNone.eq_bool_none<|uO I q q0o
  | bl j=>cases a;exact eq_bool<|uO I q NP
  | str j=>obtain⟨b,rfl⟩:=a;exact PySem.EqMixed.eq_bool_str<|uO I q q0o
  | _=>exact gy (show false=true from c) gr
 | int i =>
  obtain⟨t,rfl⟩:=d
  cases y with
  | vK=>cases a;exact PySem.EqNone.eq_int_none<|uO I q q0o
  | int j=>obtain⟨b,rfl⟩:=a;exact eq_int<|uO I q KO
  | str j=>obtain⟨b,rfl⟩:=a;exact PySem.EqMixed.eq_int_str<|uO I q q0o
  | _=>exact gy (show false=true from c) gr
 | str i =>
  obtain⟨t,rfl⟩:=d
  cases y with
  | vK=>cases a;exact PySem.EqNone.eq_str_none<|uO I q q0o
  | bl j=>cases a;exact PySem.EqMixed.eq_str_bool<|uO I q q0o
  | int j=>obtain⟨b,rfl⟩:=a;exact PySem.EqMixed.eq_str_int<|uO I q q0o
  | str j=>obtain⟨b,rfl⟩:=a;exact eq_str<|uO I q KP
  | _=>exact gy (show false=true from c) gr
 | KI i =>
  obtain⟨t,rfl⟩:=d
  cases y with
  | KI j=>obtain⟨b,rfl⟩:=a;exact PySem.W.eq_bytes<|uO I q KQ
  | _=>exact gy (show false=true from c) gr
 | _=>cases y<;>exact gy (show false=true from c) gr
theorem XA:zW X (iT .NotEq) rNe:=by
 intro e s f H x y v u Q I d a h;obtain⟨c,q⟩:=h
 cases x with
 | vK =>
  cases d
  cases y with
  | vK=>cases a;exact PySem.EqNone.ne_none_none<|uO I q q0o
  | bl j=>cases a;exact PySem.EqNone.ne_none_bool<|uO I q q0o
  | int j=>obtain⟨b,rfl⟩:=a;exact PySem.EqNone.ne_none_int<|uO I q q0o
  | str j=>obtain⟨b,rfl⟩:=a;exact PySem.EqNone.ne_none_str<|uO I q q0o
  | _=>exact gy (show false=true from c) gr
 | bl i =>
  cases d
  cases y with
  | vK=>cases a;exact PySem.EqNone.ne_bool_none<|uO I q q0o
  | bl j=>cases a;exact ne_bool<|uO I q<|congrArg not NP
  | str j=>obtain⟨b,rfl⟩:=a;exact PySem.EqMixed.ne_bool_str<|uO I q q0o
  | _=>exact gy (show false=true from c) gr
 | int i =>
  obtain⟨t,rfl⟩:=d
  cases y with
  | vK=>cases a;exact PySem.EqNone.ne_int_none<|uO I q q0o
  | int j=>obtain⟨b,rfl⟩:=a;exact ne_int<|uO I q<|congrArg not KO
  | str j=>obtain⟨b,rfl⟩:=a;exact PySem.EqMixed.ne_int_str<|uO I q q0o
  | _=>exact gy (show false=true from c) gr
 | str i =>
  obtain⟨t,rfl⟩:=d
  cases y with
  | vK=>cases a;exact PySem.EqNone.ne_str_none<|uO I q q0o
  | bl j=>cases a;exact PySem.EqMixed.ne_str_bool<|uO I q q0o
  | int j=>obtain⟨b,rfl⟩:=a;exact PySem.EqMixed.ne_str_int<|uO I q q0o
  | str j=>obtain⟨b,rfl⟩:=a;exact ne_str<|uO I q<|congrArg not KP
  | _=>exact gy (show false=true from c) gr
 | KI i =>
  obtain⟨t,rfl⟩:=d
  cases y with
  | KI j=>obtain⟨b,rfl⟩:=a;exact PySem.W.ne_bytes<|uO I q<|congrArg not KQ
  | _=>exact gy (show false=true from c) gr
 | _=>cases y<;>exact gy (show false=true from c) gr
theorem UH:zW X (iT .Lt) (Rs λi j=>.bl<|decide<|i<j):=RH λ_ _ _ _ _ _ _ q=>lt_int q
theorem UI:zW X (iT .LtE) (Rs λi j=>.bl<|decide<|i<=j):=RH λ_ _ _ _ _ _ _ q=>le_int q
theorem UJ:zW X (iT .Gt) (Rs λi j=>.bl<|decide<|j<i):=RH λ_ _ _ _ _ _ _ q=>gt_int q
theorem XD:zW X (iT .GtE) (Rs λi j=>.bl<|decide<|j<=i):=RH λ_ _ _ _ _ _ _ q=>ge_int q
theorem VE:zW X (iT .Is) (λx y H Q=>y=.vK/\Q (.bl<|decide<|x=.vK) H):=by
 intro a s d H x y v u Q I b c h;obtain⟨rfl,q⟩:=h;cases c;refine is_none_gen<|uO I q ?_
 cases x<;>first
  | (cases b;rfl)
  | (obtain⟨t,rfl⟩:=b;rfl)
theorem RI:zW X (iT .IsNot) (λx y H Q=>y=.vK/\Q (.bl<|!decide (x=.vK)) H):=by
 intro a s d H x y v u Q I b c h;obtain⟨rfl,q⟩:=h;cases c;refine isnot_none_gen<|uO I q ?_
 cases x<;>first
  | (cases b;rfl)
  | (obtain⟨t,rfl⟩:=b;rfl)
theorem x8(b:hO)(h:op≠.In:=by decide)(a:op≠.NotIn:=by decide):iq op b=false:=by
 have c:(op==CmpOp.In)=false:=by cases op<;>first|rfl|exact gy rfl h
 have d:(op==CmpOp.NotIn)=false:=by cases op<;>first|rfl|exact gy rfl a
 cases b<;>simp[iq,c,d]
theorem KR(d:zW X (iT op) r)(e:PE X a f)(g:PE X b i)(j:iq op b=false):PE X (.Compare a [op] [b] pos) (Xg r f i):=by intro c s k H Q I h;exact rO (VA e g I h λv u l x y m n o p q=>d c l k m x y v u Q n o p q) j
def XG(t:TE):TT:=λa H Q=>t a H λx b=>∃k,x=.bl k/\Q k b
theorem wR{g:qu}{r:R2}(l:zW X (iT g) r)(m:PE X a n)(o:PE X b p)(q:iq g b=false):PT X (.Compare a [g] [b] pos) (XG<|Xg r n p):=by
 intro d s i H Q I h
 refine tT (uR (m d s i H _ I h) λv t f=>e2a3 f λx w A B C=>uR (o d t i w _ A C) λu D f=>e2a3 f λy E F G J =>
  uR (l d D i E x y v u _ F B G J) λc P f=>e2a3 f λz L M N j=>e1a2 j λk e O=>?_) q
 subst e;cases N;exact jA ⟨L,M,O⟩
def XH(K:fZ)(x:V)(H:Hp)(k:Bool):Prop :=
 match x with
 | .vK=>k=false
 | .bl b=>k=b
 | .int i=>k=(i != 0)
 | .str y=>y.length<=gf/\k=((y.length:Int) != 0)
 | .KI y=>y.size<=gf/\k=((y.size:Int) != 0)
 | .ref p=>(∃a,vA K H p a/\k=!a.isEmpty)\/(∃a,yq K H p a/\k=!a.isEmpty)\/∃c,H p=some (.dK c)/\k=!c.isEmpty
 | _=>False
theorem IQ(r:KV a b):(!b.isEmpty)=!a.isEmpty:=by
 cases r<;>rfl
theorem CT(r:Vals b a):(!a.toArray.isEmpty)=!b.isEmpty:=by
 cases r<;>simp
theorem CU:(gf:Nat)<2 ^ 63:=by rw[iu];decide
theorem VF:ZZ X (λx H Q=>∃k,XH X.K x H k/\Q k H):=by
 intro u s C H x v Q I g h;refine e1a2 h λk e q=>?_;have D:gf=16777216:=iu
 cases x with
 | vK =>
  cases g;have a:k=false:=e;subst a;exact truthy_none ⟨H,I,q⟩
 | bl b =>
  cases g;have a:k=b:=e;subst a;exact jA ⟨H,I,q⟩
 | int i =>
  obtain⟨t,rfl⟩:=g;have a:k=(i != 0):=e;subst a;exact PySem.P.truthy_int ⟨H,I,q⟩
 | str y =>
  obtain⟨t,rfl⟩:=g;obtain⟨A,a⟩:y.length<=gf/\k=((y.length:Int) != 0):=e;subst a;exact PySem.P.truthy_str q0a ⟨H,I.tok _,q⟩
 | KI y =>
  obtain⟨t,rfl⟩:=g;obtain⟨A,a⟩:y.size<=gf/\k=((y.size:Int) != 0):=e;subst a;exact PySem.W.truthy_bytes q0a ⟨H,I.tok _,q⟩
 | ref p =>
  cases g;have a:(∃f,vA X.K H p f/\k=!f.isEmpty)\/(∃f,yq X.K H p f/\k=!f.isEmpty)\/∃c,H p=some (.dK c)/\k=!c.isEmpty:=e;rcases a with⟨f,j,a⟩|⟨f,j,a⟩|⟨c,j,a⟩
  ·subst a;refine e1a3 (I.list j) λn r o z=>?_;have d:=r.length;exact wpAny_truthy_list o.isList (by simp only[gv];lia) ⟨H,I.tok _,by rw[CT r];exact q⟩
  ·subst a;refine e1a3 (I.tuple j) λn r o z=>?_;have d:=r.length;exact truthy_tuple o (by simp only[gv];lia) ⟨H,I.tok _,by rw[CT r];exact q⟩
  ·subst a;obtain⟨z,B,l,r,m⟩:c.length<=gf/\(p==j4)=false/\∃l,KV c l/\s.heap.DictOf (uJ X.prog X.w) p l:=I.uU p _ j;have d:c.length=l.length:=Paired.length r;exact wpAny_truthy_dict B m q0a ⟨H,I.tok _,by rw[IQ r];exact q⟩
 | _=>exact(show False from e).elim
theorem Ho(f:PE X a g)(i:∀b,qa a X.env b=(do let v <- b;lZ a.pos;jW [v] (tF v))) :
  PT X a (λd H Q=>g d H λx e=>∃k,XH X.K x e k/\Q k e):=by
 intro c s d H Q I h;exact isTrue_plain (uR (f c s d H _ I h) λv j l=>e2a3 l λx m n o p=>VF c j d m x v Q n o p)<|i _
theorem vals1(r:Vals [x] a):∃u,a=[u]/\RelV x u:=by
 cases r with
 | cons b c=>cases c;exact⟨_,rfl,b⟩
theorem vals2(r:Vals [x,y] b):∃u a,b=[u,a]/\RelV x u/\RelV y a:=by
 cases r with
 | cons c d =>
  cases d with
  | cons e f=>cases f;exact⟨_,_,rfl,c,e⟩
structure IR(h:hR)(x dx C:cr)(mA:Str->Option ci):Prop where
 obj:h.get? x=some (jK C dx)
 ns:h.Ns1 dx mA
 ne:dx≠x
set_option tactic.hygienic true in
theorem Mi{h:hR}{c:cr}{d:Str->Option ci}(n:h.Ns1 c d):∃f,h.get? c=some f/\∀name,oa name f=some (d name):=by
 obtain⟨o,g,r,i,j,k,_,l⟩:=n;refine⟨o,i,λname=>?_⟩;have e:=l name;unfold nsFind findBy at e;rw[<- sG] at e;unfold oa;rw[j];dsimp only;split
 ·rename_i y q
  rw[q] at e;exact congrArg some e
 ·rename_i q
  rw[q] at e
  have a:g.toList.any (·.refKey)=false:=by rw[List.any_eq_false];intro y m;obtain⟨z,t,b⟩:=k y<|Array.mem_toList_iff.mp m;simp[DictEntry.refKey,b]
  have p:¬g.toList.any (·.refKey)=true:=by rw[a];exact gr
  rw[f8 p];exact congrArg some e
theorem IR.look(I:IR h x b C c):∃a,PySem.W.InstAt h x (jK C b) C (some a)/\∀name,oa name a=some (c name) :=
 e1a2 (Mi I.ns) λa d e =>
 ⟨a,⟨I.obj,rfl,rfl,d⟩,e⟩
section
variable{prog:gS}{w:ic}{A:iR}{E:ci->gk->Prop}{s:gk}{K:fZ}{x dx C f:cr}{mA:Str->Option ci}{name:Str}{v:ci}
theorem get_map{a:Bool}(X:K.In s.heap)(I:IR s.heap x dx C mA)(c:lO K C name=true)(d:mK K C=true)
 (e:gN K (.ref C) name=some none) (g:mA name=some v) (b:sH v=true) (h:Q v { s with toks:=s.toks+1}) :
    gn (gp prog w) A (getAttr (.ref x) name a) Q E s:=by
  refine e1a2 I.look λj J i=>?_
  exact PySem.W.get_value X J (oA c).1 (PySem.W.findObj_own d e rfl<|by rw[i,g]) b h
theorem NQ(X:K.In s.heap)(I:IR s.heap x dx C mA)(a:lO K C name=true)
 (b:gN K (.ref C) name=some (some<|.ref f)) (c:nA K (.ref f)=true) (d:mA name=none) (h:Q (.ref f,[.ref x]) s) :
    gn (gp prog w) A (lQ (.ref x) name i) Q E s:=by
  refine e1a2 I.look λe J g=>?_
  exact PySem.W.method_fn X J (oA a).1 (oA a).2 b (beq_iff_eq.mp c) (by show (oa name e).map (·.isSome)=some false;rw[g,d];rfl) h
theorem RJ(X:K.In s.heap)(I:IR s.heap x dx C mA)
 (l:gN K (.ref C) "__setattr__"=some (some<|.builtin "object.__setattr__")) (m:pc K C=true) (n:pP K C name=some none) (o:mK K C=true)
 (hw:rh mA p) (q:p.length<=gf)
 (h:∀e,IR e x dx C (λy=>if y=name then some v else mA y)->ij dx s.heap e->Q () { s with heap:=e,toks:=s.toks+2}) :
    gn (gp prog w) A (setAttr (.ref x) name v) Q E s:=by
  refine e1a2 I.look λD J F=>?_
  refine PySem.W.set_plain X J l<|PySem.W.osa_open (s:={ s with toks:=s.toks+1}) (r:=none) X J m n λb=>?_
  refine e1a2 (PySem.W.any_some o) λG t g=>?_
  have u:s.heap.get? x=some ⟨.ref C,some dx,.plain,#[]⟩:=I.obj
  refine am<|ap<|am<|am<|wpAny_loadPart u<|am<|PySem.W.Looks.here (s:={ s with toks:=s.toks+1}) (oB X t) ?_
  rw[g]
  refine ap (a:=some dx)<|am<|ap<|am ?_
  refine wpAny_nsSet1 (s:={ s with toks:=s.toks+1}) I.ns λe c d=>?_
  obtain⟨H,z,B,i,j,k⟩:=c.count<|PySem.Within.cons name v hw
  refine am<|wpAny_lookBehind i (by rw[j];exact pastItsLine_dict<|gO k<|by rw[gG];lia) ?_
  exact ap<|h _ ⟨(d.2 _<|Ne.symm I.ne).trans I.obj,c,I.ne⟩ d
theorem NR(X:K.In s.heap)(c:pQ K C=true)
 (e:gN K (.ref C) "__init__"=some (some<|.ref f)) (i:og K (.ref f)=some (.type "function"))
 (h:lJ (gp prog w) (A.under (.builtin "type.__call__" ⟨.ref C::a,b⟩)) (.call (.ref f) ⟨.ref (s.heap.objs.size+1)::a,b⟩) (PySem.W.InitBack (s.heap.objs.size+1) R)
 { s with heap:=(s.heap.push jh).push (jK C s.heap.objs.size)}) :
    lJ (gp prog w) A (.call (.ref C) ⟨a,b⟩) R s:=by
  obtain⟨j,g,d,t,k⟩:=s
  exact PySem.W.make_core (PySem.W.makes_of X c) (oh X e) (λself=>PySem.W.bind_fn X self i) (.inl rfl) h
end
def y9(f:Str)(v:V):List (Str×V)->List (Str×V)
 | []=>[(f,v)]
 | (g,x)::r=>if g=f then (g,v)::r else (g,x)::y9 f v r
theorem Hq(f g:Str)(v:V):∀d:List (Str×V),(y9 f v d).lookup g=if g=f then some v else d.lookup g:=by
 intro i
 induction i with
 | nil =>
  show jD g [(f,v)]=_;by_cases h:g=f
  ·have a:(g==f)=true:=beq_iff_eq.mpr h;simp only[jD,a,f7 h]
  ·have a:(g==f)=false:=beq_eq_false_iff_ne.mpr h;simp only[jD,a,f8 h]
 | cons j r c =>
  obtain⟨k,x⟩:=j;have l:=c;rw[show y9 f v ((k,x)::r)=(if k=f then (k,v)::r else (k,x)::y9 f v r) from rfl];by_cases b:k=f
  ·rw[f7 b];by_cases h:g=k
   ·have a:(g==k)=true:=beq_iff_eq.mpr h;simp only[jD,a,f7<|h.trans b]
   ·have a:(g==k)=false:=beq_eq_false_iff_ne.mpr h;simp only[jD,a,f8 (λe:g=f=>h<|e.trans b.symm)]
  ·rw[f8 b];by_cases h:g=k
   ·have a:(g==k)=true:=beq_iff_eq.mpr h;simp only[jD,a,f8 (λe:g=f=>b<|h.symm.trans e)]
   ·have a:(g==k)=false:=beq_eq_false_iff_ne.mpr h;simp only[jD,a];exact l
theorem EA(f:Str)(v:V):∀a:List (Str×V),f∈(y9 f v a).map (·.1)/\∀g,g∈a.map (·.1)->g∈(y9 f v a).map (·.1):=by
 intro d
 induction d with
 | nil=>exact⟨by simp[y9],λg h=>by simp at h⟩
 | cons i r b =>
  obtain⟨k,x⟩:=i;obtain⟨j,l⟩:=b;rw[show y9 f v ((k,x)::r)=(if k=f then (k,v)::r else (k,x)::y9 f v r) from rfl];by_cases c:k=f
  ·rw[f7 c];subst c;exact⟨q0o,λg h=>by simpa using h⟩
  ·rw[f8 c];refine⟨?_,λg h=>?_⟩
   ·rw[gK];exact gg _ j
   ·rw[gK] at h ⊢;rcases List.mem_cons.mp h with e|e
    ·exact List.mem_cons.mpr<|.inl e
    ·exact gg _<|l g e
theorem BV(f:Str)(v:V):∀a:List (Str×V),(y9 f v a).length<=a.length+1
 | []=>by simp[y9]
 | (k,x)::r=>by
  have c:=BV f v r;rw[show y9 f v ((k,x)::r)=(if k=f then (k,v)::r else (k,x)::y9 f v r) from rfl];by_cases b:k=f
  ·rw[f7 b,gG,gG];lia
  ·rw[f8 b,gG,gG];lia
theorem yu.some_of(r:yu (some v) o):∃u,o=some u/\RelV v u:=by
 cases o with
 | none=>exact(show False from r).elim
 | some u=>exact⟨u,rfl,r⟩
theorem yu.none_of(r:yu none o):o=none:=by
 cases o with
 | none=>rfl
 | some u=>exact(show False from r).elim
theorem Mj(r:RelV v u):sH u=true:=by
 cases v with
 | vK=>cases (show u=Value.none from r);rfl
 | bl b=>cases (show u=qr b from r);rfl
 | int i=>obtain⟨t,e⟩:=(show ∃t,u=kK i t from r);cases e;rfl
 | str x=>obtain⟨t,e⟩:=(show ∃t,u=Value.str x t from r);cases e;rfl
 | KI b=>obtain⟨t,e⟩:=(show ∃t,u=Value.bytes b t from r);cases e;rfl
 | Vh b=>obtain⟨t,e⟩:=(show ∃t,u=rN b t from r);cases e;rfl
 | ref a=>cases (show u=gC a from r);rfl
 | ty n=>cases (show u=ju n from r);rfl
theorem AB(c:wU P w H h)(e:H a=some (.ins C g fs)):∃b,IR h a g C b/\(∀f,yu (fs.lookup f)<|b f)/\rh b (fs.map (·.1))/\fs.length<=1000/\H g=some (.own a):=by obtain⟨d,z,i,j,b,n,r,q⟩:=(show vk P w H h a (.ins C g fs) from c a _ e);exact⟨b,⟨j,n,i⟩,r,q,z,d⟩
structure zX(K:fZ)(C:cr):Prop where
 pg:lO K C Str.empty=true
 hd:mK K C=true
 po:pc K C=true
 sa:gN K (.ref C) "__setattr__"=some (some<|.builtin "object.__setattr__")
theorem zX.get{K:fZ}{C:cr}(c:zX K C)(f:Str):lO K C f=true:=c.pg
def vc(K:fZ)(C:cr)(f:Str):Prop:=gN K (.ref C) f=some none
theorem vc.XI{K:fZ}{C:cr}{f:Str}(n:vc K C f):pP K C f=some none:=by unfold pP;rw[show gN K (.ref C) f=some none from n];rfl
structure Meth(K:fZ)(C:cr)(m:Str)(f:cr):Prop where
 at_:gN K (.ref C) m=some (some<|.ref f)
 fn:nA K (.ref f)=true
 kp:iC K (.ref f)=true
theorem IS{b:Bool}(I:Inv X d j H s)(e:H a=some (.ins C p fs))(c:zX X.K C)(n:vc X.K C f)(l:fs.lookup f=some v)
 (h:∀u g,Inv X d j H g->RelV v u->Q u g):gn (gp X.prog X.w) A (getAttr (.ref a) f b) Q E s:=by
  obtain⟨k,O,r,_,_,_⟩:=AB I.uU e
  obtain⟨u,m,i⟩:=yu.some_of (v:=v) (o:=k f) (by rw[<- l];exact r f)
  exact get_map I.xP O (c.get f) c.hd n m (Mj i)<|h u _ (I.tok _) i
theorem An(I:Inv X b i H s)(e:H a=some (.ins C j fs))(c:zX X.K C)(k:Meth X.K C m g)(l:fs.lookup m=none)
 (h:Q (.ref g,[.ref a]) s):gn (gp X.prog X.w) A (lQ (.ref a) m n) Q E s:=by
  obtain⟨d,O,r,_,_,_⟩:=AB I.uU e
  have f:d m=none:=yu.none_of (by rw[<- l];exact r m)
  exact NQ I.xP O (c.get m) k.at_ k.fn f h
theorem IT(I:Inv X d t H s)(e:H a=some (.ins C i fs))(c:zX X.K C)(n:vc X.K C f)(N:fs.length<1000)(v:RelV y u)
 (h:∀k,Inv X d t (upd H a<|.ins C i<|y9 f y fs) k->Q () k):gn (gp X.prog X.w) A (setAttr (.ref a) f u) Q E s:=by
  obtain⟨l,O,r,m,_,p⟩:=AB I.uU e
  have B:(fs.map (·.1)).length<=gf:=by rw[gh,iu];lia
  refine RJ I.xP O c.sa c.po n.XI c.hd m B λD j F=>h _ ?_
  have G:∃o,D.get? i=some o:=e3a2 j.ns λo _ _ J _=> ⟨o,J⟩
  refine I.write (x:=a) (e:=i) (by rw[e];exact True.intro) (.inr p) (λb q L z=>(F.2 b L).trans z) G ?_
  refine⟨by rw[ud O.ne];exact p,?_,O.ne,j.obj,_,j.ns,λg=>?_,λg M=>?_⟩
  · have := BV f y fs; lia
  · show yu ((y9 f y fs).lookup g) (if g = f then some u else l g)
    rw[Hq]
    by_cases q:g=f
    · rw[f7 q, f7 q]; exact v
    · rw[f8 q, f8 q]; exact r g
  · by_cases q : g = f
    · rw[q]; exact(EA f y fs).1
    · refine(EA f y fs).2 g (m g λz => M ?_)
      show (if g=f then some u else l g)=none
      rw[f8 q];exact z
theorem Inv.made(I:Inv X c g H s):Inv X c g (upd (upd H s.heap.objs.size<|.own<|s.heap.objs.size+1) (s.heap.objs.size+1)<|.ins C s.heap.objs.size [])
  { s with heap:=(s.heap.push jh).push (jK C s.heap.objs.size)}:=by
 have d:(s.heap.push jh).get? s.heap.objs.size=some jh:=gu s.heap rfl
 have h:((s.heap.push jh).push<|jK C s.heap.objs.size).get? (s.heap.objs.size+1)=some (jK C s.heap.objs.size):=by
  have:=gu (s.heap.push jh) (o:=jK C s.heap.objs.size) rfl
  rwa [iW] at this
 have i:(s.heap.push jh).Ns s.heap.objs.size (λ_=>none):=⟨jh,#[],_,d,rfl,(λe j=>gy j q0o),λ_=>rfl⟩;have k:=I.laid (a:=s.heap.objs.size) (o:=.own<|s.heap.objs.size+1) (h':=s.heap.push jh) (t':=s.toks) (λb u q=>ce _ q) (ga _) ⟨_,d⟩;refine k.laid (a:=s.heap.objs.size+1) (o:=.ins C s.heap.objs.size []) (t':=s.toks) (λb u q=>ce _ q) (pR<|iW _ _) ?_;have f:s.heap.objs.size≠s.heap.objs.size+1:=gx<|iQ _;refine⟨by rw[ud f,uh],im _,f,h,λ_=>none,(rQ i).at λo q=>ce _ q,λ_=>True.intro,λy l=>gy rfl l⟩
theorem RK(d:gY e f a (eval e a)=eval e a)
 (h:gn (gp b w) A (eval e a) (λo c=>gn (gp b w) A (getAttr o f true) Q E c) E s):gn (gp b w) A (eval (.Attribute e f pos) a) Q E s :=
  Attribute_any_ h (by rw[arm_eval_Attribute,d])
def VG(K:fZ)(d:TE)(f:Str):TE:=λe H Q=>d e H λx b=>∃a C g c v,x=.ref a/\b a=some (.ins C g c)/\zX K C/\vc K C f/\c.lookup f=some v/\Q v b
def Ml(K:fZ)(g h:TE)(f:Str):TS:=λD b H=>h b H λy i=>g b i λx d=>∃a C e c,x=.ref a/\d a=some (.ins C e c)/\zX K C/\vc K C f/\c.length<1000 /\
 D.nx b (upd d a<|.ins C e<|y9 f y c)
def XJ(X:Cx)(c:Operator)(d:V->V->Hp->VK->Prop):Prop :=
 ∀(a:List (cr×Obj)) (s:gk) (b:St) (H:Hp) (x y:V) (u v:ci) (Q:VK),Inv X a b H s->RelV x u->RelV y v->d x y H Q->gn (gp X.prog X.w) X.A (inplaceOp c u v) (EP X a b Q) X.xe s
theorem v4(g:PE X e i)(j:gY e f X.env (eval e X.env)=eval e X.env):PE X (.Attribute e f pos) (VG X.K i f):=by intro b s k H Q I h;refine RK j<|uR (g b s k H _ I h) λu z m=>e2a3 m λx H1 o p d=>e5a6 d λa C A fs v r t c n l q=>?_;subst r;obtain rfl:u=gC a:=p;exact IS o t c n l λB D w y=>⟨v,H1,w,y,q⟩
theorem Bp(j:PE X o k)(m:PE X value p)(r:jp value (some<|.Attribute o f d) pos.line X.env=pure false):PS X (.Assign [.Attribute o f d] value pos) (Ml X.K k p f):=by intro b s g H D I h;refine qF (uR (m b s g H _ I h) λu t i=>e2a3 i λy H1 v w q=>uR (j b t g H1 _ v q) λz L i=>e2a3 i λx H2 A B e=>e4a6 e λa C M fs E F c n l G=>?_) r;subst E;obtain rfl:z=gC a:=B;exact IT A F c n l w λN J=>⟨g,_,J,G⟩
inductive za(K:fZ)(H:Hp):V->ci->Prop where
 | vK:za K H .vK (.type "NoneType")
 | bl (x:Bool):za K H (.bl x) (.type "bool")
 | int (i:Int):za K H (.int i) (.type "int")
 | str (x:Str):za K H (.str x) (.type "str")
 | Vh (x:UInt64):za K H (.Vh x) (.type "float")
 | lst {a:cr} {xs:List V} (e:H a=some (.lst xs)):za K H (.ref a) (.type "list")
 | IH {a:cr} {o:Obj} {xs:List V} (e:H a=some (.IH o<|.lst xs)):za K H (.ref a) (.type "list")
 | tup {a:cr} {xs:List V} (e:H a=some (.tup xs)):za K H (.ref a) (.type "tuple")
 | dK {a:cr} {wv:List (Key×V)} (e:H a=some (.dK wv)):za K H (.ref a) (.type "dict")
 | dT {a:cr} {wv:List (List Key×V)} (e:H a=some (.dT wv)):za K H (.ref a) (.type "dict")
 | ins {a C dx:cr} {fs:List (Str×V)} (e:H a=some (.ins C dx fs)) (cl:zX K C) (ha:gN K (.ref C) "__class__"=some (some<|.builtin "object.__class__"))
   (hn:PySem.W.specialIn K (.builtin "object.__class__") "__get__"=some (some<|.builtin "getset_descriptor.__get__")) (htk:PySem.W.takesIn K (.builtin "object.__class__")=some true)
   (hm:j9 K C (.type "object")=some true):za K H (.ref a) (.ref C)
theorem Mm(I:Inv X r R H s)(d:RelV x u)(B:za X.K H x t)(e:qd X.K t c=some b)(h:∀D,Q (.bool b) { s with toks:=D}) :
  gn (gp X.prog X.w) A (call (.builtin "isinstance") [u,c]) Q E s:=by
 cases B with
 | vK=>cases (show u=Value.none from d);exact i9 PySem.W.kitx_none I.xP True.intro e (λz=>nomatch z) h
 | bl y=>cases (show u=qr y from d);exact i9 PySem.W.kitx_bool I.xP True.intro e (λz=>nomatch z) h
 | int i=>obtain⟨t,q⟩:=(show ∃t,u=kK i t from d);cases q;exact i9 PySem.W.kitx_int I.xP True.intro e (λz=>nomatch z) h
 | str y=>obtain⟨t,q⟩:=(show ∃t,u=Value.str y t from d);cases q;exact i9 PySem.W.kitx_str I.xP True.intro e (λz=>nomatch z) h
 | Vh y=>obtain⟨t,q⟩:=(show ∃t,u=rN y t from d);cases q;exact i9 PySem.W.kitx_float I.xP True.intro e (λz=>nomatch z) h
 | @lst a k f =>
  cases (show u=gC a from d);obtain⟨_,_,n,_,g⟩:=(show vk X.prog X.w H s.heap a (.lst k) from I.uU a _ f);exact i9 sx I.xP ⟨_,g,rfl⟩ e (λz=>nomatch z) h
 | @IH a F k f =>
  cases (show u=gC a from d);obtain⟨_,_,_,n,_,g⟩:=(show vk X.prog X.w H s.heap a (.IH F<|.lst k) from I.uU a _ f);exact i9 sx I.xP ⟨_,g,rfl⟩ e (λz=>nomatch z) h
 | @tup a k f =>
  cases (show u=gC a from d);obtain⟨_,_,_,p⟩:=(show vk X.prog X.w H s.heap a (.tup k) from I.uU a _ f);refine e1a3 p λo g l _=>?_;exact i9 PySem.W.kitx_tuple I.xP ⟨o,g,l⟩ e (λz=>nomatch z) h
 | @dK a j f =>
  cases (show u=gC a from d);obtain⟨_,_,S,_,p⟩:=(show vk X.prog X.w H s.heap a (.dK j) from I.uU a _ f);obtain⟨o,G,L,g,l,_⟩:=p;exact i9 sy I.xP ⟨o,g,l.1⟩ e (λz=>nomatch z) h
 | @dT a j f =>
  cases (show u=gC a from d);obtain⟨_,_,k,_,o,G,L,g,l,_⟩:=(show vk X.prog X.w H s.heap a (.dT j) from I.uU a _ f);exact i9 sy I.xP ⟨o,g,l.1⟩ e (λz=>nomatch z) h
 | @ins a C T fs f v M N m P =>
  cases (show u=gC a from d);refine e1a2 (AB I.uU f) λU O _=>?_;refine e1a2 O.look λY J _=>?_;exact i9 (PySem.W.kitx_own (v.get _) v.hd M N m P) I.xP J e (λz=>nomatch z) h
structure vD(k:Nat)(A:iR):Prop where
 hd:A.handled=none
 dp:A.depth+3*k+5<rR
 un:A.units+16*k+200<jQ
theorem vD.mono{j k:Nat}(r:vD k A)(h:j<=k):vD j A:=⟨r.hd,by have:=r.dp;lia,by have:=r.un;lia⟩
theorem vD.deeper{k:Nat}(r:vD (k+1) A)(a:Env):vD k (A.deeper a) :=
 ⟨r.hd,by have:=r.dp;show A.depth+1+3*k+5<_;lia,by have:=r.un;show A.units+3+16*k+200<_;lia⟩
theorem IU{A:iR}{C:cr}{a:List ci}{b:List (Str×ci)}:(A.under<|.builtin "type.__call__" ⟨.ref C::a,b⟩).depth=A.depth+1:=by
 first|rfl|simp[qT,Code.weight,Code.isCreation,Code.isGuard,Code.isCaller,Code.frames,rF,guardIds]
theorem IV{A:iR}{C:cr}{a:List ci}{b:List (Str×ci)}:(A.under<|.builtin "type.__call__" ⟨.ref C::a,b⟩).units=A.units+1:=by
 first|rfl|simp[qT,Code.cUnits,Code.frames,rF]
theorem vD.make{k:Nat}(r:vD (k+1) A)(C:cr)(a:List ci)(b:List (Str×ci)):vD k (A.under<|.builtin "type.__call__" ⟨.ref C::a,b⟩) :=
 ⟨r.hd,by have:=r.dp;rw[IU];lia,by have:=r.un;rw[IV];lia⟩
theorem vD.depth{k:Nat}(r:vD k A):A.depth<rR:=by have:=r.dp;lia
theorem vD.units{k:Nat}(r:vD k A):A.units+64<jQ:=by have:=r.un;lia
def Cf:TA:=λ_ H Q=>Q [] H
def BX(b:TE)(c:TA):TA:=λa H Q=>b a H λx d=>c a d λe f=>Q (x::e) f
theorem uB:PA X [] Cf:=λ_ _ _ _ H Q I h=>kj ⟨[],H,I,.nil,h⟩
theorem ul(g:PE X e i)(j:PA X b t)(k:f9 (e::b) X.env=(false,eval e X.env)::f9 b X.env:=by rfl):PA X (e::b) (BX i t):=by intro c a s f H Q I h;rw[k];refine jq<|uR (g a s f H _ I h) λu l d=>e2a3 d λx m n o p=>?_;exact uR (j c a l f m _ n p) λz A d=>e2a3 d λq r v w y=>⟨x::q,r,v,.cons o w,y⟩
def Z2(t:TA):TE:=λc H Q=>t c H λa b=>a.length<=gf/\∀p,b p=none->Q (.ref p) (upd b p<|.tup a)
def Z3(t:TA):TE:=λc H Q=>t c H λa b=>a.length<=gf/\∀p,b p=none->Q (.ref p) (upd b p<|.lst a)
theorem NS{g}(h:PA X i t):PE X (.Tuple i g pos) (Z2 t):=by intro a s j H Q I k;refine wpAny_Tuple_spliced<|uR (h pos a s j H _ I k) λl c m=>e2a4 m λn d f r z q=>⟨by rw[<- r.length];exact z,?_⟩;have o:d c.heap.objs.size=none:=f.uU.fresh<|ga _;refine⟨.ref c.heap.objs.size,upd d c.heap.objs.size<|.tup n,f.laid (t':=c.toks) (λb u e=>ce _ e) (ga _) ?_,rfl,q _ o⟩;exact⟨z,l,r,⟨_,gu _ rfl,rfl,_,rfl⟩⟩
theorem NT(h:PA X g t):PE X (.List g pos) (Z3 t):=by intro a s i H Q I j;refine wpAny_List_spliced<|uR (h pos a s i H _ I j) λk c l=>e2a4 l λm d f r z q=>⟨by rw[<- r.length];exact z,?_⟩;have n:d c.heap.objs.size=none:=f.uU.fresh<|ga _;refine⟨.ref c.heap.objs.size,upd d c.heap.objs.size<|.lst m,f.laid (t':=c.toks) (λb u e=>ce _ e) (ga _) ?_,rfl,q _ n⟩;exact⟨z,k,0,r,gu _ rfl⟩
abbrev Sp:=List V->Hp->VK->XK->Prop
abbrev NU:=List Env->Hp->gk->XK->ci->gk->Prop
structure Hr(P:gS)(w:ic)(K:fZ)(mg:Str->Option ci)(base:hR)(A:iR)(outer:List Env)(s:gk)(H:Hp):Prop where
 frames:A.frames=some outer
 mod:Mod K mg base
 bs:∀b o,base.get? b=some o->s.heap.get? b=some o/\H b=none
 Hh:base.objs.size<=s.heap.objs.size
 xC:s.heap.FunFrames base outer
 IC:∀b∈yp outer,H b=none
 uU:wU P w H s.heap
 bare:mz s.gens
def CE(a:List Env)(P:gS)(w:ic)(H:Hp)(s:gk)(Q:VK)(u:ci)(b:gk):Prop :=
 ∃v c,b.os=s.os/\mz b.gens/\Un (yp a) [] H c s.heap b.heap/\wU P w c b.heap/\RelV v u/\Q v c
def CR(c:NU)(a:List Env)(P:gS)(w:ic)(H:Hp)(s:gk)(Q:VK)(E:XK)(r:Result)(b:gk):Prop :=
 match r with
 | .ok (.ret u)=>CE a P w H s Q u b
 | .ok _=>False
 | .error e=>c a H s E e b
structure uL(P:gS)(w:ic)(K:fZ)(mg:Str->Option ci)(base:hR)(CX:NU)(k:Nat)(f:cr)(fd:g9)(ps:List Str)(sp:Sp):Prop where
 len:∀vs H Q E,sp vs H Q E->vs.length=ps.length
 run:∀(A:iR)(outer:List Env)(s:gk)(H:Hp)(args:Args)(us:List ci)(vs:List V)(Q:VK)(E:XK),vD k A->Hr P w K mg base A outer s H->rG s fd args (ps.zip us)->Vals vs us->sp vs H Q E ->
  lJ (gp P w) A (.call (.ref f) args) (CR CX outer P w H s Q E) s
theorem uL.mono{P:gS}{w:ic}{K:fZ}{c:Str->Option ci}{a:hR}{d:NU}{j k:Nat}{f:cr}{e:g9}{g:List Str}{i:Sp}(F:uL P w K c a d j f e g i)(h:j<=k) :
  uL P w K c a d k f e g i:=⟨F.len,λA b s H args l m Q E n=>F.run A b s H args l m Q E<|n.mono h⟩
theorem uL.imp{P:gS}{w:ic}{K:fZ}{e:Str->Option ci}{a:hR}{g:NU}{k:Nat}{f:cr}{i:g9}{j:List Str}{l d:Sp}(F:uL P w K e a g k f i j l)
  (h:∀c H Q E,d c H Q E->l c H Q E):uL P w K e a g k f i j d :=
 ⟨λc H Q E q=>F.len c H Q E<|h _ _ _ _ q,λA b s H args m c Q E n o p r t=>F.run A b s H args m c Q E n o p r<|h _ _ _ _ t⟩
theorem Hr.make{P:gS}{w:ic}{K:fZ}{c:Str->Option ci}{b:hR}{A:iR}{a:List Env}{s:gk}{H:Hp}(e:Hr P w K c b A a s H)(C:cr)(d:List ci)(f:List (Str×ci)) :
  Hr P w K c b (A.under<|.builtin "type.__call__" ⟨.ref C::d,f⟩) a s H:=⟨by first|exact e.frames|(simpa[qT,Code.envs,rF,pushEnvs] using e.frames),e.mod,e.bs,e.Hh,e.xC,e.IC,e.uU,e.bare⟩
theorem Inv.Ht(I:Inv X a b H s):Hr X.prog X.w X.K X.mg X.base X.A X.stack s H :=
 ⟨I.ok.frames,I.ok.mod,I.bs,gO I.ok.Hh I.sz,I.stack,I.KJ,I.uU,I.bare⟩
theorem Inv.after(I:Inv X a j H s)(h:CE X.stack X.prog X.w H s Q u i):EP X a j Q u i:=by obtain⟨v,k,l,c,m,e,r,q⟩:=h;obtain⟨n,g,d,t,f⟩:=i;obtain rfl:f=s.os:=l;exact⟨v,k,I.call (h':=n) (g':=g) (d':=d) (t':=t) (ch:=[]) m e c<|λb z=>gy z q0o,r,q⟩
def XM(b:Sp)(a:List V)(E:XK)(t:TA):TE:=λc H Q=>t c H λd e=>b (d++a) e Q E
def EB(C:cr)(m:Str)(f:Sp)(b:List V)(E:XK)(g:TE)(t:TA):TE:=λc H Q=>g c H λx d=>∃a h e,x=.ref a/\d a=some (.ins C h e)/\e.lookup m=none /\
 t c d λi j=>f (x::(i++b)) j Q E
def XQ(C:cr)(d:Sp)(b:List V)(E:XK)(t:TA):TE:=λe H Q=>t e H λf c=>∀x a,c x=none->c a=none->a≠x ->
 d (.ref x::(f++b)) (upd (upd c a<|.own x) x<|.ins C a []) (λv g=>v=.vK/\Q (.ref x) g) E
def Binds(K:fZ)(d:g9)(b:List Str)(c:List ci):Prop :=
 ∀(s:gk)(a:List ci),K.In s.heap->(a++c).length=b.length->rG s d ⟨a,[]⟩ (b.zip<|a++c)
theorem Binds.all{K:fZ}{b:List Str}(h:∀a:List ci,a.length=b.length->rS d ⟨a,[]⟩=pure (b.zip a)):Binds K d b []:=λs a _ c=>by rw[jN] at c ⊢;exact .of_eq<|h a c
def Passes(c:NU)(X:Cx)(E:XK):Prop:=∀(a:List (cr×Obj)) (d:St) (H:Hp) (s:gk) (e:ci) (b:gk),Inv X a d H s->c X.stack H s E e b->X.xe e b
theorem IY(F:uL X.prog X.w X.K X.mg X.base l k f m g n)(o:vD k X.A)(p:Binds X.K m g d)(q:Vals b d)(t:Passes l X E)
 (I:Inv X a i H s)(r:Vals vs us)(h:n (vs++b) H Q E):gn (gp X.prog X.w) X.A (call (.ref f) us) (EP X a i Q) X.xe s:=by
  have j:Vals (vs++b) (us++d):=r.append q
  have v:(us++d).length=g.length:=by rw[<- j.length];exact F.len _ _ _ _ h
  refine lP<|jl (F.run X.A X.stack s H ⟨us,[]⟩ (us++d) (vs++b) Q E o I.Ht (p s us I.xP v) j h) λr x c=>?_
  cases r with
  | error e=>exact t a i H s e x I c
  | ok y =>
    cases y with
    | ret u=>exact I.after c
    | next=>exact gU c
    | brk=>exact gU c
    | cont=>exact gU c
theorem RL(F:uL X.prog X.w X.K X.mg X.base j k f l m n)(o:vD k X.A)(u:Gl X x)(v:X.mg x=some (.ref f))(y:iC X.K (.ref f)=true)(z:Binds X.K l m B)(C:Vals c B)(D:Passes j X E)
 (G:PA X (e::b) t) (d:(x==("__debug__":Str))=false:=by decide) (J:f9 (e::b) X.env=(false,eval e X.env)::f9 b X.env:=by rfl) (g:(iJ pos<|f9 b X.env).any (·.1)=false:=by rfl) :
    PE X (.Call (.Name x p) (e::b) [] pos) (XM n c E t):=by
  intro a s L H Q I h
  refine jO<|yx I u v ?_ d
  refine oT (h₀:=X.base) I.ok.mod.Ay y (uR (G pos a s L H _ I h) λN O M=>e2a3 M λP R i r q=>⟨i.xP,?_⟩) J g
  exact IY F o z C D i r q
theorem RM{v:Sem Bool}(J:PE X o L)(c:zX X.K C)(y:Meth X.K C m f)(F:uL X.prog X.w X.K X.mg X.base M k f N O P)(R:vD k X.A)(S:Binds X.K N O T)(hd:Vals i T)(U:Passes M X E)(Y:PA X (e::d) t)
  (j:f9 (e::d) X.env=(false,eval e X.env)::f9 d X.env:=by rfl) (n:(iJ pos<|f9 d X.env).any (·.1)=false:=by rfl)
  (ht:eval (.Call (.Attribute o m apos) (e::d) [] pos) X.env=(do
   let z <- eval o X.env
   lZ apos.atName
   let (f,first) <- jW [z] (lQ z m v)
   mC pos f first (iJ pos (f9 (e::d) X.env)) (l6 pos (jX [] X.env))):=by rfl) :
  PE X (.Call (.Attribute o m apos) (e::d) [] pos) (EB C m P i E L t):=by
 intro b s B H Q I h;refine nP (pl:=v) (uR (J b s B H _ I h) λu Z p=>e2a3 p λx H1 D rx g=>e3a4 g λa dx fs ex ea l q=>?_) ht;subst ex;obtain rfl:u=gC a:=rx;refine An D ea c y l ?_;refine oT (first:=[.ref a]) (h₀:=X.base) I.ok.mod.Ay y.kp (uR (Y pos b Z B H1 _ D q) λus s2 p=>e2a3 p λvs H2 G r q2=>⟨G.xP,?_⟩) j n
 exact IY (us:=.ref a::us) (vs:=.ref a::vs) F R S hd U G (.cons rfl r) q2
theorem NW(n:PE X o p)(c:zX X.K C)(i:Meth X.K C m f)(F:uL X.prog X.w X.K X.mg X.base r k f t v y)(z:vD k X.A)(B:Binds X.K t v D)(hd:Vals e D)(G:Passes r X E)
 (ht:eval (.Call (.Attribute o m apos) [] [] pos) X.env=(do
 let j <- eval o X.env
 lZ apos.atName
 let (f,first) <- jW [j] (lQ j m J)
 mC pos f first (iJ pos (f9 [] X.env)) (l6 pos (jX [] X.env))):=by rfl) :
    PE X (.Call (.Attribute o m apos) [] [] pos) (EB C m y e E p Cf):=by
  intro b s L H Q I h
  refine nP (pl:=J) (uR (n b s L H _ I h) λu R M=>e2a3 M λx H1 g N d=>e3a4 d λa S fs O P l q=>?_) ht
  subst O
  obtain rfl:u=gC a:=N
  refine An g P c i l ?_
  exact rH (first:=[.ref a]) g.xP i.kp<|IY (us:=[.ref a]) (vs:=[.ref a]) F z B hd G g (.cons rfl .nil) q
structure Mk(K:fZ)(C f:cr):Prop where
 makes:pQ K C=true
 init:gN K (.ref C) "__init__"=some (some<|.ref f)
 fn:nA K (.ref f)=true
 kp:iC K (.ref C)=true
theorem NX(M:Mk X.K C f)(F:uL X.prog X.w X.K X.mg X.base p k f q j t)(y:vD (k+1) X.A)(z:Binds X.K q j d)(B:Vals c d)
 (D:Passes p X E) (I:Inv X b l H s) (r:Vals m us)
 (h:∀x g,H x=none->H g=none->g≠x->t (.ref x::(m++c)) (upd (upd H g<|.own x) x<|.ins C g []) (λv G=>v=.vK/\Q (.ref x) G) E) :
    gn (gp X.prog X.w) X.A (call (.ref C) us) (EP X b l Q) X.xe s:=by
  have n:=h (s.heap.objs.size+1) s.heap.objs.size (I.uU.fresh<|kN _) (I.uU.fresh<|ga _)<|gx<|iQ _
  have i:=Inv.made (C:=C) I
  have o:Vals (V.ref (s.heap.objs.size+1)::(m++c)) (gC (s.heap.objs.size+1)::(us++d)):=.cons rfl<|r.append B
  have J:(gC (s.heap.objs.size+1)::us++d).length=j.length:=by
    have e:=o.length
    rw[F.len _ _ _ _ n] at e
    exact e.symm
  refine lP (NR (f:=f) I.xP M.makes M.init (beq_iff_eq.mp M.fn) (jl (F.run _ X.stack _ _ ⟨gC (s.heap.objs.size+1)::us,[]⟩ (gC (s.heap.objs.size+1)::(us++d)) _ _ E (y.make C us [])
    (i.Ht.make C us []) (z _ (gC (s.heap.objs.size+1)::us) i.xP J) o n) λr L a=>?_))
  cases r with
  | error e=>exact D b l _ _ e L i a
  | ok N =>
    cases N with
    | ret u =>
      refine e2a4 (i.after a) λv O P R S T=>?_
      subst S
      exact⟨R,⟨V.ref<|s.heap.objs.size+1,O,P,rfl,T⟩⟩
    | next=>exact gU a
    | brk=>exact gU a
    | cont=>exact gU a
theorem NY(M:Mk X.K C f)(F:uL X.prog X.w X.K X.mg X.base d k f e g i)(j:vD (k+1) X.A)(l:Gl X x)(m:X.mg x=some (.ref C))(n:Binds X.K e g o)(q:Vals a o)(r:Passes d X E)
 (b:(x==("__debug__":Str))=false:=by decide):PE X (.Call (.Name x p) [] [] pos) (XQ C i a E Cf):=by
  intro c s t H Q I h
  refine jO<|yx I l m ?_ b
  exact rH I.xP M.kp<|NX (us:=[]) M F j n q r I .nil h
def PK(X:Cx)(b:List oU)(t:TA):Prop :=
 ∀(c:Pos) (a:List (cr×Obj)) (s:gk) (d:St) (H:Hp) (Q:List V->Hp->Prop),Inv X a d H s->t d H Q->gn (gp X.prog X.w) X.A (evalAll ((l6 c<|jX b X.env).map (·.2))) (AP X a d Q) X.xe s
structure um(N P:List Str)(sc:kZ):Prop where
 kind:sc.kind=.function
 co:sc.isCoroutine=false
 gen:sc.isGenerator=false
 nd:N.Nodup
 pre:N.take P.length=P
 par:∀x∈P,sc.names.lookup x=some .local\/sc.names.lookup x=some .cell
 VH:∀y∈sc.names,y.2≠.free
theorem EC{b:Str->Option NameKind}:∀{a:List (Str×ci)} {m:Str->Option ci},(∀v,(x,v)∉a)->bindL b a m x=m x
 | [],_,_=>rfl
 | (n,v)::r,m,h=>by
  unfold bindL;rw[EC λw c=>h w<|gg _ c];split
  ·have:x≠n:=by rintro rfl;exact h v gc
   simp[this]
  ·rfl
theorem ED{b:Str->Option NameKind}:∀{a:List (Str×ci)} {m:Str->Option ci},(∀v,(x,v)∉a)->bindC b a m x=m x
 | [],_,_=>rfl
 | (n,v)::r,m,h=>by
  unfold bindC;rw[ED λw c=>h w<|gg _ c];split
  ·rfl
  ·have:x≠n:=by rintro rfl;exact h v gc
   simp[this]
theorem Mn{a:Str->Option NameKind}:∀{P:List Str} {b:List ci} {i:Nat} {m:Str->Option ci},P.Nodup->P[i]?=some x->b[i]?=some v->a x=some .local ->
  bindL a (P.zip b) m x=some v:=by
 intro P
 induction P with
 | nil=>intro _ _ _ _ h;simp at h
 | cons p P g =>
  intro b i m e d c f
  cases b with
  | nil=>simp at c
  | cons w b =>
  cases i with
  | zero =>
   simp at d c;subst d;subst c;show bindL a ((p,w)::P.zip b) m p=_;unfold bindL;rw[EC λv j=>(List.nodup_cons.mp e).1 (oi j).1,f7 f];simp
  | succ i =>
   exact g (i:=i) (List.nodup_cons.mp e).2 (by simpa using d) (by simpa using c) f
theorem Mo{a:Str->Option NameKind}:∀{P:List Str} {b:List ci} {i:Nat} {m:Str->Option ci},P.Nodup->P[i]?=some x->b[i]?=some v->a x≠some .local ->
  bindC a (P.zip b) m x=some v:=by
 intro P
 induction P with
 | nil=>intro _ _ _ _ h;simp at h
 | cons p P g =>
  intro b i m e d c f
  cases b with
  | nil=>simp at c
  | cons w b =>
  cases i with
  | zero =>
   simp at d c;subst d;subst c;show bindC a ((p,w)::P.zip b) m p=_;unfold bindC;rw[ED λv j=>(List.nodup_cons.mp e).1 (oi j).1,f8 f];simp
  | succ i =>
   exact g (i:=i) (List.nodup_cons.mp e).2 (by simpa using d) (by simpa using c) f
def start(N:List Str)(a:List V):St:=a.map some++jZ (N.length-a.length) none
def uY(CX:NU)(P:gS)(w:ic)(K:fZ)(mg:Str->Option ci)(base:hR)(N:List Str)(qual:Str)(scope:kZ)(f:cr)(cd:ci)(A:iR)(outer:List Env)(s:gk)(H:Hp)(E:XK):Cx where
 prog:=P
 w:=w
 K:=K
 mg:=mg
 base:=base
 A:=A.deeper<|nO qual scope s.heap.objs.size f cd
 N:=N
 s₀:=s
 H₀:=H
 env:=nO qual scope s.heap.objs.size f cd
 outer:=outer
 stack:=nO qual scope s.heap.objs.size f cd::outer
 ex:=[]
 calm:=true
 fn:=λ_=>true
 pn:=[]
 xe:=λe s'=>gn (gp P w) (A.deeper<|nO qual scope s.heap.objs.size f cd) (tG (nO qual scope s.heap.objs.size f cd) e) (λ_ RN=>CX outer H s E e RN) (λe' RN=>CX outer H s E e' RN) s'
theorem Hu{a:kZ}{n:Nat}(h:a.names.lookup x=some .cell):∃c,(cellsFrom n a.names []).lookup x=some c:=by have q:=qM a.names n []<|.inl h;exact Option.isSome_iff_exists.mp q
theorem Mp{K:fZ}{A:iR}{o:List V}
 (S:um N C d) (R:A.handled=none) (m:Hr P w K L base A j s H) (hl:o.length=C.length) (r:Vals o M)
 (x:InCallC s s.heap.objs.size (bindL (nO l d s.heap.objs.size f J).kindOf (C.zip M) λ_=>none) (cellsFrom (s.heap.objs.size+1) d.names []) (bindC (nO l d s.heap.objs.size f J).kindOf (C.zip M) λ_=>none) T) :
    Inv (uY U P w K L base N l d f J A j s H E) [] (start N o) H T:=by
  have X:C.length<=N.length:=by have:=congrArg m7 S.pre;rw[kP] at this;lia
  obtain⟨G,tk,rfl,O⟩:=x.done
  have t:∀b:cr,b∉(uY U P w K L base N l d f J A j s H E).ex:=λb z=>gy (show b∈([]:List cr) from z) q0o
  refine⟨⟨m.mod,S.kind,rfl,rfl,ga _,λy z c G g=>?_,λy B=>?_,λy c _ h=>?_,λ_=>R,rJ m.frames,.inr ⟨rfl,rfl⟩,λb z=>gy z (t b),m.bs,m.Hh,λb _ _=>t b,λb z=>gy z (t b),m.xC,m.IC⟩,
    rfl,m.bare,Un.kept O,⟨_,x.toInCall.ns,λi y v G g h3=>?_⟩,λy c h=>⟨_,x.cell y c h⟩,m.uU.fresh (ga _),λy c h=>?_,λp D=>gy (show p∈([]:List (cr×Obj)) from D) q0o,m.uU.kept O,?_⟩
  · exact name_of_addr x.apart (jx G)<|jx g
  · have B : d.names.lookup y = some .cell \/ d.names.lookup y = some .free := B
    rcases B with B|B
    · exact Hu B
    · exact gy rfl<|S.VH _<|jx B
  · exact kR<|x.above y c<|jx h
  · have I : i<o.length := by
      unfold start at g
      by_cases I:i<o.length
      · exact I
      · rw[jk<|by simpa using I] at g
        rw[rr] at g
        split at g<;>cases g
    have Y:o[i]?=some v:=by
      unfold start at g
      rw[kS (by simpa using I),i4] at g
      cases e:o[i]? with
      | none=>rw[e] at g;cases g
      | some a=>rw[e] at g;cases g;rfl
    refine e1a2 (r.get Y) λu Q Z=>?_
    have D:C[i]?=some y:=by
      rw[<- S.pre,qU q0a];exact G
    have F:C.Nodup:=by rw[<- S.pre];exact S.nd.sublist<|tH _ _
    refine⟨u,Z,?_⟩
    rcases S.par y (jd D) with k|k
    · exact .inl ⟨k, Mn F D Q k⟩
    · obtain⟨c, e⟩ := Hu (n := s.heap.objs.size+1) k
      refine .inr ⟨.inl k,c,e,?_⟩
      have q:=x.cell y c e
      rw[Mo F D Q<|by show d.names.lookup y≠_;rw[k];decide] at q
      exact q
  · exact m.uU.fresh<|kR<|x.above y c<|jx h
  · unfold start
    show _=N.length
    rw[gw,gh,rT]
    lia
theorem Hv{K:fZ}{k:Nat}{Z:ci} 
 (lk:K.lookup f=some ⟨oc,od,.func<|iX name d h body a dV Z G pm an g ct,aa⟩) (L:iN K g d=true) (S:um N M a)
 (B:∀i H Q E,sp i H Q E->i.length=M.length)
 (m:∀(A:iR)(c:List Env)(s:gk)(H:Hp)(i:List V)(Q:VK)(E:XK),vD k (A.deeper (nO d a s.heap.objs.size f g))->sp i H Q E ->
 ∃t,Ed (uY O P w K R base N d a f g A c s H E) body t/\t { nx:=λ_ l=>Q .vK l,rt:=Q} (start N i) H) :
    uL P w K R base O (k+1) f (iX name d h body a dV Z G pm an g ct) M sp:=by
  refine⟨B,λA c s H args us i Q E T C hb r D=>?_⟩
  have hl:=B _ _ _ _ D
  have KX:K.In s.heap:=C.mod.Ay.keeps λb o e=>(C.bs b o e).1
  have U:s.heap.NoLimit:=C.mod.nolimit.keeps λb o e=>(C.bs b o e).1
  have p:∀y∈M.zip us,a.names.lookup y.1=some .local\/(a.names.lookup y.1=some .cell/\((cellsFrom (s.heap.objs.size+1) a.names []).lookup y.1).isSome=true):=λ⟨n,v⟩ hy=>by
    rcases S.par n (oi hy).1 with q|q
    · exact .inl q
    · exact .inr ⟨q, qM _ _ _<|.inl q⟩
  refine codeAny_call_function T.depth (KX _ _ lk) rfl S.co S.gen rfl (rV KX L)<|hb _ _ _ _ ?_
  refine wpAny_newFunctionEnv_cells S.kind p λab he s1 x=>?_
  subst he
  refine⟨U.keeps x.toInCall.keep,codeAny_func ?_⟩
  refine e1a2 (m A c s H i Q E (T.deeper _) D) λt ht hq=>?_
  have I:Inv (uY O P w K R base N d a f g A c s H E) [] (start N i) H s1:=Mp S T.hd C hl r x
  refine io (ht [] s1 (start N i) H _ I hq) (λfl X z=>?_) λe X z=>z
  have F:∀{j:St} {l:Hp} {v:V} {u:ci},Inv (uY O P w K R base N d a f g A c s H E) [] j l X->RelV v u->Q v l->CE c P w H s Q u X :=
    λ{j l v u} J Y q=>⟨v,l,J.os,J.bare,J.base,J.uU,Y,q⟩
  cases fl with
  | ret u =>
    obtain⟨v,j,l,J,Y,q⟩:=z
    exact F J Y q
  | next =>
    refine e2a2 z λj l J q=>?_
    exact F (v:=V.vK) (u:=Value.none) J rfl q
  | brk =>
    refine e2a2 z λ_ _ _ q=>?_
    exact gU q
  | cont =>
    refine e2a2 z λ_ _ _ q=>?_
    exact gU q
section
variable{X:Cx}{x:Str}{p pos:Pos}{e:hO}{es:List hO}{t:TA}{id T:String}{r:List V->Hp->VK->Prop}
def Z4(r:List V->Hp->VK->Prop)(t:TA):TE:=λa H Q=>t a H λb c=>r b c Q
theorem v6(d:xQ X (.builtin id) r)(f:Gl X x)(g:X.mg x=none)(i:lY x=some (.builtin id))(j:PA X (e::es) t)(k:x≠"__name__":=by decide)(b:(x==("__debug__":Str))=false:=by decide)
 (he:f9 (e::es) X.env=(false,eval e X.env)::f9 es X.env:=by rfl) (hpl:(iJ pos<|f9 es X.env).any (·.1)=false:=by rfl):PE X (.Call (.Name x p) (e::es) [] pos) (Z4 r t):=by
  intro a s c H Q I h
  refine jO<|yy I f g i ?_ k b
  exact oN (uR (j pos a s c H _ I h) λl m n=>e2a3 n λo q u v w=>d a m c q o l Q u v w) he hpl
theorem wE(f:xQ X (.type T) r)(g:Gl X x)(i:X.mg x=none)(j:lY x=some (.type T))(k:PA X (e::es) t)(l:x≠"__name__":=by decide)(b:(x==("__debug__":Str))=false:=by decide)
 (he:f9 (e::es) X.env=(false,eval e X.env)::f9 es X.env:=by rfl) (c:(iJ pos<|f9 es X.env).any (·.1)=false:=by rfl):PE X (.Call (.Name x p) (e::es) [] pos) (Z4 r t):=by
  intro a s d H Q I h
  refine jO<|yy I g i j ?_ l b
  exact jt (uR (k pos a s d H _ I h) λm n o=>e2a3 o λq u v w y=>f a n d u q m Q v w y) he c
theorem IZ(c:xQ X (.type T) r)(d:Gl X x)(f:X.mg x=none)(g:lY x=some (.type T))(i:x≠"__name__":=by decide)(b:(x==("__debug__":Str))=false:=by decide) :
  PE X (.Call (.Name x p) [] [] pos) (Z4 r Cf):=by
 intro a s j H Q I h;refine jO<|yy I d f g ?_ i b;exact PyProof.Rows.callWith_type0<|c a s j H [] [] Q I .nil h
end
end L2
namespace HT
open PySem PyProof.Rows
def wj(n d:Nat):Option Int->Nat
 | none=>d
 | some v=>if v<0 then (v+(n:Int)).toNat else min v.toNat n
theorem Hw(n d:Nat):wj n d none=d:=rfl
theorem KS(n d k:Nat):wj n d (some (k:Int))=min k n:=by show (if (k:Int)<0 then ((k:Int)+(n:Int)).toNat else min (k:Int).toNat n)=min k n;rw[f8 q0a,kE]
theorem Z5(n d:Nat)(b:d<=n)(o:Option Int):wj n d o<=n:=by
 cases o with
 | none=>exact b
 | some v =>
  show (if v<0 then (v+(n:Int)).toNat else min v.toNat n)<=n;by_cases a:v<0
  ·rw[f7 a];lia
  ·rw[f8 a];exact Nat.min_le_right _ _
theorem KU(v:Int)(n d:Nat):(if v<0 then max (v+(n:Int)) 0 else min v (n:Int))=((wj n d (some v):Nat):Int):=by
 show (if v<0 then max (v+(n:Int)) 0 else min v (n:Int))=(((if v<0 then (v+(n:Int)).toNat else min v.toNat n):Nat):Int);by_cases a:v<0
 ·simp only[f7 a];lia
 ·simp only[f8 a];lia
theorem I0(lo a:Option Int)(n:Nat):pr lo a 1 (n:Int)=(((wj n 0 lo:Nat):Int),((wj n n a:Nat):Int)):=by
 refine Prod.ext ?_ ?_
 ·cases lo with
  | none=>rfl
  | some v=>exact KU v n 0
 ·cases a with
  | none=>rfl
  | some v=>exact KU v n n
theorem Ja(i j:Nat):kh (i:Int) (j:Int) 1=j-i:=by unfold kh;split<;>lia
theorem CV(p:pA v o)(h:Q o s):gn (gp a w) A (Builtin.Slice.slicePartIndex v) Q E s:=by
 cases p with
 | none=>exact slicePart_none h
 | int i t=>exact slicePart_int h
theorem yf{lo:Option Int}{n:Nat}(g:s.heap.IsSliceOf i d e .none)(j:pA d lo)(k:pA e c)
 (h:Q (((wj n 0 lo:Nat):Int),1,wj n n c-wj n 0 lo) s):gn (gp f w) A (Builtin.Slice.sliceApplied (.ref i)<|pure (n:Int)) Q E s:=by
  refine e1a3 (id g) λos a l b=>?_
  refine am<|am<|iv a b (x:=d) rfl<|am<|iv a b (x:=e) rfl<|am<|iv a b (x:=.none) rfl<|ap ?_
  refine am<|slicePart_none ?_
  rw[f8 q0q]
  refine am<|CV j<|am<|CV k<|am<|ap ?_
  show gn _ _ (match pr lo c 1 (n:Int) with|(lo,c)=>pure (lo,(1:Int),kh lo c 1)) _ _ s
  rw[I0 lo c n]
  show gn _ _ (pure (((wj n 0 lo:Nat):Int),(1:Int),kh ((wj n 0 lo:Nat):Int) ((wj n n c:Nat):Int) 1)) _ _ s
  rw[Ja]
  exact ap h
theorem NZ(a:Array ci)(i k:Nat):((gH k).filterMap λ(m:Nat)=>a[((i:Int)+(m:Int)*1).toNat]?).toArray=((a.toList.drop i).take k).toArray:=by
 have e:(λ(m:Nat)=>a[((i:Int)+(m:Int)*1).toNat]?)=λm=>a[i+m]?:=by
  funext m
  have:((i:Int)+(m:Int)*1).toNat=i+m:=by lia
  rw[this]
 rw[e];have:=pick_run a i k;rw[sR] at this;have b:((λx=>a[x]?)∘λx=>i+x)=λm=>a[i+m]?:=rfl;rw[b] at this;rw[this]
theorem AC{t sl:cr}{items:Array ci}{vl vu:ci}{lo hi:Option Int}{Q:ci->gk->Prop}(ht:IsTup s.heap t items)(hs:s.heap.IsSliceOf sl vl vu .none)(pl:pA vl lo)(pu:pA vu hi)
  (hw:¬(wj items.size 0 lo=0/\wj items.size items.size hi=items.size))
  (h:Q (.ref s.heap.objs.size) { s with heap:=s.heap.push { cls:=.type "tuple",data:=.seq ((items.toList.drop<|wj items.size 0 lo).take<|wj items.size items.size hi-wj items.size 0 lo).toArray}})
  (hsz:items.size<=gf):gn (gp prog w) A (m6 (.ref t)<|.ref sl) Q E s:=by
 have KW:sizeOk (.seq ((items.toList.drop<|wj items.size 0 lo).take<|wj items.size items.size hi-wj items.size 0 lo).toArray):=by show ((items.toList.drop<|wj items.size 0 lo).take<|wj items.size items.size hi-wj items.size 0 lo).toArray.size<=gf;rw[gv,kP,lW,gm];omega
 refine e1a3 (id hs) λos hos hcs hds=>?_;have hTs:s.TypeIs (.ref sl) "slice":=⟨os,hos,hcs⟩;unfold m6
 try with_reducible refine gV ?_
 first|refine am (ap ?_)|skip
 refine am<|wpAny_sequenceKey ht.typeIs q0q ?_
 refine am (wpAny_callSpecial?_slot (name:=kT "__getitem__") ht.typeIs jH
  (ie jH ht.typeIs entry_tuple_getitem ?_ (args_tuple_getitem _ _)))
 show gn _ _ (pf (.ref t) >>= _) _ _ s;refine am<|tupleItemsOf_ ht ?_;refine am<|jY hTs ?_;rw[f7 q0q];refine am<|yf hs pl pu ?_
 have hno:¬((((wj items.size 0 lo:Nat):Int)==0&&(1:Int)==1&&(wj items.size items.size hi-wj items.size 0 lo)==items.size)=true):=by intro q;rw[g8,g8] at q;have q1:((wj items.size 0 lo:Nat):Int)=0:=eq_of_beq q.1.1;have q2:wj items.size items.size hi-wj items.size 0 lo=items.size:=eq_of_beq q.2;exact hw ⟨q0d,q0d⟩
 show gn _ _ (if (((wj items.size 0 lo:Nat):Int)==0&&(1:Int)==1&&(wj items.size items.size hi-wj items.size 0 lo)==items.size)=true then _ else _) _ _ s;rw[f8 hno,NZ]
 first
  | exact am (m:=ky _)<|hI (ap ⟨_,rfl,ap h⟩) KW
  | exact am (m:=ky _)<|hI (am<|ap<|ap ⟨_,rfl,ap h⟩) KW
  | exact am<|am (m:=ky _)<|hI (ap<|ap ⟨_,rfl,ap h⟩) KW
  | exact am<|am (m:=ky _)<|hI (ap ⟨_,rfl,ap h⟩) KW
end HT
namespace L2
open PySem PySem.Spec PyProof.Rows
abbrev TO:=St->Hp->(Option Int->Hp->Prop)->Prop
def PO(X:Cx)(e:Option hO)(t:TO):Prop :=
 ∀(a:List (cr×Obj)) (s:gk) (b:St) (H:Hp) (Q:Option Int->Hp->Prop),Inv X a b H s->t b H Q ->
  gn (gp X.prog X.w) X.A (evalPart e X.env) (λu d=>∃o c,Inv X a b c d/\pA u o/\Q o c) X.xe s
def RO:TO:=λ_ H Q=>Q none H
def XU(t:TE):TO:=λa H Q=>t a H λx b=>∃i,x=.int i/\Q (some i) b
theorem intsAre_of{a:List Int}:∀{b:List ci},Vals (a.map V.int) b->kd b a:=by
 induction a with
 | nil=>intro b r;rw[n6] at r;cases r;exact .nil
 | cons n a c =>
  intro b r;rw[gK] at r
  cases r with
  | cons d f =>
   obtain⟨t,e⟩:=d;subst e;exact .cons n t<|c f
section
variable{X:Cx}{e:hO}{te:TE}{lo hi:Option hO}{tl th:TO}{pos p2:Pos}
theorem Co:PO X none RO:=by intro a s b H Q I h;rw[sI];exact ap ⟨none,H,I,.none,h⟩
theorem Cp(h:PE X e te):PO X (some e) (XU te):=by intro a s b H Q I c;rw[evalPart_some];refine uR (h a s b H _ I c) λu l d=>e2a3 d λx f g j k=>?_;obtain⟨i,rfl,q⟩:=k;obtain⟨t,rfl⟩:=j;exact⟨some i,f,g,.int i t,q⟩
def UK(X:Cx)(r:V->Option Int->Option Int->Hp->VK->Prop):Prop :=
 ∀(a:List (cr×Obj)) (s:gk) (b:St) (H:Hp) (x:V) (v c d:ci) (lo hi:Option Int) (f:cr) (Q:VK),Inv X a b H s->RelV x v->s.heap.IsSliceOf f c d .none->pA c lo->pA d hi->r x lo hi H Q ->
  ∃T g,mu (.type T) "__getitem__"=pure (some<|.builtin g)/\s.TypeIs v T/\gn (gp X.prog X.w) X.A (m6 v<|.ref f) (EP X a b Q) X.xe s
theorem UK.or(h:UK X r)(l:UK X m):UK X (λx lo hi H Q=>r x lo hi H Q\/m x lo hi H Q):=by
 intro a s b H x v c d lo hi f Q I g i j k q;rcases q with q|q
 ·exact h a s b H x v c d lo hi f Q I g i j k q
 ·exact l a s b H x v c d lo hi f Q I g i j k q
def tSl(r:V->Option Int->Option Int->Hp->VK->Prop)(te:TE)(tl th:TO):TE:=λa H Q=>te a H λx b=>tl a b λl c=>th a c λu d=>r x l u d Q
theorem zb(k:UK X r)(m:PE X e te)(n:PO X lo tl)(o:PO X hi th):PE X (.Subscript e (.Slice lo hi none p2) pos) (tSl r te tl th):=by intro a s d H Q I h;refine rW<|uR (m a s d H _ I h) λv p f=>e2a3 f λx t w y z=>?_;refine wpAny_Slice<|uR (n a p d t _ w z) λg A f=>e2a3 f λl B C D E=>uR (o a A d B _ C E) λi c f=>e2a3 f λu j F G J=>?_;rw[sI];refine ap ?_;have L:Inv X a d j { c with heap:=c.heap.push { cls:=.type "slice",data:=.fields #[g,i,.none]}}:=F.kept (t':=c.toks) λb P q=>ce _ q;obtain⟨T,R,M,N,O⟩:=k a { c with heap:=c.heap.push { cls:=.type "slice",data:=.fields #[g,i,.none]}} d j x v g i l u c.heap.objs.size Q L y (qk ..) D G J;exact tail_any (ops:=[.ref c.heap.objs.size,v]) N M O (by with_unfolding_all rfl)
def CW(a:List V)(lo hi:Option Int):List V:=(a.drop<|HT.wj a.length 0 lo).take<|HT.wj a.length a.length hi-HT.wj a.length 0 lo
theorem BY(a:List V)(lo hi:Option Int):(CW a lo hi).length<=a.length:=by unfold CW;rw[kP,lW];omega
def Z6(K:fZ):V->Option Int->Option Int->Hp->VK->Prop:=λx lo hi H Q=>∃a b,x=.ref a/\yq K H a b /\
 ¬(HT.wj b.length 0 lo=0/\HT.wj b.length b.length hi=b.length)/\∀p,H p=none->Q (.ref p) (upd H p<|.tup<|CW b lo hi)
theorem VI:UK X (Z6 X.K):=by
 intro g s u H x v w y lo hi z Q I k l m n h;obtain⟨a,d,rfl,p,t,q⟩:=h;cases k;refine e1a3 (I.tuple p) λf r i j=>?_;have c:f.toArray.size=d.length:=by rw[gv];exact r.length.symm
 refine⟨"tuple",_,PyProof.Rows.slot_tuple_getitem.lookup,i.typeIs,?_⟩;refine HT.AC i l m n (by rw[c];exact t) ?_ (by rw[c];exact j);rw[c];refine⟨.ref s.heap.objs.size,_,I.laid (t':=s.toks) (o:=.tup<|CW d lo hi) (λb A q=>ce _ q) (ga _) ?_,rfl,q _<|I.uU.fresh<|ga _⟩;exact⟨gO (BY d lo hi) j,_,(r.drop<|HT.wj d.length 0 lo).take<|HT.wj d.length d.length hi-HT.wj d.length 0 lo,IsTup.new _ _⟩
end
def UL(n:Nat)(i:Int):Option Nat:=if 0<=i then (if i<n then some i.toNat else none) else if -(n:Int)<=i then some (i+n).toNat else none
def Ef{a:Type}(b:List a)(i:Int):Option a:=(UL b.length i).bind λj=>b[j]?
theorem KY{n:Nat}{i:Int}{j:Nat}(h:UL n i=some j):seqIndex? i n=some j/\j<n/\-(n:Int)<=i/\i<n:=by
 unfold UL at h;by_cases b:0<=i
 ·rw[f7 b] at h;by_cases a:i<n
  ·rw[f7 a] at h;have e:i.toNat=j:=ii h;exact⟨by rw[seqIndex_of b a,e],q0a,q0a,a⟩
  ·rw[f8 a] at h;cases h
 ·rw[f8 b] at h;by_cases a:-(n:Int)<=i
  ·rw[f7 a] at h;have e:(i+n).toNat=j:=ii h;exact⟨by rw[tJ q0a a,e],q0a,a,q0a⟩
  ·rw[f8 a] at h;cases h
theorem KZ{α:Type}{xs:List α}{i:Int}{v:α}(h:Ef xs i=some v):∃j,seqIndex? i xs.length=some j/\xs[j]?=some v/\j<xs.length/\-(xs.length:Int)<=i/\i<xs.length:=by
 unfold Ef at h
 cases e:UL xs.length i with
 | none=>rw[e] at h;cases h
 | some j =>
  rw[e] at h;obtain⟨h1,h2,h3,h4⟩:=KY e;exact⟨j,h1,h,h2,h3,h4⟩
theorem K3{α:Type}{xs:List α}{j:Nat}{v:α}(h:xs[j]?=some v):Ef xs (j:Int)=some v:=by
 have hj:j<xs.length:=(List.getElem?_eq_some_iff.mp h).1
 have e:UL xs.length (j:Int)=some j:=by unfold UL;rw[f7 q0a,f7 q0a];simp
 unfold Ef;rw[e];exact h
def K4(b:hO):Prop:=∀o i,qV b false o i=operate [o,i] (m6 o i)
def Z7(X:Cx)(r:R2):Prop :=
 ∀(c a:hO) (b:List (cr×Obj)) (s:gk) (d:St) (H:Hp) (x y:V) (v u:ci) (Q:VK),Inv X b d H s->RelV x v->RelV y u->r x y H Q ->
  qV a false v u=operate [v,u] (m6 v u)->gn (gp X.prog X.w) X.A (subscriptTail c a v u) (EP X b d Q) X.xe s
def MtR(X:Cx)(e:String)(r:V->List V->Hp->VK->Prop):Prop :=
 ∀(a:List (cr×Obj)) (s:gk) (b:St) (H:Hp) (x:V) (c:List V) (v:ci) (d:List ci) (Q:VK),Inv X a b H s->RelV x v->Vals c d->r x c H Q ->
  gn (gp X.prog X.w) X.A (call (.builtin e) (v::d)) (EP X a b Q) X.xe s
section
variable{X:Cx}
theorem xi(d:Z7 X r)(e:PE X a f)(g:PE X b i)(j:K4 b):PE X (.Subscript a b pos) (Xg r f i):=by intro c s k H Q I h;exact rW<|VA e g I h λv u l x y m n o p q=>d a b c l k m x y v u Q n o p q<|j _ _
def Z8(K:fZ):R2:=λx y H Q=>∃p a i v,x=.ref p/\y=.int i/\vA K H p a/\Ef a i=some v/\Q v H
def Z9(K:fZ):R2:=λx y H Q=>∃p a i v,x=.ref p/\y=.int i/\yq K H p a/\Ef a i=some v/\Q v H
theorem vV:Z7 X (Z8 X.K):=by
 intro value slice a s g H x y v u Q I n o h k;obtain⟨p,J,i,z,rfl,rfl,A,B,q⟩:=h;cases n;obtain⟨t,rfl⟩:=o;refine e1a3 (I.list A) λc r d L=>?_;obtain⟨j,b,C,M,D,E⟩:=KZ B;refine e1a2 (r.get C) λw l e=>?_;have F:=r.length;have N:=CU;have fin:EP X a g Q w s:=⟨z,H,I,e,q⟩;by_cases m:0<=i
 ·have f:i.toNat=j:=by rw[seqIndex_of m E] at b;exact ii b
  exact item_listR d.isList m q0a (by rw[f];simpa using l) fin k
 ·have f:(i+(c.toArray.size:Int)).toNat=j:=by rw[tJ q0a D] at b;rw[gv,<- F];exact ii b
  exact tK (x:=w) d.isList.typeIs slot_list_getitem.lookup
   (wpAny_getItem_list_neg (Q:=λr G=>r=w/\EP X a g Q r G) d.isList q0a (by rw[gv]<;>lia) q0a (by rw[f];simpa using l) ⟨rfl,fin⟩) k
theorem N0:Z7 X (Z9 X.K):=by
 intro value slice a s c H x y v u Q I e f h g;obtain⟨p,D,i,z,rfl,rfl,k,l,q⟩:=h;cases e;obtain⟨t,rfl⟩:=f;refine e1a3 (I.tuple k) λm r d E=>?_;obtain⟨j,n,o,F,G,J⟩:=KZ l;refine e1a2 (r.get o) λw A b=>?_;have B:=r.length;have L:=CU;have fin:EP X a c Q w s:=⟨z,H,I,b,q⟩
 exact tK (x:=w) d.typeIs slot_tuple_getitem.lookup
  (getItem_tuple (j:=j) (Q:=λr C=>r=w/\EP X a c Q r C) d q0a q0a (by rw[gv,<- B];exact n) (by simpa using A) ⟨rfl,fin⟩) g
theorem Jb(a:List ci)(n j:Nat)(u:ci):Obj.mapSeq (·.setIfInBounds j u) { cls:=.type "list",data:=.seq a.toArray n}={ cls:=.type "list",data:=.seq (a.set j u).toArray n}:=by simp[Obj.mapSeq]
theorem Inv.lst(I:Inv X b d H s)(h:H p=some (.lst c)) :
  ∃(a:List ci)(n:Nat),Vals c a/\s.heap.get? p=some { cls:=.type "list",data:=.seq a.toArray n}/\c.length<=gf:=by
 obtain⟨z,a,n,r,e⟩:=I.uU p _ h;exact⟨a,n,r,e,z⟩
theorem Inv.VJ{c a:List ci}{n g:Nat}(I:Inv X d k H s)(h:H p=some (.lst v))
 (l:s.heap.get? p=some { cls:=.type "list",data:=.seq c.toArray n}) (i:f { cls:=.type "list",data:=.seq c.toArray n}={ cls:=.type "list",data:=.seq a.toArray g}) (r:Vals j a) (m:j.length<=gf) (t:Nat) :
    Inv X d k (upd H p<|.lst j) { s with heap:=s.heap.update p f,toks:=t}:=by
  have e:(s.heap.update p f).get? p=some { cls:=.type "list",data:=.seq a.toArray g}:=by
    rw[hZ f l (by rw[i]<;>rfl),i]
  refine I.write (x:=p) (e:=p) (by rw[h];trivial) (.inl rfl) (λb u o q=>(gW _ _<|Ne.symm o).trans q) ⟨_,e⟩ ?_
  exact⟨m,a,g,r,e⟩
def XW:V->V->V->Hp->(Hp->Prop)->Prop:=λo i v H Q=>∃p a k j,o=.ref p/\i=.int k/\H p=some (.lst a)/\UL a.length k=some j/\Q (upd H p<|.lst<|a.set j v)
theorem set_list:Vs X XW:=by
 intro a s y H o i v F G u Q I z A B h;obtain⟨p,C,k,j,rfl,rfl,g,D,q⟩:=h;cases z;obtain⟨t,rfl⟩:=A;obtain⟨b,n,r,d,E⟩:=I.lst g;obtain⟨c,J,l,m⟩:=KY D;have e:=r.length;have L:=CU
 have w:Inv X a y (upd H p<|.lst<|C.set j v) { s with heap:=s.heap.update p (Obj.mapSeq (·.setIfInBounds j u))} :=
  I.VJ g d (Jb b n j u) (r.set B j) (by rw[lm];exact E) s.toks
 by_cases x:0<=k
 ·have f:k.toNat=j:=by rw[seqIndex_of x m] at c;exact ii c
  exact PySem.W.ki_setAt d x q0a (by rw[gv,<- e];exact m) (by rw[f];exact⟨_,w,q⟩)
 ·have f:(k+(b.toArray.size:Int)).toNat=j:=by rw[tJ q0a l] at c;rw[gv,<- e];exact ii c
  exact PySem.W.ki_setBack d q0a (by rw[gv,<- e];exact l) q0a (by rw[f];exact⟨_,w,q⟩)
theorem Fo(a b:Option Int)(n:Nat):(mD a b none n).1=((HT.wj n 0 a:Nat):Int)/\(mD a b none n).2.1=((HT.wj n n b:Nat):Int)/\(mD a b none n).2.2=1:=by
 refine⟨?_,?_,rfl⟩
 ·cases a with
  | none=>simp[mD,HT.wj]
  | some i =>
   simp only[mD,HT.wj,pJ,show (1:Int)>0 by decide,if_true];by_cases h:i<0
   ·simp only[h,if_true]<;>lia
   ·simp only[h,oC]<;>lia
 ·cases b with
  | none=>simp[mD,HT.wj]
  | some i =>
   simp only[mD,HT.wj,pJ,show (1:Int)>0 by decide,if_true];by_cases h:i<0
   ·simp only[h,if_true]<;>lia
   ·simp only[h,oC]<;>lia
theorem Eg(a:List ci)(b c:Option Int):slicePick a.toArray b c none=((a.drop<|HT.wj a.length 0 b).take<|HT.wj a.length a.length c-HT.wj a.length 0 b).toArray:=by refine e0a3 (Fo b c a.toArray.size) λd e f=>?_;unfold slicePick;rw[d,e,f];simp only[sliceRange_one,pick_run,gv]<;>rfl
def a0a(K:fZ):V->Option Int->Option Int->Hp->VK->Prop:=λx c d H Q=>∃a b,x=.ref a/\vA K H a b/\∀p,H p=none->Q (.ref p) (upd H p<|.lst<|CW b c d)
theorem Cr:UK X (a0a X.K):=by intro g s u H x v w y e f z Q I j k l m h;obtain⟨a,c,rfl,n,q⟩:=h;cases j;refine e1a3 (I.list n) λp r i t=>?_;have d:=r.length;refine⟨"list",_,slot_list_getitem.lookup,i.isList.typeIs,?_⟩;refine sJ i.isList k l m .none q0o ?_ (by rw[gv]<;>lia);rw[Eg,<- d];refine⟨.ref s.heap.objs.size,_,I.laid (t':=s.toks) (o:=.lst<|CW c e f) (λb A q=>ce _ q) (ga _) ?_,rfl,q _<|I.uU.fresh<|ga _⟩;exact⟨gO (BY c e f) t,_,0,(r.drop<|HT.wj c.length 0 e).take<|HT.wj c.length c.length f-HT.wj c.length 0 e,gu _ rfl⟩
def AD:V->Bool
 | .vK=>true
 | .bl _=>true
 | .int _=>true
 | .str _=>true
 | _=>false
def Rt:V->V->Bool
 | .vK,.vK=>true
 | .bl a,.bl b=>a==b
 | .bl a,.int b=>(if a then 1 else 0)==b
 | .int a,.bl b=>a==(if b then 1 else 0)
 | .int a,.int b=>a==b
 | .str a,.str b=>a==b
 | _,_=>false
theorem VL(e:RelV y u)(c:RelV x v)(g:AD y=true)(f:AD x=true):SeqAt.EqAt A s u v (Rt y x):=by
 cases y with
 | vK =>
  cases e
  cases x with
  | vK=>cases c;exact SeqAt.EqAt.same _
  | bl b=>cases c;exact SeqAt.EqAt.none_bool b
  | int b=>obtain⟨t,rfl⟩:=c;exact SeqAt.EqAt.none_int b t
  | str b=>obtain⟨t,rfl⟩:=c;exact SeqAt.EqAt.none_str b t
  | _=>exact gy (show false=true from f) gr
 | bl a =>
  cases e
  cases x with
  | vK=>cases c;exact SeqAt.EqAt.bool_none a
  | bl b=>cases c;exact SeqAt.EqAt.bool_bool a b
  | int b=>obtain⟨t,rfl⟩:=c;exact SeqAt.EqAt.bool_int a b t
  | str b=>obtain⟨t,rfl⟩:=c;exact SeqAt.EqAt.bool_str a b t
  | _=>exact gy (show false=true from f) gr
 | int a =>
  obtain⟨d,rfl⟩:=e
  cases x with
  | vK=>cases c;exact SeqAt.EqAt.int_none a d
  | bl b=>cases c;exact SeqAt.EqAt.int_bool a d b
  | int b=>obtain⟨t,rfl⟩:=c;exact SeqAt.EqAt.int_int a d b t
  | str b=>obtain⟨t,rfl⟩:=c;exact qR a d b t
  | _=>exact gy (show false=true from f) gr
 | str a =>
  obtain⟨d,rfl⟩:=e
  cases x with
  | vK=>cases c;exact SeqAt.EqAt.str_none a d
  | bl b=>cases c;exact SeqAt.EqAt.str_bool a d b
  | int b=>obtain⟨t,rfl⟩:=c;exact qS a d b t
  | str b=>obtain⟨t,rfl⟩:=c;exact SeqAt.EqAt.str_str a d b t
  | _=>exact gy (show false=true from f) gr
 | _=>exact gy (show false=true from g) gr
def Jc(x:V)(u:ci):Bool:=match u with
 | .none=>Rt .vK x
 | .bool b=>Rt (.bl b) x
 | .int i _=>Rt (.int i) x
 | .str z _=>Rt (.str z) x
 | _=>false
theorem N3(r:RelV y u)(f:AD y=true):Jc x u=Rt y x:=by
 cases y with
 | vK=>cases r;rfl
 | bl b=>cases r;rfl
 | int i=>obtain⟨t,rfl⟩:=r;rfl
 | str z=>obtain⟨t,rfl⟩:=r;rfl
 | _=>exact gy (show false=true from f) gr
theorem Ct:∀{a:List V} {b:List ci},Vals a b->a.all AD=true->b.any (Jc x)=a.any λy=>Rt y x:=by
 intro _ _ z f
 induction z with
 | nil=>rfl
 | cons h t c =>
  rw[ph,g8] at f;rw[nj,nj,N3 h f.1,c f.2]
theorem zc(d:RelV x v)(e:AD x=true):∀{b:List V} {c:List ci},Vals b c->b.all AD=true->∀u∈c,SeqAt.EqAt A s u v (Jc x u)
 | _,_,.nil,_=>λu a=>by cases a
 | y::b,u::c,.cons r t,f=>λg a=>by
  rw[ph,g8] at f;rcases List.mem_cons.mp a with rfl|a
  ·rw[N3 r f.1];exact VL r d f.1 e
  ·exact zc d e t f.2 g a
def Zp(x:V)(a:List V):Bool:=a.any λy=>Rt y x
def rIn(K:fZ)(b:Bool):R2:=λx y H Q=>∃p a,y=.ref p/\(vA K H p a\/yq K H p a)/\AD x=true/\a.all AD=true/\Q (.bl<|if b then !Zp x a else Zp x a) H
theorem EE:zW X (iT .In) (rIn X.K false):=by
 intro f s l H x y v u Q I g j h;obtain⟨p,m,rfl,b,i,c,q⟩:=h;cases j;rcases b with b|b
 ·refine e1a3 (I.list b) λa r d k=>?_;refine SeqAt.in_listAt (Jc x) d.isList (λw e=>zc g i r c w<|by simpa using e) ⟨.bl _,H,I,rfl,?_⟩;rw[show a.toArray.any (Jc x)=a.any (Jc x) by simp,Ct r c];exact q
 ·refine e1a3 (I.tuple b) λa r d k=>?_;refine SeqAt.in_tupleAt (Jc x) d (λw e=>zc g i r c w<|by simpa using e) ⟨.bl _,H,I,rfl,?_⟩;rw[show a.toArray.any (Jc x)=a.any (Jc x) by simp,Ct r c];exact q
theorem AE:zW X (iT .NotIn) (rIn X.K true):=by
 intro f s l H x y v u Q I g j h;obtain⟨p,m,rfl,b,i,c,q⟩:=h;cases j;rcases b with b|b
 ·refine e1a3 (I.list b) λa r d k=>?_;refine SeqAt.notIn_listAt (Jc x) d.isList (λw e=>zc g i r c w<|by simpa using e) ⟨.bl _,H,I,rfl,?_⟩;rw[show a.toArray.any (Jc x)=a.any (Jc x) by simp,Ct r c];exact q
 ·refine e1a3 (I.tuple b) λa r d k=>?_;refine SeqAt.notIn_tupleAt (Jc x) d (λw e=>zc g i r c w<|by simpa using e) ⟨.bl _,H,I,rfl,?_⟩;rw[show a.toArray.any (Jc x)=a.any (Jc x) by simp,Ct r c];exact q
theorem xl:xQ X (.builtin "len") (λg H Q=>∃p b,g=[.ref p]/\(vA X.K H p b\/yq X.K H p b)/\Q (.int b.length) H):=by
 intro i s l H g m Q I r h;obtain⟨p,b,rfl,c,q⟩:=h;obtain⟨u,rfl,j⟩:=vals1 r;cases j;have n:=CU;rcases c with c|c
 ·refine e1a3 (I.list c) λd e f k=>?_;have a:=e.length;exact Calls.call_len_list f.isList (by simp only[gv]<;>lia) ⟨.int b.length,H,I.tok _,⟨s.toks+1,by rw[gv,a]⟩,q⟩
 ·refine e1a3 (I.tuple c) λd e f k=>?_;have a:=e.length;exact len_tuple f (by simp only[gv]<;>lia) ⟨.int b.length,H,I.tok _,⟨s.toks+1,by rw[gv,a]⟩,q⟩
theorem xm:xQ X (.type "list") (λB H Q=>∃p d,B=[.ref p]/\(vA X.K H p d\/yq X.K H p d)/\∀l,H l=none->Q (.ref l) (upd H l<|.lst d)):=by
 intro i s D H B F Q I r h;obtain⟨p,d,rfl,j,q⟩:=h;obtain⟨u,rfl,E⟩:=vals1 r;cases E
 have k:∀(a:List ci),Vals d a->d.length<=gf->∀(c:hR)(f:Nat),(∀b C,s.heap.get? b=some C->c.get? b=some C) ->
   c.get? s.heap.objs.size=some { cls:=.type "list",dict:=none,data:=.seq a.toArray f,slots:=#[]}->EP X i D Q (.ref s.heap.objs.size) { s with heap:=c}:=λa g m c f t e =>
  ⟨.ref s.heap.objs.size,_,I.laid (t':=s.toks) t (ga _)<|show vk X.prog X.w _ c _ (.lst d) from⟨m,a,f,g,e⟩,rfl,q _<|I.uU.fresh<|ga _⟩
 rcases j with j|j
 ·refine e1a3 (I.list j) λa g x m=>?_;have v:=g.length;obtain⟨o,y,z,n,A⟩:=x.isList;exact call_list_seq p (.inl rfl) y z A (λc f t e=>k a g m c f t e) (by simp only[gv]<;>lia)
 ·refine e1a3 (I.tuple j) λa g x m=>?_;have v:=g.length;obtain⟨o,y,z,n,A⟩:=x;exact call_list_seq p (.inr rfl) y z A (λc f t e=>k a g m c f t e) (by simp only[gv]<;>lia)
theorem Eh:xQ X (.type "tuple") (λk H Q=>∃p d,k=[.ref p]/\((vA X.K H p d/\∀l,H l=none->Q (.ref l) (upd H l<|.tup d))\/(yq X.K H p d/\Q (.ref p) H))):=by
 intro a s m H k A Q I r h;obtain⟨p,d,rfl,h⟩:=h;obtain⟨u,rfl,x⟩:=vals1 r;cases x;rcases h with⟨g,q⟩|⟨g,q⟩
 ·refine e1a3 (I.list g) λc i j n=>?_;have t:=i.length;refine call_tuple_list j.isList (λf y=>?_) (by simp only[gv]<;>lia);have v:Inv X a m H { s with heap:=f}:=I.kept (t':=s.toks) y
  have z:Inv X a m (upd H f.objs.size<|.tup d) { s with heap:=f.push { cls:=.type "tuple",data:=.seq c.toArray}} :=
   v.laid (t':=s.toks) (λb o e=>ce _ e) (ga _) (show vk X.prog X.w _ _ _ (.tup d) from⟨n,c,i,IsTup.new _ _⟩)
  exact⟨.ref f.objs.size,_,z,rfl,q _<|v.uU.fresh<|ga _⟩
 ·refine e1a3 (I.tuple g) λc i j n=>?_;exact call_tuple_same j ⟨.ref p,H,I,rfl,q⟩
def tyV(K:fZ)(T:String)(x:V)(H:Hp):Prop:=match x with
 | .str _=>T="str"
 | .int _=>T="int"
 | .ref p=>(T="list"/\∃xs,vA K H p xs)\/(T="tuple"/\∃o,K.lookup p=some o/\o.cls=.type "tuple"/\o.dict=none) \/
   (T="dict"/\((∃wv,H p=some (.dK wv))\/∃wv,H p=some (.dT wv)))\/(T="set"/\∃S n,H p=some (.set S n))
 | _=>False
theorem N4(I:Inv X k y H s)(r:RelV x v)(f:tyV X.K T x H) :
  s.TypeIs v T/\∀a,v=.ref a->∃l,s.heap.get? a=some l/\l.dict=none:=by
 cases x with
 | str z =>
  obtain⟨t,rfl⟩:=r;cases (show T="str" from f);exact⟨typeIs_str s z t,λ_ e=>nomatch e⟩
 | int i =>
  obtain⟨t,rfl⟩:=r;cases (show T="int" from f);exact⟨typeIs_int s i t,λ_ e=>nomatch e⟩
 | ref p =>
  cases r;rcases f with⟨rfl,A,q⟩|⟨rfl,o,b,u,g⟩|⟨rfl,b⟩|⟨rfl,S,n,b⟩
  ·refine e1a3 (I.list q) λw _ m _=>?_;refine⟨m.isList.typeIs,λa e=>?_⟩;cases e;refine e2a4 m λo n e c g _=>?_;exact⟨o,e,g⟩
  ·refine⟨⟨o,I.xP p o b,u⟩,λa e=>?_⟩;cases e;exact⟨o,I.xP _ o b,g⟩
  ·have z:∃o,s.heap.get? p=some o/\o.ExactDict:=by
    rcases b with⟨h,b⟩|⟨h,b⟩
    ·obtain⟨_,_,_,_,o,_,_,e,d,_⟩:=I.uU p _ b;exact⟨o,e,d⟩
    ·obtain⟨_,_,_,_,o,_,_,e,d,_⟩:=I.uU p _ b;exact⟨o,e,d⟩
   refine e1a2 z λo e d=>?_;refine⟨⟨o,e,d.1⟩,λa j=>?_⟩;cases j;exact⟨o,e,d.2.1⟩
  ·obtain⟨o,_,_,_,e,d,_⟩:=I.uU p _ b;refine⟨⟨o,e,d.1⟩,λa j=>?_⟩;cases j;exact⟨o,e,d.2.1⟩
 | _=>exact gU f
def XX(K:fZ)(T:String)(r:V->List V->Hp->VK->Prop)(b:TE):TE:=λc H Q=>b c H λx a=>tyV K T x a/\r x [] a Q
def tBM(K:fZ)(T:String)(r:V->List V->Hp->VK->Prop)(c:TE)(t:TA):TE:=λa H Q=>c a H λx b=>tyV K T x b/\t a b λd e=>r x d e Q
variable{o e:hO}{es:List hO}{to:TE}{t:TA}{name:Str}{apos cpos:Pos}{T id:String}{r:V->List V->Hp->VK->Prop}
theorem N5(k:PlainAttrs T)(d:Slot T name id)(f:typeOf (.builtin id)=pure (.type "method_descriptor"))(l:MtR X id r)(m:PE X o to)
 (b:gY o name X.env (eval o X.env)=eval o X.env:=by rfl)(c:(apos.endLine==cpos.line)=true:=by rfl):PE X (.Call (.Attribute o name apos) [] [] cpos) (XX X.K T r to):=by
  intro a s g H Q I h
  refine wpAny_Call_method0_late b c<|uR (m a s g H _ I h) λv n p=>e2a4 p λx q i j u w=>?_
  obtain⟨y,z⟩:=N4 i j u
  exact⟨T,id,k,d,f,y,z,jz rfl<|PySem.evalArgs_none<|l a n g q x [] v [] Q i j .nil w⟩
theorem UM(p:PlainAttrs T)(f:Slot T name id)(i:typeOf (.builtin id)=pure (.type "method_descriptor"))(q:MtR X id r)(u:PE X o to)(w:PA X (e::es) t)
 (c:gY o name X.env (eval o X.env)=eval o X.env:=by rfl)
 (g:((iJ cpos (f9 (e::es) X.env)).all (λx=>!x.1)&&(l6 cpos (jX [] X.env)).all (λx=>x.1.isSome)
&&decide ((e::es).length+([]:List oU).length+(if ([]:List oU).isEmpty then 0 else 1)<30))=true:=by rfl)
 (d:(apos.endLine==cpos.line)=true:=by rfl) (y:f9 (e::es) X.env=(false,eval e X.env)::f9 es X.env:=by rfl) (b:(iJ cpos<|f9 es X.env).any (·.1)=false:=by rfl) :
    PE X (.Call (.Attribute o name apos) (e::es) [] cpos) (tBM X.K T r to t):=by
  intro a s j H Q I h
  refine tL c g d rfl<|uR (u a s j H _ I h) λv z k=>e2a4 k λx A l m B C=>?_
  obtain⟨D,E⟩:=N4 l m B
  refine⟨T,id,p,f,i,D,E,?_⟩
  have n:=w cpos a z j A _ l C
  rw[y] at n ⊢
  refine jz (by show (false||(iJ cpos<|f9 es X.env).any (·.1))=false;rw[b]<;>rfl)<|iV ?_
  exact uR n λF G k=>e2a3 k λJ L M N O=>q a G j L x J v F Q M m N O
end
def Xh(X:Cx)(e:String)(r:V->List V->Hp->VK->Prop):Prop :=
 ∀(a:List (cr×Obj)) (s:gk) (b:St) (H:Hp) (x:V) (c:List V) (v:ci) (d:List ci) (Q:VK),Inv X a b H s->RelV x v->Vals c d->r x c H Q ->
  gn (gp X.prog X.w) X.A (call (.builtin e) (v::d)) (EP X a b Q) X.xe s
theorem Vals.one:∀{x:V} {a:List ci},Vals [x] a->∃u,a=[u]/\RelV x u:=by intro _ _ z;cases z with|cons h t=>cases t;exact⟨_,rfl,h⟩
theorem Vals.zero:∀{a:List ci},Vals [] a->a=[]
 | _,.nil=>rfl
theorem Vals.dropLast(h:Vals a b):Vals a.dropLast b.dropLast:=by
 induction h with
 | nil=>exact .nil
 | cons r t c =>
  cases t with
  | nil=>exact .nil
  | cons q d=>exact .cons r c
theorem Vals.eraseIdx:∀{a:List V} {b:List ci} (i:Nat),Vals a b->Vals (a.eraseIdx i) (b.eraseIdx i)
 | _,_,_,.nil=>.nil
 | _,_,0,.cons _ t=>t
 | _,_,i+1,.cons r t=>.cons r<|Vals.eraseIdx i t
theorem Vals.reverse(h:Vals a b):Vals a.reverse b.reverse:=by
 induction h with
 | nil=>exact .nil
 | cons r t c=>rw[m8,m8];exact Vals.append c<|.cons r .nil
theorem Jd(l:List d):l.eraseIdx (l.length-1)=l.dropLast:=by
 induction l with
 | nil=>rfl
 | cons a r c =>
  cases r with
  | nil=>rfl
  | cons b r =>
   have e:(a::b::r).length-1=((b::r).length-1)+1:=by
    have f:(a::b::r).length=r.length+2:=rfl;have g:(b::r).length=r.length+1:=rfl
    lia
   rw[e,nJ,c]
   all_goals rfl
theorem EF:∀(l:List a)(i:Nat),(l.eraseIdx i).length<=l.length
 | [],_=>ga _
 | _::_,0=>kN _
 | _::r,i+1=>Nat.succ_le_succ<|EF r i
theorem Inv.VM{a its':List ci}{n:Nat}{d:Nat}(I:Inv X b g H s)(h:H l=some (.lst p))
 (e:s.heap.get? l=some { cls:=.type "list",data:=.seq a.toArray n}) (i:f a.toArray=its'.toArray) (j:Vals c its') (k:c.length<=gf) :
    Inv X b g (upd H l<|.lst c) { s with heap:=s.heap.update l<|Obj.mapSeq f,toks:=d}:=by
  have q:=PySem.IsL.update e f
  rw[i] at q
  refine I.write (x:=l) (e:=l) (by rw[h];exact trivial) (.inl rfl) (λr u m o=>(gW s.heap (Obj.mapSeq f)<|Ne.symm m).trans o) ⟨_,q⟩ ?_
  exact⟨k,its',_,j,q⟩
theorem Inv.a0d{t':Nat}(I:Inv X a d H s)(e:Vals c b)(f:c.length<=gf) :
  Inv X a d (upd H s.heap.objs.size<|.lst c) { s with heap:=s.heap.push { cls:=.type "list",data:=.seq b.toArray},toks:=t'} :=
 I.laid (λ_ _ q=>ce _ q) (ga _) ⟨f,b,0,e,gu _ rfl⟩
theorem Inv.fresh(I:Inv X a b H s):H s.heap.objs.size=none:=I.uU.fresh<|ga _
theorem Inv.N6(I:Inv X c f H s)(d:H l=some (.lst b)):b.length<=gf/\∃(a:List ci)(n:Nat),Vals b a/\b.length=a.length/\s.heap.get? l=some { cls:=.type "list",data:=.seq a.toArray n}:=by obtain⟨z,a,n,r,e⟩:=I.uU l _ d;exact⟨z,a,n,r,r.length,e⟩
def K5:V->List V->Hp->VK->Prop:=λx b H Q=>∃l a y,x=.ref l/\b=[y]/\H l=some (.lst a)/\a.length<gf/\Q .vK (upd H l<|.lst<|a++[y])
theorem Mr:Xh X "list.append" K5:=by
 intro b s i H x j v k Q I d f h;obtain⟨l,m,y,rfl,rfl,c,o,q⟩:=h;cases d;obtain⟨u,rfl,g⟩:=f.one;obtain⟨z,a,n,r,p,e⟩:=I.N6 c;refine call_meets F.slot_list_append ⟨_,e,rfl⟩ F.entry_list_append (F.args_list_append_2 _ _) (PySem.list_append l a.toArray n u<|by rw[gv];lia) ⟨e,?_⟩;refine⟨.vK,_,I.VM (its':=a++[u]) c e q0o (r.append<|.cons g .nil) ?_,rfl,q⟩;rw[gw,gF]
 lia
def XY:V->List V->Hp->VK->Prop:=λx b H Q=>∃l a y,x=.ref l/\b=[]/\H l=some (.lst a)/\a[a.length-1]?=some y/\Q y (upd H l<|.lst a.dropLast)
theorem N7:Xh X "list.pop" XY:=by
 intro d s p H x t v w Q I g i h;obtain⟨l,A,y,rfl,rfl,f,j,q⟩:=h;cases g;have b:=i.zero;subst b;obtain⟨z,a,n,r,k,e⟩:=I.N6 f;refine e1a2 (r.get j) λu m o=>?_
 have c:a.toArray[a.toArray.size-1]?=some u:=by show a.toArray[a.length-1]?=some u;rw[<- gZ,<- k];exact m
 refine call_meets nX ⟨_,e,rfl⟩ F.entry_list_pop (F.args_list_pop_1 _) (MeetsSeq.list_pop_last l a.toArray n u c<|by rw[gv];omega) ⟨e,?_⟩;refine⟨y,_,I.VM (its':=a.dropLast) f e ?_ r.dropLast ?_,o,q⟩
 ·show a.toArray.eraseIdxIfInBounds (a.toArray.size-1)=a.dropLast.toArray;rw[gv,pS,Jd]
 ·rw[List.length_dropLast];omega
def N8:V->List V->Hp->VK->Prop:=λx b H Q=>∃l a i k y,x=.ref l/\b=[.int i]/\H l=some (.lst a)/\-(2 ^ 63)<=i/\i<2 ^ 63/\seqIndex? i a.length=some k/\a[k]?=some y/\Q y (upd H l<|.lst<|a.eraseIdx k)
theorem N9:Xh X "list.pop" N8:=by
 intro c s E H x G v J Q I f g h;obtain⟨l,j,i,k,y,rfl,rfl,d,m,o,p,A,q⟩:=h;cases f;obtain⟨u,rfl,B⟩:=g.one;obtain⟨t,rfl⟩:=B;obtain⟨z,a,n,r,C,e⟩:=I.N6 d;refine e1a2 (r.get A) λw D b=>?_
 refine call_meets nX ⟨_,e,rfl⟩ F.entry_list_pop (F.args_list_pop_2 _ _)
  (MeetsSeq.list_pop_at l a.toArray n i t k w (fitsIndex_both m o) (by rw[gv,<- C];exact p) (by rw[<- gZ];exact D)<|by rw[gv];lia) ⟨e,?_⟩
 refine⟨y,_,I.VM (its':=a.eraseIdx k) d e ?_ (r.eraseIdx k) ?_,b,q⟩
 ·show a.toArray.eraseIdxIfInBounds k=(a.eraseIdx k).toArray;rw[pS]
 ·have:=EF j k
  lia
def a0e:R2:=λx y H Q=>∃l b a c,x=.ref l/\y=.ref b/\H l=some (.lst a)/\H b=some (.lst c)/\a.length+c.length<=gf/\∀p,H p=none->Q (.ref p) (upd H p<|.lst<|a++c)
theorem VN:zW X (lF .Add) a0e:=by
 intro d s t H x y v u Q I f g h;obtain⟨l,b,w,A,rfl,rfl,i,j,B,q⟩:=h;cases f;cases g;obtain⟨z,c,n,r,C,e⟩:=I.N6 i;obtain⟨D,a,E,k,m,o⟩:=I.N6 j;refine PySem.P.add_list e o ?_ (by rw[gv,gv];lia);have p:c.toArray++a.toArray=(c++a).toArray:=by simp
 rw[p];exact⟨.ref _,_,I.a0d (t':=s.toks) (r.append k) (by rw[gw];lia),rfl,q _ I.fresh⟩
section
variable{κ:Type}[DecidableEq κ]
def xn(wv:List (κ×V))(k:κ):Option V:=(wv.find? λkv=>decide<|kv.1=k).map (·.2)
def putK(wv:List (κ×V))(k:κ)(v:V):List (κ×V) :=
 if (wv.any λkv=>decide<|kv.1=k)=true then wv.map (λkv=>if kv.1=k then (kv.1,v) else kv) else wv++[(k,v)]
def zd(a:List (κ×V))(k:κ):List (κ×V):=a.filter λb=>decide<|b.1≠k
theorem yg{p:κ×V}{r:List (κ×V)}(e:p.1=k):xn (p::r) k=some p.2:=by simp[xn,h8,e]
theorem yh{p:κ×V}{r:List (κ×V)}(e:¬p.1=k):xn (p::r) k=xn r k:=by simp[xn,h8,e]
theorem ze(k:κ):∀a:List (κ×V),(a.any λb=>decide<|b.1=k)=(xn a k).isSome
 | []=>rfl
 | p::r=>by
  rw[nj];by_cases e:p.1=k
  ·simp only[yg e,decide_eq_true e,Bool.true_or,Option.isSome_some]
  ·rw[yh e,gI e,Bool.false_or];exact ze k r
theorem zf(a:List (κ×V))(k:κ)(v:V):(putK a k v).length<=a.length+1:=by
 unfold putK;split
 ·rw[gh];lia
 ·rw[gw,gG,mn];lia
theorem Oa{a:List (κ×V)}(v:V)(h:xn a k=none):putK a k v=a++[(k,v)]:=by unfold putK;rw[ze,h];exact f8 q0q
theorem yu.xv(r:yu o u):o.isSome=u.isSome:=by
 cases o with
 | none=>cases u with
  | none=>rfl
  | some _=>exact(show False from r).elim
 | some _=>cases u with
  | none=>exact(show False from r).elim
  | some _=>rfl
theorem yu.getD(r:yu o u)(a:RelV d b):RelV (o.getD d) (u.getD b):=by
 cases o with
 | none=>cases u with
  | none=>exact a
  | some _=>exact(show False from r).elim
 | some _=>cases u with
  | none=>exact(show False from r).elim
  | some _=>exact r
theorem KV.val(r:KV a g)(k:κ):yu (xn a k) (pK g k):=by
 induction r with
 | nil=>exact True.intro
 | @cons p q l c h t i =>
  obtain⟨f,j⟩:=h;by_cases e:p.1=k
  ·have d:q.1=k:=f.symm.trans e;have b:pK (q::c) k=some q.2:=by simp[pK,h8,d]
   rw[yg e,b];exact j
  ·have d:¬q.1=k:=λz=>e<|f.trans z;have b:pK (q::c) k=pK c k:=by simp[pK,h8,d]
   rw[yh e,b];exact i
theorem KV.any(r:KV a c)(k:κ):(a.any λb=>decide<|b.1=k)=c.any λb=>decide (b.1=k):=by
 induction r with
 | nil=>rfl
 | cons h t d=>rw[nj,nj,d,h.1]
theorem KV.VO(r:KV c d)(k:κ)(f:RelV y u) :
  KV (c.map λa=>if a.1=k then (a.1,y) else a) (d.map λa=>if a.1=k then (a.1,u) else a):=by
 induction r with
 | nil=>exact .nil
 | @cons p q j l h t g =>
  rw[gK,gK];refine .cons ?_ g;obtain⟨b,i⟩:=h;by_cases e:p.1=k
  ·rw[f7 e,f7<|b.symm.trans e];exact⟨b,f⟩
  ·rw[f8 e,f8<|λz=>e<|b.trans z];exact⟨b,i⟩
theorem KV.put(r:KV a b)(k:κ)(c:RelV y u):KV (putK a k y) (stored b k u):=by
 unfold putK stored;rw[r.any k];by_cases e:(b.any λd=>decide<|d.1=k)=true
 ·rw[f7 e,f7 e];exact r.VO k c
 ·rw[f8 e,f8 e];exact Paired.snoc r ⟨rfl,c⟩
theorem KV.drop(r:KV c g)(k:κ):KV (zd c k) (without g k):=by
 unfold zd without
 induction r with
 | nil=>exact .nil
 | @cons p q l m h t f =>
  obtain⟨d,i⟩:=h;rw[iO,iO];by_cases e:p.1=k
  ·have a:¬decide (p.1≠k)=true:=by simp[e]
   have b:¬decide (q.1≠k)=true:=by simp[d.symm.trans e]
   rw[f8 a,f8 b];exact f
  ·have j:¬q.1=k:=λz=>e<|d.trans z;have a:decide (p.1≠k)=true:=by simp[e]
   have b:decide (q.1≠k)=true:=by simp[j]
   rw[f7 a,f7 b];exact .cons ⟨d,i⟩ f
theorem KV.length{wv:List (κ×V)}{vs:List (κ×ci)}(r:KV wv vs):wv.length=vs.length:=Paired.length r
theorem Hx(a:List (κ×V))(k:κ):(zd a k).length<=a.length:=gQ _ _
end
theorem z8(r:RelV (kV k) u):(uJ P w).is k u=true:=by
 cases k with
 | inl i=>obtain⟨t,e⟩:=(show ∃t,u=kK i t from r);subst e;exact He P w i t
 | inr x=>obtain⟨t,e⟩:=(show ∃t,u=Value.str x t from r);subst e;exact Hf P w x t
theorem Ms:∀{a:List Key} {c:List ci},Vals (a.map kV) c->ItemsAre (uJ P w) a c:=by
 intro d
 induction d with
 | nil=>intro _ r;rw[n6] at r;cases r;exact .nil
 | cons k a b =>
  intro _ r;rw[gK] at r
  cases r with
  | cons h t=>exact .cons (z8 h)<|b t
abbrev KT(H:Hp):List (List Key×V)->List (List Key×cr×ci)->Prop:=Paired λp q=>p.1=q.1/\H q.2.1=some (.tup<|p.1.map kV)/\RelV p.2 q.2.2
theorem KT.val(r:KT H a g)(k:List Key):yu (xn a k) ((rX g k).map (·.2)):=by
 induction r with
 | nil=>exact True.intro
 | @cons p q l c h t i =>
  refine e0a3 h λf _ j=>?_;by_cases e:p.1=k
  ·have d:q.1=k:=f.symm.trans e;have b:rX (q::c) k=some q.2:=by simp[rX,h8,d]
   rw[yg e,b];exact j
  ·have d:¬q.1=k:=λz=>e<|f.trans z;have b:rX (q::c) k=rX c k:=by simp[rX,h8,d]
   rw[yh e,b];exact i
theorem KT.VO(r:KT H b f)(k:List Key)(g:RelV y u) :
  KT H (b.map λc=>if c.1=k then (c.1,y) else c) (f.map<|putAt k u):=by
 induction r with
 | nil=>exact .nil
 | @cons p q l m h t i =>
  rw[gK,gK];refine .cons ?_ i;refine e0a3 h λa d j=>?_;unfold putAt;by_cases e:p.1=k
  ·rw[f7 e,f7<|a.symm.trans e];exact⟨a,d,g⟩
  ·rw[f8 e,f8<|λz=>e<|a.trans z];exact⟨a,d,j⟩
theorem KT.put(r:KT H a c)(k:List Key)(f:H b=some (.tup<|k.map kV))(d:RelV y u) :
  KT H (putK a k y) (storedH c k b u):=by
 have e:(a.any λg=>decide<|g.1=k)=(rX c k).isSome:=by rw[ze,(r.val k).xv,hV]
 unfold putK storedH;rw[e];by_cases q:(rX c k).isSome=true
 ·rw[f7 q,f7 q];exact r.VO k d
 ·rw[f8 q,f8 q];exact Paired.snoc r ⟨rfl,f,d⟩
theorem KT.keeps(r:KT H a d)(e:∀b c,H b=some (.tup c)->f b=some (.tup c)):KT f a d :=
 Paired.Vi r λ_ _ z=>⟨z.1,e _ _ z.2.1,z.2.2⟩
theorem UN(b:wU P w H h)(e:Rd H a u):vk P w H h a u:=e.ok b
theorem AF(d:wU P w H h)(e:Rd H a (.dK b)):b.length<=gf/\(a==j4)=false/\∃c,KV b c/\h.DictOf (uJ P w) a c :=
 show vk P w H h a (.dK b) from UN d e
theorem K6(d:wU P w H h)(e:H a=some (.dK b)):b.length<=gf/\(a==j4)=false/\∃c,KV b c/\h.DictOf (uJ P w) a c:=AF d<|.inl e
theorem Ao{b:List Key}(d:wU P w H h)(e:H a=some (.tup<|b.map kV)):(ou<|uJ P w).is h b a:=by obtain⟨_,c,r,o,f,g,n,i⟩:=(show vk P w H h a (.tup<|b.map kV) from d a _ e);exact⟨o,c.toArray,n,f,g,i,by simpa using Ms r⟩
theorem BZ(g:wU P w H h)(e:Rd H a (.dT b)):b.length<=gf/\(a==j4)=false /\
  ∃d,KT H b d/\h.DictOfH (ou<|uJ P w) a d:=by
 obtain⟨z,y,d,r,o,j,k,n,s,u,v,A⟩:=(show vk P w H h a (.dT b) from UN g e);refine⟨z,y,d,r,o,j,k,n,s,u,v,λx c=>?_,A⟩
 have f:∀{l:List (List Key×V)} {m:List (List Key×cr×ci)},KT H l m->∀x∈m,(ou<|uJ P w).is h x.1 x.2.1:=by
  intro l m q
  induction q with
  | nil=>intro x c;exact nomatch c
  | @cons p q C D i t B =>
   intro x c;rcases List.mem_cons.mp c with e|c
   ·subst e;exact Ao g (by rw[<- i.1];exact i.2.1)
   ·exact B x c
 exact f r x c
theorem XZ(d:wU P w H h)(e:H a=some (.dT b)):b.length<=gf/\(a==j4)=false /\
  ∃c,KT H b c/\h.DictOfH (ou<|uJ P w) a c:=BZ d<|.inl e
def w9(H:Hp)(a:cr)(y:V)(r:Option V):Prop :=
 (∃wv k,Rd H a (.dK wv)/\y=kV k/\r=xn wv k)\/∃wv k b,Rd H a (.dT wv)/\y=.ref b/\H b=some (.tup<|k.map kV)/\r=xn wv k
def Fp(H:Hp)(a:cr)(y v:V)(H':Hp):Prop :=
 (∃wv k,H a=some (.dK wv)/\y=kV k/\wv.length<gf/\H'=upd H a (.dK<|putK wv k v)) \/
 ∃wv k b,H a=some (.dT wv)/\y=.ref b/\H b=some (.tup<|k.map kV)/\wv.length<gf/\H'=upd H a (.dT<|putK wv k v)
theorem w9.k{H:Hp}{a:cr}{wv:List (Key×V)}{k:Key}(e:H a=some (.dK wv)):w9 H a (kV k) (xn wv k):=.inl ⟨wv,k,.inl e,rfl,rfl⟩
theorem Fp.k{H:Hp}{a:cr}{wv:List (Key×V)}{k:Key}{v:V}(e:H a=some (.dK wv))(hl:wv.length<gf):Fp H a (kV k) v (upd H a<|.dK<|putK wv k v):=.inl ⟨wv,k,e,rfl,hl,rfl⟩
theorem Inv.big(I:Inv X a b H s):j4<s.heap.objs.size:=by have h:gz<s.heap.objs.size:=(I.mod.glob.keeps I.bk).lt;exact mE q0q h
theorem EG(B:A.units+1<jQ)(I:Inv X i C H s)(g:w9 H a y (some v))(t:RelV y u)(h:∀f x,Inv X i C H x->RelV v f->Q f x) :
  gn (gp X.prog X.w) A (m6 (.ref a) u) Q E s:=by
 rcases g with⟨j,k,e,m,l⟩|⟨j,k,b,e,m,eb,l⟩
 ·subst m;obtain⟨z,D,F,c,n⟩:=AF I.uU e;obtain⟨f,q,d⟩:=yu.some_of (v:=v) (o:=pK F k) (by rw[l];exact c.val k);exact wpAny_getItem_of (z8 t) n.mapOf q<|h f _ (I.tok _) d
 ·subst m;cases (show u=gC b from t);obtain⟨z,D,G,c,n⟩:=BZ I.uU e;obtain⟨f,q,d⟩:=yu.some_of (v:=v) (o:=(rX G k).map (·.2)) (by rw[l];exact c.val k);refine e1a2 (Option.map_eq_some_iff.mp q) λp J r=>?_;refine wpAny_getItem_heap (kA B) (Ao I.uU eb) n J ?_;rw[r];exact h f _ (I.tok _) d
theorem a0f(r:A.units+1<jQ)(I:Inv X d t H s)(g:w9 H a y o)(n:RelV y u)(h:∀p,Inv X d t H p->Q (.bool o.isSome) p) :
  gn (gp X.prog X.w) A (iT .In u<|.ref a) Q E s:=by
 rcases g with⟨f,k,e,i,l⟩|⟨f,k,b,e,i,eb,l⟩
 ·subst i;obtain⟨z,j,v,c,m⟩:=AF I.uU e;refine wpAny_in_of (z8 n) j m.mapOf ?_;rw[<- (c.val k).xv,<- l];exact h _<|I.tok _
 ·subst i;cases (show u=gC b from n);obtain⟨z,j,x,c,m⟩:=BZ I.uU e;refine wpAny_in_heap (kA r) (Ao I.uU eb) j m ?_;have q:=(c.val k).xv;rw[hV] at q;rw[<- q,<- l];exact h _<|I.tok _
theorem RP(r:A.units+1<jQ)(I:Inv X d t H s)(g:w9 H a y o)(n:RelV y u)(h:∀p,Inv X d t H p->Q (.bool<|!o.isSome) p) :
  gn (gp X.prog X.w) A (iT .NotIn u<|.ref a) Q E s:=by
 rcases g with⟨f,k,e,i,l⟩|⟨f,k,b,e,i,eb,l⟩
 ·subst i;obtain⟨z,j,v,c,m⟩:=AF I.uU e;refine wpAny_notIn_of (z8 n) j m.mapOf ?_;rw[<- (c.val k).xv,<- l];exact h _<|I.tok _
 ·subst i;cases (show u=gC b from n);obtain⟨z,j,x,c,m⟩:=BZ I.uU e;refine wpAny_notIn_heap (kA r) (Ao I.uU eb) j m ?_;have q:=(c.val k).xv;rw[hV] at q;rw[<- q,<- l];exact h _<|I.tok _
theorem AG{h:Nat}(I:Inv X c i H s)(j:Xp (H a))(k:ij a s.heap d)(l:∃q,d.get? a=some q)(f:vk X.prog X.w (upd H a g) d a g) :
  Inv X c i (upd H a g) { s with heap:=d,toks:=h} :=
 I.write (x:=a) (e:=a) j (.inl rfl) (λb q m z=>(k.2 b m).trans z) l f
theorem CY{d:hR}{b:List (Key×V)}(z:b.length<=gf)(f:(a==j4)=false)(c:KV b e)(g:d.DictOf (uJ P w) a e) :
  vk P w h d a (.dK b):=⟨z,f,e,c,g⟩
theorem EH(M:A.units+1<jQ)(I:Inv X j N H s)(g:Fp H a y v O)(D:RelV y u)(F:RelV v r)(h:∀G,Inv X j N O G->Q () G) :
  gn (gp X.prog X.w) A (rE (.ref a) u r) Q E s:=by
 rcases g with⟨d,k,e,n,l,o⟩|⟨d,k,b,e,n,eb,l,o⟩
 ·subst n o;obtain⟨z,p,P,f,t⟩:=K6 I.uU e;have x:P.length<=gf:=by rw[<- f.length];exact z
  have B:(putK d k v).length<=gf:=by have:=zf d k v;lia
  refine wpAny_setItem_pairs (hsz:=x) (z8 D) t λJ i C=>h _ ?_;have R:∃q,J.get? a=some q:=e3a2 i λq _ _ m _=> ⟨q,m⟩;exact AG I (by rw[e];exact True.intro) C R<|CY B p (f.put k F) i
 ·subst n o;cases (show u=gC b from D);obtain⟨z,p,S,f,t⟩:=XZ I.uU e;have x:S.length<=gf:=by rw[<- Paired.length f];exact z
  have B:(putK d k v).length<=gf:=by have:=zf d k v;lia
  refine wpAny_setItem_heap (hsz:=x) (kA M) (Ao I.uU eb) t λJ i C=>h _ ?_;obtain⟨q,T,U,m,W,Y,Z,_,h5⟩:=i;refine AG I (by rw[e];exact True.intro) C ⟨q,m⟩ ⟨B,p,_,(f.put k eb F).keeps λc ys L=>?_,q,T,U,m,W,Y,Z,h5⟩;rw[ud<|Xo L e<|λz=>nomatch z];exact L
theorem Mt(I:Inv X d j H s)(e:H a=some (.dK b))(m:RelV (kV k) u)(l:(xn b k).isSome=true)(h:∀i,Inv X d j (upd H a<|.dK<|zd b k) i->Q () i) :
  gn (gp X.prog X.w) A (delItem (.ref a) u) Q E s:=by
 obtain⟨z,n,o,c,g⟩:=K6 I.uU e
 refine wpAny_delItem_slot g.typeIs q0q qm
  (m9 qm g.typeIs PySem.F.entry_dict_delitem (PySem.F.args_dict_delitem_2 _ _) (meets_dict_delitem_pairs (uJ X.prog X.w) a<|z8 m) ⟨o,g,by rw[<- c.length];exact z,by rw[<- (c.val k).xv];exact l,λp f r=>h _ ?_⟩)
 have t:∃q,p.get? a=some q:=e3a2 f λq _ _ v _=> ⟨q,v⟩;exact AG I (by rw[e];exact True.intro) r t<|CY (gO (Hx b k) z) n (c.drop k) f
theorem X0{b:List ci}(I:Inv X f C H s)(e:H a=some (.dK c))(m:RelV (kV k) u)(l:xn c k=some v)(p:b=[]\/∃x,b=[x])
 (h:∀g r,Inv X f C (upd H a<|.dK<|zd c k) r->RelV v g->Q g r):gn (gp X.prog X.w) A (call (.builtin "dict.pop") (.ref a::u::b)) Q E s:=by
  obtain⟨z,D,y,d,B⟩:=K6 I.uU e
  obtain⟨g,G,n⟩:=yu.some_of (v:=v) (o:=pK y k) (by rw[<- l];exact d.val k)
  have J:(keyPart u).isSome=true:=by
    cases k with
    | inl i=>obtain⟨t,q⟩:=(show ∃t,u=kK i t from m);subst q;rfl
    | inr x=>obtain⟨t,q⟩:=(show ∃t,u=Value.str x t from m);subst q;rfl
  have L:qN "dict.pop" ⟨.ref a::u::b,[]⟩:=by
    rcases p with q|⟨x,q⟩
    · subst q; exact PySem.F.args_dict_pop_2 _ _
    · subst q; exact PySem.F.args_dict_pop_3 _ _ _
  refine m9 qW B.typeIs PySem.F.entry_dict_pop L (meets_dict_pop_there (uJ X.prog X.w) a (z8 m) b p J)
    ⟨y,g,B,by rw[<- d.length];exact z,G,λM j N=>h g _ ?_ n⟩
  have O:∃q,M.get? a=some q:=e3a2 j λq _ _ P _=> ⟨q,P⟩
  exact AG I (by rw[e];exact True.intro) N O<|CY (gO (Hx c k) z) D (d.drop k) j
theorem X1(I:Inv X b g H s)(e:Rd H a (.dK d))(h:∀t f,Inv X b g H f->Q (.int d.length t) f):gn (gp X.prog X.w) A (call (.builtin "len") [.ref a]) Q E s:=by obtain⟨z,i,k,c,j⟩:=AF I.uU e;refine call_len_dict i j (by rw[<- c.length];rw[iu] at z;lia) ?_;rw[<- c.length];exact h _ _<|I.tok _
def Ob(i:hO):Prop:=∀a b,qV i false a b=operate [a,b] (m6 a b)
theorem RQ{m:String} 
 (n:mu (.type T) "__getitem__"=pure (some<|.builtin m)) (p:Ob slice)
 (h:gn (gp a w) A (eval value g) (λo d=>gn (gp a w) A (eval slice g) (λi b=>b.TypeIs o T/\gn (gp a w) A (m6 o i) Q E b) E d) E s) :
    gn (gp a w) A (eval (.Subscript value slice pos) g) Q E s:=by
  refine rW<|io h (λo d j=>io j (λi b c=>?_) λ_ _ x=>x) λ_ _ x=>x
  obtain⟨l,c⟩:=c
  refine am ?_
  rw[getitemInPython_of_ne l.not_modules]
  refine am<|o4 l n ?_
  have f:gn (gp a w) A (qV slice false o i) (λr e=>gn (gp a w) A (letTemporaryGo value o r >>= λ_=>pure r) Q E e) E b:=by
    rw[p o i]
    exact wpAny_operating<|io c (λr e k=>am<|wpAny_letTemporaryGo<|ap k) λ_ _ x=>x
  first
    | exact ap<|am f
    | exact am<|ap<|am f
    | exact am f
theorem Hy(I:Inv X f h H s)(g:w9 H a y o):s.TypeIs (.ref a) "dict":=by
 rcases g with⟨c,k,e,_,_⟩|⟨c,k,b,e,_,_,_⟩
 ·obtain⟨_,_,i,_,d⟩:=AF I.uU e;exact d.typeIs
 ·obtain⟨_,_,j,_,d⟩:=BZ I.uU e;exact d.typeIs
def X2(d e:TE):TE:=λb H Q=>d b H λx f=>e b f λy c=>∃a v,x=.ref a/\w9 c a y (some v)/\Q v c
def a0g(d e:TE):TE:=λb H Q=>d b H λy f=>e b f λx c=>∃a o,x=.ref a/\w9 c a y o/\Q (.bl o.isSome) c
def RS(d e:TE):TE:=λb H Q=>d b H λy f=>e b f λx c=>∃a o,x=.ref a/\w9 c a y o/\Q (.bl<|!o.isSome) c
def X3(d e f:TE):TS:=λD b H=>f b H λv g=>d b g λx h=>e b h λy i=>∃a c,x=.ref a/\Fp i a y v c/\D.nx b c
def X4(e f g:TE)(h:V->V->Hp->VK->Prop):TS:=λD b H=>e b H λx i=>f b i λy c=>∃a v,x=.ref a/\w9 c a y (some v) /\
 g b c λj k=>h v j k λz l=>∃d,Fp l a y z d/\D.nx b d
def Oc(e f:TE):TS:=λD c H=>e c H λx g=>f c g λy d=>∃a b k,x=.ref a/\d a=some (.dK b)/\y=kV k/\(xn b k).isSome=true/\D.nx c (upd d a<|.dK<|zd b k)
theorem Fq(k:X.A.units+1<jQ)(l:PE X o m)(n:PE X i ty)(p:Ob i):PE X (.Subscript o i pos) (X2 m ty):=by intro b s f H Q I h;refine RQ PySem.F.slot_dict_getitem.lookup p<|uR (l b s f H _ I h) λu q c=>e2a3 c λx H1 r t w=>uR (n b q f H1 _ r w) λE G c=>e2a3 c λy H2 j z d=>e2a3 d λa v B g C=>?_;subst B;obtain rfl:u=gC a:=t;exact⟨Hy j g,EG k j g z λJ L D e=>⟨v,H2,D,e,C⟩⟩
theorem Od(f:X.A.units+1<jQ)(j:PE X i ty)(k:PE X o l):PC X .In i o (a0g ty l):=by intro b s e H Q I h;refine uR (j b s e H _ I h) λC m c=>e2a3 c λy H1 n p q=>uR (k b m e H1 _ n q) λu D c=>e2a3 c λx H2 r t d=>e2a3 d λa v w g z=>?_;subst w;obtain rfl:u=gC a:=t;exact a0f f r g p λE B=>⟨.bl v.isSome,H2,B,rfl,z⟩
theorem Bq(f:X.A.units+1<jQ)(j:PE X i ty)(k:PE X o l):PC X .NotIn i o (RS ty l):=by intro b s e H Q I h;refine uR (j b s e H _ I h) λC m c=>e2a3 c λy H1 n p q=>uR (k b m e H1 _ n q) λu D c=>e2a3 c λx H2 r t d=>e2a3 d λa v w g z=>?_;subst w;obtain rfl:u=gC a:=t;exact RP f r g p λE B=>⟨.bl<|!v.isSome,H2,B,rfl,z⟩
theorem Ft(j:X.A.units+1<jQ)(k:PE X o l)(m:PE X i ty)(n:PE X value p)(q:jp value (some<|.Subscript o i c) pos.line X.env=pure false) :
  PS X (.Assign [.Subscript o i c] value pos) (X3 l ty p):=by
 intro b s e H D I h;refine wpAny_Assign_Subscript (uR (n b s e H _ I h) λr t d=>e2a3 d λv H1 w z B=>uR (k b t e H1 _ w B) λu C d=>e2a3 d λx H2 E F G=>uR (m b C e H2 _ E G) λP Q d=>e2a3 d λy H3 J L f=>e2a3 f λa H4 M g N=>?_) q;subst M;obtain rfl:u=gC a:=F;exact EH j J g L z λR O=>⟨e,H4,O,N⟩
theorem RT(p:X.A.units+1<jQ)(t:PE X o w)(B:PE X i ty)(C:PE X value E)(j:XJ X op F)
 (G:∀f d new,augStore i f d new=(do jW [new,f,d] (rE f d new);release [new,f,d] [];pure .next)):PS X (.AugAssign (.Subscript o i q) op value pos) (X4 w ty E F):=by
  intro b s e H D I h
  refine ro (uR (t b s e H _ I h) λu J c=>e2a3 c λx H1 L M N=>uR (B b J e H1 _ L N) λd s2 c=>e2a3 c λy H2 O r k=>e2a3 k λa v P g Q=>?_) G
  subst P
  obtain rfl:u=gC a:=M
  refine EG p O g r λR S T l=>uR (C b S e H2 _ T Q) λU W c=>e2a3 c λY H3 Z m q3=>uR (j b W e H3 v Y R U _ Z l m q3) λw3 s5 c=>e2a3 c λz H4 I5 rz n=>e1a2 n λH5 g5 q4=>?_
  exact EH p I5 g5 r rz λs6 I6=>⟨e,H5,I6,q4⟩
theorem Fv(j:PE X o m)(n:PE X i ty):PS X (.Delete [.Subscript o i g] pos) (Oc m ty):=by intro b s d H D I h;refine wpAny_Delete<|wpAny_deleteEach_cons<|wpAny_delete_Subscript<|uR (j b s d H _ I h) λu p f=>e2a3 f λx H1 q r t=>uR (n b p d H1 _ q t) λF G f=>e2a3 f λy H2 v w c=>e3a5 c λa z k A e B l C=>?_;subst A B;obtain rfl:u=gC a:=r;exact Mt v e w l λJ E=>wpAny_deleteEach_nil ⟨d,_,E,C⟩
theorem Hz(h:hR)(a:j4<h.objs.size):vk P w H (h.push { cls:=.type "dict",data:=.dict #[]}) h.objs.size (.dK []) :=
 ⟨im _,beq_eq_false_iff_ne.mpr<|Ne.symm<|gx a,[],.nil,rK h⟩
def CZ:TE:=λ_ H Q=>∀p,H p=none->Q (.ref p) (upd H p<|.dK [])
theorem AH:PE X (.Dict [] [] pos) CZ:=λb s c H Q I h =>
 wpAny_Dict_empty ⟨.ref s.heap.objs.size,_,I.laid (a:=s.heap.objs.size) (o:=.dK []) (t':=s.toks) (λ_ _ q=>ce _ q) (ga _)<|Hz s.heap I.big,rfl,h _<|I.uU.fresh<|ga _⟩
def Je:List (TE×TE)->St->Hp->(List (V×V)->Hp->Prop)->Prop
 | [],_,H,Q=>Q [] H
 | (tk,tv)::r,σ,H,Q=>tk σ H λx H1=>tv σ H1 λy H2=>Je r σ H2 λps H3=>Q ((x,y)::ps) H3
abbrev VV:List (V×V)->List (ci×ci)->Prop:=Paired λp q=>RelV p.1 q.1/\RelV p.2 q.2
def Zq(X:Cx)(d:Pos)(c:List (Option hO))(a:List hO)(e:List (TE×TE)):Prop :=
 ∀(b:List (cr×Obj)) (s:gk) (f:St) (H:Hp) (Q:List (V×V)->Hp->Prop),Inv X b f H s->Je e f H Q ->
  gn (gp X.prog X.w) X.A (evalPairs<|pairTrees c a X.env d) (λi j=>∃g h,Inv X b f h j/\VV g i/\Q g h) X.xe s
theorem RU:Zq X pos [] [] []:=λa s b H Q I h=>pairTrees_nil_walk ⟨[],H,I,.nil,h⟩
theorem Oe(e:PE X k f)(g:PE X v i)(j:Zq X pos l m c) :
  Zq X pos (some k::l) (v::m) ((f,i)::c):=λa s d H Q I h =>
 pairTrees_cons_walk (uR (e a s d H _ I h) λu n b=>e2a3 b λx H1 o p q=>uR (g a n d H1 _ o q) λD r b=>e2a3 b λy H2 t w z =>
  uR (j a r d H2 _ t z) λE F b=>e2a3 b λA H3 B rel C=>⟨(x,y)::A,H3,B,.cons ⟨p,w⟩ rel,C⟩)
def C0(b a:List (Key×V)):List (Key×V):=a.foldl (λc d=>putK c d.1 d.2) b
theorem KV.merge:∀{a:List (Key×V)} {d:List (Key×ci)} {b:List (Key×V)} {c:List (Key×ci)},KV a d->KV b c->KV (C0 b a) (merged c d):=by
 intro a d b c r
 induction r generalizing b c with
 | nil=>intro q;exact q
 | @cons p q i j h t f =>
  intro g
  have e:KV (putK b p.1 p.2) (stored c q.1 q.2):=by have:=g.put p.1 h.2;rw[<- h.1];exact this
  exact f e
theorem Aa:∀(b a:List (Key×V)),(C0 a b).length<=a.length+b.length
 | [],a=>by show a.length<=a.length+0;lia
 | p::r,a=>by have c:=Aa r<|putK a p.1 p.2;have d:=zf a p.1 p.2;show (C0 (putK a p.1 p.2) r).length<=_;rw[gG];lia
theorem Jf:∀{d:List (Key×V)} {g:List (ci×ci)},VV (d.map λi=>(kV i.1,i.2)) g->∃e,Carries (uJ P w) g e/\KV d e:=by
 intro j
 induction j with
 | nil=>intro _ r;rw[n6] at r;cases r;exact⟨[],True.intro,.nil⟩
 | cons p d f =>
  intro _ r;rw[gK] at r
  cases r with
  | @cons a b as bs h t =>
   refine e1a2 (f t) λe c q=>?_;obtain⟨l,k⟩:=b;exact⟨(p.1,k)::e,⟨z8 h.1,rfl,c⟩,.cons ⟨rfl,h.2⟩ q⟩
def X5(b:List (TE×TE)):TE:=λe H Q=>∀p,H p=none->Je b e (upd H p<|.dK []) λf c=>c p=some (.dK [])/\∃a:List (Key×V),f=a.map (λd=>(kV d.1,d.2))/\a.length<=15/\Q (.ref p) (upd c p<|.dK<|C0 [] a)
theorem RV(h:Zq X pos keys values i)(b:keys.all (·.isSome)=true)(n:keys.length=values.length)(p:keys≠[])
 (j:keys.length<=15):PE X (.Dict keys values pos) (X5 i):=by
  intro d s r H Q I q
  have t:=I.uU.fresh<|ga s.heap.objs.size
  have u:=I.laid (a:=s.heap.objs.size) (o:=.dK []) (h':=s.heap.push { cls:=.type "dict",data:=.dict #[]}) (t':=s.toks) (λ_ _ q=>ce _ q) (ga _)<|Hz s.heap I.big
  refine wpAny_Dict_walk (knd:=uJ X.prog X.w) b n p j<|uR (h d _ r _ _ u<|q _ t) λR S v=>e2a4 v λT U m k e l=>e1a3 l λf x lk y=>?_
  subst x
  refine e1a2 (Jf (P:=X.prog) (w:=X.w) k) λA c B=>?_
  obtain⟨z,C,D,E,F⟩:=K6 m.uU e
  cases E
  refine⟨A,c,F,λG g J=>⟨.ref s.heap.objs.size,_,?_,rfl,y⟩⟩
  have L:(C0 [] f).length<=gf:=by
    have M:=Aa f []
    rw[mn] at M
    rw[iu];lia
  have N:∃q,G.get? s.heap.objs.size=some q:=e3a2 g λq _ _ O _=> ⟨q,O⟩
  exact AG m (by rw[e];exact True.intro) J N<|CY L C (B.merge .nil) g
structure M1(X:Cx)(o:hO)(m:Str)(apos:Pos)(e:hO)(cpos:Pos):Prop where
 base:gY o m X.env (eval o X.env)=eval o X.env
 Zr:((iJ cpos (f9 [e] X.env)).all (λx=>!x.1)&&(l6 cpos (jX [] X.env)).all (λx=>x.1.isSome)
  && decide (([e]:List hO).length+([]:List oU).length+(if ([]:List oU).isEmpty then 0 else 1)<30))=true
 line:(apos.endLine==cpos.line)=true
 trees:iJ cpos (f9 [e] X.env)=[(false,eval e X.env)]
structure M2(X:Cx)(o:hO)(m:Str)(apos:Pos)(e f:hO)(cpos:Pos):Prop where
 base:gY o m X.env (eval o X.env)=eval o X.env
 Zr:((iJ cpos (f9 [e,f] X.env)).all (λx=>!x.1)&&(l6 cpos (jX [] X.env)).all (λx=>x.1.isSome)
  && decide (([e,f]:List hO).length+([]:List oU).length+(if ([]:List oU).isEmpty then 0 else 1)<30))=true
 line:(apos.endLine==cpos.line)=true
 trees:iJ cpos (f9 [e,f] X.env)=[(false,eval e X.env),(false,eval f X.env)]
def Zs(H:Hp)(a:cr):Prop:=(∃b,Rd H a<|.dK b)\/∃b,Rd H a<|.dT b
theorem Jg(I:Inv X k l H s)(d:Zs H a) :
  s.TypeIs (.ref a) "dict"/\(∀b,gC a=.ref b->∃c,s.heap.get? b=some c/\c.dict=none)/\(a==j4)=false:=by
 rcases d with⟨g,e⟩|⟨g,e⟩
 ·obtain⟨_,h,m,_,f⟩:=AF I.uU e;refine⟨f.typeIs,λb q=>?_,h⟩;cases q;obtain⟨c,_,_,i,j,_⟩:=f;exact⟨c,i,j.2.1⟩
 ·obtain⟨_,h,n,_,f⟩:=BZ I.uU e;refine⟨f.typeIs,λb q=>?_,h⟩;cases q;obtain⟨c,_,_,i,j,_⟩:=f;exact⟨c,i,j.2.1⟩
theorem VP(r:A.units+1<jQ)(I:Inv X d t H s)(g:w9 H a y o)(n:RelV y u)(h:∀p q,Inv X d t H q->RelV (o.getD .vK) p->Q p q) :
  gn (gp X.prog X.w) A (call (.builtin "dict.get") [.ref a,u]) Q E s:=by
 rcases g with⟨i,k,e,j,l⟩|⟨i,k,b,e,j,eb,l⟩
 ·subst j;obtain⟨z,m,x,c,f⟩:=AF I.uU e;refine m9 jE f.typeIs lx (qG _ _) (meets_dict_get (uJ X.prog X.w) a (z8 n) m) ⟨_,f.mapOf,h _ _ (I.tok _) ?_⟩;rw[l];exact(c.val k).getD rfl
 ·subst j;cases (show u=gC b from n);obtain⟨z,m,v,c,f⟩:=BZ I.uU e;refine m9 jE f.typeIs lx (qG _ _) (meetsH_dict_get (ou<|uJ X.prog X.w) a b m) ⟨kA r,k,v,Ao I.uU eb,f,h _ _ (I.tok _) ?_⟩;rw[l];exact(c.val k).getD rfl
theorem VQ(x:A.units+1<jQ)(I:Inv X f B H s)(g:w9 H a y o)(p:RelV y u)(q:RelV d r)(h:∀t v,Inv X f B H v->RelV (o.getD d) t->Q t v) :
  gn (gp X.prog X.w) A (call (.builtin "dict.get") [.ref a,u,r]) Q E s:=by
 rcases g with⟨j,k,e,m,l⟩|⟨j,k,b,e,m,eb,l⟩
 ·subst m;obtain⟨z,n,D,c,i⟩:=AF I.uU e;refine m9 jE i.typeIs lx (qH _ _ _) (meets_dict_get_default (uJ X.prog X.w) a (z8 p) n r) ⟨_,i.mapOf,h _ _ (I.tok _) ?_⟩;rw[l];exact(c.val k).getD q
 ·subst m;cases (show u=gC b from p);obtain⟨z,n,C,c,i⟩:=BZ I.uU e;refine m9 jE i.typeIs lx (qH _ _ _) (meetsH_dict_get_default (ou<|uJ X.prog X.w) a b n r) ⟨kA x,k,C,Ao I.uU eb,i,h _ _ (I.tok _) ?_⟩;rw[l];exact(c.val k).getD q
def VR(e f:TE):TE:=λb H Q=>e b H λx c=>∃a,x=.ref a/\Zs c a/\f b c λy d=>∃o,w9 d a y o/\Q (o.getD .vK) d
def VS(e f g:TE):TE:=λb H Q=>e b H λx c=>∃a,x=.ref a/\Zs c a/\f b c λy h=>g b h λz d=>∃o,w9 d a y o/\Q (o.getD z) d
def VT(f g:TE):TE:=λc H Q=>f c H λx d=>∃a,x=.ref a/\Zs d a/\g c d λy e=>∃b k v,e a=some (.dK b)/\y=kV k/\xn b k=some v/\Q v (upd e a<|.dK<|zd b k)
theorem Of(p:X.A.units+1<jQ)(q:PE X o r)(t:PE X e ty)(m:M1 X o "get" apos e c):PE X (.Call (.Attribute o "get" apos) [e] [] c) (VR r ty):=by intro b s l H Q I h;refine qv m.base m.Zr m.line nc jE qX<|uR (q b s l H _ I h) λu v f=>e2a3 f λx H1 n w i=>e1a3 i λa z d B=>?_;subst z;obtain rfl:u=gC a:=w;refine e0a3 (Jg n d) λC D _=>?_;refine⟨C,D,?_⟩;rw[m.trees];refine jz rfl<|iV<|jq<|uR (t b v l H1 _ n B) λM N f=>e2a3 f λy H2 E G j=>e1a2 j λO g J=>kj ?_;exact VP p E g G λP R L k=>⟨_,H2,L,k,J⟩
theorem Og(q:X.A.units+1<jQ)(r:PE X o t)(v:PE X e ty)(w:PE X f B)(m:M2 X o "get" apos e f c):PE X (.Call (.Attribute o "get" apos) [e,f] [] c) (VS t ty B):=by
 intro b s j H Q I h;refine qv m.base m.Zr m.line nc jE qX<|uR (r b s j H _ I h) λu C i=>e2a3 i λx H1 p D k=>e1a3 k λa E d G=>?_;subst E;obtain rfl:u=gC a:=D;refine e0a3 (Jg p d) λJ L _=>?_;refine⟨J,L,?_⟩;rw[m.trees]
 refine jz rfl (iV (jq (uR (v b C j H1 _ p G) λW M i=>e2a3 i λy H2 N O P =>
  jq (uR (w b M j H2 _ N P) λY Z i=>e2a3 i λz H3 R S l=>e1a2 l λov g T=>kj ?_))))
 exact VQ q R g O S λw' s4 U n=>⟨_,H3,U,n,T⟩
theorem Oh(q:PE X o r)(t:PE X e ty)(m:M1 X o "pop" apos e c):PE X (.Call (.Attribute o "pop" apos) [e] [] c) (VT r ty):=by intro b s n H Q I h;refine qv m.base m.Zr m.line nc qW PySem.F.type_dict_pop<|uR (q b s n H _ I h) λu w g=>e2a3 g λx H1 p z i=>e1a3 i λa A d B=>?_;subst A;obtain rfl:u=gC a:=z;refine e0a3 (Jg p d) λC D _=>?_;refine⟨C,D,?_⟩;rw[m.trees];refine jz rfl<|iV<|jq<|uR (t b w n H1 _ p B) λP R g=>e2a3 g λy H2 E G f=>e3a4 f λJ k v L M l N=>kj ?_;subst M;exact X0 E L G l (.inl rfl) λS T O j=>⟨v,_,O,j,N⟩
end L2
namespace Att
open PySem PySem.W PySem.Calls PyProof.Rows
theorem Cg:∀(c:List Int)(d:List ci),WellAll P h d (c.map WData.int)->kd d c:=by
 intro c
 induction c with
 | nil =>
  intro d w;rw[n6] at w;cases w;exact .nil
 | cons n c e =>
  intro d w;rw[gK] at w
  cases w with
  | cons a b =>
   cases a;exact .cons _ _<|e _ b
theorem Mu{l:pU}{n:Nat}(o:l.most=some n) 
 (b:l.row.toRowW.claim.pre args=true) (j:WellAll P h vals args) :
    ∃a m c,vals=[gC a]/\args=[WData.list<|c.map WData.int]/\h.get? a=some { cls:=.type "list",data:=.seq m.toArray}/\kd m c/\c.length<=n:=by
  have k:WShape.hasAll [] args [.list .int]=true:=(pre_splitW b).1
  have p:l.pre.holds [] { args:=args}=true:=(pre_splitW b).2
  obtain⟨d,r,rfl,s,t⟩:=hasAllW_cons k
  obtain rfl:=hasAllW_nil t
  obtain⟨y,rfl,u⟩:=hasW_list s
  obtain⟨c,rfl⟩:=items_int u
  have e:c.length<=n:=by
    have g:(WTm.not<|.lt (.lit<|.int (n:Int))<|.len<|.arg 0).holds [] { args:=[.list<|c.map .int]}=true:=by
      have g:=(holds_andW p).1
      rw[o] at g
      exact g
    have i:=condW_of g<|w_not<|w_lt w_lit<|w_len_list<|w_arg rfl
    rw[gh] at i
    refine qe λq=>?_
    first
      | (rw[decide_eq_true z] at i;exact gy i q0q)
      | (simp at i;omega)
  cases j with
  | cons v w =>
    cases w
    cases v with
    | list x f=>exact⟨_,_,c,rfl,rfl,x,Cg c _ f,e⟩
theorem Mv(l:pU)(args:List WData):l.row.toRowW.claim.post args (.bool true) args=true :=
 postW_of (r:=l.row.toRowW) (X:=(true==true))
  (show WShape.has [] (.bool true) .bool=true by first|rfl|decide|simp[WShape.has,WShape.arms,WShape.armsAll])
  (show (WTm.eq .res<|.lit<|.bool true).value [] { args:=args,res:=some<|.bool true,after:=args}=some (.bool<|true==true) from w_eq_bool (w_res rfl) w_lit) rfl
theorem HA{l:pU}{n:Nat}{d:DefRec}
 (E:l.most=some n) (x:d.params.defaults=[])
 (call:∀(w:ic)(c b:gk)(s y:Str->Option ci)(j:cr)(o:Obj)(pm t e:ci)(a:cr)(i:List ci)(u:List Int),
 Ground q g [] F w c s y b.heap->H w b.heap ->
 b.heap.get? j=some o->o.data=.func (docDef d.name d.params d.body d.scope pm t e)->b.heap.CodeRec t d.name->s d.name=some (.ref j) ->
 b.heap.get? a=some { cls:=.type "list",data:=.seq i.toArray}->kd i u->u.length<=n->b.gens=#[] ->
 lJ (gp l.prog w) qw (.call (.ref j) ⟨[.ref a],[]⟩) (λr v=>r=.ok (.ret (.bool true))/\OldK b.heap v.heap/\v.os=b.os/\mz v.gens) b) :
    tY q g F H l.row.toRowW d [] (λf i=>sK f i):=by
  intro w c b s y G Y j o pm t e I kV J hd z C A L args vals as k D M B N
  obtain rfl:I=.none:=Dflts.none C x
  obtain rfl:kV=.none:=Dflts.noKw C
  obtain⟨a,i,u,rfl,rfl,m,h,p⟩:=Mu E k B
  refine enter_call<|jl (call w c b s y j o pm t e a i u G Y J (fd_plain hd) z A m h p L) λr v O=>?_
  obtain⟨rfl,P,Q,R⟩:=O
  exact⟨.inl ⟨.bool true,.bool true,[],rfl,λ_=>rfl,.bool true,Mv l _,λ_=>⟨gR,λ_ S=>(nomatch S)⟩⟩,P,Q,R⟩
end Att
namespace L2
open PySem PySem.Spec PyProof.Rows
theorem EI:∀{a:List ci} {b:List Int},kd a b->Vals (b.map V.int) a:=by
 intro _ _ z
 induction z with
 | nil=>exact .nil
 | cons n t h c=>exact .cons ⟨t,rfl⟩ c
def vh(s:gP):Arguments:=match s with
 | .FunctionDef _ a _ _ _ _ _ _ _ _=>a
 | _=>{ posonlyargs:=[],args:=[],vararg:=none,kwonlyargs:=[],kw_defaults:=[],kwarg:=none,defaults:=[]}
def uK(s:gP):List gP:=match s with
 | .FunctionDef _ _ b _ _ _ _ _ _ _=>b
 | _=>[]
def ue(s:gP):kZ:=match s with
 | .FunctionDef _ _ _ _ _ _ sc _ _ _=>sc
 | _=>{ kind:=.function,names:=[],isGenerator:=false,isCoroutine:=false}
abbrev Oi:NU:=λ_ _ _ _ _ _=>False
abbrev E0:XK:=λ_ _ _=>False
structure ye(K:fZ)(x qual:Str)(st:gP)(f:cr)(fd:g9):Prop where
 ex:∃(oc:ci)(od:Option cr)(kV doc pm:ci)(an:Option cr)(RX ct:ci) (Mw:Array (Option ci)),
  fd=iX x qual (vh st) (uK st) (ue st) .none kV doc pm an RX ct/\K.lookup f=some ⟨oc,od,.func fd,Mw⟩/\iN K RX qual=true
 kp:iC K (.ref f)=true
section
variable{P:gS}{w:ic}{K:fZ}{mg:Str->Option ci}{base:hR}
theorem ye.ok{g:gP}{k:Nat}(F:ye K x c g f o)(S:um N m (ue g))(i:∀d H Q E,n d H Q E->d.length=m.length)
 (e:∀(b:ci)(A:iR)(a:List Env)(s:gk)(H:Hp)(d:List V)(Q:VK)(E:XK),vD k (A.deeper (nO c (ue g) s.heap.objs.size f b))->n d H Q E ->
 ∃t,Ed (uY Oi P w K mg base N c (ue g) f b A a s H E).Zl (uK g) t/\t { nx:=λ_ p=>Q .vK p,rt:=Q} (start N d) H):uL P w K mg base Oi (k+1) f o m n:=by
  obtain⟨y,z,B,r,C,D,b,G,u,rfl,lk,j⟩:=F.ex
  refine Hv lk j S i λA a s H d Q E v l=>?_
  refine e1a2 (e b A a s H d Q E v l) λt h q=>?_
  exact⟨t,h.Zl,q⟩
theorem ye.binds{d:gP}{ps:List Str}(F:ye K x c d f l)
 (h:∀(e a g:ci)(i:Option cr)(b j:ci)(k:List ci),k.length=ps.length->rS (iX x c (vh d) (uK d) (ue d) .none e a g i b j) ⟨k,[]⟩=pure (ps.zip k)):Binds K l ps []:=by
  obtain⟨o,p,e,a,g,i,b,j,m,rfl,lk,n⟩:=F.ex
  exact .all<|h e a g i b j
theorem C3{st:gP}{e:ci}(l:K.lookup f=some ⟨j,m,.func<|iX x a (vh st) (uK st) (ue st) .none e d pm h b i,g⟩)
 (c:iN K b a=true)(k:iC K (.ref f)=true):ye K x a st f (iX x a (vh st) (uK st) (ue st) .none e d pm h b i):=⟨⟨j,m,e,d,pm,h,b,i,g,rfl,l,c⟩,k⟩
end
theorem My{n:Nat}(h:n<=1000):n<gf:=iY h q0q
theorem pv(i:Nat)(b:X.N[i]?=some x:=by rfl)(c:ZI X.env.scope x:=by first|exact nI rfl|exact tU (nI rfl)|exact tU<|tU rfl)(d:(x==("__debug__":Str))=false:=by decide)
 (a:(x==("__classdict__":Str))=false:=by decide):PE X (.Name x pos) (uN i):=II b c d a
theorem Mz:xQ X (.builtin "len") (λc H Q=>∃a b,c=[V.ref a]/\H a=some (.dK b)/\Q (.int b.length) H):=by intro d s i H c j Q I r h;obtain⟨a,b,rfl,e,q⟩:=h;obtain⟨u,rfl,f⟩:=vals1 r;cases f;exact X1 I (.inl e) λt k g=>⟨.int b.length,H,g,⟨t,rfl⟩,q⟩
theorem a0h{A B:Prop}(h:A):if true=true then A else B:=by rw[f7 rfl];exact h
theorem RY{c A B:Prop}[Decidable c](a:c->A)(b:¬c->B):if c then A else B:=by
 by_cases h:c
 ·rw[f7 h];exact a h
 ·rw[f8 h];exact b h
def Ci(H a:Hp):Prop:=∀b o,H b=some o->a b=some o
theorem Ci.trans{d e:Hp}(a:Ci H d)(b:Ci d e):Ci H e:=λc o h=>b c o<|a c o h
theorem Ci.free(e:Ci H a)(h:a l=Option.none):H l=Option.none:=by
 cases q:H l with
 | none=>rfl
 | some o =>
  rw[e l o q] at h;cases h
theorem Ci.seq{K:fZ}(e:Ci H b)(h:vA K H a c):vA K b a c:=by
 rcases h with(h|⟨o,h⟩)|h
 ·exact .inl<|.inl<|e _ _ h
 ·exact .inl<|.inr ⟨o,e _ _ h⟩
 ·exact .inr h
end L2
namespace SX
open PySem
def yV(a:Array Nat):Prop:=a.toList.Pairwise (· < ·)
theorem Cu(r:yV c){i j a b:Nat}(d:c.toList[i]?=some a)(e:c.toList[j]?=some b)(h:i<j):a<b:=by obtain⟨f,g⟩:=List.getElem?_eq_some_iff.mp d;obtain⟨k,l⟩:=List.getElem?_eq_some_iff.mp e;have:=List.pairwise_iff_getElem.mp r i j f k h;rw[g,l] at this;exact this
theorem RZ(f:Array Nat)(j:Nat)(r:yV f):∀(b d c:Nat),d<=c->c<=f.size->c-d<=b ->
  (∀i a,i<d->f.toList[i]?=some a->a<j)->(∀i a,c<=i->f.toList[i]?=some a->j<=a) ->
  l8 f j b d c<=f.size/\(∀i a,i<l8 f j b d c->f.toList[i]?=some a->a<j) /\
   (∀i a,l8 f j b d c<=i->f.toList[i]?=some a->j<=a):=by
 intro b
 induction b with
 | zero =>
  intro d c t k u l m;have e:d=c:=by omega
  subst e;exact⟨k,l,m⟩
 | succ b s =>
  intro d c t k u l m;unfold l8;by_cases h:d<c
  ·rw[f7 h];have n:(d+c) / 2<f.size:=by omega
   have g:f.toList[(d+c) / 2]?=some (f.getD ((d+c) / 2) j):=by rw[gZ,ko];rw[iL n];rfl
   by_cases o:f.getD ((d+c) / 2) j<j
   ·rw[f7 o];refine s _ _ q0d k q0d (λi a p e=>?_) m;by_cases q:i=(d+c) / 2
    ·subst q;rw[g] at e;cases e;exact o
    ·have:=Cu r e g q0d;omega
   ·rw[f8 o];refine s _ _ q0d q0d q0d l<|λi a p e=>?_;by_cases q:i=(d+c) / 2
    ·subst q;rw[g] at e;cases e;omega
    ·have:=Cu r g e q0d;omega
  ·rw[f8 h];have e:d=c:=by omega
   subst e;exact⟨k,l,m⟩
theorem yA(r:yV b)(j:Nat):gA b j<=b.size/\(∀i a,i<gA b j->b.toList[i]?=some a->a<j) /\
  (∀i a,gA b j<=i->b.toList[i]?=some a->j<=a):=by
 refine RZ b j r b.size 0 b.size (im _) (ga _) q0a (λi a h=>by lia)<|λi a h e=>?_;have:=(List.getElem?_eq_some_iff.mp e).1;rw[gm] at this
 lia
theorem below_at(r:yV b){i j:Nat}(h:b.toList[i]?=some j):gA b j=i:=by
 obtain⟨f,c,d⟩:=yA r j;rcases tV (gA b j) i with q|q|q
 ·cases e:b.toList[gA b j]? with
  | none =>
   have:=List.getElem?_eq_none_iff.mp e;have:=(List.getElem?_eq_some_iff.mp h).1
   lia
  | some a =>
   have:=Cu r e h q;have:=d _ a (ga _) e
   lia
 ·exact q
 ·have:=c i j q h
  lia
theorem Jh(r:yV b){i j:Nat}(h:b.toList[i]?=some j):gA b (j+1)=i+1:=by
 obtain⟨f,c,d⟩:=yA r<|j+1;rcases tV (gA b<|j+1) (i+1) with q|q|q
 ·have:=d i j q0a h
  lia
 ·exact q
 ·cases e:b.toList[i+1]? with
  | none =>
   have:=List.getElem?_eq_none_iff.mp e;rw[gm] at this
   lia
  | some a =>
   have:=Cu r h e q0a;have:=c (i+1) a q e
   lia
theorem Ji(r:yV b):gA b 0=0:=by
 obtain⟨f,d,g⟩:=yA r 0
 cases e:gA b 0 with
 | zero=>rfl
 | succ k =>
  cases c:b.toList[0]? with
  | none =>
   have:=List.getElem?_eq_none_iff.mp c;rw[gm] at this
   lia
  | some a =>
   have:=d 0 a q0a c
   lia
theorem toList_erase(a:Array b)(p:Nat):(ik a p).toList=a.toList.take p++a.toList.drop (p+1):=by unfold ik;rw[oV,l9,l9];simp[iM]
theorem C4(a:Array b)(p:Nat)(x:b):(iB a p x).toList=a.toList.take p++x::a.toList.drop p:=by unfold iB;rw[oV,pB,l9,l9];simp[iM]
theorem Jj(r:yV a)(p:Nat):yV (ik a p):=by
 unfold yV;rw[toList_erase];refine List.Pairwise.sublist ?_ r
 conv=>rhs;rw[<- rY p a.toList]
 exact List.Sublist.append (List.Sublist.refl _)<|List.drop_sublist_drop_left _<|kN p
theorem Oj(r:yV c){j:Nat}(f:j∉c.toList):yV (iB c (gA c j) j):=by
 obtain⟨t,g,h⟩:=yA r j;unfold yV;rw[C4];have k:(c.toList.take (gA c j)++c.toList.drop (gA c j)).Pairwise (· < ·):=by rw[rY];exact r
 obtain⟨l,m,n⟩:=List.pairwise_append.mp k
 have o:∀a∈c.toList.take (gA c j),a<j:=λa d=>by
  obtain⟨i,e⟩:=kI d;rw[sS] at e;split at e
  ·exact g i a (by assumption) e
  ·cases e
 have p:∀a∈c.toList.drop (gA c j),j<a:=λa d=>by
  obtain⟨i,e⟩:=kI d;rw[sT] at e;have:=h _ a (nQ _ i) e;have:j≠a:=λq=>f (by rw[q];exact List.mem_of_mem_drop d)
  lia
 refine List.pairwise_append.mpr ⟨l,List.pairwise_cons.mpr ⟨p,m⟩,λa d b s=>?_⟩;rcases List.mem_cons.mp s with q|q
 ·rw[q];exact o a d
 ·exact n a d b q
theorem MA{t:ja}(r:yV t.place){j:Nat}(h:∀i,t.slot j≠.live i):j∉t.place.toList:=λa=>by obtain⟨i,e⟩:=kI a;have b:=below_at r e;refine h (gA t.place j) ?_;unfold qo;rw[f7];rw[b,<- gZ,e];simp
theorem Jk{t:ja}{h:Int}:∀(b:Nat)(p:kq),(∀d,p.dummy=some d->∀i,t.slot d≠.live i) ->
  ∀j c,jb t o h b p=some (.empty j c)->∀i,t.slot (c.getD j)≠.live i:=by
 intro b
 induction b with
 | zero=>intro p _ j c e;cases e
 | succ b f =>
  intro p g j c e;unfold jb at e
  cases q:t.slot p.j with
  | empty =>
   rw[q] at e;injection e with e;injection e with l m;subst l m
   cases n:p.dummy with
   | none=>intro i z;rw[pJ,q] at z;cases z
   | some d=>exact g d n
  | dummy =>
   rw[q] at e;refine f _ (λd a i z=>?_) j c e
   have:d=p.j:=by
    unfold kF at a;split at a
    ·injection a with a;exact a.symm
    ·injection a with a;exact a.symm
   rw[this,q] at z;cases z
  | live k =>
   rw[q] at e;dsimp only at e;split at e
   ·cases e
   ·refine f _ (λd a=>?_) j c e
    have:p.dummy=some d:=by unfold kF at a;split at a<;>exact a
    exact g d this
set_option tactic.hygienic true in
theorem HB{t:ja}{h:Int}{j:Nat}{b:Bool}(r:yV t.place)(e:t.freeSlot h=some (j,b)):j∉t.place.toList:=by
 refine MA r ?_;unfold o5 pY at e;split at e
 ·rename_i a c f
  injection e with e;injection e with g i;subst g;exact Jk _ _ (λd q=>by cases q) a c f
 ·cases e
theorem Br{c k l:Nat}{d i:Bool}(e:mM c k l d i m=some (t,n)) :
  yV t.place/\t.led=d/\t.plain=i/\t.mask=c/\t.dummies=#[]/\t.place.size=n.size:=by
 unfold mM at e
 cases q:o6 c m with
 | none=>rw[q] at e;cases e
 | some j =>
  rw[q] at e;injection e with e;injection e with o p;subst o p;refine⟨?_,rfl,rfl,rfl,rfl,q0o⟩;unfold yV;rw[sU];rw[List.pairwise_filterMap];refine oj ?_ rL;intro a b f x r y s
  have g:x=a:=by revert r;cases (j.getD a none)<;>simp;intro z;exact z.symm
  have h:y=b:=by revert s;cases (j.getD b none)<;>simp;intro z;exact z.symm
  subst g h;exact f
def Nz(m i:Nat):Nat:=(i*5+1)%(m+1)
def Ol(m:Nat):Nat->Nat->Nat
 | 0,i=>i
 | n+1,i=>Ol m n<|Nz m i
def orb(m:Nat):Nat->Nat->List Nat
 | 0,_=>[]
 | n+1,i=>i::orb m n (Nz m i)
theorem Fw(m a b i:Nat):Ol m (a+b) i=Ol m b (Ol m a i):=by
 induction a generalizing i with
 | zero=>rw[rZ];rfl
 | succ a c=>rw[Nat.succ_add];exact c _
theorem R6(m:Nat):∀(n i k:Nat),k∈orb m n i->∃a,a<n/\Ol m a i=k:=by
 intro n
 induction n with
 | zero=>intro i k h;cases h
 | succ n b =>
  intro i k h;rcases List.mem_cons.mp h with q|q
  ·exact⟨0,q0a,q.symm⟩
  ·obtain⟨a,c,e⟩:=b _ _ q;exact⟨a+1,q0a,e⟩
def Fx(m:Nat):Bool:=Ol m (m+1) 0==0&&(gH<|m+1).all λk=>(orb m (m+1) 0).contains k
theorem EJ{m:Nat}(h:Fx m=true):∀i k,i<=m->k<=m->∃n,n<=m/\Ol m n i=k:=by
 obtain⟨d,j⟩:=Bool.and_eq_true_iff.mp h;have d:Ol m (m+1) 0=0:=by simpa using d
 have c:∀k,k<=m->∃a,a<m+1/\Ol m a 0=k:=λk e=>by have:=List.all_eq_true.mp j k<|List.mem_range.mpr q0d;exact R6 m _ _ _ (by simpa using this)
 intro i k l e;obtain⟨a,p,f⟩:=c i l;obtain⟨b,q,g⟩:=c k e;by_cases o:a<=b
 ·refine⟨b-a,q0d,?_⟩;rw[<- f,<- Fw,show a+(b-a)=b by omega,g]
 ·refine⟨m+1-a+b,q0d,?_⟩;rw[<- f,<- Fw,show a+(m+1-a+b)=(m+1)+b by omega,Fw,d,g]
theorem EK{m i:Nat}(h:i<=m):iA m i<=m/\i<=iA m i:=by unfold iA;split<;>lia
set_option tactic.hygienic true in
theorem R7{m:Nat}:∀(a i p:Nat),i<=m->∀j,iw m c a i p=some j->j<=m/\c.getD j (some 0)=none:=by
 intro a
 induction a with
 | zero=>intro i p _ j e;cases e
 | succ a d =>
  intro i p f j e;unfold iw at e;split at e
  ·rename_i k b
   injection e with e;subst e;have g:=List.find?_some b;have h:=List.mem_range.mp<|List.mem_of_find?_eq_some b;have:=EK f;refine⟨q0d,?_⟩;simpa[Option.isNone_iff_eq_none] using g
  ·dsimp only at e;refine d _ _ ?_ j e;have:=mU (i*5+1+p / 32)<|mG m;exact jv this
set_option tactic.hygienic true in
theorem Jl{m:Nat}{b:Array (Option Nat)}{k:Nat}(d:b.getD k (some 0)=none):∀(n a i:Nat),i<=m->n<a->Ol m n i=k->∃j,iw m b a i 0=some j:=by
 intro n
 induction n with
 | zero =>
  intro a i c g e;obtain⟨a,rfl⟩:∃f,a=f+1:=⟨a-1,q0a⟩;have e:i=k:=e;subst e;unfold iw;split
  ·exact⟨_,rfl⟩
  ·rename_i q
   have:=List.find?_eq_none.mp q 0<|List.mem_range.mpr (by have:=(EK c).2;lia);rw[Nat.add_zero,d] at this;exact gy rfl this
 | succ n h =>
  intro a i c g e;obtain⟨a,rfl⟩:∃f,a=f+1:=⟨a-1,q0a⟩;unfold iw;split
  ·exact⟨_,rfl⟩
  ·dsimp only
   have l:jy m i 0=(Nz m i,0):=by unfold jy Nz;simp
   rw[l];exact h a (Nz m i) (jv<|mU _<|mG m) q0a e
theorem MB{m:Nat}{h:Array (Option Nat)}(l:Fx m=true){k:Nat}(d:k<=m)(o:h.getD k (some 0)=none):∀(c a i p:Nat),i<=m->p<32 ^ c->c+m+1<=a->∃j,iw m h a i p=some j:=by
 intro c
 induction c with
 | zero =>
  intro a i p g b q;have:p=0:=by rw[Nat.pow_zero] at b;lia
  subst this;obtain⟨n,s,e⟩:=EJ l i k g d;exact Jl o n a i g q0a e
 | succ c r =>
  intro a i p g b q;obtain⟨a,rfl⟩:∃f,a=f+1:=⟨a-1,q0a⟩;unfold iw;split
  ·exact⟨_,rfl⟩
  ·dsimp only;refine r a _ (p / 32) (jv<|mU _<|mG m) ?_ q0a;rw[Nat.pow_succ] at b;exact sL (by rw[Nat.mul_comm];exact b)
theorem Om(x:Nat):∀(l:List (Option Nat)) (j:Nat),l[j]?=some none->((l.set j<|some x).filterMap id).Perm (x::l.filterMap id):=by
 intro l
 induction l with
 | nil=>intro j h;simp at h
 | cons a l b =>
  intro j h
  cases j with
  | zero =>
   have:a=none:=by simpa using h
   subst this;simp
  | succ j =>
   have c:l[j]?=some none:=by simpa using h
   cases a with
   | none=>simpa using b j c
   | some y =>
    have:=b j c;exact(nS y this).trans<|List.Perm.swap x y _
theorem has_none:∀(l:List (Option Nat)),(l.filterMap id).length<l.length->∃j:Nat,l[j]?=some none:=by
 intro l
 induction l with
 | nil=>intro h;simp at h
 | cons a l b =>
  intro h
  cases a with
  | none=>exact⟨0,rfl⟩
  | some y =>
   obtain⟨j,e⟩:=b (by simpa using h);exact⟨j+1,by simpa using e⟩
theorem K8(h:Int):iF h<32 ^ 13:=by
 have a:(h%(2 ^ 64:Int)).toNat<2 ^ 64:=by lia
 exact gD a q0q
theorem On{m:Nat}(w:Fx m=true):∀(c:List Int) (a:Array (Option Nat)) (k:Nat),a.size=m+1->(a.toList.filterMap id).Perm (gH k)->k+c.length<=m ->
  ∃b,(c.foldl (init:=some (a,k)) λi h=>do
   let (owner,k) <- i
   let j <- iw m owner (jR m) (iF h%(m+1)) (iF h)
   pure (owner.setIfInBounds j (some k),k+1))=some (b,k+c.length)/\b.size=m+1/\(b.toList.filterMap id).Perm (gH (k+c.length)):=by
 intro c
 induction c with
 | nil=>intro a k d g r;exact⟨a,rfl,d,g⟩
 | cons h c x =>
  intro a k d g r
  have e:(a.toList.filterMap id).length<a.toList.length:=by
   rw[g.length_eq,kB,gm,d]
   lia
  obtain⟨s,t⟩:=has_none _ e
  have l:s<m+1:=by have:=(List.getElem?_eq_some_iff.mp t).1;rw[gm,d] at this;exact this
  have n:a.getD s (some 0)=none:=by rw[ko,<- gZ,t];rfl
  have u:iF h%(m+1)<=m:=jv<|mU _<|mG m;obtain⟨j,v⟩:=MB w (jv l) n 13 (jR m) (iF h%(m+1)) (iF h) u (K8 h) (by unfold jR;lia);obtain⟨y,f⟩:=R7 _ _ _ u j v
  have o:a.toList[j]?=some none:=by
   rw[ko] at f;rw[gZ]
   cases q:a[j]? with
   | none=>rw[q] at f;cases f
   | some z=>rw[q] at f;have p:z=none:=f;rw[p]
  obtain⟨b,A,B,C⟩:=x (a.setIfInBounds j (some k)) (k+1) (by rw[Array.size_setIfInBounds];exact d) (by
   rw[Array.toList_setIfInBounds];refine(Om k _ _ o).trans<|(nS k g).trans ?_;rw[List.range_succ]
   exact(lU (l₁:=[k]) (l₂:=gH k))) (by simp at r;lia)
  refine⟨b,?_,B,?_⟩
  ·rw[lp]
   have:(do
     let (owner,k) <- some (a,k)
     let j <- iw m owner (jR m) (iF h%(m+1)) (iF h)
     pure (owner.setIfInBounds j (some k),k+1))=some (a.setIfInBounds j (some k),k+1):=by
    show (iw m a (jR m) (iF h%(m+1))<|iF h).bind _=_;rw[v];rfl
   rw[this,A];simp only[gG];congr 2
   lia
  ·rw[gG,show k+(c.length+1)=k+1+c.length by lia];exact C
theorem MC(l:List (Option Nat)):(gH l.length).map (λj=>l.getD j none)=l:=by
 apply pL;intro i;by_cases h:i<l.length
 ·simp[iK,h]
 ·rw[List.getElem?_eq_none_iff.mpr (by simpa using qe h),List.getElem?_eq_none_iff.mpr<|qe h]
theorem Bu{m fg mv:Nat}{led pl:Bool}{hs:Array Int}(c:Fx m=true)(d:hs.size<=m):∃t b,mM m fg mv led pl hs=some (t,b)/\b.toList.Perm (gH hs.size):=by
 obtain⟨a,e,s,p⟩:=On c hs.toList (Array.replicate (m+1) none) 0 q0o q0o (by simpa using d)
 have f:o6 m hs=some a:=by unfold o6;rw[<- Array.foldl_toList];exact congrArg (sA Prod.fst) e
 refine⟨_,_,by unfold mM;rw[f];rfl,?_⟩;rw[sU]
 have q:(gH<|m+1).filterMap (λj=>sA (λx:Nat×Nat=>x.2)<|sA (λx=>(j,x))<|a.getD j none)=a.toList.filterMap id:=by
  conv=>rhs;rw[<- MC a.toList]
  rw[sR,gm,s];congr 1
  funext j
  simp only[tM,id,Option.map_map];rw[ko,iK,gZ];cases (a[j]?.getD none)<;>rfl
 refine List.Perm.trans (sC q) ?_;simpa using p
theorem picked{es:Array (Int×ci)}{a:Array Nat}(h:a.toList.Perm (gH es.size)):(a.filterMap (es[·]?)).toList.Perm es.toList:=by
 rw[Array.toList_filterMap];refine(List.Perm.filterMap _ h).trans<|sC ?_;apply pL;intro i
 have:(gH es.size).filterMap (λx=>es[x]?)=es.toList:=by
  have e:(gH es.size).filterMap (λx=>es[x]?)=(gH es.toList.length).filterMap (λx=>es.toList[x]?):=by simp
  rw[e];exact List.filterMap_getElem?_range_length es.toList
 rw[this]
theorem a0j:Fx 7=true:=by decide +kernel
theorem X6:Fx 15=true:=by decide +kernel
theorem X7:Fx 31=true:=by decide +kernel
theorem X8:Fx 63=true:=by decide +kernel
theorem VU:Fx 127=true:=by decide +kernel
theorem VW:Fx 255=true:=by decide +kernel
theorem VX:Fx 511=true:=by decide +kernel
def Ru(t:ja)(h:Int)(a:Nat)(p:kq):Prop:=∃j d,jb t (λ_=>h+1) h a p=some (.empty j d)
def begin_(m i a:Nat)(b:Option Nat):kq:={ j:=i,more:=iA m i-i,i:=i,perturb:=a,dummy:=b}
theorem K9{h:Int}:∀(k a:Nat)(p:kq),p.more=k->(∀b,Ru t h a<|begin_ t.mask (jy t.mask p.i p.perturb).1 (jy t.mask p.i p.perturb).2 b)->Ru t h (a+k+1) p:=by
 intro k
 induction k with
 | zero =>
  intro a p g d
  have c:∀b,t.advance { p with dummy:=b}=begin_ t.mask (jy t.mask p.i p.perturb).1 (jy t.mask p.i p.perturb).2 b:=λb=>by unfold kF;rw[f8<|by show ¬p.more>0;lia];rfl
  unfold Ru jb
  cases q:t.slot p.j with
  | empty=>exact⟨_,_,rfl⟩
  | dummy=>dsimp only;rw[c];exact d _
  | live i =>
   dsimp only;rw[f8<|by simp;lia];have:=c p.dummy;have e:({ p with dummy:=p.dummy}:kq)=p:=rfl;rw[e] at this;rw[this];exact d _
 | succ k l =>
  intro a p g d
  have f:∀b,Ru t h (a+k+1) (t.advance { p with dummy:=b}):=λb=>by
   have e:t.advance { p with dummy:=b}={ p with j:=p.j+1,more:=p.more-1,dummy:=b}:=by unfold kF;rw[f7<|by show p.more>0;lia]
   rw[e];exact l a _ (by show p.more-1=k;lia) d
  unfold Ru jb
  cases q:t.slot p.j with
  | empty=>exact⟨_,_,rfl⟩
  | dummy=>exact f _
  | live i =>
   dsimp only;rw[f8<|by simp;lia];exact f p.dummy
theorem R8{t:ja}{h:Int}{p:kq}(e:t.slot p.j=.empty)(a:Nat):Ru t h (a+1) p:=by unfold Ru jb;rw[e];exact⟨_,_,rfl⟩
theorem La(m i:Nat):iA m i-i<=9:=by unfold iA;split<;>lia
theorem a0k{t:ja}{h:Int}{k:Nat}(d:t.slot k=.empty):∀(n i a:Nat),Ol t.mask n i=k->10*(n+1)<=a->∀c,Ru t h a (begin_ t.mask i 0 c):=by
 intro n
 induction n with
 | zero =>
  intro i a e g c;obtain⟨f,rfl⟩:∃f,a=f+1:=⟨a-1,q0a⟩;subst e;exact R8 d f
 | succ n j =>
  intro i a e g c;have m:=La t.mask i
  have z:=K9 (t:=t) (h:=h) (iA t.mask i-i) (a-(iA t.mask i-i)-1) (begin_ t.mask i 0 c) rfl (λb=>by
   have l:jy t.mask i 0=(Nz t.mask i,0):=by unfold jy Nz;simp
   show Ru t h _ (begin_ t.mask (jy t.mask i 0).1 (jy t.mask i 0).2 b);rw[l]
   exact j (Nz t.mask i) _ e q0a b)
  rw[show a-(iA t.mask i-i)-1+(iA t.mask i-i)+1=a by lia] at z;exact z
theorem a0l{t:ja}{h:Int}{k:Nat}(m:Fx t.mask=true)(g:k<=t.mask)(o:t.slot k=.empty):∀(c i b a:Nat),i<=t.mask->b<32 ^ c->10*(c+t.mask+1)<=a->∀d,Ru t h a (begin_ t.mask i b d):=by
 intro c
 induction c with
 | zero =>
  intro i b a l f p d;have:b=0:=by rw[Nat.pow_zero] at f;lia
  subst this;obtain⟨n,r,e⟩:=EJ m i k l g;exact a0k o n i a e q0a d
 | succ c q =>
  intro i b a l f p d;have s:=La t.mask i
  have z:=K9 (t:=t) (h:=h) (iA t.mask i-i) (a-(iA t.mask i-i)-1) (begin_ t.mask i b d) rfl (λj=>by
   refine q _ _ _ (jv<|mU _<|mG _) ?_ q0a j;rw[Nat.pow_succ] at f
   exact sL (by rw[Nat.mul_comm];exact f))
  rw[show a-(iA t.mask i-i)-1+(iA t.mask i-i)+1=a by lia] at z;exact z
theorem yi[DecidableEq d]:∀(l m:List d),l.Nodup->(∀x∈l,x∈m)->l.length<=m.length:=by
 intro l
 induction l with
 | nil=>intro m _ _;exact im _
 | cons x r e =>
  intro m f b;obtain⟨g,h⟩:=List.nodup_cons.mp f;have a:=b x gc;have i:=e (m.erase x) h λy c=>(List.mem_erase_of_ne<|λ(z:y=x)=>g<|by rw[<- z];exact c).mpr<|b y<|gg _ c;rw[List.length_erase_of_mem a] at i;have:0<m.length:=List.length_pos_of_mem a;rw[gG];omega
theorem HC(l:List Nat)(m:Nat)(h:l.length<=m):∃j,j<=m/\j∉l:=by
 refine pZ λb=>?_;have a:∀j,j<=m->j∈l:=λj c=>pZ λq=>b ⟨j,c,q⟩;have:=yi (gH<|m+1) l List.nodup_range λx d=>a x<|jv<|List.mem_range.mp d;rw[kB] at this
 lia
theorem Jm{t:ja}{n:Nat}(e:t.fits n=true):∃j,j<=t.mask/\t.slot j=.empty:=by
 have c:t.place.size+t.dummies.size<=t.mask:=by simp only[tN,g8,hJ] at e;exact e.2
 obtain⟨j,f,d⟩:=HC (t.place.toList++t.dummies.toList) t.mask (by simpa using c);refine⟨j,f,?_⟩;rw[ki,oW] at d
 have b:∀(a:Array Nat),j∉a.toList->(a[gA a j]?==some j)=false:=λa g=>by
  cases q:a[gA a j]? with
  | none=>rfl
  | some x =>
   have h:x∈a.toList:=by rw[<- gZ] at q;exact jd q
   have:x≠j:=λz=>g<|z▸h;simp[this]
 unfold qo;dsimp only;rw[b _ d.1];unfold jL;rw[b _ d.2];rfl
theorem Ei{t:ja}{n:Nat}(c:Fx t.mask=true)(f:t.fits n=true)(h:Int):∃j b,t.freeSlot h=some (j,b):=by obtain⟨k,a,g⟩:=Jm f;obtain⟨j,d,e⟩:=a0l (h:=h) c a g 13 (iF h%(t.mask+1)) (iF h) (10*jR t.mask) (jv<|mU _<|mG _) (K8 h) (by unfold jR;lia) none;refine⟨d.getD j,d.isSome,?_⟩;unfold o5 pY SetTable.probeStart;have l:jb t (λ_=>h+1) h (10*jR t.mask) { j:=iF h%(t.mask+1),more:=iA t.mask (iF h%(t.mask+1))-iF h%(t.mask+1),i:=iF h%(t.mask+1),perturb:=iF h,dummy:=none}=some (.empty j d):=e;rw[l]
theorem HD{t:ja}{h:Int}:∀(b:Nat)(p:kq),(∀d,p.dummy=some d->jL t.dummies d=true) ->
  ∀j d,jb t l h b p=some (.empty j<|some d)->jL t.dummies d=true:=by
 intro b
 induction b with
 | zero=>intro p _ j d e;cases e
 | succ b f =>
  intro p g j d e;unfold jb at e
  cases q:t.slot p.j with
  | empty =>
   rw[q] at e;injection e with e;injection e with m i;exact g d i
  | dummy =>
   rw[q] at e;refine f _ (λc a=>?_) j d e
   have:c=p.j:=by
    unfold kF at a;split at a
    ·injection a with a;exact a.symm
    ·injection a with a;exact a.symm
   rw[this];unfold qo at q;dsimp only at q;split at q
   ·cases q
   ·split at q
    ·assumption
    ·cases q
  | live k =>
   rw[q] at e;dsimp only at e;split at e
   ·cases e
   ·refine f _ (λc a=>?_) j d e
    have:p.dummy=some c:=by unfold kF at a;split at a<;>exact a
    exact g c this
set_option tactic.hygienic true in
theorem C6{t:ja}{h:Int}{j:Nat}(e:t.freeSlot h=some (j,true)):jL t.dummies j=true:=by
 unfold o5 pY at e;split at e
 ·rename_i a b c
  injection e with e;injection e with f g
  cases b with
  | none=>cases g
  | some d =>
   subst f;exact HD _ _ (λd q=>by cases q) a d c
 ·cases e
theorem Oo{j:Nat}(h:jL a j=true):gA a j<a.size:=by
 unfold jL at h;have b:a[gA a j]?=some j:=by simpa using h
 exact(Array.getElem?_eq_some_iff.mp b).1
theorem Ap(a:Array b)(p:Nat)(h:p<a.size):(ik a p).size=a.size-1:=by
 rw[<- gm,toList_erase,gw,kP,lW,gm]
 lia
theorem yj(a:Array b)(p:Nat)(x:b):(iB a p x).size=a.size+1:=by rw[<- gm,C4,gw,gG,kP,lW,gm];omega
theorem wV{t:ja}{n:Nat}:t.fits n=true↔t.place.size=n/\t.place.size+t.dummies.size<=t.mask:=by unfold tN j7;simp
def Good(m:Nat):Prop:=m=7\/m=15\/m=31\/m=63\/m=127\/m=255\/m=511
theorem Good.Fx{m:Nat}(h:Good m):Fx m=true:=by
 rcases h with q|q|q|q|q|q|q<;>rw[q]
 ·exact a0j
 ·exact X6
 ·exact X7
 ·exact X8
 ·exact VU
 ·exact VW
 ·exact VX
theorem C7{n:Nat}(h:n<=511):Good (hW n-1)/\n<hW n:=by
 have q:((gH 512).all λn=>[8,16,32,64,128,256,512].contains (hW n)&&decide (n<hW n))=true:=by decide +kernel
 have q:=List.all_eq_true.mp q n<|List.mem_range.mpr q0a;obtain⟨q1,q2⟩:=Bool.and_eq_true_iff.mp q;refine⟨?_,by simpa using q2⟩;have q1:hW n=8\/hW n=16\/hW n=32\/hW n=64\/hW n=128\/hW n=256\/hW n=512:=by simpa using q1
 rcases q1 with e|e|e|e|e|e|e<;>rw[e]<;>unfold Good<;>decide
structure X9(t:ja)(n:Nat):Prop where
 fits:t.fits n=true
 rise:yV t.place
 plain:t.plain=true
 good:Good t.mask
 room:t.fill*5<t.mask*3
set_option tactic.hygienic true in
theorem R9{t:ja}{c:Array (Int×ci)}{h:Int}{x:ci}(k:X9 t c.size)(q:c.size<=126) :
  ∃d g,layNew t c h x=(iB c (gA t.place ((t.freeSlot h).getD (0,false)).1) (h,x),d,g,false)/\d.led=t.led/\d.plain=true/\d.fits (c.size+1)=true/\yV d.place/\Good d.mask/\(g=true->d.fill*5<d.mask*3):=by
 obtain⟨j,b,e⟩:=Ei k.good.Fx k.fits h;obtain⟨n,r⟩:=wV.mp k.fits;have f:=k.room;unfold j7 at f
 have l:(if jL t.dummies j=true then ik t.dummies (gA t.dummies j) else t.dummies).size<=t.dummies.size/\(b=true->(if jL t.dummies j=true then ik t.dummies (gA t.dummies j) else t.dummies).size+1<=t.dummies.size):=by
  split
  ·rename_i i
   rw[Ap _ _<|Oo i];have:=Oo i;exact⟨q0a,λ_=>by lia⟩
  ·rename_i i
   refine⟨ga _,λm=>?_⟩;subst m;exact gy (C6 e) i
 have a:(t.put j).1.fits (c.size+1)=true:=by
  refine wV.mpr ⟨?_,?_⟩
  ·show (iB t.place (gA t.place j) j).size=_;rw[yj,n]
  ·show (iB t.place (gA t.place j) j).size+(if jL t.dummies j=true then ik t.dummies (gA t.dummies j) else t.dummies).size<=t.mask;rw[yj]
   lia
 refine⟨(t.put j).1,b,?_,rfl,k.plain,a,Oj k.rise<|HB k.rise e,k.good,λm=>?_⟩
 ·unfold layNew;rw[e];dsimp only;have o:(t.put j).2=gA t.place j:=rfl;have p:(iB c (gA t.place j) (h,x)).size=c.size+1:=yj _ _ _;rw[o,p];unfold SetTable.orStandIn;rw[f7 a,a];rfl
 ·have:=l.2 m;show ((iB t.place (gA t.place j) j).size+(if jL t.dummies j=true then ik t.dummies (gA t.dummies j) else t.dummies).size)*5<t.mask*3;rw[yj]
  lia
theorem MD{t:ja}{es:Array (Int×ci)}(v:1<=es.size)(h:es.size<=127)(m:t.plain=true):∃a c,r8 t es (lu es.size)=(a,c,false)/\a.toList.Perm es.toList/\X9 c a.size/\c.led=t.led:=by
 have o:lu es.size=es.size*4:=by unfold lu;rw[f8 q0a]
 obtain⟨j,w⟩:=C7 (n:=es.size*4) q0a;obtain⟨c,f,e,p⟩:=Bu (fg:=t.finger) (mv:=t.movedTo<|hW (es.size*4)-1) (led:=t.led) (pl:=t.plain) (hs:=es.map (·.1)) j.Fx (by rw[lG];lia);obtain⟨q,r,s,g,k,i⟩:=Br e;rw[lG] at p;have l:=picked p;have u:(f.filterMap (es[·]?)).size=es.size:=by rw[<- gm,l.length_eq,gm]
 have b:f.size=es.size:=by rw[<- gm,p.length_eq,kB]
 have d:c.fits (f.filterMap (es[·]?)).size=true:=by
  refine wV.mpr ⟨by rw[i,u,b],?_⟩;rw[i,k,b,g];show es.size+0<=_
  lia
 refine⟨f.filterMap (es[·]?),c,?_,l,⟨d,q,s.trans m,by rw[g];exact j,?_⟩,r⟩
 ·unfold r8;rw[o];unfold SetTable.relaid;rw[e];dsimp only;rw[f7];rw[d,Bool.and_true];exact List.isPerm_iff.mpr p
 ·unfold j7;rw[i,k,b,g];show (es.size+0)*5<_
  lia
open PyProof.Rows
def xR(e:Int×ci)(k:Int):Prop:=e.1=my k/\∃t,e.2=kK k t
abbrev ww(a:Array (Int×ci))(b:Nat)(t:ja):Obj:={ cls:=.type "set",dict:=none,data:=.set a b t,slots:=#[]}
structure UO(w:ic)(es:Array (Int×ci))(t:ja)(ks:List Int):Prop where
 ent:Paired xR es.toList ks
 nd:ks.Nodup
 small:es.size<=127
 tab:X9 t es.size
 led:w.params.followText "set-order"=true\/t.led=true
theorem yB{n:Nat}(h:n<=127):n<scanBound:=by have e:scanBound=4096:=rfl;rw[e];lia
theorem xD{n:Nat}(h:n<=127):n<=gf:=fits_of_scanBound<|yB h
def vd(w:ic)(a:cr)(c:List Int)(h:hR):Prop:=∃b d t,h.get? a=some (ww b d t)/\UO w b t c
theorem wW{k n:Type}{F:k->n->Prop}{l o:List k}(p:l.Perm o):∀{m:List n},Paired F l m->∃e,m.Perm e/\Paired F o e:=by
 induction p with
 | nil=>intro m h;exact⟨m,.refl _,h⟩
 | cons x _ q =>
  intro m h
  cases h with
  | cons a b =>
   refine e1a2 (q b) λe f g=>?_;exact⟨_,.cons _ f,.cons a g⟩
 | swap x y l =>
  intro m h
  cases h with
  | cons a b =>
   cases b with
   | cons c d=>exact⟨_,.swap _ _ _,.cons c<|.cons a d⟩
 | trans _ _ i j =>
  intro m h;refine e1a2 (i h) λu f g=>?_;refine e1a2 (j g) λr s t=>?_;exact⟨r,f.trans s,t⟩
theorem Fy:∀{g:List (Int×ci)} {h:List Int},Paired xR g h->∀k,(k∈h↔∃e∈g,lX k e.2=true):=by
 intro o p l
 induction l with
 | nil=>intro k;simp
 | @cons e j _ _ m r b =>
  intro k;have n:=b k;obtain⟨_,t,c⟩:=m
  have i:lX k e.2=true↔k=j:=by rw[c];simp[lX];exact eq_comm
  rw[gL,n];constructor
  ·rintro(z|⟨d,f,a⟩)
   ·exact⟨e,gc,i.mpr z⟩
   ·exact⟨d,gg _ f,a⟩
  ·rintro⟨d,f,a⟩;rcases List.mem_cons.mp f with z|z
   ·rw[z] at a;exact .inl<|i.mp a
   ·exact .inr ⟨d,z,a⟩
theorem Bv{a:gS}{w:ic}:∀{d:List (Int×ci)} {g:List Int},Paired xR d g->ElemsOf (jG a w) d:=by
 intro l m h
 induction h with
 | nil=>exact λe b=>by cases b
 | @cons x j _ _ i r c =>
  intro e b;rcases List.mem_cons.mp b with z|z
  ·subst z;obtain⟨k,t,f⟩:=i;refine⟨⟨j,?_,k⟩,?_⟩
   ·rw[f];exact oX _ _ _ _
   ·rw[f];rfl
  ·exact c e z
theorem Ld(h:Paired xR a b):a.length=b.length:=Paired.length h
theorem UO.size{w:ic}{a:Array (Int×ci)}{t:ja}{b:List Int}(h:UO w a t b):a.size=b.length:=by rw[<- gm];exact Ld h.ent
theorem vd.nodup(x:vd w a b h):b.Nodup:=by refine e3a2 x λc d t e k=>?_;exact k.nd
theorem vd.of{b:gS}{w:ic}{a:cr}{c:List Int}{h:hR}(x:vd w a c h):h.SetOf (jG b w) a (λk=>decide<|k∈c) c.length:=by refine e3a2 x λd f t e k=>?_;exact⟨_,d,f,t,e,⟨rfl,rfl,rfl⟩,rfl,Bv k.ent,λj=>by rw[hJ];exact Fy k.ent j,yB k.small,k.tab.fits,k.size⟩
theorem vd.keep{b:hR}(x:vd w a c h)(k:∀o,h.get? a=some o->b.get? a=some o):vd w a c b:=by refine e3a2 x λd f t e r=>?_;exact⟨d,f,t,k _ e,r⟩
theorem vd.lt(x:vd w a b h):a<h.objs.size:=by refine e3a2 x λc d t e r=>?_;exact gl e
theorem vd.typeIs{w:ic}{a:cr}{b:List Int}{s:gk}(x:vd w a b s.heap):s.TypeIs (.ref a) "set":=by refine e3a2 x λc d t e r=>?_;exact⟨_,e,rfl⟩
theorem Sc{h:hR}{a:cr}{f b:Array (Int×ci)}{d:Nat}{t c:ja}(e:h.get? a=some (ww f d t)):(h.update a<|Obj.putSet b c).get? a=some (ww b (d+1) c):=by have z:=hZ (Obj.putSet b c) e (by rw[putSet_of b c rfl];rfl);rw[putSet_of b c rfl] at z;exact z
theorem zK{i b:Array (Int×ci)}{d:Nat}{t f:ja}{Q:Unit->gk->Prop}(e:s.heap.get? a=some (ww i d t))(j:b.size<=gf)
  (h:∀c,ij a s.heap c->c.get? a=some (ww b (d+1) f)->Q () { s with heap:=c}):gn (gp g w) A (r9 a b f) Q E s :=
 wpAny_storeSet_of e rfl (h _ (nK ..)<|Sc e) j
set_option tactic.hygienic true in
theorem UP{k:Int}{u:Tok}{Q:Bool->gk->Prop}(S:vd w a i s.heap)(room:i.length+1<=127)
  (h:∀l C,ij a s.heap l->vd w a C l->C.Perm (if k∈i then i else k::i)->Q (!decide (k∈i)) { s with heap:=l}) :
  gn (gp b w) A (setAddHashed a (.int k u)<|my k) Q E s:=by
 refine e3a2 S λm ep t e K=>?_;have el:ElemsOf (jG b w) m.toList:=Bv K.ent;have hk:(jG b w).is k (.int k u)=true:=oX _ _ _ _;have D:(jG b w).hash k=my k:=rfl;refine gV<|am<|iz e rfl K.tab.fits ?_;dsimp only;rw[byScan_of (knd:=jG b w) rfl (yB K.small) el,f7 rfl];refine am<|am<|k8<|am ?_;rw[<- D];refine wpAny_setScan_of (knd:=jG b w) hk e rfl K.tab.fits el ?_;have F:=Fy K.ent k
 cases hr:qY (λe=>(jG b w).is k e.2) m.toList with
 | some j =>
  refine e1a2 (List.findIdx?_eq_some_iff_getElem.mp hr) λhj hp _=>?_;have G:k∈i:=F.mpr ⟨_,tW hj,hp⟩;have z:=h s.heap i (kX a s.heap) ⟨m,ep,t,e,K⟩ (by rw[f7 G]);rw[decide_eq_true G] at z;exact ap<|ap z
 | none =>
  have f:k∉i:=λq=>by refine e1a2 (F.mp q) λx hx P=>?_;have:=List.findIdx?_eq_none_iff.mp hr x hx;rw[show (jG b w).is k x.2=true from P] at this;cases this
  have R:m.size<=126:=by rw[K.size];lia
  obtain⟨o,H,le,ll,I,lf,lr,lg,ld⟩:=R9 (h:=my k) (x:=.int k u) K.tab R;have J:=layNew_perm t m (my k)<|.int k u;rw[D];rw[le] at J ⊢;generalize iB m (gA t.place ((t.freeSlot<|my k).getD (0,false)).1) (my k,kK k u)=c at J ⊢;rw[pB] at J;have p1:Paired xR ((my k,kK k u)::m.toList) (k::i):=.cons ⟨rfl,u,rfl⟩ K.ent;refine e1a2 (wW (J.trans lU).symm p1) λT pk pe=>?_;have U:c.size=m.size+1:=by rw[<- gm,J.length_eq];simp
  rw[<- U] at lf;have p:c.size<=127:=by lia
  have W:T.Nodup:=pk.nodup_iff.mp<|List.nodup_cons.mpr ⟨f,K.nd⟩;have g:c.size<=gf:=xD p
  -- ab the end wants,for any sV of X entries
  have L:∀(l:hR) (d:Array (Int×ci)) (v:Nat) (B:ja),ij a s.heap l->l.get? a=some (ww d v B)->d.toList.Perm c.toList->X9 B d.size->B.led=t.led->Q true { s with heap:=l}:=by
   intro l d v B sb Y pp f2 l2;refine e1a2 (wW pp.symm pe) λZ q1 q2=>?_;have hs:d.size=c.size:=by rw[<- gm,pp.length_eq,gm]
   have z:=h l Z sb ⟨d,v,B,Y,q2,q1.nodup_iff.mp W,by rw[hs];exact p,f2,by rw[l2];exact K.led⟩ (by rw[f8 f];exact q1.symm.trans pk.symm);rw[gI f] at z;exact z
  refine am<|ap ?_
  have n:gn (gp b w) A (do
    r9 a c o
    if (!H&&o.tooFull)=true then do
      (match (r8 o c<|lu c.size).2.2 with|true=>rule "set.scan.the-table-gave-way" | false=>pure ())
      r9 a (r8 o c<|lu c.size).1 (r8 o c<|lu c.size).2.1
      pure (some true)
     else pure (some true)) (λr M=>gn (gp b w) A (match r with|some y=>pure y|none=>setAddHashedIn a (.int k u) (my k) 99999) Q E M) E s:=by
   refine am<|zK e g λh1 N o1=>?_;split
   ·refine e2a4 (MD (t:=o) (es:=c) q0a p I) λd B re rp rt rl=>?_;rw[re];refine am<|ap<|am<|zK (s:={ s with heap:=h1}) o1 ?_ λh2 aa Y=>ap<|ap<|L h2 _ _ _ (N.trans aa) Y rp rt<|rl.trans ll;have:d.size=c.size:=by rw[<- gm,rp.length_eq,gm]
    rw[this];exact g
   ·rename_i O
    refine ap<|ap<|L h1 _ _ _ N o1 (.refl _) ⟨lf,lr,I,lg,?_⟩ ll
    cases H with
    | true=>exact ld rfl
    | false =>
     have:o.tooFull=false:=by simpa using O
     unfold SetTable.tooFull at this;simpa using this
  split
  ·rw[hashByValue_scannable 8 rfl];exact am<|ap n
  ·exact am<|ap n
theorem UQ{k:Int}(S:vd w a c s.heap)(room:c.length+1<=127)
 (h:∀d b f,ij a s.heap d->vd w a b d->b.Perm (if k∈c then c else k::c)->s.toks<=f->Q (!decide (k∈c)) { s with heap:=d,toks:=f}) :
    gn (gp e w) A (setAdd a<|.int k u) Q E s:=by
  refine gV<|am<|(jG e w).pyHash (k:=k) (oX _ _ _ _) ?_
  exact UP (s:={ s with toks:=s.toks+1}) S room λd b g i p=>h d b _ g i p<|kN _
theorem Op{a:Array (Int×ci)}{k:Int}:∀{b:List Int},Paired xR a.toList b->b.Nodup->∀{j:Nat},qY (λe=>(jG prog w).is k e.2) a.toList=some j->b[j]?=some k:=by
 intro b P _ j f;refine e1a2 (List.findIdx?_eq_some_iff_getElem.mp f) λg h _=>?_
 have:∀{a:List (Int×ci)} {b:List Int},Paired xR a b->∀(j:Nat)(e:Int×ci),a[j]?=some e->∃d,b[j]?=some d/\xR e d:=by
  intro a b P
  induction P with
  | nil=>intro j e z;simp at z
  | cons x _ i =>
   intro j e z
   cases j with
   | zero =>
    have l:=ii z;subst l;exact⟨_,rfl,x⟩
   | succ j=>exact i j e (by simpa using z)
 obtain⟨d,m,_,u,n⟩:=this P j a.toList[j] (by simp[g]);have c:lX k a.toList[j].2=true:=h;rw[n] at c;have:d=k:=by simpa[lX] using c
 rw[<- this];exact m
theorem yC:∀{l:List b} {m:List c},Paired F l m->∀i,Paired F (l.take i++l.drop (i+1)) (m.take i++m.drop (i+1)):=by
 intro _ _ z
 induction z with
 | nil=>intro i;simpa using Paired.nil
 | cons x r a =>
  intro i
  cases i with
  | zero=>simpa using r
  | succ i=>simpa using Paired.cons x (a i)
theorem wF{k:Int}:∀{ks:List Int} {j:Nat},ks[j]?=some k->ks.Perm (k::(ks.take j++ks.drop (j+1)))
 | [],j,e=>by simp at e
 | x::r,0,e=>by
  have:x=k:=by simpa using e
  subst this;simp
 | x::r,j+1,e=>by have:=wF (ks:=r) (j:=j) (by simpa using e);simpa using(nS x this).trans (List.Perm.swap k x _)
theorem EL{k:Int}{Q:Bool->gk->Prop}(S:vd w a c s.heap)
 (h:∀p g,ij a s.heap p->vd w a g p->(if k∈c then c.Perm (k::g) else g=c)->Q (decide<|k∈c) { s with heap:=p}) :
    gn (gp b w) A (setDiscardHashed a (.int k u)<|my k) Q E s:=by
  refine e3a2 S λd J t e K=>?_
  have F:ElemsOf (jG b w) d.toList:=Bv K.ent
  have L:(jG b w).is k (.int k u)=true:=oX _ _ _ _
  refine am<|am<|iz e rfl K.tab.fits ?_
  dsimp only
  rw[byScan_of (knd:=jG b w) rfl (yB K.small) F,f7 rfl]
  refine am<|k8<|am ?_
  rw[show my k=(jG b w).hash k from rfl]
  refine wpAny_setScan_of (knd:=jG b w) L e rfl K.tab.fits F ?_
  have r:=Fy K.ent k
  cases v:qY (λe=>(jG b w).is k e.2) d.toList with
  | none =>
    have f:k∉c:=λq=>by
      refine e1a2 (r.mp q) λx M y=>?_
      have:=List.findIdx?_eq_none_iff.mp v x M
      rw[show (jG b w).is k x.2=true from y] at this
      cases this
    have z:=h s.heap c (kX a s.heap) ⟨d,J,t,e,K⟩ (by rw[f8 f])
    rw[gI f] at z
    exact ap<|ap z
  | some j =>
    dsimp only
    have i:=Op (prog:=b) (w:=w) K.ent K.nd v
    have n:k∈c:=jd i
    have B:j<d.size:=by
      have:=(List.findIdx?_eq_some_iff_getElem.mp v).1
      rwa [gm] at this
    rw[rZ]
    refine ap<|am<|iz e rfl K.tab.fits ?_
    have G:=wV.mp K.tab.fits
    have C:t.place[j]?=some t.place[j]!:=by
      rw[iL q0a,getElem!_pos]
    have H:t.drop j={ t with place:=ik t.place j,dummies:=iB t.dummies (gA t.dummies t.place[j]!) t.place[j]!}:=by
      unfold SetTable.drop
      rw[C]
    have o:(ik d j).size=d.size-1:=Ap _ _ B
    have l:(ik t.place j).size=d.size-1:=by rw[Ap _ _ q0a];lia
    have I:UO w (ik d j) (t.drop j) (c.take j++c.drop (j+1)):=by
      refine⟨by rw[toList_erase];exact yC K.ent j,?_,by rw[o];have:=K.small;lia,?_,?_⟩
      · have := (wF i).nodup_iff.mp K.nd
        exact(List.nodup_cons.mp this).2
      · have m := K.tab.room
        unfold j7 at m
        rw[H]
        refine⟨wV.mpr ⟨?_,?_⟩,Jj K.tab.rise j,K.tab.plain,K.tab.good,?_⟩
        · show (ik t.place j).size = _
          rw[l,o]
        · show (ik t.place j).size+(iB t.dummies _ _).size <= t.mask
          rw[l,yj]
          lia
        · show ((ik t.place j).size+(iB t.dummies _ _).size)*5<t.mask*3
          rw[l,yj]
          lia
      · rw[H]; exact K.led
    refine am<|zK e (xD I.small) λN D O=>?_
    refine am<|wpAny_point ?_
    have z:=h N _ D ⟨_,_,_,O,I⟩ (by rw[f7 n];exact wF i)
    rw[decide_eq_true n] at z
    exact ap z
theorem C8:∀(l:List a)(i:Nat)(x:a),l[i]?=some x->(x::l.eraseIdx i).Perm l
 | [],i,x,e=>by simp at e
 | y::r,0,x,e=>by
  have:y=x:=by simpa using e
  subst this;simp
 | y::r,i+1,x,e=>by have:=C8 r i x (by simpa using e);rw[nJ];exact(List.Perm.swap y x _).trans<|nS y this
set_option tactic.hygienic true in
theorem Sd(c:Nat->Nat):∀(a k:Nat)(left:List d)(b:Array d),left.length<=a->(qx c a k left b).toList.Perm (b.toList++left):=by
 intro a
 induction a with
 | zero =>
  intro k left b h;have:left=[]:=List.length_eq_zero_iff.mp q0a;subst this;simp[qx]
 | succ a f =>
  intro k left b h;unfold qx;split
  ·rename_i x e
   have g:=(List.getElem?_eq_some_iff.mp e).1;refine(f _ _ _<|by rw[List.length_eraseIdx];split<;>lia).trans ?_;rw[pB,kC];refine nC _ ?_;exact C8 _ _ _ e
  ·rename_i e
   cases left with
   | nil=>simp
   | cons y r =>
    have:=List.getElem?_eq_none_iff.mp e;have i:=mU (c k) (show 0<(y::r).length by simp)
    lia
theorem Bw(b:Nat->Nat)(a:Array c):(sW b a).toList.Perm a.toList:=by unfold sW;have:=Sd b a.size 0 a.toList #[] q0o;simpa using this
set_option tactic.hygienic true in
theorem VY(S:vd w a f s.heap)(h:∀(c:Array (Int×ci)) (b:List Int),Paired xR c.toList b->b.Perm f->Q c s):gn (gp g w) A (setWalk a) Q E s:=by
 refine e3a2 S λd k t e K=>?_;refine am<|iz e rfl K.tab.fits<|am<|am<|i7<|ap ?_;split
 ·refine am<|i7<|ap ?_;obtain⟨b,p,q⟩:=wW (Bw _ d).symm K.ent;exact h _ b q p.symm
 ·rename_i i
  rw[f8<|by show ¬((!t.plain&&decide (d.size>1))=true);rw[K.tab.plain];simp]
  have j:t.led=true:=by
   rcases K.led with z|z
   ·exact gy z i
   ·exact z
  refine am<|show gn _ A (if (!t.led&&decide (d.size>1))=true then ku "set:maker-not-led" else pure ()) _ _ _ from ?_;rw[j,f8 q0o];exact ap<|ap<|h d f K.ent<|.refl _
theorem Oq(S:vd w a i s.heap)(h:∀(b:Array (Int×ci)) (c:List Int),Paired xR b.toList c->c.Perm i->Q b s) :
  gn (gp d w) A (setWalkUnseen a f g) Q E s:=by
 refine e3a2 (id S) λk l t e K=>?_;refine am<|iz e rfl K.tab.fits<|am<|am<|i7<|ap ?_
 rw[f7 (by
  rcases K.led with z|z
  ·have j:(gp d w).w.params.followText "set-order"=true:=z;rw[j];simp
  ·rw[z,K.tab.plain];simp)]
 exact VY S h
theorem Cv{b:Nat}{n:Nat}(e:s.heap.get? a=some (ww d b t))(k:t.fits d.size=true)(h:Q b s):gn (gp c w) A (setEpoch a) Q E s :=
 wpAny_setEpoch_of e rfl k h
theorem UR{es:Array (Int×ci)}{b:Array Nat}{Q:Array (Int×ci)×ja->gk->Prop}(p:b.toList.Perm (gH es.size))(h:Q (b.filterMap (es[·]?),d) s) :
  gn (gp c w) A (do
   let some (t,order):=some (d,b)|ku "internal:set-table-without-room"
   let a:=order.filterMap (es[·]?)
   if a.size != es.size then ku "internal:set-table-lost-an-element"
   pure (a,t)) Q E s:=by
 have e:(b.filterMap (es[·]?)).size=es.size:=by rw[<- gm,(picked p).length_eq,gm]
 dsimp only;rw[f8<|by rw[e];simp];exact ap h
def B2(w:ic)(r:cr)(h:hR):Prop:=∃b a,h.get? r=some (ww #[] b<|jC 0 0 a)/\(w.params.followText "set-order"=true\/a=true)
theorem Bx(a:Bool):X9 (jC 0 0 a) 0:=⟨rfl,gR,rfl,.inl rfl,by show 0*5<7*3;decide⟩
theorem B2.set(x:B2 w r h):vd w r [] h:=by refine e2a2 x λb a e l=>?_;exact⟨#[],b,_,e,.nil,lK,q0q,Bx a,l⟩
set_option tactic.hygienic true in
theorem Sg{m:Sem Unit}{Q:Unit->gk->Prop}(F:B2 w r s.heap)(S:vd w a X s.heap)(ne:r≠a)
 (h:∀Y l,ij r s.heap Y->vd w r l Y->l.Perm X->Q () { s with heap:=Y}):gn (gp I w) A (setMerge r a m) Q E s:=by
  refine e2a2 (id F) λZ c P lr=>?_
  refine e3a2 (id S) λb ep t e K=>?_
  unfold setMerge
  rw[f8<|by simpa using ne]
  refine am<|iz e rfl K.tab.fits ?_
  dsimp only
  by_cases R:b.isEmpty=true
  · rw[f7 R]
    have aa:b=#[]:=by simpa using R
    subst aa
    have:X=[]:=by
      have:=K.ent
      cases this
      rfl
    subst this
    exact ap<|h s.heap [] (kX _ _) F.set<|.refl _
  · rw[f8 R]
    have af:1<=b.size:=by
      have:b.size≠0:=λz=>R (by simpa using Array.size_eq_zero_iff.mp z)
      lia
    have T:=K.small
    -- the room
    have go:∀(o:hR)(J:Nat)(d:ja),ij r s.heap o->o.get? r=some (ww #[] J d)->d.place=#[]->d.dummies=#[]->d.plain=true->d.led=c->Good d.mask->b.size*5<d.mask*3 ->
        gn (gp I w) A (setState r >>= λx=>match x with
          | (_,_,k)=>match k.road t with
            | .slotForSlot=>r9 r b { t with finger:=k.finger,led:=k.led&&t.led,moves:=k.moves,plain:=k.plain&&t.plain}
            | .clean=>do
              let (b,t) <- (do
                let some (t,order):=(mM k.mask k.finger k.moves (led:=k.led&&t.led) (plain:=k.plain&&t.plain) (b.map (·.1)))|ku "internal:set-table-without-room"
                let L:=order.filterMap (b[·]?)
                if L.size != b.size then ku "internal:set-table-lost-an-element"
                pure (L,t))
              r9 r b t
            | .oneByOne=>do
              for (h,x) in <- setWalkUnseen a [r] (some r) do
                let _ <- jW [x] (setAddHashed r x h)
                m
                if (<- setState a).2.1 != ep then ku "set.changed-during-merge") Q E { s with heap:=o}:=by
      intro o J d sb o1 p1 d1 M l1 C rm
      have f1:d.fits (#[]:Array (Int×ci)).size=true:=wV.mpr ⟨by rw[p1];rfl,by rw[p1,d1];exact im _⟩
      refine am<|iz (s:={ s with heap:=o}) o1 rfl f1 ?_
      dsimp only
      have u:w.params.followText "set-order"=true\/(d.led&&t.led)=true:=by
        rcases lr with z|z
        · exact .inl z
        · rcases K.led with y|y
          · exact .inl y
          · exact .inr (by rw[l1, z, y]; rfl)
      have v:d.road t=.slotForSlot\/d.road t=.clean:=by
        unfold tO j7
        rw[p1,d1]
        simp only[gv,mn,Nat.add_zero,qy,kf,oC]
        split
        · exact .inl rfl
        · exact .inr rfl
      have ab:d.road t=.slotForSlot->t.dummies.isEmpty=true:=λz=>by
        unfold tO at z
        split at z
        · cases z
        · split at z
          · rename_i q
            exact(Bool.and_eq_true_iff.mp q).2
          · cases z
      have up:∀f,ij r o f->ij r s.heap f:=λf q=>sb.trans q
      rcases v with z|z
      · have hd := ab z
        rw[z]
        refine zK (s:={ s with heap:=o}) o1 (xD T) λf g D=>?_
        refine h f X (up f g) ⟨b,_,_,D,K.ent,K.nd,T,⟨K.tab.fits,K.tab.rise,?_,K.tab.good,K.tab.room⟩,u⟩<|.refl _
        rw[M,K.tab.plain];rfl
      · rw[z]
        have i:b.size<=d.mask:=by lia
        obtain⟨t2,B,N,p⟩:=Bu (fg:=d.finger) (mv:=d.moves) (led:=d.led&&t.led) (pl:=d.plain&&t.plain) (hs:=b.map (·.1)) C.Fx (by rw[lG];exact i)
        refine e0a6 (Br N) λr1 r2 r3 G U O=>?_
        rw[N]
        rw[lG] at p
        have W:=picked p
        have H:(B.filterMap (b[·]?)).size=b.size:=by rw[<- gm,W.length_eq,gm]
        have j:B.size=b.size:=by rw[<- gm,p.length_eq,kB]
        refine am<|UR p ?_
        refine zK (s:={ s with heap:=o}) o1 (by rw[H];exact xD T) λf g D=>?_
        refine e1a2 (wW W.symm K.ent) λl q1 q2=>?_
        refine h f l (up f g) ⟨_,_,_,D,q2,q1.nodup_iff.mp K.nd,by rw[H];exact T,⟨wV.mpr ⟨by rw[O,H,j],?_⟩,r1,?_,by rw[G];exact C,?_⟩,by rw[r2];exact u⟩ q1.symm
        · rw[O, U, j, G]; exact i
        · rw[r3, M, K.tab.plain]; rfl
        · unfold j7
          rw[O,U,j,G]
          exact rm
    refine am<|am<|iz P rfl (Bx c).fits ?_
    by_cases hr:b.size*5>=7*3
    · have e1 : (jC 0 0 c).roomFor b.size = some (b.size*2) := by
        unfold sD j7 jC
        rw[f7<|by simpa using hr]
        simp
      rw[e1]
      obtain⟨C,g2⟩:=C7 (n:=b.size*2) q0a
      obtain⟨t2,B,N,p⟩:=Bu (fg:=0) (mv:=(jC 0 0 c).movedTo<|hW (b.size*2)-1) (led:=c) (pl:=true) (hs:=(#[]:Array (Int×ci)).map (·.1)) C.Fx (by rw[lG];exact im _)
      refine e0a6 (Br N) λr1 r2 r3 G U O=>?_
      have ae:(jC 0 0 c).relaid ((#[]:Array (Int×ci)).map (·.1)) (b.size*2)=some (t2,B):=N
      refine am<|iz P rfl (Bx c).fits ?_
      dsimp only
      rw[f8 (by
        have:hW (b.size*2)<=512:=by rcases C with q|q|q|q|q|q|q<;>lia
        have e3:(512:Nat)<=gf:=by rw[iu];decide
        lia),ae]
      rw[lG] at p
      have W:=picked (es:=#[]) p
      have H:(B.filterMap ((#[]:Array (Int×ci))[·]?)).size=0:=by rw[<- gm,W.length_eq];rfl
      have j:B.size=0:=by rw[<- gm,p.length_eq];rfl
      refine am<|UR (es:=#[]) p ?_
      refine zK P (by rw[H];exact im _) λf g D=>?_
      have o3:B.filterMap ((#[]:Array (Int×ci))[·]?)=#[]:=Array.size_eq_zero_iff.mp H
      rw[o3] at D
      refine go f _ t2 g D (Array.size_eq_zero_iff.mp<|by rw[O,j]) U r3 r2 (by rw[G];exact C) (by rw[G];lia)
    · have e1 : (jC 0 0 c).roomFor b.size = none := by
        unfold sD j7 jC
        rw[f8<|by simpa using hr]
      rw[e1]
      refine ap ?_
      exact go s.heap Z (jC 0 0 c) (kX _ _) P rfl rfl rfl rfl (.inl rfl) (by show b.size*5<7*3;lia)
theorem ME:sd sV "set.__xor__"=some Builtin.«frozenset.__xor__» :=
 se (id':="frozenset.__xor__") (by kernel_rfl) (by first|rfl|decide +kernel|(unfold qp;simp +decide [pw])) q0s (by kernel_rfl)
theorem Ot(h:∀a,B2 w s.heap.objs.size a->(∀c o,s.heap.get? c=some o->a.get? c=some o)->Q (.ref s.heap.objs.size) { s with heap:=a}):gn (gp b w) A (newSet<|.type "set") Q E s:=by
 refine am<|am<|i7<|ap ?_;refine am<|wpAny_alloc<|ap<|h _ ⟨0,_,gu _ rfl,?_⟩ λc o e=>ce _ e
 cases q:w.params.followText "set-order" with
 | true=>exact .inl rfl
 | false=>exact .inr (by show (!(w.params.followText "set-order"))=true;rw[q];rfl)
theorem AI(S:vd w a c s.heap)(h:Q true s):gn (gp b w) A (Builtin.Frozenset.isAnySet<|.ref a) Q E s:=by refine am<|lq S.typeIs oY<|ap ?_;exact h
theorem MF{m:String}{Q:ci->gk->Prop}(S:vd w a j s.heap)
  (h:∀f b,vd w s.heap.objs.size b f->b.Perm j->(∀c o,s.heap.get? c=some o->f.get? c=some o)->Q (.ref s.heap.objs.size) { s with heap:=f}) :
  gn (gp k w) A (Builtin.Frozenset.newFrom m (.type "set")<|.ref a) Q E s:=by
 refine am<|Ot λd r l=>?_;have g:vd w a j d:=S.keep λo e=>l a o e;have u:s.heap.objs.size≠a:=iG S.lt;refine am<|ap<|am<|gV ?_;refine am<|AI (s:={ s with heap:=d}) g ?_;rw[f7 rfl];refine am<|ap ?_;have i:=g;refine e3a2 i λz B t e K=>?_;refine am<|Cv (n:=0) (s:={ s with heap:=d}) e K.tab.fits ?_;refine Sg (s:={ s with heap:=d}) r g u λv b x y p=>?_;exact ap<|h v b y p λc o q=>x.extBut c o (gx<|gl q)<|l c o q
set_option tactic.hygienic true in
theorem Ya{Q:ci->gk->Prop}(Sa:vd w a ka s.heap)(Sb:vd w b kb s.heap)(hl:ka.length+kb.length<=126)
  (h:∀h' ks,vd w s.heap.objs.size ks h'->(∀k,k∈ks↔((k∈kb/\k∉ka)\/(k∉kb/\k∈ka)))->(∀c o,s.heap.get? c=some o->h'.get? c=some o)->Q (.ref s.heap.objs.size) { s with heap:=h'}) :
  gn (gp prog w) A (lF .BitXor (.ref a)<|.ref b) Q E s:=by
 refine wpAny_binaryOp_same (op:=.BitXor) (T:="set") Sa.typeIs Sb.typeIs F.fills_set_xor F.slot_set_xor ?_;refine ie F.slot_set_xor Sa.typeIs ME ?_<|F.args_set_xor_2 _ _;refine am<|am<|ap<|ap ?_;dsimp only;rw[f8 gr];refine am<|am<|AI Sa<|AI Sb ?_;rw[f8 q0o];refine am<|ap<|am ?_
 wp_delta
 refine am<|am<|lq Sa.typeIs oY<|ap ?_;rw[f7 rfl];refine am<|MF Sb λh1 Sh S1 p1 k1=>?_;have Zt:vd w a ka h1:=Sa.keep λo e=>k1 a o e;have ne:s.heap.objs.size≠a:=iG Sa.lt;refine am<|ap<|am<|gV ?_;unfold Builtin.Frozenset.symmetricDifferenceUpdate;rw[f8<|by simpa using Ne.symm ne];dsimp only;refine am<|jY (s:={ s with heap:=h1}) (vd.typeIs (s:={ s with heap:=h1}) Zt) ?_;rw[f8 q0q];refine am<|AI (s:={ s with heap:=h1}) Zt ?_;rw[f7 rfl];refine am<|ap<|am<|ap ?_;have a0m:=Zt;refine e3a2 a0m λes ep t e K=>?_;refine am<|Cv (n:=0) (s:={ s with heap:=h1}) e K.tab.fits ?_;refine gV<|am<|Oq (s:={ s with heap:=h1}) Zt λes' Yb P' p'=>?_;have nd':Yb.Nodup:=p'.nodup_iff.mpr Sa.nodup;have a1K:=p'.length_eq;have a1L:=p1.length_eq
 refine am (wpAny_forIn_array' _ (λrest _ s2=>∃dn kr h2 k2,Yb=dn++kr/\Paired xR rest kr/\s2={ s with heap:=h2}/\ij s.heap.objs.size h1 h2/\vd w s.heap.objs.size k2 h2/\k2.length<=Sh.length+dn.length /\
   ∀k,k∈k2↔((k∈Sh/\k∉dn)\/(k∉Sh/\k∈dn))) _ ?turn ?fin es' _ ⟨[],Yb,h1,Sh,rfl,P',rfl,kX _ _,S1,ga _,λk=>by simp⟩)
 case fin =>
  rintro _ s2 ⟨dn,kr,h2,k2,e0,P,rfl,sb,S2,_,m⟩;cases P;rw[jN] at e0;subst e0;refine ap<|ap<|ap ⟨_,rfl,q0o,?_⟩;refine h h2 k2 S2 (λk=>?_) λc o q=>sb.extBut c o (gx<|gl q)<|k1 c o q;rw[m k,p1.mem_iff,p'.mem_iff]
 case turn =>
  rintro x rest _ s2 ⟨dn,kr,h2,k2,e0,P,rfl,sb,S2,l2,m⟩
  cases P with
  | cons hx hr =>
   rename_i k kr
   obtain⟨hx1,u,hx2⟩:=hx;rw[hx1,hx2];have nd2:=nd';rw[e0] at nd2
   have hkd:k∉dn:=λq=>by have:=(List.nodup_append.mp nd2).2.2 k q k gc;exact this rfl
   have a1P:dn.length+(kr.length+1)=Yb.length:=by rw[e0,gw,gG]
   have ea:∀h3,ij s.heap.objs.size h2 h3->h3.get? a=some (ww es ep t):=λh3 q=>q.extBut a _ (Ne.symm ne)<|sb.extBut a _ (Ne.symm ne) e
   have US:∀(R:ForInStep PUnit->gk->Prop) h3 k3,ij s.heap.objs.size h2 h3->vd w s.heap.objs.size k3 h3->k3.length<=k2.length+1->(∀j,j∈k3↔((j∈k2/\j≠k)\/(j∉k2/\j=k))) ->
     (∀s':gk,(∃dn kr h2 k2,Yb=dn++kr/\Paired xR rest kr/\s'={ s with heap:=h2}/\ij s.heap.objs.size h1 h2/\vd w s.heap.objs.size k2 h2/\k2.length<=Sh.length+dn.length/\∀k,k∈k2↔((k∈Sh/\k∉dn)\/(k∉Sh/\k∈dn)))->R (.yield ⟨⟩) s') ->
     gn (gp prog w) A.in1 (Builtin.Frozenset.unchanged (toString "frozenset."++toString "__xor__") a ep >>= λ_=>pure<|lV PUnit.unit) R E { s with heap:=h3}:=by
    intro R h3 k3 Yc S3 l3 m3 fin;refine am<|am<|Cv (n:=0) (s:={ s with heap:=h3}) (ea h3 Yc) K.tab.fits ?_;rw[f8 q0o];refine ap<|ap<|fin _ ⟨dn++[k],kr,h3,k3,by rw[e0];simp,hr,rfl,sb.trans Yc,S3,by rw[gw];simp;lia,λj=>?_⟩;rw[m3 j,m j,ki,lv];by_cases q2:j=k
    ·subst q2;by_cases q1:j∈Sh<;>simp[q1,hkd]
    ·by_cases q1:j∈Sh<;>by_cases q3:j∈dn<;>simp[q1,q2,q3]
   refine am<|gV<|am ?_;refine EL (s:={ s with heap:=h2}) S2 λh3 k3 Yc S3 p3=>?_;by_cases Xi:k∈k2
   ·rw[decide_eq_true Xi,f8 q0o];rw[f7 Xi] at p3;have nd3:=p3.nodup_iff.mp S2.nodup;refine ap<|US _ h3 k3 Yc S3 (by have:=p3.length_eq;rw[gG] at this;lia) (λj=>?_) λ_ z=>z;have q:=p3.mem_iff (a:=j);rw[gL] at q;rw[q];have hk1:=(List.nodup_cons.mp nd3).1;by_cases q2:j=k
    ·subst q2;simp[hk1]
    ·simp[q2]
   ·rw[gI Xi,f7 q0o];rw[f8 Xi] at p3;subst p3;refine am<|UP (s:={ s with heap:=h3}) S3 q0a λh4 k4 Zu S4 p4=>?_;rw[f8 Xi] at p4;refine ap<|US _ h4 k4 (Yc.trans Zu) S4 (by have:=p4.length_eq;rw[gG] at this;lia) (λj=>?_) λ_ z=>z;rw[p4.mem_iff,gL];by_cases q2:j=k
    ·subst q2;simp[Xi]
    ·simp[q2]
section
variable{prog:gS}{w:ic}{A:iR}{R:Result->gk->Prop}{I:cr}{fp wr:List cr}{G:Array oz->Array oz->Prop}{n:Nat}{P:Nat->ci->Prop}{St:Nat->gk->Prop}
set_option tactic.hygienic true in
theorem VZ(W:WalksS prog w A.in1 I fp wr G n P St)(r:cr)(O:r∉fp)(a:Nat->Int)(g:∀i v,P i v->∃t,v=.int (a i) t)(hb:n<=126) :
  ∀(m i:Nat)(s:gk)(b:List Int),i+m=n->St i s->vd w r b s.heap->(∀k,k∈b↔∃j,j<i/\a j=k)->b.length<=i ->
   (∀h l,Moved (r::wr) G s h->vd w r l h.heap->(∀k,k∈l↔∃j,j<n/\a j=k)->R (.ok<|.ret .none) h) ->
   lJ (gp prog w) A (.builtin "set.update.loop" ⟨[.ref r,.ref I],[]⟩) R s:=by
 have Q:r∉wr:=λq=>O<|W.sub _ q;have x:∀c∈wr,c∈r::wr:=λc B=>gg _ B;intro m
 induction m with
 | zero =>
  intro i s b X H S d Y f;obtain rfl:i=n:=by lia
  refine jf sE ?_;rw[iU ol _];refine am<|W.done s _ _ H λh C=>?_;exact ap<|f h b (C.mono x) (S.keep λo e=>C.heap r o Q e) d
 | succ m Z =>
  intro i s b X H S d Y f;refine jf sE ?_;rw[iU ol _];refine am<|W.item i s _ _ q0a H λv T hP J C=>?_;obtain⟨u,rfl⟩:=g i v hP;have S1:vd w r b T.heap:=S.keep λo e=>C.heap r o Q e;refine am<|gV<|UQ S1 q0a λh2 D tk U S2 p E=>?_
  have l2:D.length<=i+1:=by
   have:=p.length_eq;split at this
   ·lia
   ·rw[gG] at this;lia
  refine ap ⟨j5 ol _,Z (i+1) _ D q0a (W.frame _ T _ _ J E λc B o e=>?_) S2 (λk=>?_) l2 λs3 L M S3 m3=>?_⟩
  ·rw[U.2 c (λz:c=r=>O<|by rw[<- z];exact B)];exact e
  ·rw[p.mem_iff]
   have q:(k∈if a i∈b then b else a i::b)↔(k=a i\/k∈b):=by
    split
    ·rename_i z
     constructor
     ·exact .inr
     ·rintro(y|y)
      ·rw[y];exact z
      ·exact y
    ·exact gL
   rw[q,d k];constructor
   ·rintro(z|⟨j,hj,e⟩)
    ·exact⟨i,q0a,z.symm⟩
    ·exact⟨j,q0a,e⟩
   ·rintro⟨j,hj,e⟩;by_cases N:j=i
    ·subst N;exact .inl e.symm
    ·exact .inr ⟨j,q0a,e⟩
  ·refine f s3 L (Moved.trans W.gtrans ((C.mono x).then_heap E λc o B e=>?_) M) S3 m3;rw[U.2 c (λz:c=r=>B<|by rw[z];exact gc)];exact e
end
theorem MG(x:ci)(h:∀a,B2 w s.heap.objs.size a->(∀c o,s.heap.get? c=some o->a.get? c=some o)->Q (.ref s.heap.objs.size) { s with heap:=a}) :
  lJ (gp b w) A (.call (.builtin "set.__new__") ⟨[.type "set",x],[]⟩) (wants Q E) s:=by
 refine lM ?_;refine am<|lR (F.newCall_set_1 x)<|ap ⟨j5 oO _,jf F.entry_set_new ?_⟩;rw[iU oO _];unfold Builtin.«set.__new__» oE;have g:=oY;obtain⟨i,j,k,l,m⟩:=s;dsimp only;generalize d:newSet=n
 wp_walk
 subst d;refine Ot λa e f=>?_;exact ap<|h a e f
theorem Jn(hh:A.handled=none)(hl:s.heap.IsList l b)(hi:kd b.toList x)(hb:b.size<=126)
 (h:∀f G g,vd w s.heap.objs.size g f->(∀k,k∈g↔k∈x)->(∀c o,s.heap.get? c=some o->f.get? c=some o)->Q (.ref s.heap.objs.size) { s with heap:=f,toks:=G}) :
    gn (gp aa w) A (call (.type "set") [.ref l]) Q E s:=by
  obtain⟨c0,tl,ab⟩:=F.called_set.mro
  have J:=F.called_set.made
  have ae:=F.called_set.sub
  refine lP<|lM ?_
  refine ap ⟨mO _ q0s,jf F.entry_type_call ?_⟩
  rw[sF (tX "set" [.ref l] []) rfl]
  have ag:=F.called_set.notType
  have ah:=F.called_set.canCreate
  have ai:=F.typeCall_set_1<|.ref l
  repeat (any_goals (first|assumption|wp_step))
  refine jl (MG (.ref l) (E:=E) (Q:=λy z=>y=.ref s.heap.objs.size/\∃a,z={ s with heap:=a}/\B2 w s.heap.objs.size a/\∀c o,s.heap.get? c=some o->a.get? c=some o) λa H u=>⟨rfl,a,rfl,H,u⟩) λr1 s1 m=>?_
  cases r1 with
  | error e=>exact m
  | ok f1 =>
    cases f1 with
    | ret y =>
      obtain⟨rfl,a,rfl,H,u⟩:=m
      have L:vd w s.heap.objs.size [] a:=H.set
      have hT:kY { s with heap:=a} (.ref s.heap.objs.size) "set":=vd.typeIs (s:={ s with heap:=a}) L
      have aj:=F.called_set.init.lookup
      have ak:=F.called_set.init.bind<|.ref s.heap.objs.size
      repeat (any_goals (first|assumption|wp_step))
      refine jl (mH (R:=wants (λr B=>r=.none/\∃f G g,B={ s with heap:=f,toks:=G}/\vd w s.heap.objs.size g f/\(∀k,k∈g↔k∈x)/\∀c o,s.heap.get? c=some o->f.get? c=some o) E) F.called_set.init.plain F.entry_set_init<|check_set_init_1 hT ?_) λr2 s2 n=>?_
      · obtain⟨M, p, N, nl, O⟩ := id hl
        have q:a.IsList l b:=⟨M,u l M p,N,nl,O⟩
        have al:kY { s with heap:=a} (.ref l) "list":=q.typeIs
        have q1:=F.sub_list_set
        have q2:=F.sub_list_frozenset
        have q3:(ju "list" == ju "dict")=false:=by decide
        refine e2a2 (id H) λan af e1 l1=>?_
        unfold Builtin.«set.__init__» noKeywords Builtin.Frozenset.updateFrom
        generalize P:pyIter=PI
        wp_walk
        subst P
        refine wpAny_pyIter_list q<|am<|sf ?_
        have S:l<a.objs.size:=gl<|u l M p
        have T:s.heap.objs.size<a.objs.size:=L.lt
        have U:A.in1.in1.in1.handled=none:=by simp[hh]
        have nr:s.heap.objs.size∉[a.objs.size,l]:=by
          simp only[gL,iD,k9,oW]
          exact⟨gx T,iG<|gl p⟩
        have C:∀(i:Nat)(v:ci),b[i]?=some v->∃t,v=.int ((λi=>x.getD i 0) i) t:=λi v hv=>qf hi i v (by rw[gZ];exact hv)
        have d:∀c o,a.get? c=some o->(a.push { cls:=.type "list_iterator",data:=.fields #[.ref l,.int 0 0]}).get? c=some o:=λc o e=>ce _ e
        have D:=qg hi
        rw[gm] at D
        refine VZ ((Walks.list U _ l (gx S) b).toS) s.heap.objs.size nr (λi=>x.getD i 0) C hb b.size 0 _ [] q0a ⟨⟨_,gu _ rfl,rfl,rfl⟩,q.push _⟩ (L.keep λo e=>d _ o e) (λk=>by simp) (im _) λs2 W I S2 m2=>?_
        obtain⟨h2,g2,d2,X,Y⟩:=s2
        have eg:g2=s.gens:=I.gens
        have ed:d2=s.drawn:=I.drawn
        have eo:Y=s.os:=I.os
        subst eg ed eo
        refine ap<|ap ⟨rfl,h2,X,W,rfl,S2,λk=>?_,λc o e=>?_⟩
        · rw[m2 k]
          constructor
          · rintro⟨j, Z, e⟩
            rw[<- e]
            have:j<x.length:=by lia
            simp[iK,this]
          · intro hk
            obtain⟨j,Z⟩:=kI hk
            refine⟨j,by have:=(List.getElem?_eq_some_iff.mp Z).1;lia,?_⟩
            simp[iK,Z]
        · refine I.heap c o ?_ (d c o<|u c o e)
          simp only[gL,iD,k9,oW]
          exact⟨gx<|gl e,gx<|gl<|u c o e⟩
      · cases r2 with
        | error e=>exact n
        | ok f2 =>
          cases f2 with
          | ret r =>
            obtain⟨rfl,f,G,g,rfl,S',m',k'⟩:=n
            repeat (any_goals (first|assumption|wp_step))
            exact h _ _ g S' m' k'
          | _=>exact n.elim
    | _=>exact m.elim
theorem wd:Slot "set_iterator" "__next__" "set_iterator.__next__" :=
 .of (owner:="set_iterator") (n:="__next__") (by rw[mV,kO];kernel_rfl) q0s q0s q0s (by first|exact .inl q0s|exact .inr q0s) (by rw[sg];kernel_rfl)
theorem Ou:Manifest.owners.lookup (String.ofList ['r','o','t','a','r','e','t','i','_','t','e','s'].reverse)=some Manifest.sig_set_iterator:=by kernel_rfl
theorem AJ(a:ci):qN "set_iterator.__next__" ⟨[a],[]⟩:=by unfold qN;rw[signature?_of (id:="set_iterator.__next__") (n:=['_','_','t','x','e','n','_','_']) (o:=['r','o','t','a','r','e','t','i','_','t','e','s']) (by kernel_rfl) Ou];kernel_rfl
theorem Ab:sd sV "set_iterator.__next__"=some Builtin.«set_iterator.__next__»:=entryFor_of_tree (by kernel_rfl)
theorem AK:Slot "set_iterator" "__iter__" "set_iterator.__iter__" :=
 .of (owner:="set_iterator") (n:="__iter__") (by rw[mV,kO];kernel_rfl) q0s q0s q0s (by first|exact .inl q0s|exact .inr q0s) (by rw[sg];kernel_rfl)
theorem Fz(a:ci):qN "set_iterator.__iter__" ⟨[a],[]⟩:=by unfold qN;rw[signature?_of (id:="set_iterator.__iter__") (n:=['_','_','r','e','t','i','_','_']) (o:=['r','o','t','a','r','e','t','i','_','t','e','s']) (by kernel_rfl) Ou];kernel_rfl
theorem Ej:sd sV "set_iterator.__iter__"=some Builtin.«dict_keyiterator.__iter__» :=
 se (id':="dict_keyiterator.__iter__") (by kernel_rfl) (by first|rfl|decide +kernel|(unfold qp;simp +decide [pw])) q0s (by kernel_rfl)
theorem C9:sd sV "set.__iter__"=some Builtin.«frozenset.__iter__» :=
 se (id':="frozenset.__iter__") (by kernel_rfl) (by first|rfl|decide +kernel|(unfold qp;simp +decide [pw])) q0s (by kernel_rfl)
abbrev Yd(b i n c:Nat)(a:cr):Obj:={ cls:=.type "set_iterator",dict:=none,data:=.fields #[kM b,kM i,.ref a,kM n,kM c],slots:=#[]}
def Jo(w:ic)(a:cr)(b:Array (Int×ci))(c:Nat):Array (Int×ci):=if w.params.followText "set-order"=true then sW (w.params.setOrder a c) b else b
theorem By(w:ic)(a:cr)(b:Array (Int×ci))(c:Nat):(Jo w a b c).toList.Perm b.toList:=by
 unfold Jo;split
 ·exact Bw _ b
 ·exact .refl _
def SIt(w:ic)(e a:cr)(c:Array (Int×ci))(d:Nat)(t:ja)(i:Nat)(h:hR):Prop :=
 ∃b,(w.params.followText "set-order"=false->gA t.place b=i)/\h.get? e=some (Yd b i c.size d a)/\h.get? a=some (ww c d t)
theorem HE(e:s.heap.get? b=some { cls:=cls,dict:=none,data:=.fields c,slots:=#[]})(h:Q c s):gn (gp a w) A (fieldsOf<|.ref b) Q E s:=by exact am<|qb e<|ap h
set_option tactic.hygienic true in
theorem MH{c i:Nat}(e:s.heap.get? a=some (ww g k t))(K:UO w g t p)(n:w.params.followText "set-order"=false->gA t.place c=i)
 (d:(Jo w a g k)[i]?=some x)(h:∀l,(w.params.followText "set-order"=false->gA t.place l=i+1)->Q (some (x.2,l)) s):gn (gp f w) A (setNext a c i k) Q E s:=by
  have q:=wV.mp K.tab.fits
  refine am<|iz e rfl K.tab.fits<|am<|am<|i7<|ap ?_
  dsimp only
  unfold Jo at d
  split
  · rename_i j
    have b:w.params.followText "set-order"=true:=j
    rw[f7 b] at d
    rw[f8 q0o]
    refine am<|am<|iz e rfl K.tab.fits<|am<|am<|i7<|ap ?_
    rw[f7 j]
    refine am<|i7<|ap<|ap ?_
    rw[show (gp f w).w=w from rfl,d]
    exact h c λz=>by rw[b] at z;cases z
  · rename_i j
    have b:w.params.followText "set-order"=false:=Bool.eq_false_iff.mpr j
    rw[f8<|by rw[b];simp] at d
    rw[f8<|by show ¬((!t.plain&&decide (g.size>1))=true);rw[K.tab.plain];simp]
    have o:t.led=true:=by
      rcases K.led with z|z
      · rw[b] at z; cases z
      · exact z
    refine am<|show gn _ A (if (!t.led&&!g.isEmpty)=true then ku "set:maker-not-led" else pure ()) _ _ _ from ?_
    rw[o,f8 q0o]
    have r:=(Array.getElem?_eq_some_iff.mp d).1
    rw[n b,d]
    have m:t.place[i]?=some t.place[i]!:=by rw[iL q0a,getElem!_pos]
    rw[m]
    refine ap<|ap<|h _ λ_=>?_
    exact Jh K.tab.rise (by rw[gZ];exact m)
set_option tactic.hygienic true in
theorem MI{c:Nat}(e:s.heap.get? a=some (ww b i t))(K:UO w b t l)(j:w.params.followText "set-order"=false->gA t.place c=b.size)(h:Q none s):gn (gp d w) A (setNext a c b.size i) Q E s:=by
 refine am<|iz e rfl K.tab.fits<|am<|am<|i7<|ap ?_;dsimp only;split
 ·rename_i g
  rw[f8 q0o];refine am<|am<|iz e rfl K.tab.fits<|am<|am<|i7<|ap ?_;rw[f7 g];refine am<|i7<|ap<|ap ?_
  have:(sW ((gp d w).w.params.setOrder a i) b)[b.size]?=none:=by rw[Array.getElem?_eq_none_iff,<- gm,(Bw _ b).length_eq,gm];exact ga _
  rw[this];exact h
 ·rename_i g
  have f:w.params.followText "set-order"=false:=Bool.eq_false_iff.mpr g;rw[f8<|by show ¬((!t.plain&&decide (b.size>1))=true);rw[K.tab.plain];simp]
  have k:t.led=true:=by
   rcases K.led with z|z
   ·rw[f] at z;cases z
   ·exact z
  refine am<|show gn _ A (if (!t.led&&!b.isEmpty)=true then ku "set:maker-not-led" else pure ()) _ _ _ from ?_;rw[k,f8 q0o,j f];rw[show b[b.size]?=none from by simp];exact ap<|ap h
theorem MJ(hh:A.handled=none)(K:UO w es t ks)(ne:a≠it):Walks prog w A it [it,a] [it] es.size (λi v=>∃x,(Jo w a es ep)[i]?=some x/\v=x.2) (SIt w it a es ep t) where
 sub:=λb hb=>by simp at hb;simp[hb]
 frame:=λi h h' z9=>e1a3 z9 λsl z e1 e2 k=>⟨sl,z,k it q0o _ e1,k a q0o _ e2⟩
 item:=by
  rintro i s Q E hi ⟨sl,z,e1,e2⟩ hQ;have hT:s.TypeIs (.ref it) "set_iterator":=⟨_,e1,rfl⟩;refine am<|om<|wpAny_callSpecial?_slot (name:=kT "__next__") hT wd<|ie wd hT Ab ?_<|AJ _;refine am<|ap<|am<|HE e1 ?_;refine am<|pT e2 rfl K.tab.fits ?_;rw[f8 q0o]
  obtain⟨x,hx⟩:∃x,(Jo w a es ep)[i]?=some x:=by
   have hl:i<(Jo w a es ep).size:=by rw[<- gm,(By w a es ep).length_eq,gm];exact hi
   exact⟨_,iL hl⟩
  refine am<|MH e2 K z hx λZH z'=>?_;refine am<|ji e1 q0o λh1 o1 sb1=>am<|ji (s:={ s with heap:=h1}) o1 q0o λh2 o2 sb2=>ap ⟨_,rfl,ap ?_⟩;have sb:=sb1.trans sb2;exact hQ _ h2 _ ⟨x,hx,rfl⟩ ⟨ZH,z',o2,sb.extBut a _ ne e2⟩ λb o hb q=>sb.extBut b o (by simpa using hb) q
 done:=by
  rintro s Q E ⟨sl,z,e1,e2⟩ hQ;have hT:s.TypeIs (.ref it) "set_iterator":=⟨_,e1,rfl⟩;refine am<|om<|wpAny_callSpecial?_slot (name:=kT "__next__") hT wd<|ie wd hT Ab ?_<|AJ _;refine am<|ap<|am<|HE e1 ?_;refine am<|pT e2 rfl K.tab.fits ?_;rw[f8 q0o];refine am<|MI e2 K z ?_;refine am<|ji e1 q0o λh1 o1 sb1=>am ?_;refine am<|hI ?_ (by size_fits);refine am (m:=pC _ _)<|lR (a:=Value.none) (by first|rfl|(simp only[pC];rfl))<|hI ?_ (by size_fits)
  refine wpAny_raiseNew_none hh<|am<|lq (T:="StopIteration") (b:=true) ⟨_,gu _ rfl,rfl⟩ isSubtype_stop<|ap ?_;exact hQ _ _ λb o hb q=>ce _<|ce _<|sb1.extBut b o (by simpa using hb) q
 self:=by rintro i s Q E ⟨sl,z,e1,e2⟩ hQ;have hT:s.TypeIs (.ref it) "set_iterator":=⟨_,e1,rfl⟩;refine wpAny_pyIter_slot hT AK<|ie AK hT Ej ?_<|Fz _;exact ap ⟨_,rfl,"set_iterator",_,hT,wd.lookup,hQ⟩
theorem V0(e:s.heap.get? a=some (ww f i t))(K:UO w f t j)
 (h:∀d,SIt w s.heap.objs.size a f i t 0 d->(∀c o,s.heap.get? c=some o->d.get? c=some o)->d.objs.size=s.heap.objs.size+1->Q (.ref s.heap.objs.size) { s with heap:=d}):gn (gp b w) A (pyIter<|.ref a) Q E s:=by
  have g:s.TypeIs (.ref a) "set":=⟨_,e,rfl⟩
  refine wpAny_pyIter_slot g F.slot_set_iter<|ie F.slot_set_iter g C9 ?_<|F.args_set_iter_1 _
  refine am<|am<|ap<|ap<|am<|am<|pT e rfl K.tab.fits<|ap ?_
  refine am<|am<|iz e rfl K.tab.fits<|am<|am<|i7<|ap<|ap ?_
  rw[f8<|by show ¬((!(gp b w).w.params.followText "set-order"&&(!t.plain&&decide (f.size>1)))=true);rw[K.tab.plain];simp]
  refine am<|ap<|am<|Cv (n:=0) e K.tab.fits ?_
  refine am<|hI ?_ (by size_fits)
  refine ap ⟨_,rfl,"set_iterator",_,⟨_,gu _ rfl,rfl⟩,wd.lookup,?_⟩
  exact h _ ⟨0,λ_=>Ji K.tab.rise,gu _ rfl,ce _ e⟩ (λc o q=>ce _ q)<|iW _ _
theorem FA:mu (.type "set") "__len__"=pure (some<|.builtin "set.__len__"):=by rw[mV,kO];kernel_rfl
theorem Si(P:Paired xR a b):∀(j:Nat)(e:Int×ci),a[j]?=some e->∃k,b[j]?=some k/\xR e k:=by
 induction P with
 | nil=>intro j e z;simp at z
 | cons x _ c =>
  intro j e z
  cases j with
  | zero =>
   have d:=ii z;subst d;exact⟨_,rfl,x⟩
  | succ j=>exact c j e (by simpa using z)
theorem zg:∀{a:List ci} {b:List Int},a.length=b.length->(∀(i:Nat)(v:ci),a[i]?=some v->∃k u,b[i]?=some k/\v=kK k u)->kd a b
 | [],[],_,_=>.nil
 | [],_::_,h,_=>by simp at h
 | _::_,[],h,_=>by simp at h
 | v::a,n::b,h,k=>by
  refine e2a2 (k 0 v rfl) λc u d f=>?_;have:n=c:=by simpa using d
  subst this;subst f
  exact .cons _ _ (zg (by simpa using h) λi g e=>by
   refine e2a2 (k (i+1) g<|by simpa using e) λj l m o=>?_
   exact⟨j,l,by simpa using m,o⟩)
theorem MK(hh:A.handled=none)(S:vd w a ks s.heap)
 (h:∀N tk vs H,kd vs H->H.Perm ks->(∀c o,s.heap.get? c=some o->N.get? c=some o)->s.heap.objs.size<=N.objs.size->Q vs { s with heap:=N,toks:=tk}):gn (gp r w) A (collect<|.ref a) Q E s:=by
  refine e3a2 (id S) λI J t e K=>?_
  have d:a<s.heap.objs.size:=gl e
  refine am<|sf<|jf sX ?_
  rw[iU sY _]
  refine am (m:=newList [])<|hI<|ap ⟨j5 nL _,jf F.entry_list_iadd ?_⟩
  rw[iU nL _]
  have l:∀c o,s.heap.get? c=some o->(s.heap.push { cls:=.type "list",data:=.seq ([]:List ci).toArray}).get? c=some o:=λc o q=>ce _ q
  have oL:(s.heap.push { cls:=.type "list",data:=.seq ([]:List ci).toArray}).get? s.heap.objs.size=some { cls:=.type "list",data:=.seq ([]:List ci).toArray}:=gu _ rfl
  have f:(s.heap.push { cls:=.type "list",data:=.seq ([]:List ci).toArray}).objs.size=s.heap.objs.size+1:=iW _ _
  generalize s.heap.push { cls:=.type "list",data:=.seq ([]:List ci).toArray}=n at l oL f ⊢
  show gn _ A.in1 (pi (.ref s.heap.objs.size) (.ref a)<|.ref s.heap.objs.size) _ _ { s with heap:=n}
  have hT:kY { s with heap:=n} (.ref a) "set":=⟨_,l a _ e,rfl⟩
  refine am<|jY hT ?_
  have n1:kG (.ref s.heap.objs.size) (.ref a)=false:=by simp[kG,iG d]
  have n2:(ju "set" == ju "list")=false:=by decide
  have n3:(ju "set" == ju "tuple")=false:=by decide
  simp only[n1,n2,n3,qZ,kf,oC]
  refine am<|V0 (s:={ s with heap:=n}) (l a _ e) K λp I2 O ae=>?_
  have j:kY { s with heap:=p} (.ref a) "set":=⟨_,O a _<|l a _ e,rfl⟩
  refine am<|gV ?_
  refine am<|o4 j FA ?_
  generalize y:("set.__len__":String)=P
  dsimp only
  rw[show splitId P=some ("set","__len__") from by subst y;decide +kernel]
  subst y
  refine am<|lq (b:=true) j oY ?_
  rw[f8 q0o]
  rw[f7 q0s]
  refine am<|jY j<|ap ?_
  rw[f7 q0s]
  refine am<|k8<|am ?_
  have B:=O _ _ oL
  have R:A.in1.handled=none:=by simp[hh]
  have ne:a≠n.objs.size:=gx<|mE d (by rw[f];exact iQ _)
  have W:=(MJ (prog:=r) (A:=A.in1) (ep:=J) R K ne).toS
  refine am<|o7 B rfl ?_
  have C:=hZ (Obj.mapSeq (·.push Value.none)) B rfl
  refine o7 C rfl ?_
  have D:=hZ (Obj.mapSeq (·.pop)) C rfl
  have L:∀c o,c≠s.heap.objs.size->p.get? c=some o->((p.update s.heap.objs.size (Obj.mapSeq (·.push Value.none))).update s.heap.objs.size (Obj.mapSeq (·.pop))).get? c=some o :=
    λc o hc q=>(gW _ _<|Ne.symm hc).trans<|(gW _ _<|Ne.symm hc).trans q
  have T:((p.update s.heap.objs.size (Obj.mapSeq (·.push Value.none))).update s.heap.objs.size (Obj.mapSeq (·.pop))).objs.size=p.objs.size:=by rw[nM,nM]
  have U:s.heap.objs.size∉[n.objs.size,a]:=by
    simp only[gL,iD,k9,oW]
    exact⟨by rw[f];exact gx<|iQ _,iG d⟩
  generalize (p.update s.heap.objs.size (Obj.mapSeq (·.push Value.none))).update s.heap.objs.size (Obj.mapSeq (·.pop))=h4 at D L T ⊢
  refine e1a3 I2 λsl z i1 i2=>?_
  have I4:SIt w n.objs.size a I J t 0 h4:=⟨sl,z,L _ _ (by rw[f];exact iG<|iQ _) i1,L _ _ (gx d) i2⟩
  refine ap ⟨j5 pE _,codeAny_extend_loopS W (xD K.small) _ U _ I.size 0 _ _ _ rfl (im _) I4 D (ItemsOf.nil _) λs5 X c5 M G g=>?_⟩
  refine am<|qb G<|ap ?_
  obtain⟨h5,g5,d5,Y,Z⟩:=s5
  have eg:g5=s.gens:=M.gens
  have ed:d5=s.drawn:=M.drawn
  have eo:Z=s.os:=M.os
  subst eg ed eo
  -- aa ab
  refine e1a2 (wW (By w a I J).symm K.ent) λH pp pe=>?_
  have k5:∀c o,s.heap.get? c=some o->h5.get? c=some o:=λc o q=>M.heap c o (by
    simp only[gL,iD,k9,oW]
    exact⟨gx (gl q),gx (gl (l c o q))⟩) (L c o (gx (gl q)) (O c o (l c o q)))
  refine h h5 Y X.toList H (zg ?_ λi v hv=>?_) pp.symm k5<|kR<|gl G
  · rw[gm, g.1, <- Ld pe, gm, <- gm, <- gm, (By w a I J).length_eq]
  · obtain⟨x, hx, rfl⟩ := g.2 i v (by rw[<- gZ]; exact hv)
    obtain⟨k,hk,_,u,hu⟩:=Si pe i x (by rw[gZ];exact hx)
    exact⟨k,u,hk,hu⟩
theorem BA 
 (C:∀(u:List ci->gk->Prop),(∀b e a d,kd a d->d.Perm x->(∀c o,s.heap.get? c=some o->b.get? c=some o)->s.heap.objs.size<=b.objs.size->u a { s with heap:=b,toks:=e})->gn (gp f w) A.in1 (collect v) u E s)
 (k:x.length<64) (h:∀b e r a d,s.heap.objs.size<=r->kd a d->d.Perm x->d.Pairwise (·<=·)->(∃n,b.get? r=some { cls:=.type "list",data:=.seq a.toArray n})->(∀c o,s.heap.get? c=some o->b.get? c=some o)->Q (.ref r) { s with heap:=b,toks:=e}) :
    gn (gp f w) A (call (.builtin "sorted") [v]) Q E s:=by
  refine qI kind_sorted plain_sorted entry_sorted (args_sorted1 _) ?_
  refine am (m:=checkCount "sorted" 1 1 _)<|ap ?_
  refine am<|C _ λl e a d y z B D=>?_
  have g:a.length<64:=by rw[qg y,z.length_eq];exact k
  refine am<|sM ?_
  have p:(l.push<|lA "list" a.toArray 0).get? l.objs.size=some (lA "list" a.toArray 0):=gu _ rfl
  refine am<|gV<|ie slot_list_sort ⟨_,p,rfl⟩ entry_list_sort (list_sort_tree p y g λi t F G H=>⟨_,rfl,?_⟩)<|args_list_sort _
  obtain⟨I,J⟩:=sortedHeap_at (out:=i) p
  refine ap ⟨_,rfl,h _ e l.objs.size i.toList t D F (G.trans z) H ⟨I,by simpa using J⟩ λc o q=>?_⟩
  have j:=gl<|B c o q
  rw[sortedHeap_old (gx j)<|by rw[sh];exact nq j]
  exact ce _<|B c o q
theorem FC(j:A.handled=none)(S:vd w a f s.heap)(b:f.length<64)
 (h:∀d l r g e,s.heap.objs.size<=r->kd g e->e.Perm f->e.Pairwise (·<=·)->(∃n,d.get? r=some { cls:=.type "list",data:=.seq g.toArray n})->(∀c o,s.heap.get? c=some o->d.get? c=some o)->Q (.ref r) { s with heap:=d,toks:=l}) :
    gn (gp i w) A (call (.builtin "sorted") [.ref a]) Q E s :=
  BA (λ_ k=>MK (by simp[j]) S k) b h
theorem Ek{a:List ci}(p:s.heap.IsList l a.toArray)(b:kd a i)(d:i.length<64)
 (h:∀f t r j g,s.heap.objs.size<=r->kd j g->g.Perm i->g.Pairwise (·<=·)->(∃n,f.get? r=some { cls:=.type "list",data:=.seq j.toArray n})->(∀c o,s.heap.get? c=some o->f.get? c=some o)->Q (.ref r) { s with heap:=f,toks:=t}) :
    gn (gp m w) A (call (.builtin "sorted") [.ref l]) Q E s :=
  BA (λ_ k=>collect_list p (k _ s.toks _ _ b (.refl _) (λc o q=>(gW _ _ (iG (gl q))).trans (ce _ q)) (by rw[nM,sh];exact kN _)) (by
    have:=qg b
    have e:(64:Nat)<=gf:=by rw[iu];decide
    lia)) d h
end SX
namespace L2
open PySem PySem.Spec PyProof.Rows SX
theorem zL{a:List Int}(h:Vals (a.map V.int) b):kd b a:=intsAre_of h
theorem Sj(h:kd a b):Vals (b.map V.int) a:=EI h
def wq(w:ic)(p:cr)(a:List Int):HO:=.ext<|vd w p a
theorem yD(I:Inv X a c H s)(h:H p=some (wq X.w p b)):vd X.w p b s.heap:=(I.uU p _ h).1
theorem FD(x:vd w p a h):vk P w H h p (wq w p a) :=
 ⟨x,(e3a2 x λ_ _ _ e _=> ⟨_,e⟩),λ_ _ q k=>q.keep k⟩
theorem HF(i:X.calm=true):xQ X (.type "set") (λe H Q=>∃(a:cr)(c:List Int),e=[.ref a]/\vA X.K H a (c.map V.int)/\c.length<=126/\∀(p:cr)(b:List Int),H p=none->b.Nodup->b.length<=c.length->(∀k,k∈b↔k∈c)->Q (.ref p) (upd H p<|wq X.w p b)):=by intro f s z H e A Q I r h;obtain⟨a,c,rfl,j,B,q⟩:=h;obtain⟨u,rfl,l⟩:=vals1 r;cases l;refine e1a3 (I.list j) λn g o C=>?_;have t:=zL g;have d:=g.length;rw[gh] at d;refine Jn (I.ok.hd i) o.isList (by simpa using t) (by rw[gv];lia) λD v b S m k=>?_;refine⟨.ref s.heap.objs.size,_,I.laid (t':=v) k (ga _)<|FD S,rfl,q _ b (I.uU.fresh<|ga _) S.nodup (yi _ _ S.nodup λx y=>(m x).mp y) m⟩
theorem Sk:zW X (lF .BitXor) (λx y H Q=>∃(a b:cr)(c d:List Int),x=.ref a/\y=.ref b/\H a=some (wq X.w a c)/\H b=some (wq X.w b d)/\c.length+d.length<=126 /\
  ∀(p:cr)(e:List Int),H p=none->e.Nodup->(∀k,k∈e↔((k∈d/\k∉c)\/(k∉d/\k∈c)))->Q (.ref p) (upd H p (wq X.w p e))):=by
 intro f s o H x y v u Q I g i h;obtain⟨a,b,c,d,rfl,rfl,j,l,n,q⟩:=h;cases g;cases i;refine Ya (yD I j) (yD I l) n λr e S m k=>?_;exact⟨.ref s.heap.objs.size,_,I.laid (t':=s.toks) k (ga _)<|FD S,rfl,q _ e (I.uU.fresh<|ga _) S.nodup m⟩
theorem Aq{g:List Int}(I:Inv X b k H s)(l:g.length<64)(q:∀(p:cr)(a:List Int),H p=none->a.Perm g->a.Pairwise (·<=·)->Q (.ref p) (upd H p<|.lst<|a.map V.int)) :
  ∀(d:hR)(h:Nat)(r:cr)(f:List ci)(a:List Int),s.heap.objs.size<=r->kd f a->a.Perm g->a.Pairwise (·<=·)->(∃n,d.get? r=some { cls:=.type "list",data:=.seq f.toArray n})->(∀c o,s.heap.get? c=some o->d.get? c=some o)->EP X b k Q (.ref r) { s with heap:=d,toks:=h}:=by
 intro d h r f a i m j t u v;obtain⟨n,e⟩:=u;have w:(64:Nat)<=gf:=by rw[iu];decide
 exact⟨.ref r,_,I.laid (t':=h) (o:=.lst<|a.map V.int) v i ⟨by rw[gh,j.length_eq];lia,f,n,Sj m,e⟩,rfl,q r a (I.uU.fresh i) j t⟩
theorem AM(g:X.calm=true):xQ X (.builtin "sorted") (λe H Q=>∃(a:cr)(c:List Int),e=[.ref a]/\H a=some (wq X.w a c)/\c.length<64/\∀(p:cr)(d:List Int),H p=none->d.Perm c->d.Pairwise (·<=·)->Q (.ref p) (upd H p<|.lst<|d.map V.int)):=by intro f s k H e l Q I r h;obtain⟨a,c,rfl,i,b,q⟩:=h;obtain⟨u,rfl,j⟩:=vals1 r;cases j;exact FC (I.ok.hd g) (yD I i) b<|Aq I b q
theorem FE:xQ X (.builtin "sorted") (λe H Q=>∃(a:cr)(c:List Int),e=[.ref a]/\vA X.K H a (c.map V.int)/\c.length<64/\∀(p:cr)(d:List Int),H p=none->d.Perm c->d.Pairwise (·<=·)->Q (.ref p) (upd H p<|.lst<|d.map V.int)):=by intro f s m H e n Q I r h;obtain⟨a,c,rfl,g,b,q⟩:=h;obtain⟨u,rfl,i⟩:=vals1 r;cases i;refine e1a3 (I.list g) λj k l o=>?_;exact Ek l.isList (zL k) b<|Aq I b q
def EM(X:Cx)(H:Hp)(x:V)(d:PyData):Prop:=∀(a:List (cr×Obj)) (b:St) (s:gk) (u:ci),Inv X a b H s->RelV x u->∃c,Reads s.heap u d c
theorem EM.int(i:Int):EM X H (.int i) (.int i):=λ_ _ _ _ _ r=>by obtain⟨t,rfl⟩:=r;exact⟨_,Reads.int i t⟩
theorem EN(I:Inv X a e H s):∀{c:List V} {d:List ci} {b:List PyData},Vals c d->Paired (EM X H) c b->∃f,ReadsAll s.heap d b f:=by
 intro _ _ b z
 induction z generalizing b with
 | nil=>intro w;cases w;exact⟨_,.nil⟩
 | cons r t g=>intro w;cases w with|cons q p =>
  obtain⟨j,h⟩:=q a e s _ I r;obtain⟨k,i⟩:=g p;exact⟨_,.cons h i⟩
theorem EM.lst(h:vA X.K H a c)(p:Paired (EM X H) c d):EM X H (.ref a) (.list d):=λb m s u I r=>by
 cases r;refine e1a3 (I.list h) λe f g _=>?_;obtain⟨q,i⟩:=EN I f p;obtain⟨o,j,k,n,l⟩:=g.isList;exact⟨_,Reads.list j k l<|by simpa using i⟩
def Ye(X:Cx)(a:Bool):R2:=λx y H Q=>∃d e,EM X H x d/\EM X H y e/\rs d=true/\rs e=true/\oF d e=true/\Q (.bl<|if a then !PySem.Spec.same d e else j0 d e) H
theorem V1(c:X.A.units+64<jQ):zW X (iT .Eq) (Ye X false):=by intro a s b H x y v u Q I f g h;obtain⟨d,e,i,j,k,l,m,q⟩:=h;obtain⟨p,n⟩:=i a b s v I f;obtain⟨r,o⟩:=j a b s u I g;exact eq_dataH_same n o k l c m ⟨.bl _,H,I,rfl,q⟩
theorem V2(c:X.A.units+64<jQ):zW X (iT .NotEq) (Ye X true):=by intro a s b H x y v u Q I f g h;obtain⟨d,e,i,j,k,l,m,q⟩:=h;obtain⟨p,n⟩:=i a b s v I f;obtain⟨r,o⟩:=j a b s u I g;exact ne_dataH_same n o k l c m ⟨.bl _,H,I,rfl,q⟩
theorem HG:xQ X (.builtin "isinstance") (λa H Q=>∃(x:V)(T:String)(t:ci)(b:Bool),a=[x,.ty T]/\za X.K H x t/\qd X.K t (.type T)=some b/\Q (.bl b) H):=by intro c s j H a k Q I r h;obtain⟨x,T,t,b,rfl,d,e,q⟩:=h;obtain⟨u,v,rfl,f,g⟩:=vals2 r;cases g;exact Mm I f d e λi=>⟨.bl b,H,I.tok i,rfl,q⟩
def Yf:V->V->Hp->VK->Prop:=λo i H Q=>∃(p:cr)(a:List V)(k:Int)(v:V),o=.ref p/\i=.int k/\H p=some (.lst a)/\0<=k/\a[k.toNat]?=some v/\Q v H
theorem Ov:Xv X Yf:=by intro a s w H o i x y Q I c d h;obtain⟨p,z,k,v,rfl,rfl,e,f,b,q⟩:=h;cases c;obtain⟨t,rfl⟩:=d;refine e1a3 (I.list<|vA.of (K:=X.K) e) λg r j A=>?_;refine e1a2 (r.get b) λu l m=>?_;have B:=CU;have n:=(List.getElem?_eq_some_iff.mp b).1;exact wpAny_getItem_list j.isList f q0a (by simpa using l) ⟨v,H,I,m,q⟩
abbrev Eb(X:Cx)(a:kZ)(d:List (Str×cr))(e:List Str)(b:gk)(c:Hp)(C:cr)(f:List cr)(g:List (cr×Obj)):Cx :=
 { X with N:=e,s₀:=b,H₀:=c,env:=si a d C X.env,outer:=X.stack,stack:=X.stack,ex:=f,fn:=λ_=>false,pn:=g,xe:=λ_ _=>False}
structure x9(X:Cx)(scope:kZ)(cl:List (Str×cr))(T Fr:List Str)(idx:List Nat):Prop where
 kind:scope.kind=.function
 Yg:nE scope X.env=pure cl
 As:∀y∈scope.names,y.2≠.cell
 names:∀y∈scope.names,y.2=.local->scope.names.lookup y.1=some .local
 sub:∀x c,cl.lookup x=some c->X.env.cells.lookup x=some c
 frl:∀y∈scope.names,y.2=.free->∃c,cl.lookup y.1=some c
 fr:∀(j:Nat)(x:Str),Fr[j]?=some x->∃i c,idx[j]?=some i/\X.N[i]?=some x/\(X.env.kindOf x=some .cell\/X.env.kindOf x=some .free)/\cl.lookup x=some c/\((n8 scope X.env).names.lookup x=some .cell\/(n8 scope X.env).names.lookup x=some .free)
 len:idx.length=Fr.length
def wx(T:List Str)(a:List Nat)(b:St):St:=T.map (λ_=>none)++a.map λi=>b[i]?.join
theorem lookup_mem{β:Type}:∀{l:List (Str×β)} {x:Str} {v:β},l.lookup x=some v->(x,v)∈l:=by
 intro l
 induction l with
 | nil=>intro _ _ h;cases h
 | cons p r ih =>
  intro x v h;obtain⟨y,z⟩:=p;rw[gX] at h
  cases q:x==y with
  | true =>
   rw[q] at h;cases h;rw[eq_of_beq q];exact gc
  | false =>
   rw[q] at h;exact gg _<|ih h
theorem x9.has{l:List Str}(B:x9 X a m T l idx)(h:(n8 a X.env).names.lookup x=some .cell\/(n8 a X.env).names.lookup x=some .free):∃c,m.lookup x=some c:=by
 have d:∃k,(x,k)∈(n8 a X.env).names/\(k=.cell\/k=.free):=by
  rcases h with h|h
  ·exact⟨_,lookup_mem h,.inl rfl⟩
  ·exact⟨_,lookup_mem h,.inr rfl⟩
 obtain⟨k,d,o⟩:=d;obtain⟨⟨n,f⟩,i,e⟩:=List.mem_map.mp d;dsimp only at e
 have:n=x/\f=.free:=by
  by_cases b:(f==NameKind.free&&X.env.scope.kind==ScopeKind.function&&X.env.kindOf n==some NameKind.cell)=true
  ·rw[f7 b] at e;have g:n=x:=congrArg Prod.fst e;simp only[g8,beq_iff_eq] at b;exact⟨g,b.1.1⟩
  ·rw[f8 b] at e;have g:n=x:=congrArg Prod.fst e;have j:f=k:=congrArg Prod.snd e;rcases o with q|q
   ·exact gy (j.trans q)<|B.As _ i
   ·exact⟨g,j.trans q⟩
 obtain⟨rfl,rfl⟩:=this;exact B.frl _ i rfl
theorem wU.UT(x:wU P w H h)(f:H a=none)(d:vk P w (upd H a o) h a o):wU P w (upd H a o) h:=λb u e=>by
 by_cases g:b=a
 ·subst g;rw[uh] at e;cases e;exact d
 ·rw[ud g] at e;exact(x b u e).Cd (λ_ _ _ q=>q) (λc q=>by rw[ud<|uo q f];exact q) λc i q=>by rw[ud<|uo q f];exact q
section
variable{X:Cx}{elt iter tg:hO}{scope:kZ}{cl:List (Str×cr)}{T Fr:List Str}{idx:List Nat}{wi:TI}{g:TG}{tt:TT}{te:TE}{pos:Pos}{ifs:List hO}
def V3(X:Cx)(ifs:List hO)(tt:TT):Prop:=∀(a:List (cr×Obj)) (s:gk) (b:St) (H:Hp) (Q:Bool->Hp->Prop),Inv X a b H s->tt b H Q ->
 gn (gp X.prog X.w) X.A (forIn ifs true λc r=>if r=true then do let ok <- qa c X.env (eval c X.env);pure (lV ok) else pure (lV r)) (TP X a b Q) X.xe s
theorem Sl:V3 X [] (λ_ H Q=>Q true H):=λ_ _ _ H _ I h=>rA ⟨H,I,h⟩
theorem Sn(h:PT X c b):V3 X [c] b:=λa s d H Q I q=>wpAny_tests_one<|h a s d H Q I q
theorem Ox(u:Nat->gk->Prop)
 (y:∀n s,u n s->gn (gp a w) A (pyNext H) (λr b=>match r with
 | none=>R (.ok .next) b
 | some v=>gn (gp a w) A (rq target H v) (λ_ f=>gn (gp a w) A (rP target e v) (λ_ i =>
 gn (gp a w) A (forIn ifs true λc r=>if r=true then do let z <- qa c e (eval c e);pure (lV z) else pure (lV r)) (λz d =>
 if z=true then gn (gp a w) A (eval elt e) (λx j=>gn (gp a w) A (call (.builtin "list.append") [G,x]) (λ_ k=>∃m,m<n/\u m k) (λ_ _=>False) j) (λ_ _=>False) d
 else ∃m,m<n/\u m d) (λ_ _=>False) i) (λ_ _=>False) f) (λ_ _=>False) b) (λ_ _=>False) s)
 (n:Nat) (h:u n s):lJ (gp a w) A (.compLoop (.ListComp elt [⟨target,iter,ifs,0⟩] scope pos) 0 H G e) R s:=by
  refine codeAny_loop rfl u (λn s J=>?_) n h
  refine wpAny_noted ?_
  rw[compTurn_list]
  have l:∀{I:Type} {t:Sem I} {Q:I->gk->Prop} {E:ci->gk->Prop} {s:gk},gn (gp a w) A t Q (λ_ _=>False) s->gn (gp a w) A t Q E s:=λh=>io h (λ_ _ q=>q) λ_ _ q=>q.elim
  refine am<|mB<|am<|l<|uR (y n s J) λr b o=>?_
  cases r with
  | none=>exact l<|ap o
  | some v =>
    refine am<|l<|uR o λ_ f B=>am<|l<|uR B λ_ i C=>am<|l<|uR C λz d p=>?_
    cases z with
    | false=>exact l<|ap ⟨rfl,p⟩
    | true=>exact am<|am<|l<|uR p λx j D=>am<|l<|uR D λ_ k F=>ap<|ap ⟨rfl,F⟩
end
structure V4(X:Cx)(c P:cr):Prop where
 code:X.env.code=.ref c
 hd:qh X.base c P
 blt:∃bm ob,X.mg "__builtins__"=some (.ref bm)/\bm≠ny/\X.base.get? bm=some ob/\ob.cls=.type "module"/\ob.dict=some ny/\ob.data=.plain
def TabAt(H:Hp)(P:cr):Prop:=∃a,H P=some (.Ea a)/\sZ a.toList
theorem AN{a b:Int}:∀(l:List ci),sZ l->sZ (l++[.int a 0,.int b 0,c])
 | [],_=>trivial
 | .int _ _::.int _ _::_::r,h=>AN r h
def yE(a b:List Int):Bool:=(a.zip b).all λp=>decide<|p.1<p.2
theorem So(a b:List Int):(gH<|min a.length b.length).all (λj=>decide<|a.getD j 0<b.getD j 0)=yE a b:=by
 unfold yE;rw[lj,nN,nN];constructor
 ·intro h p f;obtain⟨j,c⟩:=kI f;obtain⟨d,e⟩:=List.getElem?_zip_eq_some.mp c;have l:=(List.getElem?_eq_some_iff.mp d).1;have m:=(List.getElem?_eq_some_iff.mp e).1;have:=h j<|List.mem_range.mpr q0a;rw[iK,iK,d,e] at this;exact this
 ·intro h j c;have c:=List.mem_range.mp c;have g:a[j]?=some (a.getD j 0):=by rw[iK,iP q0a];rfl
  have i:b[j]?=some (b.getD j 0):=by rw[iK,iP q0a];rfl
  have k:(a.zip b)[j]?=some (a.getD j 0,b.getD j 0):=List.getElem?_zip_eq_some.mpr ⟨g,i⟩;exact h _<|jd k
def Jq(S:Hp->cr->List V->Prop)(P:cr)(g:TA):TE:=λh H Q=>g h H λi c=>∃(a b:cr)(e f:List Int),i=[.ref a,.ref b]/\S c a (e.map V.int)/\S c b (f.map V.int)/\TabAt c P /\
 ∀d,(∀b o,b≠P->c b=some o->d b=some o)->(∀b,b≠P->c b=none->d b=none)->TabAt d P->Q (.bl<|yE e f) d
abbrev Yh(K:fZ)(P:cr)(a:TA):TE:=Jq (vA K) P a
abbrev V5(K:fZ)(P:cr)(a:TA):TE:=Jq (yq K) P a
structure Oy(X:Cx)(S:Hp->cr->List V->Prop)(P:cr):Prop where
 go:∀{pins:List (cr×Obj)} {σ:St} {H1:Hp} {s1:gk} {a b:cr} {us vs:List V} {ps:Array ci},Inv X pins σ H1 s1->X.A.handled=none->S H1 a us->S H1 b vs->H1 P=some (.Ea ps) ->
  ∃ia ib:List ci,Vals us ia/\Vals vs ib/\a<s1.heap.objs.size/\b<s1.heap.objs.size/\a≠P/\b≠P/\∀(Q:ci->gk->Prop)(E:ci->gk->Prop),
   (∀h2 St Mid,(∀A':iR,A'.handled=none->WalksU X.prog X.w A' (s1.heap.objs.size+4) [s1.heap.objs.size+4,s1.heap.objs.size+2,s1.heap.objs.size+3,s1.heap.objs.size,s1.heap.objs.size+1,a,b] [s1.heap.objs.size+4,s1.heap.objs.size+3,s1.heap.objs.size,s1.heap.objs.size+1] (min ia.toArray.size ib.toArray.size) (λi vals=>∃x y,ia.toArray[i]?=some x/\ib.toArray[i]?=some y/\vals=#[x,y]) St Mid) ->
    St 0 h2->h2.objs.size=s1.heap.objs.size+5->(∀c o,s1.heap.get? c=some o->h2.get? c=some o)->Q (.ref (s1.heap.objs.size+4)) { s1 with heap:=h2})->gn (gp X.prog X.w) X.A (call (.type "zip") [.ref a,.ref b]) Q E s1
theorem Inv.tabled{s':gk}{a:Array ci}(I:Inv X g m H s)(i:H P=some (.Ea l))(p:s'.os=s.os)(r:mz s'.gens)
 (k:∀b o,b≠P->s.heap.get? b=some o->s'.heap.get? b=some o)(e:s'.heap.get? P=some { cls:=.none,data:=.fields (l++a)}):Inv X g m (upd H P<|.Ea<|l++a) s':=by
  have j:∀b,H b=none->b≠P:=λb n z=>by rw[z,i] at n;cases n
  have h:∀b u,H b=some u->(∀q,u≠.Ea q)->b≠P:=λb u n f z=>by rw[z,i] at n;cases n;exact f _ rfl
  refine I.UB (ch:=[]) p ⟨λb o q n _ _=>k b o (j b n) q,λb o q n _ _=>⟨o.slots,k b o (j b n) q⟩,λb o q n _=>by rw[ud<|j b n];exact n,λb o q _=>?_,λb t q=>by rw[ud<|h b _ q<|λ_ z=>nomatch z];exact q,λb o u q=>by rw[ud<|h b _ q<|λ_ z=>nomatch z];exact q,λb A q=>?_⟩ (λb u q=>?_) r λb d=>by cases d
  · by_cases d : b = P
    · rw[d]; exact⟨_, e⟩
    · exact⟨o, k b o d q⟩
  · by_cases d : b = P
    · subst d
      rw[i] at q
      cases q
      exact⟨a,uh⟩
    · exact⟨#[], by rw[ud d, q]; simp⟩
  · by_cases d : b = P
    · subst d
      rw[uh] at q
      cases q
      exact e
    · rw[ud d] at q
      refine(I.uU b u q).Cd (λc v w z=>k c v ?_ z) (λc z=>by rw[ud<|h c _ z<|λ_ y=>nomatch y];exact z) λc t z=>by rw[ud<|h c _ z<|λ_ y=>nomatch y];exact z
      rcases w with y|y
      · rw[y]; exact d
      · exact h c _ y<|λ_ x => nomatch x
theorem Oz{s:gk}{a:Env}{i j:Int}(d:a.scope.kind=.function)(g:a.kindOf b=some .local)(k:a.kindOf c=some .local)(e:s.heap.Ns a.locals m)
 (l:m b=some (.int i t))(n:m c=some (.int j u))(o:(b==("__debug__":Str))=false)(p:(c==("__debug__":Str))=false)(h:Q (.bool<|decide<|i<j) s):gn (gp f w) A (eval (.Compare (.Name b q) [.Lt] [.Name c r] v) a) Q E s:=by
  refine rO (oR (jV d g e l<|oR (jV d k e n<|lt_int h) p) o)<|x8 _
theorem HH(Z:Oy X S P)(aC:X.calm=true)(G:V4 X c P)(ae:X.A.depth<rR)(aD:Gl X "all")(aj:X.mg "all"=none)(aE:Gl X "zip")(aF:X.mg "zip"=none)(af:PA X [e1,e2] ta)
 (hk:n.kind=.function) (aG:n.isCoroutine=false) (ag:nE n X.env=pure []) (ah:∀y∈n.names,y.2≠.cell) (h0:n.names.lookup (".0":Str)=some NameKind.local) (ao:n.names.lookup xa=some .local) (aq:n.names.lookup xb=some .local) (aH:xa≠xb)
 (da:(xa==("__debug__":Str))=false) (db:(xb==("__debug__":Str))=false)
 (aI:f9 [e1,e2] X.env=(false,eval e1 X.env)::f9 [e2] X.env:=by rfl) (aJ:(iJ p3<|f9 [e2] X.env).any (·.1)=false:=by rfl) :
    PE X (.Call (.Name "all" p1) [.GeneratorExp (.Compare (.Name xa q1) [.Lt] [.Name xb q2] q3) [⟨.Tuple [.Name xa pa,.Name xb pb] kt pt,.Call (.Name "zip" p2) [e1,e2] [] p3,[],0⟩] n E] [] p4) (Jq S P ta):=by
  intro p s σ H Q I h
  have hh:X.A.handled=none:=I.ok.hd aC
  refine jO<|yy I aD aj boot_all<|oN ?_ rfl rfl
  refine jq<|wpAny_GeneratorExp_walksQTD hh aG ag ah h0 ao aq aH hk ae (jO<|yy I aE aF boot_zip<|jt (uR (af p3 p s σ H _ I h) λus m z9=>e2a3 z9 λvs H1 I1 r1 q1=>?_) aI aJ)<|λ_=>rfl
  obtain⟨a,b,ns,ms,rfl,ha,f,⟨U,hP,tr⟩,q⟩:=q1
  obtain⟨ua,ub,rfl,ra,rb⟩:=vals2 r1
  cases ra
  cases rb
  obtain⟨ia,ib,va,vb,aK,aL,aP,bP,aM⟩:=Z.go I1 hh ha f hP
  have B:m.heap.get? P=some (qi U):=I1.uU P _ hP
  have ar:P<m.heap.objs.size:=gl B
  refine aM _ _ λh2 St au W av aN k2=>?_
  refine(W X.A hh).self 0 { m with heap:=h2} _ _ av ?_
  have I2:Inv X p σ H1 { m with heap:=h2}:=I1.kept (t':=m.toks) k2
  refine⟨I2.nolimit,?_⟩
  have aw:qh h2 c P:=G.hd.keeps λb o e=>I2.bk b o e
  have ax:=aw.code (k2 P _ B) tr
  have aO:=aw.tab<|k2 P _ B
  obtain⟨bm,ob,b1,b2,b3,b4,b5,b6⟩:=G.blt
  -- an the J: the sV is U++l,all else is kept
  have Y:∀(J:ci)(D:hR)(R:Nat)(l:Array ci),(∀b o,b≠P->h2.get? b=some o->D.get? b=some o)->h2.objs.size<=D.objs.size->D.get? P=some { cls:=.none,data:=.fields (U++l)}->sZ (U++l).toList ->
      gn (gp X.prog X.w) X.A (builtinsFor X.env.globals X.env.builtins) (λbi d=>∃I fp wr r Pt L au pz F,gC (m.heap.objs.size+4)=.ref I/\(∀A':iR,A'.handled=none->WalksU X.prog X.w A' I fp wr r Pt L au)/\(∀i M,Pt i M->∃va vb,M=#[va,vb])/\L 0 d.heap/\(∀b∈fp,b<d.heap.objs.size)/\d.heap.NoLimit/\qz∉wr /\
          (∀N:hR,(∀b o,d.heap.get? b=some o->N.get? b=some o) ->
            QuietGenTD X.prog X.w (genEnv n [] d.heap.objs.size J bi X.env) xa xb [] (.Compare (.Name xa q1) [.Lt] [.Name xb q2] q3) (gH d.heap.objs.size) wr Pt pz F N (X.A.depth+1) (X.A.units+8)) /\
          (∀a C R gs,gs.bare=true->d.heap.objs.size<a->C.objs.size=a+1->(∀b o,d.heap.get? b=some o->C.get? b=some o) ->
            WalksS X.prog X.w X.A.in4 a (a::d.heap.objs.size::gH d.heap.objs.size) (d.heap.objs.size::wr) (GenOnlyQ d.gens.size) (passing pz r 0).length
              (λj y=>∃i,(passing pz r 0)[j]?=some i/\F i y) (GenAt X.prog X.w X.A.in4 a d.gens.size d.heap.objs.size (gH d.heap.objs.size) wr pz r F) ->
            GenAt X.prog X.w X.A.in4 a d.gens.size d.heap.objs.size (gH d.heap.objs.size) wr pz r F 0 { d with gens:=d.gens.push gs,toks:=R,heap:=C} ->
            gn (gp X.prog X.w) X.A (tE []) (λus ak=>gn (gp X.prog X.w) X.A (call (.builtin "all") (.ref a::us)) (EP X p σ Q) X.xe ak) X.xe { d with gens:=d.gens.push gs,toks:=R,heap:=C})) X.xe { m with heap:=D,toks:=R}:=by
    intro J D R l k3 aQ e3 aR
    have I3:Inv X p σ (upd H1 P<|.Ea<|U++l) { m with heap:=D,toks:=R}:=Inv.tabled (s:={ m with heap:=h2}) (s':={ m with heap:=D,toks:=R}) I2 hP rfl I2.bare k3 e3
    have ay:=I3.bk
    refine wpAny_builtinsFor (by rw[I3.ok.glob];exact I3.mod.glob.keeps ay) b1 b2 (ay _ _ b3) b4 b5 b6 ?_
    have nz:∀k,m.heap.objs.size+k≠P:=λk=>iG<|gD ar<|nQ _ _
    have aS:qz<m.heap.objs.size:=by obtain⟨mc,hn,_⟩:=I1.nolimit;exact hn.lt
    have aa:=va.length
    have ab:=vb.length
    rw[gh] at aa ab
    have aT:∀(i:Nat)(x:ci),ia.toArray[i]?=some x->∃t,x=.int (ns.getD i 0) t:=λi x hx=>qf (zL va) i x (by simpa using hx)
    have aU:∀(i:Nat)(x:ci),ib.toArray[i]?=some x->∃t,x=.int (ms.getD i 0) t:=λi x hx=>qf (zL vb) i x (by simpa using hx)
    have u:∀k,k<5->m.heap.objs.size+k<D.objs.size:=λk hk=>gD (Nat.add_lt_add_left hk _)<|gO (pR aN.symm) aQ
    refine⟨_,_,_,_,_,_,_,(λ_=>true),(λi y=>y=.bool (decide<|ns.getD i 0<ms.getD i 0)),rfl,W,λi M z9=>e2a3 z9 λx y _ _ e=>⟨x,y,e⟩,(W X.A hh).frame _ _ _ av λb f o e=>k3 b o ?_ e,λb f=>?_,I3.nolimit,?_,λN a1=>?_,λg h5 aV gs gb g1 g2 k5 WS GA=>?_⟩
    · simp only[gL, iD, k9] at f
      rcases f with z|z|z|z|z|z|z<;>rw[z]
      · exact nz 4
      · exact nz 2
      · exact nz 3
      · exact nz 0
      · exact nz 1
      · exact aP
      · exact bP
    · simp only[gL, iD, k9] at f
      rcases f with z|z|z|z|z|z|z<;>rw[z]
      · exact u 4 q0q
      · exact u 2 q0q
      · exact u 3 q0q
      · exact u 0 q0q
      · exact u 1 q0q
      · exact mE aK<|u 0 q0q
      · exact mE aL<|u 0 q0q
    · intro f
      simp only[gL,iD,k9] at f
      have T:∀k,qz≠m.heap.objs.size+k:=λk=>gx<|gD aS<|nQ _ _
      rcases f with z|z|z|z
      · exact T 4 z
      · exact T 3 z
      · exact T 0 z
      · exact T 1 z
    · refine⟨λA' E' i az aA s2 m2 _ _ _ _ _ _ _ _ => rA ⟨rfl, s2.heap, s2.toks, rfl, λ_ _ e => e⟩, λA' E' i az aA s2 m2 hA _ _ aW _ hn aj aX _ => ?_⟩
      obtain⟨x,y,hx,hy,e⟩:=aW
      obtain⟨ex,ey⟩:az=x/\aA=y:=by simpa using congrArg rn e
      subst ex ey
      obtain⟨t1,rfl⟩:=aT i _ hx
      obtain⟨t2,rfl⟩:=aU i _ hy
      exact Oz hk ao aq hn aj aX da db ⟨rfl,s2.heap,s2.toks,rfl,λ_ _ e=>e⟩
    · have ai : passing (λ_ => true) (min ia.toArray.size ib.toArray.size) 0 = gH (min ia.toArray.size ib.toArray.size) := by
        unfold passing
        simp
      rw[ai] at WS
      have W1:=WS.in4_1
      refine kj<|call_all_walkS<|W1.self 0 _ _ _ GA ⟨g,_,_,_,_,_,_,(λj=>decide<|ns.getD j 0<ms.getD j 0),rfl,W1,GA,λj v s7 Q' E' hv hq=>?_,λs7 mv=>?_⟩
      · obtain⟨i, hi, rfl⟩ := hv
        have:i=j:=by
          obtain⟨hl,he⟩:=List.getElem?_eq_some_iff.mp hi
          rw[List.getElem_range] at he
          exact he.symm
        subst this
        exact jA hq
      · have k7 : ∀b o, b<D.objs.size -> (∀k, b ≠ m.heap.objs.size+k) -> D.get? b = some o -> s7.heap.get? b = some o := λb o f hn e => mv.heap b o (by
          simp only[gL,iD,k9,oW]
          exact⟨gx f,hn 4,hn 3,hn 0,hn 1⟩) (k5 b o e)
        have O:∀b,b<m.heap.objs.size->∀k,b≠m.heap.objs.size+k:=λb f k=>gx<|gD f<|nQ _ _
        have e7:s7.heap.get? P=some { cls:=.none,data:=.fields (U++l)}:=k7 P _ (gl e3) (O P ar) e3
        have I7:Inv X p σ (upd H1 P<|.Ea<|U++l) s7:=Inv.tabled I1 hP mv.os (AllBare.movedS (s:={ m with heap:=h5,gens:=m.gens.push gs,toks:=aV}) (I1.bare.push gb) mv) (λb o f e=>k7 b o (gl<|k3 b o f<|k2 b o e) (O b<|gl e)<|k3 b o f<|k2 b o e) e7
        refine⟨.bl _,_,I7,rfl,?_⟩
        have al:(gH (gH<|min ia.toArray.size ib.toArray.size).length).all (λj=>decide<|ns.getD j 0<ms.getD j 0)=yE ns ms:=by
          rw[kB,gv,gv,<- aa,<- ab]
          exact So ns ms
        rw[al]
        exact q _ (λb o f e=>by rw[ud f];exact e) (λb f e=>by rw[ud f];exact e) ⟨_,uh,aR⟩
  cases aB:codeAmong E U.toList with
  | none =>
    refine wpAny_genexprCodeX G.code ax aO aB λc' D R hx aY aZ _ _ a0 _=>?_
    refine Y (.ref c') D R #[kM E.line,kM E.col,.ref c'] (λb o f e=>hx b o f e) (gO aY<|kR aZ) a0.2 ?_
    rw[oV]
    exact AN _ tr
  | some cv =>
    refine wpAny_genexprCode_hit G.code ax aB ?_
    have:=Y cv h2 m.toks #[] (λb o _ e=>e) (ga _) (by simpa using k2 P _ B) (by simpa using tr)
    exact this
theorem a0p:Oy X (vA X.K) P:=⟨λ{v M H1 j a b N O A} m R B C D=>by
 refine e1a3 (m.list B) λx F d S=>?_;refine e1a3 (m.list C) λy G f T=>?_;have i:j.heap.get? P=some (qi A):=m.uU P _ D
 have h:∀(l:cr)(g:Array ci),j.heap.IsList l g->l≠P:=λl g n=>e1a3 n λo e c _ z=>by rw[z,i] at e;cases e;cases c
 have k:∀(l:cr)(g:Array ci),j.heap.IsList l g->l<j.heap.objs.size:=λl g n=>e1a2 n λo e _=>gl e;refine⟨x,y,F,G,k _ _ d.isList,k _ _ f.isList,h _ _ d.isList,h _ _ f.isList,λQ E H=>call_zip_2 d.isList f.isList λI J p q r s t u=>?_⟩
 exact H I _ _ (λU L=>(WalksT.zip2 (prog:=X.prog) (w:=X.w) L _ _ _ _ _ _ _ (zipApart_new (k _ _ d.isList) (k _ _ f.isList)) x.toArray y.toArray).toU) ⟨J,p,⟨_,_,q⟩,r,s,d.isList.at λo e=>u _ o e,f.isList.at λo e=>u _ o e⟩ t u⟩
theorem ML{K:fZ}{k:Nat}{f:gk}{C:List ci} 
 (KX:K.In f.heap) (I:f.heap.Ns gz U) (hb:f.heap.Ns ny mb) (ab:∀x:Str,x≠"__name__"->mb x=lY x) (J:f.heap.NoLimit) (hg:f.gens=#[])
 (D:f.heap.get? a=some { cls:=.type "list",data:=.seq C.toArray}) (hi:kd C X) (hl:X.length<=gf) (hr:vD k qw)
 (hT:f.heap.TableAt c tab #[]) (ae:K.lookup tab=none)
 (F:∀base:hR,K.In base->base.Ns gz U->(∀b o,f.heap.get? b=some o->o.cls≠.type "list"->o.cls≠.none->base.get? b=some o)->uL P w K U base CX k fa fd [x] sp) (E:∀(s:gk)(u:ci),rG s fd ⟨[u],[]⟩ [(x,u)])
 (af:∀H:Hp,vA K H a (X.map V.int)->H tab=some (.Ea #[])->sp [.ref a] H (λv _=>v=.bl true) λ_ _ _=>False)
 (ag:∀H e j,CX [] H f (λ_ _ _=>False) e j->False) :
    lJ (gp P w) qw (.call (.ref fa) ⟨[.ref a],[]⟩) (λr j=>r=.ok (.ret<|.bool true)/\OldK f.heap j.heap/\j.os=f.os/\mz j.gens) f:=by
  have rv:=EI hi
  have L:=hi.length
  have l:f.heap.get? tab=some { cls:=.none,data:=.fields #[]}:=hT.2
  have nat:a≠tab:=λz=>by rw[z,l] at D;cases D
  -- from an abstract ah in aa nothing ai the Y and the sV aj be M
  have core:∀H:Hp,(∀b,H b=none\/(b=a/\∃o xs,H b=some (.IH o<|.lst xs))\/(b=tab/\H b=some (.Ea #[])))->vA K H a (X.map V.int)->H tab=some (.Ea #[])->wU P w H f.heap->(H a≠none->K.lookup a=none) ->
      lJ (gp P w) qw (.call (.ref fa) ⟨[.ref a],[]⟩) (λr j=>r=.ok (.ret<|.bool true)/\OldK f.heap j.heap/\j.os=f.os/\mz j.gens) f:=by
    intro H Z hS N O hK
    have freeOf:∀{b:cr} {o:Obj},f.heap.get? b=some o->o.cls≠.type "list"->o.cls≠.none->H b=none:=λ{b o} e c1 c2=>by
      rcases Z b with z|⟨z,_⟩|⟨z,_⟩
      · exact z
      · rw[z, D] at e; cases e; exact gy rfl c1
      · rw[z, l] at e; cases e; exact gy rfl c2
    have y:∀{b:cr} {m:Str->Option ci},f.heap.Ns b m->(Hg f.heap H).Ns b m:=λ{b m} z9=>e3a3 z9 λo es ep e d r=>by
      refine⟨o,es,ep,CO e ?_,d,r⟩
      rcases Z b with z|⟨z,_⟩|⟨z,_⟩
      · exact z
      · rw[z, D] at e; cases e; have d' : Data.seq C.toArray _ = Data.dict es ep := d; cases d'
      · rw[z, l] at e; cases e; have d' : sw #[] = Data.dict es ep := d; cases d'
    have Q:K.In (Hg f.heap H):=λb o e=>CO (KX b o e) (by
      rcases Z b with z|⟨z,_,_,z2⟩|⟨z,_⟩
      · exact z
      · rw[z] at e z2; rw[hK<|by rw[z2]; simp] at e; cases e
      · rw[z, ae] at e; cases e)
    have hM:Mod K U (Hg f.heap H):=⟨Q,y I,⟨mb,y hb,ab⟩,e1a2 J λmc h1 h2=> ⟨mc,y h1,h2⟩⟩
    have e0:Hr P w K U (Hg f.heap H) qw [] f H:=⟨rfl,hM,λb o e=>RB e,pR<|Ma _ _,trivial,λb hb=>gy (show b∈([]:List cr) from hb) q0o,O,.of_eq hg⟩
    refine jl ((F _ Q (y I) λb o e c1 c2=>CO e<|freeOf e c1 c2).run qw [] f H ⟨[.ref a],[]⟩ [.ref a] [.ref a] _ _ hr e0 (E f<|.ref a) (.cons rfl .nil)<|af H hS N) λr j h=>?_
    cases r with
    | error e=>exact(ag H e j h).elim
    | ok fl =>
      cases fl with
      | next=>exact gU h
      | brk=>exact gU h
      | cont=>exact gU h
      | ret u =>
        obtain⟨v,H',os,R,un,B,r',q⟩:=h
        have q':v=.bl true:=q
        subst q'
        obtain rfl:u=qr true:=r'
        have G:∀b o,f.heap.get? b=some o->H b=none->j.heap.get? b=some o:=λb o e n=>un.keep b o e n (by intro z;exact gy (show b∈([]:List cr) from z) q0o) q0o
        obtain⟨more,hm⟩:=un.Aj tab _ N
        have S:j.heap.get? tab=some { cls:=.none,data:=.fields (#[]++more)}:=B tab _ hm
        have p:∀b o,f.heap.get? b=some o->b≠tab->j.heap.get? b=some o:=λb o e n=>by
          rcases Z b with z|⟨_,ob,xs,z⟩|⟨z,_⟩
          · exact G b o e z
          · have z2 := un.Ai b ob _ z
            obtain⟨e1,_⟩:=O b _ z
            obtain⟨e2,_⟩:=B b _ z2
            rw[e] at e1;cases e1
            exact e2
          · exact gy z n
        refine⟨rfl,⟨λb o e=>?_,λb o e=>?_⟩,os,R⟩
        · by_cases t : b = tab
          · subst t
            rw[l] at e
            cases e
            exact .inr<|.inl ⟨hT.isCodeTable,rfl,#[],more,rfl,S⟩
          · exact .inl<|p b o e t
        · by_cases t : b = tab
          · rw[t]; exact⟨_, S⟩
          · exact⟨o, p b o e t⟩
  have T:∀H:Hp,vk P w H f.heap tab (.Ea #[]):=λH=>l
  cases hk:K.lookup a with
  | some o =>
    have e:=KX a o hk
    rw[D] at e
    cases e
    refine core (λb=>if b=tab then some (.Ea #[]) else none) (λb=>?_) (.inr ⟨_,C.toArray,_,hk,rfl,rfl,rfl,by rw[gv,L];exact hl,by simpa using rv⟩) (f7 rfl) (λb u z=>?_) λz=>gy (f8 nat) z
    · by_cases g : b = tab
      · exact .inr<|.inr ⟨g, f7 g⟩
      · exact .inl<|f8 g
    · by_cases g : b = tab
      · have A := (f7 g).symm.trans z
        cases A
        rw[g]
        exact T _
      · have A := (f8 g).symm.trans z
        cases A
  | none =>
    refine core (λb=>if b=tab then some (.Ea #[]) else if b=a then some (.IH { cls:=.type "list",data:=.seq C.toArray} (.lst<|X.map V.int)) else none) (λb=>?_) (.inl<|.inr ⟨{ cls:=.type "list",data:=.seq C.toArray},(f8 nat).trans<|f7 rfl⟩) (f7 rfl) (λb u z=>?_) λ_=>hk
    · by_cases g : b = tab
      · exact .inr<|.inr ⟨g, f7 g⟩
      · by_cases i : b = a
        · exact .inr<|.inl ⟨i, _, _, (f8 g).trans<|f7 i⟩
        · exact .inl<|(f8 g).trans<|f8 i
    · by_cases g : b = tab
      · have A := (f7 g).symm.trans z
        cases A
        rw[g]
        exact T _
      · by_cases i : b = a
        · have A := ((f8 g).trans<|f7 i).symm.trans z
          cases A
          subst i
          exact⟨D,by rw[gh];exact hl,C,_,rv,D⟩
        · have A := ((f8 g).trans<|f8 i).symm.trans z
          cases A
structure HI(mg:Str->Option ci)(base:hR)(c tab:cr):Prop where
 hd:qh base c tab
 blt:∃bm ob,mg "__builtins__"=some (.ref bm)/\bm≠ny/\base.get? bm=some ob/\ob.cls=.type "module"/\ob.dict=some ny/\ob.data=.plain
theorem OA{l:pU}{n k:Nat}{p:List Str}{XP:(Str->Option ci)->hR->Prop}{YP:ic->hR->Prop}{d:DefRec}{K:Params->fZ}{sp:ic->fZ->cr->Sp} 
 (hn:l.most=some n) (L:n<=gf) (M:d.params.defaults=[]) (hr:vD k qw)
 (hY:∀(w:ic)(h:hR),YP w h->(K w.params).In h) (z:(recsOf q).find? (λe=>e.name==tx)=some dx)
 (F:∀(w:ic)(r:Str->Option ci)(I:cr)(h:hR),(K w.params).In h->h.Ns gz r->r d.name=some (.ref I) ->
 ∃(c j:cr)(N:g9),mW (K w.params) tx=some (c,j)/\(K w.params).lookup j=none/\(∀(s:gk)(u:ci),rG s N ⟨[u],[]⟩ [(x,u)]) /\
 ∀i:hR,(K w.params).In i->i.Ns gz r->HI r i c j->uL l.prog w (K w.params) r i CX k I N [x] (sp w (K w.params) j))
 (O:∀(w:ic)(K:fZ)(H:Hp)(a j:cr)(J:List Int),J.length<=n->vA K H a (J.map V.int)->H j=some (.Ea #[])->sp w K j [.ref a] H (λv _=>v=.bl true) λ_ _ _=>False)
 (P:∀(H:Hp)(s:gk)(e:ci)(Q:gk),CX [] H s (λ_ _ _=>False) e Q->False) :
    tY q p XP YP l.row.toRowW d [] (λf vs=>sK f vs):=by
  refine Att.HA hn M λw ab A r mb I o pm cd ae a vs J G Y ho hd af R B t m hg=>?_
  have S:=hY w _ Y
  obtain⟨c,j,N,ht,U,hb,hF⟩:=F w r I _ S G.T.g R
  obtain⟨C,hP⟩:=PySem.W.tab_of G.T S z ht
  obtain⟨bm,ob,b1,b2,b3,X,b5,b6⟩:=G.T.bmain
  refine ML S G.T.g G.T.b G.T.builtins G.T.nolimit hg B t (gO m L) hr (C.tab hP) U (λi kb nb bk=>hF i kb nb ⟨?_,bm,ob,b1,b2,bk _ _ b3 (by rw[X];simp) (by rw[X];simp),X,b5,b6⟩) hb (λH hS hH=>O w _ H a j J m hS hH) λH e Q=>P H A e Q
  obtain⟨o,Z,D,tf,y,tg,aa,E,tt,e1,r1,r2⟩:=C
  exact⟨o,Z,D,tf,y,tg,aa,E,tt,bk _ _ e1 (by rw[r1];simp) (by rw[r1];simp),r1,r2⟩
end L2
namespace SX
open PySem PyProof.Rows
theorem a0q{k:Int}(S:vd w a c s.heap)(h:Q (.bool<|decide<|k∈c) { s with toks:=s.toks+1}):gn (gp b w) A (iT .In (.int k u)<|.ref a) Q E s :=
 wpAny_inSet_of (knd:=jG b w) (k:=k) (oX _ _ _ _) rfl S.of h
theorem V6{k:Int}(S:vd w a d s.heap)(room:d.length+1<=127)
 (h:∀c b e,ij a s.heap c->vd w a b c->b.Perm (if k∈d then d else k::d)->Q .none { s with heap:=c,toks:=e}) :
    gn (gp f w) A (call (.builtin "set.add") [.ref a,.int k u]) Q E s:=by
  refine ie F.slot_set_add S.typeIs F.entry_set_add ?_<|F.args_set_add_2 _ _
  show gn _ _ (oG "add" ⟨[.ref a,.int k u],[]⟩ >>= _) _ _ _
  refine am<|am<|ap<|ap<|am ?_
  refine UQ S room λc b e g i p _=>ap ⟨_,rfl,h c b e g i p⟩
theorem Sq{k:Int}(S:vd w a e s.heap)
 (h:∀c b f,ij a s.heap c->vd w a b c->(if k∈e then e.Perm (k::b) else b=e)->Q .none { s with heap:=c,toks:=f}) :
    gn (gp d w) A (call (.builtin "set.discard") [.ref a,.int k u]) Q E s:=by
  refine ie F.slot_set_discard S.typeIs F.entry_set_discard ?_<|F.args_set_discard_2 _ _
  show gn _ _ (oG "discard" ⟨[.ref a,.int k u],[]⟩ >>= _) _ _ _
  refine am<|am<|ap<|ap<|am ?_
  unfold Builtin.Frozenset.withSetAsKey setDiscard
  refine wpAny_tryCatch ?_
  refine gV<|am<|(jG d w).pyHash (k:=k) (oX _ _ _ _) ?_
  exact EL (s:={ s with toks:=s.toks+1}) S λc b g i p=>ap ⟨_,rfl,h c b _ g i p⟩
theorem Jr(h:∀a,B2 w s.heap.objs.size a->(∀c o,s.heap.get? c=some o->a.get? c=some o)->Q (.ref s.heap.objs.size) { s with heap:=a}) :
  lJ (gp b w) A (.call (.builtin "set.__new__") ⟨[.type "set"],[]⟩) (wants Q E) s:=by
 refine lM<|am<|lR F.newCall_set_0<|ap ⟨j5 oO _,jf F.entry_set_new ?_⟩;rw[iU oO _];unfold Builtin.«set.__new__» oE;have g:=oY;obtain⟨i,j,k,l,m⟩:=s;dsimp only;generalize d:newSet=n
 wp_walk
 subst d;refine Ot λa e f=>?_;exact ap<|h a e f
theorem HJ(h:∀k,vd w s.heap.objs.size [] k->(∀c o,s.heap.get? c=some o->k.get? c=some o)->Q (.ref s.heap.objs.size) { s with heap:=k}):gn (gp n w) A (call (.type "set") []) Q E s:=by
 obtain⟨I,J,p⟩:=F.called_set.mro;have l:=F.called_set.made;have q:=F.called_set.sub;refine lP<|lM<|ap ⟨mO _ q0s,jf F.entry_type_call ?_⟩;rw[sF (tX "set" [] []) rfl];have v:=F.called_set.notType;have x:=F.called_set.canCreate;have y:=F.typeCall_set_0
 repeat (any_goals (first|assumption|wp_step))
 refine jl (Jr (E:=E) (Q:=λf g=>f=.ref s.heap.objs.size/\∃a,g={ s with heap:=a}/\B2 w s.heap.objs.size a/\∀c o,s.heap.get? c=some o->a.get? c=some o) λa j m=>⟨rfl,a,rfl,j,m⟩) λz L b=>?_
 cases z with
 | error e=>exact b
 | ok f1 =>
  cases f1 with
  | ret f =>
   obtain⟨rfl,a,rfl,j,m⟩:=b;have t:vd w s.heap.objs.size [] a:=j.set;have B:kY { s with heap:=a} (.ref s.heap.objs.size) "set":=vd.typeIs (s:={ s with heap:=a}) t;have C:=F.called_set.init.lookup;have D:=F.called_set.init.bind<|.ref s.heap.objs.size
   repeat (any_goals (first|assumption|wp_step))
   refine jl (mH (R:=wants (λr i=>r=.none/\i={ s with heap:=a}) E) F.called_set.init.plain F.entry_set_init<|check_set_init B ?_) λG M d=>?_
   ·obtain⟨H,u,N,O⟩:=id j;unfold Builtin.«set.__init__» noKeywords
    wp_walk
    exact⟨rfl,rfl⟩
   ·cases G with
    | error e=>exact d
    | ok f2 =>
     cases f2 with
     | ret r =>
      obtain⟨rfl,rfl⟩:=d
      repeat (any_goals (first|assumption|wp_step))
      exact h _ t m
     | _=>exact d.elim
  | _=>exact b.elim
end SX
namespace L2
open PySem PySem.Spec PyProof.Rows SX
section
variable{X:Cx}
theorem MM:xQ X (.type "set") (λa H Q=>a=[]/\∀p:cr,H p=none->Q (.ref p) (upd H p<|wq X.w p [])):=by intro b s c H a d Q I r h;obtain⟨rfl,q⟩:=h;cases r;exact HJ λe S k=>⟨.ref s.heap.objs.size,_,I.laid (t':=s.toks) k (ga _)<|FD S,rfl,q _<|I.uU.fresh<|ga _⟩
def a0r(w:ic):R2:=λx y H Q=>∃(k:Int)(a:cr)(b:List Int),x=.int k/\y=.ref a/\H a=some (wq w a b)/\Q (.bl<|decide<|k∈b) H
theorem V7:zW X (iT .In) (a0r X.w):=by intro b s f H x y v u Q I c d h;obtain⟨k,a,g,rfl,rfl,e,q⟩:=h;obtain⟨t,rfl⟩:=c;cases d;exact a0q (yD I e) ⟨.bl _,H,I.tok _,rfl,q⟩
theorem Inv.sset{f:Nat}(I:Inv X c h H s)(i:H a=some (wq X.w a k))(j:ij a s.heap g)(S:vd X.w a d g) :
  Inv X c h (upd H a<|wq X.w a d) { s with heap:=g,toks:=f} :=
 I.write (t':=f) (by rw[i];trivial) (.inl rfl) (λb u n e=>j.extBut b u n e) (e3a2 S λ_ _ _ e _=> ⟨_,e⟩) (FD S)
theorem Sr:Xh X "set.add" (λx d H Q=>∃(a:cr)(c:List Int)(k:Int),x=.ref a/\d=[.int k]/\H a=some (wq X.w a c)/\c.length+1<=127/\∀b:List Int,b.Nodup->b.Perm (if k∈c then c else k::c)->Q .vK (upd H a<|wq X.w a b)):=by intro e s m H x d v n Q I g i h;obtain⟨a,c,k,rfl,rfl,f,j,q⟩:=h;cases g;obtain⟨u,rfl,t,rfl⟩:=i.one;exact V6 (yD I f) j λo b r l S p=>⟨.vK,_,I.sset f l S,rfl,q b S.nodup p⟩
theorem OB:Xh X "set.discard" (λx d H Q=>∃(a:cr)(c:List Int)(k:Int),x=.ref a/\d=[.int k]/\H a=some (wq X.w a c)/\∀b:List Int,b.Nodup->(if k∈c then c.Perm (k::b) else b=c)->Q .vK (upd H a<|wq X.w a b)):=by intro e s l H x d v m Q I g i h;obtain⟨a,c,k,rfl,rfl,f,q⟩:=h;cases g;obtain⟨u,rfl,t,rfl⟩:=i.one;exact Sq (yD I f) λn b o j S p=>⟨.vK,_,I.sset f j S,rfl,q b S.nodup p⟩
def V8(w:ic)(r:V->List V->Hp->VK->Prop)(d:TE)(t:TA):TE:=λb H Q=>d b H λx c=>(∃(a:cr)(e:List Int),x=.ref a/\c a=some (wq w a e))/\t b c λf g=>r x f g Q
variable{o e:hO}{es:List hO}{to:TE}{t:TA}{name:Str}{apos cpos:Pos}{id:String}{r:V->List V->Hp->VK->Prop}
theorem OC(i:Slot "set" name id)(k:typeOf (.builtin id)=pure (.type "method_descriptor"))(q:Xh X id r)(u:PE X o to)(y:PA X (e::es) t)
 (f:gY o name X.env (eval o X.env)=eval o X.env:=by rfl)
 (j:((iJ cpos<|f9 (e::es) X.env).all (λx=>!x.1)&&(l6 cpos<|jX [] X.env).all (λx=>x.1.isSome)&&decide ((e::es).length+([]:List oU).length+(if ([]:List oU).isEmpty then 0 else 1)<30))=true:=by rfl)
 (g:(apos.endLine==cpos.line)=true:=by rfl) (z:f9 (e::es) X.env=(false,eval e X.env)::f9 es X.env:=by rfl) (d:(iJ cpos<|f9 es X.env).any (·.1)=false:=by rfl) :
    PE X (.Call (.Attribute o name apos) (e::es) [] cpos) (V8 X.w r to t):=by
  intro c s l H Q I h
  refine tL f j g rfl<|uR (u c s l H _ I h) λv A m=>e2a4 m λx B n C D E=>?_
  obtain⟨a,W,rfl,G⟩:=D
  cases C
  have S:=yD n G
  refine⟨"set",id,F.plainAttrs_set,i,k,S.typeIs,λb J=>?_,?_⟩
  · cases J
    refine e3a2 S λ_ _ _ L _=>?_
    exact⟨_,L,rfl⟩
  have p:=y cpos c A l B _ n E
  rw[z] at p ⊢
  refine jz (by show (false||(iJ cpos<|f9 es X.env).any (·.1))=false;rw[d]<;>rfl)<|iV ?_
  exact uR p λM N m=>e2a3 m λO P R T U=>q c N l P (.ref a) O (.ref a) M Q R rfl T U
end
def DK(e:cr)(d:Option cr)(h:hR):Prop:=∃o,h.get? e=some o/\o.dict=d
theorem Ss(o:Obj)(f:Array ci->Array ci):(o.mapFields f).dict=o.dict:=by obtain⟨c,d,a,b⟩:=o;cases a<;>rfl
section
variable{M:Model}{A:iR}{E:ci->gk->Prop}{s:gk}{base:hR}{env:Env}{outer:List Env}{L e:cr}{oe:Obj}{vs:Array ci}{a0 cls:ci}{d:Option cr}
theorem UU{c:Bool}(m:A.frames=some (env::outer))(k:s.heap.FunFrames base (env::outer))(I:env.frame=some L)(n:s.heap.get? e=some oe)(p:base.StaysIn s.heap)(r:base.get? e=none)(g:oe.data=.fields vs)(i:1<vs.size)(J:vs[0]?=some a0)
 (h:∀t,Heap.NotedW base (env::outer) e oe.cls a0 (kM L) s.heap t->DK e oe.dict t->Q () { s with heap:=t}) :
    gn M A (do setField (.ref e) 1 (<- EntryCells.newEntry head (<- frameOf env) .none (kM L) .none (<- entryPlaceOf L c))) Q E s:=by
  have N:e∉(env::outer).filterMap (·.frame):=λz=>by
    obtain⟨_,o,w,O⟩:=k.mem z
    rw[n] at w;cases w;exact O _ g
  refine am<|wpAny_frameOf_fun m k I λa l=>am<|wpAny_entryPlaceOf λx j=>?_
  have B:a.get? e=some oe:=(l.2.1 e N).trans n
  have C:base.StaysIn a:=λb o q=>(l.2.1 b λz=>by rw[(k.mem z).1] at q;cases q).trans<|p b o q
  refine am<|hI ?_<|j.sizeOk5 _ _ _ _ _
  have P:∃f:Array ci,(([head,.ref L,.none,kM L,.none]++(if x.isEmpty then jZ 6 Value.none else x)).toArray=f)/\f[3]?=some (kM L):=⟨_,rfl,by first|(simp;done)|(rcases j with rfl|⟨_,_,_,_,_,_,_,rfl⟩<;>simp)⟩
  obtain⟨f,R,S⟩:=P
  rw[R]
  have u:=ce (h:=a) { cls:=.type "traceback",dict:=none,data:=.fields f} B
  have D:a.objs.size≠e:=iG<|gl B
  refine md u g i<|h _ ?_ ?_
  · have F := Obj.data_mapFields g (·.setIfInBounds 1 (gC a.objs.size))
    have T:=hZ (Obj.mapFields (·.setIfInBounds 1 (gC a.objs.size))) u<|Obj.isFreed_of_fields F
    have U:=(gW (a.push { cls:=.type "traceback",dict:=none,data:=.fields f}) (Obj.mapFields (·.setIfInBounds 1 (gC a.objs.size)))<|Ne.symm D).trans<|gu a rfl
    have v:∀b o,b≠e->a.get? b=some o->((a.push { cls:=.type "traceback",dict:=none,data:=.fields f}).update e (Obj.mapFields (·.setIfInBounds 1 (gC a.objs.size)))).get? b=some o:=λb o z q =>
      (gW _ _<|Ne.symm z).trans (ce _ q)
    have G:∀b o,s.heap.get? b=some o->(∀vs,o.data≠.fields vs)->b≠e:=λb o q z y=>by rw[y,n] at q;cases q;exact z _ g
    refine⟨λb o q=>v b o (λz=>by rw[z,r] at q;cases q)<|C b o q,k.of_keeps λb o q z=>?_,?_,λb o q z=>?_⟩
    · obtain⟨H, y⟩ := l.2.2 b o q
      exact⟨_,v b _ (G b o q z) y,rfl⟩
    · exact⟨_, _, a.objs.size, _, _, T, ⟨Obj.cls_mapFields _ _, by rw[Array.getElem?_setIfInBounds_ne q0q]; exact J⟩, F, by simp[i], C.fresh, D, U, rfl, S⟩
    · obtain⟨H, y⟩ := l.2.2 b o q
      exact⟨H,v b _ (G b o q z) y⟩
  · exact⟨_, hZ _ u<|Obj.isFreed_of_fields<|Obj.data_mapFields g _, Ss _ _⟩
theorem Su(c:A.frames=some (env::outer))(l:s.heap.FunFrames base (env::outer))(g:env.frame=some L)(i:s.heap.get? e=some oe)(f:base.StaysIn s.heap)(b:base.get? e=none)(j:oe.data=.fields vs)(k:vs[1]?=some .none)(m:vs[0]?=some a0)
 (h:∀a,Heap.HeldW base (env::outer) e oe.cls a0 L a->s.heap.UpToSlots a->DK e oe.dict a->Q () { s with heap:=a}):gn M A (td (.ref e) env) Q E s:=by
  unfold td
  simp only[g]
  refine am<|iv i j k ?_
  rw[f8 q0q]
  exact UU c l g i f b j (Array.getElem?_eq_some_iff.mp k).1 m λa n=>e0a4 n λo p q r y=>h a ⟨o,b,p,q⟩ r y
theorem Sv(h:A.frames=some (env::outer))(p:env.frame=some L)(i:kQ base (env::outer) e cls a0 s.heap)(x:DK e d s.heap)
 (B:∀f,Heap.HeldW base (env::outer) e cls a0 L f->s.heap.UpToSlots f->DK e d f->Q () { s with heap:=f}):gn M A (td (.ref e) env) Q E s:=by
  obtain⟨j,g,C,oe,vs,T,N,O,k,⟨rfl,D⟩,r,t,l,m,n,c,u⟩:=i
  obtain⟨P,v,rfl⟩:=x
  rw[k] at v;cases v
  unfold td
  simp only[p]
  refine am<|iv k r t ?_
  rw[f7<|show (gC T != Value.none)=true from by simp]
  refine am<|iv n c u ?_
  rw[f8<|show ¬((Value.none==kM L)=true) from by simp[kM]]
  refine am<|md n c (Array.getElem?_eq_some_iff.mp u).1 ?_
  have a:∀b,b≠T->(s.heap.update T (Obj.mapFields (·.setIfInBounds 3 Value.none))).get? b=s.heap.get? b:=λb z=>gW _ _<|Ne.symm z
  have w:∀b o,s.heap.get? b=some o->(∀vs,o.data≠.fields vs)->b≠T:=λb o q z y=>by rw[y,n] at q;cases q;exact z _ c
  refine UU h (C.of_keeps λb o q z=>⟨o,(a b<|w b o q z).trans q,rfl⟩) p ((a e<|Ne.symm m).trans k) (λb o q=>(a b λz=>by rw[z,l] at q;cases q).trans<|j b o q) g r (Array.getElem?_eq_some_iff.mp t).1 D
    λf F=>e0a4 F λG H I J y=>B f ⟨G,g,H,I⟩ (λb o q z=>J b o ((a b<|w b o q z).trans q) z) y
theorem Yi(n:base.StaysIn s.heap)(p:base.get? e=none)(C:s.heap.FunFrames base l)(D:s.heap.TracedAtW base e cls a0 H)(F:DK e d s.heap)
 (h:∀m,kQ base l e cls a0 m->s.heap.UpToSlots m->DK e d m->Q () { s with heap:=m}):gn M A (setFlight (.ref e) none) Q E s:=by
  obtain⟨oe,vs,T,I,J,r,g,u,v,i,j,t,a,G⟩:=D
  obtain⟨N,w,rfl⟩:=F
  rw[r] at w;cases w
  have k:=(Array.getElem?_eq_some_iff.mp G).1
  have c:∀b,b≠T->(s.heap.update T (Obj.mapFields (·.setIfInBounds 3 ((none:Option cr).elim Value.none λf=>kM f)))).get? b=s.heap.get? b:=λb z=>gW _ _<|Ne.symm z
  have x:∀b o,s.heap.get? b=some o->(∀vs,o.data≠.fields vs)->b≠T:=λb o q z y=>by rw[y,t] at q;cases q;exact z _ a
  have B:=(c e<|Ne.symm j).trans r
  refine am<|iv r u v ?_
  rw[f7<|show (gC T != Value.none)=true from by simp]
  refine md t a k<|h _ ⟨λb o q=>(c b λz=>by rw[z,i] at q;cases q).trans<|n b o q,p,C.of_keeps λb o q z=>⟨o,(c b<|x b o q z).trans q,rfl⟩,?_⟩ (λb o q z=>⟨o.slots,(c b<|x b o q z).trans q⟩) ⟨_,B,rfl⟩
  exact⟨oe,vs,T,_,_,B,g,u,v,i,j,hZ _ t<|Obj.isFreed_of_fields<|Obj.data_mapFields a _,Obj.data_mapFields a _,by simp[k]⟩
theorem Ac(b:A.frames=some (env::outer))(k:s.heap.FunFrames base (env::outer))(l:env.frame=some L)(m:s.heap.get? e=some oe)(c:base.StaysIn s.heap)(f:base.get? e=none)(n:oe.data=.fields vs)(o:vs[1]?=some .none)(p:vs[0]?=some a0)
 (h:∀a,kQ base outer e oe.cls a0 a->s.heap.UpToSlots a->DK e oe.dict a->Q () { s with heap:=a}):gn M A (tG env<|.ref e) Q E s:=by
  refine am<|Su b k l m c f n o p λq g=>e0a4 g λr t u v w x=>Yi (s:={ s with heap:=q}) r t u v x λy g=>e0a4 g λz B ⟨_,_,C⟩ D i j=>?_
  exact h y ⟨z,B,C,D⟩ (w.trans i) j
theorem OD(b:A.frames=some (env::outer))(j:env.frame=some L)(c:kQ base (env::outer) e cls a0 s.heap)(k:DK e d s.heap)
 (l:∀a,kQ base outer e cls a0 a->s.heap.UpToSlots a->DK e d a->Q () { s with heap:=a}):gn M A (tG env<|.ref e) Q E s:=by
  refine am<|Sv b j c k λm f=>e0a4 f λn o p q r g=>Yi (s:={ s with heap:=m}) n o p q g λt f=>e0a4 f λu v ⟨_,_,w⟩ x h i=>?_
  exact l t ⟨u,v,w,x⟩ (r.trans h) i
end
class GX where
 g:cr->Option cr->Hp->Prop
variable[GX]
structure Dd(P:gS)(w:ic)(outer:List Env)(H:Hp)(s:gk)(H':Hp)(C x:cr)(s':gk):Prop where
 os:s'.os=s.os
 bare:mz s'.gens
 un:Un (yp outer) [] H H' s.heap s'.heap
 uU:wU P w H' s'.heap
 dct:∃d,DK x d s'.heap/\GX.g C d H'
 fly:∃(B:hR)(a0:ci),kQ B outer x (.ref C) a0 s'.heap/\∀b o,s'.heap.get? b=some o->(H' b≠none\/∃o0,s.heap.get? b=some o0)->b∉yp outer->B.get? b=some o
def uV(P:gS)(w:ic):NU:=λa H s E e c=>∃(C x:cr)(b:Hp),e=.ref x/\Dd P w a H s b C x c/\E (.ref C) (some x) b
theorem zM(x:wU P w H h)(e:H a=some o):∃u,h.get? a=some u:=by
 have d:∀o:HO,vk P w H h a o->∃u,h.get? a=some u:=by
  intro o q
  cases o with
  | lst i=>obtain⟨_,_,_,_,z⟩:=q;exact⟨_,z⟩
  | tup i=>obtain⟨_,_,_,c,z,_⟩:=q;exact⟨_,z⟩
  | dK g=>obtain⟨_,_,_,_,c,_,_,z,_⟩:=q;exact⟨_,z⟩
  | dT g=>obtain⟨_,_,_,_,c,_,_,z,_⟩:=q;exact⟨_,z⟩
  | set S n=>obtain⟨c,_,_,_,z,_⟩:=q;exact⟨_,z⟩
  | ins C j fs=>obtain⟨_,_,_,z,_⟩:=q;exact⟨_,z⟩
  | own b=>exact q
  | xd fs=>obtain⟨k,⟨c,_,_,z,_⟩,_⟩:=q;exact⟨_,z⟩
  | xO lo l=>obtain⟨_,_,_,z⟩:=q;exact⟨_,z⟩
  | IH c u=>exact⟨_,q.1⟩
  | Ea m=>exact⟨_,q⟩
  | met f y=>exact⟨_,q⟩
  | ext p=>exact q.2.1
 exact d o<|x a o e
section
variable{P:gS}{w:ic}{l:List Env}{H H':Hp}{s s2:gk}{B h':hR}
theorem OE(u:Un (yp l) [] H H' s.heap s2.heap)(m:wU P w H' s2.heap)(g:∀b o,s2.heap.get? b=some o->(H' b≠none\/∃D,s.heap.get? b=some D)->b∉yp l->B.get? b=some o)
 (i:∀b∈yp l,H' b=none/\∃o,s2.heap.get? b=some o/\∀E,o.data≠.fields E)(p:B.StaysIn h')(F:s2.heap.UpToSlots h'):Un (yp l) [] H H' s.heap h'/\wU P w H' h':=by
  have d:∀b o,s2.heap.get? b=some o->b∈yp l->∃r,h'.get? b=some { o with slots:=r}:=λb o e G=>by
    obtain⟨_,t,C,n⟩:=i b G
    rw[e] at C
    cases C
    exact F b o e n
  refine⟨⟨λb o e n f h=>?_,λb o e n f h=>?_,λb o e n h=>u.free b o e n h,λb o e h=>?_,u.Az,u.Ai,u.Aj⟩,λa o e=>?_⟩
  · exact p b o<|g b o (u.keep b o e n f h) (.inr ⟨o, e⟩) f
  · obtain⟨r, k⟩ := u.slot b o e n f h
    obtain⟨x,y⟩:=d b _ k f
    exact⟨x,y⟩
  · obtain⟨t, k⟩ := u.there b o e h
    by_cases f:b∈yp l
    · obtain⟨r, y⟩ := d b _ k f
      exact⟨_,y⟩
    · exact⟨_, p b t<|g b t k (.inr ⟨o, e⟩) f⟩
  · have I : ∀c, H' c ≠ none -> c ∉ yp l := λc A f => A (i c f).1
    refine(m a o e).Cd (λc v A q=>?_) (λ_ q=>q) λ_ _ q=>q
    have j:H' c≠none:=by
      rcases A with z|z
      · rw[z, e]; simp
      · rw[z]; simp
    exact p c v<|g c v q (.inl j)<|I c j
end
section
variable{X:Cx}{pins:List (cr×Obj)}{σ:St}{H1 H':Hp}{s1 s2:gk}{C x:cr}{B h':hR}{a0:ci}
theorem wX(I:Inv X pins σ H1 s1)(a:X.stack=X.env::X.outer):X.env.frame=some X.env.locals:=by
 rcases I.ok.Bj with z|z
 ·rw[a] at z;have:=congrArg m7 z;simp at this
 ·exact z.2
theorem MN(I:Inv X pins σ H1 s1)(a:X.stack=X.env::X.outer):yp X.stack=X.env.locals::yp X.outer:=by rw[a];unfold yp;rw[jU,wX I a]
theorem Js(I:Inv X pins σ H1 s1)(D:X.stack=X.env::X.outer)(hex:X.ex=[])(os:s2.os=s1.os)(m:mz s2.gens)(u:Un (yp X.stack) [] H1 H' s1.heap s2.heap)(p:wU X.prog X.w H' s2.heap)
 (r:∀b o,s2.heap.get? b=some o->(H' b≠none\/∃k,s1.heap.get? b=some k)->b∉yp X.stack->B.get? b=some o) (Yj:∀b∈yp X.stack,H' b=none/\∃o,s2.heap.get? b=some o/\∀R,o.data≠.fields R)
 (up:s2.heap.UpToSlots h')(E:kQ B X.outer x (.ref C) a0 h')(F:∃d,DK x d h'/\GX.g C d H'):Dd X.prog X.w X.outer X.H₀ X.s₀ H' C x { s2 with heap:=h'}:=by
  obtain⟨i,s⟩:=OE u p r Yj E.1 up
  have t:=MN I D
  have base:Un (yp X.outer) [] X.H₀ H1 X.s₀.heap s1.heap:=by have:=I.base;rw[hex] at this;exact this
  have L:∀b:cr,b∉([]:List cr):=λb z=>by cases z
  have old:∀b o,X.s₀.heap.get? b=some o->b≠X.env.locals:=λb o e z=>by
    have S:=gl e
    have M:=I.ok.above
    rw[<- z] at M
    exact gy (gD S M)<|jj _
  have y:∀b o,X.s₀.heap.get? b=some o->b∉yp X.outer->b∉yp X.stack:=λb o e n z=>by
    rw[t] at z
    rcases List.mem_cons.mp z with q|q
    · exact old b o e q
    · exact n q
  refine⟨os.trans I.os,m,⟨λb o e n j a=>?_,λb o e n j a=>?_,λb o e n a=>?_,λb o e a=>?_,λb N e=>?_,λb o v e=>?_,λb T e=>?_⟩,s,F,B,a0,E,λb o e A j=>?_⟩
  · exact i.keep b o (base.keep b o e n j a) (base.free b o e n a) (y b o e j) a
  · obtain⟨sl, c⟩ := base.slot b o e n j a
    obtain⟨G,f⟩:=i.slot b _ c (base.free b o e n a) (by rw[t];exact gg _ j) a
    exact⟨G,f⟩
  · obtain⟨l, c⟩ := base.there b o e a
    exact i.free b l c (base.free b o e n a) a
  · obtain⟨l, c⟩ := base.there b o e a
    exact i.there b l c a
  · exact i.Az b N<|base.Az b N e
  · exact i.Ai b o v<|base.Ai b o v e
  · obtain⟨U, c⟩ := base.Aj b T e
    obtain⟨W,f⟩:=i.Aj b _ c
    exact⟨U++W,by rw[f,o9]⟩
  · have fin : ∀h, s2.heap.get? b = some h -> (H' b ≠ none \/ ∃k, s1.heap.get? b = some k) -> b ∉ yp X.stack -> B.get? b = some o := λh f H J => by
      have q:=r b h f H J
      have O:=E.1 b h q
      have Y:h'.get? b=some o:=e
      rw[Y] at O
      cases O
      exact q
    rcases A with A|⟨k,P⟩
    · obtain⟨Q, Z⟩ : ∃Q, H' b = some Q := by
        cases z:H' b with
        | none=>exact gy z A
        | some v=>exact⟨v,rfl⟩
      obtain⟨h,f⟩:=zM p Z
      exact fin h f (.inl A) λz=>A (Yj b z).1
    · obtain⟨l, c⟩ := base.there b k P (L b)
      obtain⟨h,f⟩:=u.there b l c<|L b
      exact fin h f (.inr ⟨l,c⟩)<|y b k P j
theorem Dd.Yj(F:Dd P w l H s H' C x s2)(c:∀b∈yp l,H b=none/\∃o,s.heap.get? b=some o):∀b∈yp l,H' b=none/\∃o,s2.heap.get? b=some o/\∀d,o.data≠.fields d:=λb a=>by refine e2a2 F.fly λB a0 f _=>?_;obtain⟨n,o,e⟩:=c b a;exact⟨F.un.free b o e n q0o,(f.2.2.1.mem a).2⟩
theorem Inv.Zv(I:Inv X pins σ H1 s1):∀b∈yp X.stack,H1 b=none/\∃o,s1.heap.get? b=some o:=λb a=>by have c:=I.Ht;exact⟨c.IC b a,e1a2 ((c.xC.mem a).2) λo e _=> ⟨o,e⟩⟩
theorem OF(I:Inv X pins σ H1 s1)(a:X.stack=X.env::X.outer)(b:X.ex=[])(F:Dd X.prog X.w X.stack H1 s1 H' C x s2) :
  gn (gp X.prog X.w) X.A (tG X.env<|.ref x) (λ_ c=>Dd X.prog X.w X.outer X.H₀ X.s₀ H' C x c) E s2:=by
 have i:=F.Yj I.Zv;refine e2a2 F.fly λB a0 h e=>?_;rw[a] at h;refine e1a2 F.dct λd j k=>?_;refine OD (by rw[I.ok.frames,a]) (wX I a) h j λh' f l g=>?_;exact Js I a b F.os F.bare F.un F.uU e i l f ⟨d,g,k⟩
end
section
variable{P:gS}{w:ic}{K:fZ}{mg:Str->Option ci}{base:hR}{N:List Str}{qual:Str}{scope:kZ}{f:cr}{cd:ci}{A:iR}{outer:List Env}{s:gk}{H:Hp}{E:XK}
theorem De:Passes (uV P w) (uY (uV P w) P w K mg base N qual scope f cd A outer s H E) E:=by intro a i j k e l I h;obtain⟨C,x,b,rfl,F,c⟩:=h;exact io (OF I rfl rfl F) (λ_ d g=>⟨C,x,b,rfl,g,c⟩) λ_ _ z=>z
theorem ya:qL (gp P w) (uY (uV P w) P w K mg base N qual scope f cd A outer s H E).A (uY (uV P w) P w K mg base N qual scope f cd A outer s H E).env (uY (uV P w) P w K mg base N qual scope f cd A outer s H E).xe:=PassesOwn.leaving
end
variable[L2.GX]
set_option tactic.hygienic true in
theorem Sw{K:fZ}(Z:K.In h)(y:iH K C d b=true) :
  ∃j N t q u c v e w f x z A B E F k,h.get? C=some (iZ t q C N u j c v e w f x z A B E F b)/\h.Ns N k/\k "__init__"=none/\rM h d j:=by
 unfold iH at y;split at y
 ·rename_i G H l a
  split at y
  ·rename_i D I m n o p g r J L
   simp only[g8,beq_iff_eq,tP] at y;obtain⟨⟨⟨⟨⟨M,O⟩,P⟩,Q⟩,s⟩,R⟩:=y;subst M;subst O;obtain⟨S,T,u3,U,X,Y,u7,u8,u9,i,aa⟩:=H;subst J;subst P
   have e3:l=#[m,n,o,p,some<|.builtin g,r]:=by obtain⟨li⟩:=l;exact congrArg Array.mk L
   rw[e3] at a;exact⟨I,U,S,X,T,Y,u7,u8,u9,i,G,m,n,o,p,r,_,Z _ _ a,.of_isNs<|oZ Z s,PySem.W.nsMap_none_of_in Z s R,sj Z Q⟩
  ·cases y
 ·cases y
def OG(C:cr)(E:XK)(a:TA):TS:=λ_ b H=>a b H λc d=>c.length<=gf/\∀x:cr,E (.ref C) (some x) d
section
variable{P:gS}{w:ic}{K:fZ}{mg:Str->Option ci}{base:hR}{N:List Str}{qual:Str}{scope:kZ}{f:cr}{cd:ci}{A:iR}{outer:List Env}{s:gk}{H:Hp}{E:XK}
theorem Df(hg:Gl (uY (uV P w) P w K mg base N qual scope f cd A outer s H E) x)(hm:mg x=some (.ref C))(O:iH K C v i=true)
 (Y:jI B i n v) (g0:∀H',GX.g C none H') (ha:PA (uY (uV P w) P w K mg base N qual scope f cd A outer s H E) (y::p) ta) (F:(x==("__debug__":Str))=false:=by decide)
 (r:f9 (y::p) (uY (uV P w) P w K mg base N qual scope f cd A outer s H E).env=(false,eval y (uY (uV P w) P w K mg base N qual scope f cd A outer s H E).env)::f9 p (uY (uV P w) P w K mg base N qual scope f cd A outer s H E).env:=by rfl)
 (G:(iJ d<|f9 p (uY (uV P w) P w K mg base N qual scope f cd A outer s H E).env).any (·.1)=false:=by rfl) :
    PS (uY (uV P w) P w K mg base N qual scope f cd A outer s H E) (.Raise (some<|.Call (.Name x np) (y::p) [] d) none pos) (OG C E ta):=by
  intro k s1 σ H1 D I h
  obtain⟨bm,N',nm,q,bs,l,sn,J,ab,L,dd,k0,k1,k2,k3,k5,mN,hC,hN,M,T⟩:=Sw I.mod.Ay O
  have Z:=ha d k s1 σ H1 _ I h
  refine wpAny_Raise_call_subT (prog:=P) (w:=w) (C:=C) (nm:=nm) (q:=q) (N:=N') (bs:=bs) (bm:=bm) (hdct:=l) (sn:=sn) (sub:=J) (ab:=ab) (col:=L) (dd:=dd) (k0:=k0) (k1:=k1) (k2:=k2) (k3:=k3) (k5:=k5)
    Y (mN:=mN) (T.hasType Y.hasBase) (I.ok.hd rfl) (by rw[r];exact(Bool.false_or _).trans G) M (yx I hg hm ⟨rfl,?_⟩ F)
  rw[r] at Z ⊢
  refine iV<|io Z (λus u q2=>?_) λ_ _ z=>z
  refine e2a4 q2 λvs H2 c r2 hl hE=>?_
  refine⟨rfl,by show us.length<=gf;rw[<- r2.length];exact hl,c.bk _ _ hC,hN.keeps c.bk,T.keeps c.bk,λh' e a=>?_⟩
  have m:(uY (uV P w) P w K mg base N qual scope f cd A outer s H E).stack=(uY (uV P w) P w K mg base N qual scope f cd A outer s H E).env::(uY (uV P w) P w K mg base N qual scope f cd A outer s H E).outer:=rfl
  have fu:=c.Ht.xC
  refine e1a3 a.there λt R _ _=>?_
  have S:(kW u.heap<|yp (uY (uV P w) P w K mg base N qual scope f cd A outer s H E).stack).get? e=none:=by
    cases q:(kW u.heap<|yp (uY (uV P w) P w K mg base N qual scope f cd A outer s H E).stack).get? e with
    | none=>rfl
    | some o=>have z:=mr _ q;rw[a.new] at z;cases z
  refine io (Ac (base:=kW u.heap (yp (uY (uV P w) P w K mg base N qual scope f cd A outer s H E).stack)) (a0:=.ref t) c.ok.frames
    ((qO fu λU r b j=>List.mem_filterMap.mpr ⟨U,r,j⟩).of_keeps λb o j _=>⟨o,a.keeps b o j,rfl⟩) (wX c m) R (λb o z=>a.keeps b o (mr _ z)) S rfl rfl rfl (Q:=λ_ X=>uV P w outer H s E (.ref e) X) λaa fl up dk=>?_) (λ_ _ z=>z) λ_ _ z=>z
  refine⟨C,e,H2,rfl,?_,hE e⟩
  refine Js (s2:=u) c m rfl rfl c.bare Un.refl c.uU (λb o z _ nf=>oy _ z nf) (λb j=>?_) ((pF a.keeps).trans up) fl ⟨_,dk,g0 _⟩
  exact⟨(c.Zv b j).1,(fu.mem j).2⟩
end
abbrev hand(X:Cx)(x:cr):Cx:={ X with A:=X.A.mark<|some<|.ref x,calm:=false,xe:=λ_ _=>False}
theorem Inv.a0t(I:Inv { X with pn:=X.pn++a} b c H s):Inv X a c H s :=
 ⟨⟨I.ok.mod,I.ok.kind,I.ok.glob,I.ok.blt,I.ok.above,I.ok.inj,I.ok.has,I.ok.Ny,I.ok.hd,I.ok.frames,I.ok.Bj,I.ok.RD,I.ok.bs,I.ok.Hh,I.ok.Ce,I.ok.CP,I.ok.xC,I.ok.IC⟩,I.os,I.bare,I.base,I.loc,I.cell,I.free,I.xh,λp d=>I.pin p<|il _ d,I.uU,I.len⟩
theorem Inv.OH(I:Inv X a b H s):Inv (hand X x) a b H s :=
 ⟨⟨I.ok.mod,I.ok.kind,I.ok.glob,I.ok.blt,I.ok.above,I.ok.inj,I.ok.has,I.ok.Ny,(λz=>by cases z),I.ok.frames,I.ok.Bj,I.ok.RD,I.ok.bs,I.ok.Hh,I.ok.Ce,I.ok.CP,I.ok.xC,I.ok.IC⟩,I.os,I.bare,I.base,I.loc,I.cell,I.free,I.xh,I.pin,I.uU,I.len⟩
theorem Inv.FF(b:X.calm=true->X.A.handled=none)(I:Inv (hand X x) a c H s):Inv X a c H s :=
 ⟨⟨I.ok.mod,I.ok.kind,I.ok.glob,I.ok.blt,I.ok.above,I.ok.inj,I.ok.has,I.ok.Ny,b,I.ok.frames,I.ok.Bj,I.ok.RD,I.ok.bs,I.ok.Hh,I.ok.Ce,I.ok.CP,I.ok.xC,I.ok.IC⟩,I.os,I.bare,I.base,I.loc,I.cell,I.free,I.xh,I.pin,I.uU,I.len⟩
end L2
namespace SX
open PySem PyProof.Rows
theorem HK:mu (.type "dict") "__len__"=pure (some<|.builtin "dict.__len__"):=by rw[mV,kO];kernel_rfl
section
variable{prog:gS}{w:ic}{K:Type}[DecidableEq K]{knd:KeyKind prog w K}{A:iR}{E:ci->gk->Prop}{s:gk}{a:cr}{ks:List Int}{wv:List (K×ci)}{ep:Nat}
theorem MO(hh:A.handled=none)(G:(a==j4)=false)(D:s.heap.DictAt knd a wv ep)(hl:wv.length<=gf)(S:wv.length=ks.length)
 (hk:∀(i:Nat)(k:K)(x:ci)(v:ci),wv[i]?=some (k,x)->knd.is k v=true->∃j u,ks[i]?=some j/\v=.int j u)
 (h:∀T tk vs,kd vs ks->(∀c o,s.heap.get? c=some o->T.get? c=some o)->s.heap.objs.size<=T.objs.size->Q vs { s with heap:=T,toks:=tk}):gn (gp prog w) A (collect<|.ref a) Q E s:=by
  have f:a<s.heap.objs.size:=D.lt_size
  obtain⟨o0,aj,H,l,ak,al⟩:=id D
  refine am<|sf<|jf sX ?_
  rw[iU sY _]
  refine am (m:=newList [])<|hI<|ap ⟨j5 nL _,jf F.entry_list_iadd ?_⟩
  rw[iU nL _]
  have z:∀c o,s.heap.get? c=some o->(s.heap.push { cls:=.type "list",data:=.seq ([]:List ci).toArray}).get? c=some o:=λc o q=>ce _ q
  have oL:(s.heap.push { cls:=.type "list",data:=.seq ([]:List ci).toArray}).get? s.heap.objs.size=some { cls:=.type "list",data:=.seq ([]:List ci).toArray}:=gu _ rfl
  have g:(s.heap.push { cls:=.type "list",data:=.seq ([]:List ci).toArray}).objs.size=s.heap.objs.size+1:=iW _ _
  generalize s.heap.push { cls:=.type "list",data:=.seq ([]:List ci).toArray}=d at z oL g ⊢
  have D1:d.DictAt knd a wv ep:=D.at' λo q=>z a o q
  show gn _ A.in1 (pi (.ref s.heap.objs.size) (.ref a)<|.ref s.heap.objs.size) _ _ { s with heap:=d}
  have hT:kY { s with heap:=d} (.ref a) "dict":=⟨_,z a _ H,l.1⟩
  refine am<|jY hT ?_
  have n1:kG (.ref s.heap.objs.size) (.ref a)=false:=by simp[kG,iG f]
  have n2:(ju "dict" == ju "list")=false:=by decide
  have n3:(ju "dict" == ju "tuple")=false:=by decide
  simp only[n1,n2,n3,qZ,kf,oC]
  refine am<|wpAny_pyIter_dict (s:={ s with heap:=d}) G D1 ?_
  have I:∀c o,d.get? c=some o->(d.push { cls:=.type "dict_keyiterator",data:=.fields #[.ref a,.int 0 0,.int wv.length 0,.int ep 0]}).get? c=some o:=λc o q=>ce _ q
  have i2:(d.push { cls:=.type "dict_keyiterator",data:=.fields #[.ref a,.int 0 0,.int wv.length 0,.int ep 0]}).get? d.objs.size=some { cls:=.type "dict_keyiterator",data:=.fields #[.ref a,.int 0 0,.int wv.length 0,.int ep 0]}:=gu _ rfl
  generalize d.push { cls:=.type "dict_keyiterator",data:=.fields #[.ref a,.int 0 0,.int wv.length 0,.int ep 0]}=U at I i2 ⊢
  have p:kY { s with heap:=U} (.ref a) "dict":=⟨_,I a _<|z a _ H,l.1⟩
  refine am<|gV ?_
  refine am<|o4 p HK ?_
  generalize J:("dict.__len__":String)=X
  dsimp only
  rw[show splitId X=some ("dict","__len__") from by subst J;decide +kernel]
  subst J
  refine am<|lq (b:=true) p F.sub_dict_dict ?_
  rw[f8 q0o]
  rw[f7 q0s]
  refine am<|jY p<|ap ?_
  have Y:A.in1.handled=none:=by simp[hh]
  have ne:a≠d.objs.size:=gx<|mE f (by rw[g];exact iQ _)
  have W:=(Walks.dictKeys (knd:=knd) (A:=A.in1) Y d.objs.size a ne wv ep).toS
  have Z:s.heap.objs.size∉[d.objs.size,a]:=by
    simp only[gL,iD,k9,oW]
    exact⟨by rw[g];exact gx<|iQ _,iG f⟩
  have t:=I _ _ oL
  -- the ai,B an L aa of it
  have M:∀(C:hR)(N:Nat),C.get? s.heap.objs.size=some { cls:=.type "list",data:=.seq ([]:List ci).toArray N}->(∀c o,c≠s.heap.objs.size->U.get? c=some o->C.get? c=some o) ->
      lJ (gp prog w) A (.builtin "list.extend.loop" ⟨[.ref s.heap.objs.size,.ref d.objs.size,.ref s.heap.objs.size],[]⟩) (λr s'=>match r with
        | .ok (.ret v)=>gn (gp prog w) A (match v with
          | .ref a=>do
            let o <- load a
            match o.data with
              | .seq xs ab=>pure xs.toList
              | x=>ku "internal:collect"
          | x=>ku "internal:collect") Q E s'
        | .ok _=>False
        | .error e=>E e s') { s with heap:=C}:=by
    intro C N y k4
    have I4:C.IsKeyIter d.objs.size a 0 wv.length ep/\C.DictAt knd a wv ep:=⟨⟨_,k4 _ _ (by rw[g];exact iG<|iQ _) i2,rfl,rfl⟩,D1.at' λo q=>k4 _ _ (gx f)<|I _ _ q⟩
    refine codeAny_extend_loopS W hl _ Z _ wv.length 0 _ _ _ rfl (im _) I4 y (ItemsOf.nil _) λs5 ae c5 R O n=>?_
    refine am<|qb O<|ap ?_
    obtain⟨h5,g5,d5,af,ag⟩:=s5
    have eg:g5=s.gens:=R.gens
    have ed:d5=s.drawn:=R.drawn
    have eo:ag=s.os:=R.os
    subst eg ed eo
    refine h h5 af ae.toList (zg ?_ λi v hv=>?_) (λc o q=>R.heap c o (by
      simp only[gL,iD,k9,oW]
      exact⟨gx (gl q),gx (gl (z c o q))⟩) (k4 c o (gx (gl q)) (I c o (z c o q)))) (kR (gl O))
    · rw[gm, n.1, S]
    · obtain⟨k, x, hx, ah⟩ := n.2 i v (by rw[<- gZ]; exact hv)
      exact hk i k x v hx ah
  first
    | (rw[f8 q0s];exact ap ⟨j5 pE _,M U 0 t λ_ _ _ q=>q⟩)
    | (rw[f7 q0s]
       refine am<|k8<|am ?_
       refine am<|o7 t rfl ?_
       have P:=hZ (Obj.mapSeq (·.push Value.none)) t rfl
       refine o7 P rfl ?_
       have y:=hZ (Obj.mapSeq (·.pop)) P rfl
       refine ap ⟨j5 pE _,M _ _ y λc o hc q=>(gW _ _ (Ne.symm hc)).trans ((gW _ _ (Ne.symm hc)).trans q)⟩)
end
end SX
namespace L2
open PySem PySem.Spec PyProof.Rows SX
theorem Sy{k:Int}(h:yX (.inl k) v=true):∃u,v=.int k u:=by
 rcases vp h with⟨i,t,e,rfl⟩|⟨x,t,e,_⟩
 ·cases e;exact⟨t,rfl⟩
 ·cases e
theorem V9:∀{b:List (Key×V)} {c:List (Key×ci)} (_:KV b c) (i:Nat) {k:Key} {x:ci},c[i]?=some (k,x)->∃y,b[i]?=some (k,y):=by
 intro _ _ z
 induction z with
 | nil=>intro i _ _ h;cases h
 | cons a t d =>
  intro i k x h
  cases i with
  | zero=>cases h;exact⟨_,congrArg some<|Prod.ext a.1 rfl⟩
  | succ i=>exact e1a1 (d i<|by simpa using h) λy q=>⟨y,by simpa using q⟩
theorem FG(J:X.calm=true):xQ X (.builtin "sorted") (λC H Q=>∃(a:cr) (b:List (Key×V)) (c:List Int),C=[.ref a]/\H a=some (.dK b)/\b.map (·.1)=c.map gM/\c.length<64/\∀(p:cr)(t:List Int),H p=none->t.Perm c->t.Pairwise (·<=·)->Q (.ref p) (upd H p<|.lst<|t.map V.int)):=by
 intro E s σ H C us Q I r h;obtain⟨a,b,c,rfl,L,f,g,q⟩:=h;obtain⟨u,rfl,M⟩:=vals1 r;cases M;obtain⟨hz,l,F,G,N⟩:=I.uU a _ L;obtain⟨o,O,P,R,z,m,d⟩:=N;have D:s.heap.DictAt (uJ X.prog X.w) a F P:=⟨o,O,R,z,m,d⟩;have S:b.length=F.length:=Paired.length G;have T:b.length=c.length:=by have:=congrArg m7 f;simpa using this
 refine BA (λQ' k=>MO (by simp[I.ok.hd J]) l D q0a q0a (λi U x v W A=>?_) λY Z B hi k1 sz=>k Y Z B c hi (.refl _) k1 sz) g<|Aq I g q;obtain⟨y,hy⟩:=V9 G i W;have n:(b.map (·.1))[i]?=some U:=by rw[i4,hy];rfl
 rw[f,i4] at n
 cases e:c[i]? with
 | none=>rw[e] at n;cases n
 | some j =>
  rw[e] at n;cases n;obtain⟨u,hu⟩:=Sy A;exact⟨j,u,rfl,hu⟩
end L2
namespace WL
open PySem L2
abbrev Wf(A τ PO:Type):=A->(τ->PO->Prop)->(cr->PO->Prop)->Prop
abbrev Rg:=cr->Prop
structure Ext(G R:Rg)(H:Hp)(R':Rg)(H':Hp):Prop where
 keep:∀b o,¬G b->H b=some o->H' b=some o
 new:∀a,R' a->R a\/H a=none
theorem Ext.wide(e:Ext G R H c d)(s:∀a,G a->R a):Ext R R H c d:=⟨λb o n h=>e.keep b o (λg=>n<|s b g) h,e.new⟩
theorem Ext.not(e:Ext G R H b c)(n:¬R a)(h:H a=some o):¬b a:=λz=>by
 rcases e.new a z with q|q
 ·exact n q
 ·rw[h] at q;cases q
class Rep(α:Type) where
 rp:Rg->Hp->α->V->Prop
 st:∀{R:Rg} {H:Hp} {R':Rg} {H':Hp} {x:α} {v:V},rp R H x v->Ext R R H R' H'->rp R' H' x v
open Rep (rp)
instance:Rep Int:=⟨λ_ _ i v=>v=.int i,λh _=>h⟩
instance:Rep Bool:=⟨λ_ _ i v=>v=.bl i,λh _=>h⟩
instance:Rep Unit:=⟨λ_ _ _ v=>v=.vK,λh _=>h⟩
instance{α:Type}[Rep α]:Rep (Option α):=⟨λR H x v=>match x with|none=>v=.vK|some y=>v≠.vK/\rp R H y v,λ{R H R' H' x v} h e=>by
 cases x with
 | none=>exact h
 | some y=>exact⟨h.1,Rep.st h.2 e⟩⟩
theorem vq{α:Type}[Rep α]{R R':Rg}{H H':Hp}(e:Ext R R H R' H'):∀{xs:List α} {vs:List V},Paired (rp R H) xs vs->Paired (rp R' H') xs vs:=by
 intro _ _ z
 induction z with
 | nil=>exact .nil
 | cons h t ih=>exact .cons (Rep.st h e) ih
instance{α:Type}[Rep α]:Rep (List α):=⟨λR H xs v=>∃a vs,v=.ref a/\¬R a/\H a=some (.lst vs)/\Paired (rp R H) xs vs,λ{R H R' H' x v} h e=>by
 refine e2a4 h λa vs h1 h2 h3 h4=>?_
 exact⟨a,vs,h1,e.not h2 h3,e.keep a _ h2 h3,vq e h4⟩⟩
instance{α β:Type}[Rep α][Rep β]:Rep (α×β):=⟨λR H x v=>∃a u w,v=.ref a/\¬R a/\H a=some (.tup [u,w])/\rp R H x.1 u/\rp R H x.2 w,λ{R H R' H' x v} h e=>by
 obtain⟨a,u,w,h1,h2,h3,h4,h5⟩:=h
 exact⟨a,u,w,h1,e.not h2 h3,e.keep a _ h2 h3,Rep.st h4 e,Rep.st h5 e⟩⟩
structure Tp(α:Type) where
 l:List α
instance{α:Type}[Rep α]:Rep (Tp α):=⟨λR H xs v=>∃a vs,v=.ref a/\¬R a/\H a=some (.tup vs)/\Paired (rp R H) xs.l vs,λ{R H R' H' x v} h e=>by
 refine e2a4 h λa vs h1 h2 h3 h4=>?_
 exact⟨a,vs,h1,e.not h2 h3,e.keep a _ h2 h3,vq e h4⟩⟩
class Ow(τ:Type) where
 sl:Rg->Rg->Hp->τ->Option V->Prop
 st:∀{F G R:Rg} {H:Hp} {R':Rg} {H':Hp} {x:τ} {v:Option V},sl F R H x v->Ext G R H R' H'->(∀a,G a->R a)->(∀a,F a->¬G a)->sl F R' H' x v
 fq:∀{F F' R:Rg} {H:Hp} {x:τ} {v:Option V},sl F R H x v->(∀a,F a↔F' a)->sl F' R H x v
open Ow (sl)
structure Un where
instance:Ow Un:=⟨λF _ _ _ _=>∀a,¬F a,λh _ _ _=>h,λh e a z=>h a ((e a).mpr z)⟩
instance a1e{α:Type}[Rep α]:Ow α:=⟨λF R H x v=>(∀a,¬F a)/\∃u,v=some u/\rp R H x u,λh e s _=>⟨h.1,e1a2 h.2 λu h1 h2=> ⟨u,h1,Rep.st h2 (e.wide s)⟩⟩,λh e=>⟨λa z=>h.1 a ((e a).mpr z),h.2⟩⟩
structure OL(α:Type) where
 l:List α
instance{α:Type}[Rep α]:Ow (OL α):=⟨λF R H x v=>∃a vs,v=some (.ref a)/\(∀b,F b↔b=a)/\H a=some (.lst vs)/\Paired (rp R H) x.l vs,
 λh e s n=>by
  refine e2a4 h λa vs h1 h2 h3 h4=>?_
  exact⟨a,vs,h1,h2,e.keep a _ (n a<|(h2 a).mpr rfl) h3,vq (e.wide s) h4⟩,
 λh e=>by
  refine e2a4 h λa vs h1 h2 h3 h4=>?_
  exact⟨a,vs,h1,λb=>(e b).symm.trans (h2 b),h3,h4⟩⟩
class Sls(D:Type) where
 rel:Rg->Rg->Hp->D->St->Prop
 st:∀{F G R:Rg} {H:Hp} {R':Rg} {H':Hp} {d:D} {σ:St},rel F R H d σ->Ext G R H R' H'->(∀a,G a->R a)->(∀a,F a->¬G a)->rel F R' H' d σ
 fq:∀{F F' R:Rg} {H:Hp} {d:D} {σ:St},rel F R H d σ->(∀a,F a↔F' a)->rel F' R H d σ
open Sls (rel)
instance:Sls Unit:=⟨λF _ _ _ σ=>σ=[]/\∀a,¬F a,λh _ _ _=>h,λh e=>⟨h.1,λa z=>h.2 a ((e a).mpr z)⟩⟩
structure Cj(F F1 F2:Rg):Prop where
 all:∀a,F a↔F1 a\/F2 a
 xj:∀a,F1 a->F2 a->False
instance{τ D:Type}[Ow τ][Sls D]:Sls (τ×D):=⟨λF R H d σ=>∃v σ' F1 F2,σ=v::σ'/\Cj F F1 F2/\sl F1 R H d.1 v/\rel F2 R H d.2 σ',
 λh e s n=>by
  refine e4a4 h λv σ' F1 F2 h1 h2 h3 h4=>?_
  exact⟨v,σ',F1,F2,h1,h2,Ow.st h3 e s<|λa z=>n a<|(h2.all a).mpr<|.inl z,Sls.st h4 e s<|λa z=>n a<|(h2.all a).mpr<|.inr z⟩,
 λh e=>by
  refine e4a4 h λv σ' F1 F2 h1 h2 h3 h4=>?_
  exact⟨v,σ',F1,F2,h1,⟨λa=>(e a).symm.trans (h2.all a),h2.xj⟩,h3,h4⟩⟩
class At(i:Nat)(B:Type)[Sls B](τ:outParam Type)[Ow τ](B':outParam Type)[Sls B'] where
 get:B->τ
 hole:B->B'
 take:∀{F R:Rg} {H:Hp} {b:B} {σ:St},rel F R H b σ->∃v F1 F2,σ[i]?=some v/\Cj F F1 F2/\sl F1 R H (get b) v/\rel F2 R H (hole b) σ
class Pt(i:Nat)(B':Type)[Sls B'](τ:Type)[Ow τ](B:outParam Type)[Sls B] where
 put:B'->τ->B
 back:∀{F F1 F2 R:Rg} {H:Hp} {b:B'} {x:τ} {v:Option V} {σ:St},rel F2 R H b σ->Cj F F1 F2->sl F1 R H x v->rel F R H (put b x) (σ.set i v)
theorem set_same:∀{l:List b} {i:Nat} {v:b},l[i]?=some v->l.set i v=l
 | [],_,_,h=>by simp at h
 | _::_,0,_,h=>by simp at h;subst h;rfl
 | a::r,i+1,v,h=>by show a::r.set i v=a::r;rw[set_same<|by simpa using h]
theorem Pt.same{i:Nat}{B' τ B:Type}[Sls B'][Ow τ][Sls B][A:Pt i B' τ B]{F F1 F2 R:Rg}{H:Hp}{b:B'}{x:τ}{v:Option V}{σ:St}(h:rel F2 R H b σ)(e:σ[i]?=some v)(t:Cj F F1 F2)(s:sl F1 R H x v):rel F R H (A.put b x) σ:=by have:=A.back h t s;rw[set_same e] at this;exact this
instance at0{τ D:Type}[Ow τ][Sls D]:At 0 (τ×D) τ (Un×D) where
 get b:=b.1
 hole b:=(⟨⟩,b.2)
 take:=λh=>by refine e4a4 h λv σ' F1 F2 h1 h2 h3 h4=>?_;exact⟨v,F1,F2,by rw[h1];rfl,h2,h3,v,σ',λ_=>False,F2,h1,⟨λa=>⟨.inr,λz=>z.elim (λq=>q.elim) id⟩,λ_ z _=>z⟩,λ_ z=>z,h4⟩
instance pt0{τ D:Type}[Ow τ][Sls D]:Pt 0 (Un×D) τ (τ×D) where
 put b x:=(x,b.2)
 back:=λ{F F1 F2 R H b x v σ} h t s=>by refine e4a4 h λv' σ' G1 G2 h1 h2 h3 h4=>?_;have e2:∀a,G2 a↔F2 a:=λa=>⟨λz=>(h2.all a).mpr<|.inr z,λz=>((h2.all a).mp z).elim (λq=>gy q<|h3 a) id⟩;exact⟨_,σ',F1,F2,by rw[h1];rfl,t,s,Sls.fq h4 e2⟩
instance atS{i:Nat}{ρ τ D D':Type}[Ow ρ][Ow τ][Sls D][Sls D'][A:At i D τ D']:At (i+1) (ρ×D) τ (ρ×D') where
 get b:=A.get b.2
 hole b:=(b.1,A.hole b.2)
 take:=λh=>by
  refine e4a4 h λv σ' F1 F2 h1 h2 h3 h4=>?_;refine e3a4 (A.take h4) λu G1 G2 k1 k2 k3 k4=>?_;refine⟨u,G1,λa=>F1 a\/G2 a,by rw[h1];simpa using k1,⟨λa=>?_,λa z q=>?_⟩,k3,v,σ',F1,G2,h1,⟨λa=>Iff.rfl,λa z q=>h2.xj a z<|(k2.all a).mpr<|.inr q⟩,h3,k4⟩
  ·rw[h2.all,k2.all];exact⟨λz=>z.elim (λq=>.inr<|.inl q) λz=>z.elim .inl λq=>.inr<|.inr q,λz=>z.elim (λq=>.inr<|.inl q) λz=>z.elim .inl λq=>.inr<|.inr q⟩
  ·rcases q with q|q
   ·exact h2.xj a q<|(k2.all a).mpr<|.inl z
   ·exact k2.xj a z q
instance ptS{i:Nat}{ρ τ D D':Type}[Ow ρ][Ow τ][Sls D][Sls D'][A:Pt i D' τ D]:Pt (i+1) (ρ×D') τ (ρ×D) where
 put b x:=(b.1,A.put b.2 x)
 back:=λ{F F1 F2 R H b x v σ} h t s=>by
  refine e4a4 h λv' σ' G1 G2 h1 h2 h3 h4=>?_;have t':Cj (λa=>F1 a\/G2 a) F1 G2:=⟨λa=>Iff.rfl,λa z q=>t.xj a z<|(h2.all a).mpr<|.inr q⟩;refine⟨v',σ'.set i v,G1,λa=>F1 a\/G2 a,by rw[h1];rfl,⟨λa=>?_,λa z q=>?_⟩,h3,A.back h4 t' s⟩
  ·rw[t.all,h2.all];exact⟨λz=>z.elim (λq=>.inr<|.inl q) λz=>z.elim .inl λq=>.inr<|.inr q,λz=>z.elim (λq=>.inr<|.inl q) λz=>z.elim .inl λq=>.inr<|.inr q⟩
  ·rcases q with q|q
   ·exact t.xj a q<|(h2.all a).mpr<|.inl z
   ·exact h2.xj a z q
class Fg(D:Type)[Sls D](D':Type)[Sls D'] where
 fg:D->D'
 le:∀{F R:Rg} {H:Hp} {d:D} {σ:St},rel F R H d σ->∃F',(∀a,F' a->F a)/\rel F' R H (fg d) σ
instance fgId{D:Type}[Sls D]:Fg D D:=⟨id,λh=>⟨_,λ_ z=>z,h⟩⟩
theorem two_le{F d e b c:Rg}(t:Cj F d e)(f:∀a,b a->d a)(g:∀a,c a->e a):Cj (λa=>b a\/c a) b c:=⟨λ_=>Iff.rfl,λa x y=>t.xj a (f a x)<|g a y⟩
instance(priority:=low) fgUn {τ D D':Type} [Ow τ] [Sls D] [Sls D'] [A:Fg D D']:Fg (τ×D) (Un×D'):=⟨λd=>(⟨⟩,A.fg d.2),λh=>by
 obtain⟨v,σ',F1,F2,h1,h2,h3,h4⟩:=h;obtain⟨F',k1,k2⟩:=A.le h4
 exact⟨_,λa z=>(h2.all a).mpr (.inr (k1 a (z.elim (λq=>q.elim) id))),v,σ',λ_=>False,F',h1,⟨λa=>Iff.rfl,λ_ z _=>z⟩,λ_ z=>z,k2⟩⟩
instance fgCons{τ D D':Type}[Ow τ][Sls D][Sls D'][A:Fg D D']:Fg (τ×D) (τ×D'):=⟨λd=>(d.1,A.fg d.2),λh=>by
 refine e4a4 h λv σ' F1 F2 h1 h2 h3 h4=>?_;refine e1a2 (A.le h4) λF' k1 k2=>?_
 exact⟨_,λa z=>(h2.all a).mpr (z.elim .inl λq=>.inr (k1 a q)),v,σ',F1,F',h1,two_le h2 (λ_ z=>z) k1,h3,k2⟩⟩
class Pj(D:Type)[Sls D](P:Type)[Sls P](n:outParam Nat) where
 pj:D->P
 le:∀{F R:Rg} {H:Hp} {d:D} {σ:St},rel F R H d σ->∃F',(∀a,F' a->F a)/\rel F' R H (pj d) (σ.take n)
instance pjNil{D:Type}[Sls D]:Pj D Unit 0:=⟨λ_=>(),λh=>⟨λ_=>False,λ_ z=>z.elim,rfl,λ_ z=>z⟩⟩
instance(priority:=low) pjUn {τ D P:Type} {n:Nat} [Ow τ] [Sls D] [Sls P] [A:Pj D P n]:Pj (τ×D) (Un×P) (n+1):=⟨λd=>(⟨⟩,A.pj d.2),λh=>by
 obtain⟨v,σ',F1,F2,h1,h2,h3,h4⟩:=h;obtain⟨F',k1,k2⟩:=A.le h4
 exact⟨_,λa z=>(h2.all a).mpr (.inr (k1 a (z.elim (λq=>q.elim) id))),v,σ'.take n,λ_=>False,F',by rw[h1];rfl,⟨λa=>Iff.rfl,λ_ z _=>z⟩,λ_ z=>z,k2⟩⟩
instance pjCons{τ D P:Type}{n:Nat}[Ow τ][Sls D][Sls P][A:Pj D P n]:Pj (τ×D) (τ×P) (n+1):=⟨λd=>(d.1,A.pj d.2),λh=>by
 refine e4a4 h λv σ' F1 F2 h1 h2 h3 h4=>?_;refine e1a2 (A.le h4) λF' k1 k2=>?_
 exact⟨_,λa z=>(h2.all a).mpr (z.elim .inl λq=>.inr (k1 a q)),v,σ'.take n,F1,F',by rw[h1];rfl,two_le h2 (λ_ z=>z) k1,h3,k2⟩⟩
class Sel(is:List Nat)(D:Type)[Sls D](S:outParam Type)[Sls S](D0:outParam Type)[Sls D0] where
 sel:D->S
 rest:D->D0
 mrg:D0->S->D
 cut:∀{F R:Rg} {H:Hp} {d:D} {σ:St},rel F R H d σ->∃F1 F2,Cj F F1 F2/\rel F1 R H (sel d) (is.map λi=>σ[i]?.join)/\rel F2 R H (rest d) σ/\∀i∈is,i<σ.length
 join:∀{F F1 F2 R:Rg} {H:Hp} {d:D0} {s:S} {σ:St},Cj F F1 F2->rel F1 R H s (is.map λi=>σ[i]?.join)->rel F2 R H d σ->(∀i∈is,i<σ.length)->rel F R H (mrg d s) σ
instance selNil{D:Type}[Sls D]:Sel [] D Unit D where
 sel _:=()
 rest d:=d
 mrg d _:=d
 cut:=λ{F R H d σ} h=>⟨λ_=>False,F,⟨λa=>⟨.inr,λz=>z.elim (λq=>q.elim) id⟩,λ_ z _=>z⟩,⟨rfl,λ_ z=>z⟩,h,λ_ z=>by cases z⟩
 join:=λ{F F1 F2 R H d s σ} t h1 h2 _=>Sls.fq h2 λa=>⟨λz=>(t.all a).mpr<|.inr z,λz=>((t.all a).mp z).elim (λq=>gy q<|h1.2 a) id⟩
instance selCons{i:Nat}{is:List Nat}{D τ D1 S D0:Type}[Sls D][Ow τ][Sls D1][Sls S][Sls D0][A:At i D τ D1][P:Pt i D1 τ D][B:Sel is D1 S D0]:Sel (i::is) D (τ×S) D0 where
 sel d:=(A.get d,B.sel<|A.hole d)
 rest d:=B.rest<|A.hole d
 mrg d s:=P.put (B.mrg d s.2) s.1
 cut:=λ{F R H d σ} h=>by
  refine e3a4 (A.take h) λv F1 F2 h1 h2 h3 h4=>?_;refine e2a4 (B.cut h4) λG1 G2 k1 k2 k3 k4=>?_;have hv:σ[i]?.join=v:=by rw[h1];rfl
  refine⟨λa=>F1 a\/G1 a,G2,⟨λa=>?_,λa z q=>?_⟩,⟨v,_,F1,G1,by rw[gK,hv],⟨λ_=>Iff.rfl,λa z q=>h2.xj a z<|(k1.all a).mpr<|.inl q⟩,h3,k2⟩,k3,λj hj=>?_⟩
  ·rw[h2.all,k1.all];exact⟨λz=>z.elim (λq=>.inl<|.inl q) λz=>z.elim (λq=>.inl<|.inr q) .inr,λz=>z.elim (λz=>z.elim .inl λq=>.inr<|.inl q) λq=>.inr<|.inr q⟩
  ·rcases z with z|z
   ·exact h2.xj a z<|(k1.all a).mpr<|.inr q
   ·exact k1.xj a z q
  ·rcases List.mem_cons.mp hj with e|e
   ·rw[e];exact(List.getElem?_eq_some_iff.mp h1).1
   ·exact k4 j e
 join:=λ{F F1 F2 R H d s σ} t h1 h2 hl=>by
  refine e4a4 h1 λv σ' G1 G2 k1 k2 k3 k4=>?_;rw[gK] at k1;injection k1 with e1 e2;subst e2;have hi:i<σ.length:=hl i gc
  have ev:σ[i]?=some v:=by rw[iP hi] at e1 ⊢;exact congrArg some e1
  have t2:Cj (λa=>G2 a\/F2 a) G2 F2:=⟨λ_=>Iff.rfl,λa z q=>t.xj a ((k2.all a).mpr<|.inr z) q⟩;refine Pt.same (B.join t2 k4 h2 λj hj=>hl j<|gg _ hj) ev ⟨λa=>?_,λa z q=>?_⟩ k3
  ·rw[t.all,k2.all];exact⟨λz=>z.elim (λz=>z.elim .inl λq=>.inr<|.inl q) λq=>.inr<|.inr q,λz=>z.elim (λq=>.inl<|.inl q) λz=>z.elim (λq=>.inl<|.inr q) .inr⟩
  ·rcases q with q|q
   ·exact k2.xj a z q
   ·exact t.xj a ((k2.all a).mpr<|.inl z) q
structure vm(T:cr){D:Type}[Sls D](F R:Rg)(H:Hp)(d:D)(σ:St):Prop where
 rel:rel F R H d σ
 sub:∀a,F a->R a
 wu:∀a,R a->H a≠none
 tab:TabAt H T
 uW:R T
 uM:¬F T
theorem yk(t:TabAt H T):H T≠none:=by refine e1a2 t λa e _=>?_;rw[e];simp
structure Ch(T:cr)(F R:Rg)(H:Hp)(F' R':Rg)(H':Hp):Prop where
 keep:∀b o,¬F b->b≠T->H b=some o->H' b=some o
 zh:∀a,R' a->R a\/H a=none
 xo:∀a,F' a->F a\/H a=none
 left:∀a,R a->¬F a->R' a
theorem Ch.refl(T:cr)(F R:Rg)(H:Hp):Ch T F R H F R H:=⟨λ_ _ _ _ h=>h,λ_ h=>.inl h,λ_ h=>.inl h,λ_ h _=>h⟩
theorem Ch.trans{T:cr}{D:Type}[Sls D]{d:D}{u:St}{F R k l m p:Rg}{H j r:Hp}(s:vm T F R H d u)(v:TabAt j T)(a:Ch T F R H k l j)(b:Ch T k l j m p r):Ch T F R H m p r:=by
 have g:∀c,¬F c->H c≠none->¬k c:=λc n h z=>by
  rcases a.xo c z with q|q
  ·exact n q
  ·exact h q
 have f:∀c,j c=none->¬(F c)->H c=none:=λc h n=>by
  cases e:H c with
  | none=>rfl
  | some o =>
   have w:c≠T:=λz=>by rw[z] at h;exact yk v h
   rw[a.keep c o n w e] at h;cases h
 refine⟨λc o n t h=>b.keep c o (g c n<|by rw[h];simp) t<|a.keep c o n t h,λc h=>?_,λc h=>?_,λc h n=>b.left c (a.left c h n)<|g c n<|s.wu c h⟩
 ·rcases b.zh c h with q|q
  ·exact a.zh c q
  ·by_cases i:F c
   ·exact .inl<|s.sub c i
   ·exact .inr<|f c q i
 ·rcases b.xo c h with q|q
  ·exact a.xo c q
  ·by_cases i:F c
   ·exact .inl i
   ·exact .inr<|f c q i
theorem Ch.ext(c:Ch T F R H f d e):Ext (λa=>F a\/a=T) R H d e:=⟨λb o n h=>c.keep b o (λz=>n<|.inl z) (λz=>n<|.inr z) h,c.zh⟩
theorem vm.val{T:cr}{D:Type}[Sls D]{d:D}{σ:St}{F R F' R':Rg}{H H':Hp}(s:vm T F R H d σ)(c:Ch T F R H F' R' H'){α:Type}[Rep α]{x:α}{v:V}(h:rp R H x v):rp R' H' x v :=
 Rep.st h (c.ext.wide λa z=>z.elim (s.sub a) λq=>by rw[q];exact s.uW)
theorem vm.new{T:cr}{D:Type}[Sls D]{d:D}{c:St}{F R:Rg}{H:Hp}(s:vm T F R H d c){p:cr}(o:HO)(f:H p=none):vm T F R (upd H p o) d c/\Ch T F R H F R (upd H p o)/\¬R p:=by
 have g:¬R p:=λz=>s.wu p z f;have k:∀b u,H b=some u->upd H p o b=some u:=λb u e=>by rw[ud<|uo e f];exact e
 refine⟨⟨Sls.st s.rel (G:=λ_=>False) ⟨λb u _ e=>k b u e,λa h=>.inl h⟩ (λ_ z=>z.elim)<|λ_ _ z=>z,s.sub,λa z=>?_,?_,s.uW,s.uM⟩,⟨λb u _ _ e=>k b u e,λa h=>.inl h,λa h=>.inl h,λa h _=>h⟩,g⟩
 ·cases e:H a with
  | none=>exact gy e<|s.wu a z
  | some u=>rw[k a u e];simp
 ·refine e1a2 s.tab λi e t=>?_;exact⟨i,k _ _ e,t⟩
def EW(X:Cx)(E:XK)(T:cr)(e:hO){D α:Type}[Sls D][Rep α](w:Wf D α D):Prop :=
 ∃t,PE X e t/\∀(d:D)(F R:Rg)(σ:St)(H:Hp)(Kn:α->D->Prop)(Ke:cr->D->Prop)(Q:VK),vm T F R H d σ->w d Kn Ke ->
  (∀x d' v F' R' H',Kn x d'->Ch T F R H F' R' H'->vm T F' R' H' d' σ->rp R' H' x v->Q v H') ->
  (∀C y d' F' R' H',Ke C d'->Ch T F R H F' R' H'->vm T F' R' H' d' σ->E (.ref C) (some y) H')->t σ H Q
structure Nw(T:cr){τ:Type}[Ow τ](F1 F2 R:Rg)(H:Hp)(x:τ)(v:V):Prop where
 is:sl F1 R H x (some v)
 sub:∀a,F1 a->R a
 xj:∀a,F1 a->F2 a->False
 tab:¬F1 T
def EO(X:Cx)(E:XK)(T:cr)(e:hO){D h:Type}[Sls D][Ow h](w:Wf D h D):Prop :=
 ∃t,PE X e t/\∀(d:D)(F R:Rg)(g:St)(H:Hp)(j:h->D->Prop)(k:cr->D->Prop)(Q:VK),vm T F R H d g->w d j k ->
  (∀x f v l i c b,j x f->Ch T F R H (λa=>l a\/i a) c b->vm T i c b f g->Nw T l i c b x v->Q v b) ->
  (∀C y f m c b,k C f->Ch T F R H m c b->vm T m c b f g->E (.ref C) (some y) b)->t g H Q
def TW(X:Cx)(E:XK)(T:cr)(e:hO){D:Type}[Sls D](w:Wf D Bool D):Prop :=
 ∃t,PT X e t/\∀(d:D)(F R:Rg)(g:St)(H:Hp)(h:Bool->D->Prop)(i:cr->D->Prop)(Q:Bool->Hp->Prop),vm T F R H d g->w d h i ->
  (∀x b c f a,h x b->Ch T F R H c f a->vm T c f a b g->Q x a) ->
  (∀C y b c f a,i C b->Ch T F R H c f a->vm T c f a b g->E (.ref C) (some y) a)->t g H Q
section
variable{D:Type}[Sls D]
theorem Wa{F R F1 F2 R':Rg}{H H':Hp}{d d':D}{σ:St}{α:Type}[Rep α]{x:OL α}{v:V}(s:vm T F R H d σ)(c:Ch T F R H (λa=>F1 a\/F2 a) R' H')(s':vm T F2 R' H' d' σ)(n:Nw T F1 F2 R' H' x v) :
  ∃IE,Ch T F R H F2 IE H'/\vm T F2 IE H' d' σ/\rp IE H' x.l v:=by
 have ex:Ext (λ_=>False) R' H' (λa=>R' a/\¬F1 a) H':=⟨λ_ _ _ h=>h,λa h=>.inl h.1⟩;refine⟨λa=>R' a/\¬F1 a,⟨c.keep,λa h=>c.zh a h.1,λa h=>c.xo a<|.inr h,λa h k=>⟨c.left a h k,λz=>?_⟩⟩,⟨Sls.st s'.rel ex (λ_ z=>z.elim)<|λ_ _ z=>z,λa h=>⟨s'.sub a h,λz=>n.xj a z h⟩,λa h=>s'.wu a h.1,s'.tab,⟨s'.uW,n.tab⟩,s'.uM⟩,?_⟩
 ·rcases c.xo a (.inl z) with q|q
  ·exact k q
  ·exact s.wu a h q
 ·refine e2a4 n.is λa vs h1 h2 h3 h4=>?_;cases h1;exact⟨a,vs,rfl,λz=>z.2<|(h2 a).mpr rfl,h3,vq (ex.wide λ_ z=>z.elim) h4⟩
theorem uG{α:Type}[Rep α]{w:Wf D (OL α) D}(h:EO X E T e w):EW X E T e (λd Kn Ke=>w d (λx d'=>Kn x.l d') Ke):=by refine e1a2 h λt h1 h2=>?_;refine⟨t,h1,λd F R σ H Kn Ke Q s hw kn ke=>h2 d F R σ H _ Ke Q s hw (λx d' v F1 F2 R' H' q c s' n=>?_) ke⟩;refine e1a3 (Wa s c s' n) λIE c2 s2 r=>?_;exact kn x.l d' v F2 IE H' q c2 s2 r
theorem wG{F R:Rg}{H:Hp}{d:D}{σ:St}{α:Type}[Rep α]{xs:List α}{vs:List V}{p:cr}(s:vm T F R H d σ)(hp:H p=none)(h:Paired (rp R H) xs vs) :
  ∃R',Ch T F R H (λa=>a=p\/F a) R' (upd H p<|.lst vs)/\vm T F R' (upd H p<|.lst vs) d σ/\Nw T (λa=>a=p) F R' (upd H p<|.lst vs) (OL.mk xs) (.ref p):=by
 refine e0a3 (s.new (.lst vs) hp) λs1 c1 n1=>?_;have nF:¬F p:=λz=>n1<|s.sub p z;have ex:Ext (λ_=>False) R H (λa=>R a\/a=p) (upd H p<|.lst vs):=⟨λb o _ h=>by rw[ud<|uo h hp];exact h,λa h=>h.elim .inl λq=>.inr<|by rw[q];exact hp⟩;refine⟨λa=>R a\/a=p,⟨c1.keep,ex.new,λa h=>h.elim (λq=>.inr<|by rw[q];exact hp) .inl,λa h _=>.inl h⟩,⟨Sls.st s.rel ex (λ_ z=>z.elim)<|λ_ _ z=>z,λa h=>.inl<|s.sub a h,λa h=>?_,s1.tab,.inl s.uW,s.uM⟩,⟨⟨p,vs,rfl,λb=>Iff.rfl,uh,vq (ex.wide λ_ z=>z.elim) h⟩,λa h=>.inr h,λa h k=>nF (by rw[<- h];exact k),λh=>n1<|by rw[<- h];exact s.uW⟩⟩;rcases h with h|h
 ·exact s1.wu a h
 ·rw[h,uh];simp
theorem Sz{i:Nat}{τ D':Type}[Ow τ][Sls D'][A:At i D τ D']{F R:Rg}{H:Hp}{d:D}{σ:St}(s:vm T F R H d σ):∃v F1 F2,σ[i]?=some v/\Cj F F1 F2/\sl F1 R H (A.get d) v/\rel F2 R H (A.hole d) σ:=A.take s.rel
theorem ss[Rep a][Sls c](i:Nat)[A:At i D a c](e:PE X (.Name x pos) (uN i):=by exact pv _):EW X E T (.Name x pos) (λ(d:D)(b:a->D->Prop) _=>b (A.get d) d):=by refine⟨_,e,λd F R k H b l Q s f g _=>?_⟩;obtain⟨v,m,n,h,o,⟨_,u,rfl,j⟩,_⟩:=A.take s.rel;exact⟨u,h,g _ d u F R H f (Ch.refl _ _ _ _) s j⟩
theorem ui{n:Int}{k:Nat}:EW X E T (.Constant (.int n) k pos) (λ(d:D)(a:Int->D->Prop) _=>a n d) :=
 ⟨_,uE,λd F R e H a f Q s b c _=>c n d _ F R H b (Ch.refl _ _ _ _) s rfl⟩
theorem AO{b:Bool}{k:Nat}:EW X E T (.Constant (.bool b) k pos) (λ(d:D)(a:Bool->D->Prop) _=>a b d) :=
 ⟨_,Xq,λd F R f H a g Q s c e _=>e b d _ F R H c (Ch.refl _ _ _ _) s rfl⟩
theorem Ju{k:Nat}:EW X E T (.Constant .none k pos) (λ(d:D)(a:Unit->D->Prop) _=>a () d) :=
 ⟨_,IJ,λd F R e H a f Q s b c _=>c () d _ F R H b (Ch.refl _ _ _ _) s rfl⟩
theorem OI{α β γ:Type}[Rep α][Rep β][Rep γ]{wa:Wf D α D}{wb:Wf D β D}{c:α->β->Prop}{g:α->β->γ}
 (ha:EW X E T a wa) (hb:EW X E T b wb) (he:∀ta tb,PE X a ta->PE X b tb->PE X e (Xg r ta tb))
 (hr:∀{R:Rg} {H:Hp} {x:α} {y:β} {u v:V} {Q:VK},rp R H x u->rp R H y v->c x y->(∀z,rp R H (g x y) z->Q z H)->r u v H Q) :
    EW X E T e (λd Kn Ke=>wa d (λx d1=>wb d1 (λy d2=>c x y/\Kn (g x y) d2) Ke) Ke):=by
  refine e1a2 ha λta a1 a2=>?_
  refine e1a2 hb λtb b1 b2=>?_
  refine⟨_,he ta tb a1 b1,λd F R σ H Kn Ke Q s hw kn ke=>?_⟩
  refine a2 d F R σ H _ Ke _ s hw (λx d1 u F1 R1 H1 q1 c1 s1 r1=>?_) ke
  refine b2 d1 F1 R1 σ H1 _ Ke _ s1 q1 (λy d2 v F2 R2 H2 q2 c2 s2 r2=>?_) λC y d' F' R' H' k c s'=>ke C y d' F' R' H' k (Ch.trans s s1.tab c1 c) s'
  exact hr (s1.val c2 r1) r2 q2.1 λz rz=>kn _ d2 z F2 R2 H2 q2.2 (Ch.trans s s1.tab c1 c2) s2 rz
theorem Wb{α γ:Type}[Rep α][Rep γ]{r:V->Hp->VK->Prop}{wa:Wf D α D}{c:α->Prop}{g:α->γ}
 (ha:EW X E T a wa) (he:∀ta,PE X a ta->PE X e (tUn r ta)) (hr:∀{R:Rg} {H:Hp} {x:α} {u:V} {Q:VK},rp R H x u->c x->(∀z,rp R H (g x) z->Q z H)->r u H Q) :
    EW X E T e (λd Kn Ke=>wa d (λx d1=>c x/\Kn (g x) d1) Ke):=by
  refine e1a2 ha λta a1 a2=>?_
  refine⟨_,he ta a1,λd F R σ H Kn Ke Q s hw kn ke=>?_⟩
  refine a2 d F R σ H _ Ke _ s hw (λx d1 u F1 R1 H1 q1 c1 s1 r1=>?_) ke
  exact hr r1 q1.1 λz rz=>kn _ d1 z F1 R1 H1 q1.2 c1 s1 rz
theorem OJ{c:Int->Int->Prop}{g:Int->Int->Int}{h l:Wf D Int D}(n:zW X (lF op) (rI c λi j=>.int<|g i j))(o:EW X E T a h)(p:EW X E T b l) :
  EW X E T (.BinOp a op b pos) (λd q m=>h d (λx r=>l r (λy s=>c x y/\q (g x y) s) m) m) :=
 OI (γ:=Int) o p (λu v e f=>v0 n e f) λe f t k=>⟨_,_,e,f,t,k _ rfl⟩
theorem zN{g:Int->Int->Int}{wa wb:Wf D Int D}(ho:zW X (lF op) (Rs λi j=>.int<|g i j))(ha:EW X E T a wa)(hb:EW X E T b wb) :
  EW X E T (.BinOp a op b pos) (λd Kn Ke=>wa d (λx d1=>wb d1 (λy d2=>Kn (g x y) d2) Ke) Ke):=by
 have h:=OI (c:=λ_ _=>True) (γ:=Int) (g:=g) (e:=.BinOp a op b pos) ha hb (λta tb h1 h2=>v0 ho h1 h2) λh1 h2 _ k=>⟨_,_,h1,h2,k _ rfl⟩;simp only[true_and] at h;exact h
class HL(α:Type)[Rep α][DecidableEq α] where
 sc:∀{R:Rg} {H:Hp} {x y:α} {u v:V},rp R H x u->rp R H y v->VD u v=true/\decide (u=v)=decide (x=y)
instance:HL Int:=⟨λ{R H x y u v} h1 h2=>by
 subst h1;subst h2;refine⟨rfl,?_⟩;by_cases e:x=y
 ·rw[e];simp
 ·rw[gI e,gI (λz=>e (by cases z;rfl))]⟩
instance:HL Bool:=⟨λ{R H x y u v} h1 h2=>by
 subst h1;subst h2;refine⟨rfl,?_⟩
 cases x<;>cases y<;>rfl⟩
theorem Le{α:Type}[Rep α]{x:Option α}(h:rp R H x u):decide (u=.vK)=x.isNone:=by
 cases x with
 | none=>have h:u=.vK:=h;rw[h];rfl
 | some y=>exact gI h.1
end
variable[L2.GX]
section
variable{D:Type}[Sls D]
theorem uw{b:Type}[Rep b]{w:Wf D b D}(h:EO X E T e w):EW X E T e w:=by refine e1a2 h λt f g=>?_;refine⟨t,f,λd F R i H B j Q s k l m=>g d F R i H _ j Q s k (λx o v C p r y q c z n=>?_) m⟩;obtain⟨G,u,e,A⟩:=n.is;cases e;exact l x o v p r y q ⟨c.keep,c.zh,λa h=>c.xo a<|.inr h,c.left⟩ z A
theorem uQ{b:Type}[Rep b]{w:Wf D b D}(h:EW X E T e w):EO X E T e w:=by refine e1a2 h λt f g=>?_;refine⟨t,f,λd F R i H A j Q s k l m=>g d F R i H _ j Q s k (λx n v o p u q c y r=>?_) m⟩;exact l x n v (λ_=>False) o p u q ⟨c.keep,c.zh,λa h=>c.xo a<|h.elim (λz=>z.elim) id,c.left⟩ y ⟨⟨λ_ z=>z,v,rfl,r⟩,λ_ z=>z.elim,λ_ z=>z.elim,λz=>z⟩
end
class Hs(τ:Type)[Ow τ]:Prop where
 has:∀{F R:Rg} {H:Hp} {x:τ} {v:Option V},sl F R H x v->∃u,v=some u
instance{α:Type}[Rep α]:Hs (OL α):=⟨λz9=>e2a2 z9 λa _ h _=>⟨_,h⟩⟩
instance{α:Type}[Rep α]:Hs α:=⟨λz9=>e0a2 z9 λ_ z39=>e1a2 z39 λu h _=>⟨u,h⟩⟩
structure Std(T:cr)(F R:Rg)(H:Hp):Prop where
 sub:∀a,F a->R a
 wu:∀a,R a->H a≠none
 tab:TabAt H T
 uW:R T
 uM:¬F T
theorem vm.FH{T:cr}{D:Type}[Sls D]{F R:Rg}{H:Hp}{d:D}{a:St}(s:vm T F R H d a):Std T F R H:=⟨s.sub,s.wu,s.tab,s.uW,s.uM⟩
theorem Std.stt{T:cr}{D:Type}[Sls D]{F R:Rg}{H:Hp}{d:D}{a:St}(s:Std T F R H)(h:rel F R H d a):vm T F R H d a:=⟨h,s.sub,s.wu,s.tab,s.uW,s.uM⟩
section
variable{D:Type}[Sls D]
theorem two_nil(F:Rg):Cj F (λ_=>False) F:=⟨λ_=>⟨.inr,λz=>z.elim (λq=>q.elim) id⟩,λ_ z _=>z⟩
theorem two_eq(t:Cj F b c)(n:∀a,¬b a):∀a,c a↔F a:=λa=>⟨λz=>(t.all a).mpr<|.inr z,λz=>((t.all a).mp z).elim (λq=>gy q<|n a) id⟩
end
def xN(T:cr){P d f:Type}[Sls P][Sls d][Ow f](w:Wf P f d):Sp:=λg H Q E=>∃(F R:Rg)(p:P)(i:f->d->Prop)(j:cr->d->Prop),vm T F R H p (g.map some)/\w p i j /\
 (∀x e v k h c b,i x e->Ch T F R H (λa=>k a\/h a) c b->vm T h c b e (g.map some)->Nw T k h c b x v->Q v b) /\
 (∀C y e l c b,j C e->Ch T F R H l c b->vm T l c b e (g.map some)->E (.ref C) (some y) b)
def Ag(c:List Nat)(b a:St):Prop:=a.length=b.length/\∀i∈c,a[i]?=b[i]?
theorem Ag.refl(b:List Nat)(a:St):Ag b a a:=⟨rfl,λ_ _=>rfl⟩
theorem Ag.trans(a:Ag e f c)(b:Ag e c d):Ag e f d:=⟨b.1.trans a.1,λi h=>(b.2 i h).trans<|a.2 i h⟩
theorem Ag.set{i:Nat}(h:i∉a):Ag a b (b.set i v):=⟨lm,λj c=>mi λe=>h<|by rw[e];exact c⟩
structure Rv(P:Type)[Sls P](ms:List Nat)(n:Nat):Prop where
 dp:∀{F R:Rg} {H:Hp} {p:P} {σ σ':St},Ag ms σ σ'->rel F R H p (σ'.take n)->rel F R H p (σ.take n)
class Dp(P:Type)[Sls P](n:outParam Nat)(l:outParam (List Nat)):Prop where
 dp:Rv P l n
instance dp0:Dp Unit 0 []:=⟨⟨λ{F R H p σ σ'} _ h=>⟨rfl,h.2⟩⟩⟩
instance(priority:=high) dpU {P:Type} {n:Nat} {l:List Nat} [Sls P] [A:Dp P n l]:Dp (Un×P) (n+1) (l.map (· + 1)):=⟨⟨λ{F R H p σ σ'} a r=>by
 refine e4a4 r λv Zw F1 F2 h1 h2 h3 h4=>?_
 cases σ' with
 | nil=>cases h1
 | cons v' r' =>
  cases σ with
  | nil=>have:=a.1;simp at this
  | cons u r =>
   injection h1 with e1 e2;subst e2;refine⟨u,r.take n,F1,F2,rfl,h2,h3,A.dp.dp (σ':=r') ⟨by have:=a.1;simpa using this,λi hi=>?_⟩ h4⟩;have:=a.2 (i+1)<|List.mem_map.mpr ⟨i,hi,rfl⟩
   simpa using this⟩⟩
instance dpO{τ P:Type}{n:Nat}{l:List Nat}[Ow τ][Sls P][A:Dp P n l]:Dp (τ×P) (n+1) (0::l.map (· + 1)):=⟨⟨λ{F R H p σ σ'} a r=>by
 refine e4a4 r λv Zw F1 F2 h1 h2 h3 h4=>?_
 cases σ' with
 | nil=>cases h1
 | cons v' r' =>
  cases σ with
  | nil=>have:=a.1;simp at this
  | cons u r =>
   injection h1 with e1 e2;subst e2
   have e0:v'=u:=by have:=a.2 0 gc;simpa using this
   subst e0;subst e1;refine⟨v',r.take n,F1,F2,rfl,h2,h3,A.dp.dp (σ':=r') ⟨by have:=a.1;simpa using this,λi hi=>?_⟩ h4⟩;have:=a.2 (i+1)<|gg _<|List.mem_map.mpr ⟨i,hi,rfl⟩
   simpa using this⟩⟩
theorem uI[Sls P]{n:Nat}[A:Dp P n l](h:∀i∈l,i∈b):Rv P b n:=⟨λa r=>A.dp.dp ⟨a.1,λi c=>a.2 i<|h i c⟩ r⟩
def UV(E:XK)(T:cr)(u:List Nat)(n:Nat)(t:TS){D j f k:Type}[Sls D][Sls j][Sls f][Ow k](w:D->(j->Prop)->(k->f->Prop)->(cr->f->Prop)->Prop):Prop :=
 ∀(d:D)(F R:Rg)(g:St)(H:Hp)(o:j->Prop)(p:k->f->Prop)(q:cr->f->Prop)(l:Ends),vm T F R H d g->w d o p q ->
  (∀r h c b e,o r->Ch T F R H h c b->vm T h c b r e->Ag u g e->l.nx e b) ->
  (∀x i v s m c b,p x i->Ch T F R H (λa=>s a\/m a) c b->vm T m c b i (g.take n)->Nw T s m c b x v->l.rt v b) ->
  (∀C y i h c b,q C i->Ch T F R H h c b->vm T h c b i (g.take n)->E (.ref C) (some y) b)->t l g H
def S1(X:Cx)(E:XK)(T:cr)(d:List Nat)(n:Nat)(e:gP){D b a c:Type}[Sls D][Sls b][Sls a][Ow c](w:D->(b->Prop)->(c->a->Prop)->(cr->a->Prop)->Prop):Prop:=∃t,PS X e t/\UV E T d n t w
def SW(X:Cx)(E:XK)(T:cr)(e:List Nat)(n:Nat)(a:List gP){D c b d:Type}[Sls D][Sls c][Sls b][Ow d](w:D->(c->Prop)->(d->b->Prop)->(cr->b->Prop)->Prop):Prop:=∃t,Ed X a t/\UV E T e n t w
section
variable{D D' D1 PO τ:Type}[Sls D][Sls D'][Sls D1][Sls PO][Ow τ]
theorem uH:SW X E T f n [] (λ(d:D)(a:D->Prop)(_:τ->PO->Prop) _=>a d) :=
 ⟨_,yz,λd F R b H a g h i s c e _ _=>e d F R H b c (Ch.refl _ _ _ _) s<|Ag.refl _ _⟩
theorem OK:SW X E T e n a (λ(d:D)(b:D'->Prop)(_:τ->PO->Prop) _=>False) :=
 ⟨_,Mc,λd F R f H b g h i s c j _ _=>c.elim⟩
theorem a0u[A:Fg D1 D'](k:UV E T l n t w):UV E T l n t (λ(d:D)(j:D'->Prop)(e:τ->PO->Prop) f=>w d (λm=>j<|A.fg m) e f):=by refine λd F R o H j e f p s r u v x=>k d F R o H _ e f p s r (λC I y z g q c b a=>?_) v x;refine e1a2 (A.le b.rel) λG i B=>?_;exact u _ G y z g q ⟨c.keep,c.zh,λa h=>c.xo a<|i a h,c.left⟩ ⟨B,λa h=>b.sub a<|i a h,b.wu,b.tab,b.uW,λh=>b.uM<|i _ h⟩ a
theorem Lf[A:Fg D1 D'](h:SW X E T b n a w):SW X E T b n a (λ(d:D)(c:D'->Prop)(e:τ->PO->Prop) f=>w d (λg=>c<|A.fg g) e f) :=
 e1a2 h λt i j=> ⟨t,i,a0u j⟩
theorem UW{A:D->(D1->Prop)->(τ->PO->Prop)->(cr->PO->Prop)->Prop}{B:D1->(D'->Prop)->(τ->PO->Prop)->(cr->PO->Prop)->Prop}(G:Rv PO k n)(L:UV E T k n M A)(N:UV E T k n O B) :
  UV E T k n (IL M O) (λd l b e=>A d (λo=>B o l b e) b e):=by
 refine λd F R P H l b e Q s S U I J=>L d F R P H _ b e _ s S (λo W X Y p q r j t=>?_) I J;refine N o W X p Y l b e Q j q (λZ u f h w i c a g=>U Z u f h w i (Ch.trans s j.tab r c) a<|t.trans g) (λx z v M1 M2 f h i c a m=>?_) λC y z u f h i c a=>?_
 ·exact I x z v M1 M2 f h i (Ch.trans s j.tab r c) ⟨G.dp t a.rel,a.sub,a.wu,a.tab,a.uW,a.uM⟩ m
 ·exact J C y z u f h i (Ch.trans s j.tab r c) ⟨G.dp t a.rel,a.sub,a.wu,a.tab,a.uW,a.uM⟩
theorem Cw{c:gP}{a:List gP}{w1:D->(D1->Prop)->(τ->PO->Prop)->(cr->PO->Prop)->Prop}{w2:D1->(D'->Prop)->(τ->PO->Prop)->(cr->PO->Prop)->Prop}(g:Rv PO b n)(h:S1 X E T b n c w1)(i:SW X E T b n a w2) :
  SW X E T b n (c::a) (λd j e f=>w1 d (λk=>w2 k j e f) e f) :=
 e1a2 h λq l m=> e1a2 i λr o p=> ⟨_,vr l o,UW g m p⟩
theorem ug{a:gP}{b:D->(D'->Prop)->(τ->PO->Prop)->(cr->PO->Prop)->Prop}(c:S1 X E T d n a b):SW X E T d n [a] b :=
 e1a2 c λg e f=> ⟨_,wQ e,f⟩
theorem vM[A:Pj D PO n](s:vm T c e f d g):∃G,(∀a,G a->c a)/\vm T G e f (A.pj d) (g.take n):=by refine e1a2 (A.le s.rel) λG b i=>?_;exact⟨G,b,i,λa h=>s.sub a<|b a h,s.wu,s.tab,s.uW,λh=>s.uM<|b _ h⟩
theorem Ch.less(c:Ch T F R H b d e)(g:∀a,G a->b a):Ch T F R H G d e:=⟨c.keep,c.zh,λa h=>c.xo a<|g a h,c.left⟩
theorem uD[A:Pj D PO n](h:EO X E T e r):S1 X E T N n (.Return (some e) pos) (λ(d:D)(_:D'->Prop)(o:τ->PO->Prop) p=>r d (λx b=>o x<|A.pj b) λC b=>p C<|A.pj b):=by
 refine e1a2 h λt u w=>?_;refine⟨_,Bl u,λd F R B H O o p P s I Q J L=>w d F R B H _ _ _ s I (λx b v M S g i q c j m=>?_) λC y b U g i q c j=>?_⟩
 ·refine e1a2 (vM (PO:=PO) j) λG f l=>?_;exact J x _ v M G g i q (c.less λa h=>h.elim .inl λz=>.inr<|f a z) l ⟨m.is,m.sub,λa h k=>m.xj a h<|f a k,m.tab⟩
 ·refine e1a2 (vM (PO:=PO) j) λG f l=>?_;exact L C y _ G g i q (c.less f) l
theorem uX{i:Type}[Rep i][A:Pj D PO n]{j:Wf D i D}(h:EW X E T e j)(r:jp e none pos.line X.env=pure false:=by rfl) :
  S1 X E T N n (.Expr e pos) (λ(d:D)(k:D->Prop)(u:τ->PO->Prop) l=>j d (λ_ a=>k a) λC a=>l C<|A.pj a):=by
 refine e1a2 h λt w z=>?_;refine⟨_,AA w r,λd F R o H k u l O s B I P J=>z d F R o H _ _ _ s B (λx a v p b f q c g m=>I a p b f o q c g<|Ag.refl _ _) λC y a p b f q c g=>?_⟩;refine e1a2 (vM (PO:=PO) g) λG L M=>?_;exact J C y _ G b f q (c.less L) M
theorem uS{a b:List gP}[A:Pj D PO n]{M:Wf D Bool D}{N O:D->(D'->Prop)->(τ->PO->Prop)->(cr->PO->Prop)->Prop}(hc:TW X E T c M)(ha:SW X E T P n a N)(hb:SW X E T P n b O) :
  S1 X E T P n (.If c a b pos) (λ(d:D)(u:D'->Prop)(w:τ->PO->Prop) r=>M d (λb z=>if b=true then N z u w r else O z u w r) λC t=>r C<|A.pj t):=by
 refine e1a2 hc λtc c1 c2=>?_;refine e1a2 ha λta a1 a2=>?_;refine e1a2 hb λtb b1 b2=>?_;refine⟨_,KL c1 a1 b1,λd F R B H u w r Q s hw S U I=>c2 d F R B H _ _ _ s hw (λx z W Y Z q c k=>?_) λC y t l e f q c h=>?_⟩
 ·cases x with
  | true=>exact a2 z W Y B Z u w r Q k q (λt l e f o i j h g=>S t l e f o i (Ch.trans s k.tab c j) h g) (λx p v J L e f i j h m=>U x p v J L e f i (Ch.trans s k.tab c j) h m) λC y p l e f i j h=>I C y p l e f i (Ch.trans s k.tab c j) h
  | false=>exact b2 z W Y B Z u w r Q k q (λt l e f o i j h g=>S t l e f o i (Ch.trans s k.tab c j) h g) (λx p v J L e f i j h m=>U x p v J L e f i (Ch.trans s k.tab c j) h m) λC y p l e f i j h=>I C y p l e f i (Ch.trans s k.tab c j) h
 ·refine e1a2 (vM (PO:=PO) h) λG g1 g2=>?_;exact I C y _ G e f q (c.less g1) g2
theorem EQ{i:Nat}[Ow c][Ow e][Sls f][Sls j][A:At i D c f][U:Pt i f e j](s:vm T g R H d k)(m:Nw T F1 g R H x v) :
  ∃G,(∀a,G a->F1 a\/g a)/\vm T G R H (U.put (A.hole d) x) (k.set i<|some v):=by
 refine e3a4 (A.take s.rel) λo p l r b t n=>?_;refine⟨λa=>F1 a\/l a,λa h=>h.elim .inl λz=>.inr<|(b.all a).mpr<|.inr z,U.back n ⟨λ_=>Iff.rfl,λa z q=>m.xj a z<|(b.all a).mpr<|.inr q⟩ m.is,λa h=>h.elim (m.sub a) λz=>s.sub a<|(b.all a).mpr<|.inr z,s.wu,s.tab,s.uW,λh=>h.elim m.tab λz=>s.uM<|(b.all T).mpr<|.inr z⟩
theorem uv(i:Nat)[Ow f][Ow g][Sls r][Sls u][A:At i D f r][U:Pt i r g u][J:Pj D PO n](B:X.N.Nodup)(h:EO X E T e I)(L:X.N[i]?=some x:=by rfl)(hx:Loc X.env.scope x:=by exact nI rfl)(M:i∉O:=by decide)
 (P:jp e (some<|.Name x a) pos.line X.env=pure false:=by rfl) (Q:X.fn x=true\/X.env.scope.names.lookup x=some .local:=by first|exact .inl rfl|exact .inr rfl) :
    S1 X E T O n (.Assign [.Name x a] e pos) (λ(d:D)(w:u->Prop)(S:τ->PO->Prop) z=>I d (λx b=>w<|U.put (A.hole b) x) λC b=>z C<|J.pj b):=by
  refine e1a2 h λt W Y=>?_
  refine⟨_,yZ B L hx W P Q,λd F R Z H w S z En s hw kn kr ke=>Y d F R Z H _ _ _ s hw (λx b v F1 F2 j k q c l m=>?_) λC y b F' j k q c l=>?_⟩
  · refine e1a2 (EQ (i := i) l m) λG o p => ?_
    exact kn _ G j k _ q (c.less o) p<|Ag.set M
  · refine e1a2 (vM (PO := PO) l) λG o p => ?_
    exact ke C y _ G j k q (c.less o) p
end
class Ent(P:Type)[Sls P](k:Nat)(D:outParam Type)[Sls D] where
 ent:P->D
 ok:∀{F R:Rg} {H:Hp} {p:P} {σ:St},rel F R H p σ->rel F R H (ent p) (σ++jZ k none)
instance ent0:Ent Unit 0 Unit:=⟨id,λh=>by obtain⟨rfl,h⟩:=h;exact⟨rfl,h⟩⟩
instance entS{k:Nat}{D:Type}[Sls D][A:Ent Unit k D]:Ent Unit (k+1) (Un×D):=⟨λp=>(⟨⟩,A.ent p),λ{F R H p σ} h=>by
 obtain⟨rfl,h⟩:=h
 exact⟨none,jZ k none,λ_=>False,F,by rw[mo];rfl,two_nil F,λ_ z=>z,by simpa using A.ok (σ:=[]) (p:=p) (F:=F) (R:=R) (H:=H) ⟨rfl,h⟩⟩⟩
instance entC{k:Nat}{τ P D:Type}[Ow τ][Sls P][Sls D][A:Ent P k D]:Ent (τ×P) k (τ×D):=⟨λp=>(p.1,A.ent p.2),λ{F R H p σ} h=>by
 obtain⟨v,σ',F1,F2,rfl,h2,h3,h4⟩:=h
 exact⟨v,σ'++jZ k none,F1,F2,rfl,h2,h3,A.ok h4⟩⟩
class Ln(P:Type)[Sls P](n:outParam Nat):Prop where
 ln:∀{F R:Rg} {H:Hp} {p:P} {σ:St},rel F R H p σ->σ.length=n
instance ln0:Ln Unit 0:=⟨λh=>by rw[h.1];rfl⟩
instance lnS{τ P:Type}{n:Nat}[Ow τ][Sls P][A:Ln P n]:Ln (τ×P) (n+1):=⟨λh=>by
 obtain⟨v,σ',F1,F2,rfl,_,_,h4⟩:=h
 rw[gG,A.ln h4]⟩
theorem vS{r:gP}{N M:List Str}{k j n:Nat}{ms:List Nat}{A PO τ D D':Type}[Sls A][Sls PO][Ow τ][Sls D][Sls D'][L:Ln A n][J:Ent A j D]{O:D->(D'->Prop)->(τ->PO->Prop)->(cr->PO->Prop)->Prop}
 (F:ye K x d r f fd) (S:um N M (ue r)) (hn:M.length=n) (hj:N.length-n=j)
 (i:∀(b:ci)(A:iR)(a:List Env)(s:gk)(H:Hp)(E:XK),vD k (A.deeper<|nO d (ue r) s.heap.objs.size f b)->SW (uY (uV P w) P w K mg base N d (ue r) f b A a s H E) E T ms n (uK r) O) :
    uL P w K mg base (uV P w) (k+1) f fd M (xN T λ(p:A)(U:τ->PO->Prop) l=>O (J.ent p) (λ_=>False) U l):=by
  have e:∀{g:List V} {H:Hp} {Q:VK} {E:XK},xN T (λ(p:A)(U:τ->PO->Prop) l=>O (J.ent p) (λ_=>False) U l) g H Q E->g.length=n:=λh=>by
    obtain⟨F,R,p,Kn,l,s,_⟩:=h
    have:=L.ln s.rel
    rwa [gh] at this
  obtain⟨oc,od,kV,aa,pm,an,b,ct,ab,rfl,lk,W⟩:=F.ex
  refine Hv lk W S (λg H Q E h=>(e h).trans hn.symm) λAr a s H g Q E hr u=>?_
  refine e1a2 (i b Ar a s H E hr) λt h1 h2=>?_
  refine⟨t,h1,?_⟩
  have X:=e u
  obtain⟨F,R,p,Kn,l,o,hw,kn,ke⟩:=u
  have B:start N g=g.map some++jZ j none:=by unfold L2.start;rw[X,hj]
  have G:(start N g).take n=g.map some:=by rw[B,mj (by rw[gh,X];exact ga _),iM<|by rw[gh,X];exact ga _]
  refine h2 (J.ent p) F R _ H _ Kn l _ ⟨by rw[B];exact J.ok o.rel,o.sub,o.wu,o.tab,o.uW,o.uM⟩ hw (λ_ _ _ _ _ z=>z.elim) (λx Y v F1 F2 Z H' q c I m=>?_) λC y Y F' Z H' q c I=>?_
  · rw[G] at I
    exact kn x Y v F1 F2 Z H' q c I m
  · rw[G] at I
    exact ke C y Y F' Z H' q c I
theorem UX{o:gP}{N J:List Str}{k j n:Nat}{ms:List Nat}{A PO τ D D':Type}[Sls A][Sls PO][Ow τ][Sls D][Sls D'][L:Ln A n][I:Ent A j D]{M:D->(D'->Prop)->(τ->PO->Prop)->(cr->PO->Prop)->Prop}
 (F:ye K x b o f O) (S:um N J (ue o)) (hn:J.length=n) (hj:N.length-n=j)
 (g:∀(A:iR)(a:List Env)(s:gk)(H:Hp)(E:XK),vD k (A.deeper<|nO b (ue o) s.heap.objs.size f O.code)->SW (uY (uV P w) P w K mg base N b (ue o) f O.code A a s H E) E T ms n (uK o) M) :
    uL P w K mg base (uV P w) (k+1) f O J (xN T λ(p:A)(U:τ->PO->Prop) i=>M (I.ent p) (λ_=>False) U i):=by
  have d:∀{e:List V} {H:Hp} {Q:VK} {E:XK},xN T (λ(p:A)(U:τ->PO->Prop) i=>M (I.ent p) (λ_=>False) U i) e H Q E->e.length=n:=λh=>by
    obtain⟨F,R,p,Kn,i,s,_⟩:=h
    have:=L.ln s.rel
    rwa [gh] at this
  obtain⟨oc,od,kV,aa,pm,an,ab,ct,ae,rfl,lk,W⟩:=F.ex
  refine Hv lk W S (λe H Q E h=>(d h).trans hn.symm) λAr a s H e Q E hr r=>?_
  refine e1a2 (g Ar a s H E hr) λt h1 h2=>?_
  refine⟨t,h1,?_⟩
  have X:=d r
  obtain⟨F,R,p,Kn,i,l,hw,kn,ke⟩:=r
  have u:start N e=e.map some++jZ j none:=by unfold L2.start;rw[X,hj]
  have B:(start N e).take n=e.map some:=by rw[u,mj (by rw[gh,X];exact ga _),iM<|by rw[gh,X];exact ga _]
  refine h2 (I.ent p) F R _ H _ Kn i _ ⟨by rw[u];exact I.ok l.rel,l.sub,l.wu,l.tab,l.uW,l.uM⟩ hw (λ_ _ _ _ _ z=>z.elim) (λx Y v F1 F2 Z H' q c G m=>?_) λC y Y F' Z H' q c G=>?_
  · rw[B] at G
    exact kn x Y v F1 F2 Z H' q c G m
  · rw[B] at G
    exact ke C y Y F' Z H' q c G
theorem B3{O:gP}{N ps:List Str}{k j n:Nat}{ms:List Nat}{A PO D D':Type}[Sls A][Sls PO][Sls D][Sls D'][L:Ln A n][En:Ent A j D][J:Pj D' PO n](dp:Rv PO ms n){w0:D->(D'->Prop)->(Unit->PO->Prop)->(cr->PO->Prop)->Prop}
 (F:ye K x e O f fd) (S:um N ps (ue O)) (hn:ps.length=n) (hj:N.length-n=j)
 (o:∀(d:ci)(A:iR)(b:List Env)(s:gk)(H:Hp)(E:XK),vD k (A.deeper<|nO e (ue O) s.heap.objs.size f d)->SW (uY (uV P w) P w K mg base N e (ue O) f d A b s H E) E T ms n (uK O) w0) :
    uL P w K mg base (uV P w) (k+1) f fd ps (xN T λ(p:A)(U:Unit->PO->Prop) B=>w0 (En.ent p) (λd'=>U ()<|J.pj d') U B):=by
  have i:∀{l:List V} {H:Hp} {Q:VK} {E:XK},xN T (λ(p:A)(U:Unit->PO->Prop) B=>w0 (En.ent p) (λd'=>U ()<|J.pj d') U B) l H Q E->l.length=n:=λh=>by
    obtain⟨F,R,p,Kn,B,s,_⟩:=h
    have:=L.ln s.rel
    rwa [gh] at this
  obtain⟨oc,od,kV,ab,pm,an,d,ct,ae,rfl,lk,aa⟩:=F.ex
  refine Hv lk aa S (λl H Q E h=>(i h).trans hn.symm) λAr b s H l Q E hr W=>?_
  refine e1a2 (o d Ar b s H E hr) λt h1 h2=>?_
  refine⟨t,h1,?_⟩
  have hl:=i W
  obtain⟨F,R,p,Kn,B,I,hw,kn,ke⟩:=W
  have X:start N l=l.map some++jZ j none:=by unfold L2.start;rw[hl,hj]
  have r:(start N l).take n=l.map some:=by rw[X,mj (by rw[gh,hl];exact ga _),iM<|by rw[gh,hl];exact ga _]
  refine h2 (En.ent p) F R _ H _ Kn B _ ⟨by rw[X];exact En.ok I.rel,I.sub,I.wu,I.tab,I.uW,I.uM⟩ hw (λd' F' Y Z af q c u g=>?_) (λx p' v F1 F2 Y Z q c u m=>?_) λC y p' F' Y Z q c u=>?_
  · refine e1a2 (vM (PO := PO) u) λG g1 M => ?_
    have g3:=dp.dp g M.rel
    rw[r] at g3
    exact kn () _ .vK (λ_=>False) G Y Z q (c.less λa h=>h.elim (λz=>z.elim)<|g1 a) ⟨g3,M.sub,M.wu,M.tab,M.uW,M.uM⟩ ⟨⟨λ_ z=>z,.vK,rfl,rfl⟩,λ_ z=>z.elim,λ_ z=>z.elim,λz=>z⟩
  · rw[r] at u
    exact kn x p' v F1 F2 Y Z q c u m
  · rw[r] at u
    exact ke C y p' F' Y Z q c u
end WL
namespace WL
open PySem L2
open Rep (rp)
open Ow (sl)
open Sls (rel)
class Dat(α:Type)[Rep α][DecidableEq α] where
 dat:α->PyData
 dp:Nat
 rd:∀{X:Cx} {R:Rg} {H:Hp} {x:α} {v:V},rp R H x v->EM X H v (dat x)
 lay:∀x,(dat x).canLay0=true
 dep:∀x,(dat x).depth<=dp
 nm:∀x y,oF (dat x) (dat y)=true
 sm:∀x y,j0 (dat x) (dat y)=decide (x=y)
instance:Dat Int where
 dat:=.int
 dp:=0
 rd h:=by have h:_=_:=h;subst h;exact EM.int _
 lay _:=by simp[ot]
 dep _:=by simp[q7]
 nm _ _:=by simp[oF]
 sm x y:=by rw[j0];by_cases h:x=y<;>simp[h]
section
variable{α β:Type}[Rep α][DecidableEq α][Dat α][Rep β][DecidableEq β][Dat β]
theorem AQ{X:Cx}{R:Rg}{H:Hp}:∀{xs:List α} {vs:List V},Paired (rp R H) xs vs->Paired (EM X H) vs (xs.map Dat.dat):=by
 intro _ _ z
 induction z with
 | nil=>exact .nil
 | cons h t ih=>exact .cons (Dat.rd h) ih
theorem Lg:∀a:List α,mX (a.map Dat.dat)=true
 | []=>by simp[mX]
 | x::a=>by simp only[gK,mX,Dat.lay x,Lg a,pq]
theorem Lh:∀a:List α,nV (a.map Dat.dat)<=Dat.dp α
 | []=>by simp[nV]
 | x::a=>by
  have b:=Lh a;have c:=Dat.dep x;simp only[gK,nV]
  lia
theorem OM:∀a b:List α,lH (a.map Dat.dat) (b.map Dat.dat)=true
 | [],[]=>by simp[lH]
 | [],_::_=>by simp[lH]
 | _::_,[]=>by simp[lH]
 | x::a,y::b=>by simp only[gK,lH,Dat.nm x y,OM a b,pq]
theorem ON:∀xs ys:List α,jT (xs.map Dat.dat) (ys.map Dat.dat)=decide (xs=ys)
 | [],[]=>by simp[jT]
 | [],_::_=>by simp[jT]
 | _::_,[]=>by simp[jT]
 | x::xs,y::ys=>by simp only[gK,jT,Dat.sm x y,ON xs ys];by_cases h:x=y<;>simp[h]
instance:Dat (List α) where
 dat xs:=.list<|xs.map Dat.dat
 dp:=Dat.dp α+1
 rd h:=by obtain⟨a,vs,rfl,_,h3,h4⟩:=h;exact EM.lst (vA.of h3)<|AQ h4
 lay xs:=by simp only[ot];exact Lg xs
 dep xs:=by simp only[q7];have:=Lh xs;omega
 nm xs ys:=by simp only[oF];exact OM xs ys
 sm xs ys:=by simp only[j0];exact ON xs ys
theorem EM.tup{X:Cx}(h:yq X.K H a c)(p:Paired (EM X H) c d):EM X H (.ref a) (.tuple d):=λb m s u I r=>by
 cases r;refine e1a3 (I.tuple h) λe f g _=>?_;obtain⟨q,i⟩:=EN I f p;obtain⟨o,j,k,n,l⟩:=g;exact⟨_,Reads.tuple j k l<|by simpa using i⟩
instance:Dat (α×β) where
 dat x:=.tuple [Dat.dat x.1,Dat.dat x.2]
 dp:=max (Dat.dp α) (Dat.dp β)+1
 rd h:=by obtain⟨a,u,w,rfl,_,h3,h4,h5⟩:=h;exact EM.tup (yq.of h3)<|.cons (Dat.rd h4)<|.cons (Dat.rd h5) .nil
 lay x:=by simp only[ot,mX,Dat.lay,pq]
 dep x:=by have h1:=Dat.dep x.1;have h2:=Dat.dep x.2;simp only[q7,nV];omega
 nm x y:=by simp only[oF,lH,Dat.nm,pq]
 sm x y:=by simp only[j0,jT,Dat.sm];obtain⟨a,b⟩:=x;obtain⟨c,d⟩:=y;by_cases h1:a=c<;>by_cases h2:b=d<;>simp[h1,h2]
end
def RdL{α:Type}[Rep α]{D:Type}[Sls D](T:cr)(F R:Rg)(H:Hp)(σ:St)(g:D->List α)(v:V):Prop :=
 ∀(d'':D)(UY IE:Rg)(OO:Hp),Ch T F R H UY IE OO->vm T UY IE OO d'' σ->∃a vs,v=.ref a/\OO a=some (.lst vs)/\Paired (rp IE OO) (g d'') vs
def ER(X:Cx)(E:XK)(T:cr)(e:hO){D i:Type}[Sls D][Rep i](w:Wf D (D->List i) D):Prop :=
 ∃t,PE X e t/\∀(d:D)(F R:Rg)(f:St)(H:Hp) (j:(D->List i)->D->Prop) (k:cr->D->Prop) (Q:VK),vm T F R H d f->w d j k ->
  (∀g h v b c a,j g h->Ch T F R H b c a->vm T b c a h f->RdL T b c a f g v->Q v a) ->
  (∀C y h b c a,k C h->Ch T F R H b c a->vm T b c a h f->E (.ref C) (some y) a)->t f H Q
section
variable{D:Type}[Sls D]{α β γ:Type}[Rep α][Rep β][Rep γ]
theorem vg(h:EW X E T e w):ER X E T e (λ(d:D) (g:(D->List α)->D->Prop) b=>w d (λx f=>g (λ_=>x) f) b):=by refine e1a2 h λt j k=>?_;refine⟨t,j,λd F R l H g b Q s m n o=>k d F R l H _ b Q s m (λx f v p u y q c i r=>n _ f v p u y q c i λz A B C G I=>?_) o⟩;refine e2a4 (i.val G r) λa J L O M N=>?_;exact⟨a,J,L,M,N⟩
theorem vt(i:Nat)[Sls h][A:At i D (OL α) h](j:PE X (.Name x pos) (uN i):=by exact pv _):ER X E T (.Name x pos) (λ(d:D) (e:(D->List α)->D->Prop) _=>e (λd=>(A.get d).l) d):=by refine⟨_,j,λd F R w H e y Q s k m _=>?_⟩;obtain⟨v,z,B,f,C,⟨a,G,rfl,I⟩,_⟩:=A.take s.rel;refine⟨_,f,m _ d _ F R H k (Ch.refl _ _ _ _) s λn o p q J b=>?_⟩;obtain⟨L,M,N,g,O,⟨P,c,r,S,t,u⟩,_⟩:=A.take b.rel;rw[f] at g;cases g;cases r;exact⟨_,c,rfl,t,u⟩
theorem Wc{wa:Wf D (D->List α) D}{wb:Wf D β D}{c:List α->β->γ->Prop}
 (ha:ER X E T a wa) (hb:EW X E T b wb) (he:∀ta tb,PE X a ta->PE X b tb->PE X e (Xg r ta tb))
 (hr:∀{R:Rg} {H:Hp} {xs:List α} {y:β} {z:γ} {p:cr} {us:List V} {v:V} {Q:VK},H p=some (.lst us)->Paired (rp R H) xs us->rp R H y v->c xs y z->(∀w,rp R H z w->Q w H)->r (.ref p) v H Q) :
    EW X E T e (λd Kn Ke=>wa d (λg d1=>wb d1 (λy d2=>∃z,c (g d2) y z/\Kn z d2) Ke) Ke):=by
  refine e1a2 ha λta a1 a2=>?_
  refine e1a2 hb λtb b1 b2=>?_
  refine⟨_,he ta tb a1 b1,λd F R σ H Kn Ke Q s hw kn ke=>?_⟩
  refine a2 d F R σ H _ Ke _ s hw (λg d1 u F1 R1 H1 q1 c1 s1 r1=>?_) ke
  refine b2 d1 F1 R1 σ H1 _ Ke _ s1 q1 (λy d2 v F2 R2 H2 q2 c2 s2 r2=>?_) λC y d' F' R' H' k c s'=>ke C y d' F' R' H' k (Ch.trans s s1.tab c1 c) s'
  refine e1a2 q2 λz z1 z2=>?_
  obtain⟨p,us,rfl,h1,h2⟩:=r1 d2 F2 R2 H2 c2 s2
  exact hr h1 h2 r2 z1 λw rw=>kn _ d2 w F2 R2 H2 z2 (Ch.trans s s1.tab c1 c2) s2 rw
theorem v7{R:Rg}{H:Hp}:∀{xs:List α} {vs:List V} {i:Nat} {x:α},Paired (rp R H) xs vs->xs[i]?=some x->∃v,vs[i]?=some v/\rp R H x v:=by
 intro _ _ i x z
 induction z generalizing i with
 | nil=>intro e;simp at e
 | cons r t ih =>
  intro e
  cases i with
  | zero=>simp at e;subst e;exact⟨_,rfl,r⟩
  | succ i=>exact e1a2 (ih<|by simpa using e) λu h1 h2=>⟨u,by simpa using h1,h2⟩
theorem zO{xs:List α}{vs:List V}{i:Int}(h:Paired (rp R H) xs vs)(e:Ef xs i=some x):∃v,Ef vs i=some v/\rp R H x v:=by
 unfold Ef at e ⊢;rw[<- Paired.length h]
 cases q:UL xs.length i with
 | none=>rw[q] at e;cases e
 | some j =>
  rw[q] at e;exact v7 h e
theorem xS{j:Wf D (D->List α) D}{l:Wf D Int D}(q:ER X E T a j)(s:EW X E T b l)(t:K4 b:=by intro _ _;rfl) :
  EW X E T (.Subscript a b pos) (λ(d:D)(u:α->D->Prop) m=>j d (λg A=>l A (λi n=>∃x,Ef (g n) i=some x/\u x n) m) m) :=
 Wc (c:=λo i x=>Ef o i=some x) q s (λF G f h=>xi vV f h t) λ{R H o y z p I v Q} f h B C k=>by subst B;refine e1a2 (zO h C) λw e r=>?_;exact⟨_,_,_,_,rfl,rfl,vA.of f,e,k _ r⟩
theorem Jv{k:Nat}{e:Wf D (α×β) D}(g:EW X E T a e):EW X E T (.Subscript a (.Constant (.int 0) k p) pos) (λ(d:D)(f:α->D->Prop) b=>e d (λx c=>f x.1 c) b):=by refine e1a2 g λI h i=>?_;refine⟨_,xi N0 h uE<|λ_ _=>rfl,λd F R j H f b Q s l m n=>i d F R j H _ b _ s l (λx c u o r t y z A B=>?_) n⟩;obtain⟨q,v,w,rfl,_,C,G,J⟩:=B;exact⟨_,_,_,v,rfl,rfl,yq.of C,rfl,m _ c v o r t y z A G⟩
theorem Dg{k:Nat}{e:Wf D (α×β) D}(g:EW X E T a e):EW X E T (.Subscript a (.Constant (.int 1) k p) pos) (λ(d:D)(f:β->D->Prop) b=>e d (λx c=>f x.2 c) b):=by refine e1a2 g λI h i=>?_;refine⟨_,xi N0 h uE<|λ_ _=>rfl,λd F R j H f b Q s l m n=>i d F R j H _ b _ s l (λx c u o r t y z A B=>?_) n⟩;obtain⟨q,v,w,rfl,_,C,J,G⟩:=B;exact⟨_,_,_,w,rfl,rfl,yq.of C,rfl,m _ c w o r t y z A G⟩
theorem zi(f:EW X E T a g):EW X E T a (λ(d:D)(e:α->D->Prop) b=>g d (λx c=>∃y,x=some y/\e y c) b):=by refine e1a2 f λz h i=>?_;refine⟨_,h,λd F R j H e b Q s k l m=>i d F R j H _ b _ s k (λx c u n o p r t v w=>?_) m⟩;obtain⟨y,rfl,q⟩:=r;exact l y c u n o p q t v w.2
class NV(α:Type)[Rep α]:Prop where
 nv:∀{R:Rg} {H:Hp} {x:α} {v:V},rp R H x v->v≠.vK
instance:NV Int:=⟨λh z=>by have h:_=_:=h;rw[h] at z;cases z⟩
instance:NV (α×β):=⟨λh z=>by obtain⟨a,u,w,e,_⟩:=h;rw[e] at z;cases z⟩
theorem yF[NV α](g:EW X E T a h):EW X E T a (λ(d:D)(e:Option α->D->Prop) b=>h d (λx c=>e (some x) c) b):=by refine e1a2 g λw i j=>?_;exact⟨_,i,λd F R k H e b Q s l m n=>j d F R k H _ b _ s l (λx c u o p q r t v f=>m (some x) c u o p q r t v ⟨NV.nv f,f⟩) n⟩
theorem SA{k:Nat}:EW X E T (.Constant .none k pos) (λ(d:D)(a:Option α->D->Prop) _=>a none d) :=
 ⟨_,IJ,λd F R e H a f Q s b c _=>c none d _ F R H b (Ch.refl _ _ _ _) s rfl⟩
theorem xf{a:hO}{p:Pos}{wa:Wf D (D->List α) D}(hg:Gl X "len")(hm:X.mg "len"=none)(ha:ER X E T a wa)(hs:f9 [a] X.env=(false,eval a X.env)::f9 [] X.env:=by rfl) :
  EW X E T (.Call (.Name "len" p) [a] [] pos) (λ(d:D)(Kn:Int->D->Prop) Ke=>wa d (λg d1=>Kn ((g d1).length:Int) d1) Ke):=by
 refine e1a2 ha λta a1 a2=>?_;refine⟨_,v6 xl hg hm mI (ul a1 uB hs) (he:=hs),λd F R σ H Kn Ke Q s hw kn ke=>a2 d F R σ H _ Ke _ s hw (λg d1 u F1 R1 H1 q1 c1 s1 r1=>?_) ke⟩;obtain⟨q,us,rfl,h1,h2⟩:=r1 d1 F1 R1 H1 (Ch.refl _ _ _ _) s1;refine⟨_,_,rfl,.inl<|vA.of h1,kn _ d1 _ F1 R1 H1 q1 c1 s1 ?_⟩;show V.int _=V.int _;rw[Paired.length h2]
end
def AL(X:Cx)(E:XK)(T:cr)(es:List hO){D α:Type}[Sls D][Rep α](w:Wf D (List α) D):Prop :=
 ∃t,PA X es t/\∀(d:D)(F R:Rg)(σ:St)(H:Hp)(Kn:List α->D->Prop)(Ke:cr->D->Prop)(Q:List V->Hp->Prop),vm T F R H d σ->w d Kn Ke ->
  (∀x d' vs F' R' H',Kn x d'->Ch T F R H F' R' H'->vm T F' R' H' d' σ->Paired (rp R' H') x vs->vs.length=es.length->Q vs H') ->
  (∀C y d' F' R' H',Ke C d'->Ch T F R H F' R' H'->vm T F' R' H' d' σ->E (.ref C) (some y) H')->t σ H Q
theorem vm.vals{T:cr}{D:Type}[Sls D]{d:D}{σ:St}{F R F' R':Rg}{H H':Hp}(s:vm T F R H d σ)(c:Ch T F R H F' R' H'){α:Type}[Rep α]{x:List α}{v:List V}(h:Paired (rp R H) x v):Paired (rp R' H') x v :=
 vq (c.ext.wide λa z=>z.elim (s.sub a) λq=>by rw[q];exact s.uW) h
section
variable{D:Type}[Sls D]{α β γ:Type}[Rep α][Rep β][Rep γ]
theorem ux:AL X E T [] (λ(d:D)(a:List α->D->Prop) _=>a [] d) :=
 ⟨_,uB,λd F R e H a f Q s b c _=>c [] d [] F R H b (Ch.refl _ _ _ _) s .nil rfl⟩
theorem uk{b:List hO}{i:Wf D α D}{j:Wf D (List α) D}(r:EW X E T e i)(t:AL X E T b j)(v:f9 (e::b) X.env=(false,eval e X.env)::f9 b X.env:=by rfl) :
  AL X E T (e::b) (λd l a=>i d (λx g=>j g (λm h=>l (x::m) h) a) a):=by
 refine e1a2 r λta w z=>?_;refine e1a2 t λtr A B=>?_;refine⟨_,ul w A v,λd F R n H l a Q s G I o=>?_⟩;refine z d F R n H _ a _ s G (λx g u J L M N p f O=>?_) o;refine B g J L n M _ a _ f N (λm h P S U W Y q Z r2 l2=>?_) λC y d' F' R' H' k c s'=>o C y d' F' R' H' k (Ch.trans s f.tab p c) s';exact I _ h (u::P) S U W Y (Ch.trans s f.tab p q) Z (.cons (f.val q O) r2) (by rw[gG,gG,l2])
theorem uy(h:AL X E T b w)(g:b.length<=gf:=by decide):EO X E T (.List b pos) (λ(d:D)(c:OL α->D->Prop) a=>w d (λe i=>c ⟨e⟩ i) a):=by refine e1a2 h λt j k=>?_;refine⟨_,NT j,λd F R l H c a Q s m n o=>k d F R l H _ a _ s m (λe q I r J L u v f x y=>⟨by rw[y];exact g,λp z=>?_⟩) o⟩;refine e1a3 (wG f z x) λA B C G=>?_;exact n _ q _ _ r A _ u (Ch.trans s f.tab v B) C G
theorem vW{r}(t:EW X E T a w)(z:EW X E T b A)
 (B:f9 [a,b] X.env=(false,eval a X.env)::f9 [b] X.env:=by rfl) (G:f9 [b] X.env=(false,eval b X.env)::f9 [] X.env:=by rfl) :
    EW X E T (.Tuple [a,b] r pos) (λ(d:D)(l:α×β->D->Prop) e=>w d (λx h=>A h (λy i=>l (x,y) i) e) e):=by
  refine e1a2 t λta I J=>?_
  refine e1a2 z λtb L M=>?_
  refine⟨_,NS<|ul I (ul L uB G) B,λd F R m H l e Q s N O n=>?_⟩
  refine J d F R m H _ e _ s N (λx h u P S U W o f Y=>?_) n
  refine M h P S m U _ e _ f W (λy i v Z R2 H2 q2 q g r2=>⟨(by show 2<=gf;decide),λp hp=>?_⟩) λC y d' F' R' H' k c s'=>n C y d' F' R' H' k (Ch.trans s f.tab o c) s'
  refine e0a3 (g.new (.tup [u,v]) hp) λs3 j n3=>?_
  exact O _ i _ Z R2 _ q2 (Ch.trans s f.tab o<|Ch.trans f g.tab q j) s3 ⟨p,u,v,rfl,n3,uh,g.val j<|f.val q Y,g.val j r2⟩
theorem wS{R:Rg}{H:Hp}:∀{xs ys:List α} {us vs:List V},Paired (rp R H) xs us->Paired (rp R H) ys vs->Paired (rp R H) (xs++ys) (us++vs):=by
 intro _ _ _ _ z s
 induction z with
 | nil=>exact s
 | cons h t ih=>exact .cons h ih
theorem Au(J:ER X E T a L)(M:ER X E T b N) :
  EO X E T (.BinOp a .Add b pos) (λ(d:D)(n:OL α->D->Prop) f=>L d (λg j=>N j (λk e=>(g e).length+(k e).length<=gf/\n ⟨g e++k e⟩ e) f) f):=by
 refine e1a2 J λta O P=>?_;refine e1a2 M λtb S U=>?_;refine⟨_,v0 VN O S,λd F R o H n f Q s W Y t=>?_⟩;refine P d F R o H _ f _ s W (λg j u Z R1 H1 q1 w h r1=>?_) t;refine U j Z R1 o H1 _ f _ h q1 (λk e v l x z A B i r2=>?_) λC y d' F' m H' k c s'=>t C y d' F' m H' k (Ch.trans s h.tab w c) s';obtain⟨p,us,rfl,h1,G⟩:=r1 e l x z B i;obtain⟨q,vs,rfl,k1,I⟩:=r2 e l x z (Ch.refl _ _ _ _) i;refine⟨p,q,us,vs,rfl,rfl,h1,k1,by rw[<- Paired.length G,<- Paired.length I];exact A.1,λr hr=>?_⟩;refine e1a3 (wG i hr<|wS G I) λm c3 s3 n3=>?_;exact Y _ e _ _ l m _ A.2 (Ch.trans s h.tab w<|Ch.trans h i.tab B c3) s3 n3
theorem FJ(j:Gl X "list")(k:X.mg "list"=none)(m:ER X E T a n)(f:f9 [a] X.env=(false,eval a X.env)::f9 [] X.env:=by rfl) :
  EO X E T (.Call (.Name "list" p) [a] [] pos) (λ(d:D)(h:OL α->D->Prop) c=>n d (λg b=>h ⟨g b⟩ b) c):=by
 refine e1a2 m λP o r=>?_;refine⟨_,wE xm j k jS (ul o uB f) (he:=f),λd F R t H h c Q s v w x=>r d F R t H _ c _ s v (λg b u i y z A B e C=>?_) x⟩;obtain⟨q,S,rfl,G,I⟩:=C b i y z (Ch.refl _ _ _ _) e;refine⟨_,_,rfl,.inl<|vA.of G,λl J=>?_⟩;refine e1a3 (wG e J I) λL M N O=>?_;exact w _ b _ _ i L _ A (Ch.trans s e.tab B M) N O
def ins(x:Int):List Int->List Int
 | []=>[x]
 | y::r=>if x<=y then x::y::r else y::ins x r
def Av:List Int->List Int
 | []=>[]
 | x::r=>ins x<|Av r
theorem zj(x:Int):∀r:List Int,(ins x r).Perm (x::r)
 | []=>nW _
 | y::r=>by
  unfold ins;split
  ·exact nW _
  ·exact((zj x r).cons y).trans<|List.Perm.swap x y r
theorem vI:∀r:List Int,(Av r).Perm r
 | []=>nW _
 | x::r=>(zj x<|Av r).trans<|(vI r).cons x
set_option tactic.hygienic true in
theorem FK(x:Int):∀r:List Int,r.Pairwise (·<=·)->(ins x r).Pairwise (·<=·)
 | [],_=>je _ _
 | y::r,h=>by
  unfold ins;have b:=List.pairwise_cons.mp h;split
  ·rename_i a
   refine List.pairwise_cons.mpr ⟨λz c=>?_,h⟩;rcases List.mem_cons.mp c with e|e
   ·rw[e];exact a
   ·exact Int.le_trans a<|b.1 z e
  ·rename_i a
   refine List.pairwise_cons.mpr ⟨λz c=>?_,FK x r b.2⟩;rcases List.mem_cons.mp ((zj x r).mem_iff.mp c) with e|e
   ·rw[e];lia
   ·exact b.1 z e
theorem AR:∀r:List Int,(Av r).Pairwise (·<=·)
 | []=>gR
 | x::r=>FK x _<|AR r
theorem zP:∀{a b:List Int},a.Perm b->a.Pairwise (·<=·)->b.Pairwise (·<=·)->a=b
 | [],b,p,_,_=>(List.Perm.nil_eq p)
 | x::a,[],p,_,_=>gy p.length_eq q0o
 | x::a,y::b,p,c,d=>by
  have e:x=y:=by
   have f:x∈y::b:=p.mem_iff.mp gc;have g:y∈x::a:=p.mem_iff.mpr gc;rcases List.mem_cons.mp f with q|q
   ·exact q
   ·rcases List.mem_cons.mp g with z|z
    ·exact z.symm
    ·have:=(List.pairwise_cons.mp d).1 x q;have:=(List.pairwise_cons.mp c).1 y z
     lia
  subst e;rw[zP p.cons_inv (List.pairwise_cons.mp c).2 (List.pairwise_cons.mp d).2]
theorem Dh{a:List Int}(p:a.Perm b)(h:a.Pairwise (·<=·)):a=Av b:=zP (p.trans (vI b).symm) h<|AR b
theorem paired_ints{R:Rg}{H:Hp}:∀{xs:List Int} {vs:List V},Paired (rp R H) xs vs->vs=xs.map V.int:=by
 intro _ _ z
 induction z with
 | nil=>rfl
 | cons h t ih=>rw[show _=V.int _ from h,ih];rfl
theorem wY{R:Rg}{H:Hp}:∀xs:List Int,Paired (rp R H) xs (xs.map V.int)
 | []=>.nil
 | x::r=>.cons (rfl:rp R H x (V.int x))<|wY r
theorem BB{a:hO}{p:Pos}{wa:Wf D (D->List Int) D}(hg:Gl X "sorted")(hm:X.mg "sorted"=none)(ha:ER X E T a wa)(hs:f9 [a] X.env=(false,eval a X.env)::f9 [] X.env:=by rfl) :
  EO X E T (.Call (.Name "sorted" p) [a] [] pos) (λ(d:D)(Kn:OL Int->D->Prop) Ke=>wa d (λg d1=>(g d1).length<64/\Kn ⟨Av<|g d1⟩ d1) Ke):=by
 refine e1a2 ha λta a1 a2=>?_;refine⟨_,v6 FE hg hm jF (ul a1 uB hs) (he:=hs),λd F R σ H Kn Ke Q s hw kn ke=>a2 d F R σ H _ Ke _ s hw (λg d1 u F1 R1 H1 q1 c1 s1 r1=>?_) ke⟩;obtain⟨q,us,rfl,h1,h2⟩:=r1 d1 F1 R1 H1 (Ch.refl _ _ _ _) s1;refine⟨_,g d1,rfl,vA.of (by rw[h1,paired_ints h2]),q1.1,λl ns hl pn sn=>?_⟩;rw[Dh pn sn];refine e1a3 (wG s1 hl<|wY (R:=R1) (H:=H1)<|Av<|g d1) λR' c3 s3 n3=>?_;exact kn _ d1 _ _ F1 R' _ q1.2 (Ch.trans s s1.tab c1 c3) s3 n3
def El{α:Type}(a:List α)(b c:Option Int):List α:=(a.drop<|HT.wj a.length 0 b).take<|HT.wj a.length a.length c-HT.wj a.length 0 b
theorem HM{R:Rg}{H:Hp}:∀{xs:List α} {vs:List V} (n:Nat),Paired (rp R H) xs vs->Paired (rp R H) (xs.drop n) (vs.drop n):=by
 intro _ _ n z
 induction z generalizing n with
 | nil=>cases n<;>exact .nil
 | cons h t ih=>cases n with
  | zero=>exact .cons h t
  | succ k=>exact ih k
theorem B4{R:Rg}{H:Hp}:∀{xs:List α} {vs:List V} (n:Nat),Paired (rp R H) xs vs->Paired (rp R H) (xs.take n) (vs.take n)
 | _,_,0,_=>.nil
 | _,_,_+1,.nil=>.nil
 | _,_,n+1,.cons r t=>.cons r<|B4 n t
theorem Di{R:Rg}{H:Hp}{xs:List α}{vs:List V}(h:Paired (rp R H) xs vs)(lo hi:Option Int):Paired (rp R H) (El xs lo hi) (CW vs lo hi):=by unfold El CW;rw[<- Paired.length h];exact B4 _<|HM _ h
def OW(X:Cx)(E:XK)(T:cr)(e:Option hO){D:Type}[Sls D](w:Wf D (Option Int) D):Prop :=
 ∃t,PO X e t/\∀(d:D)(F R:Rg)(g:St)(H:Hp)(h:Option Int->D->Prop)(i:cr->D->Prop)(Q:Option Int->Hp->Prop),vm T F R H d g->w d h i ->
  (∀x b c f a,h x b->Ch T F R H c f a->vm T c f a b g->Q x a) ->
  (∀C y b c f a,i C b->Ch T F R H c f a->vm T c f a b g->E (.ref C) (some y) a)->t g H Q
theorem FL:OW X E T none (λ(d:D) a _=>a none d):=⟨_,Co,λd F R e H a f Q s b c _=>c none d F R H b (Ch.refl _ _ _ _) s⟩
theorem FM(h:EW X E T e w):OW X E T (some e) (λ(d:D) b a=>w d (λi c=>b (some i) c) a):=by refine e1a2 h λt f g=>?_;exact⟨_,Cp f,λd F R j H b a Q s k l m=>g d F R j H _ a _ s k (λx n u o p q r v y z=>⟨x,z,l _ n o p q r v y⟩) m⟩
theorem HN{G:Option hO}(M:ER X E T a N)(O:OW X E T G P)(S:OW X E T U W) :
  EO X E T (.Subscript a (.Slice G U none p2) pos) (λ(d:D)(I:OL α->D->Prop) b=>N d (λg m=>P m (λl n=>W n (λh f=>I ⟨El (g f) l h⟩ f) b) b) b):=by
 refine e1a2 M λta Y Z=>?_;refine e1a2 O λtl l1 l2=>?_;refine e1a2 S λth h1 h2=>?_;refine⟨_,zb Cr Y l1 h1,λd F R o H I b Q s hw kn r=>?_⟩;refine Z d F R o H _ b _ s hw (λg m u F1 R1 H1 q1 t e r1=>?_) r;refine l2 m F1 R1 o H1 _ b _ e q1 (λl n F2 R2 H2 q2 v i=>?_) λC y w x j z k c A=>r C y w x j z k (Ch.trans s e.tab t c) A;refine h2 n F2 R2 o H2 _ b _ i q2 (λh f J R3 H3 q3 L B=>?_) λC y w x j z k c A=>r C y w x j z k (Ch.trans s e.tab t<|Ch.trans e i.tab v c) A;obtain⟨q,us,rfl,k1,k2⟩:=r1 f J R3 H3 (Ch.trans e i.tab v L) B;refine⟨q,us,rfl,vA.of k1,λp hp=>?_⟩;refine e1a3 (wG B hp<|Di k2 l h) λj c4 s4 n4=>?_;exact kn _ f _ _ J j _ q3 (Ch.trans s e.tab t<|Ch.trans e i.tab v<|Ch.trans i B.tab L c4) s4 n4
def Cm(X:Cx)(op:qu)(g:α->β->Bool):Prop:=∃r,zW X (iT op) r/\∀{R:Rg} {H:Hp} {x:α} {y:β} {u v:V} {Q:VK},rp R H x u->rp R H y v->Q (.bl<|g x y) H->r u v H Q
def Zx(X:Cx)(op:qu)(g:List α->List β->Bool):Prop:=∃r,zW X (iT op) r/\∀{R:Rg} {H:Hp} {x:List α} {y:List β} {p q:cr} {us vs:List V} {Q:VK},H p=some (.lst us)->Paired (rp R H) x us->H q=some (.lst vs)->Paired (rp R H) y vs->Q (.bl<|g x y) H->r (.ref p) (.ref q) H Q
def CmI(X:Cx)(op:qu)(g:α->List β->Bool):Prop:=∃r,zW X (iT op) r/\∀{R:Rg} {H:Hp} {x:α} {y:List β} {q:cr} {u:V} {vs:List V} {Q:VK},rp R H x u->H q=some (.lst vs)->Paired (rp R H) y vs->Q (.bl<|g x y) H->r u (.ref q) H Q
theorem Wd(a:zW X (iT op) (Rs λi j=>.bl<|g i j)):Cm X op g:=⟨_,a,λb c k=>⟨_,_,b,c,k⟩⟩
theorem OP:Cm X .Lt (λi j:Int=>decide<|i<j):=Wd UH
theorem UZ:Cm X .Gt (λi j:Int=>decide<|j<i):=Wd UJ
theorem OQ:Cm X .GtE (λi j:Int=>decide<|j<=i):=Wd XD
theorem zk[DecidableEq α][HL α]:Cm X .Eq (λx y:α=>decide<|x=y):=⟨_,Xz,λa b k=>⟨(HL.sc a b).1,by rw[(HL.sc a b).2];exact k⟩⟩
theorem OR[DecidableEq α][HL α]:Cm X .NotEq (λx y:α=>!decide (x=y)):=⟨_,XA,λa b k=>⟨(HL.sc a b).1,by rw[(HL.sc a b).2];exact k⟩⟩
theorem We:Cm X .Is (λ(x:Option α)(_:Unit)=>x.isNone):=⟨_,VE,λa b k=>⟨b,by rw[Le a];exact k⟩⟩
theorem Li:Cm X .IsNot (λ(x:Option α)(_:Unit)=>!x.isNone):=⟨_,RI,λa b k=>⟨b,by rw[Le a];exact k⟩⟩
theorem yG[DecidableEq α][Dat α](a:Dat.dp α<=64)(x:α):rs (Dat.dat x)=true:=by show (ot (Dat.dat x)&&decide ((Dat.dat x).depth<=64))=true;rw[g8];exact⟨Dat.lay x,decide_eq_true<|gO (Dat.dep x) a⟩
theorem FN[DecidableEq α][Dat α](b:X.A.units+64<jQ)(a:Dat.dp (List α)<=64:=by decide):Zx X .Eq (λx y:List α=>decide (x=y)):=⟨_,V1 b,λ{R H x y p q g h Q} c d e f k=>⟨_,_,EM.lst (vA.of c) (AQ d),EM.lst (vA.of e) (AQ f),yG a x,yG a y,Dat.nm x y,by
 have:=Dat.sm x y
 rw[show j0 (.list (x.map Dat.dat)) (.list (y.map Dat.dat))=decide (x=y) from this];exact k⟩⟩
theorem zl[DecidableEq α][Dat α](b:X.A.units+64<jQ)(a:Dat.dp (List α)<=64:=by decide):Zx X .NotEq (λx y:List α=>!decide (x=y)):=⟨_,V2 b,λ{R H x y p q g h Q} c d e f k=>⟨_,_,EM.lst (vA.of c) (AQ d),EM.lst (vA.of e) (AQ f),yG a x,yG a y,Dat.nm x y,by
 have:=Dat.sm x y
 rw[show j0 (.list (x.map Dat.dat)) (.list (y.map Dat.dat))=decide (x=y) from this];exact k⟩⟩
theorem AS(k:Int)(a:List Int):Zp (.int k) (a.map V.int)=decide (k∈a):=by
 unfold Zp;rw[List.any_map,lj,tZ,hJ];constructor
 ·rintro⟨y,b,e⟩;have:y=k:=by simpa[Rt] using e
  rw[<- this];exact b
 ·intro h;exact⟨k,h,by simp[Rt]⟩
theorem zQ(a:List Int):(a.map V.int).all AD=true:=by rw[List.all_map,nN];intro x _;rfl
theorem U0:CmI X .In (λ(x:Int)(ys:List Int)=>decide (x∈ys)):=⟨_,EE,λ{R H x y q u vs Q} h1 h2 h3 k=>by
 subst h1;refine⟨q,vs,rfl,.inl<|vA.of h2,rfl,by rw[paired_ints h3];exact zQ y,?_⟩;rw[paired_ints h3,AS]
 exact k⟩
theorem Dj:CmI X .NotIn (λ(x:Int)(ys:List Int)=>!decide (x∈ys)):=⟨_,AE,λ{R H x y q u vs Q} h1 h2 h3 k=>by
 subst h1;refine⟨q,vs,rfl,.inl<|vA.of h2,rfl,by rw[paired_ints h3];exact zQ y,?_⟩;rw[paired_ints h3,AS]
 exact k⟩
theorem tw_cm{a b:hO}{op:qu}{g:α->β->Bool}{wa:Wf D α D}{wb:Wf D β D}(C:Cm X op g)(ha:EW X E T a wa)(hb:EW X E T b wb)(hm:iq op b=false:=by exact x8 _) :
  TW X E T (.Compare a [op] [b] pos) (λ(d:D) Kn Ke=>wa d (λx d1=>wb d1 (λy d2=>Kn (g x y) d2) Ke) Ke):=by
 refine e1a2 C λr o1 o2=>?_;refine e1a2 ha λta a1 a2=>?_;refine e1a2 hb λtb b1 b2=>?_;refine⟨_,wR o1 a1 b1 hm,λd F R σ H Kn Ke Q s hw kn ke=>?_⟩;refine a2 d F R σ H _ Ke _ s hw (λx d1 u F1 R1 H1 q1 c1 s1 r1=>?_) ke;refine b2 d1 F1 R1 σ H1 _ Ke _ s1 q1 (λy d2 v F2 R2 H2 q2 c2 s2 r2=>?_) λC y d' F' R' H' k c s'=>ke C y d' F' R' H' k (Ch.trans s s1.tab c1 c) s';exact o2 (s1.val c2 r1) r2 ⟨_,rfl,kn _ d2 F2 R2 H2 q2 (Ch.trans s s1.tab c1 c2) s2⟩
theorem Yk{a b:hO}{op:qu}{g:α->β->Bool}{j:Wf D α D}{l:Wf D β D}(C:Cm X op g)(t:EW X E T a j)(w:EW X E T b l)(z:iq op b=false:=by exact x8 _) :
  EW X E T (.Compare a [op] [b] pos) (λ(d:D)(m:Bool->D->Prop) e=>j d (λx h=>l h (λy i=>m (g x y) i) e) e):=by
 obtain⟨r,A,B⟩:=C;obtain⟨ta,G,I⟩:=t;obtain⟨tb,J,L⟩:=w;refine⟨_,KR A G J z,λd F R n H m e Q s M N o=>?_⟩;refine I d F R n H _ e _ s M (λx h u O P H1 S p f U=>?_) o;refine L h O P n H1 _ e _ f S (λy i v W R2 H2 Y q Z r2=>?_) λC y d' F' R' H' k c s'=>o C y d' F' R' H' k (Ch.trans s f.tab p c) s';exact B (f.val q U) r2<|N _ i _ W R2 H2 Y (Ch.trans s f.tab p q) Z rfl
theorem tw_cmL{a b:hO}{op:qu}{g:List α->List β->Bool}{wa:Wf D (D->List α) D}{wb:Wf D (D->List β) D}(C:Zx X op g)(ha:ER X E T a wa)(hb:ER X E T b wb)(hm:iq op b=false:=by exact x8 _) :
  TW X E T (.Compare a [op] [b] pos) (λ(d:D) Kn Ke=>wa d (λx d1=>wb d1 (λy d2=>Kn (g (x d2)<|y d2) d2) Ke) Ke):=by
 refine e1a2 C λr o1 o2=>?_;refine e1a2 ha λta a1 a2=>?_;refine e1a2 hb λtb b1 b2=>?_;refine⟨_,wR o1 a1 b1 hm,λd F R σ H Kn Ke Q s hw kn ke=>?_⟩;refine a2 d F R σ H _ Ke _ s hw (λx d1 u F1 R1 H1 q1 c1 s1 r1=>?_) ke;refine b2 d1 F1 R1 σ H1 _ Ke _ s1 q1 (λy d2 v F2 R2 H2 q2 c2 s2 r2=>?_) λC y d' F' R' H' k c s'=>ke C y d' F' R' H' k (Ch.trans s s1.tab c1 c) s';obtain⟨p,us,rfl,h1,h2⟩:=r1 d2 F2 R2 H2 c2 s2;obtain⟨q,vs,rfl,k1,k2⟩:=r2 d2 F2 R2 H2 (Ch.refl _ _ _ _) s2;exact o2 h1 h2 k1 k2 ⟨_,rfl,kn _ d2 F2 R2 H2 q2 (Ch.trans s s1.tab c1 c2) s2⟩
theorem OS{a b:hO}{op:qu}{g:List α->List β->Bool}{wa:Wf D (D->List α) D}{wb:Wf D (D->List β) D}(C:Zx X op g)(ha:ER X E T a wa)(hb:ER X E T b wb)(hm:iq op b=false:=by exact x8 _) :
  EW X E T (.Compare a [op] [b] pos) (λ(d:D)(Kn:Bool->D->Prop) Ke=>wa d (λx d1=>wb d1 (λy d2=>Kn (g (x d2)<|y d2) d2) Ke) Ke):=by
 refine e1a2 C λr o1 o2=>?_;refine e1a2 ha λta a1 a2=>?_;refine e1a2 hb λtb b1 b2=>?_;refine⟨_,KR o1 a1 b1 hm,λd F R σ H Kn Ke Q s hw kn ke=>?_⟩;refine a2 d F R σ H _ Ke _ s hw (λx d1 u F1 R1 H1 q1 c1 s1 r1=>?_) ke;refine b2 d1 F1 R1 σ H1 _ Ke _ s1 q1 (λy d2 v F2 R2 H2 q2 c2 s2 r2=>?_) λC y d' F' R' H' k c s'=>ke C y d' F' R' H' k (Ch.trans s s1.tab c1 c) s';obtain⟨p,us,rfl,h1,h2⟩:=r1 d2 F2 R2 H2 c2 s2;obtain⟨q,vs,rfl,k1,k2⟩:=r2 d2 F2 R2 H2 (Ch.refl _ _ _ _) s2;exact o2 h1 h2 k1 k2<|kn _ d2 _ F2 R2 H2 q2 (Ch.trans s s1.tab c1 c2) s2 rfl
theorem tw_cmI{a b:hO}{op:qu}{g:α->List β->Bool}{wa:Wf D α D}{wb:Wf D (D->List β) D}(C:CmI X op g)(ha:EW X E T a wa)(hb:ER X E T b wb)(hm:iq op b=false:=by exact x8 _) :
  TW X E T (.Compare a [op] [b] pos) (λ(d:D) Kn Ke=>wa d (λx d1=>wb d1 (λy d2=>Kn (g x<|y d2) d2) Ke) Ke):=by
 refine e1a2 C λr o1 o2=>?_;refine e1a2 ha λta a1 a2=>?_;refine e1a2 hb λtb b1 b2=>?_;refine⟨_,wR o1 a1 b1 hm,λd F R σ H Kn Ke Q s hw kn ke=>?_⟩;refine a2 d F R σ H _ Ke _ s hw (λx d1 u F1 R1 H1 q1 c1 s1 r1=>?_) ke;refine b2 d1 F1 R1 σ H1 _ Ke _ s1 q1 (λy d2 v F2 R2 H2 q2 c2 s2 r2=>?_) λC y d' F' R' H' k c s'=>ke C y d' F' R' H' k (Ch.trans s s1.tab c1 c) s';obtain⟨q,vs,rfl,k1,k2⟩:=r2 d2 F2 R2 H2 (Ch.refl _ _ _ _) s2;exact o2 (s1.val c2 r1) k1 k2 ⟨_,rfl,kn _ d2 F2 R2 H2 q2 (Ch.trans s s1.tab c1 c2) s2⟩
theorem tw_val{w:Wf D Bool D}(h:EW X E T e w)(b:∀a,qa e X.env a=(do let v <- a;lZ e.pos;jW [v] (tF v)):=by intro _;rfl):TW X E T e w:=by refine e1a2 h λt c f=>?_;exact⟨_,Vj c b,λd F R g H A i Q s j k l=>f d F R g H _ i _ s j (λx m u n o p q r y z=>⟨x,z,k _ m n o p q r y⟩) l⟩
theorem tw_not{w:Wf D Bool D}(h:TW X E T e w):TW X E T (.UnaryOp .Not e pos) (λd f a=>w d (λb c=>f (!b) c) a):=by refine e1a2 h λt g i=>?_;exact⟨_,Vl g,λd F R j H f a Q s k l m=>i d F R j H _ a _ s k (λx c n o p q r u=>l _ c n o p q r u) m⟩
def WW(X:Cx)(E:XK)(T:cr)(e:hO){D:Type}[Sls D](w:Wf D Bool D):Prop :=
 ∃t,PW X e t/\∀(d:D)(F R:Rg)(g:St)(H:Hp)(h:Bool->D->Prop)(i:cr->D->Prop)(Q:Bool->Hp->Prop),vm T F R H d g->w d h i ->
  (∀x b c f a,h x b->Ch T F R H c f a->vm T c f a b g->Q x a) ->
  (∀C y b c f a,i C b->Ch T F R H c f a->vm T c f a b g->E (.ref C) (some y) a)->t g H Q
theorem tw_w{w:Wf D Bool D}(h:WW X E T e w):TW X E T e w:=e1a2 h λt a b=> ⟨t,a.pt,b⟩
theorem FO{w:Wf D Bool D}(h:TW X E T a w):WW X E T (.BoolOp .And [a] pos) w:=e1a2 h λt b c=> ⟨_,RF b,c⟩
theorem FP{w:Wf D Bool D}(h:TW X E T a w):WW X E T (.BoolOp .Or [a] pos) w:=e1a2 h λt b c=> ⟨_,NG b,c⟩
theorem Jw{e:List hO}{l m:Wf D Bool D}(v:TW X E T a l)(w:WW X E T (.BoolOp .And (b::e) pos) m):WW X E T (.BoolOp .And (a::b::e) pos) (λd i f=>l d (λx g=>if x=true then m g i f else i false g) f):=by
 refine e1a2 v λta z A=>?_;refine e1a2 w λtb B G=>?_;refine⟨_,Vk z B,λd F R n H i f Q s I o p=>?_⟩;refine A d F R n H _ f _ s I (λx g q r t u j h=>?_) p
 cases x with
 | true=>exact G g q r n t _ f _ h u (λy J L M N O P S=>o _ J L M N O (Ch.trans s h.tab j P) S) λC y U W Y Z k c s'=>p C y U W Y Z k (Ch.trans s h.tab j c) s'
 | false=>exact o _ g q r t u j h
theorem Lj{e:List hO}{l m:Wf D Bool D}(v:TW X E T a l)(w:WW X E T (.BoolOp .Or (b::e) pos) m):WW X E T (.BoolOp .Or (a::b::e) pos) (λd i f=>l d (λx g=>if x=true then i true g else m g i f) f):=by
 refine e1a2 v λta z A=>?_;refine e1a2 w λtb B G=>?_;refine⟨_,UC z B,λd F R n H i f Q s I o p=>?_⟩;refine A d F R n H _ f _ s I (λx g q r t u j h=>?_) p
 cases x with
 | false=>exact G g q r n t _ f _ h u (λy J L M N O P S=>o _ J L M N O (Ch.trans s h.tab j P) S) λC y U W Y Z k c s'=>p C y U W Y Z k (Ch.trans s h.tab j c) s'
 | true=>exact o _ g q r t u j h
theorem Lk{op}{w:Wf D Bool D}(h:EW X E T a w):EW X E T (.BoolOp op [a] pos) w:=e1a2 h λt b c=> ⟨_,Vm b,c⟩
theorem Wg{e:List hO}(t:EW X E T a w)(z:EW X E T (.BoolOp .And (b::e) pos) A):EW X E T (.BoolOp .And (a::b::e) pos) (λ(d:D)(i:Bool->D->Prop) f=>w d (λx g=>if x=true then A g i f else i false g) f):=by
 refine e1a2 t λta B G=>?_;refine e1a2 z λtb I J=>?_;refine⟨_,Vn B I,λd F R l H i f Q s L m n=>?_⟩;refine G d F R l H _ f _ s L (λx g u o p q r j h M=>⟨x,M,?_⟩) n
 cases x with
 | true=>exact J g o p l q _ f _ h r (λy N v O P S U W Y Z=>m _ N v O P S U (Ch.trans s h.tab j W) Y Z) λC y d' F' R' H' k c s'=>n C y d' F' R' H' k (Ch.trans s h.tab j c) s'
 | false=>exact m _ g _ o p q r j h rfl
theorem Yl{e:List hO}(t:EW X E T a w)(z:EW X E T (.BoolOp .Or (b::e) pos) A):EW X E T (.BoolOp .Or (a::b::e) pos) (λ(d:D)(i:Bool->D->Prop) f=>w d (λx g=>if x=true then i true g else A g i f) f):=by
 refine e1a2 t λta B G=>?_;refine e1a2 z λtb I J=>?_;refine⟨_,Xt B I,λd F R l H i f Q s L m n=>?_⟩;refine G d F R l H _ f _ s L (λx g u o p q r j h M=>⟨x,M,?_⟩) n
 cases x with
 | false=>exact J g o p l q _ f _ h r (λy N v O P S U W Y Z=>m _ N v O P S U (Ch.trans s h.tab j W) Y Z) λC y d' F' R' H' k c s'=>n C y d' F' R' H' k (Ch.trans s h.tab j c) s'
 | true=>exact m _ g _ o p q r j h rfl
theorem Wh(h:EW X E T a w):EW X E T (.UnaryOp .Not a pos) (λ(d:D)(f:Bool->D->Prop) c=>w d (λb e=>f (!b) e) c):=by refine e1a2 h λt g i=>?_;exact⟨_,Vo g,λd F R j H f c Q s k l m=>i d F R j H _ c _ s k (λx e u n o p q r v y=>⟨x,y,l _ e _ n o p q r v rfl⟩) m⟩
end
variable[L2.GX]
class SE(τ:Type)[Ow τ]:Prop where
 fr:∀{F R L:Rg} {H:Hp} {x:τ} {v:Option V},sl F R H x v->(∀a,L a->∃us,H a=some (.lst us))->sl F (λa=>R a\/L a) H x v
class Jx(α:Type)[Rep α]:Prop where
 no:∀{R L:Rg} {H:Hp} {x:α} {v:V},rp R H x v->(∀a,L a->∃us,H a=some (.lst us))->rp (λa=>R a\/L a) H x v
instance:Jx Int:=⟨λh _=>h⟩
instance:Jx Bool:=⟨λh _=>h⟩
instance{α β:Type}[Rep α][Rep β][Jx α][Jx β]:Jx (α×β):=⟨λ{R L H x v} h k=>by
 obtain⟨a,u,w,h1,h2,h3,h4,h5⟩:=h
 exact⟨a,u,w,h1,λz=>z.elim h2 λq=>(by obtain⟨us,e⟩:=k a q;rw[h3] at e;cases e),h3,Jx.no h4 k,Jx.no h5 k⟩⟩
theorem Ll{α:Type}[Rep α][Jx α]{R L:Rg}{H:Hp}(k:∀a,L a->∃us,H a=some (.lst us)):∀{xs:List α} {vs:List V},Paired (rp R H) xs vs->Paired (rp (λa=>R a\/L a) H) xs vs:=by
 intro _ _ z
 induction z with
 | nil=>exact .nil
 | cons h t ih=>exact .cons (Jx.no h k) ih
instance{α:Type}[Rep α][Jx α]:Jx (Tp α):=⟨λ{R L H x v} h k=>by
 refine e2a4 h λa vs h1 h2 h3 h4=>?_
 exact⟨a,vs,h1,λz=>z.elim h2 λq=>(by obtain⟨us,e⟩:=k a q;rw[h3] at e;cases e),h3,Ll k h4⟩⟩
instance{α:Type}[Rep α][Jx α]:SE α:=⟨λ{F R L H x v} h k=>by
 obtain⟨h1,u,e,h2⟩:=h
 exact⟨h1,u,e,Jx.no h2 k⟩⟩
instance{α:Type}[Rep α][Jx α]:SE (OL α):=⟨λ{F R L H x v} h k=>by
 refine e2a4 h λa vs h1 h2 h3 h4=>?_
 exact⟨a,vs,h1,h2,h3,Ll k h4⟩⟩
instance:SE Un:=⟨λh _=>h⟩
class Xj(P:Type)[Sls P]:Prop where
 fr:∀{F R L:Rg} {H:Hp} {x:P} {v:St},rel F R H x v->(∀a,L a->∃us,H a=some (.lst us))->rel F (λa=>R a\/L a) H x v
instance:Xj Unit:=⟨λh _=>h⟩
instance{τ P:Type}[Ow τ][Sls P][SE τ][Xj P]:Xj (τ×P):=⟨λh k=>by
 refine e4a4 h λv σ' F1 F2 h1 h2 h3 h4=>?_
 exact⟨v,σ',F1,F2,h1,h2,SE.fr h3 k,Xj.fr h4 k⟩⟩
class Wi(P:Type)[Sls P]:Prop where
 ls:∀{F R:Rg} {H:Hp} {x:P} {v:St},rel F R H x v->∀a,F a->∃us,H a=some (.lst us)
instance:Wi Unit:=⟨λh a z=>gy z (h.2 a)⟩
instance{α P:Type}[Rep α][Sls P][Wi P]:Wi (OL α×P):=⟨λ{F R H x v} h a z=>by
 obtain⟨v,σ',F1,F2,h1,h2,⟨b,vs,k1,k2,k3,k4⟩,h4⟩:=h;rcases(h2.all a).mp z with q|q
 ·rw[(k2 a).mp q];exact⟨vs,k3⟩
 ·exact Wi.ls h4 a q⟩
abbrev Wo(R L:Rg):Rg:=λa=>R a/\¬L a
theorem BC(R L:Rg)(H:Hp):Ext (λ_=>False) R H (Wo R L) H:=⟨λ_ _ _ h=>h,λa h=>.inl h.1⟩
theorem SF(h:∀a,L a->b a):Ext (λ_=>False) (Wo R L) H (Wo R b) H:=⟨λ_ _ _ h=>h,λa z=>.inl ⟨z.1,λq=>z.2<|h a q⟩⟩
theorem Sls.wk{D:Type}[Sls D]{F R R':Rg}{H:Hp}{d:D}{σ:St}(h:rel F R H d σ)(e:Ext (λ_=>False) R H R' H):rel F R' H d σ:=Sls.st h e (λ_ z=>z.elim)<|λ_ _ z=>z
theorem Ow.wk{τ:Type}[Ow τ]{F R R':Rg}{H:Hp}{d:τ}{σ:Option V}(h:sl F R H d σ)(e:Ext (λ_=>False) R H R' H):sl F R' H d σ:=Ow.st h e (λ_ z=>z.elim)<|λ_ _ z=>z
class Lb(Lc τ PO:Type)[Sls Lc][Ow τ][Sls PO]:Prop where
 fr:∀{F R L R0:Rg} {H:Hp} {x:τ} {v:Option V} {l:Lc} {us:St},rel L R0 H l us->sl F R H x v->sl F (λa=>R a\/L a) H x v
 fs:∀{F R L R0:Rg} {H:Hp} {x:PO} {v:St} {l:Lc} {us:St},rel L R0 H l us->rel F R H x v->rel F (λa=>R a\/L a) H x v
instance{Lc τ PO:Type}[Sls Lc][Ow τ][Sls PO][SE τ][Xj PO][Wi Lc]:Lb Lc τ PO:=⟨λh k=>SE.fr k (Wi.ls h),λh k=>Xj.fr k (Wi.ls h)⟩
theorem OT{R L:Rg}{H:Hp}(h:∀a,¬L a):Ext (λ_=>False) R H (λa=>R a\/L a) H:=⟨λ_ _ _ h=>h,λa z=>z.elim .inl λq=>gy q<|h a⟩
instance(priority:=high){τ PO:Type}[Ow τ][Sls PO]:Lb Unit τ PO:=⟨λh k=>Ow.wk k (OT h.2),λh k=>Sls.wk k (OT h.2)⟩
structure Dk(F F1 F2 F3:Rg):Prop where
 all:∀a,F a↔F1 a\/F2 a\/F3 a
 Hc:∀a,F1 a->F2 a->False
 IF:∀a,F1 a->F3 a->False
 IG:∀a,F2 a->F3 a->False
def Jy(X:Cx)(E:XK)(T:cr)(M:List hO){D P n B j:Type}[Sls D][Sls P][Sls n][Sls B][Sls j](k:B->j->n->D)(w:D->(P->B->j->Prop)->(cr->D->Prop)->Prop):Prop :=
 ∃t,PA X M t/\∀(d:D)(F R:Rg)(g:St)(H:Hp)(o:P->B->j->Prop)(q:cr->D->Prop)(Q:List V->Hp->Prop),vm T F R H d g->w d o q ->
  (∀p b l m r s u L h f a,o p b l->Ch T F R H h f a->Std T h f a->Dk h s u L->rel s (Wo f L) a p (m.map some)->rel u f a b g->rel L f a l r ->
   (∀v x z A G i c e I,rel z c e I (m.map some)->rel A c e v g->rel G c e x r->Dk i z A G->rel i c e (k v x I) g)->Q m a) ->
  (∀C y J h f a,q C J->Ch T F R H h f a->vm T h f a J g->E (.ref C) (some y) a)->t g H Q
section
variable{D:Type}[Sls D]
theorem uf:Jy X E T [] (λ(b:D)(_:Unit)(_:Unit)=>b) (λ(d:D)(c:Unit->D->Unit->Prop) _=>c () d ()):=by refine⟨_,uB,λd F R m H c n Q s e f _=>?_⟩;exact f () d () [] [] (λ_=>False) F (λ_=>False) F R H e (Ch.refl _ _ _ _) s.FH ⟨λa=>⟨λz=>.inr<|.inl z,λz=>z.elim (λq=>q.elim) λz=>z.elim id λq=>q.elim⟩,λ_ z=>z.elim,λ_ z=>z.elim,λ_ _ z=>z⟩ ⟨rfl,λ_ z=>z⟩ s.rel ⟨rfl,λ_ z=>z⟩ λo p r u v g h i w j k l t=>Sls.fq k λa=>⟨λz=>(t.all a).mpr<|.inr<|.inl z,λz=>((t.all a).mp z).elim (λq=>gy q<|j.2 a) λz=>z.elim id λq=>gy q<|l.2 a⟩
theorem uj{h:List hO}{n P o B a:Type}[Rep n][Sls P][Sls o][Sls B][Sls a]{f:B->a->o->D}{I:Wf D n D}{J:D->(P->B->a->Prop)->(cr->D->Prop)->Prop}
 (Y:EW X E T e I) (Z:Jy X E T h f J) (hs:f9 (e::h) X.env=(false,eval e X.env)::f9 h X.env:=by rfl) :
    Jy X E T (e::h) (λ(b:B)(l:a)(p:Un×o)=>f b l p.2) (λ(d:D)(M:n×P->B->a->Prop) g=>I d (λx q=>J q (λp b l=>M (x,p) b l) g) g):=by
  refine e1a2 Y λta a1 a2=>?_
  refine e1a2 Z λtr b1 b2=>?_
  refine⟨_,ul a1 b1 hs,λd F R N H M g Q s hw kn O=>?_⟩
  refine a2 d F R N H _ g _ s hw (λx q u F1 R1 H1 q1 S i r1=>?_) O
  refine b2 q F1 R1 N H1 _ g _ i q1 (λp b l U us r G2 L v j m q2 W s2 t2 h1 h2 hl k=>?_) λC y d' v j m k c s'=>O C y d' v j m k (Ch.trans s i.tab S c) s'
  refine kn (x,p) b l (u::U) us r G2 L v j m q2 (Ch.trans s i.tab S W) s2 t2 ⟨some u,U.map some,λ_=>False,r,rfl,two_nil r,⟨λ_ z=>z,u,rfl,Rep.st (i.val W r1)<|(BC j L m).wide λ_ z=>z.elim⟩,h1⟩ h2 hl λb' l' L1 L2 L3 w A G p' h3 h4 h5 t=>?_
  refine e4a4 h3 λv' aa M1 M2 z1 z2 z3 z4=>?_
  injection z1 with _ z5
  subst z5
  exact k b' l' L1 L2 L3 w A G p'.2 (Sls.fq z4<|two_eq z2 z3) h4 h5 t
theorem uP{o:List hO}(i:Nat){c S P w B g h:Type}[Ow c][Hs c][Sls S][Sls P][Sls w][Sls B][Sls g][Sls h]{j:B->h->w->D}{W:D->(P->B->h->Prop)->(cr->D->Prop)->Prop}
 [A0:At i D c S] [A:At i B c g] [U:Pt i g c B] (hr:Jy X E T o j W) (he:PE X (.Name x pos) (uN i):=by exact pv _) (hs:f9 (.Name x pos::o) X.env=(false,eval (.Name x pos) X.env)::f9 o X.env:=by rfl) :
    Jy X E T (.Name x pos::o) (λ(b:g)(l:h)(p:c×w)=>j (U.put b p.1) l p.2) (λ(d:D)(Y:c×P->g->h->Prop) y=>W d (λp b l=>Y (A.get b,p) (A.hole b) l) y):=by
  refine e1a2 hr λtr b1 b2=>?_
  refine⟨_,ul he b1 hs,λd F R σ H Y y Q s hw kn ke=>?_⟩
  refine e3a4 (A0.take s.rel) λv _ _ C _ G _=>?_
  obtain⟨u,rfl⟩:=Hs.has G
  refine⟨u,C,b2 d F R σ H _ y _ s hw (λp b l Z us G1 G2 L F' R' H' q2 c2 s2 e h1 h2 hl k=>?_) ke⟩
  refine e3a4 (A.take h2) λv' I M2 z1 r z3 z4=>?_
  rw[C] at z1
  cases z1
  have m1:∀a,I a->G2 a:=λa m=>(r.all a).mpr<|.inl m
  have m2:∀a,M2 a->G2 a:=λa m=>(r.all a).mpr<|.inr m
  refine kn (A.get b,p) (A.hole b) l (u::Z) us (λa=>I a\/G1 a) M2 L F' R' H' q2 c2 s2 ⟨λa=>?_,λa m n=>?_,λa m n=>?_,λa m n=>e.IG a (m2 a m) n⟩ ⟨some u,Z.map some,I,G1,rfl,⟨λ_=>Iff.rfl,λa m n=>e.Hc a n<|m1 a m⟩,Ow.wk z3<|BC R' L H',h1⟩ z4 hl λb' l' L1 L2 L3 J M N p' h3 h4 h5 t=>?_
  · rw[e.all, r.all]
    exact⟨λz=>z.elim (λq=>.inl<|.inr q) λz=>z.elim (λz=>z.elim (λq=>.inl<|.inl q) λq=>.inr<|.inl q) λq=>.inr<|.inr q,λz=>z.elim (λz=>z.elim (λq=>.inr<|.inl<|.inl q) .inl) λz=>z.elim (λq=>.inr<|.inl<|.inr q) λq=>.inr<|.inr q⟩
  · rcases m with m|m
    · exact r.xj a m n
    · exact e.Hc a m<|m2 a n
  · rcases m with m|m
    · exact e.IG a (m1 a m) n
    · exact e.IF a m n
  · refine e4a4 h3 λv' aa O N2 y1 f y3 y4 => ?_
    injection y1 with y5 y6
    subst y5;subst y6
    have tt:Cj (λa=>O a\/L2 a) O L2:=⟨λ_=>Iff.rfl,λa m n=>t.Hc a ((f.all a).mpr<|.inl m) n⟩
    refine k _ l' N2 (λa=>O a\/L2 a) L3 J M N p'.2 y4 (Pt.same (A:=U) h4 C tt y3) h5 ⟨λa=>?_,λa m n=>?_,λa m n=>t.IF a ((f.all a).mpr<|.inr m) n,λa m n=>?_⟩
    · rw[t.all, f.all]
      exact⟨λz=>z.elim (λz=>z.elim (λq=>.inr<|.inl<|.inl q) .inl) λz=>z.elim (λq=>.inr<|.inl<|.inr q) λq=>.inr<|.inr q,λz=>z.elim (λq=>.inl<|.inr q) λz=>z.elim (λz=>z.elim (λq=>.inl<|.inl q) λq=>.inr<|.inl q) λq=>.inr<|.inr q⟩
    · rcases n with n|n
      · exact f.xj a n m
      · exact t.Hc a ((f.all a).mpr<|.inr m) n
    · rcases m with m|m
      · exact t.IF a ((f.all a).mpr<|.inl m) n
      · exact t.IG a m n
theorem uA{u:List hO}(i:Nat){e W P y B h j:Type}[Rep e][Sls W][Sls P][Sls y][Sls B][Sls h][Sls j]{o:B->j->y->D}{Y:D->(P->B->j->Prop)->(cr->D->Prop)->Prop}
 [A0:At i D (OL e) W] [A:At i B (OL e) h] [U:Pt i h (OL e) B] (hr:Jy X E T u o Y) (he:PE X (.Name x pos) (uN i):=by exact pv _) (hs:f9 (.Name x pos::u) X.env=(false,eval (.Name x pos) X.env)::f9 u X.env:=by rfl) :
    Jy X E T (.Name x pos::u) (λ(b:h)(l:OL e×j)(p:Un×y)=>o (U.put b l.1) l.2 p.2) (λ(d:D)(Z:List e×P->h->OL e×j->Prop) C=>Y d (λp b l=>Z ((A.get b).l,p) (A.hole b) (A.get b,l)) C):=by
  refine e1a2 hr λtr b1 b2=>?_
  refine⟨_,ul he b1 hs,λd F R σ H Z C Q s hw kn ke=>?_⟩
  obtain⟨v,_,_,G,_,⟨r,_,rfl,_⟩,_⟩:=A0.take s.rel
  refine⟨_,G,b2 d F R σ H _ C _ s hw (λp b l vs us I G2 L F' R' H' q2 c2 s2 f h1 h2 hl k=>?_) ke⟩
  refine e3a4 (A.take h2) λv' J M2 z1 w z3 z4=>?_
  rw[G] at z1
  cases z1
  refine e2a4 (id z3) λa ws e1 e2 e3 e4=>?_
  cases e1
  have m1:∀a,J a->G2 a:=λa m=>(w.all a).mpr<|.inl m
  have m2:∀a,M2 a->G2 a:=λa m=>(w.all a).mpr<|.inr m
  refine kn ((A.get b).l,p) (A.hole b) (A.get b,l) (.ref r::vs) (some (.ref r)::us) I M2 (λc=>J c\/L c) F' R' H' q2 c2 s2 ⟨λa=>?_,λa m n=>f.Hc a m<|m2 a n,λa m n=>?_,λa m n=>?_⟩ ⟨some<|.ref r,vs.map some,λ_=>False,I,rfl,two_nil I,⟨λ_ z=>z,_,rfl,r,ws,rfl,λz=>z.2<|.inl<|(e2 r).mpr rfl,e3,vq ((BC R' _ H').wide λ_ z=>z.elim) e4⟩,Sls.wk h1<|SF λ_ z=>.inr z⟩ z4 ⟨_,us,J,L,rfl,⟨λ_=>Iff.rfl,λa m n=>f.IG a (m1 a m) n⟩,z3,hl⟩ λb' l' L1 L2 L3 M N O p' h3 h4 h5 t=>?_
  · rw[f.all, w.all]
    exact⟨λz=>z.elim .inl λz=>z.elim (λz=>z.elim (λq=>.inr<|.inr<|.inl q) λq=>.inr<|.inl q) λq=>.inr<|.inr<|.inr q,λz=>z.elim .inl λz=>z.elim (λq=>.inr<|.inl<|.inr q) λz=>z.elim (λq=>.inr<|.inl<|.inl q) λq=>.inr<|.inr q⟩
  · rcases n with n|n
    · exact f.Hc a m<|m1 a n
    · exact f.IF a m n
  · rcases n with n|n
    · exact w.xj a n m
    · exact f.IG a (m2 a m) n
  · refine e4a4 h3 λv' aa N1 N2 y1 y2 y3 y4 => ?_
    injection y1 with _ y6
    subst y6
    refine e4a4 h5 λv2 ab S K2 x1 g x3 x4=>?_
    injection x1 with x5 x6
    subst x5;subst x6
    have tt:Cj (λa=>S a\/L2 a) S L2:=⟨λ_=>Iff.rfl,λa m n=>t.IG a n<|(g.all a).mpr<|.inl m⟩
    refine k _ l'.2 L1 (λa=>S a\/L2 a) K2 M N O p'.2 (Sls.fq y4<|two_eq y2 y3) (Pt.same (A:=U) h4 G tt x3) x4 ⟨λa=>?_,λa m n=>?_,λa m n=>t.IF a m<|(g.all a).mpr<|.inr n,λa m n=>?_⟩
    · rw[t.all, g.all]
      exact⟨λz=>z.elim .inl λz=>z.elim (λq=>.inr<|.inl<|.inr q) λz=>z.elim (λq=>.inr<|.inl<|.inl q) λq=>.inr<|.inr q,λz=>z.elim .inl λz=>z.elim (λz=>z.elim (λq=>.inr<|.inr<|.inl q) λq=>.inr<|.inl q) λq=>.inr<|.inr<|.inr q⟩
    · rcases n with n|n
      · exact t.IF a m<|(g.all a).mpr<|.inl n
      · exact t.Hc a m n
    · rcases m with m|m
      · exact g.xj a m n
      · exact t.IG a m<|(g.all a).mpr<|.inr n
theorem Dl{P J B Lc M:Type}[Sls P][Sls J][Sls B][Sls Lc][Ow M][Lb Lc M J]{mrg:B->Lc->J->D}{wf:Wf P M J}{F R F1 F2 L:Rg}{H:Hp}{b:B}{l:Lc}{p:P}{σ:St}{vs:List V}{us:St}{Kn:M->D->Prop}{Ke:cr->D->Prop}{Q:VK}
  (s:Std T F R H) (t:Dk F F1 F2 L) (hp:rel F1 (Wo R L) H p (vs.map some)) (hb:rel F2 R H b σ) (hl:rel L R H l us) (km:∀b' l' G1 G2 G3 W u w r,rel G1 u w r (vs.map some)->rel G2 u w b' σ->rel G3 u w l' us->Dk W G1 G2 G3->rel W u w (mrg b' l' r) σ)
  (hw:wf p (λx r=>Kn x<|mrg b l r) (λC r=>Ke C<|mrg b l r))
  (kn:∀x X v M1 N i d,Kn x X->Ch T F R H (λa=>M1 a\/N a) i d->vm T N i d X σ->Nw T M1 N i d x v->Q v d)
  (ke:∀C y X Y i d,Ke C X->Ch T F R H Y i d->vm T Y i d X σ->E (.ref C) (some y) d):xN T wf vs H Q E:=by
 have O:∀a,F1 a->F a:=λa h=>(t.all a).mpr<|.inl h;have S:∀a,F2 a->F a:=λa h=>(t.all a).mpr<|.inr<|.inl h;have k:∀a,L a->F a:=λa h=>(t.all a).mpr<|.inr<|.inr h;have s1:vm T F1 (Wo R L) H p (vs.map some):=⟨hp,λa h=>⟨s.sub a<|O a h,λz=>t.IF a h z⟩,λa h=>s.wu a h.1,s.tab,⟨s.uW,λz=>s.uM<|k T z⟩,λh=>s.uM<|O T h⟩
 -- the region aa it: Z the ab left and Z ah ag
 have ex:∀{G i:Rg} {d:Hp},Ch T F1 (Wo R L) H G i d->Ext (λa=>F1 a\/a=T) R H (λa=>i a\/L a) d:=λc=>⟨λb o n h=>c.keep b o (λz=>n<|.inl z) (λz=>n<|.inr z) h,λa h=>h.elim (λz=>(c.zh a z).elim (λq=>.inl q.1) .inr) λz=>.inl<|s.sub a<|k a z⟩;have gs:∀a,(F1 a\/a=T)->R a:=λa h=>h.elim (λz=>s.sub a<|O a z) λq=>by rw[q];exact s.uW
 have fr:∀{G i:Rg} {d:Hp},Ch T F1 (Wo R L) H G i d->rel F2 (λa=>i a\/L a) d b σ:=λc=>Sls.st hb (ex c) gs λa h z=>z.elim (λq=>t.Hc a q h) λq=>s.uM (by rw[<- q];exact S a h);have A:∀{G i:Rg} {d:Hp},Ch T F1 (Wo R L) H G i d->rel L (λa=>i a\/L a) d l us:=λc=>Sls.st hl (ex c) gs λa h z=>z.elim (λq=>t.IF a q h) λq=>s.uM (by rw[<- q];exact k a h)
 have nF:∀{G i:Rg} {d:Hp},Ch T F1 (Wo R L) H G i d->∀a,G a->F2 a\/L a->False:=λc a g f=>by
  rcases c.xo a g with q|q
  ·exact f.elim (t.Hc a q)<|t.IF a q
  ·exact s.wu a (s.sub a<|f.elim (S a)<|k a) q
 have nR:∀{G i:Rg} {d:Hp},Ch T F1 (Wo R L) H G i d->∀a,L a->¬i a:=λc a h z=>by
  rcases c.zh a z with q|q
  ·exact q.2 h
  ·exact s.wu a (s.sub a<|k a h) q
 have ch:∀{G i:Rg} {d:Hp},Ch T F1 (Wo R L) H G i d->Ch T F R H (λa=>G a\/F2 a\/L a) (λa=>i a\/L a) d:=λc=>⟨λb o n m h=>c.keep b o (λz=>n<|O b z) m h,(ex c).new,λa h=>h.elim (λq=>(c.xo a q).elim (λz=>.inl<|O a z) .inr) λq=>.inl<|q.elim (S a)<|k a,λa h n=>.inl<|c.left a ⟨h,λz=>n<|k a z⟩ λz=>n<|O a z⟩;have ae:∀{G i:Rg} {d:Hp},Ch T F1 (Wo R L) H G i d->∀a,F2 a->i a:=λc a f=>c.left a ⟨s.sub a<|S a f,λz=>t.IG a f z⟩ λz=>t.Hc a z f
 have af:∀{G i:Rg} {d:Hp},Ch T F1 (Wo R L) H G i d->(∀a,i a->d a≠none)->∀a,i a\/L a->d a≠none:=λc h a z=>z.elim (h a) λq=>by
  cases e:H a with
  | none=>exact gy e<|s.wu a<|s.sub a<|k a q
  | some o=>rw[c.keep a o (λz=>t.IF a z q) (λz=>s.uM<|by rw[<- z];exact k a q) e];simp
 refine⟨F1,Wo R L,p,_,_,s1,hw,λx r v M1 N i d q c j n=>?_,λC y r Y i d q c j=>?_⟩
 ·have U:=nF c;have kl:=A c;have I:=ch c;refine kn x _ v M1 (λa=>N a\/F2 a\/L a) (λa=>i a\/L a) d q ⟨I.keep,I.zh,λa h=>I.xo a<|h.elim (λz=>.inl<|.inl z) λz=>z.elim (λq=>.inl<|.inr q) .inr,I.left⟩ ⟨km b l N F2 L _ _ d r (Lb.fs M kl j.rel) (fr c) (A c) ⟨λ_=>Iff.rfl,λa m f=>U a (.inr m)<|.inl f,λa m f=>U a (.inr m)<|.inr f,t.IG⟩,λa h=>h.elim (λz=>.inl<|j.sub a z) λz=>z.elim (λq=>.inl<|ae c a q) .inr,af c j.wu,j.tab,.inl j.uW,λh=>h.elim j.uM λz=>z.elim (λq=>s.uM<|S T q) λq=>s.uM<|k T q⟩ ⟨Lb.fr J kl n.is,λa m=>.inl<|n.sub a m,λa m z=>z.elim (n.xj a m) λz=>U a (.inl m) z,n.tab⟩
 ·have U:=nF c;have kl:=A c;exact ke C y _ (λa=>Y a\/F2 a\/L a) (λa=>i a\/L a) d q (ch c) ⟨km b l Y F2 L _ _ d r (Lb.fs M kl j.rel) (fr c) (A c) ⟨λ_=>Iff.rfl,λa m f=>U a m<|.inl f,λa m f=>U a m<|.inr f,t.IG⟩,λa h=>h.elim (λz=>.inl<|j.sub a z) λz=>z.elim (λq=>.inl<|ae c a q) .inr,af c j.wu,j.tab,.inl j.uW,λh=>h.elim j.uM λz=>z.elim (λq=>s.uM<|S T q) λq=>s.uM<|k T q⟩
theorem OU{P j B o:Type}[Sls P][Sls j][Sls B][Ow o]{mrg:B->j->D}{wf:Wf P o j}{F R F1 F2:Rg}{H:Hp}{b:B}{p:P}{σ:St}{r:List V}{Kn:o->D->Prop}{Ke:cr->D->Prop}{Q:VK}
  (s:Std T F R H) (t:Cj F F1 F2) (I:rel F1 R H p (r.map some)) (J:rel F2 R H b σ) (M:∀k m n e c d f,rel m c d f (r.map some)->rel n c d k σ->Cj e m n->rel e c d (mrg k f) σ)
  (hw:wf p (λx f=>Kn x<|mrg b f) (λC f=>Ke C<|mrg b f))
  (N:∀x i v w u h g,Kn x i->Ch T F R H (λa=>w a\/u a) h g->vm T u h g i σ->Nw T w u h g x v->Q v g)
  (O:∀C y i A h g,Ke C i->Ch T F R H A h g->vm T A h g i σ->E (.ref C) (some y) g):xN T wf r H Q E :=
 Dl (Lc:=Unit) (L:=λ_=>False) (l:=()) (us:=[]) (mrg:=λb _ p=>mrg b p) s ⟨λa=>(t.all a).trans ⟨λz=>z.elim .inl λq=>.inr<|.inl q,λz=>z.elim .inl λq=>q.elim .inr gU⟩,t.xj,λ_ _ z=>z,λ_ _ z=>z⟩ (Sls.wk I<|BC _ _ _) J ⟨rfl,λ_ z=>z⟩
  (λk _ m n X e c d f S U W G=>M k m n e c d f S U ⟨λa=>(G.all a).trans ⟨λz=>z.elim .inl λq=>q.elim .inr λq=>gy q<|W.2 a,λz=>z.elim .inl λq=>.inr<|.inl q⟩,G.Hc⟩) hw N O
theorem AT{P j B o r:Type}[Sls P][Sls j][Sls B][Sls o][Ow r][Lb o r j]{a:B->o->j->D}{Y:Wf P r j}{Z:D->(P->B->o->Prop)->(cr->D->Prop)->Prop}{k:Nat}{ps:List Str}{m:List hO}
 (F:uL X.prog X.w X.K X.mg X.base (uV X.prog X.w) k f fd ps (xN T Y)) (hr:vD k X.A) (hg:Gl X x) (hm:X.mg x=some (.ref f)) (hk:iC X.K (.ref f)=true) (hb:Binds X.K fd ps []) (hx:Passes (uV X.prog X.w) X E)
 (ha:Jy X E T (e::m) a Z) (z:(x==("__debug__":Str))=false:=by decide) (he:f9 (e::m) X.env=(false,eval e X.env)::f9 m X.env:=by rfl) (I:(iJ pos<|f9 m X.env).any (·.1)=false:=by rfl) :
    EO X E T (.Call (.Name x p) (e::m) [] pos) (λ(d:D)(Kn:r->D->Prop) u=>Z d (λp b l=>Y p (λx J=>Kn x<|a b l J)<|λC J=>u C<|a b l J) u):=by
  refine e1a2 ha λt a1 a2=>?_
  refine⟨_,RL F hr hg hm hk hb .nil hx a1 z he I,λd F' R σ H Kn u Q s hw kn ke=>?_⟩
  refine a2 d F' R σ H _ u _ s hw (λp b l vs us F1 F2 L G R' H' q c M tw h1 h2 h3 km=>?_) ke
  rw[jN]
  exact Dl M tw h1 h2 h3 km q (λx N v M1 M2 g h O S i n=>kn x N v M1 M2 g h O (Ch.trans s M.tab c S) i n) λC y N U g h O S i=>ke C y N U g h O (Ch.trans s M.tab c S) i
class Obj(τ:Type)[Ow τ](K:fZ)(C:cr)(m:Str):Prop where
 ob:∀{F R:Rg} {H:Hp} {x:τ} {v:V},sl F R H x (some v)->∃a dx fs,v=.ref a/\H a=some (.ins C dx fs)/\fs.lookup m=none
end
section
variable{D PO τ:Type}[Sls D][Sls PO][Ow τ]{α:Type}[Rep α]
theorem yH{F:Rg}:Ext (λc=>c=a) R H R (upd H a o):=⟨λb u n h=>by rw[ud n];exact h,λ_ h=>.inl h⟩
theorem AU{i:Nat}{D0:Type}[Sls D0][A:At i D (OL α) D0][U:Pt i D0 (OL α) D]{F R:Rg}{H:Hp}{d:D}{σ:St}(s:vm T F R H d σ):∃a vs,σ[i]?=some (some<|.ref a)/\H a=some (.lst vs)/\Paired (rp R H) (A.get d).l vs /\
  ∀(ys:List α)(us:List V),Paired (rp R H) ys us->Ch T F R H F R (upd H a<|.lst us)/\vm T F R (upd H a<|.lst us) (U.put (A.hole d) ⟨ys⟩) σ:=by
 obtain⟨v,F1,F2,h1,h2,⟨a,vs,rfl,h4,h5,h6⟩,h7⟩:=A.take s.rel;have aF:F a:=(h2.all a).mpr<|.inl<|(h4 a).mpr rfl;have aT:a≠T:=λz=>s.uM (by rw[<- z];exact aF);refine⟨a,vs,h1,h5,h6,λys us hp=>?_⟩;have ex:=yH (F:=F) (R:=R) (H:=H) (a:=a) (o:=.lst us);have gs:∀c,c=a->R c:=λc z=>by rw[z];exact s.sub a aF
 have k:∀b u,b≠a->H b=some u->upd H a (.lst us) b=some u:=λb u z e=>by rw[ud z];exact e
 refine⟨⟨λb o n _ e=>k b o (λz=>n<|by rw[z];exact aF) e,λ_ h=>.inl h,λ_ h=>.inl h,λ_ h _=>h⟩,Pt.same (A:=U) (Sls.st h7 ex gs λc z q=>h2.xj c ((h4 c).mpr q) z) h1 h2 ⟨a,us,rfl,h4,uh,vq (ex.wide gs) hp⟩,s.sub,λc z=>?_,?_,s.uW,s.uM⟩
 ·by_cases e:c=a
  ·rw[e,uh];simp
  ·rw[ud e];exact s.wu c z
 ·refine e1a2 s.tab λps e t=>?_;exact⟨ps,k _ _ (λz=>aT z.symm) e,t⟩
theorem vJ{x:Str}{e:hO}(i:Nat){p1 p2 p3:Pos}{D0:Type}[Sls D0][A:At i D (OL α) D0][U:Pt i D0 (OL α) D][J:Pj D PO n]{we:Wf D α D}(h:EW X E T e we)
  (hb:∀{t:TA},PA X [e] t->PS X (.Expr (.Call (.Attribute (.Name x p1) "append" p2) [e] [] p3) pos) (Hm<|tBM X.K "list" K5 (uN i) t):=by exact λh=>AA<|UM lh PySem.F.slot_list_append PySem.F.type_list_append Mr (pv _) h) (hs:f9 [e] X.env=(false,eval e X.env)::f9 [] X.env:=by rfl) :
  S1 X E T ms n (.Expr (.Call (.Attribute (.Name x p1) "append" p2) [e] [] p3) pos) (λ(d:D)(Kn:D->Prop)(Kr:τ->PO->Prop) Ke=>we d (λy d'=>(A.get d').l.length<gf/\Kn (U.put (A.hole d') ⟨(A.get d').l++[y]⟩)) λC d'=>Ke C<|J.pj d'):=by
 refine e1a2 h λt h1 h2=>?_;refine⟨_,hb<|ul h1 uB hs,λd F R σ H Kn Kr Ke En s hw kn kr ke=>?_⟩;refine e2a4 (AU (i:=i) s) λa vs g1 g2 g3 _=>?_;refine⟨_,g1,.inl ⟨rfl,vs,vA.of g2⟩,h2 d F R σ H _ _ _ s hw (λy d' v F' R' H' q c s' r=>?_) λC y d' F' R' H' q c s'=>?_⟩
 ·refine e2a4 (AU (i:=i) s') λa' SG k1 k2 k3 k4=>?_;rw[g1] at k1;cases k1;obtain⟨c2,s2⟩:=k4 _ _<|wS k3<|.cons r .nil;exact⟨a,SG,v,rfl,rfl,k2,by rw[<- Paired.length k3];exact q.1,kn _ F' R' _ σ q.2 (Ch.trans s s'.tab c c2) s2<|Ag.refl _ _⟩
 ·refine e1a2 (vM (PO:=PO) s') λG g1 g2=>?_;exact ke C y _ G R' H' q (c.less g1) g2
end
def GW(X:Cx)(T:cr)(ms:List Nat)(tg:hO){D D1 α:Type}[Sls D][Sls D1][Rep α](g:D->α->D1):Prop :=
 ∃t,PG X tg t/\∀(d:D)(F R:Rg)(σ:St)(H:Hp)(x:α)(v:V)(Q:St->Hp->Prop),vm T F R H d σ->rp R H x v->(∀F' σ',(∀a,F' a->F a)->vm T F' R H (g d x) σ'->Ag ms σ σ'->Q σ' H)->t v σ H Q
section
variable{D:Type}[Sls D]{α β:Type}[Rep α][Rep β]
theorem Jz{i:Nat}{Ym D0 D1:Type}[Ow Ym][Sls D0][Sls D1][A:At i D Ym D0][U:Pt i D0 α D1]{F R:Rg}{H:Hp}{d:D}{σ:St}{x:α}{v:V}(s:vm T F R H d σ)(r:rp R H x v) :
  ∃F',(∀a,F' a->F a)/\vm T F' R H (U.put (A.hole d) x) (σ.set i<|some v):=by
 have m:Nw T (λ_=>False) F R H x v:=⟨⟨λ_ z=>z,v,rfl,r⟩,λ_ z=>z.elim,λ_ z=>z.elim,λz=>z⟩;refine e1a2 (EQ (i:=i) s m) λG g1 g2=>?_;exact⟨G,λa h=>(g1 a h).elim (λz=>z.elim) id,g2⟩
theorem uF{x:Str}(i:Nat){Ym D0 D1:Type}[Ow Ym][Sls D0][Sls D1][A:At i D Ym D0][U:Pt i D0 α D1](hp:PG X (.Name x pos) (BU i))(hm:i∉ms:=by decide):GW X T ms (.Name x pos) (λ(d:D)(x:α)=>U.put (A.hole d) x) :=
 ⟨_,hp,λd F R σ H x v Q s r k=>by
  refine e1a2 (Jz (i:=i) s r) λF' f1 f2=>?_
  exact k F' _ f1 f2 (Ag.set hm)⟩
theorem AV(i j:Nat)[Ow b][Ow c][Sls e][Sls f][Sls g][Sls m][A:At i D b e][U:Pt i e α f][n:At j f c g][o:Pt j g β m](p:PG X q (Vu X.K 2<|Ez (BU i)<|Ez (BU j) Vt))(t:i∉l)(y:j∉l) :
  GW X T l q (λ(d:D)(x:α×β)=>o.put (n.hole<|U.put (A.hole d) x.1) x.2) :=
 ⟨_,p,λd F R M H x v Q s r k=>by
  obtain⟨a,u,w,rfl,_,z,B,C⟩:=r;refine e1a2 (Jz (i:=i) s B) λN E G=>?_;refine e1a2 (Jz (i:=j) G C) λI J L=>?_
  exact⟨a,[u,w],rfl,yq.of z,rfl,u,[w],rfl,w,[],rfl,rfl,k I _ (λa h=>E a (J a h)) L ((Ag.set t).trans (Ag.set y))⟩⟩
end
structure Xk{α:Type}[Rep α](J:It)(xs:List α)(Ps:Rg->Hp->Prop):Prop where
 go:∀{R:Rg} {H:Hp} {i:Nat},Ps R H->i<xs.length->J.go i H
 G9:∀{R:Rg} {H:Hp} {i:Nat} {v:V} {H':Hp},Ps R H->(∀a,R a->H a≠none)->i<xs.length->J.G9 i H v H'->(H'=H\/∃p o,H p=none/\H'=upd H p o)/\∃x,xs[i]?=some x/\rp R H' x v
 stop:∀{R:Rg} {H:Hp},Ps R H->J.stop xs.length H
def IW(X:Cx)(E:XK)(T:cr)(O:List Nat)(P e:hO){D B o:Type}[Sls D][Sls B][Rep o](k:B->List o->D)(w:D->(List o->B->Prop)->(cr->D->Prop)->Prop):Prop :=
 ∃t,PI X P e t/\∀(d:D)(F R:Rg)(l:St)(H:Hp)(s:List o->B->Prop)(u:cr->D->Prop)(v:It->Hp->Prop),vm T F R H d l->w d s u ->
  (∀p b J m j q x f c,s p b->Ch T F R H j f c->Std T j f c->Cj j q x->rel x f c b l->Xk J p m->m f c ->
   (∀{G r z:Rg} {A I:Hp},m r A->(∀a,G a->r a)->(∀a,q a->¬G a)->Ext G r A z I->m z I) ->
   (∀L M n g h i,m g h->rel M g h L i->Ag O l i->Cj n q M->rel n g h (k L p) i)->v J c) ->
  (∀C y N j f c,u C N->Ch T F R H j f c->vm T j f c N l->E (.ref C) (some y) c)->t l H v
section
variable{D:Type}[Sls D]{α β:Type}[Rep α][Rep β]
theorem AW{K:fZ}{xs:List α}{vs:List V}:Xk (Xf K a) xs (λR H=>H a=some (.lst vs)/\Paired (rp R H) xs vs) where
 go:=λ{R H i} p h=>by refine e1a2 (v7 (i:=i) (x:=xs[i]) p.2<|by simp[h]) λv e _=>?_;exact⟨vs,v,vA.of p.1,e⟩
 G9:=λ{R H i v H'} p _ hi y=>by obtain⟨e,y⟩:=y;subst e;have y':=y vs<|vA.of p.1;refine e1a2 (v7 (i:=i) (x:=xs[i]) p.2<|by simp[hi]) λu e r=>?_;rw[y'] at e;cases e;exact⟨.inl rfl,_,by simp[hi],r⟩
 stop:=λ{R H} p=>⟨vs,vA.of p.1,by rw[Paired.length p.2];exact ga _⟩
theorem vv{w:Wf D (List α) D}(h:EW X E T e w):IW X E T is tg e (λ(b:D)(_:List α)=>b) w:=by refine e1a2 h λt h1 h2=>?_;refine⟨_,Fi h1,λd F R σ H Kn Ke Rk s hw kn ke=>h2 d F R σ H _ _ _ s hw (λxs d' v F' R' H' q c s' r=>?_) ke⟩;obtain⟨a,vs,rfl,r1,r2,r3⟩:=r;refine⟨a,rfl,⟨vs,vA.of r2⟩,kn xs d' _ (λR H=>(H a=some (.lst vs)/\Paired (rp R H) xs vs)/\¬R a) F' (λ_=>False) F' R' H' q c s'.FH (two_nil F') s'.rel ⟨λp=>AW.go p.1,λp=>AW.G9 p.1,λp=>AW.stop p.1⟩ ⟨⟨r2,r3⟩,r1⟩ (λp gs nf ex=>?_) λb' G2 UY IE OO σ' p h g t=>Sls.fq h<|two_eq t λ_ z=>z⟩;have na:¬_:=λz=>p.2<|gs a z;exact⟨⟨ex.keep a _ na p.1.1,vq (ex.wide gs) p.1.2⟩,ex.not p.2 p.1.1⟩
theorem JA{x:Str}(i:Nat){B:Type}[Sls B][A:At i D (OL α) B][U:Pt i B (OL α) D](hn:PE X (.Name x pos) (uN i))(hi:i∈is):IW X E T is tg (.Name x pos) (λ(b:B)(xs:List α)=>U.put b ⟨xs⟩) (λ(d:D)(Kn:List α->B->Prop) _=>Kn (A.get d).l<|A.hole d):=by refine⟨_,Fi hn,λd F R σ H Kn Ke Rk s hw kn ke=>?_⟩;obtain⟨v,F1,F2,h1,h2,⟨a,vs,rfl,h4,h5,h6⟩,h7⟩:=A.take s.rel;refine⟨_,h1,a,rfl,⟨vs,vA.of h5⟩,kn _ _ _ (λR H=>H a=some (.lst vs)/\Paired (rp R H) (A.get d).l vs) F F1 F2 R H hw (Ch.refl _ _ _ _) s.FH h2 h7 AW ⟨h5,h6⟩ (λp gs nf ex=>⟨ex.keep a _ (nf a<|(h4 a).mpr rfl) p.1,vq (ex.wide gs) p.2⟩) λb' G2 UY IE OO σ' p h g t=>?_⟩;exact Pt.same (A:=U) h (by rw[g.2 i hi];exact h1) t ⟨a,vs,rfl,h4,p.1,p.2⟩
def xO(a b:Int):List Int:=(gH (b-a).toNat).map λ(i:Nat)=>a+(i:Int)
theorem vX(a b:Int):(xO a b).length=(b-a).toNat:=by unfold xO;rw[gh,kB]
theorem SH{a b:Int}{i:Nat}(h:i<(b-a).toNat):(xO a b)[i]?=some (a+(i:Int)):=by unfold xO;rw[i4,sN h];rfl
theorem ES{lo hi:Int}:Xk (Vy lo (hi-lo).toNat) (xO lo hi) (λ_ _=>True) where
 go:=λ{R H i} _ h=>by rw[vX] at h;exact h
 G9:=λ{R H i v H'} _ _ hi y=>by obtain⟨e,y⟩:=y;subst e y;rw[vX] at hi;exact⟨.inl rfl,_,SH hi,rfl⟩
 stop:=λ{R H} _=>by rw[vX];exact ga _
theorem wH(n:Gl X "range")(o:X.mg "range"=none)(u:EW X E T a w)(x:f9 [a] X.env=(false,eval a X.env)::f9 [] X.env:=by rfl)(e:f9 [a] X.env=[(false,eval a X.env)]:=by rfl) :
  IW X E T is Q (.Call (.Name "range" p) [a] [] pos) (λ(b:D)(_:List Int)=>b) (λ(d:D) k l=>w d (λj f=>(-(2 ^ 62)<=j/\j<2 ^ 62)/\k (xO 0 j) f) l):=by
 refine e1a2 u λt y A=>?_;refine⟨_,Me n o (ul y uB x) e,λd F R B H k l S s C G I=>A d F R B H _ _ _ s C (λj f v i J L q c m r=>?_) I⟩;subst r;refine⟨j,rfl,q.1.1,q.1.2,?_⟩;have:=G (xO 0 j) f (Vy 0 (j-0).toNat) (λ_ _=>True) i (λ_=>False) i J L q.2 c m.FH (two_nil i) m.rel ES trivial (λ_ _ _ _=>trivial) λU W M N O P p h g t=>Sls.fq h<|two_eq t λ_ z=>z;rw[Int.sub_zero] at this;exact this
theorem MP(hg:Gl X "range")(hm:X.mg "range"=none)(N:EW X E T a O)(P:EW X E T b Q)(m:∀{G:TA},PA X [a,b] G->PI X S (.Call (.Name "range" p) [a,b] [] pos) (UF G))
 (U:f9 [a,b] X.env=(false,eval a X.env)::f9 [b] X.env:=by rfl) (n:f9 [b] X.env=(false,eval b X.env)::f9 [] X.env:=by rfl) :
    IW X E T is S (.Call (.Name "range" p) [a,b] [] pos) (λ(b:D)(_:List Int)=>b) (λ(d:D) I o=>O d (λi w=>Q w (λj e=>(-(2 ^ 62)<=i/\i<2 ^ 62/\-(2 ^ 62)<=j/\j<2 ^ 62)/\I (xO i j) e) o) o):=by
  obtain⟨t,W,Y⟩:=N
  obtain⟨tb,Z,b2⟩:=P
  refine⟨_,m<|ul W (ul Z uB n) U,λd F R J H I o Rk s hw kn L=>Y d F R J H _ _ _ s hw (λi w u F1 R1 H1 q1 M x r1=>?_) L⟩
  refine b2 w F1 R1 J H1 _ _ _ x q1 (λj e v f A B q c l r=>?_) λC y e f A B k c l=>L C y e f A B k (Ch.trans s x.tab M c) l
  subst r;subst r1
  exact⟨i,j,rfl,q.1,kn (xO i j) e (Vy i (j-i).toNat) (λ_ _=>True) f (λ_=>False) f A B q.2 (Ch.trans s x.tab M c) l.FH (two_nil f) l.rel ES trivial (λ_ _ _ _=>trivial) λb' G2 aa ab ae af p h g t=>Sls.fq h<|two_eq t λ_ z=>z⟩
end
def FQ{α B PO τ:Type}(b:α->B->(B->Prop)->(τ->PO->Prop)->(cr->PO->Prop)->Prop):List α->B->(B->Prop)->(τ->PO->Prop)->(cr->PO->Prop)->Prop
 | [],d,Kn,_,_=>Kn d
 | x::xs,d,Kn,Kr,Ke=>b x d (λd'=>FQ b xs d' Kn Kr Ke) Kr Ke
section
variable{D B D1 D2 PO τ α:Type}[Sls D][Sls B][Sls D1][Sls D2][Sls PO][Ow τ][Rep α]
theorem Ch.big(c:Ch T F R H d e f)(g:∀a,F a->G a):Ch T G R H d e f:=⟨λb o n m h=>c.keep b o (λz=>n<|g b z) m h,c.zh,λa h=>(c.xo a h).elim (λz=>.inl<|g a z) .inr,λa h n=>c.left a h λz=>n<|g a z⟩
theorem Ch.OV(t:Cj F F1 d)(c:Ch T d R H e f g):Ch T F R H (λa=>F1 a\/e a) f g:=⟨λb o n m h=>c.keep b o (λz=>n<|(t.all b).mpr<|.inr z) m h,c.zh,λa h=>h.elim (λz=>.inl<|(t.all a).mpr<|.inl z) λz=>(c.xo a z).elim (λz=>.inl<|(t.all a).mpr<|.inr z) .inr,λa h n=>c.left a h λz=>n<|(t.all a).mpr<|.inr z⟩
theorem Ch.trans'{j:Rg}{i k:Hp}(s:Std T F R H)(m:TabAt i T)(a:Ch T F R H l p i)(b:Ch T l p i r j k):Ch T F R H r j k:=by
 have f:∀c,¬F c->H c≠none->¬l c:=λc n h z=>by
  rcases a.xo c z with q|q
  ·exact n q
  ·exact h q
 have d:∀c,i c=none->¬(F c)->H c=none:=λc h n=>by
  cases e:H c with
  | none=>rfl
  | some o =>
   have u:c≠T:=λz=>by rw[z] at h;exact yk m h
   rw[a.keep c o n u e] at h;cases h
 refine⟨λc o n t h=>b.keep c o (f c n<|by rw[h];simp) t<|a.keep c o n t h,λc h=>?_,λc h=>?_,λc h n=>b.left c (a.left c h n)<|f c n<|s.wu c h⟩
 ·rcases b.zh c h with q|q
  ·exact a.zh c q
  ·by_cases g:F c
   ·exact .inl<|s.sub c g
   ·exact .inr<|d c q g
 ·rcases b.xo c h with q|q
  ·exact a.xo c q
  ·by_cases g:F c
   ·exact .inl g
   ·exact .inr<|d c q g
theorem drop_cons{α:Type}{a:List α}{i:Nat}{x:α}(h:a[i]?=some x):a.drop i=x::a.drop (i+1):=by have b:=(List.getElem?_eq_some_iff.mp h);rw[mY b.1,b.2]
theorem Ag.sub(a:Ag c d b)(h:∀i∈e,i∈c):Ag e d b:=⟨a.1,λi f=>a.2 i<|h i f⟩
theorem vT{I:B->List α->D}{wi:D->(List α->B->Prop)->(cr->D->Prop)->Prop}{g:B->α->D1}{wb:D1->(D2->Prop)->(τ->PO->Prop)->(cr->PO->Prop)->Prop}[Gf:Fg D2 B][J:Pj D PO n](dp:Rv PO ms n)(hp:qL (gp X.prog X.w) X.A X.env X.xe)(hc:X.calm=true)
 (hi:IW X E T is tg iter I wi) (hg:GW X T mb tg g) (hb:SW X E T mb n body wb) (h1:∀i∈ms,i∈mb) (h2:∀i∈is,i∈mb) (hs:∀x,jB iter X.env x=pure x:=by intro _;rfl) :
    S1 X E T ms n (.For tg iter body [] pos) (λ(d:D)(Kn:D->Prop)(S:τ->PO->Prop) P=>wi d (λQ b=>FQ (λx b U S P=>wb (g b x) (λd2=>U<|Gf.fg d2) S P) Q b (λb'=>Kn<|I b' Q) S P) λC d'=>P C<|J.pj d'):=by
  refine e1a2 hi λti i1 i2=>?_
  refine e1a2 hg λar g1 g2=>?_
  refine e1a2 hb λtb Y b2=>?_
  refine⟨_,NM hp hc i1 g1 Y hs,λd F R σ H Kn S P En s hw kn kr ke=>?_⟩
  refine i2 d F R σ H _ _ _ s hw (λQ b Jt Ps F' Z F2 R' H' q c s' tw hr ip ps pk pb=>?_) λC y d' F' R' H' q c s'=>?_
  · -- the ao
    refine⟨λi m l N=>m=Q.length-i/\i<=Q.length/\∃Y G r j,Ch T F' R' H' G j N/\Std T G j N/\Cj G Z r/\rel r j N Y l/\Ps j N/\Ag mb σ l/\FQ (λx b U S P=>wb (g b x) (λd2=>U (Gf.fg d2)) S P) (Q.drop i) Y (λb'=>Kn (I b' Q)) S P,
      ⟨_,rfl,im _,b,F',F2,R',Ch.refl _ _ _ _,s',tw,hr,ps,Ag.refl _ _,q⟩,?_⟩
    rintro i m l N ⟨rfl,hi,Y,G,r,j,c1,O,t1,r1,p1,a1,w1⟩
    have cc:=Ch.trans s s'.tab c c1
    by_cases ae:i<Q.length
    · refine .inr ⟨ip.go p1 ae, λaf L => ∃b2 G2 ah R2, Ch T F' R' H' G2 R2 L /\ Std T G2 R2 L /\ Cj G2 Z ah /\ rel ah R2 L b2 af /\ Ps R2 L /\ Ag mb σ af /\ FQ (λx b U S P => wb (g b x) (λd2 => U<|Gf.fg d2) S P) (Q.drop<|i+1) b2 (λb' => Kn<|I b' Q) S P, λaf L p => ⟨Q.length-(i+1), by omega, rfl, ae, p⟩, λx L y => ?_⟩
      obtain⟨hH,x',ex,rx⟩:=ip.G9 p1 O.wu ae y
      -- the aq ag the aa step
      have aj:Ch T G j N G j L/\Std T G j L/\rel r j L Y l/\Ps j L:=by
        rcases hH with e|⟨p,o,hp,e⟩
        · subst e; exact⟨Ch.refl _ _ _ _, O, r1, p1⟩
        · subst e
          have k:∀b u,N b=some u->upd N p o b=some u:=λb u e=>by rw[ud<|uo e hp];exact e
          have ex:Ext (λ_=>False) j N j (upd N p o):=⟨λb u _ e=>k b u e,λa h=>.inl h⟩
          refine⟨⟨λb u _ _ e=>k b u e,λa h=>.inl h,λa h=>.inl h,λa h _=>h⟩,⟨O.sub,λa z=>?_,?_,O.uW,O.uM⟩,Sls.st r1 ex (λ_ z=>z.elim)<|λ_ _ z=>z,pk p1 (λ_ z=>z.elim) (λ_ _ z=>z) ex⟩
          · cases e : N a with
            | none=>exact gy e<|O.wu a z
            | some u=>rw[k a u e];simp
          · refine e1a2 O.tab λqs e t => ?_
            exact⟨qs,k _ _ e,t⟩
      obtain⟨c2,M,r2,p2⟩:=aj
      have W:∀a,r a->G a:=λa h=>(t1.all a).mpr<|.inr h
      have S2:vm T r j L Y l:=⟨r2,λa h=>M.sub a<|W a h,M.wu,M.tab,M.uW,λh=>M.uM<|W T h⟩
      rw[drop_cons ex] at w1
      refine g2 Y r j l L x' x _ S2 rx λF3 ak f3 S3 a3=>?_
      have ai:=Ch.trans' s' O.tab c1 c2
      have ab:=Ch.trans s s'.tab c ai
      have t3:∀a,Z a->F3 a->False:=λa h k=>t1.xj a h<|f3 a k
      refine b2 _ F3 j ak L _ S P _ S3 w1 (λd2 F4 R4 H4 au q4 c4 f a4=>?_) (λx p' v M1 M2 R4 H4 q4 c4 f n4=>?_) λC y p' F4 R4 H4 q4 c4 f=>?_
      · refine e1a2 (Gf.le f.rel) λF5 f5 r5 => ?_
        have t4:∀a,Z a->F4 a->False:=λa h k=>by
          rcases c4.xo a k with z|z
          · exact t3 a h z
          · exact M.wu a (M.sub a<|(t1.all a).mpr<|.inl h) z
        have al:Ch T G j L (λa=>Z a\/F5 a) R4 H4:=(Ch.OV (F1:=Z) (F:=λa=>Z a\/F3 a) ⟨λ_=>Iff.rfl,t3⟩<|c4.less f5).big λa h=>h.elim (λz=>(t1.all a).mpr<|.inl z) λz=>W a<|f3 a z
        have an:∀a,Z a->R4 a:=λa h=>c4.left a (M.sub a<|(t1.all a).mpr<|.inl h) λz=>t3 a h z
        refine⟨Gf.fg d2,λa=>Z a\/F5 a,F5,R4,Ch.trans' s' M.tab ai al,⟨λa h=>h.elim (an a) λz=>f.sub a<|f5 a z,f.wu,f.tab,f.uW,λh=>h.elim (λz=>M.uM<|(t1.all T).mpr<|.inl z) λz=>f.uM<|f5 T z⟩,⟨λ_=>Iff.rfl,λa h k=>t4 a h<|f5 a k⟩,r5,?_,(a1.trans a3).trans a4,q4⟩
        exact pk p2 (G:=λa=>F3 a\/a=T) (λa h=>h.elim (S3.sub a) λz=>by rw[z];exact M.uW) (λa h z=>z.elim (t3 a h) λz=>M.uM<|(t1.all T).mpr<|.inl<|by rw[<- z];exact h) c4.ext
      · refine kr x p' v M1 M2 R4 H4 q4 (Ch.trans s M.tab ab<|c4.big λa h => W a<|f3 a h) ⟨dp.dp ((a1.trans a3).sub h1) f.rel, f.sub, f.wu, f.tab, f.uW, f.uM⟩ n4
      · exact ke C y p' F4 R4 H4 q4 (Ch.trans s M.tab ab<|c4.big λa h => W a<|f3 a h) ⟨dp.dp ((a1.trans a3).sub h1) f.rel, f.sub, f.wu, f.tab, f.uW, f.uM⟩
    · have e : i = Q.length := by omega
      subst e
      rw[t6] at w1
      exact .inl ⟨ip.stop p1,kn _ G j N l w1 cc ⟨pb Y r G j N l p1 r1 (a1.sub h2) t1,O.sub,O.wu,O.tab,O.uW,O.uM⟩<|a1.sub h1⟩
  · refine e1a2 (vM (PO := PO) s') λG g1 g2 => ?_
    exact ke C y _ G R' H' q (c.less g1) g2
end
end WL
namespace L2
open PySem PySem.Spec PyProof.Rows
section
variable{X:Cx}{elt iter tg:hO}{scope:kZ}{cl:List (Str×cr)}{T Fr:List Str}{idx:List Nat}{wi:TI}{pos:Pos}{ifs:List hO}
theorem B5{pins:List (cr×Obj)}{σ:St}{s2:gk}{H2:Hp}{J:It}{fp:List cr}{it:cr}{tn:Nat->hR->Prop}{E:ci->gk->Prop}{RR:ci->cr->Result->gk->Prop}{P:List V->Hp->Prop}(hcm:X.calm=true)
  (B:x9 X scope cl T Fr idx) 
  (I2:Inv X pins σ H2 s2) (Tn:Turn X.prog X.w X.K tg J fp it tn) (Zy:tn 0 s2.heap) (f2:∀b∈fp,Ak X pins H2 b)
  (hb:∀s₀ H₀ C ex pn,∃(g:TG)(tt:TT)(te:TE),(PG (Eb X scope cl (T++Fr) s₀ H₀ C ex pn) tg g/\V3 (Eb X scope cl (T++Fr) s₀ H₀ C ex pn) ifs tt/\PE (Eb X scope cl (T++Fr) s₀ H₀ C ex pn) elt te)/\∃W:Nat->Nat->List V->St->Hp->Prop,(∃m,W 0 m [] (wx T idx σ) H2)/\∀i m ys σ' H,W i m ys σ' H->(J.stop i H/\P ys H)\/(J.go i H/\ys.length<gf/\∀x H',J.G9 i H x H'->g x σ' H' λWj H2=>tt Wj H2 λb H3=>if b=true then te Wj H3 λy H4=>∃m',m'<m/\W (i+1) m' (ys++[y]) Wj H4 else ∃m',m'<m/\W (i+1) m' ys Wj H3))
  (hRR:∀(D C:cr)(s':gk)(H':Hp)(ys:List V),H' D=none->P ys H'->Inv X pins σ (upd H' D<|.lst ys) s'->(∃m,s'.heap.Ns C m)->(upd H' D<|.lst ys) C=none->C≠X.env.locals->X.s₀.heap.objs.size<=C->(∀x c,X.env.cells.lookup x=some c->c≠C)->(∀p∈X.pn++pins,p.1≠C)->RR (.ref D) C (.ok .next) s') :
  gn (gp X.prog X.w) X.A (newList []) (λacc a0w=>gn (gp X.prog X.w) X.A (newFunctionEnv scope X.env.globals cl [] X.env.qual none .none (some X.env)) (λcenv a0x =>
   lJ (gp X.prog X.w) X.A (.compStart (.ListComp elt [⟨tg,iter,ifs,0⟩] scope pos) 0 (.ref it) acc { cenv with scope:=n8 scope X.env}) (RR acc cenv.locals) a0x) E a0w) E s2:=by
 refine hI<|wpAny_newFunctionEnv B.As (by intro y hy;simp at hy) (λh4 ns4 Zu=>?_) B.kind;have Zz:∀b o,s2.heap.get? b=some o->(s2.heap.push { cls:=.type "list",dict:=none,data:=.seq ([]:List ci).toArray}).get? b=some o:=λb o e=>ce _ e;have oD3:(s2.heap.push { cls:=.type "list",dict:=none,data:=.seq ([]:List ci).toArray}).get? s2.heap.objs.size=some { cls:=.type "list",dict:=none,data:=.seq ([]:List ci).toArray}:=gu _ rfl;have sz3:(s2.heap.push { cls:=.type "list",dict:=none,data:=.seq ([]:List ci).toArray}).objs.size=s2.heap.objs.size+1:=iW _ _;generalize s2.heap.push { cls:=.type "list",dict:=none,data:=.seq ([]:List ci).toArray}=h3 at ns4 Zu Zz oD3 sz3 ⊢;have I3:Inv X pins σ H2 { s2 with heap:=h3}:=I2.kept (t':=s2.toks) Zz;have OX:H2 s2.heap.objs.size=none:=I2.uU.fresh<|ga _;have Wk:∀b o,h3.get? b=some o->h4.get? b=some o:=λb o e=>Zu.extBut b o (gx<|gl e)<|ce _ e;have OY:H2 h3.objs.size=none:=I3.uU.fresh<|ga _;have Yn:s2.heap.objs.size≠h3.objs.size:=by rw[sz3];exact gx<|iQ _
 -- facts about D,C,fp in X
 have fD:Ak X pins H2 s2.heap.objs.size:=I2.Fh (ga _) OX;have fC:Ak X pins H2 h3.objs.size:=I3.Fh (ga _) OY
 have HP:∀b∈s2.heap.objs.size::fp,Ak X pins H2 b/\b≠h3.objs.size:=λb ym=>by
  rcases List.mem_cons.mp ym with e|e
  ·subst e;exact⟨fD,Yn⟩
  ·refine⟨f2 b e,?_⟩;obtain⟨o,ho,_⟩:=Tn.obj 0 _ Zy b e;exact gx<|gl<|Zz b o ho
 -- the ZA context
 generalize FR:Eb X scope cl (T++Fr) { s2 with heap:=h3} H2 h3.objs.size (s2.heap.objs.size::fp) (X.pn++pins)=X';obtain⟨g,tt,te,⟨hG,hT,hE⟩,W,w0,turn⟩:=hb { s2 with heap:=h3} H2 h3.objs.size (s2.heap.objs.size::fp) (X.pn++pins);rw[FR] at hG hT hE
 have ok':X'.Ok:=by
  subst FR
  exact {
   mod:=I3.ok.mod
   kind:=B.kind
   glob:=I3.ok.glob
   blt:=I3.ok.blt
   above:=ga _
   inj:=λx y c e1 e2=>I3.ok.inj x y c (B.sub x c e1)<|B.sub y c e2
   has:=λx h=>B.has h
   Ny:=λx c h=>by cases h
   hd:=I3.ok.hd
   frames:=I3.ok.frames
   Bj:=.inl rfl
   RD:=λb ym=>⟨(HP b ym).2,λx c e=>(HP b ym).1.2.2.2.2.1 x c<|B.sub x c e⟩
   bs:=λb o e=>I3.bs b o e
   Hh:=gO I3.ok.Hh I3.sz
   Ce:=λb o e ym=>by
    rcases(HP b ym).1.2.2.2.1 with z|z
    ·exact I3.ok.Ce b o e z
    ·exact gy (gD (gl e)<|gO I3.ok.Hh z)<|jj _
   CP:=λb ym hf=>by
    rcases List.mem_cons.mp (I3.CQ b hf) with z|z
    ·exact(HP b ym).1.2.1 z
    ·exact(HP b ym).1.2.2.1 z
   xC:=I3.stack
   IC:=λb ym=>I3.KJ b ym}
 have xA:X'.A=X.A:=by subst FR;rfl
 have xp:X'.prog=X.prog:=by subst FR;rfl
 have xw:X'.w=X.w:=by subst FR;rfl
 have xK:X'.K=X.K:=by subst FR;rfl
 have xc:X'.calm=true:=by subst FR;exact hcm
 have xe:X'.env=si scope cl h3.objs.size X.env:=by subst FR;rfl
 have I4:Inv X' [] (wx T idx σ) H2 { s2 with heap:=h4}:=by
  have hN:X'.N=T++Fr:=by subst FR;rfl
  refine⟨ok',by subst FR;rfl,I3.bare,by subst FR;exact Un.kept Wk,?_,?_,by subst FR;exact OY,?_,?_,?_,?_⟩
  ·obtain⟨m,hn,hl⟩:=I3.loc;refine⟨_,by rw[xe];exact ns4,λi x v e1 e2 e3=>?_⟩;rw[hN] at e1;unfold wx at e2;by_cases hi:i<T.length
   ·rw[kS (by rw[gh];exact hi),i4,iP hi] at e2;cases e2
   ·rw[jk q0a] at e1;rw[jk (by rw[gh];lia),gh,i4] at e2;obtain⟨i0,c,q1,q2,q3,q4,q5⟩:=B.fr _ x e1;rw[q1] at e2;have ZB:(σ[i0]?).join=some v:=ii e2
    have a0y:σ[i0]?=some (some v):=by
     cases z:σ[i0]? with
     | none=>rw[z] at ZB;cases ZB
     | some y=>rw[z] at ZB;have:y=some v:=ZB;rw[this]
    obtain⟨u,r,l⟩:=hl i0 x v q2 a0y (by
     rcases q3 with z|z
     ·exact .inr<|.inl z
     ·exact .inr (.inr z))
    refine⟨u,r,?_⟩;rcases l with⟨k,_⟩|⟨k,c',e,z⟩
    ·rcases q3 with y|y<;>(rw[y] at k;cases k)
    ·have:=B.sub x c q4;rw[e] at this;cases this;refine .inr ⟨by rw[xe];exact q5,_,by rw[xe];exact q4,?_⟩;obtain⟨o,ho,hd⟩:=z;exact⟨o,Wk _ _ ho,hd⟩
  ·intro x c e;rw[xe] at e;obtain⟨v,o,ho,hd⟩:=I3.cell x c<|B.sub x c e;exact⟨v,o,Wk _ _ ho,hd⟩
  ·intro x c e;rw[xe] at e;exact I3.xh x c<|B.sub x c e
  ·intro p hp;have hp':p∈X.pn++pins:=by subst FR;simpa using hp
   obtain⟨a1,a2,a3,a4,a5⟩:=I3.pin p hp';refine⟨Wk _ _ a1,a2,?_,?_,a5⟩
   ·rw[xe];exact gx<|gl a1
   ·subst FR;intro hf;rcases List.mem_cons.mp (I3.CQ _ hf) with z|z
    ·exact a3 z
    ·exact a4 z
  ·subst FR;exact I3.uU.kept Wk
  ·rw[hN];unfold wx;rw[gw,gw,gh,gh,B.len]
 have oD4:=Wk _ _ oD3;have st4:tn 0 h4:=Tn.keep _ _ _ Zy λb _ o e=>Wk b o<|Zz b o e
 -- a0A stays true of the Wl objects and of D
 have Yo:∀{H':Hp} {pins':List (cr×Obj)},(∀p∈pins',p.1∉s2.heap.objs.size::fp)->(∀b∈s2.heap.objs.size::fp,H' b=none)->∀b∈s2.heap.objs.size::fp,Ak X' pins' H' b:=by
  intro H' pins' hp hn b ym;subst FR;obtain⟨⟨z1,z2,z3,z4,z5,z6⟩,z7⟩:=HP b ym;refine⟨hn b ym,z7,?_,.inl ym,λx c e=>z5 x c<|B.sub x c e,λp hp'=>?_⟩
  ·intro hf;rcases List.mem_cons.mp (I3.CQ b hf) with z|z
   ·exact z2 z
   ·exact z3 z
  ·rcases List.mem_append.mp hp' with q|q
   ·exact z6 p q
   ·intro e;exact hp p q (by rw[e];exact ym)
 -- the end
 have fin:∀(s5:gk)(NA:St)(H5:Hp)(ys:List V)(yW:List ci)(nD:Nat),Inv X' [] NA H5 s5->(∀b∈s2.heap.objs.size::fp,H5 b=none)->s5.heap.get? s2.heap.objs.size=some { cls:=.type "list",dict:=none,data:=.seq yW.toArray nD}->Vals ys yW->ys.length<=gf->P ys H5->RR (.ref s2.heap.objs.size) h3.objs.size (.ok .next) s5:=by
  intro s5 NA H5 ys yW nD I5 n5 ZC v5 l5 q5;have D5:=n5 _ gc;have Wm:Un (yp X.stack) (s2.heap.objs.size::fp) H2 H5 h3 s5.heap:=by have z:=I5.base;subst FR;exact z
  have C5:H5 h3.objs.size=none:=by have z:=I5.free;rw[xe] at z;exact z
  have a0B:wU X.prog X.w (upd H5 s2.heap.objs.size<|.lst ys) s5.heap:=wU.UT (by have z:=I5.uU;rw[xp,xw] at z;exact z) D5 ⟨l5,yW,nD,v5,ZC⟩
  have u5:Un (yp X.stack) (s2.heap.objs.size::fp) H2 (upd H5 s2.heap.objs.size<|.lst ys) h3 s5.heap:=by have Yp:∀b u,H2 b=some u->b≠s2.heap.objs.size:=λb u e=>uo e OX;exact⟨Wm.keep,Wm.slot,λb o e n hx=>by rw[ud<|λz=>hx<|by rw[z];exact gc];exact Wm.free b o e n hx,Wm.there,λb xs e=>by rw[ud<|Yp b _ e];exact Wm.Az b xs e,λb o u e=>by rw[ud<|Yp b _ e];exact Wm.Ai b o u e,λb ps e=>by rw[ud<|Yp b _ e];exact Wm.Aj b ps e⟩
  have os5:s5.os=s2.os:=by have z:=I5.os;subst FR;exact z
  have IX:Inv X pins σ (upd H5 s2.heap.objs.size<|.lst ys) s5:=Inv.UB (s:={ s2 with heap:=h3}) I3 os5 u5 a0B I5.bare λb ym=>by obtain⟨⟨z1,z2,z3,z4,z5,z6⟩,z7⟩:=HP b ym;exact⟨z4,z2,z5,z6⟩
  obtain⟨m5,ns5,_⟩:=I5.loc;rw[xe] at ns5;refine hRR s2.heap.objs.size h3.objs.size s5 H5 ys D5 q5 IX ⟨m5,ns5⟩ (by rw[ud<|Ne.symm Yn];exact C5) fC.2.1 (gO I3.sz<|ga _) fC.2.2.2.2.1 fC.2.2.2.2.2
 obtain⟨m0,w0⟩:=w0
 have loop:lJ (gp X.prog X.w) X.A (.compLoop (.ListComp elt [⟨tg,iter,ifs,0⟩] scope pos) 0 (.ref it) (.ref s2.heap.objs.size)<|si scope cl h3.objs.size X.env) (RR (.ref s2.heap.objs.size) h3.objs.size) { s2 with heap:=h4}:=by
  refine Ox (λn s5=>∃i ys yW nD NA H5,Inv X' [] NA H5 s5/\tn i s5.heap/\(∀b∈s2.heap.objs.size::fp,H5 b=none)/\s5.heap.get? s2.heap.objs.size=some { cls:=.type "list",dict:=none,data:=.seq yW.toArray nD}/\Vals ys yW/\ys.length<=gf/\W i n ys NA H5) ?_ m0
   ⟨0,[],[],0,wx T idx σ,H2,I4,st4,λb ym=>(HP b ym).1.1,oD4,.nil,im _,w0⟩
  rintro n s5 ⟨i,ys,yW,nD,NA,H5,I5,Nz,n5,ZC,v5,l5,w5⟩;have f5:=Yo (pins':=[]) (λp hp=>by cases hp) n5;rcases turn i n ys NA H5 w5 with⟨stop,q⟩|⟨go,ll,step⟩
  ·have z:=Tn.done X' xp xw xK xc i [] s5 NA H5 (λ_ _=>False) I5 (λb ym=>f5 b<|gg _ ym) Nz stop;rw[xA] at z
   -- D is not touched by the end
   have z2:=Tn.done X' xp xw xK xc i [(s2.heap.objs.size,{ cls:=.type "list",dict:=none,data:=.seq yW.toArray nD})] s5 NA H5 (λ_ _=>False) (I5.yw λp hp=>by
    obtain rfl:=List.mem_singleton.mp hp;have Wn:=f5 _ gc
    exact⟨ZC,Wn.1,Wn.2.1,Wn.2.2.1,λv z=>nomatch z⟩) (λb ym=>by
     obtain⟨a1,a2,a3,a4,a5,a6⟩:=f5 b<|gg _ ym;refine⟨a1,a2,a3,a4,a5,λp hp=>?_⟩;rcases List.mem_append.mp hp with y|y
     ·exact a6 p<|il _ y
     ·obtain rfl:=List.mem_singleton.mp y;intro e;obtain⟨o,ho,_⟩:=Tn.obj 0 _ Zy b ym
      exact jj _ (gD (gl ho) (pR (show s2.heap.objs.size=b from e)))) Nz stop
   rw[xA] at z2;refine uR z2 λr s6 z9=>e0a2 z9 λhr I6=>?_;subst hr;have p6:=I6.pin _<|gE _<|List.mem_singleton.mpr rfl;exact fin s6 NA H5 ys yW nD (I6.yw λp hp=>by cases hp) n5 p6.1 v5 l5 q
  ·have Wn:=f5 _ gc
   have I5p:=I5.yw (pins':=[(s2.heap.objs.size,{ cls:=.type "list",dict:=none,data:=.seq yW.toArray nD})]) λp hp=>by obtain rfl:=List.mem_singleton.mp hp;exact⟨ZC,Wn.1,Wn.2.1,Wn.2.2.1,λv z=>nomatch z⟩
   have fpD:∀b∈fp,b≠s2.heap.objs.size:=λb ym=>by obtain⟨o,ho,_⟩:=Tn.obj 0 _ Zy b ym;exact gx<|gl ho
   have fpP:∀{H':Hp},(∀b∈fp,H' b=none)->∀b∈fp,Ak X' [(s2.heap.objs.size,{ cls:=.type "list",dict:=none,data:=.seq yW.toArray nD})] H' b:=by
    intro H' hn b ym;obtain⟨a1,a2,a3,a4,a5,a6⟩:=f5 b<|gg _ ym;refine⟨hn b ym,a2,a3,a4,a5,λp hp=>?_⟩;rcases List.mem_append.mp hp with y|y
    ·exact a6 p<|il _ y
    ·obtain rfl:=List.mem_singleton.mp y;exact Ne.symm<|fpD b ym
   have z:=Tn.item X' xp xw xK xc i _ s5 NA H5 (λ_ _=>False) I5p (fpP λb ym=>n5 b<|gg _ ym) Nz go;rw[xA] at z;refine uR z λr s6 z9=>e1a2 z9 λu hr h6=>?_;subst hr;refine uR h6 λ_ s7 z9=>e2a5 z9 λx H7 I7 r7 y7 st7 n7=>?_;have I7':=I7.pinned (fpP n7)<|Tn.obj _ _ st7;have xx:X'.xe=λ_ _=>False:=by subst FR;rfl
   have zG:=hG _ s7 NA H7 x u _ I7' r7<|step x H7 y7;rw[xp,xw,xA,xe,xx] at zG;refine uR zG λ_ s8 z9=>e2a2 z9 λWp H8 I8 q8=>?_;have zT:=hT _ s8 Wp H8 _ I8 q8;rw[xp,xw,xA,xe,xx] at zT;refine uR zT λok s9 z9=>e1a2 z9 λH9 I9 q9=>?_
   -- a0A holds behind the turn
   have behind:∀{H':Hp} {s':gk},Inv X' ([(s2.heap.objs.size,{ cls:=.type "list",dict:=none,data:=.seq yW.toArray nD})]++CS fp s7.heap) Wp H' s'->s'.heap.get? s2.heap.objs.size=some { cls:=.type "list",dict:=none,data:=.seq yW.toArray nD}/\tn (i+1) s'.heap/\∀b∈s2.heap.objs.size::fp,H' b=none:=by
    intro H' s' I';have pD:=I'.pin _<|gE _<|il _<|List.mem_singleton.mpr rfl;refine⟨pD.1,Tn.keep _ _ _ st7 λb ym o e=>(I'.pin (b,o)<|gE _<|gE _<|wD ym e).1,λb ym=>?_⟩;rcases List.mem_cons.mp ym with e|e
    ·rw[e];exact pD.2.1
    ·obtain⟨o,e',_⟩:=Tn.obj _ _ st7 b e;exact(I'.pin (b,o)<|gE _<|gE _<|wD e e').2.1
   cases ok with
   | false =>
    rw[f8 gr] at q9 ⊢;obtain⟨m',hm,w'⟩:=q9;obtain⟨b1,b2,b3⟩:=behind I9;exact⟨m',hm,i+1,ys,yW,nD,Wp,H9,I9.yw (λp hp=>by cases hp),b2,b3,b1,v5,l5,w'⟩
   | true =>
    rw[f7 rfl] at q9 ⊢;have zE:=hE _ s9 Wp H9 _ I9 q9;rw[xp,xw,xA,xe,xx] at zE;refine uR zE λy s10 z9=>e2a3 z9 λyv H10 I10 r10 z69=>e1a2 z69 λm' hm w'=>?_;obtain⟨b1,b2,b3⟩:=behind I10;have hlen:=v5.length;refine wpAny_list_append_plain (items:=yW.toArray) ⟨nD,b1⟩ (λh11 a0F Yq=>?_) (by rw[gv];lia);obtain⟨Yp,o11⟩:=a0F;have a0G:Inv X' [] Wp H10 s10:=I10.yw λp hp=>by cases hp
    obtain⟨a1,a2,a3,a4,a5,a6⟩:=Yo (pins':=[]) (λp hp=>by cases hp) b3 _ gc;have I11:Inv X' [] Wp H10 { s10 with heap:=h11}:=a0G.turned (t':=s10.toks) (λb o ym e=>(Yq.2 b ym).trans e) a1 a2 a4 a5 a6;refine⟨m',hm,i+1,ys++[yv],yW++[y],Yp,Wp,H10,I11,Tn.keep _ _ _ b2 λb ym o e=>(Yq.2 b<|fpD b ym).trans e,b3,by simpa using o11,v5.append<|.cons r10 .nil,by rw[gw,gF];lia,w'⟩
 exact codeAny_compStart_list loop<|Tn.self _ 0 _ _ _ st4 loop
def Wq(X:Cx)(elt tg:hO)(ifs:List hO)(scope:kZ)(cl:List (Str×cr))(T Fr:List Str)(idx:List Nat)(wi:TI):TE:=λl H Q=>wi l H λJ s=>∀a c C j k,∃(g:TG)(n:TT)(o:TE),(PG (Eb X scope cl (T++Fr) a c C j k) tg g/\V3 (Eb X scope cl (T++Fr) a c C j k) ifs n/\PE (Eb X scope cl (T++Fr) a c C j k) elt o)/\∃W:Nat->Nat->List V->St->Hp->Prop,(∃m,W 0 m [] (wx T idx l) s)/\∀i m e f H,W i m e f H ->
 (J.stop i H/\∀p,H p=none->Q (.ref p) (upd H p<|.lst e))\/(J.go i H/\e.length<gf/\∀x q,J.G9 i H x q->g x f q λd t=>n d t λb r=>if b=true then o d r λy u=>∃h,h<m/\W (i+1) h (e++[y]) d u else ∃h,h<m/\W (i+1) h e d r)
theorem OZ(c:X.calm=true)(k:PI X tg iter wi)(B:x9 X scope cl T Fr idx) 
 (l:∀x,jB iter X.env x=pure x:=by intro _;rfl):PE X (.ListComp elt [⟨tg,iter,ifs,0⟩] scope pos) (Wq X elt tg ifs scope cl T Fr idx wi):=by
  intro a s i H Q I h
  rw[eval_ListComp]
  refine oo (use:=none) rfl l B.Yg B.kind B.names<|uR (k a s i H _ I h) λv Y n=>uR n λr Z t=>?_
  obtain⟨it,fp,tn,J,H2,e,u,y,d,z,E⟩:=t
  subst e
  refine B5 (RR:=λf C=>compPost (gp X.prog X.w) X.A X.xe none (EP X a i Q) f C) (P:=λj H=>∀p,H p=none->Q (.ref p) (upd H p<|.lst j)) c B u y d z E ?_
  intro D C F H' j G q L ⟨m,M⟩ N O R S U
  exact⟨m,M,λh' W=>⟨.ref D,_,L.turned (t':=F.toks) (λb o g e=>(W.2 b g).trans e) N O (.inr R) S U,rfl,q D G⟩⟩
def SJ(X:Cx)(elt tg:hO)(ifs:List hO)(scope:kZ)(cl:List (Str×cr))(T Fr:List Str)(idx:List Nat)(wi:TI)(j:Nat):TS:=λD k H=>wi k H λJ t=>∀a c C l n,∃(g:TG)(o:TT)(q:TE),(PG (Eb X scope cl (T++Fr) a c C l n) tg g/\V3 (Eb X scope cl (T++Fr) a c C l n) ifs o/\PE (Eb X scope cl (T++Fr) a c C l n) elt q)/\∃W:Nat->Nat->List V->St->Hp->Prop,(∃m,W 0 m [] (wx T idx k) t)/\∀i m e f H,W i m e f H ->
 (J.stop i H/\∀p,H p=none->D.nx (k.set j<|some<|.ref p) (upd H p<|.lst e))\/(J.go i H/\e.length<gf/\∀x r,J.G9 i H x r->g x f r λd u=>o d u λb s=>if b=true then q d s λy v=>∃h,h<m/\W (i+1) h (e++[y]) d v else ∃h,h<m/\W (i+1) h e d s)
set_option tactic.hygienic true in
theorem O0{j:Nat}{d:Pos}(O:X.N.Nodup)(R:X.N[j]?=some y)(u:X.env.scope.names.lookup y=some .local)(g:jp (.ListComp elt [⟨tg,iter,ifs,0⟩] scope pos) (some<|.Name y py) d.line X.env=pure true)
 (i:X.calm=true) (S:PI X tg iter wi) (B:x9 X scope cl T Fr idx) 
 (U:∀x,jB iter X.env x=pure x:=by intro _;rfl):PS X (.Assign [.Name y py] (.ListComp elt [⟨tg,iter,ifs,0⟩] scope pos) d) (SJ X elt tg ifs scope cl T Fr idx wi j):=by
  intro c s E H D I h
  rw[exec_Assign_Name_used _ _ _ _ g]
  refine am<|mB<|am ?_
  refine am<|uR (oo (use:=some<|rP (.Name y py) X.env) (Q:=λ_ f=>SP X c D .next f) rfl U B.Yg B.kind B.names<|uR (S c s E H _ I h) λv s1 W=>uR W λY s2 Z=>?_) λ_ f hq=>ap<|ap hq
  obtain⟨it,fp,tn,J,H2,e,I2,Tn,k,f2,hb⟩:=Z
  subst e
  refine B5 (RR:=λl C=>compPost (gp X.prog X.w) X.A X.xe (some<|rP (.Name y py) X.env) (λ_ f=>SP X c D .next f) l C) (P:=λF H=>∀p,H p=none->D.nx (E.set j<|some<|.ref p) (upd H p<|.lst F)) i B I2 Tn k f2 hb ?_
  intro G C f H' F hD q IX ⟨m,ns⟩ hC L c2 M c4
  refine wpAny_assign_Name<|Ey IX O R (.inl u) (v:=.ref G) rfl (λs3 I3 z9=>e1a2 z9 λa n ha=>?_)<|.inr u
  have r:C≠a:=by
    rcases ha with z|z
    · rw[z]; exact L
    · exact Ne.symm<|M _ _ z
  exact⟨m,ns.sameBut n r,λh' sb=>⟨_,_,I3.turned (t':=s3.toks) (λb o t e=>(sb.2 b t).trans e) hC L (.inr c2) M c4,q G hD⟩⟩
end
end L2
namespace WL
variable[L2.GX]
open PySem L2
open Rep (rp)
open Ow (sl)
open Sls (rel)
class Pre(k:Nat)(S:Type)[Sls S](Db:outParam Type)[Sls Db] where
 pre:S->Db
 suf:Db->S
 ok:∀{F R:Rg} {H:Hp} {s:S} {σ:St} (τ:St),τ.length=k->rel F R H s σ->rel F R H (pre s) (τ++σ)
 un:∀{F R:Rg} {H:Hp} {d:Db} {σ:St},rel F R H d σ->rel F R H (suf d) (σ.drop k)
 eta:∀d,pre (suf d)=d
 Yr:∀s,suf (pre s)=s
instance pre0{S:Type}[Sls S]:Pre 0 S S:=⟨id,id,λτ h r=>by rw[List.length_eq_zero_iff.mp h];exact r,λr=>r,λ_=>rfl,λ_=>rfl⟩
instance preS{k:Nat}{S Db:Type}[Sls S][Sls Db][A:Pre k S Db]:Pre (k+1) S (Un×Db):=⟨λs=>(⟨⟩,A.pre s),λd=>A.suf d.2,λ{F R H s σ} τ h r=>by
  cases τ with
  | nil=>cases h
  | cons v τ'=>exact⟨v,τ'++σ,λ_=>False,F,rfl,two_nil F,λ_ z=>z,A.ok τ' (by simpa using h) r⟩,
 λ{F R H d σ} r=>by
  obtain⟨v,σ',F1,F2,rfl,h2,h3,h4⟩:=r
  exact A.un<|Sls.fq h4<|two_eq h2 h3,
 λd=>by
  obtain⟨⟨⟩,d⟩:=d
  rw[A.eta],
 λs=>A.Yr s⟩
def AX{α γ S:Type}(b:α->S->(Option γ->S->Prop)->Prop):List α->S->(List γ->S->Prop)->Prop
 | [],s,K=>K [] s
 | x::xs,s,K=>b x s λo s'=>AX b xs s' λys RN=>K (o.toList++ys) RN
def Ys(X:Cx)(T:cr)(a:List hO){D:Type}[Sls D](w:Wf D Bool D):Prop :=
 ∃t,V3 X a t/\∀(d:D)(F R:Rg)(b:St)(H:Hp)(e:Bool->D->Prop)(Q:Bool->Hp->Prop),vm T F R H d b->w d e (λ_ _=>False) ->
  (∀x f g h c,e x f->Ch T F R H g h c->vm T g h c f b->Q x c)->t b H Q
abbrev XF:XK:=λ_ _ _=>False
theorem tws_nil[Sls D]:Ys X T [] (λ(d:D) a _=>a true d):=⟨_,Sl,λd F R e H a Q s b c=>c true d F R H b (Ch.refl _ _ _ _) s⟩
theorem tws_one{D:Type}[Sls D]{w:Wf D Bool D}(h:TW X XF T c w):Ys X T [c] w:=e1a2 h λt a b=> ⟨t,Sn a,λd F R e H f Q s g i=>b d F R e H f _ Q s g i λ_ _ _ _ _ _ z=>z.elim⟩
section
variable{D B S B0 Db D1 PO τ α γ:Type}[Sls D][Sls B][Sls S][Sls B0][Sls Db][Sls D1][Sls PO][Ow τ][Rep α][Rep γ]
abbrev stepC(P:Pre k S Db)(a:Fg D1 Db)(g:Db->α->D1)(c:Wf D1 Bool D1)(d:Wf D1 γ D1):α->S->(Option γ->S->Prop)->Prop :=
 λx s K=>c (g (P.pre s) x) (λt b=>if t=true then d b (λy e=>K (some y)<|P.suf<|a.fg e) (λ_ _=>False) else K none (P.suf<|a.fg b)) λ_ _=>False
theorem ET[P:Pre k S Db][Gf:Fg D1 Db]{g:Db->α->D1}{wt:Wf D1 Bool D1}{we:Wf D1 γ D1}{J:It}{Ps:Rg->Hp->Prop}{L:List α}{F1 Fs Z:Rg}{Q:Hp}{σ:St}{s0:S}{K:List γ->S->Prop}{ag:List V->Hp->Prop}
  (hk:R.length=k) (ao:∀i,k<=i->i<k+idx.length->i∈mb)
  (hG:∀d f C I M,GW (Eb X n cl (R++Fr) d f C I M) T mb tg g) (hT:∀d f C I M,Ys (Eb X n cl (R++Fr) d f C I M) T aq wt) (hE:∀d f C I M,EW (Eb X n cl (R++Fr) d f C I M) XF T ar we)
  (hz:L.length<=gf) (ip:Xk J L Ps) (ps:Ps Z Q) (pk:∀{G Ra Rb:Rg} {Ha Hb:Hp},Ps Ra Ha->(∀a,G a->Ra a)->(∀a,F1 a->¬G a)->Ext G Ra Ha Rb Hb->Ps Rb Hb)
  (s':Std T Fs Z Q) (U:∀a,F1 a->Z a/\¬Fs a/\a≠T) (au:rel Fs Z Q s0 (idx.map λi=>σ[i]?.join)) (hw:AX (stepC P Gf g wt we) L s0 K)
  (av:∀E N F l r O,K E N->Ch T Fs Z Q F l r->Std T F l r->rel F l r N (idx.map λi=>σ[i]?.join)->Ps l r->Paired (rp l r) E O->ag O r) :
  ∀d f C I M,∃(g:TG)(tt:TT)(te:TE),(PG (Eb X n cl (R++Fr) d f C I M) tg g/\V3 (Eb X n cl (R++Fr) d f C I M) aq tt/\PE (Eb X n cl (R++Fr) d f C I M) ar te)/\∃W:Nat->Nat->List V->St->Hp->Prop,(∃m,W 0 m [] (wx R idx σ) Q)/\∀i m O ah H,W i m O ah H ->
   (J.stop i H/\ag O H)\/(J.go i H/\O.length<gf/\∀x Q,J.G9 i H x Q->g x ah Q λs Y=>tt s Y λb H3=>if b=true then te s H3 λy H4=>∃m',m'<m/\W (i+1) m' (O++[y]) s H4 else ∃m',m'<m/\W (i+1) m' O s H3):=by
 intro d f C I M;refine e1a2 (hG d f C I M) λaw g1 g2=>?_;refine e1a2 (hT d f C I M) λtt t1 t2=>?_;refine e1a2 (hE d f C I M) λte e1 e2=>?_;have aE:(wx R idx σ).length=k+idx.length:=by unfold wx;rw[gw,gh,gh,hk]
 have aa:∀{w:St},Ag mb (wx R idx σ) w->w.drop k=idx.map λi=>σ[i]?.join:=λ{w} a=>by
  apply pL;intro j;rw[sT];by_cases hj:j<idx.length
  ·rw[a.2 (k+j)<|ao _ q0a q0a];unfold wx;rw[jk (by rw[gh,hk];lia),gh,hk,Nat.add_sub_cancel_left]
  ·rw[jJ (by have:=a.1;lia),jJ<|by rw[gh];lia]
 refine⟨aw,tt,te,⟨g1,t1,e1⟩,λi m O w r=>m=L.length-i/\i<=L.length/\∃N F l E,Ch T Fs Z Q F l r/\Std T F l r/\rel F l r (P.pre N) w/\Ps l r/\Ag mb (wx R idx σ) w/\Paired (rp l r) E O/\E.length<=i/\AX (stepC P Gf g wt we) (L.drop i) N (λws s'=>K (E++ws) s'),
  ⟨_,rfl,im _,s0,Fs,Z,[],Ch.refl _ _ _ _,s',P.ok _ (by rw[gh,hk]) au,ps,Ag.refl _ _,.nil,im _,by simpa using hw⟩,?_⟩
 rintro i m O w r ⟨rfl,hi,N,F,l,E,c1,A,r1,p1,a1,pz,lz,w1⟩;have aG:=Paired.length pz;by_cases ab:i<L.length
 ·refine .inr ⟨ip.go p1 ab,q0a,λx Y y=>?_⟩;obtain⟨hH,x',ax,rx⟩:=ip.G9 p1 A.wu ab y;have ay:∀{G l:Rg} {r:Hp},Ch T Fs Z Q G l r->∀a,F1 a->l a/\¬G a:=λc a h=>⟨c.left a (U a h).1 (U a h).2.1,λz=>(c.xo a z).elim (U a h).2.1 λq=>s'.wu a (U a h).1 q⟩
  have az:Ch T F l r F l Y/\Std T F l Y/\rel F l Y (P.pre N) w/\Ps l Y/\Paired (rp l Y) E O:=by
   rcases hH with e|⟨p,o,hp,e⟩
   ·subst e;exact⟨Ch.refl _ _ _ _,A,r1,p1,pz⟩
   ·subst e;have kk:∀b u,r b=some u->upd r p o b=some u:=λb u e=>by rw[ud<|uo e hp];exact e
    have I:Ext (λ_=>False) l r l (upd r p o):=⟨λb u _ e=>kk b u e,λa h=>.inl h⟩;refine⟨⟨λb u _ _ e=>kk b u e,λa h=>.inl h,λa h=>.inl h,λa h _=>h⟩,⟨A.sub,λa z=>?_,?_,A.uW,A.uM⟩,Sls.st r1 I (λ_ z=>z.elim)<|λ_ _ z=>z,pk p1 (λ_ z=>z.elim) (λ_ _ z=>z) I,vq (I.wide λ_ z=>z.elim) pz⟩
    ·cases e:r a with
     | none=>exact gy e<|A.wu a z
     | some u=>rw[kk a u e];simp
    ·refine e1a2 A.tab λqs e t=>?_;exact⟨qs,kk _ _ e,t⟩
  obtain⟨c2,S2,r2,p2,ai⟩:=az;have aA:=Ch.trans' s' A.tab c1 c2;rw[drop_cons ax] at w1;refine g2 (P.pre N) F l w Y x' x _ (S2.stt r2) rx λF3 s f3 S3 a3=>?_;have c3:Ch T Fs Z Q F3 l Y:=aA.less f3
  -- aH the block aF on af an item
  have on:∀{d2:D1} {F5 R5:Rg} {H5:Hp} {o:Option γ} {ae:List V},AX (stepC P Gf g wt we) (L.drop<|i+1) (P.suf<|Gf.fg d2) (λws s'=>K (E++(o.toList++ws)) s')->Ch T F3 l Y F5 R5 H5->vm T F5 R5 H5 d2 s->Paired (rp R5 H5) (E++o.toList) ae->(E++o.toList).length<=i+1 ->
    ∃m',m'<L.length-i/\m'=L.length-(i+1)/\i+1<=L.length/\∃N F l E,Ch T Fs Z Q F l H5/\Std T F l H5/\rel F l H5 (P.pre N) s/\Ps l H5/\Ag mb (wx R idx σ) s/\Paired (rp l H5) E ae/\E.length<=i+1/\AX (stepC P Gf g wt we) (L.drop<|i+1) N (λws s'=>K (E++ws) s'):=λ{d2 F5 R5 H5 o ae} hw c5 S5 aB aC=>by
   refine e1a2 (Gf.le S5.rel) λF6 f6 r6=>?_;have aD:=Ch.trans' s' S2.tab c3 c5;refine⟨L.length-(i+1),q0a,rfl,ab,P.suf<|Gf.fg d2,F6,R5,E++o.toList,aD.less f6,⟨λa h=>S5.sub a<|f6 a h,S5.wu,S5.tab,S5.uW,λh=>S5.uM<|f6 T h⟩,by rw[P.eta];exact r6,?_,a1.trans a3,aB,aC,?_⟩
   ·refine pk p2 (G:=λa=>F3 a\/a=T) (λa h=>h.elim (S3.sub a) λz=>by rw[z];exact S2.uW) (λa h z=>?_) c5.ext;rcases z with z|z
    ·exact(ay c3 a h).2 z
    ·exact(U a h).2.2 z
   ·simp only[kC];exact hw
  refine t2 _ F3 l s Y _ _ S3 w1 λb d1 F4 R4 H4 q4 c4 S4=>?_
  cases b with
  | false =>
   rw[f8 gr];exact on (o:=none) q4 c4 S4 (by simpa using S3.vals c4 ai) (by simp;lia)
  | true =>
   rw[f7 rfl];refine e2 _ F4 R4 s H4 _ _ _ S4 q4 (λy d2 v F5 R5 H5 q5 c5 S5 r5=>?_) λ_ _ _ _ _ _ z=>z.elim;have aj:=Ch.trans S3 S4.tab c4 c5;exact on (o:=some y) q5 aj S5 (wS (S3.vals aj ai)<|.cons r5 .nil) (by simp;lia)
 ·have e:i=L.length:=by lia
  subst e;rw[t6] at w1;have ak:K (E++[]) N:=w1;rw[jN] at ak;have al:=P.un r1;rw[aa a1,P.Yr] at al;refine .inl ⟨ip.stop p1,av E N F l r O ak c1 A al p1 pz⟩
theorem Dm[Se:Sel idx B S B0]{back:B->List α->D}{xs:List α}{Ps:Rg->Hp->Prop}(s':Std T F' R' H')(tw:Cj F' F1 F2)(hr:rel F2 R' H' b σ)
 (pb:∀b' G2 UY IE OO σ',Ps IE OO->rel G2 IE OO b' σ'->Ag is σ σ'->Cj UY F1 G2->rel UY IE OO (back b' xs) σ') :
    ∃Fs,Std T Fs R' H'/\(∀a,F1 a->R' a/\¬Fs a/\a≠T)/\rel Fs R' H' (Se.sel b) (idx.map λi=>σ[i]?.join) /\
      ∀{s1:S} {Gs R1:Rg} {H1:Hp},Ch T Fs R' H' Gs R1 H1->Std T Gs R1 H1->rel Gs R1 H1 s1 (idx.map λi=>σ[i]?.join)->Ps R1 H1->∃G,Ch T F' R' H' G R1 H1/\vm T G R1 H1 (back (Se.mrg (Se.rest b) s1) xs) σ:=by
  refine e2a4 (Se.cut hr) λFs F0 t0 h1 h2 hl=>?_
  have iS:∀a,Fs a->F' a:=λa h=>(tw.all a).mpr<|.inr<|(t0.all a).mpr<|.inl h
  have i0:∀a,F0 a->F' a:=λa h=>(tw.all a).mpr<|.inr<|(t0.all a).mpr<|.inr h
  have i1:∀a,F1 a->F' a:=λa h=>(tw.all a).mpr<|.inl h
  have d1S:∀a,F1 a->Fs a->False:=λa h k=>tw.xj a h<|(t0.all a).mpr<|.inl k
  have d10:∀a,F1 a->F0 a->False:=λa h k=>tw.xj a h<|(t0.all a).mpr<|.inr k
  refine⟨Fs,⟨λa h=>s'.sub a<|iS a h,s'.wu,s'.tab,s'.uW,λh=>s'.uM<|iS T h⟩,λa h=>⟨s'.sub a<|i1 a h,d1S a h,λz=>s'.uM<|by rw[<- z];exact i1 a h⟩,h1,λ{s1 Gs R1 H1} c S1 r1 p1=>?_⟩
  have f0:rel F0 R1 H1 (Se.rest b) σ:=Sls.st h2 c.ext (λa h=>h.elim (λz=>s'.sub a<|iS a z) λz=>by rw[z];exact s'.uW) λa h z=>z.elim (λq=>t0.xj a q h) λq=>s'.uM (by rw[<- q];exact i0 a h)
  have nG:∀a,Gs a->F1 a\/F0 a->False:=λa g f=>by
    rcases c.xo a g with q|q
    · exact f.elim (λz => d1S a z q) λz => t0.xj a q z
    · exact s'.wu a (s'.sub a<|f.elim (i1 a)<|i0 a) q
  have out:∀a,F1 a\/F0 a->R1 a:=λa f=>c.left a (s'.sub a<|f.elim (i1 a)<|i0 a) λz=>f.elim (λq=>d1S a q z) λq=>t0.xj a z q
  refine⟨λa=>F1 a\/Gs a\/F0 a,⟨λb o n m h=>c.keep b o (λz=>n<|iS b z) m h,c.zh,λa h=>h.elim (λz=>.inl<|i1 a z) λz=>z.elim (λq=>(c.xo a q).elim (λz=>.inl<|iS a z) .inr) λq=>.inl<|i0 a q,λa h n=>c.left a h λz=>n<|iS a z⟩,pb _ (λa=>Gs a\/F0 a) _ R1 H1 σ p1 (Se.join ⟨λ_=>Iff.rfl,λa m f=>nG a m<|.inr f⟩ r1 f0 hl) (Ag.refl _ _) ⟨λ_=>Iff.rfl,λa h z=>z.elim (λq=>nG a q<|.inl h) λq=>d10 a h q⟩,λa h=>h.elim (λz=>out a<|.inl z) λz=>z.elim (S1.sub a) λq=>out a<|.inr q,S1.wu,S1.tab,S1.uW,λh=>h.elim (λz=>s'.uM<|i1 T z) λz=>z.elim S1.uM λq=>s'.uM<|i0 T q⟩
theorem wg[P:Pre k S Db][O:Fg D1 Db][m:Sel idx B S B0]{h:B->List α->D}{v:D->(List α->B->Prop)->(cr->D->Prop)->Prop}{g:Db->α->D1}{w:Wf D1 Bool D1}{y:Wf D1 γ D1}
 (o:X.calm=true) (U:IW X E T is z iter h v) (W:x9 X a cl Ts Fr idx) (Y:Ts.length=k) (r:∀i,k<=i->i<k+idx.length->i∈mb)
 (Z:∀e f C j l,GW (Eb X a cl (Ts++Fr) e f C j l) T mb z g) (hT:∀e f C j l,Ys (Eb X a cl (Ts++Fr) e f C j l) T t w) (hE:∀e f C j l,EW (Eb X a cl (Ts++Fr) e f C j l) XF T u y)
 (hs:∀x,jB iter X.env x=pure x:=by intro _;rfl) :
    EO X E T (.ListComp u [⟨z,iter,t,0⟩] a pos) (λ(d:D)(A:OL γ->D->Prop) I=>v d (λn b=>n.length<=gf/\AX (stepC P O g w y) n (m.sel b) λJ L=>A ⟨J⟩<|h (m.mrg (m.rest b) L) n) I):=by
  refine e1a2 U λti i1 i2=>?_
  refine⟨_,OZ o i1 W hs,λd F R σ H A I Q s hw kn ke=>?_⟩
  refine i2 d F R σ H _ _ _ s hw (λn b Jt Ps F' F1 F2 R' H' q c M tw hr ip ps pk pb=>?_) ke
  refine e1a4 (Dm (idx:=idx) (Se:=m) M tw hr pb) λFs S0 n0 r0 on=>?_
  refine ET Y r Z hT hE q.1 ip ps pk S0 n0 r0 q.2 λzs L Gs R1 H1 J kz c1 S1 r1 p1 pz p hp=>?_
  refine e1a2 (on c1 S1 r1 p1) λG c2 N=>?_
  refine e1a3 (wG N hp pz) λR2 c3 S3 n3=>?_
  exact kn _ _ _ _ G R2 _ kz (Ch.trans s N.tab (Ch.trans s M.tab c c2) c3) S3 n3
theorem zR[P:Pre k S Db][Gf:Fg D1 Db][v:Sel idx B S B0](j:Nat){m I J:Type}[Ow m][Sls I][Sls J][A:At j D m I][U:Pt j I (OL γ) J][Jp:Pj D PO n]{h:Pos}{l:B->List α->D}{W:D->(List α->B->Prop)->(cr->D->Prop)->Prop}{g:Db->α->D1}{Y:Wf D1 Bool D1}{Z:Wf D1 γ D1}
 (hN:X.N.Nodup) (hj:X.N[j]?=some y) (hy:X.env.scope.names.lookup y=some .local) (L:jp (.ListComp o [⟨M,iter,r,0⟩] a pos) (some<|.Name y py) h.line X.env=pure true) (hm:j∉ms)
 (O:X.calm=true) (hi:IW X E T is M iter l W) (Bs:x9 X a cl Ts Fr idx) (hk:Ts.length=k) (Q:∀i,k<=i->i<k+idx.length->i∈mb)
 (hG:∀e f C t u,GW (Eb X a cl (Ts++Fr) e f C t u) T mb M g) (hT:∀e f C t u,Ys (Eb X a cl (Ts++Fr) e f C t u) T r Y) (hE:∀e f C t u,EW (Eb X a cl (Ts++Fr) e f C t u) XF T o Z)
 (hs:∀x,jB iter X.env x=pure x:=by intro _;rfl) :
    S1 X E T ms n (.Assign [.Name y py] (.ListComp o [⟨M,iter,r,0⟩] a pos) h) (λ(d:D)(Kn:J->Prop)(Kr:τ->PO->Prop) Ke=>W d (λw b=>w.length<=gf/\AX (stepC P Gf g Y Z) w (v.sel b) λys s1=>Kn<|U.put (A.hole<|l (v.mrg (v.rest b) s1) w) ⟨ys⟩) λC d'=>Ke C<|Jp.pj d'):=by
  refine e1a2 hi λti i1 i2=>?_
  refine⟨_,O0 hN hj hy L O i1 Bs hs,λd F R σ H Kn Kr Ke En s hw kn kr ke=>?_⟩
  refine i2 d F R σ H _ _ _ s hw (λw b Jt Ps F' F1 F2 R' H' q c z tw hr ip ps pk pb=>?_) λC y d' F' R' H' q c z=>?_
  · refine e1a4 (Dm (idx := idx) (Se := v) z tw hr pb) λFs S0 n0 r0 on => ?_
    refine ET hk Q hG hT hE q.1 ip ps pk S0 n0 r0 q.2 λzs s1 Gs R1 H1 ys kz c1 S1 r1 p1 pz p hp=>?_
    refine e1a2 (on c1 S1 r1 p1) λG c2 S2=>?_
    refine e1a3 (wG S2 hp pz) λR2 c3 S3 n3=>?_
    refine e1a2 (EQ (i:=j) S3 n3) λG2 g2 S4=>?_
    exact kn _ G2 R2 _ _ kz ((Ch.trans s S2.tab (Ch.trans s z.tab c c2) c3).less g2) S4<|Ag.set hm
  · refine e1a2 (vM (PO := PO) z) λG g1 g2 => ?_
    exact ke C y _ G R' H' q (c.less g1) g2
end
def Kp(g:cr)(H a:Hp):Prop:=∀b o,b≠g->H b=some o->a b=some o
theorem Kp.refl(g:cr)(H:Hp):Kp g H H:=λ_ _ _ h=>h
theorem Kp.trans{d e:Hp}(a:Kp g H d)(b:Kp g d e):Kp g H e:=λc o n h=>b c o n<|a c o n h
theorem Kp.at:Kp g H (upd H g o):=λb u n e=>by rw[ud n];exact e
theorem zm(h:H p=none):Ci H (upd H p o):=λb u e=>by rw[ud<|uo e h];exact e
def Em(q:cr)(i z s:Int):List V:=[.ref q,.int i,.int z,.int s]
structure B6(H:Hp)(g q:cr)(ns:List Int)(i z s:Int):Prop where
 ob:H g=some (.lst<|Em q i z s)
 sc:H q=some (.lst<|ns.map V.int)
 i0:0<=i
 ne:q≠g
theorem B6.put{i z s:Int}(B:B6 H g q b i z s){a z':Int}(h:0<=a):B6 (upd H g<|.lst<|Em q a z' s) g q b a z' s:=⟨uh,by rw[ud B.ne];exact B.sc,h,B.ne⟩
theorem Wr(q:cr)(i z s:Int):Ef (Em q i z s) 0=some (.ref q):=rfl
theorem O3(q:cr)(i z s:Int):Ef (Em q i z s) 1=some (.int i):=rfl
theorem O5(q:cr)(i z s:Int):Ef (Em q i z s) 2=some (.int z):=rfl
theorem a0I(q:cr)(i z s:Int):Ef (Em q i z s) 3=some (.int s):=rfl
theorem Yt(x:Int):-(2 ^ 64)<x%2147483647/\x%2147483647<2 ^ 64:=by lia
theorem SK{ns:List Int}{i:Int}(b:0<=i)(c:i<(ns.length:Int)):∃n,Ef (ns.map V.int) i=some (.int n):=by
 have a:i.toNat<ns.length:=by omega
 have e:(ns.map V.int)[i.toNat]?=some (.int ns[i.toNat]):=by rw[i4,iP a];rfl
 have:=K3 e;rw[show ((i.toNat:Nat):Int)=i by omega] at this;exact⟨_,this⟩
structure Bg where
instance:Ow Bg:=⟨λF _ H _ v=>∃g q ns i z s,v=some (.ref g)/\(∀b,F b↔b=g\/b=q)/\B6 H g q ns i z s,
 λ{F G R H R' H' x v} h e s n=>by
  obtain⟨g,q,ns,i,z,s',h1,h2,h3⟩:=h
  exact⟨g,q,ns,i,z,s',h1,h2,⟨e.keep g _ (n g<|(h2 g).mpr<|.inl rfl) h3.ob,e.keep q _ (n q<|(h2 q).mpr<|.inr rfl) h3.sc,h3.i0,h3.ne⟩⟩,
 λh e=>by
  obtain⟨g,q,ns,i,z,s',h1,h2,h3⟩:=h
  exact⟨g,q,ns,i,z,s',h1,λb=>(e b).symm.trans (h2 b),h3⟩⟩
instance:Hs Bg:=⟨λz9=>e6a2 z9 λ_ _ _ _ _ _ h _=>⟨_,h⟩⟩
instance:SE Bg:=⟨λh _=>h⟩
def O6:Sp:=λd H Q _=>∃(g q:cr)(c:List Int)(i z s a:Int),d=[.ref g,.int a]/\B6 H g q c i z s/\0<a/\a<1073741824 /\
 ∀b e f r,Kp g H b->B6 b g q c e f s->0<=r->r<a->Q (.int r) b
abbrev U1:Bg×Int×Unit->(Int->Bg×Un×Unit->Prop)->(cr->Bg×Un×Unit->Prop)->Prop:=λp a _=>0<p.2.1/\p.2.1<1073741824/\∀r,0<=r->r<p.2.1->a r (⟨⟩,⟨⟩,())
theorem U4{K:fZ}{k:Nat}(F:uL P w K b base Oi k f c d g):uL P w K b base (uV P w) k f c d g :=
 ⟨F.len,λA a s H args i j Q E l m n o p=>jl (F.run A a s H args i j Q E l m n o p) λr t h=>by
  cases r with
  | error e=>exact gU h
  | ok q =>
   cases q with
   | ret u=>exact h
   | next=>exact gU h
   | brk=>exact gU h
   | cont=>exact gU h⟩
theorem a0J:∀{c:List V},List.map some c=[some a,some b]->c=[a,b]:=by
 intro c e
 cases c with
 | nil=>cases e
 | cons p r=>cases r with
  | nil=>cases e
  | cons q s=>cases s with
   | nil=>cases e;rfl
   | cons _ _=>cases e
theorem Ws{K:fZ}{k:Nat}(F:uL P w K I base Oi k f J c O6):uL P w K I base (uV P w) k f J c (xN T U1):=by
 refine(U4 F).imp λL H Q E h=>?_;obtain⟨m,R,p,Kn,Ke,s,⟨M,N,O⟩,S,_⟩:=h;obtain⟨v1,U,X,Y,Z,v,⟨g,q,x,i,z,y,rfl,A,hb⟩,d⟩:=s.rel;obtain⟨v2,aa,F3,F4,e2,t2,⟨n3,u,rfl,r2⟩,e3,n4⟩:=d;subst r2;subst e2 e3
 have ev:L=[.ref g,.int p.2.1]:=by exact a0J Z
 subst ev;have B:m g:=(v.all g).mpr<|.inl<|(A g).mpr<|.inl rfl;have gT:g≠T:=λe=>s.uM (by rw[<- e];exact B);refine⟨g,q,x,i,z,y,p.2.1,rfl,hb,M,N,λC i' z' r j D r0 d=>?_⟩
 have l:∀a,R a->C a≠none:=λa h=>by
  by_cases e:a=g
  ·rw[e,D.ob];simp
  ·cases G:H a with
   | none=>exact gy G<|s.wu a h
   | some o=>rw[j a o e G];simp
 refine S r (⟨⟩,⟨⟩,()) _ (λ_=>False) m R C (O r r0 d) ⟨λb o n _ h=>j b o (λe=>n<|by rw[e];exact B) h,λ_ h=>.inl h,λa h=>h.elim (λz=>z.elim) .inl,λ_ h _=>h⟩
  ⟨⟨_,_,X,Y,rfl,v,⟨g,q,x,i',z',y,rfl,A,D⟩,_,_,F3,F4,rfl,t2,n3,rfl,n4⟩,s.sub,l,?_,s.uW,s.uM⟩ ⟨⟨λ_ z=>z,_,rfl,rfl⟩,λ_ z=>z.elim,λ_ z=>z.elim,λz=>z⟩
 refine e1a2 s.tab λc e t=>?_;exact⟨c,j T _ (λe=>gT e.symm) e,t⟩
structure Fn(K:fZ)(mg:Str->Option ci)(x:Str)(st:gP)(ps:List Str)(f:cr)(fd:g9):Prop where
 fn:ye K x x st f fd
 at_:mg x=some (.ref f)
 bd:Binds K fd ps []
theorem a0K{a b c d e:Type}{P:a×b×c×d×e->Prop}(h:∀f g i j k,P (f,g,i,j,k)):∀x,P x:=λx=>h x.1 x.2.1 x.2.2.1 x.2.2.2.1 x.2.2.2.2
theorem Yu{a b c d e f g:Type}{P:a×b×c×d×e×f×g->Prop}(h:∀i j k l m n o,P (i,j,k,l,m,n,o)):∀x,P x:=λx=>h x.1 x.2.1 x.2.2.1 x.2.2.2.1 x.2.2.2.2.1 x.2.2.2.2.2.1 x.2.2.2.2.2.2
theorem Yv{a b c d e f g i:Type}{P:a×b×c×d×e×f×g×i->Prop}(h:∀j k l m n o p q,P (j,k,l,m,n,o,p,q)):∀x,P x:=λx=>h x.1 x.2.1 x.2.2.1 x.2.2.2.1 x.2.2.2.2.1 x.2.2.2.2.2.1 x.2.2.2.2.2.2.1 x.2.2.2.2.2.2.2
theorem Eo{a b c d e f g i j:Type}{P:a×b×c×d×e×f×g×i×j->Prop}(h:∀k l m n o p q r s,P (k,l,m,n,o,p,q,r,s)):∀x,P x:=λx=>h x.1 x.2.1 x.2.2.1 x.2.2.2.1 x.2.2.2.2.1 x.2.2.2.2.2.1 x.2.2.2.2.2.2.1 x.2.2.2.2.2.2.2.1 x.2.2.2.2.2.2.2.2
theorem U5{b c d e f g i j k l a:Type}{P:b×c×d×e×f×g×i×j×k×l×a->Prop}(h:∀n o p q r s t u v w m,P (n,o,p,q,r,s,t,u,v,w,m)):∀x,P x:=λx=>h x.1 x.2.1 x.2.2.1 x.2.2.2.1 x.2.2.2.2.1 x.2.2.2.2.2.1 x.2.2.2.2.2.2.1 x.2.2.2.2.2.2.2.1 x.2.2.2.2.2.2.2.2.1 x.2.2.2.2.2.2.2.2.2.1 x.2.2.2.2.2.2.2.2.2.2
theorem ur{K:fZ}{d:Str->Option ci}{k:Nat}{e:List Str}{A c g:Type}[Sls A][Sls c][Ow g]{i j:Wf A g c}(F:uL P w K d base (uV P w) k f l e (xN T i))(h:∀p a b,j p a b->i p a b):uL P w K d base (uV P w) k f l e (xN T j) :=
 F.imp λo H Q E m=>e5a3 m λF R p a b s n r=>⟨F,R,p,a,b,s,h p a b n,r⟩
theorem lkc{β:Type}{n x:Str}{c c':β}{r:List (Str×β)}(h:jD x ((n,c)::r)=some c'):(x=n/\c'=c)\/jD x r=some c':=by
 rw[gX] at h
 cases q:x==n with
 | true=>rw[q] at h;exact .inl ⟨eq_of_beq q,(ii h).symm⟩
 | false=>rw[q] at h;exact .inr h
theorem fc{b:Type}{p:b->Prop}{a:b}{l:List b}(h:p a)(t:∀y∈l,p y):∀y∈a::l,p y:=λy c=>by
 rcases List.mem_cons.mp c with e|e
 ·rw[e];exact h
 ·exact t y e
theorem vN{k m:Nat}(h:a=(gH m).map (k + ·)):∀i,k<=i->i<k+m->i∈a:=λi b c=>by rw[h];exact List.mem_map.mpr ⟨i-k,List.mem_range.mpr q0d,q0d⟩
theorem a2c{a:Type}{p:a->Prop}:∀y∈([]:List a),p y:=λ_ h=>by cases h
section
variable{D PO τ:Type}[Sls D][Sls PO][Ow τ]{α:Type}[Rep α]
theorem Wt(f:EW X E T a i):EW X E T (.UnaryOp .USub a pos) (λ(d:D)(j:Int->D->Prop) l=>i d (λx m=>j (-x) m) l):=by have h:=Wb (c:=λ_=>True) (γ:=Int) (g:=λx:Int=>-x) (e:=.UnaryOp .USub a pos) f (λn b=>UG NO b) λb _ k=>⟨_,b,k _ rfl⟩;simp only[true_and] at h;exact h
theorem xT(i:Nat)[Sls l][Sls g][Hs τ][A:At i D τ g][J:Pj g PO n](m:PE X (.Name x p) (uN i)):S1 X E T I n (.Return (some<|.Name x p) pos) (λ(d:D)(_:l->Prop)(j:τ->PO->Prop) _=>j (A.get d)<|J.pj<|A.hole d):=by refine⟨_,Bl m,λd F R L H M j N O s q P r Q=>?_⟩;refine e3a4 (A.take s.rel) λv t w y c k B=>?_;obtain⟨u,rfl⟩:=Hs.has k;have f:∀a,w a->F a:=λa h=>(c.all a).mpr<|.inr h;refine e1a2 (J.le B) λG e C=>?_;exact⟨u,y,r _ _ u t G R H q ⟨λb o _ _ h=>h,λ_ h=>.inl h,λa h=>.inl<|h.elim (λz=>(c.all a).mpr<|.inl z) λz=>f a<|e a z,λ_ h _=>h⟩ ⟨C,λa h=>s.sub a<|f a<|e a h,s.wu,s.tab,s.uW,λh=>s.uM<|f T<|e T h⟩ ⟨k,λa h=>s.sub a<|(c.all a).mpr<|.inl h,λa h z=>c.xj a h<|e a z,λh=>s.uM<|(c.all T).mpr<|.inl h⟩⟩
theorem SM{O:List hO}{i P PO B A:Type}[Ow i][Sls P][Sls PO][Sls B][Sls A]{G:B->A->PO->D}{we:Wf D i D}{wr:D->(P->B->A->Prop)->(cr->D->Prop)->Prop}
 (ha:EO X E T e we) (hr:Jy X E T O G wr) (hs:f9 (e::O) X.env=(false,eval e X.env)::f9 O X.env:=by rfl) :
    Jy X E T (e::O) (λ(b:B)(l:A)(p:Un×PO)=>G b l p.2) (λ(d:D)(Kn:i×P->B->A->Prop) I=>we d (λx W=>wr W (λp b l=>Kn (x,p) b l) I) I):=by
  refine e1a2 ha λta a1 a2=>?_
  refine e1a2 hr λtr b1 b2=>?_
  refine⟨_,ul a1 b1 hs,λd F R σ H Kn I Q s hw kn ke=>?_⟩
  refine a2 d F R σ H _ I _ s hw (λx W u j F1 R1 H1 q1 c1 v g=>?_) ke
  have J:Ch T F R H F1 R1 H1:=c1.less λ_ z=>.inr z
  refine b2 W F1 R1 σ H1 _ I _ v q1 (λp b l vs us Y G2 L o w M q2 S N r h1 h2 hl k=>?_) λC y d' o w M k c s'=>ke C y d' o w M k (Ch.trans s v.tab J c) s'
  -- the new Z OV
  have mF:∀a,j a->o a->False:=λa m f=>by
    rcases S.xo a f with q|q
    · exact g.xj a m q
    · exact v.wu a (g.sub a m) q
  have mT:∀a,j a->a≠T:=λa m z=>g.tab (by rw[<- z];exact m)
  have mx:sl j w M x (some u):=Ow.st g.is S.ext (λa h=>h.elim (v.sub a) λq=>by rw[q];exact v.uW) λa m z=>z.elim (g.xj a m)<|mT a m
  have mR:∀a,j a->w a:=λa m=>S.left a (g.sub a m) λz=>g.xj a m z
  have g1:∀a,Y a->o a:=λa h=>(r.all a).mpr<|.inl h
  have g2:∀a,G2 a->o a:=λa h=>(r.all a).mpr<|.inr<|.inl h
  have g3:∀a,L a->o a:=λa h=>(r.all a).mpr<|.inr<|.inr h
  have U:=Ch.trans s v.tab J S
  refine kn (x,p) b l (u::vs) us (λa=>j a\/Y a) G2 L (λa=>j a\/o a) w M q2 ⟨U.keep,U.zh,λa h=>h.elim (λz=>c1.xo a<|.inl z)<|U.xo a,U.left⟩ ⟨λa h=>h.elim (mR a)<|N.sub a,N.wu,N.tab,N.uW,λh=>h.elim g.tab N.uM⟩
    ⟨λa=>?_,λa m n=>m.elim (λz=>mF a z<|g2 a n) λz=>r.Hc a z n,λa m n=>m.elim (λz=>mF a z<|g3 a n) λz=>r.IF a z n,r.IG⟩ ⟨some u,vs.map some,j,Y,rfl,⟨λ_=>Iff.rfl,λa m n=>mF a m<|g1 a n⟩,Ow.wk mx<|BC w L M,h1⟩ h2 hl λb' l' L1 L2 L3 aa ab ae p' h3 h4 h5 t=>?_
  · rw[r.all]
    exact⟨λz=>z.elim (λq=>.inl<|.inl q) λz=>z.elim (λq=>.inl<|.inr q) .inr,λz=>z.elim (λz=>z.elim .inl λq=>.inr<|.inl q) λz=>.inr<|.inr z⟩
  · refine e4a4 h3 λv' af N1 N2 z1 z2 z3 z4 => ?_
    injection z1 with _ z5
    subst z5
    exact k b' l' L1 L2 L3 aa ab ae p'.2 (Sls.fq z4<|two_eq z2 z3) h4 h5 t
class Yw(α:Type)[Rep α](ty:String)(b:outParam Bool):Prop where
 ist:∀{K:fZ} {R:Rg} {H:Hp} {x:α} {v:V},rp R H x v->∃t,za K H v t/\qd K t (.type ty)=some b
instance:Yw Int "int" true:=⟨λ{K R H x v} h=>by
 subst h
 exact⟨_,za.int x,by rfl⟩⟩
instance:Yw Int "bool" false:=⟨λ{K R H x v} h=>by
 subst h
 exact⟨_,za.int x,by rfl⟩⟩
instance:Yw (List α) "list" true:=⟨λ{K R H x v} h=>by
 obtain⟨a,vs,rfl,_,h3,_⟩:=h
 exact⟨_,za.lst h3,by rfl⟩⟩
theorem BD{b:Bool}[Yw α ty b]{i:Wf D α D}(l:Gl X "isinstance")(m:X.mg "isinstance"=none)(c:PE X (.Name x q) (tC<|.ty ty))(n:EW X E T a i)
 (j:f9 [a,.Name x q] X.env=(false,eval a X.env)::f9 [.Name x q] X.env:=by rfl) (e:f9 [.Name x q] X.env=(false,eval (.Name x q) X.env)::f9 [] X.env:=by rfl) (f:(iJ pos<|f9 [.Name x q] X.env).any (·.1)=false:=by rfl) :
    EW X E T (.Call (.Name "isinstance" p) [a,.Name x q] [] pos) (λ(d:D)(k:Bool->D->Prop) g=>i d (λ_ h=>k b h) g):=by
  refine e1a2 n λP o r=>?_
  refine⟨_,v6 HG l m PyProof.Rows.boot_isinstance (ul o (ul c uB e) j) (he:=j) (hpl:=f),λd F R v H k g Q s w z A=>r d F R v H _ g _ s w (λy h u B C G I J L M=>?_) A⟩
  refine e1a2 (Yw.ist (ty:=ty) (K:=X.K) M) λt N O=>?_
  exact⟨u,ty,t,b,rfl,N,O,z _ h _ B C G I J L rfl⟩
end
end WL
namespace ZT
open PySem PySem.Spec PyProof.Rows
theorem Dn{i:Nat}(a:s.heap.IsTupleIter b t i)(h:s.heap.IsTuple t j)(k:j[i]?=some x)
 (l:∀e,e.IsTupleIter b t (i+1)->ij b s.heap e->Q x { s with heap:=e}):gn (gp g w) A (iI<|.ref b) Q E s:=by
  obtain⟨o,d,n,c⟩:=id a;obtain⟨p,q,_,m,r⟩:=h;unfold iI
  refine am<|wpAny_callSpecial?_slot (name:=kT "__next__") a.typeIs kU<|ie kU a.typeIs rc ?_<|qP _
  show gn _ _ (tj (.ref b) 0 >>= _) _ _ s;refine am<|iv d c (x:=.ref t) rfl ?_
  show gn _ _ (tj (.ref b) 1 >>= _) _ _ s;refine am<|iv d c (x:=.int i 0) rfl ?_
  show gn _ _ (seqItems? (.ref t) >>= _) _ _ s;refine am<|kg q r ?_;simp only[kE,k]
  have f:Heap.IsTupleIter (s.heap.update b λu=>u.mapFields (·.setIfInBounds 1 (kM<|(i:Int)+1))) b t (i+1):=⟨_,hZ _ d<|Obj.isFreed_of_fields<|Obj.data_mapFields c _,(Obj.cls_mapFields ..).trans n,by rw[Obj.data_mapFields c];simp[kM]⟩
  exact am<|md d c q0o<|ap ⟨x,rfl,ap<|l _ f<|nK ..⟩
theorem Lm{i:Nat}(h:A.handled=none)(b:s.heap.IsTupleIter c t i)(k:s.heap.IsTuple t l)(n:l[i]?=none)
 (q:∀d e,Heap.ExtBut c s.heap d->(∃o,d.get? e=some o/\o.cls=.type "StopIteration")->E (.ref e) { s with heap:=d}):gn (gp j w) A (iI<|.ref c) Q E s:=by
  obtain⟨o,f,v,g⟩:=id b;obtain⟨p,r,_,m,u⟩:=k;unfold iI
  refine am<|wpAny_callSpecial?_slot (name:=kT "__next__") b.typeIs kU<|ie kU b.typeIs rc ?_<|qP _
  show gn _ _ (tj (.ref c) 0 >>= _) _ _ s;refine am<|iv f g (x:=.ref t) rfl ?_
  show gn _ _ (tj (.ref c) 1 >>= _) _ _ s;refine am<|iv f g (x:=.int i 0) rfl ?_
  show gn _ _ (seqItems? (.ref t) >>= _) _ _ s;refine am<|kg r u ?_;simp only[kE,n]
  refine am<|k8<|am<|md f g q0o ?_;show gn _ _ (newExc (.type "StopIteration") [] >>= _) _ _ _
  refine am ?_;simp only[newExc,newTuple];refine am<|hI ?_ (by size_fits)
  refine am (m:=pC _ _)<|lR (a:=Value.none) (by first|rfl|(simp only[pC];rfl))<|hI ?_ (by size_fits)
  simp only[raiseNew];refine am<|wpAny_handled ?_;first|rw[show A.in1.handled=none from h]|rw[h]
  exact am<|ap<|wpAny_throw<|q _ _ (((nK ..).extBut.push _).push _) ⟨_,gu _ rfl,rfl⟩
abbrev Yx(h:hR)(z c d e g i j:cr)(f:ci)(k:Nat)(l m:Array ci):Prop :=
 rf h z c d f/\pG h c (.ref e) (.ref g)/\(∃a b,pG h d a b)/\h.IsTupleIter e i k/\h.IsTupleIter g j k/\h.IsTuple i l/\h.IsTuple j m
theorem SN{g d:cr}{k:Nat}{Q:ci->gk->Prop}(D:ZipApart z g d l m H I)(st:Yx s.heap z g d l m H I .none k xs ys)(hx:xs[k]?=some x)(hy:ys[k]?=some y)
 (hQ:∀h,rf h z g d (kM s.heap.objs.size)->pG h d x y->h.IsTupleIter l H (k+1)->h.IsTupleIter m I (k+1)->pG h s.heap.objs.size x y ->
 (∀c o,c≠z->c≠d->c≠l->c≠m->s.heap.get? c=some o->h.get? c=some o)->Q (.ref s.heap.objs.size) { s with heap:=h}) :
    gn (gp W w) A (Builtin.«zip.__next__» ⟨[.ref z],[]⟩) (λJ s'=>∃v,J=.done (.ret v)/\Q v s') E s:=by
  obtain⟨q,L,⟨a,b,M⟩,h1,h2,N,O⟩:=st
  show gn _ _ (tj (.ref z) 2 >>= _) _ _ _;refine am<|iv q rfl (x:=.bool false) rfl ?_
  show gn _ _ (tj (.ref z) 3 >>= _) _ _ _;refine am<|iv q rfl (x:=.ref g) rfl<|am<|kg L rfl ?_
  show gn _ _ (jr (.ref z) >>= _) _ _ _;refine am ?_;unfold jr
  refine am<|iv q rfl (x:=.none) rfl<|ap ?_;simp only[if_true]
  refine am<|k8<|am<|iv q rfl (x:=.ref d) rfl<|am<|ji q q0o λg1 P i=>?_
  replace P:rf g1 z g d .ellipsis:=P;refine am ?_;simp only[t7,List.zipIdx_nil,List.forIn_cons,List.forIn_nil]
  refine am<|am<|oq ?_;show gn _ _ (iI (.ref l) >>= _) _ _ _
  refine am<|Dn (h1.extBut i.extBut D.i1z) (N.extBut i.extBut D.l1z) hx λg2 a2 n=>ap ?_
  have X:pG g2 d a b:=n.extBut _ _ D.TOi1<|i.extBut _ _ D.TOz M
  refine am<|kg X rfl<|am<|pH X λg3 R p=>am<|rg<|ap ?_
  replace R:pG g3 d x b:=R
  refine am<|am<|oq ?_;show gn _ _ (iI (.ref m) >>= _) _ _ _
  refine am<|Dn (((h2.extBut i.extBut D.i2z).extBut n.extBut D.i12.symm).extBut p.extBut D.TOi2.symm) (((O.extBut i.extBut D.l2z).extBut n.extBut D.l2i1).extBut p.extBut D.l2TO) hy λg4 a4 r=>ap ?_
  have Y:pG g4 d x b:=r.extBut _ _ D.TOi2 R
  refine am<|kg Y rfl<|am<|pH Y λf u t=>am<|rg<|ap<|ap ?_
  replace u:pG f d x y:=u
  refine am<|kg u rfl<|am<|wpAny_newTuple ?_
  have Z:f.objs.size=s.heap.objs.size:=by rw[t.1,r.1,p.1,n.1,i.1]
  have z5:rf f z g d .ellipsis:=t.extBut _ _ D.TOz.symm<|r.extBut _ _ D.i2z.symm<|p.extBut _ _ D.TOz.symm<|n.extBut _ _ D.i1z.symm P
  have k5:∀c o,c≠z->c≠d->c≠l->c≠m->s.heap.get? c=some o->f.get? c=some o:=λc o j B S T e=>t.extBut _ _ B<|r.extBut _ _ T<|p.extBut _ _ B<|n.extBut _ _ S<|i.extBut _ _ j e
  have q1:f.IsTupleIter l H (k+1):=((a2.extBut p.extBut D.TOi1.symm).extBut r.extBut D.i12).extBut t.extBut D.TOi1.symm
  have q2:f.IsTupleIter m I (k+1):=a4.extBut t.extBut D.TOi2.symm
  have lz:z<f.objs.size:=gl z5
  show gn _ _ (mP (.ref z) (.ref f.objs.size) >>= _) _ _ _;refine am ?_;unfold mP
  have z6:rf (f.push { cls:=.type "tuple",data:=.seq #[x,y]}) z g d .ellipsis:=ce _ z5
  refine am<|ji z6 q0o λg7 U e7=>?_;replace U:rf g7 z g d (kM f.objs.size):=U
  refine ji U q0o λC F e8=>?_;replace F:rf C z g d (kM f.objs.size):=F
  have G:∀c o,c≠z->f.get? c=some o->C.get? c=some o:=λc o j e=>e8.extBut _ _ j<|e7.extBut _ _ j<|ce _ e
  have t8:pG C f.objs.size x y:=e8.extBut _ _ (iG lz)<|e7.extBut _ _ (iG lz)<|gu _ rfl
  rw[Z] at F t8;refine ap ⟨_,rfl,?_⟩;show Q (.ref f.objs.size) _;rw[Z]
  exact hQ C F (G _ _ D.TOz u) (q1.at λo e=>G _ o D.i1z e) (q2.at λo e=>G _ o D.i2z e) t8 λc o j B S T e=>G c o j<|k5 c o j B S T e
theorem Wu{l f:cr}{k:Nat}(O:A.handled=none)(D:ZipApart z l f v y l1 l2)(st:Yx s.heap z l f v y l1 l2 .none k P R)(m:P[k]?=none\/R[k]?=none)
 (S:∀B e,(∀c o,c≠z->c≠f->c≠v->c≠y->s.heap.get? c=some o->B.get? c=some o)->(∃o,B.get? e=some o/\o.cls=.type "StopIteration")->E (.ref e) { s with heap:=B}) :
    gn (gp T w) A (Builtin.«zip.__next__» ⟨[.ref z],[]⟩) Q E s:=by
  obtain⟨n,C,⟨a,b,F⟩,U,h2,p,G⟩:=st
  show gn _ _ (tj (.ref z) 2 >>= _) _ _ _;refine am<|iv n rfl (x:=.bool false) rfl ?_
  show gn _ _ (tj (.ref z) 3 >>= _) _ _ _;refine am<|iv n rfl (x:=.ref l) rfl<|am<|kg C rfl ?_
  show gn _ _ (jr (.ref z) >>= _) _ _ _;refine am ?_;unfold jr
  refine am<|iv n rfl (x:=.none) rfl<|ap ?_;simp only[if_true]
  refine am<|k8<|am<|iv n rfl (x:=.ref f) rfl<|am<|ji n q0o λg1 u d=>?_
  replace u:rf g1 z l f .ellipsis:=u;refine am ?_;simp only[t7,List.zipIdx_nil,List.forIn_cons,List.forIn_nil]
  refine am<|am<|oq ?_;show gn _ _ (iI (.ref v) >>= _) _ _ _
  cases H:P[k]? with
  | none =>
    refine am<|Lm O (U.extBut d.extBut D.i1z) (p.extBut d.extBut D.l1z) H λI e g J=>?_;obtain⟨L,i,r⟩:=J
    have W:rf I z l f .ellipsis:=g _ _ D.i1z.symm u
    have M:e≠z:=λq=>by subst q;rw[W] at i;cases i;simp at r
    exact ji W q0o λX _ j=>S X e (λc o t _ N _ q=>j.extBut _ _ t<|g _ _ N<|d.extBut _ _ t q) ⟨L,j.extBut _ _ M i,r⟩
  | some x =>
    have hy:R[k]?=none:=by rcases m with h|h;rw[H] at h;cases h;exact h
    refine am<|Dn (U.extBut d.extBut D.i1z) (p.extBut d.extBut D.l1z) H λI a2 g=>ap ?_
    have Y:pG I f a b:=g.extBut _ _ D.TOi1<|d.extBut _ _ D.TOz F
    refine am<|kg Y rfl<|am<|pH Y λX p3 j=>am<|rg<|ap ?_
    refine am<|am<|oq ?_;show gn _ _ (iI (.ref y) >>= _) _ _ _
    refine am<|Lm O (((h2.extBut d.extBut D.i2z).extBut g.extBut D.i12.symm).extBut j.extBut D.TOi2.symm) (((G.extBut d.extBut D.l2z).extBut g.extBut D.l2i1).extBut j.extBut D.l2TO) hy λg4 e Z J=>?_
    obtain⟨L,i,r⟩:=J
    have z4:rf g4 z l f .ellipsis:=Z _ _ D.i2z.symm<|j.extBut _ _ D.TOz.symm<|g.extBut _ _ D.i1z.symm u
    have M:e≠z:=λq=>by subst q;rw[z4] at i;cases i;simp at r
    exact ji z4 q0o λg5 _ e5=>S g5 e (λc o t c2 N c4 q=>e5.extBut _ _ t<|Z _ _ c4<|j.extBut _ _ c2<|g.extBut _ _ N<|d.extBut _ _ t q) ⟨L,e5.extBut _ _ M i,r⟩
abbrev tI(l:cr):Obj:={ cls:=.type "tuple_iterator",data:=.fields #[.ref l,.int 0 0]}
abbrev H1(h:hR)(a:cr):hR:=h.push<|tI a
abbrev H2(h:hR)(a b:cr):hR:=(H1 h a).push<|tI b
abbrev H3(h:hR)(a b:cr):hR:=(H2 h a b).push { cls:=.type "tuple",data:=.seq #[.ref h.objs.size,.ref (H1 h a).objs.size]}
abbrev H4(h:hR)(a b:cr):hR:=(H3 h a b).push { cls:=.type "tuple",data:=.seq #[.none,.none]}
abbrev H5(h:hR)(a b:cr):hR:=(H4 h a b).push { cls:=.type "zip",data:=.fields #[.none,.bool false,.bool false,.ref (H2 h a b).objs.size,.ref (H3 h a b).objs.size]}
theorem made(a b:cr)(c e:Array ci):Meets (Builtin.«zip.__new__» ⟨[.type "zip",.ref a,.ref b],[]⟩) (λ_ R s=>s.heap.IsTuple a c/\s.heap.IsTuple b e/\R (.ok<|.ret<|.ref (H4 s.heap a b).objs.size) { s with heap:=H5 s.heap a b}) :=
 .of_wp λf w A R s h=>by
  obtain⟨i,g,d,j,k⟩:=s;obtain⟨m,n,h⟩:=h;have l:=sub_zip;have o:pM (Shared.heap ⟨i,g,d,j,k⟩) a c:=m;have p:pM (Shared.heap ⟨i.push<|tI a,g,d,j,k⟩) b e:=Heap.IsTuple.push n _
  wp_walk using qc o,qc p
  exact⟨_,rfl,h⟩
theorem O7(n:s.heap.IsTuple a p)(q:s.heap.IsTuple b r)
 (h:∀d,Yx d (s.heap.objs.size+4) (s.heap.objs.size+2) (s.heap.objs.size+3) s.heap.objs.size (s.heap.objs.size+1) a b .none 0 p r->d.objs.size=s.heap.objs.size+5->(∀c o,s.heap.get? c=some o->d.get? c=some o)->Q (.ref<|s.heap.objs.size+4) { s with heap:=d}) :
    gn (gp t w) A (call (.type "zip") [.ref a,.ref b]) Q E s:=by
  refine callType_new F.called_zip q0q (F.typeCall_zip_2 _ _) (F.newCall_zip_2 _ _) (λf=>F.args_object_init_3 f _ _) F.entry_zip_new (made a b p r) ⟨n,q,?_⟩
  have g:(H1 s.heap a).objs.size=s.heap.objs.size+1:=iW ..
  have i:(H2 s.heap a b).objs.size=s.heap.objs.size+2:=by rw[iW,g]
  have j:(H3 s.heap a b).objs.size=s.heap.objs.size+3:=by rw[iW,i]
  have k:(H4 s.heap a b).objs.size=s.heap.objs.size+4:=by rw[iW,j]
  have z:(H5 s.heap a b).objs.size=s.heap.objs.size+5:=by rw[iW,k]
  have l:(H5 s.heap a b).get? (H4 s.heap a b).objs.size=some _:=gu _ rfl
  have u:(H5 s.heap a b).get? (H3 s.heap a b).objs.size=some _:=ce _<|gu _ rfl
  have v:(H5 s.heap a b).get? (H2 s.heap a b).objs.size=some _:=ce _<|ce _<|gu _ rfl
  have y:(H5 s.heap a b).get? (H1 s.heap a).objs.size=some _:=ce _<|ce _<|ce _<|gu _ rfl
  have B:(H5 s.heap a b).get? s.heap.objs.size=some _:=ce _<|ce _<|ce _<|ce _<|gu _ rfl
  have m:∀c o,s.heap.get? c=some o->(H5 s.heap a b).get? c=some o:=λc o x=>ce _<|ce _<|ce _<|ce _<|ce _ x
  rw[i,j,k] at l;rw[g,i] at v;rw[j] at u;rw[g] at y;rw[k]
  exact⟨⟨_,l,rfl⟩,h _ ⟨l,v,⟨_,_,u⟩,⟨_,B,rfl,rfl⟩,⟨_,y,rfl,rfl⟩,n.at λo e=>m _ o e,q.at λo e=>m _ o e⟩ z m⟩
theorem walk(hh:A.handled=none)(z TI TO i1 i2 l1 l2:cr)(D:ZipApart z TI TO i1 i2 l1 l2)(xs ys:Array ci):WalksT prog w A z [z,TI,TO,i1,i2,l1,l2] [z,TO,i1,i2] (min xs.size ys.size)
   (λi vals=>∃x y,xs[i]?=some x/\ys[i]?=some y/\vals=#[x,y]) (λi h=>Yx h z TI TO i1 i2 l1 l2 .none i xs ys)
   (λi T h=>Yx h z TI TO i1 i2 l1 l2 (kM T) (i+1) xs ys/\T≠z/\T≠TO/\T≠i1/\T≠i2) where
 sub:=λc hc=>by simp only[gL,iD,k9] at hc ⊢;rcases hc with q|q|q|q<;>simp[q]
 frame:=λi h h' st k=>by obtain⟨hz,Yy,⟨a,b,Yz⟩,h1,h2,YA,YB⟩:=st;exact⟨k z q0o _ hz,k TI q0o _ Yy,⟨a,b,k TO q0o _ Yz⟩,h1.at λo e=>k i1 q0o o e,h2.at λo e=>k i2 q0o o e,YA.at λo e=>k l1 q0o o e,YB.at λo e=>k l2 q0o o e⟩
 item:=λi s Q E hi st hQ=>by have ix:i<xs.size:=gD hi<|Nat.min_le_left ..;have iy:i<ys.size:=gD hi<|Nat.min_le_right ..;have hT:s.TypeIs (.ref z) "zip":=⟨_,st.1,rfl⟩;unfold pyNext;refine am<|om<|wpAny_callSpecial?_slot (name:=kT "__next__") hT oP<|ie oP hT F.entry_zip_next (SN D st (iL ix) (iL iy) λh' a1 a2 a3 a4 a5 k=>ap ?_)<|F.args_zip_next_1 _;obtain⟨hz,Yy,⟨a,b,Yz⟩,h1,h2,YA,YB⟩:=st;have lt:∀{c o},s.heap.get? c=some o->s.heap.objs.size≠c:=λe=>iG<|gl e;refine hQ s.heap.objs.size #[xs[i],ys[i]] h' s.toks ⟨_,_,iL ix,iL iy,rfl⟩ (ga _) ⟨_,a5,rfl,_,rfl⟩ ⟨⟨a1,k _ _ D.TIz D.TITO D.TIi1 D.TIi2 Yy,⟨_,_,a2⟩,a3,a4,YA.at λo e=>k _ o D.l1z D.l1TO D.l1i1 D.l1i2 e,YB.at λo e=>k _ o D.l2z D.l2TO D.l2i1 D.l2i2 e⟩,lt hz,lt Yz,by obtain⟨_,e,_⟩:=h1;exact lt e,by obtain⟨_,e,_⟩:=h2;exact lt e⟩ ?_;exact λc o hc e=>k c o (λx=>hc<|by simp[x]) (λx=>hc<|by simp[x]) (λx=>hc<|by simp[x]) (λx=>hc<|by simp[x]) e
 go:=λelts k pos i T s Q E hm hQ=>by obtain⟨⟨hz,Yy,⟨a,b,Yz⟩,h1,h2,YA,YB⟩,_⟩:=hm;refine wpAny_letOwnedTupleGo_zip hz λh' hz' e=>hQ h' ⟨hz',e.extBut _ _ D.TIz Yy,⟨a,b,e.extBut _ _ D.TOz Yz⟩,h1.extBut e.extBut D.i1z,h2.extBut e.extBut D.i2z,YA.extBut e.extBut D.l1z,YB.extBut e.extBut D.l2z⟩ λc o hc q=>e.extBut _ _ (λx=>hc<|by simp[x]) q
 apart:=λi T h hm hT=>by obtain⟨_,t1,t2,t3,t4⟩:=hm;simp only[gL,iD,k9] at hT;rcases hT with q|q|q|q;exact t1 q;exact t2 q;exact t3 q;exact t4 q
 done:=λs Q E st hQ=>by
  have a0M:xs[min xs.size ys.size]?=none\/ys[min xs.size ys.size]?=none:=by
   rcases Nat.le_total xs.size ys.size with h|h
   ·rw[Nat.min_eq_left h];exact .inl<|rB<|ga _
   ·rw[Nat.min_eq_right h];exact .inr<|rB<|ga _
  have hT:s.TypeIs (.ref z) "zip":=⟨_,st.1,rfl⟩;unfold pyNext;refine am<|om<|wpAny_callSpecial?_slot (name:=kT "__next__") hT oP<|ie oP hT F.entry_zip_next (Wu hh D st a0M λh' e k he=>?_)<|F.args_zip_next_1 _;obtain⟨o,ho,hc⟩:=he;exact am<|lq (T:="StopIteration") (b:=true) ⟨o,ho,hc⟩ isSubtype_stop<|ap<|hQ _ s.toks λc o hc e=>k c o (λx=>hc<|by simp[x]) (λx=>hc<|by simp[x]) (λx=>hc<|by simp[x]) (λx=>hc<|by simp[x]) e
 self:=λi s Q E st hQ=>wpAny_pyIter_zip st.1 hQ
end ZT
namespace L2
open PySem PySem.Spec PyProof.Rows
theorem a0N:Oy X (yq X.K) P:=⟨λ{v J H1 g a b L M x} m N y A B=>by
 obtain⟨n,C,p,O⟩:=m.tuple y;obtain⟨q,D,r,R⟩:=m.tuple A;have h:g.heap.get? P=some (qi x):=m.uU P _ B;have i:pM g.heap a n.toArray:=p;have j:pM g.heap b q.toArray:=r
 have f:∀(l:cr)(d:Array ci),g.heap.IsTuple l d->l≠P:=λl d s=>e1a3 s λo e c _ z=>by rw[z,h] at e;cases e;cases c
 have k:∀(l:cr)(d:Array ci),g.heap.IsTuple l d->l<g.heap.objs.size:=λl d s=>e1a2 s λo e _=>gl e;refine⟨n,q,C,D,k _ _ i,k _ _ j,f _ _ i,f _ _ j,λQ E F=>ZT.O7 i j λG t u H=>?_⟩
 exact F G _ _ (λS I=>(ZT.walk (prog:=X.prog) (w:=X.w) I _ _ _ _ _ _ _ (zipApart_new (k _ _ i) (k _ _ j)) n.toArray q.toArray).toU) t u H⟩
end L2
namespace HT
variable[L2.GX]
open PySem PySem.Spec PyProof.Rows
theorem zY{a:Option Int}(b:IsTup s.heap t items)(i:s.heap.IsSliceOf j l m .none)(n:pA l a)(o:pA m c)
 (hw:wj items.size 0 a=0/\wj items.size items.size c=items.size)(h:Q (.ref t) s):gn (gp k w) A (m6 (.ref t)<|.ref j) Q E s:=by
  refine e1a3 (id i) λp d e q=>?_
  have f:s.TypeIs (.ref j) "slice":=⟨p,d,e⟩
  unfold m6
  try with_reducible refine gV ?_
  first|refine am (ap ?_)|skip
  refine am<|wpAny_sequenceKey b.typeIs q0q ?_
  refine am (wpAny_callSpecial?_slot (name:=kT "__getitem__") b.typeIs jH
    (ie jH b.typeIs entry_tuple_getitem ?_ (args_tuple_getitem _ _)))
  show gn _ _ (pf (.ref t) >>= _) _ _ s
  refine am<|tupleItemsOf_ b ?_
  refine am<|jY f ?_
  rw[f7 q0q]
  refine am<|yf i n o ?_
  have g:(((wj items.size 0 a:Nat):Int)==0&&(1:Int)==1&&(wj items.size items.size c-wj items.size 0 a)==items.size)=true:=by
    rw[hw.1,hw.2]
    simp
  show gn _ _ (if (((wj items.size 0 a:Nat):Int)==0&&(1:Int)==1&&(wj items.size items.size c-wj items.size 0 a)==items.size)=true then _ else _) _ _ s
  rw[f7 g]
  refine am<|am<|jY b.typeIs<|ap ?_
  rw[f7 q0q]
  first
    | exact am<|k8<|ap ⟨_,rfl,ap h⟩
    | exact am<|k8<|am<|ap<|ap ⟨_,rfl,ap h⟩
    | exact am<|am<|k8<|ap<|ap ⟨_,rfl,ap h⟩
end HT
namespace L2
variable[L2.GX]
open PySem PySem.Spec PyProof.Rows
def YC(K:fZ):V->Option Int->Option Int->Hp->VK->Prop:=λx c d H Q=>∃a b,x=.ref a/\yq K H a b/\(HT.wj b.length 0 c=0/\HT.wj b.length b.length d=b.length)/\Q (.ref a) H
theorem SO:UK X (YC X.K):=by
 intro d s n H x v o p t u w Q I f g i j h;obtain⟨a,k,rfl,l,m,q⟩:=h;cases f;refine e1a3 (I.tuple l) λc r e y=>?_;have b:c.toArray.size=k.length:=by rw[gv];exact r.length.symm
 refine⟨"tuple",_,PyProof.Rows.slot_tuple_getitem.lookup,e.typeIs,?_⟩;exact HT.zY e g i j (by rw[b];exact m) ⟨.ref a,H,I,rfl,q⟩
end L2
namespace WL
variable[L2.GX]
open PySem L2
open Rep (rp)
open Ow (sl)
open Sls (rel)
section
variable{D:Type}[Sls D]
theorem vm.O8{F R:Rg}{H c:Hp}{d:D}{f:St}(s:vm T F R H d f)(k:∀b o,b≠T->H b=some o->c b=some o)(t:TabAt c T):Ch T F R H F R c/\vm T F R c d f:=by
 refine⟨⟨λb o _ n h=>k b o n h,λ_ h=>.inl h,λ_ h=>.inl h,λ_ h _=>h⟩,Sls.st s.rel (G:=λa=>a=T) ⟨λb o n h=>k b o n h,λ_ h=>.inl h⟩ (λa h=>by rw[h];exact s.uW)<|λa h z=>s.uM (by rw[<- z];exact h),s.sub,λa h=>?_,t,s.uW,s.uM⟩;by_cases e:a=T
 ·rw[e];exact yk t
 ·cases q:H a with
  | none=>exact gy q<|s.wu a h
  | some o=>rw[k a o e q];simp
theorem Do{x:Tp Int}(h:rp R H x v):∃a,v=.ref a/\H a=some (.tup<|x.l.map V.int):=by refine e2a4 h λa vs e _ h3 h4=>?_;exact⟨a,e,by rw[h3,paired_ints h4]⟩
theorem Dr{x:List Int}(h:rp R H x v):∃a,v=.ref a/\H a=some (.lst<|x.map V.int):=by refine e2a4 h λa vs e _ h3 h4=>?_;exact⟨a,e,by rw[h3,paired_ints h4]⟩
theorem O9(B:EW X E T i G)(I:EW X E T f J)(L:∀{j:TA},PA X [i,f] j->PE X e (Yh X.K T j))
 (M:f9 [i,f] X.env=(false,eval i X.env)::f9 [f] X.env:=by rfl) (l:f9 [f] X.env=(false,eval f X.env)::f9 [] X.env:=by rfl) :
    EW X E T e (λ(d:D)(q:Bool->D->Prop) g=>G d (λN m=>J m (λO n=>q (yE N O) n) g) g):=by
  refine e1a2 B λj P S=>?_
  refine e1a2 I λtb U W=>?_
  refine⟨_,L<|ul P (ul U uB l) M,λd F R r H q g Q s Y Z w=>?_⟩
  refine S d F R r H _ g _ s Y (λx m u F1 R1 H1 q1 z h r1=>?_) w
  refine W m F1 R1 r H1 _ g _ h q1 (λy n v F2 R2 H2 q2 A o r2=>?_) λC y d' F' R' p k c s'=>w C y d' F' R' p k (Ch.trans s h.tab z c) s'
  obtain⟨a,rfl,ha⟩:=Dr<|h.val A r1
  obtain⟨b,rfl,hb⟩:=Dr r2
  refine⟨a,b,x,y,rfl,vA.of ha,vA.of hb,o.tab,λp k _ t=>?_⟩
  obtain⟨c3,s3⟩:=o.O8 k t
  exact Z _ n _ F2 R2 p q2 (Ch.trans s h.tab z<|Ch.trans h o.tab A c3) s3 rfl
theorem Pa{r w:Wf D (Tp Int) D}(J:EW X E T i r)(L:EW X E T f w)(M:∀{j:TA},PA X [i,f] j->PE X e (V5 X.K T j))
 (N:f9 [i,f] X.env=(false,eval i X.env)::f9 [f] X.env:=by rfl) (m:f9 [f] X.env=(false,eval f X.env)::f9 [] X.env:=by rfl) :
    EW X E T e (λ(d:D)(z:Bool->D->Prop) g=>r d (λO n=>w n (λP o=>z (yE O.l P.l) o) g) g):=by
  refine e1a2 J λj S U=>?_
  refine e1a2 L λtb W Y=>?_
  refine⟨_,M<|ul S (ul W uB m) N,λd F R A H z g Q s Z kn B=>?_⟩
  refine U d F R A H _ g _ s Z (λx n u F1 R1 H1 q1 G h r1=>?_) B
  refine Y n F1 R1 A H1 _ g _ h q1 (λy o v F2 R2 H2 q2 I p r2=>?_) λC y d' F' R' q k c s'=>B C y d' F' R' q k (Ch.trans s h.tab G c) s'
  obtain⟨a,rfl,ha⟩:=Do<|h.val I r1
  obtain⟨b,rfl,hb⟩:=Do r2
  refine⟨a,b,x.l,y.l,rfl,yq.of ha,yq.of hb,p.tab,λq k _ t=>?_⟩
  obtain⟨c3,s3⟩:=p.O8 k t
  exact kn _ o _ F2 R2 q q2 (Ch.trans s h.tab G<|Ch.trans h p.tab I c3) s3 rfl
theorem MQ{N O:Option hO}{P:Wf D (Tp Int) D}{S U:Wf D (Option Int) D}(ha:EW X E T a P)(hl:OW X E T N S)(hh:OW X E T O U) :
  EW X E T (.Subscript a (.Slice N O none p2) pos) (λ(d:D)(W:Tp Int->D->Prop) f=>P d (λg r=>S r (λl t=>U t (λh n=>W ⟨El g.l l h⟩ n) f) f) f):=by
 refine e1a2 ha λta a1 a2=>?_;refine e1a2 hl λtl l1 l2=>?_;refine e1a2 hh λth h1 h2=>?_;refine⟨_,zb (VI.or SO) a1 l1 h1,λd F R v H W f Q s j Y w=>?_⟩;refine a2 d F R v H _ f _ s j (λg r u F1 R1 H1 q1 x i r1=>?_) w;refine l2 r F1 R1 v H1 _ f _ i q1 (λl t F2 R2 H2 q2 Z z=>?_) λC y A B G I k c J=>w C y A B G I k (Ch.trans s i.tab x c) J;refine h2 t F2 R2 v H2 _ f _ z q2 (λh n F3 R3 H3 q3 c3 o=>?_) λC y A B G I k c J=>w C y A B G I k (Ch.trans s i.tab x<|Ch.trans i z.tab Z c) J;have m:=Ch.trans i z.tab Z c3;have r3:=i.val m r1;obtain⟨q,b,rfl,k1,L,M⟩:=id r3;have cc:=Ch.trans s i.tab x m;have le:=Paired.length M;by_cases j:HT.wj b.length 0 l=0/\HT.wj b.length b.length h=b.length
 ·refine .inr ⟨q,b,rfl,yq.of L,j,?_⟩;refine Y _ n _ F3 R3 H3 q3 cc o ⟨q,b,rfl,k1,L,?_⟩
  have e:El g.l l h=g.l:=by unfold El;rw[le,j.1,j.2,List.drop_zero,Nat.sub_zero,<- le,t9]
  rw[e];exact M
 ·refine .inl ⟨q,b,rfl,yq.of L,j,λp hp=>?_⟩;refine e0a3 (o.new (.tup<|CW b l h) hp) λs4 c4 n4=>?_;exact Y _ n _ F3 R3 _ q3 (Ch.trans s o.tab cc c4) s4 ⟨p,_,rfl,n4,uh,o.vals c4<|Di M l h⟩
end
structure SI(w:ic) where
 l:List Int
instance(w:ic):Ow (SI w):=⟨λF _ H x v=>∃a ks,v=some (.ref a)/\(∀b,F b↔b=a)/\H a=some (wq w a ks)/\ks.Nodup/\(∀k,k∈ks↔k∈x.l)/\x.l.Pairwise (· < ·),
 λh e s n=>by
  refine e2a4 h λa ks h1 h2 h3 h4=>?_
  exact⟨a,ks,h1,h2,e.keep a _ (n a<|(h2 a).mpr rfl) h3,h4⟩,
 λh e=>by
  refine e2a4 h λa ks h1 h2 h3 h4=>?_
  exact⟨a,ks,h1,λb=>(e b).symm.trans (h2 b),h3,h4⟩⟩
def Ep(k:Int)(l:List Int):List Int:=if k∈l then l else ins k l
def JB(k:Int)(l:List Int):List Int:=l.filter λx=>decide<|x≠k
theorem vw{a b:List Int}(c:a.Nodup)(d:b.Nodup)(h:∀k,k∈a↔k∈b):a.Perm b:=(List.perm_ext_iff_of_nodup c d).mpr h
theorem uq{l:List Int}(h:l.Pairwise (· < ·)):l.Nodup:=h.imp λq=>Int.ne_of_lt q
theorem Lo{l:List Int}(h:l.Pairwise (· < ·)):l.Pairwise (·<=·):=h.imp λq=>Int.le_of_lt q
theorem Pb{l:List Int}(h:l.Pairwise (·<=·))(n:l.Nodup):l.Pairwise (· < ·):=List.Pairwise.imp₂ (λa b (q:a<=b) (n:a≠b)=>by lia) h n
theorem xq{k:Int}:k∈Av l↔k∈l:=(vI l).mem_iff
theorem Ds{a:List Int}(n:a.Nodup)(h:∀k,k∈a↔k∈l)(r:l.Pairwise (· < ·)):Av a=l:=zP ((vI a).trans<|vw n (uq r) h) (AR a)<|Lo r
set_option tactic.hygienic true in
theorem AY{k x:Int}:x∈Ep k l↔x=k\/x∈l:=by
 unfold Ep;split
 ·rename_i h
  exact⟨.inr,λz=>z.elim (λe=>by rw[e];exact h) id⟩
 ·rw[(zj k l).mem_iff,gL]
set_option tactic.hygienic true in
theorem Cy{k:Int}{l:List Int}(r:l.Pairwise (· < ·)):(Ep k l).Pairwise (· < ·):=by
 unfold Ep;split
 ·exact r
 ·rename_i h
  exact Pb (FK k l<|Lo r)<|(zj k l).nodup_iff.mpr<|List.nodup_cons.mpr ⟨h,uq r⟩
theorem zn{k x:Int}:x∈JB k l↔x∈l/\x≠k:=by unfold JB;rw[iE];simp
section
variable{D PO τ:Type}[Sls D][Sls PO][Ow τ]{α:Type}[Rep α]
theorem SQ(j:X.w=w)(l:Gl X "set")(m:X.mg "set"=none):EO X E T (.Call (.Name "set" p) [] [] pos) (λ(d:D)(e:SI w->D->Prop) _=>e ⟨[]⟩ d):=by
 subst j;refine⟨_,IZ MM l m mZ,λd F R v H e x Q s n r y=>⟨rfl,λp c=>?_⟩⟩;refine e0a3 (s.new (wq X.w p []) c) λf t g=>?_;have u:¬F p:=λz=>g<|s.sub p z;have i:Ext (λ_=>False) R H (λa=>R a\/a=p) (upd H p<|wq X.w p []):=⟨λb o _ h=>by rw[ud<|uo h c];exact h,λa h=>h.elim .inl λq=>.inr<|by rw[q];exact c⟩;refine r ⟨[]⟩ d _ (λa=>a=p) F (λa=>R a\/a=p) _ n ⟨t.keep,i.new,λa h=>h.elim (λq=>.inr<|by rw[q];exact c) .inl,λa h _=>.inl h⟩ ⟨Sls.st s.rel i (λ_ z=>z.elim)<|λ_ _ z=>z,λa h=>.inl<|s.sub a h,λa h=>?_,f.tab,.inl s.uW,s.uM⟩ ⟨⟨p,[],rfl,λb=>Iff.rfl,uh,lK,λ_=>Iff.rfl,gR⟩,λa h=>.inr h,λa h k=>u (by rw[<- h];exact k),λh=>g<|by rw[<- h];exact s.uW⟩;rcases h with h|h
 ·exact f.wu a h
 ·rw[h,uh];simp
theorem tw_inS(i:Nat)(m:X.w=w)[Sls n][A:At i D (SI w) n](o:EW X E T a q)(r:PE X (.Name x p) (uN i))(t:iq .In (.Name x p)=false) :
  TW X E T (.Compare a [.In] [.Name x p] pos) (λ(d:D) g f=>q d (λk c=>g (decide<|k∈(A.get c).l) c) f):=by
 subst m;refine e1a2 o λY y z=>?_;refine⟨_,wR V7 y r t,λd F R B H g f Q s C G I=>z d F R B H _ f _ s C (λk c u J L M N O h P=>?_) I⟩;obtain⟨v,Z,G2,S,h2,⟨b,j,rfl,g2,U,g4,W,g6⟩,_⟩:=A.take h.rel;refine⟨_,S,k,b,j,P,rfl,U,_,rfl,?_⟩;have e:decide (k∈j)=decide (k∈(A.get c).l):=by simp only[W]
 rw[e];exact G _ c J L M N O h
theorem Cz{i:Nat}[Sls x][A:At i D (SI w) x][U:Pt i x (SI w) D](s:vm T F R H d y):∃a g,y[i]?=some (some<|.ref a)/\H a=some (wq w a g)/\g.Nodup/\(∀k,k∈g↔k∈(A.get d).l)/\(A.get d).l.Pairwise (· < ·) /\
  ∀(j f:List Int),f.Nodup->(∀k,k∈f↔k∈j)->j.Pairwise (· < ·)->Ch T F R H F R (upd H a<|wq w a f)/\vm T F R (upd H a<|wq w a f) (U.put (A.hole d) ⟨j⟩) y:=by
 obtain⟨v,W,X,B,m,⟨a,g,rfl,p,C,E,G,I⟩,J⟩:=A.take s.rel;have r:F a:=(m.all a).mpr<|.inl<|(p a).mpr rfl;have L:a≠T:=λz=>s.uM (by rw[<- z];exact r);refine⟨a,g,B,C,E,G,I,λj f M N O=>?_⟩;have P:=yH (F:=F) (R:=R) (H:=H) (a:=a) (o:=wq w a f);have Q:∀c,c=a->R c:=λc z=>by rw[z];exact s.sub a r
 have k:∀b u,b≠a->H b=some u->upd H a (wq w a f) b=some u:=λb u z e=>by rw[ud z];exact e
 refine⟨⟨λb o n _ e=>k b o (λz=>n<|by rw[z];exact r) e,λ_ h=>.inl h,λ_ h=>.inl h,λ_ h _=>h⟩,Pt.same (A:=U) (Sls.st J P Q λc z q=>m.xj c ((p c).mpr q) z) B m ⟨a,f,rfl,p,uh,M,N,O⟩,s.sub,λc z=>?_,?_,s.uW,s.uM⟩
 ·by_cases e:c=a
  ·rw[e,uh];simp
  ·rw[ud e];exact s.wu c z
 ·refine e1a2 s.tab λS e t=>?_;exact⟨S,k _ _ (λz=>L z.symm) e,t⟩
set_option tactic.hygienic true in
theorem SR(i:Nat)(W:X.w=w)[Sls B][A:At i D (SI w) B][U:Pt i B (SI w) D][J:Pj D PO n](h:EW X E T e Y)
 (Z:∀{t:TA},PA X [e] t->PS X (.Expr (.Call (.Attribute (.Name x p1) "add" p2) [e] [] p3) pos) (Hm<|V8 X.w (λx vs H Q=>∃(a:cr)(g:List Int)(k:Int),x=.ref a/\vs=[.int k]/\H a=some (wq X.w a g)/\g.length+1<=127/\∀b:List Int,b.Nodup->b.Perm (if k∈g then g else k::g)->Q .vK (upd H a<|wq X.w a b)) (uN i) t)) (hs:f9 [e] X.env=(false,eval e X.env)::f9 [] X.env:=by rfl) :
    S1 X E T ms n (.Expr (.Call (.Attribute (.Name x p1) "add" p2) [e] [] p3) pos) (λ(d:D)(I:D->Prop)(Kr:τ->PO->Prop) L=>Y d (λy f=>(A.get f).l.length<127/\I (U.put (A.hole f) ⟨Ep y (A.get f).l⟩)) λC f=>L C<|J.pj f):=by
  subst W
  refine e1a2 h λt h1 h2=>?_
  refine⟨_,Z<|ul h1 uB hs,λd F R M H I Kr L En s hw kn kr ke=>?_⟩
  refine e2a4 (Cz (i:=i) s) λa g j p g3 _=>?_
  refine⟨_,j,⟨a,g,rfl,p⟩,h2 d F R M H _ _ _ s hw (λy f v N u O q c m r=>?_) λC y f N u O q c m=>?_⟩
  · obtain⟨a', b, P, k2, k3, o, S, k6⟩ := Cz (i := i) m
    rw[j] at P
    cases P
    subst r
    have aa:b.length=(A.get f).l.length:=(vw k3 (uq S) o).length_eq
    refine⟨a,b,y,rfl,rfl,k2,by have:=q.1;lia,λus nu pu=>?_⟩
    obtain⟨c2,s2⟩:=k6 (Ep y (A.get f).l) us nu (λk=>by
      rw[pu.mem_iff,AY]
      split
      · rename_i hy
        rw[o]
        exact⟨.inr,λz=>z.elim (λe=>by rw[e];exact(o y).mp hy) id⟩
      · rw[gL, o]) (Cy S)
    exact kn _ N u _ M q.2 (Ch.trans s m.tab c c2) s2<|Ag.refl _ _
  · refine e1a2 (vM (PO := PO) m) λG j p => ?_
    exact ke C y _ G u O q (c.less j) p
set_option tactic.hygienic true in
theorem SS(i:Nat)(Y:X.w=w)[Sls B][A:At i D (SI w) B][U:Pt i B (SI w) D][J:Pj D PO n](h:EW X E T e Z)
 (hb:∀{t:TA},PA X [e] t->PS X (.Expr (.Call (.Attribute (.Name x p1) "discard" p2) [e] [] p3) pos) (Hm<|V8 X.w (λx vs H Q=>∃(a:cr)(g:List Int)(k:Int),x=.ref a/\vs=[.int k]/\H a=some (wq X.w a g)/\∀b:List Int,b.Nodup->(if k∈g then g.Perm (k::b) else b=g)->Q .vK (upd H a<|wq X.w a b)) (uN i) t)) (hs:f9 [e] X.env=(false,eval e X.env)::f9 [] X.env:=by rfl) :
    S1 X E T ms n (.Expr (.Call (.Attribute (.Name x p1) "discard" p2) [e] [] p3) pos) (λ(d:D)(I:D->Prop)(Kr:τ->PO->Prop) L=>Z d (λy f=>I<|U.put (A.hole f) ⟨JB y (A.get f).l⟩) λC f=>L C<|J.pj f):=by
  subst Y
  refine e1a2 h λt h1 h2=>?_
  refine⟨_,hb<|ul h1 uB hs,λd F R M H I Kr L En s hw kn kr ke=>?_⟩
  refine e2a4 (Cz (i:=i) s) λa g j p g3 _=>?_
  refine⟨_,j,⟨a,g,rfl,p⟩,h2 d F R M H _ _ _ s hw (λy f v N u O q c m r=>?_) λC y f N u O q c m=>?_⟩
  · obtain⟨a', b, P, k2, k3, k4, k5, k6⟩ := Cz (i := i) m
    rw[j] at P
    cases P
    subst r
    refine⟨a,b,y,rfl,rfl,k2,λS nu o=>?_⟩
    obtain⟨c2,s2⟩:=k6 (JB y (A.get f).l) S nu (λk=>by
      rw[zn,<- k4]
      split at o
      · rename_i W
        have nk:y∉S:=(List.nodup_cons.mp<|o.nodup_iff.mp k3).1
        rw[o.mem_iff,gL]
        exact⟨λz=>⟨.inr z,λe=>nk<|by rw[<- e];exact z⟩,λz=>z.1.elim (λe=>gy e z.2) id⟩
      · rename_i W
        rw[o]
        exact⟨λz=>⟨z,λe=>W (by rw[<- e];exact z)⟩,λz=>z.1⟩) (i8 _ k5)
    exact kn _ N u _ M q (Ch.trans s m.tab c c2) s2<|Ag.refl _ _
  · refine e1a2 (vM (PO := PO) m) λG j p => ?_
    exact ke C y _ G u O q (c.less j) p
theorem JC(i:Nat)(j:X.w=w)[Sls k][A:At i D (SI w) k](m:X.calm=true)(n:Gl X "sorted")(o:X.mg "sorted"=none)(q:PE X (.Name x r) (uN i)) :
  EO X E T (.Call (.Name "sorted" p) [.Name x r] [] pos) (λ(d:D)(b:OL Int->D->Prop) _=>(A.get d).l.length<64/\b ⟨(A.get d).l⟩ d):=by
 subst j;refine⟨_,v6 (AM m) n o jF<|ul q uB,λd F R N H b O Q s c t P=>?_⟩;obtain⟨v,S,U,u,W,⟨a,e,rfl,Y,y,f,g,h⟩,Z⟩:=A.take s.rel;have z:e.length=(A.get d).l.length:=(vw f (uq h) g).length_eq;refine⟨_,u,a,e,rfl,y,by have:=c.1;omega,λl ns B C G=>?_⟩;rw[Dh C G,Ds f g h];refine e1a3 (wG s B<|wY (R:=R) (H:=H) (A.get d).l) λI J L M=>?_;exact t _ d _ _ F I _ c.2 J L M
theorem FS{K:fZ}{xs:List α}{vs:List V}:Xk (ZV K a) xs (λR H=>H a=some (.tup vs)/\Paired (rp R H) xs vs) where
 go:=λ{R H i} p h=>by refine e1a2 (v7 (i:=i) (x:=xs[i]) p.2<|by simp[h]) λv e _=>?_;exact⟨vs,v,yq.of p.1,e⟩
 G9:=λ{R H i v H'} p _ hi y=>by obtain⟨e,y⟩:=y;subst e;have y':=y vs<|yq.of p.1;refine e1a2 (v7 (i:=i) (x:=xs[i]) p.2<|by simp[hi]) λu e r=>?_;rw[y'] at e;cases e;exact⟨.inl rfl,_,by simp[hi],r⟩
 stop:=λ{R H} p=>⟨vs,yq.of p.1,by rw[Paired.length p.2];exact ga _⟩
theorem Pc{w:Wf D (Tp α) D}(h:EW X E T e w):IW X E T is tg e (λ(b:D)(_:List α)=>b) (λ(d:D) Kn Ke=>w d (λx d'=>Kn x.l d') Ke):=by refine e1a2 h λt h1 h2=>?_;refine⟨_,Vz h1,λd F R σ H Kn Ke Rk s hw kn ke=>h2 d F R σ H _ _ _ s hw (λxs d' v F' R' H' q c s' r=>?_) ke⟩;obtain⟨a,vs,rfl,r1,r2,r3⟩:=r;refine⟨a,rfl,⟨vs,yq.of r2⟩,kn xs.l d' _ (λR H=>(H a=some (.tup vs)/\Paired (rp R H) xs.l vs)/\¬R a) F' (λ_=>False) F' R' H' q c s'.FH (two_nil F') s'.rel ⟨λp=>FS.go p.1,λp=>FS.G9 p.1,λp=>FS.stop p.1⟩ ⟨⟨r2,r3⟩,r1⟩ (λp gs nf ex=>?_) λb' G2 UY IE OO σ' p h g t=>Sls.fq h<|two_eq t λ_ z=>z⟩;have na:¬_:=λz=>p.2<|gs a z;exact⟨⟨ex.keep a _ na p.1.1,vq (ex.wide gs) p.1.2⟩,ex.not p.2 p.1.1⟩
theorem Dt{a:gP}[Sls c][J:Pj D PO n](e:PS X a (OG C E<|BX (tC x) Cf)):S1 X E T j n a (λ(d:D)(_:c->Prop)(_:τ->PO->Prop) b=>b C<|J.pj d):=by refine⟨_,e,λd F R k H l m b o s f p q g=>⟨(by show 1<=gf;decide),λy=>?_⟩⟩;refine e1a2 (vM (PO:=PO) s) λG h i=>?_;exact g C y _ G R H f ((Ch.refl _ _ _ _).less h) i
end
def wl(l:List Int):Prop:=l.Pairwise (· < ·)
def asc(a:List Int):Bool:=yE a<|a.drop 1
theorem YD(b:List c):El b (some 1) none=b.drop 1:=by
 unfold El;rw[HT.Hw,show (some (1:Int))=some ((1:Nat):Int) from rfl,HT.KS]
 cases b with
 | nil=>rfl
 | cons a r =>
  rw[show min 1 (a::r).length=1 by simp,iM];rw[lW];exact ga _
theorem Pd{a b:Int}:asc (a::b::r)=(decide (a<b)&&asc (b::r)):=rfl
theorem xt:∀(c:List Int),asc c=true↔wl c
 | []=>⟨λ_=>gR,λ_=>rfl⟩
 | [a]=>⟨λ_=>je _ _,λ_=>rfl⟩
 | a::b::r=>by
  rw[Pd,g8,hJ,xt (b::r)];constructor
  ·rintro⟨d,f⟩;refine List.pairwise_cons.mpr ⟨λx g=>?_,f⟩;rcases List.mem_cons.mp g with e|e
   ·rw[e];exact d
   ·exact Int.lt_trans d<|(List.pairwise_cons.mp f).1 x e
  ·intro h;exact⟨(List.pairwise_cons.mp h).1 b gc,(List.pairwise_cons.mp h).2⟩
theorem CA(a:wl b)(c:wl d)(h:∀k,k∈b↔k∈d):b=d:=zP (vw (uq a) (uq c) h) (Lo a)<|Lo c
def JD(l:List Int)(k:Int):List Int:=if k∈l then JB k l else Ep k l
theorem Lq{k:Int}(h:wl l):wl (JD l k):=by
 unfold JD;split
 ·exact i8 _ h
 ·exact Cy h
set_option tactic.hygienic true in
theorem SU{k x:Int}:x∈JD l k↔((x∈l)↔¬x=k):=by
 unfold JD;split
 ·rename_i h
  rw[zn];constructor
  ·intro⟨a,b⟩;exact⟨λ_=>b,λ_=>a⟩
  ·intro z;by_cases e:x=k
   ·rw[e] at z;exact gy (z.mp h) q0o
   ·exact⟨z.mpr e,e⟩
 ·rename_i h
  rw[AY];constructor
  ·rintro(a|a)
   ·subst a;exact⟨λz=>gy z h,λz=>gy rfl z⟩
   ·exact⟨λ_ e=>h (by rw[<- e];exact a),λ_=>a⟩
  ·intro z;by_cases e:x=k
   ·exact .inl e
   ·exact .inr<|z.mpr e
def xr(l r:List Int):List Int:=r.foldl JD l
theorem xE:∀{r l:List Int},wl l->wl (xr l r)
 | [],_,h=>h
 | _::r,_,h=>xE (r:=r)<|Lq h
theorem yb:∀{r l:List Int} {x:Int},r.Nodup->(x∈xr l r↔((x∈l)↔¬x∈r))
 | [],l,x,_=>by simp[xr]
 | k::r,l,x,h=>by
  have a:=List.nodup_cons.mp h;show x∈xr (JD l k) r↔_;rw[yb a.2,SU,gL];by_cases e:x=k
  ·subst e;simp[a.1]
  ·simp[e]
theorem FT{r:List Int}{x:Int}(a:r.Nodup)(h:x∈xr l r):x∈l\/x∈r:=by
 rw[yb a] at h;by_cases q:x∈r
 ·exact .inr q
 ·exact .inl<|h.mpr q
def NB(a:List (List Int)):List Int:=a.foldl xr []
theorem AZ:∀{rows:List (List Int)} {l:List Int},wl l->wl (rows.foldl xr l)
 | [],_,h=>h
 | _::r,_,h=>AZ (rows:=r)<|xE h
theorem SV(a:List (List Int)):wl (NB a):=AZ gR
theorem vE{l U:List Int}(h:wl l)(s:∀x∈l,x∈U):l.length<=U.length:=SX.yi _ _ (uq h) s
def jn(a b:List Int):List Int:=Av<|a.filter (λk=>!decide (k∈b))++b.filter λk=>!decide (k∈a)
theorem FU{k:Int}:k∈jn a b↔(k∈a/\k∉b)\/(k∈b/\k∉a):=by unfold jn;rw[xq,ki,iE,iE];simp
theorem FV(c:wl d)(f:wl g):wl (jn d g):=by refine Pb (AR _)<|(vI _).nodup_iff.mpr<|List.nodup_append.mpr ⟨i8 _<|uq c,i8 _<|uq f,λa h b i e=>?_⟩;subst e;have j:=(List.mem_filter.mp h).1;have k:=(List.mem_filter.mp i).2;simp[j] at k
theorem Pe(e:wl c)(f:wl d):jn c d=xr c d:=CA (FV e f) (xE e) λk=>by rw[FU,yb<|uq f];by_cases a:k∈c<;>by_cases b:k∈d<;>simp[a,b]
theorem vi:∀{a:List k} {K:List g->S->Prop},(∀x∈a,∀K:Option g->S->Prop,K (f x) s->b x s K)->K (a.filterMap f) s->AX b a s K:=by
 intro i
 induction i with
 | nil=>intro _ _ h;exact h
 | cons x a c =>
  intro K d h;refine d x gc _<|c (λy j=>d y<|gg _ j) ?_
  have e:(x::a).filterMap f=(f x).toList++a.filterMap f:=by rw[jU];cases f x<;>rfl
  rw[e] at h;exact h
theorem filterMap_filter(p:b->Bool):∀a:List b,a.filterMap (λx=>if p x=true then some x else none)=a.filter p
 | []=>rfl
 | x::a=>by rw[jU,iO,filterMap_filter p a];cases p x<;>rfl
theorem uZ(I:List j->B->Prop):∀(a:List j) {s:B},I a s->(∀x r s,(∃p,a=p++x::r)->I (x::r) s->∀K:B->Prop,(∀c,I r c->K c)->b x s K k l)->(∀s,I [] s->m s)->FQ b a s m k l:=by
 intro d
 induction d with
 | nil=>intro s h _ f;exact f s h
 | cons x a g=>intro s h i f;exact i x a s ⟨[],rfl⟩ h _ λc n=>g n (λy r o d=>e1a1 d λp e q=>i y r o ⟨x::p,by rw[e];rfl⟩ q) f
theorem ve{n:Nat}(h:n<=1000):n<=gf:=kR<|My h
structure Bd(C:cr)(fl:Bool) where
 rk:List (Int×Int)
 bd:List (Int×List Int)
 up:Int
 ht:List (Int×Int)
 th:List (Int×Int)
def lk{a:Type}(l:List (Int×a))(k:Int):Option a:=(l.find? λe=>decide<|e.1=k).map (·.2)
def Ay(l:List (Int×Int)):List (Key×V):=l.map λe=>(gM e.1,V.int e.2)
def A1(R:Rg)(H:Hp):List (Int×List Int)->List (Key×V)->Prop:=Paired λe u=>u.1=gM e.1/\rp R H (Tp.mk e.2) u.2
def xF(a b c d:cr)(e:Int)(f:Bool):List (Str×V):=("ranks",.ref a)::("borders",.ref b)::("upcoming",.int e)::(if f=true then [("head_by_tail",.ref c),("tail_by_head",.ref d)] else [])
def adr(p dx d1 d2 d3 d4:cr)(fl:Bool):List cr:=p::dx::d1::d2::(if fl=true then [d3,d4] else [])
structure Du(C:cr)(fl:Bool)(R:Rg)(H:Hp)(x:Bd C fl)(p dx d1 d2 d3 d4:cr)(us:List (Key×V)):Prop where
 nd:(adr p dx d1 d2 d3 d4 fl).Nodup
 ob:H p=some (.ins C dx<|xF d1 d2 d3 d4 x.up fl)
 ow:H dx=some (.own p)
 rk:H d1=some (.dK<|Ay x.rk)
 bd:H d2=some (.dK us)
 tu:A1 R H x.bd us
 ht:fl=true->H d3=some (.dK<|Ay x.ht)
 th:fl=true->H d4=some (.dK<|Ay x.th)
theorem CB{R R':Rg}{H H':Hp}(e:Ext R R H R' H'):∀{l:List (Int×List Int)} {us:List (Key×V)},A1 R H l us->A1 R' H' l us:=by
 intro _ _ z
 induction z with
 | nil=>exact .nil
 | cons h t ih=>exact .cons ⟨h.1,Rep.st h.2 e⟩ ih
theorem Du.st{C:cr}{fl:Bool}{G R R':Rg}{H H':Hp}{x:Bd C fl}{p dx d1 d2 d3 d4:cr}{us:List (Key×V)}(b:Du C fl R H x p dx d1 d2 d3 d4 us)(e:Ext G R H R' H')(s:∀a,G a->R a)(n:∀a,a∈adr p dx d1 d2 d3 d4 fl->¬G a):Du C fl R' H' x p dx d1 d2 d3 d4 us :=
 ⟨b.nd,e.keep _ _ (n _<|by simp[adr]) b.ob,e.keep _ _ (n _<|by simp[adr]) b.ow,e.keep _ _ (n _<|by simp[adr]) b.rk,e.keep _ _ (n _<|by simp[adr]) b.bd,CB (e.wide s) b.tu,λh=>e.keep _ _ (n _<|by simp[adr,h])<|b.ht h,λh=>e.keep _ _ (n _<|by simp[adr,h])<|b.th h⟩
instance(C:cr)(fl:Bool):Ow (Bd C fl):=⟨λF R H x v=>∃p dx d1 d2 d3 d4 us,v=some (.ref p)/\(∀b,F b↔b∈adr p dx d1 d2 d3 d4 fl)/\Du C fl R H x p dx d1 d2 d3 d4 us,
 λh e s n=>by
  obtain⟨p,dx,d1,d2,d3,d4,us,h1,h2,h3⟩:=h
  exact⟨p,dx,d1,d2,d3,d4,us,h1,h2,h3.st e s λa z=>n a<|(h2 a).mpr z⟩,
 λh e=>by
  obtain⟨p,dx,d1,d2,d3,d4,us,h1,h2,h3⟩:=h
  exact⟨p,dx,d1,d2,d3,d4,us,h1,λb=>(e b).symm.trans (h2 b),h3⟩⟩
instance(C:cr)(fl:Bool):Hs (Bd C fl):=⟨λz9=>e7a2 z9 λ_ _ _ _ _ _ _ h _=>⟨_,h⟩⟩
theorem HQ{R L:Rg}{H:Hp}(k:∀a,L a->∃b,H a=some (.lst b)):∀{l:List (Int×List Int)} {b:List (Key×V)},A1 R H l b->A1 (λa=>R a\/L a) H l b
 | _,_,.nil=>.nil
 | _,_,.cons h t=>.cons ⟨h.1,Jx.no h.2 k⟩<|HQ k t
instance(C:cr)(fl:Bool):SE (Bd C fl):=⟨λ{F R L H x v} h k=>by
 obtain⟨p,dx,d1,d2,d3,d4,us,h1,h2,b⟩:=h
 exact⟨p,dx,d1,d2,d3,d4,us,h1,h2,b.nd,b.ob,b.ow,b.rk,b.bd,HQ k b.tu,b.ht,b.th⟩⟩
structure Aw(K:fZ)(C:cr):Prop where
 cl:zX K C
 nR:vc K C "ranks"
 nB:vc K C "borders"
 nU:vc K C "upcoming"
structure NC(K:fZ)(C:cr):Prop where
 nH:vc K C "head_by_tail"
 nT:vc K C "tail_by_head"
theorem xu(k:Int):∀l:List (Int×Int),xn (Ay l) (gM k)=(lk l k).map V.int
 | []=>rfl
 | e::l=>by
  by_cases h:e.1=k
  ·show xn ((gM e.1,V.int e.2)::Ay l) _=_;rw[yg<|by rw[h]];unfold lk;rw[h8,decide_eq_true h];rfl
  ·show xn ((gM e.1,V.int e.2)::Ay l) _=_;rw[yh (by intro z;exact h<|mJ z),xu k l];unfold lk;rw[h8,gI h]
theorem Dv{R:Rg}{H:Hp}{k:Int}:∀{l:List (Int×List Int)} {us:List (Key×V)},A1 R H l us->(∀b,lk l k=some b->∃v,xn us (gM k)=some v/\rp R H (Tp.mk b) v)/\(lk l k=none->xn us (gM k)=none):=by
 intro z0 z1 z9
 induction z9 with
 | nil=>exact⟨(λb h=>by cases h),λ_=>rfl⟩
 | @cons e u l us h t Wv =>
  obtain⟨i1,i2⟩:=Wv;by_cases q:e.1=k
  ·have e1:lk (e::l) k=some e.2:=by unfold lk;rw[h8,decide_eq_true q];rfl
   rw[e1];refine⟨λb hb=>?_,(λz=>by cases z)⟩;cases hb;exact⟨u.2,yg (by rw[h.1,q]),h.2⟩
  ·have e1:lk (e::l) k=lk l k:=by unfold lk;rw[h8,gI q]
   rw[e1,yh<|by rw[h.1];intro z;exact q<|mJ z];exact⟨i1,i2⟩
def pk{a:Type}(l:List (Int×a))(k:Int)(v:a):List (Int×a):=if (lk l k).isSome then l.map (λe=>if e.1=k then (e.1,v) else e) else l++[(k,v)]
def dk{a:Type}(l:List (Int×a))(k:Int):List (Int×a):=l.filter λe=>decide<|e.1≠k
theorem SY(l:List (Int×Int))(k v:Int):putK (Ay l) (gM k) (V.int v)=Ay (pk l k v):=by
 unfold putK pk;rw[ze,xu,hV]
 cases (lk l k).isSome with
 | true =>
  rw[f7 rfl,f7 rfl];unfold Ay;rw[jP,jP];refine mw λe _=>?_;show (if (gM e.1:Key)=gM k then _ else _)=(λe:Int×Int=>((gM e.1:Key),V.int e.2)) (if e.1=k then (e.1,v) else e);by_cases h:e.1=k
  ·rw[f7 (by rw[h]),f7 h]
  ·rw[f8<|λz=>h<|mJ z,f8 h]
 | false =>
  rw[f8 gr,f8 gr];unfold Ay;rw[jw];rfl
theorem HR(l:List (Int×Int))(k:Int):zd (Ay l) (gM k)=Ay (dk l k):=by
 unfold zd dk Ay;rw[qq];congr 1;refine ng λe _=>?_;by_cases h:e.1=k
 ·simp[h]
 ·simp[h]
theorem HS{R:Rg}{H:Hp}{k:Int}{b:List Int}{v:V}(h:rp R H (Tp.mk b) v):∀{l:List (Int×List Int)} {us:List (Key×V)},A1 R H l us->A1 R H (l++[(k,b)]) (us++[(gM k,v)])
 | _,_,.nil=>.cons ⟨rfl,h⟩ .nil
 | _,_,.cons q t=>.cons q<|HS h t
theorem Pf{R:Rg}{H:Hp}{l:List (Int×List Int)}{us:List (Key×V)}{k:Int}{b:List Int}{v:V}(t:A1 R H l us)(hn:lk l k=none)(h:rp R H (Tp.mk b) v):A1 R H (pk l k b) (putK us (gM k) v):=by unfold pk;rw[hn,Oa _<|(Dv t).2 hn];exact HS h t
theorem MR{R:Rg}{H:Hp}{k:Int}:∀{l:List (Int×List Int)} {us:List (Key×V)},A1 R H l us->A1 R H (dk l k) (zd us<|gM k):=by
 intro z0 z1 z9
 induction z9 with
 | nil=>exact .nil
 | @cons e u l us h t Wv =>
  have ih:=Wv;unfold dk zd at ih ⊢;rw[iO,iO];by_cases q:e.1=k
  ·rw[f8 (by simpa using q),f8<|by rw[h.1];simpa using q];exact ih
  ·rw[f7 (by simpa using q),f7<|by rw[h.1];simpa using q];exact .cons h ih
inductive ID where
 | rk|ht|th
abbrev ID.nm:ID->Str
 | .rk=>"ranks" | .ht=>"head_by_tail" | .th=>"tail_by_head"
abbrev ID.get{C:cr}{a:Bool}:ID->Bd C a->List (Int×Int)
 | .rk,x=>x.rk|.ht,x=>x.ht|.th,x=>x.th
abbrev ID.set{C:cr}{a:Bool}:ID->Bd C a->List (Int×Int)->Bd C a
 | .rk,x,l=>{ x with rk:=l}|.ht,x,l=>{ x with ht:=l}|.th,x,l=>{ x with th:=l}
def ID.ok:ID->Bool->Prop
 | .rk,_=>True|.ht,fl=>fl=true|.th,fl=>fl=true
theorem nd4(h:(a::b::c::d::r).Nodup):(a≠b/\a≠c/\a≠d/\∀x∈r,a≠x)/\(b≠c/\b≠d/\∀x∈r,b≠x)/\(c≠d/\∀x∈r,c≠x)/\(∀x∈r,d≠x)/\r.Nodup:=by have g:=List.nodup_cons.mp h;have i:=List.nodup_cons.mp g.2;have j:=List.nodup_cons.mp i.2;have k:=List.nodup_cons.mp j.2;simp only[gL,oW] at g i j;exact⟨⟨g.1.1,g.1.2.1,g.1.2.2.1,λx f e=>g.1.2.2.2<|by rw[e];exact f⟩,⟨i.1.1,i.1.2.1,λx f e=>i.1.2.2<|by rw[e];exact f⟩,⟨j.1.1,λx f e=>j.1.2<|by rw[e];exact f⟩,λx f e=>k.1 (by rw[e];exact f),k.2⟩
theorem zo(b:Du C k R H x p s l m g i t)(q:ID)(u:q.ok k):∃d,(xF l m g i x.up k).lookup q.nm=some (.ref d)/\H d=some (.dK<|Ay<|q.get x)/\d∈adr p s l m g i k /\
  ∀j,R d->Du C k R (upd H d<|.dK<|Ay j) (q.set x j) p s l m g i t:=by
 have f:=nd4 b.nd;have n:∀d j,R d->A1 R (upd H d<|.dK<|Ay j) x.bd t:=λd j h=>CB ((yH (F:=R) (R:=R) (H:=H) (a:=d) (o:=.dK<|Ay j)).wide λc z=>by rw[z];exact h) b.tu
 cases q with
 | rk =>
  refine⟨l,rfl,b.rk,by simp[adr],λj h=>⟨b.nd,by rw[ud f.1.2.1];exact b.ob,by rw[ud f.2.1.1];exact b.ow,uh,by rw[ud f.2.2.1.1.symm];exact b.bd,n _ _ h,λz=>?_,λz=>?_⟩⟩
  ·rw[ud (f.2.2.1.2 g<|by rw[f7 z];simp).symm];exact b.ht z
  ·rw[ud (f.2.2.1.2 i<|by rw[f7 z];simp).symm];exact b.th z
 | ht =>
  have z:k=true:=u;subst z;have r:=List.nodup_cons.mp f.2.2.2.2;refine⟨g,rfl,b.ht rfl,by simp[adr],λj h=>⟨b.nd,by rw[ud<|f.1.2.2.2 g q0o];exact b.ob,by rw[ud<|f.2.1.2.2 g q0o];exact b.ow,by rw[ud<|f.2.2.1.2 g q0o];exact b.rk,by rw[ud<|f.2.2.2.1 g q0o];exact b.bd,n _ _ h,λ_=>uh,λ_=>?_⟩⟩;rw[ud<|λe=>r.1<|by rw[<- e];simp];exact b.th rfl
 | th =>
  have z:k=true:=u;subst z;have r:=List.nodup_cons.mp f.2.2.2.2;refine⟨i,rfl,b.th rfl,by simp[adr],λj h=>⟨b.nd,by rw[ud<|f.1.2.2.2 i q0o];exact b.ob,by rw[ud<|f.2.1.2.2 i q0o];exact b.ow,by rw[ud<|f.2.2.1.2 i q0o];exact b.rk,by rw[ud<|f.2.2.2.1 i q0o];exact b.bd,n _ _ h,λ_=>?_,λ_=>uh⟩⟩;rw[ud<|λe=>r.1<|by rw[e];simp];exact b.ht rfl
section
variable{D PO τ:Type}[Sls D][Sls PO][Ow τ]
theorem vG{i:Nat}[Sls J][A:At i D (Bd C r) J](s:vm T F R H d L):∃p f g j l m B,L[i]?=some (some<|.ref p)/\Du C r R H (A.get d) p f g j l m B/\(∀a∈adr p f g j l m r,R a) /\
  ∀{U:Pt i J (Bd C r) D} {a:cr} {o:HO} {E:Bd C r} {w:List (Key×V)},a∈adr p f g j l m r->Du C r R (upd H a o) E p f g j l m w->Ch T F R H F R (upd H a o)/\vm T F R (upd H a o) (U.put (A.hole d) E) L:=by
 obtain⟨v,X,Y,M,G,⟨p,f,g,j,l,m,B,rfl,I,N⟩,O⟩:=A.take s.rel;have x:∀a∈adr p f g j l m r,F a:=λa h=>(G.all a).mpr<|.inl<|(I a).mpr h;refine⟨p,f,g,j,l,m,B,M,N,λa h=>s.sub a<|x a h,λ{U a o E w} y P=>?_⟩;have Q:=yH (F:=F) (R:=R) (H:=H) (a:=a) (o:=o);have S:∀c,c=a->R c:=λc z=>by rw[z];exact s.sub a<|x a y
 have k:∀b u,b≠a->H b=some u->upd H a o b=some u:=λb u z e=>by rw[ud z];exact e
 refine⟨⟨λb o n _ e=>k b o (λz=>n<|by rw[z];exact x a y) e,λ_ h=>.inl h,λ_ h=>.inl h,λ_ h _=>h⟩,Pt.same (A:=U) (Sls.st O Q S λc z q=>G.xj c ((I c).mpr<|by rw[q];exact y) z) M G ⟨p,f,g,j,l,m,w,rfl,I,P⟩,s.sub,λc z=>?_,?_,s.uW,s.uM⟩
 ·by_cases e:c=a
  ·rw[e,uh];simp
  ·rw[ud e];exact s.wu c z
 ·refine e1a2 s.tab λW e t=>?_;exact⟨W,k _ _ (λz=>s.uM<|by rw[z];exact x a y) e,t⟩
theorem Pg(q:ID)(b:Bool)(i:Nat)[Sls U][A:At i D (Bd C W) U](Y:q.ok W)(Z:zX X.K C)(nf:vc X.K C q.nm)(G:X.A.units+1<jQ)(hk:EW X E T a wk)(I:PE X (.Name x l) (uN i))(J:gY (.Name x l) q.nm X.env (eval (.Name x l) X.env)=eval (.Name x l) X.env:=by rfl)
 (L:iq (if b then .NotIn else .In) (.Attribute (.Name x l) q.nm p2)=false:=by with_unfolding_all rfl):EW X E T (.Compare a [if b then .NotIn else .In] [.Attribute (.Name x l) q.nm p2] pos) (λ(d:D)(r:Bool->D->Prop) m=>wk d (λk c=>r (if b then !(lk (q.get<|A.get c) k).isSome else (lk (q.get<|A.get c) k).isSome) c) m):=by
  refine e1a2 hk λta M N=>?_
  have O:∀{c:D} {h j:Rg} {e:Hp} {f:St} {k:Int} {Q:VK},vm T h j e c f->Q (.bl<|if b then !(lk (q.get<|A.get c) k).isSome else (lk (q.get<|A.get c) k).isSome) e->VG X.K (uN i) q.nm f e λy P=>∃a o,y=.ref a/\w9 P a (.int k) o/\Q (.bl<|if b then !o.isSome else o.isSome) P:=λ{c h j e f k Q} g n=>by
    obtain⟨p,dx,e1,e2,e3,e4,us,g1,S,_,_⟩:=vG (i:=i) g
    refine e1a4 (zo S q Y) λd l1 l2 _ _=>?_
    refine⟨_,g1,p,C,dx,_,_,rfl,S.ob,Z,nf,l1,d,_,rfl,w9.k (k:=gM k) l2,?_⟩
    rw[xu,hV]
    exact n
  cases b with
  | false=>exact⟨_,NF (Od G M (v4 I J)) L,λd F R f H r m Q s t n v=>N d F R f H _ m _ s t (λk c u h j e w z g B=>by
      subst B
      exact O g (n _ c _ h j e w z g rfl)) v⟩
  | true=>exact⟨_,NF (Bq G M (v4 I J)) L,λd F R f H r m Q s t n v=>N d F R f H _ m _ s t (λk c u h j e w z g B=>by
      subst B
      exact O g (n _ c _ h j e w z g rfl)) v⟩
theorem tw_dIn(q:ID)(b:Bool)(i:Nat)[Sls W][A:At i D (Bd C Y) W](Z:q.ok Y)(cl:zX X.K C)(nf:vc X.K C q.nm)(I:X.A.units+1<jQ)(hk:EW X E T a wk)(J:PE X (.Name x m) (uN i))(L:gY (.Name x m) q.nm X.env (eval (.Name x m) X.env)=eval (.Name x m) X.env:=by rfl)
 (M:iq (if b then .NotIn else .In) (.Attribute (.Name x m) q.nm p2)=false:=by with_unfolding_all rfl):TW X E T (.Compare a [if b then .NotIn else .In] [.Attribute (.Name x m) q.nm p2] pos) (λ(d:D)(t:Bool->D->Prop) n=>wk d (λk e=>t (if b then !(lk (q.get<|A.get e) k).isSome else (lk (q.get<|A.get e) k).isSome) e) n):=by
  refine e1a2 hk λta N O=>?_
  have P:∀{e:D} {j l:Rg} {f:Hp} {g:St} {k:Int} {Q:VK},vm T j l f e g->Q (.bl<|if b then !(lk (q.get<|A.get e) k).isSome else (lk (q.get<|A.get e) k).isSome) f->VG X.K (uN i) q.nm g f λy S=>∃a o,y=.ref a/\w9 S a (.int k) o/\Q (.bl<|if b then !o.isSome else o.isSome) S:=λ{e j l f g k Q} h r=>by
    obtain⟨p,dx,e1,e2,e3,e4,us,g1,U,_,_⟩:=vG (i:=i) h
    refine e1a4 (zo U q Z) λd l1 l2 _ _=>?_
    refine⟨_,g1,p,C,dx,_,_,rfl,U.ob,cl,nf,l1,d,_,rfl,w9.k (k:=gM k) l2,?_⟩
    rw[xu,hV]
    exact r
  cases b with
  | false=>exact⟨_,IK (Od I N (v4 J L)) M,λd F R g H t n Q s v r w=>O d F R g H _ n _ s v (λk e u j l f z B h G=>by
      subst G
      exact P (Q:=λy H=>∃c,y=.bl c/\Q c H) h ⟨_,rfl,r _ e j l f z B h⟩) w⟩
  | true=>exact⟨_,IK (Bq I N (v4 J L)) M,λd F R g H t n Q s v r w=>O d F R g H _ n _ s v (λk e u j l f z B h G=>by
      subst G
      exact P (Q:=λy H=>∃c,y=.bl c/\Q c H) h ⟨_,rfl,r _ e j l f z B h⟩) w⟩
def EV(X:Cx)(T:cr)(e:hO){D α:Type}[Sls D][Rep α](f:D->α):Prop :=
 ∃t,PE X e t/\∀(d:D)(F R:Rg)(σ:St)(H:Hp)(Q:VK),vm T F R H d σ->(∀v,rp R H (f d) v->Q v H)->t σ H Q
theorem vy[Rep a][Sls b](i:Nat)[A:At i D a b](c:PE X (.Name y pos) (uN i)):EV X T (.Name y pos) (λ(d:D)=>A.get d):=by refine⟨_,c,λd F R h H Q s e=>?_⟩;obtain⟨v,j,k,f,l,⟨_,u,rfl,g⟩,_⟩:=A.take s.rel;exact⟨u,f,e u g⟩
theorem Ph{m:Int}{k:Nat}:EV X T (.Constant (.int m) k pos) (λ(_:D)=>m):=⟨_,uE,λd F R b H Q s a=>a _ rfl⟩
theorem FW(q:ID)(i:Nat)[Sls h][A:At i D (Bd C j) h](l:q.ok j)(m:zX X.K C)(n:vc X.K C q.nm)(o:X.A.units+1<jQ)(t:PE X (.Name x b) (uN i))(u:EV X T a f)(w:gY (.Name x b) q.nm X.env (eval (.Name x b) X.env)=eval (.Name x b) X.env:=by rfl)(B:Ob a:=by intro _ _;rfl) :
  EW X E T (.Subscript (.Attribute (.Name x b) q.nm Y) a pos) (λ(d:D)(c:Int->D->Prop) _=>∃v,lk (q.get<|A.get d) (f d)=some v/\c v d):=by
 refine e1a2 u λZ G I=>?_;refine⟨_,Fq o (v4 t w) G B,λd F R J H c Ke Q s L M ke=>?_⟩;obtain⟨p,N,e1,e2,e3,e4,us,O,e,_,_⟩:=vG (i:=i) s;refine e1a4 (zo e q l) λy P S _ _=>?_;refine⟨_,O,p,C,N,_,_,rfl,e.ob,m,n,P,I d F R J H _ s λv r=>?_⟩;subst r;refine e1a2 L λz U W=>?_;have g:=w9.k (k:=gM<|f d) S;rw[xu,U] at g;exact⟨y,_,rfl,g,M z d _ F R H W (Ch.refl _ _ _ _) s rfl⟩
theorem zS(i:Nat)[Sls h][A:At i D (Bd C U) h](j:zX X.K C)(l:vc X.K C "borders")(m:X.A.units+1<jQ)(n:PE X (.Name x b) (uN i))(o:EV X T a f)(q:gY (.Name x b) "borders" X.env (eval (.Name x b) X.env)=eval (.Name x b) X.env:=by rfl)(t:Ob a:=by intro _ _;rfl) :
  EW X E T (.Subscript (.Attribute (.Name x b) "borders" W) a pos) (λ(d:D)(e:Tp Int->D->Prop) _=>∃v,lk (A.get d).bd (f d)=some v/\e ⟨v⟩ d):=by
 refine e1a2 o λY u y=>?_;refine⟨_,Fq m (v4 n q) u t,λd F R B H e Z Q s G I ke=>?_⟩;obtain⟨p,J,e1,L,e3,e4,us,M,c,_,_⟩:=vG (i:=i) s;refine⟨_,M,p,C,J,_,_,rfl,c.ob,j,l,rfl,y d F R B H _ s λv r=>?_⟩;subst r;refine e1a2 G λz N O=>?_;refine e1a2 ((Dv c.tu).1 z N) λw P S=>?_;have g:=w9.k (k:=gM<|f d) c.bd;rw[P] at g;exact⟨L,w,rfl,g,I ⟨z⟩ d _ F R H O (Ch.refl _ _ _ _) s S⟩
theorem S6(q:ID)(i:Nat)[Sls g][A:At i D (Bd C h) g](j:q.ok h)(k:zX X.K C)(l:vc X.K C q.nm)(m:Gl X "len")(n:X.mg "len"=none)(o:PE X (.Name x a) (uN i))(r:gY (.Name x a) q.nm X.env (eval (.Name x a) X.env)=eval (.Name x a) X.env:=by rfl)
 (b:f9 [.Attribute (.Name x a) q.nm c] X.env=(false,eval (.Attribute (.Name x a) q.nm c) X.env)::f9 [] X.env:=by rfl) :
    EW X E T (.Call (.Name "len" G) [.Attribute (.Name x a) q.nm c] [] pos) (λ(d:D)(e:Int->D->Prop) _=>e ((q.get<|A.get d).length:Int) d):=by
  refine⟨_,v6 Mz m n mI (ul (v4 o r) uB b) (he:=b),λd F R I H e J Q s t u L=>?_⟩
  obtain⟨p,v,M,N,O,P,S,w,f,_,_⟩:=vG (i:=i) s
  refine e1a4 (zo f q j) λy z B _ _=>?_
  refine⟨_,w,p,C,v,_,_,rfl,f.ob,k,l,z,y,_,rfl,B,u _ d _ F R H t (Ch.refl _ _ _ _) s ?_⟩
  show V.int _=V.int _
  unfold Ay
  rw[gh]
theorem Dw(q:ID)(i:Nat)[Sls h][A:At i D (Bd C j) h](k:q.ok j)(m:zX X.K C)(n:vc X.K C q.nm)(o:X.calm=true)(r:Gl X "sorted")(t:X.mg "sorted"=none)(u:PE X (.Name x a) (uN i))(v:gY (.Name x a) q.nm X.env (eval (.Name x a) X.env)=eval (.Name x a) X.env:=by rfl)
 (b:f9 [.Attribute (.Name x a) q.nm c] X.env=(false,eval (.Attribute (.Name x a) q.nm c) X.env)::f9 [] X.env:=by rfl) :
    EO X E T (.Call (.Name "sorted" U) [.Attribute (.Name x a) q.nm c] [] pos) (λ(d:D)(e:OL Int->D->Prop) _=>(q.get<|A.get d).length<64/\e ⟨Av ((q.get<|A.get d).map (·.1))⟩ d):=by
  refine⟨_,v6 (FG o) r t jF (ul (v4 u v) uB b) (he:=b),λd F R W H e Y Q s f w Z=>?_⟩
  obtain⟨p,z,e1,e2,e3,e4,us,B,g,_,_⟩:=vG (i:=i) s
  refine e1a4 (zo g q k) λy G I _ _=>?_
  refine⟨_,B,p,C,z,_,_,rfl,g.ob,m,n,G,y,_,(q.get<|A.get d).map (·.1),rfl,I,?_,by rw[gh];exact f.1,λl ns J L M=>?_⟩
  · unfold Ay
    rw[jP,jP]
    rfl
  · rw[Dh L M]
    refine e1a3 (wG s J (wY (R:=R) (H:=H) (Av ((q.get<|A.get d).map (·.1))))) λN O P S=>?_
    exact w _ d _ _ F N _ f.2 O P S
theorem YE(i:Nat)[Sls c][A:At i D (Bd C o) c](e:zX X.K C)(f:vc X.K C "upcoming")(g:PE X (.Name x a) (uN i))(h:gY (.Name x a) "upcoming" X.env (eval (.Name x a) X.env)=eval (.Name x a) X.env:=by rfl) :
  EW X E T (.Attribute (.Name x a) "upcoming" pos) (λ(d:D)(b:Int->D->Prop) _=>b (A.get d).up d):=by
 refine⟨_,v4 g h,λd F R q H b r Q s j k t=>?_⟩;obtain⟨p,l,u,v,w,y,z,m,n,_,_⟩:=vG (i:=i) s;exact⟨_,m,p,C,l,_,_,rfl,n.ob,e,f,rfl,k _ d _ F R H j (Ch.refl _ _ _ _) s rfl⟩
theorem FX(q:ID)(i:Nat)[Sls o][A:At i D (Bd C t) o][U:Pt i o (Bd C t) D][J:Pj D PO n](P:q.ok t)(Q:zX X.K C)(S:vc X.K C q.nm)(W:X.A.units+1<jQ)(Y:PE X (.Name x g) (uN i))(Z:EV X T a f)(he:EW X E T e we)(hb:gY (.Name x g) q.nm X.env (eval (.Name x g) X.env)=eval (.Name x g) X.env:=by rfl)
 (hs:jp e (some<|.Subscript (.Attribute (.Name x g) q.nm p2) a p3) pos.line X.env=pure false:=by rfl) :
    S1 X E T ms n (.Assign [.Subscript (.Attribute (.Name x g) q.nm p2) a p3] e pos) (λ(d:D)(z:D->Prop)(Kr:τ->PO->Prop) B=>we d (λv b=>(q.get<|A.get b).length<gf/\z (U.put (A.hole b)<|q.set (A.get b)<|pk (q.get<|A.get b) (f b) v)) λC I=>B C<|J.pj I):=by
  refine e1a2 Z λta a1 a2=>?_
  refine e1a2 he λte b1 b2=>?_
  refine⟨_,Ft W (v4 Y hb) a1 b1 hs,λd F R j H z Kr B En s hw kn kr ke=>b2 d F R j H _ _ _ s hw (λv b u L M H1 N c1 l r1=>?_) λC y I F' R' H' q c s'=>?_⟩
  · obtain⟨p, dx, e1, e2, e3, e4, us, m, h, g3, g4⟩ := vG (i := i) l
    refine e1a4 (zo h q P) λy l1 l2 O l4=>?_
    subst r1
    refine⟨_,m,p,C,dx,_,_,rfl,h.ob,Q,S,l1,a2 b L M j H1 _ l λw r=>?_⟩
    subst r
    obtain⟨c2,s2⟩:=g4 (U:=U) O<|l4 (pk (q.get<|A.get b) (f b) v)<|g3 y O
    refine⟨y,_,rfl,Fp.k (k:=gM<|f b) l2 (by unfold Ay;rw[gh];exact N.1),?_⟩
    rw[SY]
    exact kn _ L M _ j N.2 (Ch.trans s l.tab c1 c2) s2<|Ag.refl _ _
  · refine e1a2 (vM (PO := PO) s') λG m h => ?_
    exact ke C y _ G R' H' q (c.less m) h
theorem Dx(b:Du C i R H y p j k f g h n)(m:R f)(t:A1 R H l d):Du C i R (upd H f<|.dK d) { y with bd:=l} p j k f g h d:=by have e:=nd4 b.nd;exact⟨b.nd,by rw[ud e.1.2.2.1];exact b.ob,by rw[ud e.2.1.2.1];exact b.ow,by rw[ud e.2.2.1.1];exact b.rk,uh,CB ((yH (F:=R) (R:=R) (H:=H) (a:=f) (o:=.dK d)).wide λc z=>by rw[z];exact m) t,λz=>by rw[ud (e.2.2.2.1 g<|by rw[f7 z];simp).symm];exact b.ht z,λz=>by rw[ud (e.2.2.2.1 h<|by rw[f7 z];simp).symm];exact b.th z⟩
theorem S7(i:Nat){o:Type}[Sls o][A:At i D (Bd C L) o][U:Pt i o (Bd C L) D][J:Pj D PO n]{f:D->Int}{M:Wf D (Tp Int) D}(Z:zX X.K C)(nf:vc X.K C "borders")(hu:X.A.units+1<jQ)(hn:PE X (.Name x j) (uN i))(hk:EV X T a f)(he:EW X E T e M)(hb:gY (.Name x j) "borders" X.env (eval (.Name x j) X.env)=eval (.Name x j) X.env:=by rfl)
 (hs:jp e (some<|.Subscript (.Attribute (.Name x j) "borders" p2) a p3) pos.line X.env=pure false:=by rfl) :
    S1 X E T ms n (.Assign [.Subscript (.Attribute (.Name x j) "borders" p2) a p3] e pos) (λ(d:D)(N:D->Prop)(Kr:τ->PO->Prop) O=>M d (λv g=>(A.get g).bd.length<gf/\lk (A.get g).bd (f g)=none/\N (U.put (A.hole g) { A.get g with bd:=pk (A.get g).bd (f g) v.l})) λC P=>O C<|J.pj P):=by
  refine e1a2 hk λta a1 a2=>?_
  refine e1a2 he λte b1 b2=>?_
  refine⟨_,Ft hu (v4 hn hb) a1 b1 hs,λd F R t H N Kr O En s hw kn kr ke=>b2 d F R t H _ _ _ s hw (λv g u Q S H1 z c1 B r1=>?_) λC y P F' R' H' q c s'=>?_⟩
  · obtain⟨p, W, e1, m, e3, e4, us, I, h, g3, g4⟩ := vG (i := i) B
    have Y:m∈adr p W e1 m e3 e4 L:=by simp[adr]
    refine⟨_,I,p,C,W,_,_,rfl,h.ob,Z,nf,rfl,a2 g Q S t H1 _ B λw r=>?_⟩
    subst r
    obtain⟨c2,s2⟩:=g4 (U:=U) Y<|Dx h (g3 m Y)<|Pf (b:=v.l) h.tu z.2.1 r1
    exact⟨m,_,rfl,Fp.k (k:=gM<|f g) h.bd (by rw[<- Paired.length h.tu];exact z.1),kn _ Q S _ t z.2.2 (Ch.trans s B.tab c1 c2) s2<|Ag.refl _ _⟩
  · refine e1a2 (vM (PO := PO) s') λG I h => ?_
    exact ke C y _ G R' H' q (c.less I) h
theorem YF(i:Nat)[Sls w][A:At i D (Bd C f) w][U:Pt i w (Bd C f) D][J:Pj D PO n](S:zX X.K C)(W:vc X.K C "upcoming")(Y:PE X (.Name x B) (uN i))(Z:EW X E T e we)(hs:jp e (some<|.Attribute (.Name x B) "upcoming" p2) pos.line X.env=pure false:=by rfl) :
  S1 X E T ms n (.Assign [.Attribute (.Name x B) "upcoming" p2] e pos) (λ(d:D)(I:D->Prop)(Kr:τ->PO->Prop) L=>we d (λv j=>I<|U.put (A.hole j) { A.get j with up:=v}) λC M=>L C<|J.pj M):=by
 refine e1a2 Z λte b1 b2=>?_;refine⟨_,Bp Y b1 hs,λd F R N H I Kr L En s hw kn kr ke=>b2 d F R N H _ _ _ s hw (λv j u F1 o O q1 c1 P r1=>?_) λC y M F' R' H' q c s'=>?_⟩
 ·obtain⟨p,r,k,l,g,h,us,t,b,g3,g4⟩:=vG (i:=i) P;subst r1;have Q:p∈adr p r k l g h f:=by simp[adr]
  have m:=nd4 b.nd;have eq:y9 "upcoming" (V.int v) (xF k l g h (A.get j).up f)=xF k l g h v f:=rfl;have nb:Du C f o (upd O p<|.ins C r<|xF k l g h v f) { A.get j with up:=v} p r k l g h us:=⟨b.nd,uh,by rw[ud m.1.1.symm];exact b.ow,by rw[ud m.1.2.1.symm];exact b.rk,by rw[ud m.1.2.2.1.symm];exact b.bd,CB ((yH (F:=o) (R:=o) (H:=O) (a:=p)).wide λc z=>by rw[z];exact g3 p Q) b.tu,λz=>by rw[ud (m.1.2.2.2 g<|by rw[f7 z];simp).symm];exact b.ht z,λz=>by rw[ud (m.1.2.2.2 h<|by rw[f7 z];simp).symm];exact b.th z⟩;obtain⟨c2,s2⟩:=g4 (U:=U) Q nb;refine⟨_,t,p,C,r,_,rfl,b.ob,S,W,?_,?_⟩
  ·unfold xF;split<;>(simp only[gG,mn];decide)
  ·rw[eq];exact kn _ F1 o _ N q1 (Ch.trans s P.tab c1 c2) s2<|Ag.refl _ _
 ·refine e1a2 (vM (PO:=PO) s') λG t b=>?_;exact ke C y _ G R' H' q (c.less t) b
theorem Lr(q:ID)(i:Nat)[Sls c][A:At i D (Bd C e) c][U:Pt i c (Bd C e) D][J:Pj D PO n](u:q.ok e)(v:zX X.K C)(z:vc X.K C q.nm)(B:PE X (.Name x b) (uN i))(G:EV X T a f)(I:∀{g h:TE},PE X (.Attribute (.Name x b) q.nm j) g->PE X a h->PS X (.Delete [.Subscript (.Attribute (.Name x b) q.nm j) a L] pos) (Oc g h))(M:gY (.Name x b) q.nm X.env (eval (.Name x b) X.env)=eval (.Name x b) X.env:=by rfl) :
  S1 X E T ms n (.Delete [.Subscript (.Attribute (.Name x b) q.nm j) a L] pos) (λ(d:D)(k:D->Prop)(N:τ->PO->Prop)(O:cr->PO->Prop)=>(lk (q.get<|A.get d)<|f d).isSome=true/\k (U.put (A.hole d)<|q.set (A.get d)<|dk (q.get<|A.get d)<|f d)):=by
 refine e1a2 G λta P Q=>?_;refine⟨_,I (v4 B M) P,λd F R l H k N O En s m S kr ke=>?_⟩;obtain⟨p,W,e1,e2,e3,e4,us,Y,o,Z,g4⟩:=vG (i:=i) s;refine e1a4 (zo o q u) λy l1 l2 t l4=>?_;refine⟨_,Y,p,C,W,_,_,rfl,o.ob,v,z,l1,Q d F R l H _ s λw r=>?_⟩;subst r;obtain⟨c2,s2⟩:=g4 (U:=U) t<|l4 (dk (q.get<|A.get d)<|f d)<|Z y t;refine⟨y,_,gM<|f d,rfl,l2,rfl,by rw[xu,hV];exact m.1,?_⟩;rw[HR];exact S _ F R _ l m.2 c2 s2<|Ag.refl _ _
theorem S8(i:Nat)[Sls h][A:At i D (Bd C j) h][U:Pt i h (Bd C j) D][J:Pj D PO n](I:zX X.K C)(L:vc X.K C "borders")(M:PE X (.Name x c) (uN i))(N:EV X T a f)(O:∀{l m:TE},PE X (.Attribute (.Name x c) "borders" o) l->PE X a m->PS X (.Delete [.Subscript (.Attribute (.Name x c) "borders" o) a P] pos) (Oc l m))(Q:gY (.Name x c) "borders" X.env (eval (.Name x c) X.env)=eval (.Name x c) X.env:=by rfl) :
  S1 X E T ms n (.Delete [.Subscript (.Attribute (.Name x c) "borders" o) a P] pos) (λ(d:D)(q:D->Prop)(S:τ->PO->Prop)(W:cr->PO->Prop)=>(lk (A.get d).bd<|f d).isSome=true/\q (U.put (A.hole d) { A.get d with bd:=dk (A.get d).bd (f d)})):=by
 refine e1a2 N λta Y Z=>?_;refine⟨_,O (v4 M Q) Y,λd F R t H q S W En s u kn kr ke=>?_⟩;obtain⟨p,y,e1,g,e3,e4,us,g1,e,g3,g4⟩:=vG (i:=i) s;have B:g∈adr p y e1 g e3 e4 j:=by simp[adr]
 refine⟨_,g1,p,C,y,_,_,rfl,e.ob,I,L,rfl,Z d F R t H _ s λw r=>?_⟩;subst r;obtain⟨c2,s2⟩:=g4 (U:=U) B<|Dx e (g3 g B)<|MR (k:=f d) e.tu;refine⟨g,us,gM<|f d,rfl,e.bd,rfl,?_,kn _ F R _ t u.2 c2 s2<|Ag.refl _ _⟩
 cases z:lk (A.get d).bd (f d) with
 | none =>
  have G:=u.1;rw[z] at G;cases G
 | some b =>
  refine e1a2 ((Dv e.tu).1 b z) λv v1 _=>?_;rw[v1];rfl
end
section
variable{D PO τ:Type}[Sls D][Sls PO][Ow τ]{α:Type}[Rep α]
theorem HU(i:Nat){D1 P O B B1 S:Type}[Sls D1][Sls P][Sls O][Sls B][Sls B1][Sls S][Lb S τ<|Bd C J×O]{I:B->S->O->D}{wr:D->(P->B->S->Prop)->(cr->D->Prop)->Prop}
 {wf:Wf (Bd C J×P) τ (Bd C J×O)} [A0:At i D (Bd C J) D1] [A:At i B (Bd C J) B1] [U:Pt i B1 (Bd C J) B] (hl:∀a b c d u,(xF a b c d u J).lookup m=none)
 (b2:∀(d:D)(F R:Rg)(k:St)(H:Hp)(W:P->B->S->Prop)(M:cr->D->Prop)(Q:List V->Hp->Prop),vm T F R H d k->wr d W M ->
 (∀p b l vs us F1 X L w j e,W p b l->Ch T F R H w j e->Std T w j e->Dk w F1 X L->rel F1 (Wo j L) e p (vs.map some)->rel X j e b k->rel L j e l us ->
 (∀b' l' G1 G2 G3 o f h G,rel G1 f h G (vs.map some)->rel G2 f h b' k->rel G3 f h l' us->Dk o G1 G2 G3->rel o f h (I b' l' G) k)->Q vs e) ->
 (∀C y r w j e,M C r->Ch T F R H w j e->vm T w j e r k->E (.ref C) (some y) e)->tr k H Q)
 (d:D) (F R:Rg) (k:St) (H:Hp) (W:τ->D->Prop) (M:cr->D->Prop) (Q:VK) (s:vm T F R H d k) (hw:wr d (λp b l=>wf (A.get b,p) (λy G=>W y<|I (U.put (A.hole b) G.1) l G.2)<|λC G=>M C<|I (U.put (A.hole b) G.1) l G.2) M)
 (kn:∀x r v F1 X j e,W x r->Ch T F R H (λa=>F1 a\/X a) j e->vm T X j e r k->Nw T F1 X j e x v->Q v e)
 (ke:∀C y r w j e,M C r->Ch T F R H w j e->vm T w j e r k->E (.ref C) (some y) e):EB C m (xN T wf) [] E (uN i) tr k H Q:=by
  obtain⟨v,_,_,hv,_,⟨a,dx,d1,d2,d3,d4,aa,rfl,_,g⟩,_⟩:=A0.take s.rel
  refine⟨_,hv,a,dx,_,rfl,g.ob,hl _ _ _ _ _,b2 d F R k H _ M _ s hw (λp b l vs us G1 G2 L w j e q2 c2 s2 Y h1 h2 h3 km=>?_) ke⟩
  rw[jN]
  refine e3a4 (A.take h2) λv' M1 M2 z1 z2 z3 z4=>?_
  rw[hv] at z1
  cases z1
  have m1:∀a,M1 a->G2 a:=λa m=>(z2.all a).mpr<|.inl m
  have m2:∀a,M2 a->G2 a:=λa m=>(z2.all a).mpr<|.inr m
  refine Dl (F:=w) (F1:=λa=>M1 a\/G1 a) (F2:=M2) (L:=L) (mrg:=λ(b:B1)(l:S)(p:Bd C J×O)=>I (U.put b p.1) l p.2) (wf:=wf) (p:=(A.get b,p)) (b:=A.hole b) (l:=l) (us:=us) (σ:=k) (Kn:=W) (Ke:=M) s2 ⟨λa=>?_,λa m n=>?_,λa m n=>?_,λa m n=>Y.IG a (m2 a m) n⟩ ⟨some<|.ref a,vs.map some,M1,G1,rfl,⟨λ_=>Iff.rfl,λa m n=>Y.Hc a n<|m1 a m⟩,Ow.wk z3<|BC j L e,h1⟩ z4 h3 (λb' l' L1 L2 L3 o f h G h3 h4 h5 t=>?_) q2 (λx r v M1 M2 f h q' c' N n=>kn x r v M1 M2 f h q' (Ch.trans s s2.tab c2 c') N n) λC y r o f h q' c' N=>ke C y r o f h q' (Ch.trans s s2.tab c2 c') N
  · rw[Y.all, z2.all]
    exact⟨λz=>z.elim (λq=>.inl<|.inr q) λz=>z.elim (λz=>z.elim (λq=>.inl<|.inl q) λq=>.inr<|.inl q) λq=>.inr<|.inr q,λz=>z.elim (λz=>z.elim (λq=>.inr<|.inl<|.inl q) .inl) λz=>z.elim (λq=>.inr<|.inl<|.inr q) λq=>.inr<|.inr q⟩
  · rcases m with m|m
    · exact z2.xj a m n
    · exact Y.Hc a m<|m2 a n
  · rcases m with m|m
    · exact Y.IG a (m1 a m) n
    · exact Y.IF a m n
  · refine e4a4 h3 λv' ab N1 N2 y1 Z y3 y4 => ?_
    injection y1 with y5 y6
    subst y5;subst y6
    have tt:Cj (λa=>N1 a\/L2 a) N1 L2:=⟨λ_=>Iff.rfl,λa m n=>t.Hc a ((Z.all a).mpr<|.inl m) n⟩
    refine km _ l' N2 (λa=>N1 a\/L2 a) L3 o f h G.2 y4 (Pt.same (A:=U) h4 hv tt y3) h5 ⟨λa=>?_,λa m n=>?_,λa m n=>t.IF a ((Z.all a).mpr<|.inr m) n,λa m n=>?_⟩
    · rw[t.all, Z.all]
      exact⟨λz=>z.elim (λz=>z.elim (λq=>.inr<|.inl<|.inl q) .inl) λz=>z.elim (λq=>.inr<|.inl<|.inr q) λq=>.inr<|.inr q,λz=>z.elim (λq=>.inl<|.inr q) λz=>z.elim (λz=>z.elim (λq=>.inl<|.inl q) λq=>.inr<|.inl q) λq=>.inr<|.inr q⟩
    · rcases n with n|n
      · exact Z.xj a n m
      · exact t.Hc a ((Z.all a).mpr<|.inr m) n
    · rcases m with m|m
      · exact t.IF a ((Z.all a).mpr<|.inl m) n
      · exact t.IG a m n
theorem Pk{o:List hO}(i:Nat){v P j B r q:Type}[Sls v][Sls P][Sls j][Sls B][Sls r][Sls q][Lb q τ<|Bd C g×j]{h:B->q->j->D}{z:D->(P->B->q->Prop)->(cr->D->Prop)->Prop}
 {s:Wf (Bd C g×P) τ (Bd C g×j)} [S:At i D (Bd C g) v] [A:At i B (Bd C g) r] [U:Pt i r (Bd C g) B] {k:Nat} {G:List Str}
 (F:uL X.prog X.w X.K X.mg X.base (uV X.prog X.w) k f J G (xN T s)) (W:vD k X.A) (Y:zX X.K C) (Z:Meth X.K C m f) (hb:Binds X.K J G []) (hx:Passes (uV X.prog X.w) X E) (hn:PE X (.Name x H) (uN i))
 (L:∀a b c d u,(xF a b c d u g).lookup m=none)
 (M:∀{t:TA},PA X (e::o) t->PE X (.Call (.Attribute (.Name x H) m apos) (e::o) [] pos) (EB C m (xN T s) [] E (uN i) t)) (N:Jy X E T (e::o) h z) :
    EO X E T (.Call (.Attribute (.Name x H) m apos) (e::o) [] pos) (λ(d:D)(O:τ->D->Prop) I=>z d (λp b l=>s (A.get b,p) (λy n=>O y<|h (U.put (A.hole b) n.1) l n.2)<|λC n=>I C<|h (U.put (A.hole b) n.1) l n.2) I):=by
  refine e1a2 N λtr Q R=>?_
  exact⟨_,M Q,HU i L R⟩
theorem Pl(i:Nat){h:Type}[Sls h]
 {j:Wf (Bd C e×Unit) τ (Bd C e×Unit)} [A:At i D (Bd C e) h] [U:Pt i h (Bd C e) D] {k:Nat} {B:List Str}
 (F:uL X.prog X.w X.K X.mg X.base (uV X.prog X.w) k f N B (xN T j)) (hr:vD k X.A) (cl:zX X.K C) (hm:Meth X.K C m f) (hb:Binds X.K N B []) (hx:Passes (uV X.prog X.w) X E) (hn:PE X (.Name x G) (uN i))
 (O:∀a b c d u,(xF a b c d u e).lookup m=none)
 (P:PE X (.Call (.Attribute (.Name x G) m apos) [] [] pos) (EB C m (xN T j) [] E (uN i) Cf)) :
    EO X E T (.Call (.Attribute (.Name x G) m apos) [] [] pos) (λ(d:D)(o:τ->D->Prop) r=>j (A.get d,()) (λy l=>o y<|U.put (A.hole d) l.1)<|λC l=>r C<|U.put (A.hole d) l.1):=by
  refine⟨_,P,λd F R S H o r Q s W Y Z=>?_⟩
  refine e3a4 (A.take s.rel) λv I M2 J z2 L z4=>?_
  obtain⟨a,dx,d1,d2,d3,d4,aa,rfl,_,g⟩:=id L
  refine⟨_,J,a,dx,_,rfl,g.ob,O _ _ _ _ _,?_⟩
  refine OU (F:=F) (F1:=I) (F2:=M2) (mrg:=λ(b:h)(p:Bd C e×Unit)=>U.put b p.1) (wf:=j) (p:=(A.get d,())) (b:=A.hole d) (σ:=S) (Kn:=o) (Ke:=r) s.FH z2 ⟨some<|.ref a,[],I,λ_=>False,rfl,⟨λ_=>⟨.inl,λz=>z.elim id λq=>q.elim⟩,λ_ _ z=>z⟩,L,rfl,λ_ z=>z⟩ z4 (λb' G1 G2 ab ae af l h1 h2 t=>?_) W Y Z
  refine e4a4 h1 λv' ag N1 N2 y1 M y3 y4=>?_
  injection y1 with y5 y6
  subst y5
  refine Pt.same (A:=U) h2 J ⟨λa=>?_,λa m n=>t.xj a ((M.all a).mpr<|.inl m) n⟩ y3
  rw[t.all,M.all]
  exact⟨λz=>z.elim (λz=>z.elim .inl λq=>gy q<|y4.2 a) .inr,λz=>z.elim (λq=>.inl<|.inl q) .inr⟩
theorem tw_trueO{wa:Wf D (OL α) D}(ha:EO X E T a wa)(he:∀whole,qa a X.env whole=(do let v <- whole;lZ a.pos;jW [v] (tF v)):=by intro _;rfl):TW X E T a (λ(d:D) Kn Ke=>wa d (λxs d1=>Kn (!xs.l.isEmpty) d1) Ke):=by
 refine e1a2 ha λta a1 a2=>?_;refine⟨_,Ho a1 he,λd F R σ H Kn Ke Q s hw kn ke=>a2 d F R σ H _ Ke _ s hw (λxs d1 u F1 F2 R1 H1 q1 c1 s1 n1=>?_) ke⟩;refine e2a4 n1.is λb vs e _ h3 h4=>?_;cases e;refine⟨!vs.isEmpty,.inl ⟨vs,vA.of h3,rfl⟩,?_⟩;obtain⟨l⟩:=xs
 have:vs.isEmpty=l.isEmpty:=by
  cases h4<;>rfl
 rw[this];exact kn _ d1 F2 R1 H1 q1 (c1.less λ_ z=>.inr z) s1
theorem Pm{e:Wf D (Tp α) D}(i:Gl X "list")(j:X.mg "list"=none)(k:EW X E T a e)(f:f9 [a] X.env=(false,eval a X.env)::f9 [] X.env:=by rfl) :
  EO X E T (.Call (.Name "list" p) [a] [] pos) (λ(d:D)(g:OL α->D->Prop) b=>e d (λt c=>g ⟨t.l⟩ c) b):=by
 refine e1a2 k λN m n=>?_;refine⟨_,wE xm i j jS (ul m uB f) (he:=f),λd F R o H g b Q s r v w=>n d F R o H _ b _ s r (λt c u x O P y z h A=>?_) w⟩;obtain⟨q,S,rfl,_,B,C⟩:=A;refine⟨_,_,rfl,.inr<|yq.of B,λl G=>?_⟩;refine e1a3 (wG h G C) λI J L M=>?_;exact v _ c _ _ x I _ y (Ch.trans s h.tab z J) L M
theorem S9(n:Gl X "tuple")(o:X.mg "tuple"=none)(r:ER X E T a t)(f:f9 [a] X.env=(false,eval a X.env)::f9 [] X.env:=by rfl) :
  EW X E T (.Call (.Name "tuple" p) [a] [] pos) (λ(d:D)(h:Tp α->D->Prop) e=>t d (λg b=>h ⟨g b⟩ b) e):=by
 refine e1a2 r λP v w=>?_;refine⟨_,wE Eh n o PyProof.Rows.boot_tuple (ul v uB f) (he:=f),λd F R x H h e Q s y z A=>w d F R x H _ e _ s y (λg b u i j B C G c I=>?_) A⟩;obtain⟨q,k,rfl,J,L⟩:=I b i j B (Ch.refl _ _ _ _) c;refine⟨_,_,rfl,.inl ⟨vA.of J,λl M=>?_⟩⟩;refine e0a3 (c.new (.tup k) M) λN m O=>?_;exact z _ b _ i j _ C (Ch.trans s c.tab G m) N ⟨l,k,rfl,O,uh,c.vals m L⟩
theorem ints_of{R:Rg}{H:Hp}:∀{xs:List Int} {vs:List V},Paired (rp R H) xs vs->vs=xs.map V.int:=by
 intro _ _ z
 induction z with
 | nil=>rfl
 | cons h t ih=>rw[show _=V.int _ from h,ih];rfl
theorem tw_inT{a b:hO}{wa:Wf D Int D}{wb:Wf D (Tp Int) D}(ha:EW X E T a wa)(hb:EW X E T b wb)(hm:iq .In b=false) :
  TW X E T (.Compare a [.In] [b] pos) (λ(d:D) Kn Ke=>wa d (λk d1=>wb d1 (λt d2=>Kn (decide<|k∈t.l) d2) Ke) Ke):=by
 refine e1a2 ha λta a1 a2=>?_;refine e1a2 hb λtb b1 b2=>?_;refine⟨_,wR EE a1 b1 hm,λd F R σ H Kn Ke Q s hw kn ke=>a2 d F R σ H _ Ke _ s hw (λk d1 u F1 R1 H1 q1 c1 s1 r1=>?_) ke⟩;refine b2 d1 F1 R1 σ H1 _ Ke _ s1 q1 (λt d2 v F2 R2 H2 q2 c2 s2 r2=>?_) λC y d' F' R' H' k c s'=>ke C y d' F' R' H' k (Ch.trans s s1.tab c1 c) s';subst r1;obtain⟨l⟩:=t;obtain⟨q,us,rfl,_,h1,h2⟩:=r2;have e:=ints_of (xs:=l) h2;subst e;refine⟨q,_,rfl,.inr<|yq.of h1,rfl,zQ _,_,rfl,?_⟩;rw[f8 gr,AS];exact kn _ d2 F2 R2 H2 q2 (Ch.trans s s1.tab c1 c2) s2
theorem Dy[Sls D2][Gf:Fg D2 D][J:Pj D PO n](N:Rv PO ms n)(hp:qL (gp X.prog X.w) X.A X.env X.xe)
 (hc:TW X E T c wc) (hb:SW X E T mb n body wb) (B:∀i∈ms,i∈mb) :
    S1 X E T ms n (.While c body [] pos) (λ(d:D)(Kn:D->Prop)(O:τ->PO->Prop) I=>∃W:Nat->D->Prop,(∃m,W m d)/\∀m d,W m d->wc d (λb j=>if b=true then wb j (λL=>∃l,l<m/\W l (Gf.fg L)) O I else Kn j) λC d'=>I C<|J.pj d'):=by
  refine e1a2 hc λtc c1 c2=>?_
  refine e1a2 hb λtb b1 b2=>?_
  refine⟨_,NK hp c1 b1,λd F R σ H Kn O I En s hw kn kr ke=>?_⟩
  obtain⟨W,⟨m0,w0⟩,t⟩:=hw
  refine⟨λm e M=>∃j G o,Ch T F R H G o M/\vm T G o M j e/\Ag mb σ e/\W m j,⟨m0,d,F,R,Ch.refl _ _ _ _,s,Ag.refl _ _,w0⟩,?_⟩
  rintro m e M ⟨j,G,o,k1,P,g1,w1⟩
  refine c2 j G o e M _ _ _ P (t m j w1) (λb L G2 R2 H2 q2 k2 u=>?_) λC y d' F' R' z q c s'=>?_
  · have k := Ch.trans s P.tab k1 k2
    cases b with
    | false=>exact kn L G2 R2 H2 e q2 k u<|g1.sub B
    | true =>
      refine⟨λp z=>∃l,l<m/\∃j G o,Ch T F R H G o z/\vm T G o z j p/\Ag mb σ p/\W l j,λp z h=>h,?_⟩
      refine b2 L G2 R2 e H2 _ O I _ u q2 (λd3 G3 R3 H3 ab q3 k3 r g3=>?_) (λx Q v M1 M2 S U Y Z f n4=>?_) λC y Q F4 S U Y Z f=>?_
      · refine e1a2 q3 λl hm w3 => ?_
        refine e1a2 (Gf.le r.rel) λG5 f5 r5=>?_
        exact⟨l,hm,_,G5,R3,(Ch.trans s u.tab k k3).less f5,⟨r5,λa h=>r.sub a<|f5 a h,r.wu,r.tab,r.uW,λh=>r.uM<|f5 T h⟩,g1.trans g3,w3⟩
      · exact kr x Q v M1 M2 S U Y (Ch.trans s u.tab k Z) ⟨N.dp (g1.sub B) f.rel, f.sub, f.wu, f.tab, f.uW, f.uM⟩ n4
      · exact ke C y Q F4 S U Y (Ch.trans s u.tab k Z) ⟨N.dp (g1.sub B) f.rel, f.sub, f.wu, f.tab, f.uW, f.uM⟩
  · refine e1a2 (vM (PO := PO) s') λG' aa g => ?_
    exact ke C y _ G' R' z q ((Ch.trans s P.tab k1 c).less aa) ⟨N.dp (g1.sub B) g.rel,g.sub,g.wu,g.tab,g.uW,g.uM⟩
end
open PyProof.Rows hiding K
def Ite(K:fZ)(a:cr):It :=
 ⟨λi H=>∃b x,vA K H a b/\b[i]?=some x,λi H v c=>∃p x,v=.ref p/\H p=none/\c=upd H p (.tup [.int i,x])/\∀b,vA K H a b->b[i]?=some x,λi H=>∃b,vA K H a b/\b.length<=i⟩
theorem Ta{t':Nat}{xs:List V}{nh:Nat}(I:Inv X d y H s)(i:Ak X d H e)(j:Ak X d H l)(x:s.heap.objs.size<=a)(k:∀b o,b≠e->b≠l->s.heap.get? b=some o->h'.get? b=some o)(A:xs.length<=gf)(r:Vals xs us)(B:IsTup h' a us.toArray) :
  Inv X d y (upd H a<|.tup xs) { s with heap:=h',toks:=t'}:=by
 have C:=I.uU.fresh x;have f:∀b u,H b=some u->b≠e/\b≠l:=λb u q=>⟨λz=>(by rw[z,i.1] at q;cases q),λz=>(by rw[z,j.1] at q;cases q)⟩;have t:∀b o,b∉[e,l]->s.heap.get? b=some o->h'.get? b=some o:=λb o h q=>k b o (λz=>h<|by simp[z]) (λz=>h<|by simp[z]) q;have p:∀{b u},H b=some u->upd H a (.tup xs) b=some u:=λ{b u} q=>by rw[ud<|uo q C];exact q
 refine I.step (g':=s.gens) (d':=s.drawn) (ch:=[e,l]) (λb h=>?_) (λb o _ _ g q _=>t b o g q) (λb o _ _ g q _=>⟨o.slots,t b o g q⟩) (λb o g q n=>?_)
  (λb o g q=>⟨o,t b o g q⟩) (λ_ _ q=>p q) (λ_ _ _ q=>p q) (λb J q=>⟨#[],by rw[p q];simp⟩) (λm D=>?_) (λb u q=>?_) I.bare
 ·rcases List.mem_cons.mp h with z|z
  ·subst z;exact⟨i.2.2.2.1,i.2.1,i.2.2.2.2.1,i.2.2.2.2.2⟩
  ·have z:b=l:=by simpa using z
   subst z;exact⟨j.2.2.2.1,j.2.1,j.2.2.2.2.1,j.2.2.2.2.2⟩
 ·rw[ud<|λz=>gy (gl q)<|by rw[z];exact Nat.not_lt.mpr x];exact n
 ·refine e3a2 D λo E F G r=>?_;exact⟨o,E,F,k _ o (Ne.symm i.2.1) (Ne.symm j.2.1) G,r⟩
 ·by_cases h:b=a
  ·subst h;rw[uh] at q;cases q;exact⟨A,us,r,B⟩
  ·rw[ud h] at q;refine(I.uU b u q).Cd (λc v g w=>?_) (λc w=>p w) λc L w=>p w;rcases g with z|z
   ·rw[z] at w ⊢;exact k b v (f b u q).1 (f b u q).2 w
   ·exact k c v (f c _ z).1 (f c _ z).2 w
theorem MS{K:fZ}{x1}(a e it:cr)(hne:e≠it):Turn P w K (.Tuple els x1 tp) (Ite K a) [e,it] e (λi h=>(∃old,IsEnum h e it i old)/\h.IsListIter it a i) where
 mem:=by simp
 obj:=λi h st b hb=>by
  obtain⟨⟨old,h1⟩,⟨o,h2,c,d⟩⟩:=st;rcases List.mem_cons.mp hb with z|z
  ·subst z
   exact⟨_,h1,λv z=>by
    have z':sw _=Data.cell v:=z
    cases z'⟩
  ·have z:b=it:=by simpa using z
   subst z;exact⟨o,h2,λv z=>by rw[d] at z;cases z⟩
 keep:=λi h h' st k=>⟨e1a1 st.1 λold h1=> ⟨old,k e q0o _ h1⟩,st.2.at λo q=>k it q0o o q⟩
 item:=by
  intro X hP hw hK hc i pins s σ H E I hf st hg;subst hP hw hK;refine e2a2 hg λxs x hq hx=>?_;refine e1a3 (I.list hq) λyW rv p hz=>?_;refine e1a2 (rv.get hx) λu hu ru=>?_;obtain⟨⟨old,h1⟩,h2⟩:=st;have fe:=hf e q0o;have fi:=hf it q0o;refine wpAny_pyNext_enum_item h1 h2 p.isList (x:=u) (by simpa using hu) hne λh' a1 a2 a3 a4 a5=>⟨_,rfl,wpAny_letOwnedTupleGo_enum a1 λh2' b1 b2=>?_⟩;have hel:e<s.heap.objs.size:=gl h1;have t2:h2'.get? s.heap.objs.size=some { cls:=.type "tuple",data:=.seq #[.int i s.toks,u]}:=b2.extBut _ _ (iG hel) a3;refine⟨.ref s.heap.objs.size,upd H s.heap.objs.size<|.tup [.int i,x],Ta (s:=s) (h':=h2') (t':=s.toks+1) (xs:=[.int i,x]) (us:=[.int i s.toks,u]) (nh:=0) I fe fi (ga _) (λb o n1 n2 q=>b2.extBut b o n1<|a5 b o n1 n2 q) (by show 2<=gf;decide) (.cons ⟨_,rfl⟩<|.cons ru .nil) ⟨_,t2,rfl,_,rfl⟩,rfl,⟨_,x,rfl,I.uU.fresh<|ga _,rfl,λys hy=>by rw[I.Hl hy hq];exact hx⟩,⟨⟨_,b1⟩,a2.extBut b2.extBut<|Ne.symm hne⟩,λb hb=>?_⟩;rw[ud]
  ·exact(hf b hb).1
  ·refine e1a2 h2 λo ho _=>?_;rcases List.mem_cons.mp hb with z|z
   ·rw[z];exact gx hel
   ·have z:b=it:=by simpa using z
    rw[z];exact gx<|gl ho
 done:=by intro X hP hw hK hc i pins s σ H E I hf st hg;subst hP hw hK;refine e1a2 hg λxs hq hx=>?_;refine e1a3 (I.list hq) λyW rv p hz=>?_;obtain⟨⟨old,h1⟩,h2⟩:=st;refine e0a6 (hf it q0o) λf0 f1 f2 f3 f4 f5=>?_;have hl:=rv.length;exact wpAny_pyNext_enum_end (I.ok.hd hc) h1 h2 p.isList (by simp;lia) λh' eb=>⟨rfl,I.turned (t':=s.toks) (λb o hb e=>eb b o hb e) f0 f1 f3 f4 f5⟩
 self:=λ_ _ _ _ _ st h=>wpAny_pyIter_enum st.1.choose_spec h
section
variable{D:Type}[Sls D]{α:Type}[Rep α]
def YG(K:fZ)(c:TA):TI:=λd H R=>c d H λe b=>∃a,e=[.ref a]/\(∃f,vA K b a f)/\R (Ite K a) b
theorem Tb{i}(j:Gl X "enumerate")(k:X.mg "enumerate"=none)(l:PA X [a] m)(n:f9 [a] X.env=[(false,eval a X.env)]:=by rfl):PI X (.Tuple o i G) (.Call (.Name "enumerate" p) [a] [] pos) (YG X.K m):=by
 intro d s t H R I h;refine PyProof.Rows.Call_<|yy I j k PyProof.Rows.boot_enumerate<|jt (uR (l pos d s t H _ I h) λJ c u=>e2a3 u λL v f w x=>?_) n rfl;obtain⟨a,e,⟨M,y⟩,q⟩:=x;subst e
 cases w with
 | cons r A =>
  cases A;cases r;refine e1a3 (f.list y) λB N p O=>?_;refine call_enumerate_list p.isList λP g C Q E=>?_;refine wpAny_pyIter_enum g ?_;refine⟨c.heap.objs.size+1,[c.heap.objs.size+1,c.heap.objs.size],_,_,v,rfl,f.kept (t':=c.toks) E,MS a _ _<|iG<|iQ _,⟨⟨_,g⟩,C⟩,λb F=>?_,q⟩
  have e:c.heap.objs.size<=b:=by
   rcases List.mem_cons.mp F with z|z
   ·rw[z];exact kN _
   ·have z:b=c.heap.objs.size:=by simpa using z
    rw[z];exact ga _
  exact f.Fh e<|f.uU.fresh e
def MT:Nat->List α->List (Int×α)
 | _,[]=>[]
 | k,x::r=>((k:Int),x)::MT (k+1) r
theorem CC:∀(k:Nat)(a:List α),(MT k a).length=a.length
 | _,[]=>rfl
 | k,x::r=>by show (MT (k+1) r).length+1=r.length+1;rw[CC (k+1) r]
theorem Ls:∀(k:Nat)(a:List α)(i:Nat),(MT k a)[i]?=(a[i]?).map λx=>(((k+i:Nat):Int),x)
 | _,[],_=>by simp[MT]
 | k,x::r,0=>by simp[MT]
 | k,x::r,i+1=>by
  show (((k:Int),x)::MT (k+1) r)[i+1]?=_;rw[rC,rC,Ls (k+1) r i];congr 1
  funext y
  rw[show k+1+i=k+(i+1) by lia]
theorem Dz{K:fZ}{xs:List α}{vs:List V}:Xk (Ite K a) (MT 0 xs) (λR H=>H a=some (.lst vs)/\Paired (rp R H) xs vs) where
 go:=λ{R H i} p h=>by rw[CC] at h;obtain⟨v,e,_⟩:=v7 (i:=i) (x:=xs[i]) p.2 (by simp[h]);exact⟨vs,v,vA.of p.1,e⟩
 G9:=λ{R H i v H'} p wu hi y=>by rw[CC] at hi;obtain⟨q,w,e,hq,e',y⟩:=y;subst e e';have y':=y vs<|vA.of p.1;obtain⟨u,e,r⟩:=v7 (i:=i) (x:=xs[i]) p.2 (by simp[hi]);rw[y'] at e;cases e;have ex:Ext R R H R (upd H q<|.tup [.int i,w]):=⟨λb o _ z=>by rw[ud<|uo z hq];exact z,λ_ z=>.inl z⟩;refine⟨.inr ⟨q,_,hq,rfl⟩,((i:Int),xs[i]),?_,q,.int i,w,rfl,λz=>wu q z hq,uh,rfl,Rep.st r ex⟩;rw[Ls,iP hi,rZ];rfl
 stop:=λ{R H} p=>⟨vs,vA.of p.1,by rw[CC,Paired.length p.2];exact ga _⟩
theorem Tc{i:List hO}{B}{w:Wf D (List α) D}(C:Gl X "enumerate")(G:X.mg "enumerate"=none)(h:EW X E T e w)(I:f9 [e] X.env=(false,eval e X.env)::f9 [] X.env:=by rfl)(j:f9 [e] X.env=[(false,eval e X.env)]:=by rfl) :
  IW X E T is (.Tuple i B tp) (.Call (.Name "enumerate" p) [e] [] pos) (λ(b:D) (_:List (Int×α))=>b) (λ(d:D) o u=>w d (λf k=>o (MT 0 f) k) u):=by
 refine e1a2 h λt J L=>?_;refine⟨_,Tb C G (ul J uB I) j,λd F R M H o u Rk s N O P=>L d F R M H _ _ _ s N (λf k v l Q S q c x r=>?_) P⟩;obtain⟨a,m,rfl,U,y,W⟩:=r;refine⟨a,rfl,⟨m,vA.of y⟩,O (MT 0 f) k _ (λR H=>(H a=some (.lst m)/\Paired (rp R H) f m)/\¬R a) l (λ_=>False) l Q S q c x.FH (two_nil l) x.rel ⟨λp=>Dz.go p.1,λp=>Dz.G9 p.1,λp=>Dz.stop p.1⟩ ⟨⟨y,W⟩,U⟩ (λp A nf n=>?_) λb' G2 Y Z aa ab p h g t=>Sls.fq h<|two_eq t λ_ z=>z⟩;have na:¬_:=λz=>p.2<|A a z;exact⟨⟨n.keep a _ na p.1.1,vq (n.wide A) p.1.2⟩,n.not p.2 p.1.1⟩
end
def FY(C:cr):Sp:=λf H Q E=>∃p e,f=[.ref p]/\H p=some (.ins C e []) /\
 ∀c d a,H c=none->H d=none->c≠d->a p=some (.ins C e<|xF c d 0 0 0 false)->a c=some (.dK [])->a d=some (.dK [])->(∀b o,b≠p->H b=some o->a b=some o)->Q .vK a
theorem Td{m:gP}{k:Nat}(F:ye K "__init__" i m f D)(S:um ["self"] ["self"] (ue m))(g:Aw K C)
 (j:∀(d:ci)(A:iR)(a:List Env)(s:gk)(H:Hp)(E:XK),Ed (uY (uV P w) P w K G base ["self"] i (ue m) f d A a s H E) (uK m)<|IL (Ml K (uN 0) CZ "ranks")<|IL (Ml K (uN 0) CZ "borders")<|Ml K (uN 0) (tC<|.int 0) "upcoming") :
    uL P w K G base (uV P w) (k+1) f D ["self"] (FY C):=by
  obtain⟨T,U,W,I,X,Y,d,J,L,rfl,lk,t⟩:=F.ex
  refine Hv lk t S (λM H Q E N=>e2a2 N λp l e _=>by rw[e];rfl) λO a s H M Q E Z u=>⟨_,j d O a s H E,?_⟩
  obtain⟨p,l,rfl,B,k⟩:=u
  intro h v
  have n:p≠h:=uo B v
  have R:upd H h (.dK []) p=some (.ins C l []):=by rw[ud n];exact B
  refine⟨_,rfl,p,C,l,[],rfl,R,g.cl,g.nR,q0q,?_⟩
  intro q c
  have r:p≠q:=λz=>by rw[<- z,uh] at c;cases c
  rw[ud r.symm] at c
  have x:q≠h:=λz=>by rw[z,uh] at c;cases c
  rw[ud x] at c
  refine⟨_,rfl,p,C,l,[("ranks",.ref h)],rfl,?_,g.cl,g.nB,(by show 1<1000;decide),?_⟩
  · rw[ud r, uh]
    rfl
  refine⟨_,rfl,p,C,l,[("ranks",.ref h),("borders",.ref q)],rfl,?_,g.cl,g.nU,(by show 2<1000;decide),?_⟩
  · rw[uh]
    rfl
  refine k h q _ v c x.symm ?_ ?_ ?_ λb o y j=>?_
  · rw[uh]
    rfl
  · rw[ud n.symm, ud n.symm, ud x.symm, ud n.symm, uh]
  · rw[ud r.symm, ud r.symm, uh]
  · rw[ud y, ud y, ud<|uo j c, ud y, ud<|uo j v]
    exact j
structure Mf(K:fZ)(C:cr)(m qual:Str)(st:gP)(ps:List Str)(f:cr)(fd:g9):Prop where
 fn:ye K m qual st f fd
 me:Meth K C m f
 bd:Binds K fd ps []
structure Xc(K:fZ)(mg:Str->Option ci)(x:Str)(C:cr):Prop where
 ex:∃(Ck:List ci)(B newId xg:String),mg x=some (.ref C)/\iH K C Ck newId=true/\jI B newId xg Ck
 g0:∀H',GX.g C none H'
theorem BE{k:Nat}(r:vD k A):A.units+1<jQ:=iY (Nat.add_le_add_left q0q _) r.units
def a0Q(s:gP):List gP:=match s with
 | .ClassDef _ _ _ body _ _ _ _ _ _ _=>body
 | _=>[]
def Bk(s:gP)(i:Nat):gP:=(a0Q s).getD i<|.Pass ⟨0,0,0,0⟩
section
variable{D D' PO τ:Type}[Sls D][Sls D'][Sls PO][Ow τ]
theorem Ad{k:Nat}[J:Pj D PO n](r:Gl (uY (uV P w) P w K e base N c a f g A b s H E) x)(h:Xc K e x C)(l:(x==("__debug__":Str))=false:=by decide)
 (q:f9 [.Constant (.str m) k mp] (uY (uV P w) P w K e base N c a f g A b s H E).env=(false,eval (.Constant (.str m) k mp) (uY (uV P w) P w K e base N c a f g A b s H E).env)::f9 [] (uY (uV P w) P w K e base N c a f g A b s H E).env:=by rfl)
 (o:(iJ i<|f9 [] (uY (uV P w) P w K e base N c a f g A b s H E).env).any (·.1)=false:=by rfl) :
    S1 (uY (uV P w) P w K e base N c a f g A b s H E) E T z n (.Raise (some<|.Call (.Name x np) [.Constant (.str m) k mp] [] i) none pos) (λ(d:D)(_:D'->Prop)(_:τ->PO->Prop) t=>t C<|J.pj d):=by
  obtain⟨u,B,p,j,v,O,y⟩:=h.ex
  exact Dt<|Df r v O y h.g0 (ul Fe uB q) l q o
end
section
variable{D:Type}[Sls D]
theorem Pn{i:Int}(b:Gl X x)(c:X.mg x=some (.int i t))(e:(x==("__debug__":Str))=false:=by decide):EW X E T (.Name x pos) (λ(d:D)(a:Int->D->Prop) _=>a i d) :=
 ⟨_,RE (v:=.int i) b c ⟨t,rfl⟩ e,λd F R h H a j Q s f g _=>g i d _ F R H f (Ch.refl _ _ _ _) s rfl⟩
end
def Sf(f:Int->List Int)(x:Int):List Int->Bool
 | []=>false
 | c::l=>xor (decide<|x∈f c)<|Sf f x l
theorem FZ{x:Int}{a:List Int}(p:a.Perm b):Sf f x a=Sf f x b:=by
 induction p with
 | nil=>rfl
 | cons c _ e=>show xor _ _=xor _ _;rw[e]
 | swap c d l=>show xor _ (xor _ _)=xor _ (xor _ _);rw[<- lN,<- lN,Bool.xor_comm<|decide<|x∈f d]
 | trans _ _ g h=>exact g.trans h
theorem Ww{x k:Int}(h:wl l):Sf f x (JD l k)=xor (decide<|x∈f k) (Sf f x l):=by
 by_cases q:k∈l
 ·have e:JD l k=JB k l:=f7 q
  have p:l.Perm (k::JB k l):=by
   refine vw (uq h) (List.nodup_cons.mpr ⟨λz=>(zn.mp z).2 rfl,uq<|i8 _ h⟩) λy=>?_;rw[gL,zn];by_cases z:y=k
   ·rw[z];simp[q]
   ·simp[z]
  rw[e,FZ p];show _=xor _ (xor _ _);rw[<- lN,Bool.xor_self,oQ]
 ·have e:JD l k=Ep k l:=f8 q
  have p:(Ep k l).Perm (k::l):=by refine vw (uq<|Cy h) (List.nodup_cons.mpr ⟨q,uq h⟩) λy=>?_;rw[gL,AY]
  rw[e,FZ p];rfl
theorem Po{x:Int}:∀{b a:List Int},wl a->Sf f x (xr a b)=xor (Sf f x a) (Sf f x b)
 | [],a,_=>by show Sf f x a=xor _ false;rw[mQ]
 | k::b,a,h=>by show Sf f x (xr (JD a k) b)=xor (Sf f x a) (xor (decide<|x∈f k)<|Sf f x b);rw[Po<|Lq h,Ww h,<- lN,Bool.xor_comm<|Sf f x a]
theorem Pp{x:Int}:∀{l:List Int} {a:List Int},(∀c∈l,(f c).Nodup)->decide (x∈(l.map f).foldl xr a)=xor (decide<|x∈a) (Sf f x l):=by
 intro d
 induction d with
 | nil=>intro a _;show decide (x∈a)=xor _ false;rw[mQ]
 | cons c l b =>
  intro a h;show decide (x∈(l.map f).foldl xr (xr a<|f c))=xor _ (xor _ _);rw[b<|λy g=>h y<|gg _ g,<- lN];congr 1;have e:=yb (l:=a) (x:=x)<|h c gc;by_cases p:x∈a<;>by_cases q:x∈f c<;>simp[p,q,e]
def u4(f:Int->List Int)(l:List Int):List Int:=NB<|l.map f
theorem wy{x:Int}(h:∀c∈l,(f c).Nodup):decide (x∈u4 f l)=Sf f x l:=by unfold u4 NB;rw[Pp h];rw[gI q0o,oQ]
theorem v8(f:Int->List Int)(l:List Int):wl (u4 f l):=SV _
theorem DA(c:wl a)(d:wl b)(h:∀x,decide (x∈a)=decide (x∈b)):a=b:=CA c d λk=>by have:=h k;by_cases p:k∈a<;>by_cases q:k∈b<;>simp[p,q] at this ⊢
theorem zp{x:Int}(h:∀c∈l,(f c).Nodup)(a:x∈u4 f l):∃c∈l,x∈f c:=by
 have e:=wy (x:=x) h;rw[decide_eq_true a] at e;clear a
 induction l with
 | nil=>cases e
 | cons c l b =>
  by_cases q:x∈f c
  ·exact⟨c,gc,q⟩
  ·have e:true=xor (decide<|x∈f c) (Sf f x l):=e;rw[gI q,oQ] at e;obtain⟨d,g,i⟩:=b (λy j=>h y<|gg _ j) e;exact⟨d,gg _ g,i⟩
theorem CD(h:wl a)(i:wl b)(d:∀c∈a,(f c).Nodup)(g:∀c∈b,(f c).Nodup):u4 f (xr a b)=xr (u4 f a) (u4 f b) :=
 DA (v8 _ _) (xE<|v8 _ _) λx=>by rw[wy λc j=>(FT (uq i) j).elim (d c)<|g c,Po h,<- wy d,<- wy g];have e:=yb (l:=u4 f a) (x:=x)<|uq<|v8 f b;by_cases p:x∈u4 f a<;>by_cases q:x∈u4 f b<;>simp[p,q,e]
theorem Lu{x:Int}:∀{l a:List Int},wl a->(∀c∈l,wl (f c)/\Sf f x (f c)=false)->Sf f x ((l.map f).foldl xr a)=Sf f x a
 | [],_,_,_=>rfl
 | c::l,a,b,h=>by show Sf f x ((l.map f).foldl xr<|xr a<|f c)=_;rw[Lu (xE b) λy d=>h y<|gg _ d,Po b,(h c gc).2,mQ]
theorem MU(h:∀c∈l,wl (f c)/\(∀d∈f c,(f d).Nodup)/\u4 f (f c)=[]):u4 f (u4 f l)=[] :=
 DA (v8 _ _) gR λx=>by
  rw[wy,gI q0o]
  ·exact Lu (x:=x) (l:=l) gR λc a=>⟨(h c a).1,by rw[<- wy (h c a).2.1,(h c a).2.2];rfl⟩
  ·intro d b;obtain⟨c,a,b⟩:=zp (λc a=>uq (h c a).1) b;exact(h c a).2.1 d b
theorem vO(h:∀c∈l,f c=g c):u4 f l=u4 g l:=by unfold u4;rw[mw h]
structure YH(K:fZ) where
def Pq(K:fZ)(R:Rg)(H:Hp)(a:cr)(c:List Int):Prop :=
 (¬R a/\Rd H a (.lst<|c.map V.int))\/∃(o:pV)(b:Array ci)(n:Nat),K.lookup a=some o/\o.cls=.type "list"/\o.dict=none/\o.data=.seq b n/\b.size<=gf/\Vals (c.map V.int) b.toList
theorem Pq.sq{K:fZ}(h:Pq K R H a b):vA K H a (b.map V.int):=h.elim (λz=>.inl z.2) .inr
instance(K:fZ):Rep (YH K):=⟨λR H _ v=>∃a ns,v=.ref a/\Pq K R H a ns,λ{R H R' H' x v} h e=>by
 refine e2a2 h λa ns h1 h2=>?_;refine⟨a,ns,h1,?_⟩;rcases h2 with⟨n,r⟩|r
 ·rcases r with r|⟨o,r⟩
  ·exact .inl ⟨e.not n r,.inl<|e.keep a _ n r⟩
  ·exact .inl ⟨e.not n r,.inr ⟨o,e.keep a _ n r⟩⟩
 ·exact .inr r⟩
def U6(K:fZ):Sp:=λd H Q _=>∃(a:cr)(e:List Int),d=[.ref a]/\vA K H a (e.map V.int)/\∀b g q c s,Ci H b->B6 b g q c 0 0 s->H g=none->H q=none->Q (.ref g) b
def Pr(K:fZ):Wf (YH K×Unit) Bg (Un×Unit):=λ_ a _=>a ⟨⟩ (⟨⟩,())
def U7(K:fZ):Wf (YH K×Unit) Bool (Un×Unit):=λ_ a _=>a true (⟨⟩,())
theorem YI(F:uL P w K y base Oi k f A C (U6 K)):uL P w K y base (uV P w) k f A C (xN T<|Pr K) :=
 (U4 F).imp λD H Q E G=>e5a4 G λF R p Kn Ke s I J _=>by
  obtain⟨v,L,F1,F2,d,h2,⟨n1,u,e,a,M,N,O⟩,S⟩:=s.rel;subst e N
  match D,d with
  | [],d=>cases d
  | x::r,d =>
   injection d with U W;cases U
   have X:r=[]:=by have:=S.1;rw[<- W] at this;exact List.map_eq_nil_iff.mp this
   subst X;refine⟨a,M,rfl,O.sq,λn g q j Y i B l m=>?_⟩;have Z:Ext (λ_=>False) R H (λc=>R c\/c=g\/c=q) n:=⟨λb o _ h=>i b o h,λc h=>h.elim .inl λz=>.inr<|z.elim (λz=>by rw[z];exact l) λz=>by rw[z];exact m⟩;refine J ⟨⟩ (⟨⟩,()) (.ref g) (λc=>c=g\/c=q) (λ_=>False) (λc=>R c\/c=g\/c=q) n I ⟨λb o _ _ h=>i b o h,Z.new,λc h=>h.elim (λz=>.inr<|z.elim (λz=>by rw[z];exact l) λz=>by rw[z];exact m) λz=>z.elim,λc h _=>.inl h⟩ ⟨⟨some<|.ref a,[],λ_=>False,λ_=>False,rfl,⟨λ_=>⟨λz=>z.elim,λz=>z.elim id id⟩,λ_ z _=>z⟩,λ_ z=>z,rfl,λ_ z=>z⟩,λ_ z=>z.elim,λc h=>?_,?_,.inl s.uW,λz=>z⟩ ⟨⟨g,q,j,0,0,Y,rfl,λ_=>Iff.rfl,B⟩,λc h=>.inr h,λ_ _ z=>z,λz=>?_⟩
   ·rcases h with h|h|h
    ·cases e:H c with
     | none=>exact gy e<|s.wu c h
     | some o=>rw[i c o e];simp
    ·rw[h,B.ob];simp
    ·rw[h,B.sc];simp
   ·refine e1a2 s.tab λqs e t=>?_;exact⟨qs,i _ _ e,t⟩
   ·have:=yk s.tab;rcases z with z|z
    ·rw[z] at this;exact this l
    ·rw[z] at this;exact this m
def Lv(K:fZ)(b:cr):Sp:=λc H Q _=>∃(a:cr)(d:List Int),c=[.ref a]/\vA K H a (d.map V.int)/\TabAt H b/\∀e,Q (.bl true) e
theorem YJ(F:uL P w K g base (uV P w) k f i j (xN T<|U7 K)):uL P w K g base (uV P w) k f i j (Lv K T) :=
 F.imp λB H Q E l=>e2a4 l λa m e p b s=>by
  subst e;refine⟨λ_=>False,λc=>c=T,(⟨⟩,()),λx _=>x=true,λ_ _=>False,⟨⟨some<|.ref a,[],λ_=>False,λ_=>False,rfl,⟨λ_=>⟨λz=>z.elim,λz=>z.elim id id⟩,λ_ z _=>z⟩,⟨λ_ z=>z,_,rfl,a,m,rfl,?_⟩,rfl,λ_ z=>z⟩,λ_ z=>z.elim,λc h=>by rw[h];exact yk b,b,rfl,λz=>z⟩,rfl,λx t v D G A d q c I n=>?_,λC y t J A d q=>q.elim⟩
  ·rcases p with r|r
   ·refine .inl ⟨λz=>?_,r⟩;refine e1a2 b λL e _=>?_;rcases r with r|⟨o,r⟩
    ·rw[z,e] at r;cases r
    ·rw[z,e] at r;cases r
   ·exact .inr r
  ·obtain⟨_,u,e,r⟩:=n.is;cases e;rw[r,q];exact s d
theorem YK(F:uL P w K d base (uV P w) k f g i c)(h:∀b H Q E,c b H Q E->c b H Q XF):uL P w K d base Oi k f g i c :=
 ⟨F.len,λA a s H args j b Q E l m n o p=>jl (F.run A a s H args j b Q XF l m n o (h _ _ _ _ p)) λr t z=>by
  cases r with
  | error e =>
   obtain⟨_,_,_,_,_,z⟩:=z;exact z.elim
  | ok q =>
   cases q with
   | ret u=>exact z
   | next=>exact gU z
   | brk=>exact gU z
   | cont=>exact gU z⟩
structure Fk(P:gS)(w:ic)(K:fZ)(mg:Str->Option ci)(base:hR)(T:cr)(x:Str)(ps:List Str){A PO τ:Type}[Sls A][Sls PO][Ow τ](wf:Wf A τ PO)(k:Nat) where
 f:cr
 fd:g9
 ok:uL P w K mg base (uV P w) k f fd ps (xN T wf)
 at_:mg x=some (.ref f)
 kp:iC K (.ref f)=true
 bd:Binds K fd ps []
structure Fm(P:gS)(w:ic)(K:fZ)(mg:Str->Option ci)(base:hR)(T C:cr)(m:Str)(ps:List Str){A PO τ:Type}[Sls A][Sls PO][Ow τ](wf:Wf A τ PO)(k:Nat) where
 f:cr
 fd:g9
 ok:uL P w K mg base (uV P w) k f fd ps (xN T wf)
 me:Meth K C m f
 bd:Binds K fd ps []
section
variable{P:gS}{w:ic}{K:fZ}{mg:Str->Option ci}{base:hR}{T C f:cr}{fd:g9}{x:Str}{ps:List Str}{A PO τ:Type}[Sls A][Sls PO][Ow τ]{wf:Wf A τ PO}{j k:Nat}
def Fk.up(h:Fk P w K mg base T x ps wf j)(l:j<=k:=by decide):Fk P w K mg base T x ps wf k:=⟨h.f,h.fd,h.ok.mono l,h.at_,h.kp,h.bd⟩
def Fm.up(h:Fm P w K mg base T C x ps wf j)(l:j<=k:=by decide):Fm P w K mg base T C x ps wf k:=⟨h.f,h.fd,h.ok.mono l,h.me,h.bd⟩
end
section
variable{D:Type}[Sls D]
theorem uz{P c B g i:Type}[Sls P][Sls c][Sls B][Sls g][Ow i][Lb g i c]{a:B->g->c->D}{o:Wf P i c}{q:D->(P->B->g->Prop)->(cr->D->Prop)->Prop}{k:Nat}{s:List Str}{f:List hO}
 (h:Fk X.prog X.w X.K X.mg X.base T x s o k) (t:Jy X E T (e::f) a q) (u:vD k X.A:=by assumption) (v:Gl X x:=by exact rfl) (y:Passes (uV X.prog X.w) X E:=by exact De) (j:(x==("__debug__":Str))=false:=by decide) (z:f9 (e::f) X.env=(false,eval e X.env)::f9 f X.env:=by rfl) (m:(iJ pos<|f9 f X.env).any (·.1)=false:=by rfl) :
    EO X E T (.Call (.Name x p) (e::f) [] pos) (λ(d:D)(F:i->D->Prop) r=>q d (λp b l=>o p (λx n=>F x<|a b l n)<|λC n=>r C<|a b l n) r):=AT h.ok u v h.at_ h.kp h.bd y t j z m
variable{τ:Type}[Ow τ]
theorem vz{g:List hO}(i:Nat){z P o B s r:Type}[Sls z][Sls P][Sls o][Sls B][Sls s][Sls r][Lb r τ<|Bd C j×o]{n:B->r->o->D}{F:D->(P->B->r->Prop)->(cr->D->Prop)->Prop}
 {G:Wf (Bd C j×P) τ (Bd C j×o)} [A0:At i D (Bd C j) z] [A:At i B (Bd C j) s] [U:Pt i s (Bd C j) B] {k:Nat} {N:List Str} {O:Sem Bool}
 (h:Fm X.prog X.w X.K X.mg X.base T C m N G k) (Q:Jy X E T (e::g) n F) (H:vD k X.A:=by assumption) (I:zX X.K C:=by exact Aw.cl<|by assumption) (hx:Passes (uV X.prog X.w) X E:=by exact De) (J:PE X (.Name x v) (uN i):=by exact pv _) (R:∀a b c d u,(xF a b c d u j).lookup m=none:=by intros;rfl)
 (S:f9 (e::g) X.env=(false,eval e X.env)::f9 g X.env:=by rfl) (W:(iJ pos<|f9 g X.env).any (·.1)=false:=by rfl)
 (Y:eval (.Call (.Attribute (.Name x v) m apos) (e::g) [] pos) X.env=(do
 let L <- eval (.Name x v) X.env
 lZ apos.atName
 let (f,first) <- jW [L] (lQ L m O)
 mC pos f first (iJ pos (f9 (e::g) X.env)) (l6 pos (jX [] X.env))):=by rfl) :
    EO X E T (.Call (.Attribute (.Name x v) m apos) (e::g) [] pos) (λ(d:D)(Z:τ->D->Prop) M=>F d (λp b l=>G (A.get b,p) (λy q=>Z y<|n (U.put (A.hole b) q.1) l q.2)<|λC q=>M C<|n (U.put (A.hole b) q.1) l q.2) M) :=
  Pk i h.ok H I h.me h.bd hx J R (λt=>RM J I h.me h.ok H h.bd .nil hx t S W Y) Q
theorem HV(i:Nat){g:Type}[Sls g]{n:Wf (Bd C e×Unit) τ (Bd C e×Unit)}[A:At i D (Bd C e) g][U:Pt i g (Bd C e) D]{k:Nat}{t:List Str}{v:Sem Bool}
 (h:Fm X.prog X.w X.K X.mg X.base T C m t n k) (o:vD k X.A:=by assumption) (p:zX X.K C:=by exact Aw.cl<|by assumption) (q:Passes (uV X.prog X.w) X E:=by exact De) (r:PE X (.Name x j) (uN i):=by exact pv _) (z:∀a b c d u,(xF a b c d u e).lookup m=none:=by intros;rfl)
 (B:eval (.Call (.Attribute (.Name x j) m apos) [] [] pos) X.env=(do
 let s <- eval (.Name x j) X.env
 lZ apos.atName
 let (f,first) <- jW [s] (lQ s m v)
 mC pos f first (iJ pos (f9 [] X.env)) (l6 pos (jX [] X.env))):=by rfl) :
    EO X E T (.Call (.Attribute (.Name x j) m apos) [] [] pos) (λ(d:D)(F:τ->D->Prop) G=>n (A.get d,()) (λy l=>F y<|U.put (A.hole d) l.1)<|λC l=>G C<|U.put (A.hole d) l.1) :=
  Pl i h.ok o p h.me h.bd q r z (NW r p h.me h.ok o h.bd .nil q B)
end
end WL
namespace WL
open PySem L2
open Rep (rp)
open Ow (sl)
open Sls (rel)
section
structure Dq(K:fZ)(x:Str)(st:gP):Prop where
 ex:∃f fd,gB K gz x=some (some<|.ref f)/\ye K x x st f fd
structure Mq(K:fZ)(C:cr)(m q:Str)(st:gP):Prop where
 ex:∃f fd,Meth K C m f/\ye K m q st f fd
theorem YL{b:gP}{e:ci}(a:gB K gz x=some (some<|.ref f))(l:K.lookup f=some ⟨i,j,.func<|iX x x (vh b) (uK b) (ue b) .none e g pm m d n,h⟩)
 (c:iN K d x=true)(k:iC K (.ref f)=true):Dq K x b:=⟨_,_,a,C3 l c k⟩
theorem YM{b:gP}{e:ci}(a:gN K (.ref C) x=some (some<|.ref f))(i:nA K (.ref f)=true)(l:K.lookup f=some ⟨j,m,.func<|iX x q (vh b) (uK b) (ue b) .none e g pm n d o,h⟩)
 (c:iN K d q=true)(k:iC K (.ref f)=true):Mq K C x q b:=⟨_,_,⟨a,i,k⟩,C3 l c k⟩
noncomputable def Dq.f{x:Str}{a:gP}(q:Dq K x a):cr:=q.ex.choose
noncomputable def Dq.d{x:Str}{a:gP}(q:Dq K x a):g9:=q.ex.choose_spec.choose
noncomputable def Mq.f{x q:Str}{a:gP}(m:Mq K C x q a):cr:=m.ex.choose
noncomputable def Mq.d{x q:Str}{a:gP}(m:Mq K C x q a):g9:=m.ex.choose_spec.choose
theorem Dq.fn{a:gP}(q:Dq K x a)(X:K.In h)(G:h.Ns gz j)(c:List Str)
 (b:∀(k e l:ci)(m:Option cr)(g n:ci)(i:List ci),i.length=c.length->rS (iX x x (vh a) (uK a) (ue a) .none k e l m g n) ⟨i,[]⟩=pure (c.zip i)):Fn K j x a c q.f q.d :=
  have h:=q.ex.choose_spec.choose_spec;⟨h.2,hX X G h.1,h.2.binds b⟩
theorem Mq.fn{a:gP}(m:Mq K C x q a)(c:List Str)
 (b:∀(j e k:ci)(l:Option cr)(g n:ci)(i:List ci),i.length=c.length->rS (iX x q (vh a) (uK a) (ue a) .none j e k l g n) ⟨i,[]⟩=pure (c.zip i)):Mf K C x q a c m.f m.d :=
  have h:=m.ex.choose_spec.choose_spec;⟨h.2,h.1,h.2.binds b⟩
variable[L2.GX]
def Fn.fk{x:Str}{h:gP}{a:List Str}{f:cr}{b:g9}{A c d:Type}[Sls A][Sls c][Ow d]{e:Wf A d c}{k:Nat}(N:Fn K g x h a f b)(o:uL P w K g base (uV P w) k f b a (xN T e)):Fk P w K g base T x a e k:=⟨f,b,o,N.at_,N.fn.kp,N.bd⟩
def Mf.fm{x q:Str}{g:gP}{a:List Str}{f:cr}{b:g9}{A c d:Type}[Sls A][Sls c][Ow d]{e:Wf A d c}{k:Nat}(N:Mf K C x q g a f b)(o:uL P w K h base (uV P w) k f b a (xN T e)):Fm P w K h base T C x a e k:=⟨f,b,o,N.me,N.bd⟩
end
variable[L2.GX]
theorem CF{X:Cx}{E:XK}{T:cr}{f:List Nat}{n:Nat}{D g PO j:Type}[Sls D][Sls g][Sls PO][Ow j]{a:List gP}{w w':D->(g->Prop)->(j->PO->Prop)->(cr->PO->Prop)->Prop}(h:SW X E T f n a w)(i:∀d b c e,w' d b c e->w d b c e):SW X E T f n a w' :=
 let ⟨t,k,l⟩:=h
 ⟨t,k,λd F R m H b c e o s p=>l d F R m H b c e o s<|i d b c e p⟩
end WL
namespace WL
open PySem L2
open Rep (rp)
open Ow (sl)
open Sls (rel)
structure Cq where
 P:gS
 w:ic
 K:fZ
 mg:Str->Option ci
 base:hR
 T:cr
structure Bz(K:fZ):Prop where
 all:gB K gz "all"=some none
 zip:gB K gz "zip"=some none
 set:gB K gz "set"=some none
 sorted:gB K gz "sorted"=some none
 len:gB K gz "len"=some none
 list:gB K gz "list"=some none
 isinstance:gB K gz "isinstance"=some none
 int:gB K gz "int"=some none
 bool:gB K gz "bool"=some none
 range:gB K gz "range"=some none
 enumerate:gB K gz "enumerate"=some none
 tuple:gB K gz "tuple"=some none
 min:gB K gz "min"=some none
 max:gB K gz "max"=some none
 str:gB K gz "str"=some none
structure Bn(mg:Str->Option ci):Prop where
 all:mg "all"=none
 zip:mg "zip"=none
 set:mg "set"=none
 sorted:mg "sorted"=none
 len:mg "len"=none
 list:mg "list"=none
 isinstance:mg "isinstance"=none
 int:mg "int"=none
 bool:mg "bool"=none
 range:mg "range"=none
 enumerate:mg "enumerate"=none
 tuple:mg "tuple"=none
 min:mg "min"=none
 max:mg "max"=none
 str:mg "str"=none
theorem Bz.bn{K:fZ}(X:K.In h)(G:h.Ns gz a)(z:Bz K):Bn a :=
 let f:=λ{x:Str} (e:gB K gz x=some none)=>sk X G e
 ⟨f z.all,f z.zip,f z.set,f z.sorted,f z.len,f z.list,f z.isinstance,f z.int,f z.bool,f z.range,f z.enumerate,f z.tuple,f z.min,f z.max,f z.str⟩
variable[L2.GX]
abbrev wC(q:Cq)(x:Str)(c:List Str){A a b:Type}[Sls A][Sls a][Ow b](d:Wf A b a)(k:Nat):=Fk q.P q.w q.K q.mg q.base q.T x c d k
abbrev yT(q:Cq)(C:cr)(x:Str)(c:List Str){A a b:Type}[Sls A][Sls a][Ow b](d:Wf A b a)(k:Nat):=Fm q.P q.w q.K q.mg q.base q.T C x c d k
abbrev Gq(q:Cq)(k:Nat)(f:cr)(c:g9)(d:List Str){A a b:Type}[Sls A][Sls a][Ow b](e:Wf A b a):Prop:=uL q.P q.w q.K q.mg q.base (uV q.P q.w) k f c d<|xN q.T e
abbrev DB(q:Cq)(x:Str)(a:gP)(f:cr)(b:g9):Prop:=ye q.K x x a f b
@[reducible] def wSq{D c e a b:Type}(h:D->(e->Prop)->(b->a->Prop)->(cr->a->Prop)->Prop)(i:e->(c->Prop)->(b->a->Prop)->(cr->a->Prop)->Prop):D->(c->Prop)->(b->a->Prop)->(cr->a->Prop)->Prop:=λd j f g=>h d (λk=>i k j f g) f g
theorem uu{c:List Nat}{n:Nat}{D h d b e:Type}[Sls D][Sls h][Sls d][Sls b][Ow e]{i:gP}{a:List gP}{f:D->(d->Prop)->(e->b->Prop)->(cr->b->Prop)->Prop}{g:d->(h->Prop)->(e->b->Prop)->(cr->b->Prop)->Prop}(j:S1 X E T c n i f)(k:SW X E T c n a g)(l:Rv b c n:=by exact uI q0q) :
  SW X E T c n (i::a) (wSq f g):=Cw (w1:=f) (w2:=g) l j k
end WL
namespace L2
variable[L2.GX]
open PySem PySem.Spec PyProof.Rows
structure Pu(N P:List Str)(sc:kZ)(cl:List (Str×cr)):Prop where
 kind:sc.kind=.function
 co:sc.isCoroutine=false
 gen:sc.isGenerator=false
 nd:N.Nodup
 pre:N.take P.length=P
 par:∀x∈P,sc.names.lookup x=some .local
 As:∀y∈sc.names,y.2≠.cell
 has:∀x,sc.names.lookup x=some .free->∃c,cl.lookup x=some c
 inj:∀x y c,cl.lookup x=some c->cl.lookup y=some c->x=y
def JE(CX:NU)(P:gS)(w:ic)(K:fZ)(mg:Str->Option ci)(base:hR)(N:List Str)(qual:Str)(scope:kZ)(f:cr)(cd:ci)(cl:List (Str×cr))(A:iR)(outer:List Env)(s:gk)(H:Hp)(E:XK):Cx where
 prog:=P
 w:=w
 K:=K
 mg:=mg
 base:=base
 A:=A.deeper<|ig qual scope s.heap.objs.size f cd cl
 N:=N
 s₀:=s
 H₀:=H
 env:=ig qual scope s.heap.objs.size f cd cl
 outer:=outer
 stack:=ig qual scope s.heap.objs.size f cd cl::outer
 ex:=[]
 calm:=true
 fn:=λ_=>false
 pn:=[]
 xe:=λe s'=>gn (gp P w) (A.deeper<|ig qual scope s.heap.objs.size f cd cl) (tG (ig qual scope s.heap.objs.size f cd cl) e) (λ_ RN=>CX outer H s E e RN) (λe' RN=>CX outer H s E e' RN) s'
section
variable{P:gS}{w:ic}{K:fZ}{mg:Str->Option ci}{base:hR}{N ps:List Str}{qual:Str}{scope:kZ}{f:cr}{cd:ci}{cl:List (Str×cr)}{A:iR}{outer:List Env}{s:gk}{H:Hp}{E:XK}
theorem Pw:Passes (uV P w) (JE (uV P w) P w K mg base N qual scope f cd cl A outer s H E) E:=by intro a i j k e l I h;obtain⟨C,x,b,rfl,F,c⟩:=h;exact io (OF I rfl rfl F) (λ_ d g=>⟨C,x,b,rfl,g,c⟩) λ_ _ z=>z
theorem Px:∀{l:List (Str×d)},(l.map (·.1)).Nodup->(x,u)∈l->l.lookup x=some u:=by
 intro l
 induction l with
 | nil=>intro _ h;cases h
 | cons p l b =>
  intro a h;rw[gK,List.nodup_cons] at a;obtain⟨y,v⟩:=p;rcases List.mem_cons.mp h with z|z
  ·cases z;rw[gX,oH]
  ·have c:(x==y)=false:=beq_eq_false_iff_ne.mpr λe=>a.1 (by rw[<- e];exact List.mem_map.mpr ⟨_,z,rfl⟩);rw[gX,c];exact b a.2 z
theorem HW:∀(ps:List b)(a:List c),((ps.zip a).map (·.1)).Sublist ps
 | [],_=>by simp
 | _::_,[]=>by simp
 | p::ps,u::a=>by rw[List.zip_cons_cons,gK];exact(HW ps a).cons₂ p
theorem Te{ps:List Str}{i:Nat}(b:ps.Nodup)(c:ps[i]?=some x)(d:a[i]?=some u):(ps.zip a).reverse.lookup x=some u:=by
 refine Px ?_ ?_
 ·rw[List.map_reverse];refine List.pairwise_reverse.mpr<|oj Ne.symm ?_;exact b.sublist<|HW ps a
 ·rw[List.mem_reverse];refine List.mem_iff_getElem?.mpr ⟨i,?_⟩;rw[List.getElem?_zip_eq_some];exact⟨c,d⟩
theorem JF{j:hR}{D:Nat}{k:List V}(S:Pu N ps scope cl)(C:∀x c,cl.lookup x=some c->∃v,base.IsCell c v)(F:A.handled=none)(g:Hr P w K mg base A outer s H)(R:k.length=ps.length)(r:Vals k G)
 (I:j.Ns s.heap.objs.size (λx=>(ps.zip G).reverse.lookup x))(t:∀b o,s.heap.get? b=some o->j.get? b=some o):Inv (JE J P w K mg base N qual scope f cd cl A outer s H E) [] (start N k) H { s with heap:=j,toks:=D}:=by
  have L:ps.length<=N.length:=by have:=congrArg m7 S.pre;rw[kP] at this;lia
  have l:∀b:cr,b∉(JE J P w K mg base N qual scope f cd cl A outer s H E).ex:=λb z=>gy (show b∈([]:List cr) from z) q0o
  refine⟨⟨g.mod,S.kind,rfl,rfl,ga _,λy z c j d=>S.inj y z c j d,λy m=>?_,λy c z _=>(by cases z),λ_=>F,rJ g.frames,.inr ⟨rfl,rfl⟩,λb z=>gy z (l b),g.bs,g.Hh,λb _ _=>l b,λb z=>gy z (l b),g.xC,g.IC⟩,
    rfl,g.bare,Un.kept t,⟨_,I,λi y v j d T=>?_⟩,λy c h=>?_,g.uU.fresh (ga _),λy c h=>?_,λp n=>gy (show p∈([]:List (cr×Obj)) from n) q0o,g.uU.kept t,?_⟩
  · have m : scope.names.lookup y = some .cell \/ scope.names.lookup y = some .free := m
    rcases m with m|m
    · exact gy rfl<|S.As _<|jx m
    · exact S.has y m
  · have q : i<k.length := by
      unfold start at d
      by_cases q:i<k.length
      · exact q
      · rw[jk<|by simpa using q] at d
        rw[rr] at d
        split at d<;>cases d
    have M:k[i]?=some v:=by
      unfold start at d
      rw[kS (by simpa using q),i4] at d
      cases e:k[i]? with
      | none=>rw[e] at d;cases d
      | some a=>rw[e] at d;cases d;rfl
    refine e1a2 (r.get M) λu O Q=>?_
    have n:ps[i]?=some y:=by rw[<- S.pre,qU q0a];exact j
    have B:ps.Nodup:=by rw[<- S.pre];exact S.nd.sublist<|tH _ _
    exact⟨u,Q,.inl ⟨S.par y<|jd n,Te B n O⟩⟩
  · obtain⟨v, z⟩ := C y c h
    exact⟨v,z.keeps λb o e=>t b o (g.bs b o e).1⟩
  · refine e2a2 (C y c h) λv o z _ => ?_
    exact(g.bs c o z).2
  · unfold start
    show _=N.length
    rw[gw,gh,rT]
    lia
end
def ZD(X:Cx)(c:List gP)(e:hO)(t:TE):Prop :=
 ∀(a:List (cr×Obj)) (s:gk) (b:St) (H:Hp) (Q:VK),Inv X a b H s->t b H Q->sO (gp X.prog X.w) X.A (.func c X.env) (eval e X.env) (EP X a b Q) X.xe s
def ZE(X:Cx)(c:List gP)(d:gP)(t:TS):Prop :=
 ∀(a:List (cr×Obj)) (s:gk) (b:St) (H:Hp) (D:Ends),Inv X a b H s->t D b H->sO (gp X.prog X.w) X.A (.func c X.env) (exec d X.env) (SP X a D) X.xe s
def Py(X:Cx)(c:List gP)(d:List gP)(t:TS):Prop :=
 ∀(a:List (cr×Obj)) (s:gk) (b:St) (H:Hp) (D:Ends),Inv X a b H s->t D b H->sO (gp X.prog X.w) X.A (.func c X.env) (execs d X.env) (SP X a D) X.xe s
section
variable{fb:List gP}{pos:Pos}
theorem Pz{b:gP}(h:PS X b t):ZE X fb b t:=λa s c H D I q=>wpAt_of_wpAny<|h a s c H D I q
theorem CG{b:List gP}(h:Ed X b t):Py X fb b t:=λa s c H D I q=>wpAt_of_wpAny<|h a s c H D I q
theorem xy{e:gP}{a:List gP}(g:ZE X fb e h)(i:Py X fb a j):Py X fb (e::a) (IL h j):=λb s k H D I q=>by
 refine ks_wpAt_execs_cons<|qA (g b s k H _ I q) (λf l c=>?_) λ_ _ z=>z
 cases f with
 | next=>obtain⟨d,m,J,n⟩:=c;exact i b l d m D J n
 | brk=>exact c
 | cont=>exact c
 | ret u=>exact c
theorem Tf(h:ZD X fb e t):ZE X fb (.Return (some e) pos) (Vp t):=λa s b H D I q =>
 ks_wpAt_Return_some (qA (h a s b H _ I q) (λu g c=>e2a3 c λv d J r f=>⟨v,b,d,J,r,f⟩) λ_ _ z=>z)
theorem DC(h:ZD X fb e t)(c:jp e none pos.line X.env=pure false:=by rfl):ZE X fb (.Expr e pos) (Hm t):=λa s b H D I q =>
 ks_wpAt_Expr_any (qA (h a s b H _ I q) (λu i d=>e2a3 d λv f J r g=>⟨b,f,J,g⟩) λ_ _ z=>z) I.quiet c
end
structure JG(P:gS)(K:fZ)(C f yr cc:cr)(x0:Str):Prop where
 fn:∃(oc:ci)(od:Option cr)(fd:g9) (Mw:Array (Option ci)) (ar:Arg),K.lookup f=some ⟨oc,od,.func fd,Mw⟩/\(fd.params.posonlyargs++fd.params.args).head?=some ar/\ar.arg=x0
 code:∃(oc:ci)(od:Option cr)(vs:Array ci) (Mw:Array (Option ci)) (file:Str) (tf:Tok),K.lookup yr=some ⟨oc,od,.fields vs,Mw⟩/\vs[2]?=some (.str file tf)/\((P.main.file:Str)==file)=true
 cell:∃(oc:ci)(od:Option cr) (Mw:Array (Option ci)),K.lookup cc=some ⟨oc,od,.cell<|some<|.ref C,Mw⟩
 cls:∃cd,lS K C=some cd
 sub:j9 K C (.ref C)=some true
 opq:gB K qz "thirdparty.any"=some none
 top:(P.main.scope.names.lookup ("super":Str)).isSome=false
def YN(C:cr)(c:Sp)(E:XK)(t:TA):TE:=λb H Q=>∃a d e,b[0]?=some (some<|.ref a)/\H a=some (.ins C d e)/\t b H λf g=>c (.ref a::f) g Q E
def PB(K:fZ)(h:cr)(c:Pos)(f:List hO)(d:Env):Prop:=∀{M:Model} {B:iR} {Q e:ci->gk->Prop} {g:gk} {q a:cr},
 gn M B (tE<|iJ c<|f9 f d) (λi b=>qC K q h (.ref a) b.heap/\gn M B (call (.ref q) i) Q e b) e g->gn M B (mC c (.ref q) [] (iJ c<|f9 f d) []) Q e g
def MV(d e b c:Pos)(m:Str)(f:List hO):Prop:=∀a:Env,∃h:Sem Bool,eval (.Call (.Attribute (.Call (.Name "super" d) [] [] e) m b) f [] c) a=(do
 let g <- gY (.Call (.Name "super" d) [] [] e) m a (eval (.Call (.Name "super" d) [] [] e) a)
 lZ b.atName
 let (i,first) <- jW [g] (lQ g m h)
 mC c i first (iJ c (f9 f a)) [])
theorem cw_nil{K:fZ}(b:lE K f2=true):PB K f2 pos [] c:=λ{M B Q e f q a} h=>by refine oJ (P:=qC K q f2<|.ref a) rfl (tm b) ?_;refine am<|io h (λg i d=>?_) λ_ _ x=>x;refine gV ?_;exact am<|ap<|am<|ap<|ap d
theorem cw_cons{K:fZ}(f:lE K f2=true)(g:f9 (e::d) b=(false,eval e b)::f9 d b:=by rfl)(c:(iJ pos<|f9 d b).any (·.1)=false:=by rfl):PB K f2 pos (e::d) b:=λ{M B Q i j q a} h=>by rw[g] at h ⊢;exact oJ (P:=qC K q f2<|.ref a) (by show ((false||(iJ pos<|f9 d b).any (·.1))||false)=false;rw[c];rfl) (tm f)<|iV h
section
variable{P:gS}{w:ic}{K:fZ}{mg:Str->Option ci}{base:hR}{N ps:List Str}{qual:Str}{scope:kZ}{f yr cc:cr}{A:iR}{outer:List Env}{s:gk}{H:Hp}{E E0:XK}{C f2:cr}{x0 m:Str}{k:Nat}{YO:g9}{sp:Sp}{fb:List gP}{p0 p1 apos pos:Pos}{es:List hO}{ta:TA}
set_option tactic.hygienic true in
theorem F7(S:JG P K C f yr cc x0)(ab:N[0]?=some x0)(M:scope.names.lookup ("super":Str)=some .globalImplicit)(R:scope.names.lookup ("__class__":Str)=some .free)(x:scope.names.lookup x0=some .local)(ae:mg "super"=none)
 (hm:jm K C C m=some (some<|.ref f2)) (ht:og K (.ref f2)=some (.type "function")) (aq:lE K f2=true) (F:uL P w K mg base (uV P w) k f2 YO ps sp) (T:Binds K YO ps [])
 (hr:vD k (A.deeper<|ig qual scope s.heap.objs.size f (.ref yr) [("__class__",cc)])) (ha:PA (JE (uV P w) P w K mg base N qual scope f (.ref yr) [("__class__",cc)] A outer s H E) es ta)
 (af:PB K f2 pos es (ig qual scope s.heap.objs.size f (.ref yr) [("__class__",cc)])) (y:MV p0 p1 apos pos m es) (U:(m==("__class__":Str))=false:=by decide) :
    ZD (JE (uV P w) P w K mg base N qual scope f (.ref yr) [("__class__",cc)] A outer s H E) fb (.Call (.Attribute (.Call (.Name "super" p0) [] [] p1) m apos) es [] pos) (YN C sp E ta):=by
  intro l i σ H1 Q I h
  obtain⟨a,dx,fs,h0,ea,h⟩:=h
  have X:=I.xP
  obtain⟨oc,od,fd,au,ar,lf,hp,rfl⟩:=S.fn
  obtain⟨av,aw,ax,al,file,tf,lc,ag,B⟩:=S.code
  obtain⟨an,ao,aa,D⟩:=S.cell
  obtain⟨cd,j⟩:=S.cls
  obtain⟨mA,O,_,_,_,_⟩:=AB I.uU ea
  refine e1a2 I.loc λmL hn hl=>?_
  refine e1a2 (hl 0 ar.arg (.ref a) ab h0<|.inl x) λu ru lk=>?_
  obtain rfl:u=gC a:=ru
  have ah:mL ar.arg=some (.ref a):=by
    rcases lk with⟨_,q⟩|⟨q,_⟩
    · exact q
    · have q : scope.names.lookup ar.arg = some .cell \/ scope.names.lookup ar.arg = some .free := q
      rw[x] at q
      rcases q with q|q<;>cases q
  obtain⟨oD,G,J⟩:∃oD,i.heap.get? C=some oD/\oD.data=.cls cd:=by
    unfold lS at j
    split at j
    · rename_i c d ay sl ho
      cases j
      exact⟨_,X _ _ ho,rfl⟩
    · cases j
  refine e1a2 I.mod.blt λmb ai aj=>?_
  have ne:a≠C:=λz=>by
    have:=O.obj
    rw[z,G] at this
    cases this
    cases J
  obtain⟨pl,y⟩:=y<|ig qual scope s.heap.objs.size f (.ref yr) [("__class__",cc)]
  refine ks_wpAt_MethodCall (pl:=pl) (ks_wpAt_super_base (env:=ig qual scope s.heap.objs.size f (.ref yr) [("__class__",cc)]) M R U rfl (X _ _ lf) rfl hp rfl (X _ _ lc) rfl ag B S.top ?_) y
  refine qj I.ok.kind M<|m4 (env:=ig qual scope s.heap.objs.size f (.ref yr) [("__class__",cc)]) (I.mod.glob.keeps I.bk) ae (ai.keeps I.bk) ((aj _ q0s).trans rfl) ⟨rfl,?_⟩
  refine pO I.ok.kind R rfl ⟨_,X _ _ D,rfl⟩ ?_
  refine jV I.ok.kind x hn ah ?_
  refine ks_wpAny_isType_cls (h:=i.heap) (g:=i.gens) (d:=i.drawn) (t:=i.toks) (os:=i.os) G J ⟨rfl,?_⟩
  refine ks_wpAny_call_super (h:=i.heap) (g:=i.gens) (d:=i.drawn) (t:=i.toks) (os:=i.os) G J O.obj rfl (λc e=>by cases e) (oK X S.sub) λn e k'=>?_
  have L:Inv _ l σ H1 ⟨n,i.gens,i.drawn,i.toks,i.os⟩:=I.kept (t':=i.toks) k'
  unfold jm at hm
  rw[j] at hm
  obtain⟨of,ak,Y⟩:∃of,n.get? f2=some of/\of.cls=.type "function":=by
    have p:(K.lookup f2).map (·.cls)=some (.type "function"):=ht
    cases z:K.lookup f2 with
    | none=>rw[z] at p;cases p
    | some of=>rw[z] at p;exact⟨of,L.xP _ _ z,ii p⟩
  refine ks_wpAny_getMethod_super e (rD L.xP S.opq) (l₀:=cd.mro) (λA Q E s k q=>am<|(oB L.xP j) A _ E s k<|ap q) rfl L.xP hm ak Y ne U ?_
  have I2:Inv _ l σ H1 ⟨n.push { cls:=.type "method",data:=.fields #[.ref f2,.ref a]},i.gens,i.drawn,i.toks+1,i.os⟩:=L.kept (t':=i.toks+1) λb o z=>ce _ z
  have fr:H1 n.objs.size=none:=L.uU.fresh<|ga _
  have gq:(n.push { cls:=.type "method",data:=.fields #[.ref f2,.ref a]}).get? n.objs.size=some (lw (.ref f2)<|.ref a):=ni rfl rfl
  have I3:=I2.pinned (fp:=[n.objs.size]) (λb T=>by rw[List.mem_singleton.mp T];exact L.Fh (ga _) fr) λb T=>by rw[List.mem_singleton.mp T];exact⟨_,gq,λv z=>by cases z⟩
  refine af (a:=a)<|uR (ha pos _ _ σ H1 _ I3 h) λZ s2 z9=>e2a3 z9 λvs H2 I4 r q2=>?_
  have g2:s2.heap.get? n.objs.size=some (lw (.ref f2)<|.ref a):=(I4.pin (n.objs.size,lw (.ref f2)<|.ref a)<|gE _<|gE _<|wD gc gq).1
  refine⟨⟨g2,I4.xP⟩,?_⟩
  have I5:=I4.y8
  have r2:Vals (.ref a::vs) (.ref a::Z):=.cons rfl r
  have hl:(gC a::Z).length=ps.length:=by rw[<- r2.length];exact F.len _ _ _ _ q2
  refine lP<|ks_codeAny_call_bound g2<|jl (F.run _ _ s2 H2 ⟨.ref a::Z,[]⟩ (.ref a::Z) (.ref a::vs) Q E hr I5.Ht (by simpa using T s2 (.ref a::Z) I5.xP (by simpa using hl)) r2 q2) λr s' hq=>?_
  cases r with
  | error e=>exact Pw l σ H2 s2 e s' I5 hq
  | ok fl =>
    cases fl with
    | ret u=>exact I5.after hq
    | next=>exact gU hq
    | brk=>exact gU hq
    | cont=>exact gU hq
theorem F8{O:ci}(lk:K.lookup f=some ⟨oc,od,.func<|jM name qual g a scope i dV O F pm an d ct,aa⟩)(R:iN K d qual=true)
 (S:Pu N ps scope i) (hc:∀x c,i.lookup x=some c->∃o v,K.lookup c=some o/\o.data=.cell v) (G:∀j H Q E,sp j H Q E->j.length=ps.length)
 (z:∀(A:iR)(outer:List Env)(s:gk)(H:Hp)(j:List V)(Q:VK)(E:XK),vD k (A.deeper (ig qual scope s.heap.objs.size f d i))->sp j H Q E ->
 ∃t,Py (JE (uV P w) P w K mg base N qual scope f d i A outer s H E) a a t/\t { nx:=λ_ p=>Q .vK p,rt:=Q} (start N j) H) :
    uL P w K mg base (uV P w) (k+1) f (jM name qual g a scope i dV O F pm an d ct) ps sp:=by
  refine⟨G,λA outer s H args us j Q E T B hb r L=>?_⟩
  have hl:=G _ _ _ _ L
  have KX:K.In s.heap:=B.mod.Ay.keeps λb o e=>(B.bs b o e).1
  have U:s.heap.NoLimit:=B.mod.nolimit.keeps λb o e=>(B.bs b o e).1
  have l:∀x c,i.lookup x=some c->∃v,base.IsCell c v:=λx c h=>by
    refine e2a2 (hc x c h) λo v q1 q2=>?_
    exact⟨v,o,B.mod.Ay _ _ q1,q2⟩
  refine ks_codeAny_call_defAt (fd:=jM name qual g a scope i dV O F pm an d ct) (body:=a) (binds:=ps.zip us) T.depth (KX _ _ lk) rfl U (rV KX R) rfl hb S.As (λy hy=>S.par y.1 (oi hy).1) (λh1 X Y=>?_) S.co S.gen S.kind
  refine e1a2 (z A outer s H j Q E (T.deeper _) L) λt ht hq=>?_
  have I:Inv (JE (uV P w) P w K mg base N qual scope f d i A outer s H E) [] (start N j) H { s with heap:=h1,toks:=s.toks+(ps.zip us).length}:=JF S l T.hd B hl r X Y
  refine qA (ht [] _ (start N j) H _ I hq) (λfl Z D=>?_) λe Z D=>D
  have M:∀{n:St} {p:Hp} {v:V} {u:ci},Inv (JE (uV P w) P w K mg base N qual scope f d i A outer s H E) [] n p Z->RelV v u->Q v p->CE outer P w H s Q u Z :=
    λ{n p v u} J rv q=>⟨v,p,J.os,J.bare,J.base,J.uU,rv,q⟩
  cases fl with
  | ret u =>
    obtain⟨v,n,p,J,rv,q⟩:=D
    exact M J rv q
  | next =>
    refine e2a2 D λn p J q=>?_
    exact M (v:=V.vK) (u:=Value.none) J rfl q
  | brk =>
    refine e2a2 D λ_ _ _ q=>?_
    exact gU q
  | cont =>
    refine e2a2 D λ_ _ _ q=>?_
    exact gU q
end
end L2
namespace WL
variable[L2.GX]
open PySem L2
open Rep (rp)
open Ow (sl)
open Sls (rel)
structure xG(N P:List Str)(sc:kZ):Prop where
 kind:sc.kind=.function
 co:sc.isCoroutine=false
 gen:sc.isGenerator=false
 nd:N.Nodup
 pre:N.take P.length=P
 par:∀x∈P,sc.names.lookup x=some .local
 As:∀y∈sc.names,y.2≠.cell
 fr:∀y∈sc.names,y.2=.free->y.1="__class__"
 ks:sc.names.lookup ("super":Str)=some .globalImplicit
 kc:sc.names.lookup ("__class__":Str)=some .free
theorem xG.x{N P:List Str}{sc:kZ}(S:xG N P sc)(cc:cr):Pu N P sc [("__class__",cc)] :=
 ⟨S.kind,S.co,S.gen,S.nd,S.pre,S.par,S.As,λx h=>⟨cc,by have e:x="__class__":=S.fr _ (jx h) rfl;rw[e];rfl⟩,λx y c h1 h2=>by
  have q:∀{z:Str},([(("__class__":Str),cc)]:List (Str×cr)).lookup z=some c->z="__class__":=λ{z} h=>by
   by_cases e:(z==("__class__":Str))=true
   ·exact eq_of_beq e
   ·rw[gX,Bool.eq_false_iff.mpr e] at h;cases h
  rw[q h1,q h2]⟩
structure DD(P:gS)(K:fZ)(C:cr)(x qual:Str)(st:gP)(f:cr)(fd:g9):Prop where
 ex:∃(oc:ci)(od:Option cr)(kV doc pm:ci)(an:Option cr)(yr cc:cr)(ct:ci) (Mw:Array (Option ci)),
  fd=jM x qual (vh st) (uK st) (ue st) [("__class__",cc)] .none kV doc pm an (.ref yr) ct/\K.lookup f=some ⟨oc,od,.func fd,Mw⟩/\iN K (.ref yr) qual=true/\JG P K C f yr cc "self"
 kp:iC K (.ref f)=true
structure Sm(K:fZ)(C:cr)(m:Str)(f2:cr):Prop where
 find:jm K C C m=some (some<|.ref f2)
 ty:og K (.ref f2)=some (.type "function")
 fn:lE K f2=true
structure Fs(P:gS)(w:ic)(K:fZ)(mg:Str->Option ci)(base:hR)(C:cr)(m:Str)(ps:List Str)(sp:Sp)(k:Nat):Prop where
 ex:∃f2 YO,Sm K C m f2/\uL P w K mg base (uV P w) k f2 YO ps sp/\Binds K YO ps []/\mg "super"=none
theorem Tg{B b i:Type}[Sls B][Sls b][Ow i]{k:Bool}{l:Wf (Bd C k×B) i b}{c:List V}(h:xN T l c H Q E):∃a d m r,c=.ref a::r/\H a=some (.ins C d m):=by
 obtain⟨F,R,p,o,q,s,_⟩:=h;obtain⟨v,n,t,u,e,_,⟨a,d,w,x,y,z,A,j,_,g⟩,_⟩:=s.rel;subst j
 cases c with
 | nil=>cases e
 | cons v r=>injection e with f j;injection f with f;subst f;exact⟨a,d,_,r,rfl,g.ob⟩
theorem zq{o:gP}{d:List Str}{k:Nat}{B t X:Type}[Sls B][Sls t][Ow X]{fl:Bool}{u:Wf (Bd C fl×B) X t}{p:List hO} 
 (F:DD P K C x l o f fd) (S:xG d d (ue o)) (v:uK o=[.Return (some<|.Call (.Attribute (.Call (.Name "super" p0) [] [] p1) m apos) p [] pos) p2]) (Y:d[0]?=some ("self":Str)) (z:MV p0 p1 apos pos m p) (G:Fs P w K Z base C m d (xN T u) k)
 (ha:∀(g n:cr)(A:iR)(b:List Env)(s:gk)(H:Hp)(E:XK),PA (JE (uV P w) P w K Z base d l (ue o) f (.ref g) [("__class__",n)] A b s H E) p ta)
 (I:∀(a:cr)(r:List V)(H:Hp)(Q:List V->Hp->Prop),r.length+1=d.length->Q r H->ta ((V.ref a::r).map some) H Q) (J:∀(q:cr)(L:Env),lE K q=true->PB K q pos p L) (N:(m==("__class__":Str))=false:=by decide) :
    uL P w K Z base (uV P w) (k+1) f fd d (xN T u):=by
  obtain⟨oc,od,kV,aa,pm,an,g,n,ct,ab,rfl,lk,O,D⟩:=F.ex
  refine e2a4 G.ex λq ae M G hb R=>?_
  obtain⟨o1,o2,o3,i⟩:=D.cell
  refine F8 lk O (S.x n) (λy c h=>?_) G.len λA b s H vs Q E hr j=>?_
  · have e : c = n := by
      by_cases e:(y==("__class__":Str))=true
      · rw[gX, e] at h; cases h; rfl
      · rw[gX, Bool.eq_false_iff.mpr e] at h; cases h
    subst e
    exact⟨_,_,i,rfl⟩
  · have hl := G.len _ _ _ _ j
    obtain⟨a,dx,fs,r,rfl,ea⟩:=Tg j
    have U:start d (V.ref a::r)=(V.ref a::r).map some:=by unfold L2.start;rw[hl,pW];simp
    refine⟨IL (Vp<|YN C (xN T u) E ta) UD,?_,?_⟩
    · rw[v]
      exact xy (Tf<|F7 D Y S.ks S.kc (S.par _<|jd Y) R M.find M.ty M.fn G hb hr (ha g n A b s H E) (J q _ M.fn) z N)<|CG yz
    · rw[U]
      exact⟨a,dx,fs,rfl,ea,I a r H _ hl j⟩
class Fu(D:Type)[Sls D]:Prop where
 fu:∀{F R:Rg} {H:Hp} {d:D} {σ:St},rel F R H d σ->∃vs:List V,σ=vs.map some
instance:Fu Unit:=⟨λh=>⟨[],h.1⟩⟩
instance{τ D:Type}[Ow τ][Sls D][Hs τ][Fu D]:Fu (τ×D):=⟨λh=>by
 obtain⟨v,σ',F1,F2,rfl,_,h3,h4⟩:=h;obtain⟨u,rfl⟩:=Hs.has h3;obtain⟨vs,rfl⟩:=Fu.fu h4
 exact⟨u::vs,rfl⟩⟩
def ZF(X:Cx)(e:List gP)(E:XK)(T:cr)(f:List Nat)(n:Nat)(a:List gP){D c b d:Type}[Sls D][Sls c][Sls b][Ow d](w:D->(c->Prop)->(d->b->Prop)->(cr->b->Prop)->Prop):Prop:=∃t,Py X e a t/\UV E T f n t w
theorem U8{g:List gP}{c:List Nat}{n:Nat}{D h e b f:Type}[Sls D][Sls h][Sls e][Sls b][Ow f]{i:gP}{a:List gP}{j:D->(e->Prop)->(f->b->Prop)->(cr->b->Prop)->Prop}{k:e->(h->Prop)->(f->b->Prop)->(cr->b->Prop)->Prop}(o:S1 X E T c n i j)(p:ZF X g E T c n a k)(q:Rv b c n:=by exact uI q0q) :
  ZF X g E T c n (i::a) (λd r l m=>j d (λs=>k s r l m) l m) :=
 e1a2 o λx t u=> e1a2 p λy v w=> ⟨_,xy (Pz t) v,UW q u w⟩
theorem Th{o:gP}{A:iR}{b:List Env}{s:gk}{fb:List gP}{ms:List Nat}{n k:Nat}{l:List Str}{B t:Type}[Sls B][Sls t]{fl:Bool}{wf:Wf (Bd C fl×B) Unit t}{u:List hO}{p2:Pos}[Fu B][L:Ln B n]
 (D:JG P K C f j z "self") (S:xG l l (ue o)) (h0:l[0]?=some ("self":Str)) (J:MV p0 p1 apos pos m u) (G:Fs P w K mg base C m l (xN T wf) k) (hr:vD k (A.deeper<|ig i (ue o) s.heap.objs.size f (.ref j) [("__class__",z)]))
 (ha:PA (JE (uV P w) P w K mg base l i (ue o) f (.ref j) [("__class__",z)] A b s H E) u ta)
 (N:∀(a:cr)(r:List V)(H:Hp)(Q:List V->Hp->Prop),r.length=n->Q r H->ta ((V.ref a::r).map some) H Q) (O:∀(I:cr)(U:Env),lE K I=true->PB K I pos u U) (X:(m==("__class__":Str))=false:=by decide) (Y:jp (.Call (.Attribute (.Call (.Name "super" p0) [] [] p1) m apos) u [] pos) none p2.line (ig i (ue o) s.heap.objs.size f (.ref j) [("__class__",z)])=pure false:=by rfl) :
    ZF (JE (uV P w) P w K mg base l i (ue o) f (.ref j) [("__class__",z)] A b s H E) fb E T ms (n+1) [.Expr (.Call (.Attribute (.Call (.Name "super" p0) [] [] p1) m apos) u [] pos) p2] (λ(d:Bd C fl×B)(Z:t->Prop)(_:Unit->t->Prop) Ke=>wf d (λ_ p=>Z p) Ke):=by
  refine e2a4 G.ex λI ab M G hb aa=>?_
  refine⟨_,xy (DC (F7 D h0 S.ks S.kc (S.par _<|jd h0) aa M.find M.ty M.fn G hb hr ha (O I _ M.fn) J X) Y)<|CG yz,λd F R σ H1 Z Kr Ke En s1 hw kn kr ke=>?_⟩
  refine e4a4 (id s1.rel) λv ae F1 F2 e t2 h3 h4=>?_
  obtain⟨a,dx,d1,d2,d3,d4,us,rfl,_,g⟩:=id h3
  obtain⟨r,rfl⟩:=Fu.fu h4
  have hl:=L.ln h4
  rw[gh] at hl
  subst e
  refine⟨a,dx,_,rfl,g.ob,N a r H1 _ hl ⟨F,R,d,λ_ p=>Z p,Ke,s1,hw,λx p' v M1 M2 R' H' q c s' n'=>?_,λC y p' F' R' H' q c s'=>?_⟩⟩
  · exact kn p' M2 R' H' _ q (c.less λa h => .inr h) s'<|Ag.refl _ _
  · exact ke C y p' F' R' H' q c (by rw[iM<|by simp[hl]]; exact s')
theorem YQ{J:gP}{M:List Str}{k n:Nat}{ms:List Nat}{A PO:Type}[Sls A][Sls PO][L:Ln A n](dp:Rv PO ms n){w0:A->(PO->Prop)->(Unit->PO->Prop)->(cr->PO->Prop)->Prop}
 (F:DD P K C x j J f fd) (S:xG M M (ue J)) (hn:M.length=n)
 (r:∀(i u:cr)(A:iR)(b:List Env)(s:gk)(H:Hp)(E:XK),JG P K C f i u "self"->vD k (A.deeper<|ig j (ue J) s.heap.objs.size f (.ref i) [("__class__",u)])->ZF (JE (uV P w) P w K mg base M j (ue J) f (.ref i) [("__class__",u)] A b s H E) (uK J) E T ms n (uK J) w0) :
    uL P w K mg base (uV P w) (k+1) f fd M (xN T λ(p:A)(X:Unit->PO->Prop) N=>w0 p (λY=>X () Y) X N):=by
  have l:∀{o:List V} {H:Hp} {Q:VK} {E:XK},xN T (λ(p:A)(X:Unit->PO->Prop) N=>w0 p (λY=>X () Y) X N) o H Q E->o.length=n:=λh=>by
    obtain⟨F,R,p,Kn,N,s,_⟩:=h
    have:=L.ln s.rel
    rwa [gh] at this
  obtain⟨oc,od,kV,ae,pm,an,i,u,ct,af,rfl,lk,aa,D⟩:=F.ex
  obtain⟨o1,o2,o3,B⟩:=D.cell
  refine F8 lk aa (S.x u) (λy c h=>?_) (λo H Q E h=>(l h).trans hn.symm) λAr b s H o Q E hr Z=>?_
  · have e : c = u := by
      by_cases e:(y==("__class__":Str))=true
      · rw[gX, e] at h; cases h; rfl
      · rw[gX, Bool.eq_false_iff.mpr e] at h; cases h
    subst e
    exact⟨_,_,B,rfl⟩
  refine e1a2 (r i u Ar b s H E D hr) λt h1 h2=>?_
  refine⟨t,h1,?_⟩
  have hl:=l Z
  obtain⟨F,R,p,Kn,N,s0,hw,kn,ke⟩:=Z
  have ab:start M o=o.map some:=by unfold L2.start;rw[hl,hn,pW];simp
  rw[ab]
  have G:(o.map some).take n=o.map some:=iM (by rw[gh,hl];exact ga _)
  refine h2 p F R _ H _ Kn N _ s0 hw (λY F' O U I q c d g=>?_) (λx p' v F1 F2 O U q c d m=>?_) λC y p' F' O U q c d=>?_
  · have e' : I.take n = I := iM (by rw[g.1, gh, hl]; exact ga _)
    have g3:=dp.dp g (show rel F' O U Y (I.take n) by rw[e'];exact d.rel)
    rw[G] at g3
    exact kn () _ .vK (λ_=>False) F' O U q (c.less λa h=>h.elim (λz=>z.elim) id) ⟨g3,d.sub,d.wu,d.tab,d.uW,d.uM⟩ ⟨⟨λ_ z=>z,.vK,rfl,rfl⟩,λ_ z=>z.elim,λ_ z=>z.elim,λz=>z⟩
  · rw[G] at d
    exact kn x p' v F1 F2 O U q c d m
  · rw[G] at d
    exact ke C y p' F' O U q c d
def CH(C:cr):Sp:=λi H Q E=>∃p h,i=[.ref p]/\H p=some (.ins C h []) /\
 ∀c d e f g,(∀a,a=c\/a=d\/a=e\/a=f->H a=none)->[c,d,e,f].Nodup->g p=some (.ins C h<|xF c d e f 0 true)->(∀a,a=c\/a=d\/a=e\/a=f->g a=some (.dK []))->(∀b o,b≠p->H b=some o->g b=some o)->Q .vK g
theorem PD{J:gP}{k:Nat}{p3 p4:Pos}{i:List gP}(F:DD P K C "__init__" q J f fd)(S:xG ["self"] ["self"] (ue J))(ct:Aw K C)(cf:NC K C)(T:MV p0 p1 apos pos "__init__" [])
 (U:uK J=.Expr (.Call (.Attribute (.Call (.Name "super" p0) [] [] p1) "__init__" apos) [] [] pos) p2::i) (G:Fs P w K mg base C "__init__" ["self"] (FY C) k)
 (W:∀X,jp (.Call (.Attribute (.Call (.Name "super" p0) [] [] p1) "__init__" apos) [] [] pos) none p2.line X=pure false)
 (Y:∀(j r:cr)(A:iR)(d:List Env)(s:gk)(H:Hp)(E:XK),Ed (JE (uV P w) P w K mg base ["self"] q (ue J) f (.ref j) [("__class__",r)] A d s H E) i<|IL (Ml K (uN 0) CZ "head_by_tail")<|Ml K (uN 0) CZ "tail_by_head") :
    uL P w K mg base (uV P w) (k+1) f fd ["self"] (CH C):=by
  obtain⟨oc,od,kV,af,pm,an,j,r,ag,ah,rfl,lk,Z,D⟩:=F.ex
  refine e2a4 G.ex λf2 ai M G hB aa=>?_
  obtain⟨o1,o2,o3,l⟩:=D.cell
  refine F8 lk Z (S.x r) (λy c h=>?_) (λvs H Q E z9=>e2a2 z9 λp t e _=>by rw[e];rfl) λAr d s H vs Q E hr ab=>?_
  · have e : c = r := by
      by_cases e:(y==("__class__":Str))=true
      · rw[gX, e] at h; cases h; rfl
      · rw[gX, Bool.eq_false_iff.mpr e] at h; cases h
    subst e
    exact⟨_,_,l,rfl⟩
  refine⟨_,by rw[U];exact xy (DC (F7 D rfl S.ks S.kc (S.par _ gc) aa M.find M.ty M.fn G hB hr uB (cw_nil M.fn) T)<|W _)<|CG<|Y j r Ar d s H E,?_⟩
  obtain⟨p,t,rfl,m,k⟩:=ab
  refine⟨p,t,[],rfl,m,p,t,rfl,m,λL N H1 h1 h2 ae g1 g2 g3 g4=>?_⟩
  intro u v
  have O:p≠u:=uo g1 v
  have q2:L≠u:=uo g2 v
  have q3:N≠u:=uo g3 v
  refine⟨_,rfl,p,C,t,_,rfl,(by rw[ud O];exact g1),ct.cl,cf.nH,(by show 3<1000;decide),?_⟩
  intro B g
  have R:p≠B:=λz=>by rw[<- z,uh] at g;cases g
  rw[ud R.symm] at g
  have r2:B≠u:=λz=>by rw[z,uh] at g;cases g
  rw[ud r2] at g
  have r3:L≠B:=uo g2 g
  have r4:N≠B:=uo g3 g
  refine⟨_,rfl,p,C,t,_,rfl,(by rw[ud R,uh]),ct.cl,cf.nT,(by show 4<1000;decide),?_⟩
  have I:∀{b:cr} {o:HO},H b=some o->b≠p->H1 b=some o:=λh n=>g4 _ _ n h
  have z:∀{a:cr},a≠p->H1 a=none->H a=none:=λ{a} n h=>by
    cases e:H a with
    | none=>rfl
    | some o=>rw[I e n] at h;cases h
  refine k L N u B _ (λa ha=>?_) ?_ ?_ (λa ha=>?_) λb o nb Y=>?_
  · rcases ha with e|e|e|e <;> rw[e]
    · exact h1
    · exact h2
    · exact z O.symm v
    · exact z R.symm g
  · simp only[List.nodup_cons, gL, iD, k9, oW, lK, and_true, not_false_eq_true]
    exact⟨⟨ae,q2,r3⟩,⟨q3,r4⟩,r2.symm⟩
  · rw[uh]; rfl
  · have pd : p ≠ L := λe => by rw[e, h1] at m; cases m
    have pe:p≠N:=λe=>by rw[e,h2] at m;cases m
    rcases ha with e|e|e|e<;>rw[e]
    · rw[ud pd.symm, ud r3, ud pd.symm, ud q2]; exact g2
    · rw[ud pe.symm, ud r4, ud pe.symm, ud q3]; exact g3
    · rw[ud O.symm, ud r2.symm, ud O.symm, uh]
    · rw[ud R.symm, uh]
  · have e := I Y nb
    rw[ud nb,ud<|uo e g,ud nb,ud<|uo e v]
    exact e
section
variable{D:Type}[Sls D]
theorem PF{k:Nat}(M:Mk X.K C f)(F:uL X.prog X.w X.K X.mg X.base (uV X.prog X.w) k f fd ["self"] (CH C))(hr:vD (k+1) X.A)(hg:Gl X x)(hm:X.mg x=some (.ref C))(hb:Binds X.K fd ["self"] [])(hx:Passes (uV X.prog X.w) X E)(J:(x==("__debug__":Str))=false:=by decide) :
  EO X E T (.Call (.Name x p) [] [] pos) (λ(d:D)(O:Bd C true->D->Prop) _=>O ⟨[],[],0,[],[]⟩ d):=by
 refine⟨_,NY M F hr hg hm hb .nil hx J,λd F' R σ H O Ke Q s hw kn _=>?_⟩;intro y c L n m;refine⟨y,c,rfl,uh,λg i j l r hn nd P v S=>⟨rfl,?_⟩⟩
 have N:∀a,a=g\/a=i\/a=j\/a=l->a≠y/\a≠c/\H a=none:=λa ha=>by
  have h:=hn a ha;have U:a≠y:=λz=>by rw[z,uh] at h;cases h
  rw[ud U] at h;have W:a≠c:=λz=>by rw[z,uh] at h;cases h
  rw[ud W] at h;exact⟨U,W,h⟩
 have B:∀a,a∈adr y c g i j l true->a=y\/a=c\/a=g\/a=i\/a=j\/a=l:=λa h=>by simpa[adr] using h
 have G:∀a,a∈adr y c g i j l true->H a=none:=λa h=>(B a h).elim (λz=>by rw[z];exact L) λh=>h.elim (λz=>by rw[z];exact n) λh=>(N a h).2.2;have I:∀b o,H b=some o->r b=some o:=λb o q=>S b o (uo q L) (by rw[ud<|uo q L,ud<|uo q n];exact q);have Y:r c=some (.own y):=S c _ m (by rw[ud m,uh]);have hl:∀a,a∈adr y c g i j l true->r a≠none:=λa h=>(B a h).elim (λz=>by rw[z,P];simp) λh=>h.elim (λz=>by rw[z,Y];simp) λh=>by rw[v a h];simp
 have Z:Ext (λ_=>False) R H (λa=>R a\/a∈adr y c g i j l true) r:=⟨λb o _ h=>I b o h,λa h=>h.elim .inl λq=>.inr<|G a q⟩
 refine kn _ d (.ref y) (λa=>a∈adr y c g i j l true) F' (λa=>R a\/a∈adr y c g i j l true) r hw ⟨λb o _ _ h=>I b o h,Z.new,λa h=>h.elim (λq=>.inr<|G a q) .inl,λa h _=>.inl h⟩
  ⟨Sls.st s.rel Z (λ_ z=>z.elim)<|λ_ _ z=>z,λa h=>.inl<|s.sub a h,λa h=>h.elim (λz=>?_)<|hl a,?_,.inl s.uW,s.uM⟩ ⟨⟨y,c,g,i,j,l,[],rfl,λ_=>Iff.rfl,⟨?_,P,Y,v _<|.inl rfl,v _<|.inr<|.inl rfl,.nil,λ_=>v _<|.inr<|.inr<|.inl rfl,λ_=>v _<|.inr<|.inr<|.inr rfl⟩⟩,λa h=>.inr h,λa h z=>s.wu a (s.sub a z)<|G a h,λh=>yk s.tab<|G T h⟩
 ·cases e:H a with
  | none=>exact gy e<|s.wu a z
  | some u=>rw[I a u e];simp
 ·refine e1a2 s.tab λps e t=>?_;exact⟨ps,I _ _ e,t⟩
 ·show [y,c,g,i,j,l].Nodup;refine List.nodup_cons.mpr ⟨λh=>?_,List.nodup_cons.mpr ⟨λh=>?_,nd⟩⟩
  ·rcases List.mem_cons.mp h with z|z
   ·exact m z.symm
   ·exact(N y<|by simpa using z).1 rfl
  ·exact(N c<|by simpa using h).2.1 rfl
end
structure Dc(α:Type) where
 l:List (Int×α)
def PK{α:Type}[Rep α](R:Rg)(H:Hp):List (Int×α)->List (Key×V)->Prop:=Paired λe u=>u.1=gM e.1/\rp R H e.2 u.2
section
variable{α:Type}[Rep α]
theorem PH(e:Ext R R H b c):∀{l:List (Int×α)} {a:List (Key×V)},PK R H l a->PK b c l a:=by
 intro _ _ z
 induction z with
 | nil=>exact .nil
 | cons h t d=>exact .cons ⟨h.1,Rep.st h.2 e⟩ d
theorem JH{k:Int}:∀{l:List (Int×α)} {us:List (Key×V)},PK R H l us->(∀b,lk l k=some b->∃v,xn us (gM k)=some v/\rp R H b v)/\(lk l k=none->xn us (gM k)=none):=by
 intro z0 z1 z9
 induction z9 with
 | nil=>exact⟨(λb h=>by cases h),λ_=>rfl⟩
 | @cons e u l us h t Wv =>
  have i:=Wv;by_cases q:e.1=k
  ·have e1:lk (e::l) k=some e.2:=by unfold lk;rw[h8,decide_eq_true q];rfl
   rw[e1];refine⟨λb hb=>?_,(λz=>by cases z)⟩;cases hb;exact⟨u.2,yg (by rw[h.1,q]),h.2⟩
  ·have e1:lk (e::l) k=lk l k:=by unfold lk;rw[h8,gI q]
   rw[e1,yh<|by rw[h.1];intro z;exact q<|mJ z];exact i
theorem Lw{k:Int}{l:List (Int×α)}{us:List (Key×V)}(h:PK R H l us):(xn us<|gM k).isSome=(lk l k).isSome:=by
 have i:=JH (k:=k) h
 cases e:lk l k with
 | none=>rw[i.2 e];rfl
 | some b=>obtain⟨v,hv,_⟩:=i.1 b e;rw[hv];rfl
theorem JI:∀{l:List (Int×α)} {a:List (Key×V)},PK R H l a->a.length=l.length
 | _,_,.nil=>rfl
 | _,_,.cons _ t=>by rw[gG,gG,JI t]
theorem PJ{k:Int}{x:α}{v:V}(r:rp R H x v):∀{l:List (Int×α)} {us:List (Key×V)},PK R H l us->PK R H (l++[(k,x)]) (us++[(gM k,v)])
 | _,_,.nil=>.cons ⟨rfl,r⟩ .nil
 | _,_,.cons h t=>.cons h<|PJ r t
theorem Wx{k:Int}{x:α}{v:V}(r:rp R H x v):∀{l:List (Int×α)} {us:List (Key×V)},PK R H l us->PK R H (l.map λe=>if e.1=k then (e.1,x) else e) (us.map λkv=>if kv.1=gM k then (kv.1,v) else kv):=by
 intro z0 z1 z9
 induction z9 with
 | nil=>exact .nil
 | @cons e u l us h t Wv =>
  refine .cons ?_<|Wv;dsimp only;by_cases q:e.1=k
  ·rw[f7 q,f7<|by rw[h.1,q]];exact⟨h.1,r⟩
  ·rw[f8 q,f8<|by rw[h.1];intro z;exact q<|mJ z];exact h
theorem PL{k:Int}(r:rp R H x v){l:List (Int×α)}{us:List (Key×V)}(h:PK R H l us):PK R H (pk l k x) (putK us (gM k) v):=by
 unfold putK pk;rw[ze,Lw h]
 cases (lk l k).isSome with
 | true=>rw[f7 rfl,f7 rfl];exact Wx r h
 | false=>rw[f8 gr,f8 gr];exact PJ r h
end
instance{α:Type}[Rep α]:Ow (Dc α):=⟨λF R H x v=>∃a us,v=some (.ref a)/\(∀b,F b↔b=a)/\H a=some (.dK us)/\PK R H x.l us,
 λh e s n=>by
  refine e2a4 h λa us h1 h2 h3 h4=>?_
  exact⟨a,us,h1,h2,e.keep a _ (n a<|(h2 a).mpr rfl) h3,PH (e.wide s) h4⟩,
 λh e=>by
  refine e2a4 h λa us h1 h2 h3 h4=>?_
  exact⟨a,us,h1,λb=>(e b).symm.trans (h2 b),h3,h4⟩⟩
instance{α:Type}[Rep α]:Hs (Dc α):=⟨λz9=>e2a2 z9 λ_ _ h _=>⟨_,h⟩⟩
section
variable{D PO τ:Type}[Sls D][Sls PO][Ow τ]{α:Type}[Rep α]
theorem CI{i:Nat}[Sls c][A:At i D (Dc α) c](s:vm T F R H d e):∃a b,e[i]?=some (some<|.ref a)/\H a=some (.dK b)/\PK R H (A.get d).l b:=by obtain⟨v,j,k,f,m,⟨a,b,rfl,n,g,h⟩,o⟩:=A.take s.rel;exact⟨a,b,f,g,h⟩
theorem PM{i:Nat}[Sls w][A:At i D (Dc α) w][U:Pt i w (Dc α) D](s:vm T F R H d x):∃a g,x[i]?=some (some<|.ref a)/\H a=some (.dK g)/\PK R H (A.get d).l g /\
  ∀(j:List (Int×α)) (f:List (Key×V)),PK R H j f->Ch T F R H F R (upd H a<|.dK f)/\vm T F R (upd H a<|.dK f) (U.put (A.hole d) ⟨j⟩) x:=by
 obtain⟨v,N,O,y,m,⟨a,g,rfl,p,E,G⟩,I⟩:=A.take s.rel;have r:F a:=(m.all a).mpr<|.inl<|(p a).mpr rfl;have J:a≠T:=λz=>s.uM (by rw[<- z];exact r);refine⟨a,g,y,E,G,λj f L=>?_⟩;have B:=yH (F:=F) (R:=R) (H:=H) (a:=a) (o:=.dK f);have C:∀c,c=a->R c:=λc z=>by rw[z];exact s.sub a r
 have k:∀b u,b≠a->H b=some u->upd H a (.dK f) b=some u:=λb u z e=>by rw[ud z];exact e
 refine⟨⟨λb o n _ e=>k b o (λz=>n<|by rw[z];exact r) e,λ_ h=>.inl h,λ_ h=>.inl h,λ_ h _=>h⟩,Pt.same (A:=U) (Sls.st I B C λc z q=>m.xj c ((p c).mpr q) z) y m ⟨a,f,rfl,p,uh,PH (B.wide C) L⟩,s.sub,λc z=>?_,?_,s.uW,s.uM⟩
 ·by_cases e:c=a
  ·rw[e,uh];simp
  ·rw[ud e];exact s.wu c z
 ·refine e1a2 s.tab λM e t=>?_;exact⟨M,k _ _ (λz=>J z.symm) e,t⟩
theorem DE{a:hO}(i:Nat){D0:Type}[Sls D0][A:At i D (Dc α) D0]{wk:Wf D Int D}(hu:X.A.units+1<jQ)(hn:PE X (.Name x p1) (uN i))(hk:EW X E T a wk)(hs:Ob a:=by intro _ _;rfl) :
  EW X E T (.Subscript (.Name x p1) a pos) (λ(d:D)(Kn:α->D->Prop) Ke=>wk d (λk d1=>∃v,lk (A.get d1).l k=some v/\Kn v d1) Ke):=by
 refine e1a2 hk λta a1 a2=>?_;refine⟨_,Fq hu hn a1 hs,λd F R σ H Kn Ke Q s hw kn ke=>?_⟩;obtain⟨y0,us0,h1,_,_⟩:=CI (i:=i) s;refine⟨_,h1,a2 d F R σ H _ Ke _ s hw (λk d1 u F1 R1 H1 q1 c1 s1 r1=>?_) ke⟩;subst r1;obtain⟨y,us,g1,g2,g3⟩:=CI (i:=i) s1;rw[h1] at g1;cases g1;refine e1a2 q1 λz z1 z2=>?_;refine e1a2 ((JH g3).1 z z1) λv v1 v2=>?_;have g:=w9.k (k:=gM k) g2;rw[v1] at g;exact⟨_,v,rfl,g,kn z d1 v F1 R1 H1 z2 c1 s1 v2⟩
theorem PN(i:Nat){B:Type}[Sls B][A:At i D (Dc α) B][U:Pt i B (Dc α) D][J:Pj D PO n]{M:Wf D Int D}{N:Wf D α D}(hu:X.A.units+1<jQ)(hn:PE X (.Name x O) (uN i))(hk:EW X E T a M)(he:EW X E T e N)
 (hs:jp e (some<|.Subscript (.Name x O) a p3) pos.line X.env=pure false:=by rfl) :
    S1 X E T ms n (.Assign [.Subscript (.Name x O) a p3] e pos) (λ(d:D)(P:D->Prop)(Kr:τ->PO->Prop) j=>N d (λv I=>M I (λk r=>(A.get r).l.length<gf/\P (U.put (A.hole r) ⟨pk (A.get r).l k v⟩)) λC f=>j C<|J.pj f) λC f=>j C<|J.pj f):=by
  refine e1a2 hk λta a1 a2=>?_
  refine e1a2 he λte b1 b2=>?_
  have Q:∀{F R g h:Rg} {H b:Hp} {C y:cr} {f:D} {m:St} {j:cr->PO->Prop},(∀C y S g h b,j C S->Ch T F R H g h b->vm T g h b S (m.take n)->E (.ref C) (some y) b)->j C (J.pj f)->Ch T F R H g h b->vm T g h b f m->E (.ref C) (some y) b:=λt q c p=>by
    refine e1a2 (vM (PO:=PO) p) λG z L=>?_
    exact t _ _ _ G _ _ q (c.less z) L
  refine⟨_,Ft hu hn a1 b1 hs,λd F R m H P Kr j En s hw kn kr t=>b2 d F R m H _ _ _ s hw (λv I u F1 R1 H1 q1 W o r1=>?_) λC y f g h b q c p=>Q t q c p⟩
  obtain⟨y0,aa,Y,_,_⟩:=CI (i:=i) o
  refine⟨_,Y,a2 I F1 R1 m H1 _ _ _ o q1 (λk r w F2 R2 H2 Z c2 s2 r2=>?_) λC y f g h b q c p=>Q t q (Ch.trans s o.tab W c) p⟩
  subst r2
  refine e2a4 (PM (i:=i) s2) λy us z L g3 g4=>?_
  rw[Y] at z
  cases z
  obtain⟨c3,s3⟩:=g4 _ _<|PL (k:=k) (o.val c2 r1) g3
  exact⟨_,_,rfl,Fp.k (k:=gM k) L (by rw[JI g3];exact Z.1),kn _ F2 R2 _ m Z.2 (Ch.trans s o.tab W<|Ch.trans o s2.tab c2 c3) s3<|Ag.refl _ _⟩
end
section
variable{D PO τ:Type}[Sls D][Sls PO][Ow τ]{α β:Type}[Rep α][Rep β]
theorem EU{i:Nat}[Sls c][A:At i D (List Int) c](s:vm T F R H d e):∃a,e[i]?=some (some<|.ref a)/\H a=some (.lst<|(A.get d).map V.int):=by obtain⟨v,h,j,f,_,⟨_,u,rfl,a,k,rfl,_,b,g⟩,_⟩:=A.take s.rel;rw[paired_ints g] at b;exact⟨a,f,b⟩
theorem Ti(i j:Nat)[Sls D1][Sls D2][A:At i D (List Int) D1][B:At j D (List Int) D2](u:X.calm=true)(v:Gl X "sorted")(C:X.mg "sorted"=none)(L:Gl X "set")(M:X.mg "set"=none)(hn:PE X (.Name x c) (uN i))(G:PE X (.Name y e) (uN j))
 (f:f9 [.Name x c] X.env=(false,eval (.Name x c) X.env)::f9 [] X.env:=by rfl) (g:f9 [.Name y e] X.env=(false,eval (.Name y e) X.env)::f9 [] X.env:=by rfl)
 (h:f9 [.BinOp (.Call (.Name "set" N) [.Name x c] [] O) .BitXor (.Call (.Name "set" P) [.Name y e] [] S) W] X.env=(false,eval (.BinOp (.Call (.Name "set" N) [.Name x c] [] O) .BitXor (.Call (.Name "set" P) [.Name y e] [] S) W) X.env)::f9 [] X.env:=by rfl) :
    EO X E T (.Call (.Name "sorted" q1) [.BinOp (.Call (.Name "set" N) [.Name x c] [] O) .BitXor (.Call (.Name "set" P) [.Name y e] [] S) W] [] pos)
      (λ(d:D)(Y:OL Int->D->Prop) _=>(wl (A.get d)/\wl (B.get d)/\∃U:List Int,U.length<64/\(∀k∈A.get d,k∈U)/\∀k∈B.get d,k∈U)/\Y ⟨xr (A.get d)<|B.get d⟩ d):=by
  refine⟨_,v6 (AM u) v C jF (ul (v0 Sk (wE (HF u) L M mZ (ul hn uB f) (he:=f))<|wE (HF u) L M mZ (ul G uB g) (he:=g)) uB h) (he:=h),λd F R σ H Y Ke Q s hw kn ke=>?_⟩
  obtain⟨⟨Z,rb,U,hU,ua,ub⟩,o⟩:=hw
  have la:=vE Z ua
  have lb:=vE rb ub
  refine e1a2 (EU (i:=i) s) λa a1 a2=>?_
  refine⟨_,a1,a,A.get d,rfl,vA.of a2,q0a,λp ka hp aa ab ma=>?_⟩
  refine e0a3 (s.new (wq X.w p ka) hp) λt c1 _=>?_
  refine e1a2 (EU (i:=j) t) λb b1 b2=>?_
  refine⟨_,b1,b,B.get d,rfl,vA.of b2,q0a,λq kb hq ae af mb=>?_⟩
  refine e0a3 (t.new (wq X.w q kb) hq) λI c2 _=>?_
  have J:p≠q:=uo uh hq
  refine⟨p,q,ka,kb,rfl,rfl,by rw[ud J];exact uh,uh,q0a,λr m hr n mc=>?_⟩
  refine e0a3 (I.new (wq X.w r m) hr) λs3 c3 _=>?_
  have mm:∀k,k∈m↔k∈xr (A.get d) (B.get d):=λk=>by
    rw[mc,yb<|uq rb,ma,mb]
    by_cases h1:k∈A.get d<;>by_cases h2:k∈B.get d<;>simp[h1,h2]
  have lc:m.length<64:=by
    have:=SX.yi m U n λk o=>by
      rw[mc,ma,mb] at o
      exact o.elim (λz=>ub k z.1) λz=>ua k z.2
    lia
  refine⟨r,m,rfl,uh,lc,λl ns hl pn sn=>?_⟩
  rw[Dh pn sn,Ds n mm<|xE Z]
  refine e1a3 (wG s3 hl<|wY (R:=R)<|xr (A.get d)<|B.get d) λR' c4 s4 n4=>?_
  exact kn _ d _ _ F R' _ o (Ch.trans s t.tab c1<|Ch.trans t I.tab c2<|Ch.trans I s3.tab c3 c4) s4 n4
end
structure T3(α β γ:Type) where
 a:α
 b:β
 c:γ
instance{α β γ:Type}[Ow α][Ow β][Ow γ]:Ow (T3 α β γ):=⟨λF R H x v=>∃p u1 u2 u3 F1 F2 F3,v=some (.ref p)/\¬R p/\H p=some (.tup [u1,u2,u3])/\Dk F F1 F2 F3/\sl F1 R H x.a (some u1)/\sl F2 R H x.b (some u2)/\sl F3 R H x.c (some u3),
 λh e s n=>by
  obtain⟨p,u1,u2,u3,F1,F2,F3,h1,h2,h3,t,g1,g2,g3⟩:=h
  exact⟨p,u1,u2,u3,F1,F2,F3,h1,(e.wide s).not h2 h3,e.keep p _ (λz=>h2<|s p z) h3,t,Ow.st g1 e s λa z=>n a<|(t.all a).mpr<|.inl z,Ow.st g2 e s λa z=>n a<|(t.all a).mpr<|.inr<|.inl z,Ow.st g3 e s λa z=>n a<|(t.all a).mpr<|.inr<|.inr z⟩,
 λh e=>by
  obtain⟨p,u1,u2,u3,F1,F2,F3,h1,h2,h3,t,g⟩:=h
  exact⟨p,u1,u2,u3,F1,F2,F3,h1,h2,h3,⟨λa=>(e a).symm.trans (t.all a),t.Hc,t.IF,t.IG⟩,g⟩⟩
section
variable{D PO τ:Type}[Sls D][Sls PO][Ow τ]{α β γ:Type}[Ow α][Ow β][Ow γ]
theorem Tj{x1}(i j k:Nat)[Sls D'][Sls P][Sls Q][Sls S][Hs α][Hs β][Hs γ][g:At i D α P][l:At j P β Q][t:At k Q γ S][J:Pj S PO n](u:PE X (.Name x v) (uN i))(w:PE X (.Name y m) (uN j))(A:PE X (.Name z e) (uN k))
 (h1:f9 [.Name x v,.Name y m,.Name z e] X.env=(false,eval (.Name x v) X.env)::f9 [.Name y m,.Name z e] X.env:=by rfl) (h2:f9 [.Name y m,.Name z e] X.env=(false,eval (.Name y m) X.env)::f9 [.Name z e] X.env:=by rfl) (h3:f9 [.Name z e] X.env=(false,eval (.Name z e) X.env)::f9 [] X.env:=by rfl) :
    S1 X E T ms n (.Return (some<|.Tuple [.Name x v,.Name y m,.Name z e] x1 p4) pos) (λ(d:D)(_:D'->Prop)(U:T3 α β γ->PO->Prop) _=>U ⟨g.get d,l.get<|g.hole d,t.get<|l.hole<|g.hole d⟩<|J.pj<|t.hole<|l.hole<|g.hole d):=by
  refine⟨_,Bl<|NS<|ul u (ul w (ul A uB h3) h2) h1,λd F R σ H Kn U Ke En s hw kn kr ke=>?_⟩
  refine e3a4 (g.take s.rel) λ_ G1 G2 W b g1 r1=>?_
  obtain⟨B,rfl⟩:=Hs.has g1
  refine e3a4 (l.take r1) λ_ _ _ Y _ g2 r2=>?_
  obtain⟨C,rfl⟩:=Hs.has g2
  refine e3a4 (t.take r2) λ_ _ _ Z _ g3 _=>?_
  obtain⟨I,rfl⟩:=Hs.has g3
  refine⟨B,W,C,Y,I,Z,(by show 3<=gf;decide),λp hp=>?_⟩
  refine e0a3 (s.new (.tup [B,C,I]) hp) λL c1 n1=>?_
  refine e3a4 (g.take L.rel) λv1 o E1 b1 b k1 q1=>?_
  refine e3a4 (l.take q1) λv2 q E2 b2 c k2 q2=>?_
  refine e3a4 (t.take q2) λv3 r E3 b3 f k3 q3=>?_
  rw[W] at b1
  rw[Y] at b2
  rw[Z] at b3
  cases b1
  cases b2
  cases b3
  refine e1a2 (J.le q3) λG l1 l2=>?_
  have i1:∀a,o a->F a:=λa h=>(b.all a).mpr<|.inl h
  have i2:∀a,q a->F a:=λa h=>(b.all a).mpr<|.inr<|(c.all a).mpr<|.inl h
  have i3:∀a,r a->F a:=λa h=>(b.all a).mpr<|.inr<|(c.all a).mpr<|.inr<|(f.all a).mpr<|.inl h
  have M:∀a,G a->F a:=λa h=>(b.all a).mpr<|.inr<|(c.all a).mpr<|.inr<|(f.all a).mpr<|.inr<|l1 a h
  have dG:∀a,o a\/q a\/r a->¬G a:=λa h z=>by
    have N:=l1 a z
    rcases h with h|h|h
    · exact b.xj a h<|(c.all a).mpr<|.inr<|(f.all a).mpr<|.inr N
    · exact c.xj a h<|(f.all a).mpr<|.inr N
    · exact f.xj a h N
  have O:∀a,o a\/q a\/r a->F a:=λa h=>h.elim (i1 a) λh=>h.elim (i2 a)<|i3 a
  exact kr _ _ (.ref p) (λa=>o a\/q a\/r a) G R _ hw ⟨c1.keep,λ_ h=>.inl h,λa h=>.inl<|h.elim (O a)<|M a,λ_ h _=>h⟩ ⟨l2,λa h=>s.sub a<|M a h,L.wu,L.tab,s.uW,λh=>s.uM<|M T h⟩
    ⟨⟨p,B,C,I,o,q,r,rfl,n1,uh,⟨λ_=>Iff.rfl,λa h k=>b.xj a h<|(c.all a).mpr<|.inl k,λa h k=>b.xj a h<|(c.all a).mpr<|.inr<|(f.all a).mpr<|.inl k,λa h k=>c.xj a h<|(f.all a).mpr<|.inl k⟩,k1,k2,k3⟩,λa h=>s.sub a<|O a h,λa h z=>dG a h z,λh=>s.uM<|O T h⟩
theorem Tk(i j k:Nat){Zw Wj σ3 D0 D1 D2 D3 D4 D5:Type}[Ow Zw][Ow Wj][Ow σ3][Sls D0][Sls D1][Sls D2][Sls D3][Sls D4][Sls D5][A:At i D Zw D0][U:Pt i D0 α D1][A2:At j D1 Wj D2][U2:Pt j D2 β D3][A3:At k D3 σ3 D4][U3:Pt k D4 γ D5][J:Pj D PO n]{we:Wf D (T3 α β γ) D}
 (hp:PG X tg (Vu X.K 3<|Ez (BU i)<|Ez (BU j)<|Ez (BU k) Vt)) (hi:i∉ms) (hj:j∉ms) (hk:k∉ms) (he:EO X E T e we)
 (hb:∀{te:TE} {t:TG},PE X e te->PG X tg t->PS X (.Assign [tg] e pos) (Vv te t):=by intro te t h1 h2;exact IM h1 h2) :
    S1 X E T ms n (.Assign [tg] e pos) (λ(d:D)(Kn:D5->Prop)(Kr:τ->PO->Prop) Ke=>we d (λx d1=>Kn<|U3.put (A3.hole<|U2.put (A2.hole<|U.put (A.hole d1) x.a) x.b) x.c) λC d'=>Ke C<|J.pj d'):=by
  refine e1a2 he λt h1 h2=>?_
  refine⟨_,hb h1 hp,λd F R σ H Kn Kr Ke En s hw kn kr ke=>h2 d F R σ H _ _ _ s hw (λx d1 v F1 F2 R1 H1 q1 c1 s1 m1=>?_) λC y d' F' R' H' q c s'=>?_⟩
  · obtain⟨p, u1, u2, u3, G1, G2, G3, e1, e2, e3, t3, g1, g2, g3⟩ := m1.is
    cases e1
    have j1:∀a,G1 a->F1 a:=λa h=>(t3.all a).mpr<|.inl h
    have j2:∀a,G2 a->F1 a:=λa h=>(t3.all a).mpr<|.inr<|.inl h
    have j3:∀a,G3 a->F1 a:=λa h=>(t3.all a).mpr<|.inr<|.inr h
    refine e1a2 (EQ (i:=i) s1 (x:=x.a) (v:=u1) (F1:=G1) ⟨g1,λa h=>m1.sub a<|j1 a h,λa h z=>m1.xj a (j1 a h) z,λh=>m1.tab<|j1 T h⟩) λL1 k1 f1=>?_
    refine e1a2 (EQ (i:=j) f1 (x:=x.b) (v:=u2) (F1:=G2) ⟨g2,λa h=>m1.sub a<|j2 a h,λa h z=>(k1 a z).elim (λq=>t3.Hc a q h)<|m1.xj a<|j2 a h,λh=>m1.tab<|j2 T h⟩) λL2 k2 f2=>?_
    refine e1a2 (EQ (i:=k) f2 (x:=x.c) (v:=u3) (F1:=G3) ⟨g3,λa h=>m1.sub a<|j3 a h,λa h z=>(k2 a z).elim (λq=>t3.IG a q h) λz=>(k1 a z).elim (λq=>t3.IF a q h)<|m1.xj a<|j3 a h,λh=>m1.tab<|j3 T h⟩) λL3 k3 f3=>?_
    exact⟨p,[u1,u2,u3],rfl,yq.of e3,rfl,u1,[u2,u3],rfl,u2,[u3],rfl,u3,[],rfl,rfl,kn _ L3 R1 H1 _ q1 (c1.less λa h=>(k3 a h).elim (λq=>.inl<|j3 a q) λh=>(k2 a h).elim (λq=>.inl<|j2 a q) λh=>(k1 a h).elim (λq=>.inl<|j1 a q) .inr) f3<|((Ag.set hi).trans<|Ag.set hj).trans<|Ag.set hk⟩
  · refine e1a2 (vM (PO := PO) s') λG g1 g2 => ?_
    exact ke C y _ G R' H' q (c.less g1) g2
end
end WL
namespace L2
variable[L2.GX]
open PySem PySem.Spec PyProof.Rows
abbrev wI(X:Cx)(a:List (cr×Obj))(h:XK)(i:St->Prop):Cx :=
 { X with pn:=a,xe:=λe j=>∃(b:List (cr×Obj)) (c:St) (d:Hp) (f:gk) (C x:cr) (g:Hp),e=.ref x/\Inv { X with pn:=a} b c d f/\i c/\Dd X.prog X.w X.stack d f g C x j/\h (.ref C) (some x) g}
theorem Inv.Wy(I:Inv X a b H s):Inv (wI X (X.pn++a) d e) [] b H s :=
 ⟨⟨I.ok.mod,I.ok.kind,I.ok.glob,I.ok.blt,I.ok.above,I.ok.inj,I.ok.has,I.ok.Ny,I.ok.hd,I.ok.frames,I.ok.Bj,I.ok.RD,I.ok.bs,I.ok.Hh,I.ok.Ce,I.ok.CP,I.ok.xC,I.ok.IC⟩,I.os,I.bare,I.base,I.loc,I.cell,I.free,I.xh,λp c=>I.pin p (by simpa using c),I.uU,I.len⟩
theorem Inv.F9(I:Inv (wI X (X.pn++a) e f) b c H s):Inv X a c H s :=
 ⟨⟨I.ok.mod,I.ok.kind,I.ok.glob,I.ok.blt,I.ok.above,I.ok.inj,I.ok.has,I.ok.Ny,I.ok.hd,I.ok.frames,I.ok.Bj,I.ok.RD,I.ok.bs,I.ok.Hh,I.ok.Ce,I.ok.CP,I.ok.xC,I.ok.IC⟩,I.os,I.bare,I.base,I.loc,I.cell,I.free,I.xh,λp d=>I.pin p<|il _ d,I.uU,I.len⟩
theorem Inv.YR(I:Inv (wI X b d e) a c H s):Inv { X with pn:=b} a c H s :=
 ⟨⟨I.ok.mod,I.ok.kind,I.ok.glob,I.ok.blt,I.ok.above,I.ok.inj,I.ok.has,I.ok.Ny,I.ok.hd,I.ok.frames,I.ok.Bj,I.ok.RD,I.ok.bs,I.ok.Hh,I.ok.Ce,I.ok.CP,I.ok.xC,I.ok.IC⟩,I.os,I.bare,I.base,I.loc,I.cell,I.free,I.xh,I.pin,I.uU,I.len⟩
def JJ(c:NU)(X:Cx)(E:XK)(d:St):Prop:=∀(a:List (cr×Obj)) (H:Hp) (s:gk) (e:ci) (b:gk),Inv X a d H s->c X.stack H s E e b->X.xe e b
theorem YS(h:c b):JJ (uV X.prog X.w) (wI X d f c) f b:=by intro a g i e m I j;obtain⟨C,x,k,rfl,F,l⟩:=j;exact⟨a,b,g,i,C,x,k,rfl,I.YR,h,F,l⟩
theorem Tl(F:uL X.prog X.w X.K X.mg X.base l k f m g n)(o:vD k X.A)(p:Binds X.K m g d)(q:Vals b d)(t:JJ l X E i)
 (I:Inv X a i H s)(r:Vals vs us)(h:n (vs++b) H Q E):gn (gp X.prog X.w) X.A (call (.ref f) us) (EP X a i Q) X.xe s:=by
  have j:Vals (vs++b) (us++d):=r.append q
  have v:(us++d).length=g.length:=by rw[<- j.length];exact F.len _ _ _ _ h
  refine lP<|jl (F.run X.A X.stack s H ⟨us,[]⟩ (us++d) (vs++b) Q E o I.Ht (p s us I.xP v) j h) λr x c=>?_
  cases r with
  | error e=>exact t a H s e x I c
  | ok y =>
    cases y with
    | ret u=>exact I.after c
    | next=>exact gU c
    | brk=>exact gU c
    | cont=>exact gU c
def PP(c:NU)(X:Cx)(C:cr)(m:Str)(d:Sp)(a:List V)(E:XK)(e:TE)(t:TA):TE:=λb H Q=>JJ c X E b/\EB C m d a E e t b H Q
theorem PQ(G:PE X o J)(c:zX X.K C)(v:Meth X.K C m f)(F:uL X.prog X.w X.K X.mg X.base CX k f L M N)(O:vD k X.A)(P:Binds X.K L M R)(hd:Vals i R)(S:PA X (e::d) t)
 (j:f9 (e::d) X.env=(false,eval e X.env)::f9 d X.env:=by rfl) (n:(iJ pos<|f9 d X.env).any (·.1)=false:=by rfl)
 (ht:eval (.Call (.Attribute o m apos) (e::d) [] pos) X.env=(do
 let y <- eval o X.env
 lZ apos.atName
 let (f,first) <- jW [y] (lQ y m T)
 mC pos f first (iJ pos (f9 (e::d) X.env)) (l6 pos (jX [] X.env))):=by rfl) :
    PE X (.Call (.Attribute o m apos) (e::d) [] pos) (PP CX X C m N i E J t):=by
  intro b s z H Q I h
  obtain⟨U,h⟩:=h
  refine nP (pl:=T) (uR (G b s z H _ I h) λu Y p=>e2a3 p λx H1 B Z g=>e3a4 g λa dx fs ex ea l q=>?_) ht
  subst ex
  obtain rfl:u=gC a:=Z
  refine An B ea c v l ?_
  refine oT (first:=[.ref a]) (h₀:=X.base) I.ok.mod.Ay v.kp (uR (S pos b Y z H1 _ B q) λus s2 p=>e2a3 p λvs H2 D r q2=>⟨D.xP,?_⟩) j n
  exact Tl (us:=.ref a::us) (vs:=.ref a::vs) F O P hd U D (.cons rfl r) q2
def a0R(o:Option (List V))(h h':hR):Prop:=match o with
 | none=>h'=h
 | some xs=>∃yW:List ci,Vals xs yW/\xs.length<=gf/\h'=h.push { cls:=.type "tuple",data:=.seq yW.toArray}
def Lay(o:Option (List V))(H H':Hp):Prop:=match o with
 | none=>H'=H
 | some xs=>∃p,H p=none/\H'=upd H p (.tup xs)
def ClO(X:Cx)(d:hO)(e:List cr)(o:Option (List V)):Prop:=∀(x C:cr) (a:List (cr×Obj)) (s:gk) (f:St) (H:Hp) (Q:Bool->gk->Prop) (E:ci->gk->Prop),C∈e->Inv (hand X x) a f H s->(∃b,s.heap.get? x=some b/\b.cls=.ref C) ->
 (∀c,a0R o s.heap c->Q true { s with heap:=c}) ->
 gn (gp X.prog X.w) (X.A.mark<|some<|.ref x) (eval d X.env) (λv g=>gn (gp X.prog X.w) (X.A.mark<|some<|.ref x) (excMatches (.ref x) v) Q E g) E s
theorem Wz{r:Nat}(e:Gl X f)(g:X.mg f=some (.ref c))(h:Gl X i)(j:X.mg i=some (.ref d))(l:kD X.K (.ref c) [.ref c,.ref d]=some true)(m:kD X.K (.ref d) [.ref c,.ref d]=some true)
 (t:(f==("__debug__":Str))=false:=by decide) (u:(i==("__debug__":Str))=false:=by decide) :
    ClO X (.Tuple [.Name f D,.Name i F] r pos) [c,d] (some [.ref c,.ref d]):=by
  intro x n p s G H Q E v I ⟨J,y,A⟩ k
  have B:jg (gp X.prog X.w) s.heap (typeOf<|.ref x) (.ref n):=A▸(qQ y).andThen .now
  refine wpAny_Tuple_spliced ?_
  refine jq<|yx (X:=hand X x) I e g (jq<|yx (X:=hand X x) I h j (kj ?_) u) t
  refine⟨by show 2<=gf;decide,?_⟩
  have q:∀b o,s.heap.get? b=some o->(s.heap.push { cls:=.type "tuple",data:=.seq [gC c,gC d].toArray}).get? b=some o:=λb o z=>ce _ z
  have C:kD X.K (.ref n) [.ref c,.ref d]=some true:=by
    rcases List.mem_cons.mp v with z|z
    · rw[z]; exact l
    · rw[List.mem_singleton.mp z]; exact m
  refine(PySem.W.exm_tup2 (λa o z=>q a o<|I.xP a o z) (B.keeps q) (gu _ rfl) C).here ?_
  exact k _ ⟨[.ref c,.ref d],.cons rfl<|.cons rfl .nil,(by show 2<=gf;decide),rfl⟩
theorem Inv.adopt(I:Inv X a j H s)(f:Ak X a H p)(c:vk X.prog X.w (upd H p o) s.heap p o):Inv X a j (upd H p o) s:=by
 refine e0a6 f λi k r l n q=>?_;have d:∀b u,H b=some u->b≠p:=λb u e z=>by rw[z,i] at e;cases e
 have J:=I.step (h':=s.heap) (g':=s.gens) (d':=s.drawn) (t':=s.toks) (ch:=[p]) (H':=upd H p o) (λb g=>by rw[List.mem_singleton.mp g];exact⟨l,k,n,q⟩) (λb o _ _ _ e _=>e) (λb o _ _ _ e _=>⟨o.slots,e⟩)
  (λb _ g _ e=>by rw[ud λz=>g<|by rw[z];exact List.mem_singleton.mpr rfl];exact e) (λb o _ e=>⟨o,e⟩) (λb t e=>by rw[ud<|d b _ e];exact e) (λb o u e=>by rw[ud<|d b _ e];exact e) (λb v e=>⟨#[],by rw[ud<|d b _ e,e];simp⟩) (λm h=>h) (I.uU.UT i c) I.bare
 exact J
def YT(i:XK->(St->Prop)->List (cr×Obj)->TS)(j:List cr)(o:Option (List V))(k:cr->TS):TS:=λD d H=>∃e:XK,(∀c f b,e c f b->∃C∈j,c=.ref C)/\(∀g,i e (λh=>h=d) g D d H)/\∀(c:ci)(f:Option cr)(b a:Hp),e c f b->Lay o b a->∀x,k x D d a
theorem To(E:X.stack=X.env::X.outer)(Y:ClO X ty Cs o)
 (hb:∀U Φ N,Ed (wI X N U Φ) body<|tb U Φ N) (hs:∀x,Ed (hand X x) (b0::i)<|th x) :
    PS X (.Try body [.ExceptHandler (some ty) none (b0::i) hp] [] [] tp) (YT tb Cs o th):=by
  intro d s σ H D I h
  refine e1a3 h λU Z hB hH=>?_
  refine wpAny_Try_except<|io (hb U _ (X.pn++d) [] s σ H D I.Wy<|hB _) (λO g q=>?_)<|λe g q=>?_
  · cases O with
    | next=>obtain⟨a,c,J,z⟩:=q;exact mS ⟨a,c,J.F9,z⟩
    | brk=>obtain⟨a,c,J,z⟩:=q;exact⟨a,c,J.F9,z⟩
    | cont=>obtain⟨a,c,J,z⟩:=q;exact⟨a,c,J.F9,z⟩
    | ret u=>obtain⟨v,a,c,J,r,z⟩:=q;exact⟨v,a,c,J.F9,r,z⟩
  · obtain⟨aa, k, H1, s0, C', x, c, rfl, J, ab, F, hE⟩ := q
    subst ab
    refine e1a2 (Z _ _ _ hE) λC hC hc=>?_
    cases hc
    have nf:=F.Yj J.Zv
    refine e2a2 F.fly λB a0 O ae=>?_
    have af:kQ B (X.env::X.outer) x (.ref C') a0 g.heap:=by rw[<- E];exact O
    have ag:X.A.frames=some (X.env::X.outer):=by rw[<- E];exact J.ok.frames
    have ah:X.env.frame=some X.env.locals:=wX I E
    refine wpAny_looks_onW ag ah af λh4 P ai=>wpAny_landsW P λl m aj=>?_
    have j:g.heap.UpToSlots l:=ai.trans aj
    have G:∀(n:hR)(Q:Nat),B.StaysIn n->g.heap.UpToSlots n->Inv X d k c { g with heap:=n,toks:=Q}:=λn Q st up=>by
      obtain⟨u6,ak⟩:=OE F.un F.uU ae nf st up
      have J6:=J.call (h':=n) (g':=g.gens) (d':=g.drawn) (t':=Q) (ch:=[]) u6 ak F.bare<|λb z=>gy z q0o
      have e6:{ s0 with heap:=n,gens:=g.gens,drawn:=g.drawn,toks:=Q}={ g with heap:=n,toks:=Q}:=by
        have:=F.os
        obtain⟨_,_,_,_,an⟩:=g
        obtain⟨_,_,_,_,ao⟩:=s0
        rw[this]
      rw[<- e6]
      exact J6.a0t
    have I5:=G l g.toks m.1 j
    have R:∀(S:Hp)(t:hR),Lay o c S->Inv X d k S { g with heap:=t}->gn (gp X.prog X.w) (X.A.mark<|some<|.ref x) (execs (b0::i) X.env) (λf T=>SP X d D f T) (λ_ _=>False) { g with heap:=t}:=λS t hY I7=>by
      refine io (hs x d _ k S D I7.OH<|hH _ _ c S hE hY x) (λO s7 q=>?_) λ_ _ z=>z.elim
      cases O with
      | next=>obtain⟨a,c,J,z⟩:=q;exact⟨a,c,J.FF I.ok.hd,z⟩
      | brk=>obtain⟨a,c,J,z⟩:=q;exact⟨a,c,J.FF I.ok.hd,z⟩
      | cont=>obtain⟨a,c,J,z⟩:=q;exact⟨a,c,J.FF I.ok.hd,z⟩
      | ret u=>obtain⟨v,a,c,J,r,z⟩:=q;exact⟨v,a,c,J.FF I.ok.hd,r,z⟩
    refine wpAny_handleBy_cons (codeAny_handlers_test<|Y x C' d { g with heap:=l} k c _ _ hC I5.OH m.there λn hL=>?_) (by intro q;cases q)
    refine codeAny_handlers_suite ?_
    cases o with
    | none =>
      subst hL
      refine lands_againW (s:={ g with heap:=n}) m λt L y=>?_
      exact io (R c t rfl<|G t g.toks L.1<|j.trans y) (λ_ _ z=>z) λ_ _ z=>z.elim
    | some xs =>
      obtain⟨M,r,hz,rfl⟩:=hL
      have kp:∀b o,l.get? b=some o->(l.push { cls:=.type "tuple",data:=.seq M.toArray}).get? b=some o:=λb o z=>ce _ z
      have al:=PySem.W.flying_keeps m kp
      refine lands_againW (s:={ g with heap:=l.push { cls:=.type "tuple",data:=.seq M.toArray}}) al λt L y=>?_
      have I7:=G t g.toks L.1<|(j.trans<|pF kp).trans y
      have n5:c l.objs.size=none:=I5.uU.fresh<|ga _
      obtain⟨sl,e7⟩:=y l.objs.size _ (gu _ rfl) (λvs z=>by cases z)
      have I8:=I7.adopt (p:=l.objs.size) (o:=.tup xs) (I5.Fh (ga _) n5) ⟨hz,M,r,_,e7,rfl,_,rfl⟩
      exact io (R _ t ⟨_,n5,rfl⟩ I8) (λ_ _ z=>z) λ_ _ z=>z.elim
end L2
namespace WL
variable[L2.GX]
open PySem L2
open Rep (rp)
open Ow (sl)
open Sls (rel)
def BW(X:Cx)(T:cr)(c:List gP){D:Type}[Sls D](w:D->(D->Prop)->(cr->D->Prop)->Prop):Prop:=∀i j h,∃t,Ed (wI X h i j) c t/\∀(d:D)(F R:Rg)(b:St)(H:Hp)(k:D->Prop)(l:cr->D->Prop)(m:Ends),j b->vm T F R H d b->w d k l ->
 (∀e f g a,k e->Ch T F R H f g a->vm T f g a e b->m.nx b a)->(∀C y e f g a,l C e->Ch T F R H f g a->vm T f g a e b->i (.ref C) (some y) a)->t m b H
section
variable{D PO τ YU:Type}[Sls D][Sls PO][Ow τ][Ow YU]
theorem Tq{h:Pos}{o:List hO}(i:Nat){N P r B I E:Type}[Sls N][Sls P][Sls r][Sls B][Sls I][Sls E][Lb E YU<|Bd C k×r]{n:B->E->r->D}{O:D->(P->B->E->Prop)->(cr->D->Prop)->Prop}
 {Q:Wf (Bd C k×P) YU (Bd C k×r)} [A0:At i D (Bd C k) N] [A:At i B (Bd C k) I] [U:Pt i I (Bd C k) B]
 (W:∀a b c d u,(xF a b c d u k).lookup m=none) (Y:∀g j f,Jy (wI X f g j) g T (e::o) n O)
 (Z:∀(g:XK)(j:St->Prop) (f:List (cr×pV)) {t:TA},PA (wI X f g j) (e::o) t->PE (wI X f g j) (.Call (.Attribute (.Name x S) m apos) (e::o) [] pos) (PP (uV X.prog X.w) (wI X f g j) C m (xN T Q) [] g (uN i) t))
 (hs:jp (.Call (.Attribute (.Name x S) m apos) (e::o) [] pos) none h.line X.env=pure false:=by rfl) :
    BW X T [.Expr (.Call (.Attribute (.Name x S) m apos) (e::o) [] pos) h] (λ(d:D) J F=>O d (λp b l=>Q (A.get b,p) (λ_ y=>J<|n (U.put (A.hole b) y.1) l y.2)<|λC y=>F C<|n (U.put (A.hole b) y.1) l y.2) F):=by
  intro g j f
  refine e1a2 (Y g j f) λtr b1 b2=>?_
  refine⟨_,wQ<|AA (Z g j f b1) hs,λd G R σ H J F En L s hw kn ke=>⟨YS L,?_⟩⟩
  refine HU i W b2 d G R σ H (λ_ M=>J M) F _ s hw (λx M v F1 F2 R' H' q c s' m=>?_) ke
  exact kn M F2 R' H' q (c.less λa z=>.inr z) s'
theorem YV{j:Pos}{n:List hO}(i:Nat){H P v B G z:Type}[Sls H][Sls P][Sls v][Sls B][Sls G][Sls z][Lb z YU<|Bd C q×v]{r:B->z->v->D}{I:D->(P->B->z->Prop)->(cr->D->Prop)->Prop}
 {J:Wf (Bd C q×P) YU (Bd C q×v)} [A0:At i D (Bd C q) H] [A:At i B (Bd C q) G] [U:Pt i G (Bd C q) B] {k:Nat} {N:List Str} {O:Sem Bool}
 (h:Fm X.prog X.w X.K X.mg X.base T C m N J k) (Q:vD k X.A) (R:zX X.K C) (S:∀(o:XK)(s:St->Prop) (g:List (cr×pV)),PE (wI X g o s) (.Name x F)<|uN i) (W:∀(o:XK)(s:St->Prop) (g:List (cr×pV)),Jy (wI X g o s) o T (e::n) r I) (Y:∀a b c d u,(xF a b c d u q).lookup m=none:=by intros;rfl)
 (Z:f9 (e::n) X.env=(false,eval e X.env)::f9 n X.env:=by rfl) (h2:(iJ pos<|f9 n X.env).any (·.1)=false:=by rfl)
 (h3:eval (.Call (.Attribute (.Name x F) m apos) (e::n) [] pos) X.env=(do
 let L <- eval (.Name x F) X.env
 lZ apos.atName
 let (f,first) <- jW [L] (lQ L m O)
 mC pos f first (iJ pos (f9 (e::n) X.env)) (l6 pos (jX [] X.env))):=by rfl)
 (hs:jp (.Call (.Attribute (.Name x F) m apos) (e::n) [] pos) none j.line X.env=pure false:=by rfl) :
    BW X T [.Expr (.Call (.Attribute (.Name x F) m apos) (e::n) [] pos) j] (λ(d:D) Kn M=>I d (λp b l=>J (A.get b,p) (λ_ y=>Kn<|r (U.put (A.hole b) y.1) l y.2)<|λC y=>M C<|r (U.put (A.hole b) y.1) l y.2) M) :=
  Tq i Y W (λo s g {t} b1=>PQ (X:=wI X g o s) (CX:=uV X.prog X.w) (E:=o) (S o s g) R h.me h.ok Q h.bd .nil b1 Z h2 h3) hs
theorem Tr{j b:List gP}{G:List cr}{o:Option (List V)}{wb:D->(D->Prop)->(cr->D->Prop)->Prop}{I:D->(D->Prop)->(τ->PO->Prop)->(cr->PO->Prop)->Prop}(J:X.stack=X.env::X.outer)(L:ClO X ty G o)
 (M:BW X T j wb) (z:∀k,SW (hand X k) E T ms n (b0::b) I) :
    S1 X E T ms n (.Try j [.ExceptHandler (some ty) none (b0::b) hp] [] [] tp) (λ(d:D)(u:D->Prop)(A:τ->PO->Prop) B=>wb d u λC a=>C∈G/\I a u A B):=by
  refine⟨_,To (tb:=λN O f=>(M N O f).choose) (th:=λk=>(z k).choose) J L (λN O f=>(M N O f).choose_spec.1)<|λk=>(z k).choose_spec.1,λd F R r H u A B P s hw kn kr ke=>?_⟩
  refine⟨λc _ l=>∃C a h i,c=.ref C/\C∈G/\I a u A B/\Ch T F R H h i l/\vm T h i l a r,?_,λf=>?_,?_⟩
  · rintro c ox l ⟨C, a, h, i, e, m, _⟩
    exact⟨C,m,e⟩
  · exact(M _ _ f).choose_spec.2 d F R r H _ _ P rfl s hw (λa h i l q c Q => kn a h i l r q c Q<|Ag.refl _ _) λC y a h i l q c Q => ⟨C, a, h, i, rfl, q.1, q.2, c, Q⟩
  · rintro c ox l aa ⟨C, a, h, i, e, m, S, t, st⟩ hL k
    have go:∀{w:Hp},Ch T F R H h i w->vm T h i w a r->(z k).choose P r w:=λ{w} t st=>(z k).choose_spec.2 a h i r w u A B P st S (λd1 F1 R1 H1 U q c s1 g=>kn d1 F1 R1 H1 U q (Ch.trans s st.tab t c) s1 g) (λx W v M1 M2 Y Z q4 c4 S4 n4=>kr x W v M1 M2 Y Z q4 (Ch.trans s st.tab t c4) S4 n4) λC y W F4 Y Z q4 c4 S4=>ke C y W F4 Y Z q4 (Ch.trans s st.tab t c4) S4
    cases o with
    | none =>
      rw[hL]
      exact go t st
    | some xs =>
      obtain⟨p,hp,rfl⟩:=hL
      refine e0a3 (st.new (.tup xs) hp) λs3 c3 _=>?_
      exact go (Ch.trans s st.tab t c3) s3
end
structure YW(q:Cq)(C1 C2:cr)(y1 y2:Str):Prop where
 m1:q.mg y1=some (.ref C1)
 m2:q.mg y2=some (.ref C2)
 x1:kD q.K (.ref C1) [.ref C1,.ref C2]=some true
 x2:kD q.K (.ref C2) [.ref C1,.ref C2]=some true
end WL
namespace L2
variable[L2.GX]
open PySem PySem.Spec PyProof.Rows
theorem zr:Slot "wrapper_descriptor" "__get__" "wrapper_descriptor.__get__":=.of (owner:="wrapper_descriptor") (n:="__get__") (by rw[mV,kO];kernel_rfl) q0s q0s q0s
 (.inl<|by kernel_rfl) (by rw[sg];kernel_rfl)
theorem Ga:sd sV "wrapper_descriptor.__get__"=some Builtin.«wrapper_descriptor.__get__»:=entryFor_of_tree (by kernel_rfl)
theorem HX(a b c:ci):qN "wrapper_descriptor.__get__" ⟨[a,b,c],[]⟩:=by unfold qN;kernel_rfl
theorem yI:typeOf (.builtin "ValueError.__init__")=pure (.type "wrapper_descriptor"):=by kernel_rfl
def YX(obj cls:ci)(name:Str):Sem Unit:=do
  rule "descr.get.wrong-instance"
  raiseError "TypeError" s!"descriptor '{name.toString}' for '{← typeName cls}' objects doesn't apply to a '{← typeNameOf obj}' object"
theorem MW(x C:cr):Builtin.«wrapper_descriptor.__get__» ⟨[.builtin "ValueError.__init__",.ref x,.ref C],[]⟩=((isInstance (.ref x) (.type "ValueError") >>= λb=>if (!b)=true then YX (.ref x) (.type "ValueError") "__init__" else pure ()) >>= λ_=>newFields "method-wrapper" [.builtin "ValueError.__init__",.ref x] >>= ret):=by kernel_rfl
section
variable{prog:gS}{w:ic}{A:iR}{E:ci->gk->Prop}{h:hR}{g:Array oz}{d:Drawn}{t:Nat}{os:OsState}{so D x C:cr}{ox:Obj}{l0 l:List ci}{K:fZ}
theorem DF(c:h.get? x=some ox)(b:ox.cls=.ref C)(a:jg (gp prog w) h (isSubtype (.ref C)<|.type "ValueError") true)
 (e:R (.ok<|.ret<|.ref h.objs.size) ⟨h.push { cls:=.type "method-wrapper",data:=.fields #[.builtin "ValueError.__init__",.ref x]},g,d,t,os⟩) :
    lJ (gp prog w) A (.call (.builtin "wrapper_descriptor.__get__") ⟨[.builtin "ValueError.__init__",.ref x,.ref C],[]⟩) R ⟨h,g,d,t,os⟩:=by
  have f:(⟨h,g,d,t,os⟩:gk).TypeIs (.builtin "ValueError.__init__") "wrapper_descriptor":=by first|exact nI yI|exact yI
  refine mH zr.plain Ga<|zr.check _ _ _ _ _ _ _ _ f (HX _ _ _) ?_
  rw[MW]
  refine am<|am ?_
  refine am<|wpAny_typeOf_ref c ?_
  rw[b]
  refine PySem.W.Looks.at a ?_
  exact ap<|am<|hI<|ap e
theorem HY(a:h.get? so=some (oM D x C))(c:jg (gp prog w) h (opaqueClassAbove<|.ref C) none)(j:jg (gp prog w) h (mroOf<|.ref C) l0)(k:(l0.dropWhile (· != .ref D)).drop 1=l)(X:K.In h)
 (m:tq K "__init__" l=some (some<|.builtin "ValueError.__init__")) (n:h.get? x=some ox) (e:ox.cls=.ref C) (b:jg (gp prog w) h (isSubtype (.ref C)<|.type "ValueError") true) (f:x≠C)
 (o:Q (.done<|.ret<|.ref h.objs.size) ⟨h.push { cls:=.type "method-wrapper",data:=.fields #[.builtin "ValueError.__init__",.ref x]},g,d,t,os⟩) :
    gn (gp prog w) A (Builtin.«super.__getattribute__» ⟨[.ref so,.str "__init__" y],[]⟩) Q E ⟨h,g,d,t,os⟩:=by
  have lk:=zr.lookup
  have p:(gC x==gC C)=false:=by simp[f]
  have q:(("__init__":Str)==("__class__":Str))=false:=by decide
  have r:(#[.ref D,.ref x,.ref C]:Array ci)[0]?=some (.ref D):=rfl
  have s:(#[.ref D,.ref x,.ref C]:Array ci)[1]?=some (.ref x):=rfl
  have u:(#[.ref D,.ref x,.ref C]:Array ci)[2]?=some (.ref C):=rfl
  have i:(oM D x C).data=.fields #[.ref D,.ref x,.ref C]:=rfl
  have v:=yI
  repeat (first|(with_reducible refine iv a i r ?_)|(with_reducible refine iv a i s ?_)|(with_reducible refine iv a i u ?_)|(with_reducible refine ks_wpAny_notOpaque c ?_)|(with_reducible refine PySem.W.Looks.at j ?_;rw[k])|(refine ks_forIn_along X (λ_ _=>rfl) rfl ?_ m)|(with_reducible refine lR v ?_)|(simp only[q,p,qZ,kf,oC])|wp_step|dsimp only)
  exact DF n e b<|am<|ap<|ap<|ap o
end
section
variable{prog:gS}{w:ic}{A:iR}{E:ci->gk->Prop}{h:hR}{g:Array oz}{d:Drawn}{t:Nat}{os:OsState}
variable{nm q:Str}{C N:cr}{bs bm Ck:List ci}{hdct:Bool}{sn:List Str}{sub:List ci}{ab:Bool}{col:Option Bool}{dd:Option cr}{k0 k1 k2 k3 k5:Option ci}{B newId xg:String}
theorem zZ(F:jI B newId xg Ck)(T:rM h Ck bm){a:List ci} 
 (i:h.get? C=some (iZ nm q C N bs bm hdct sn sub ab col dd k0 k1 k2 k3 k5 newId)) (u:h.Ns N v) (y:v "__init__"=some (.ref n))
 (k:h.get? n=some z) (l:z.cls=.type "function")
 (D:∀p e,qJ h p e (.ref C) a ->
 gn (gp prog w) A (call (.ref n) (.ref e::a)) (λr s=>r=.none/\Q (.done (.ret (.ref e))) s) E ⟨p,g,d,t,os⟩) (hrest:a.length<=gf:=by size_fits) :
    gn (gp prog w) A (Builtin.«type.__call__» ⟨.ref C::a,[]⟩) Q E ⟨h,g,d,t,os⟩:=by
  repeat (first|with_reducible refine jc i ?_|with_reducible refine wpAny_madeBy_exc i ?_|wp_step)
  refine codeAny_call_builtin_code (mO _ F.quiet)<|wpAny_check_new_subT F T i ?_
  refine codeAny_exc_new_subT F T i ?_ hrest
  have j:∀b o,h.get? b=some o->((h.push { cls:=.type "tuple",data:=.seq a.toArray}).push { cls:=.ref C,data:=.fields #[.ref h.objs.size,.none,.none,.none,.bool false,.none]}).get? b=some o:=λb o e=>ce _<|ce _ e
  have c:=j _ _ i
  have f:((h.push { cls:=.type "tuple",data:=.seq a.toArray}).push
      { cls:=.ref C,data:=.fields #[.ref h.objs.size,.none,.none,.none,.bool false,.none]}).get? (h.objs.size+1)=some
      { cls:=.ref C,data:=.fields #[.ref h.objs.size,.none,.none,.none,.bool false,.none]}:=by heap_get
  have m:(gC C::bm).contains (.ref C)=true:=by simp
  repeat (first|with_reducible refine jc f ?_|(with_reducible refine pX c ?_;rw[m])|wp_step)
  refine wpAny_typeLookup_tail c (u.keeps j) (T.keeps j) F.mroIs F.init.lookup ?_
  rw[y]
  refine gV<|am ?_
  refine am<|jY (T:="function") ⟨_,j _ _ k,l⟩ ?_
  rw[f7 q0q]
  refine ap<|am<|io (D _ (h.objs.size+1) ⟨j,mh<|kN _,h.objs.size,f,mh<|ga _,ce _<|ni rfl rfl⟩) (λr s G=>?_) λ_ _ x=>x
  obtain⟨rfl,H⟩:=G
  wp_walk
  exact H
theorem DG(F:jI B newId xg Ck)(T:rM h Ck bm){a:List ci} 
 (c:h.get? C=some (iZ nm q C N bs bm hdct sn sub ab col dd k0 k1 k2 k3 k5 newId)) (k:h.Ns N l) (m:l "__init__"=some (.ref j))
 (f:h.get? j=some n) (i:n.cls=.type "function")
 (o:∀b e,qJ h b e (.ref C) a ->
 gn (gp prog w) (A.under (.builtin "type.__call__" ⟨.ref C::a,[]⟩)) (call (.ref j) (.ref e::a)) (λr p=>r=.none/\Q (.ref e) p) E ⟨b,g,d,t,os⟩) (hrest:a.length<=gf:=by size_fits) :
    gn (gp prog w) A (call (.ref C) a) Q E ⟨h,g,d,t,os⟩:=by
  have u:=tc_lookup
  have v:=tc_bind<|.ref C
  refine lP<|lM ?_
  repeat (any_goals (first|assumption|with_reducible refine jc c ?_|wp_step))
  refine⟨rfl,?_⟩
  exact codeAny_call_builtin_at (mO _ q0s) entry_typeCall<|wpAny_check_type_call_sub c<|zZ (hrest:=hrest) F T c k m f i λb e s=>o b e s
end
def zt(x:cr):Obj:={ cls:=.type "method-wrapper",data:=.fields #[.builtin "ValueError.__init__",.ref x]}
section
variable{prog:gS}{w:ic}{A:iR}{E:ci->gk->Prop}{h:hR}{g:Array oz}{d:Drawn}{t:Nat}{os:OsState}{so D x C:cr}{ox:Obj}{l0 l:List ci}{K:fZ}
theorem Ax(a:h.get? so=some (oM D x C))(f:jg (gp prog w) h (opaqueClassAbove<|.ref C) none)(n:jg (gp prog w) h (mroOf<|.ref C) l0)(o:(l0.dropWhile (· != .ref D)).drop 1=l)(X:K.In h)
 (p:tq K "__init__" l=some (some<|.builtin "ValueError.__init__")) (q:h.get? x=some ox) (i:ox.cls=.ref C) (b:jg (gp prog w) h (isSubtype (.ref C)<|.type "ValueError") true) (j:x≠C)
 (r:Q (.ref h.objs.size,[]) ⟨h.push<|zt x,g,d,t+1,os⟩):gn (gp prog w) A (lQ (.ref so) "__init__" y) Q E ⟨h,g,d,t,os⟩:=by
  have c:=F.ks_slot_super_ga.lookup
  have e:=F.ks_canon_super_ga
  have k:∀s,(⟨h,g,d,s,os⟩:gk).TypeIs (.ref so) "super":=λ_=>⟨_,a,rfl⟩
  refine am<|o4 (k _) c ?_
  show gn _ _ (if (Manifest.canonical "super.__getattribute__" != "object.__getattribute__")=true then _ else _) _ _ _
  rw[f7 e]
  refine am<|am<|wpAny_mkText<|gV<|am<|jY (k _)<|am<|lR c ?_
  refine am<|lR (show (if onTheHeap (.type "super") then mu (.type "super") "__getattr__" else pure none)=pure none from rfl) ?_
  refine am<|om<|gV ?_
  refine am<|lR (F.ks_slot_super_ga.bind _) ?_
  refine io (Q:=λv m=>v=.ref h.objs.size/\m=⟨h.push<|zt x,g,d,t+1,os⟩) (E:=λ_ _=>False)
    (ie F.ks_slot_super_ga (k _) F.ks_entry_super_ga (HY a f n o X p q i b j ⟨_,rfl,rfl,rfl⟩)<|F.ks_gaArgs_super _ _) (λv m u=>?_) λ_ _ z=>z.elim
  obtain⟨rfl,rfl⟩:=u
  exact ap<|ap r
theorem PR(h:hR)(e:h.get? q=some (zt x)):∃k,(k=Keeper.frame\/k=Keeper.machine\/k=Keeper.boundFrame)/\jg M h (keeperOf<|.ref q) k :=
 ⟨.machine,.inr<|.inl rfl,(qQ (part:=none) e).andThen .now⟩
variable{nm q:Str}{N:cr}{bs bm Ck:List ci}{hdct:Bool}{sn:List Str}{sub:List ci}{ab:Bool}{col:Option Bool}{dd:Option cr}{k0 k1 k2 k3 k5:Option ci}{newId:String}
theorem BF(F:jI "ValueError" newId "ValueError.__init__" Ck){c:List ci} 
 (f:h.get? C=some (iZ nm q C N bs bm hdct sn sub ab col dd k0 k1 k2 k3 k5 newId)) (i:h.get? x=some ox) (e:ox.cls=.ref C) (j:Q () ⟨h,g,d,t,os⟩) :
    gn M A (checkBoundCall "ValueError.__init__" ⟨.ref x::c,[]⟩) Q E ⟨h,g,d,t,os⟩:=by
  simp only[checkBoundCall,F.initKind,F.initRow]
  rw[f7 q0q]
  repeat (first|(with_reducible refine jc i ?_;rw[e])|with_reducible refine jc f ?_|wp_step)
  refine oq ?_
  rw[show ∀(a b:String)(n:Nat),Bind.check ⟨.positional,"*","ValueError",.self,[⟨"args",.varPos,false⟩]⟩ a b n (List.map (λx=>x.fst) ({ pos:=gC x::c}:Args).kw)=pure () from
    λa b n=>check_star_args _ _ _ _ _ _]
  exact ap j
theorem Tt(F:jI "ValueError" newId "ValueError.__init__" Ck){a:List ci}(o:h.get? C=some (iZ nm q C N bs bm hdct sn sub ab col dd k0 k1 k2 k3 k5 newId))(e:h.get? p=some (zt x))(j:h.get? x=some ox)(f:ox.cls=.ref C)(k:ox.data=.fields m)(n:m[0]?=some (.ref s))
 (r:Q .none ⟨(h.push { cls:=.type "tuple",data:=.seq a.toArray}).update x (Obj.mapFields (·.setIfInBounds 0 (.ref h.objs.size))),g,d,t,os⟩) (c:a.length<=gf:=by size_fits) :
    gn (gp prog w) A (call (.ref p) a) Q E ⟨h,g,d,t,os⟩:=by
  refine lP<|lM ?_
  refine am<|qb e ?_
  refine am<|BF F o j f<|ap ⟨j5 F.init.plain _,jf F.initEntry ?_⟩
  rw[iU F.init.plain]
  unfold Builtin.«BaseException.__init__»
  dsimp only
  rw[f8 q0o]
  have i:0<m.size:=(Array.getElem?_eq_some_iff.mp n).1
  have b:=ce (h:=h) { cls:=.type "tuple",data:=.seq a.toArray} j
  refine am<|hI (am<|am<|iv b k n<|am<|md b k i ?_) (by show a.toArray.size<=gf;rw[gv];exact c)
  exact rg<|ap r
end
open Builtin Builtin.ObjectAttr
section
variable{prog:gS}{w:ic}{A:iR}{E:ci->gk->Prop}{h:hR}{g:Array oz}{d:Drawn}{t:Nat}{os:OsState}{x C N:cr}{o:Obj}{v:ci}{name:Str}
variable{nm q:Str}{bs bm Ck:List ci}{sn:List Str}{sub:List ci}{ab:Bool}{col:Option Bool}{dd:Option cr}{k0 k1 k2 k3 k5:Option ci}{B newId sa owner:String}
theorem MX(e:StoreFacts B Ck sa owner)(f:bm.contains (.type owner)=true)
 (l:h.get? C=some (iZ nm q C N bs bm true sn sub ab col dd k0 k1 k2 k3 k5 newId)) (m:h.get? x=some o) (n:o.cls=.ref C) (j:Q () ⟨h,g,d,t,os⟩) :
    gn M A (checkBuiltinCall sa ⟨[.ref x,a,v],[]⟩) Q E ⟨h,g,d,t,os⟩:=by
  have i:(gC C::bm).contains (.type owner)=true:=by rw[ts,f,Bool.or_true]
  have k:=e.args (.ref x) a v
  simp only[checkBuiltinCall,e.kind,e.split]
  refine am ?_
  repeat (first|(with_reducible refine jc m ?_;rw[n])|(with_reducible refine pX l ?_;rw[i])|wp_step)
  cases b:Manifest.signature? sa with
  | none=>exact ap j
  | some c =>
    simp only[qN,b] at k
    have p:Bind.checkArgs sa c ⟨[.ref x,a,v],[]⟩=pure ():=k
    show gn M A (Bind.checkArgs sa c ⟨[.ref x,a,v],[]⟩) Q E _
    rw[p];exact ap j
set_option tactic.hygienic true in
theorem JK(m:sr (.ref x) "__setattr__" bm=pure ())
 (P:h.get? C=some (iZ nm q C N bs bm true sn sub ab col dd k0 k1 k2 k3 k5 newId)) (L2:jg (gp prog w) h (mu (.ref C) name) none)
 (l:h.get? x=some o) (R:o.cls=.ref C) (n:∀c,o.data≠.cls c) (p:o.dict=none)
 (S:∀i r s,h.get? s=none->(∀b u,b≠x->h.get? b=some u->i.get? b=some u)->i.get? x=some { cls:=o.cls,dict:=some s,data:=o.data,slots:=o.slots}->i.Ns1 s (λy=>if y=name then some v else none)->Q (.done<|.ret .none) ⟨i,g,d,r,os⟩) :
    gn (gp prog w) A (Builtin.«object.__setattr__» ⟨[.ref x,.str name Z,v],[]⟩) Q E ⟨h,g,d,t,os⟩:=by
  repeat (first|rw[refuse_eq]|(rw[refuseLoop_ref,m])|(with_reducible refine jc l ?_;rw[R])|with_reducible refine wpAny_mroOf_exc P ?_|(with_reducible refine PySem.W.Looks.at L2 ?_)|wp_step)
  rw[p,f8<|by simp[typeHasDict]]
  split
  · rename_i f
    cases f
  split
  · rename_i c f
    exact gy f<|n c
  · have a : (h.push { cls := .type "dict", data := .dict #[] }).get? x = some o := ce _ l
    have j:x≠h.objs.size:=gx<|gl l
    refine am<|wpAny_alloc' ?_
    refine am<|wpAny_update' a ?_
    refine ap ?_
    have z:((h.push { cls:=.type "dict",data:=.dict #[]}).update x λo=>{ cls:=o.cls,dict:=some h.objs.size,data:=o.data,slots:=o.slots}).get? h.objs.size
       =some { cls:=.type "dict",data:=.dict #[]} :=
      (o8 _ _ _ _ j.symm).trans (ni rfl rfl)
    have D:((h.push { cls:=.type "dict",data:=.dict #[]}).update x λo=>{ cls:=o.cls,dict:=some h.objs.size,data:=o.data,slots:=o.slots}).Ns h.objs.size (λ_=>none) :=
      ⟨_,#[],_,z,rfl,λe T=>gy T q0o,λ_=>rfl⟩
    refine am<|ap<|am<|wpAny_nsSet1 (rQ D) λi k M=>?_
    obtain⟨oD,U,X,F,G,H⟩:=k.count<|Within.cons name v Within.nil
    refine am<|wpAny_lookBehind F (by rw[G];exact pastItsLine_dict<|gO H<|by rw[gG,mn,iu];lia) ?_
    wp_walk
    refine S i _ h.objs.size (mh<|ga _) (λb u I O=>?_) ?_ k
    · exact(M.2 b<|gx<|gl O).trans<|(o8 _ _ _ _ I).trans<|ce _ O
    · refine(M.2 x j).trans (hZ _ a ?_)
      have J:=(Heap.get?_some_iff.mp l).2
      obtain⟨oc,od,L,Y⟩:=o
      cases L<;>first|rfl|exact J
theorem HZ(i:StoreFacts B Ck sa owner)(j:bm.contains (.type owner)=true)(k:sr (.ref x) "__setattr__" bm=pure ())
 (r:h.get? C=some (iZ nm q C N bs bm true sn sub ab col dd k0 k1 k2 k3 k5 newId)) (u:jg (gp prog w) h (mu (.ref C) "__setattr__") (some<|.builtin sa)) (L2:jg (gp prog w) h (mu (.ref C) name) none)
 (l:h.get? x=some o) (m:o.cls=.ref C) (n:∀c,o.data≠.cls c) (p:o.dict=none)
 (z:∀e a f,h.get? f=none->(∀b s,b≠x->h.get? b=some s->e.get? b=some s)->e.get? x=some { cls:=o.cls,dict:=some f,data:=o.data,slots:=o.slots}->e.Ns1 f (λy=>if y=name then some v else none)->Q () ⟨e,g,d,a,os⟩) :
    gn (gp prog w) A (setAttr (.ref x) name v) Q E ⟨h,g,d,t,os⟩:=by
  have I:=i.slot.bind<|.ref x
  repeat (any_goals (first|assumption|(with_reducible refine jc l ?_;rw[m])|(with_reducible refine PySem.W.Looks.at u ?_)|wp_step))
  refine mH i.slot.plain i.entry<|MX i j r l m<|JK k r L2 l m n p λe a f D F G H=>?_
  repeat (any_goals (first|assumption|wp_step))
  exact z e a f D F G H
end
def YY(C x:cr)(d:Option cr)(h:hR):Prop:=∃(a:cr),h.get? x=some { cls:=.ref C,dict:=d,data:=.fields #[.ref a,.none,.none,.none,.bool false,.none]}
def CJ(C x:cr)(d:Option cr):HO:=.ext<|YY C x d
theorem Gb(I:Inv X a c H s)(h:H x=some (CJ C x b)):YY C x b s.heap:=(I.uU x _ h).1
theorem JL(q:YY C x b h):vk P w H h x (CJ C x b) :=
 ⟨q,e1a1 q λ_ e=> ⟨_,e⟩,λf g a=>e1a1 a λc d k=>⟨c,k _ d⟩⟩
theorem cw_mw(i:f9 (e::f) b=(false,eval e b)::f9 f b)(c:(iJ pos<|f9 f b).any (·.1)=false)
 (h:gn M B (tE<|iJ pos<|f9 (e::f) b) (λj d=>d.heap.get? q=some (zt a)/\gn M B (call (.ref q) j) Q g d) g k):gn M B (mC pos (.ref q) [] (iJ pos<|f9 (e::f) b) []) Q g k:=by
  rw[i] at h ⊢
  exact oJ (P:=λh=>h.get? q=some (zt a)) (by show ((false||(iJ pos<|f9 f b).any (·.1))||false)=false;rw[c];rfl) PR<|iV h
def YZ(C:cr)(t:TA):TE:=λb H Q=>∃a,b[0]?=some (some<|.ref a)/\H a=some (CJ C a none)/\t b H λd c=>d.length<=gf/\c a=some (CJ C a none)/\Q .vK c
section
variable{P:gS}{w:ic}{K:fZ}{mg:Str->Option ci}{base:hR}{N:List Str}{qual:Str}{scope:kZ}{f yr cc:cr}{A:iR}{outer:List Env}{s:gk}{H:Hp}{E:XK}{C:cr}{x0:Str}{fb:List gP}{p0 p1 apos pos:Pos}{es:List hO}{e0:hO}{ta:TA}
variable{nm q:Str}{Ns:cr}{bs bm:List ci}{hdct:Bool}{sn:List Str}{sub:List ci}{ab:Bool}{col:Option Bool}{dd:Option cr}{k0 k1 k2 k3 k5:Option ci}
set_option tactic.hygienic true in
theorem PU(S:JG P K C f yr cc x0)(ae:N[0]?=some x0)(U:scope.names.lookup ("super":Str)=some .globalImplicit)(X:scope.names.lookup ("__class__":Str)=some .free)(B:scope.names.lookup x0=some .local)(af:mg "super"=none)
 (lC:K.lookup C=some (iZ nm q C Ns bs bm hdct sn sub ab col dd k0 k1 k2 k3 k5 "ValueError.__new__")) (hm:jm K C C "__init__"=some (some<|.builtin "ValueError.__init__")) (ag:j9 K C (.type "ValueError")=some true)
 (ha:PA (JE (uV P w) P w K mg base N qual scope f (.ref yr) [("__class__",cc)] A outer s H E) (e0::es) ta)
 (he:f9 (e0::es) (ig qual scope s.heap.objs.size f (.ref yr) [("__class__",cc)])=(false,eval e0<|ig qual scope s.heap.objs.size f (.ref yr) [("__class__",cc)])::f9 es (ig qual scope s.heap.objs.size f (.ref yr) [("__class__",cc)]))
 (l:(iJ pos<|f9 es<|ig qual scope s.heap.objs.size f (.ref yr) [("__class__",cc)]).any (·.1)=false) (D:MV p0 p1 apos pos "__init__" (e0::es)) :
    ZD (JE (uV P w) P w K mg base N qual scope f (.ref yr) [("__class__",cc)] A outer s H E) fb (.Call (.Attribute (.Call (.Name "super" p0) [] [] p1) "__init__" apos) (e0::es) [] pos) (YZ C ta):=by
  intro n i σ H1 Q I h
  refine e1a3 h λa h0 ea h=>?_
  have Y:=I.xP
  obtain⟨oc,od,fd,au,Z,lf,hp,rfl⟩:=S.fn
  obtain⟨av,aw,ax,an,file,tf,lc,ah,G⟩:=S.code
  obtain⟨ao,aq,aa,L⟩:=S.cell
  obtain⟨cd,j⟩:=S.cls
  obtain⟨t0,O⟩:=Gb I ea
  refine e1a2 I.loc λmL hn hl=>?_
  refine e1a2 (hl 0 Z.arg (.ref a) ae h0<|.inl B) λu ru lk=>?_
  obtain rfl:u=gC a:=ru
  have ai:mL Z.arg=some (.ref a):=by
    rcases lk with⟨_,q⟩|⟨q,_⟩
    · exact q
    · have q : scope.names.lookup Z.arg = some .cell \/ scope.names.lookup Z.arg = some .free := q
      rw[B] at q
      rcases q with q|q<;>cases q
  obtain⟨oD,M,R⟩:∃oD,i.heap.get? C=some oD/\oD.data=.cls cd:=by
    unfold lS at j
    split at j
    · rename_i c d ay sl ho
      cases j
      exact⟨_,Y _ _ ho,rfl⟩
    · cases j
  refine e1a2 I.mod.blt λmb aj ak=>?_
  have ne:a≠C:=λz=>by
    rw[z,M] at O
    cases O
    cases R
  obtain⟨pl,D⟩:=D<|ig qual scope s.heap.objs.size f (.ref yr) [("__class__",cc)]
  refine ks_wpAt_MethodCall (pl:=pl) (ks_wpAt_super_base (env:=ig qual scope s.heap.objs.size f (.ref yr) [("__class__",cc)]) U X q0q rfl (Y _ _ lf) rfl hp rfl (Y _ _ lc) rfl ah G S.top ?_) D
  refine qj I.ok.kind U<|m4 (env:=ig qual scope s.heap.objs.size f (.ref yr) [("__class__",cc)]) (I.mod.glob.keeps I.bk) af (aj.keeps I.bk) ((ak _ q0s).trans rfl) ⟨rfl,?_⟩
  refine pO I.ok.kind X rfl ⟨_,Y _ _ L,rfl⟩ ?_
  refine jV I.ok.kind B hn ai ?_
  refine ks_wpAny_isType_cls (h:=i.heap) (g:=i.gens) (d:=i.drawn) (t:=i.toks) (os:=i.os) M R ⟨rfl,?_⟩
  refine ks_wpAny_call_super (h:=i.heap) (g:=i.gens) (d:=i.drawn) (t:=i.toks) (os:=i.os) M R O rfl (λc e=>by cases e) (oK Y S.sub) λp e k'=>?_
  have T:Inv _ n σ H1 ⟨p,i.gens,i.drawn,i.toks,i.os⟩:=I.kept (t':=i.toks) k'
  unfold jm at hm
  rw[j] at hm
  refine Ax e (rD T.xP S.opq) (l0:=cd.mro) (λA Q E s k q=>am<|(oB T.xP j) A _ E s k<|ap q) rfl T.xP hm (k' _ _ O) rfl (oK T.xP ag) ne ?_
  have I2:Inv _ n σ H1 ⟨p.push<|zt a,i.gens,i.drawn,i.toks+1,i.os⟩:=T.kept (t':=i.toks+1) λb o z=>ce _ z
  have fr:H1 p.objs.size=none:=T.uU.fresh<|ga _
  have gq:(p.push<|zt a).get? p.objs.size=some (zt a):=ni rfl rfl
  have I3:=I2.pinned (fp:=[p.objs.size]) (λb y=>by rw[List.mem_singleton.mp y];exact T.Fh (ga _) fr) λb y=>by rw[List.mem_singleton.mp y];exact⟨_,gq,λv z=>by cases z⟩
  refine cw_mw (a:=a) he l<|uR (ha pos _ _ σ H1 _ I3 h) λus s2 z9=>e2a5 z9 λvs H2 I4 r q1 q2 q3=>?_
  have g2:s2.heap.get? p.objs.size=some (zt a):=(I4.pin (p.objs.size,zt a)<|gE _<|gE _<|wD gc gq).1
  refine⟨g2,?_⟩
  have I5:=I4.y8
  obtain⟨t1,O1⟩:=Gb I5 q2
  have al:=I5.xP
  obtain⟨m,g5,d5,t5,az⟩:=s2
  refine Tt gJ (al _ _ lC) g2 O1 rfl rfl rfl ?_ (by show us.length<=_;rw[<- r.length];exact q1)
  have hu:upd H2 a (CJ C a none)=H2:=by
    funext b
    by_cases y:b=a
    · rw[y, uh, q2]
    · rw[ud y]
  have O2:=hZ (f:=Obj.mapFields (·.setIfInBounds 0 (.ref m.objs.size))) (ce { cls:=.type "tuple",data:=.seq us.toArray} O1) rfl
  have J:=I5.write (x:=a) (e:=a) (o:=CJ C a none) (t':=t5) (h':=(m.push { cls:=.type "tuple",data:=.seq us.toArray}).update a (Obj.mapFields (·.setIfInBounds 0 (.ref m.objs.size)))) (by rw[q2];trivial) (.inl rfl)
    (λb u y z=>by rw[o8 _ _ _ _ y];exact ce _ z) ⟨_,O2⟩ (JL ⟨m.objs.size,O2⟩)
  rw[hu] at J
  exact⟨.vK,H2,J,rfl,q3⟩
end
theorem wU.a0T{s:hR}(k:wU P w H h)(t:H a=some (CJ C a none))(n:h.get? l=none)(x:∀b o,b≠a->h.get? b=some o->s.get? b=some o)(q:YY C a d s)(D:s.Ns1 l (λz=>if z=f then some u else none))(r:RelV y u) :
  wU P w (upd (upd H l<|.xd [(f,y)]) a<|CJ C a d) s/\∀A,Un A [] H (upd (upd H l<|.xd [(f,y)]) a<|CJ C a d) h s:=by
 have E:∀b v,H b=some v->b≠l:=λb v z e=>by obtain⟨o,i⟩:=zM k z;rw[e,n] at i;cases i
 have j:∀b v,H b=some v->(∀B,v≠.ext B)->upd (upd H l<|.xd [(f,y)]) a (CJ C a d) b=some v:=λb v z e=>by rw[ud λi=>by rw[i,t] at z;cases z;exact e _ rfl,ud<|E b v z];exact z
 refine⟨λb o z=>?_,λA=>⟨λb o z e _ _=>x b o (λi=>by rw[i,t] at e;cases e) z,λb o z e _ _=>⟨o.slots,x b o (λi=>by rw[i,t] at e;cases e) z⟩,λb o z e _=>?_,λb o z _=>?_,λb B z=>j b _ z (λ_ e=>by cases e),λb o v z=>j b _ z (λ_ e=>by cases e),λb I z=>⟨#[],by rw[j b _ z<|λ_ e=>by cases e];simp⟩⟩⟩
 ·by_cases e:b=a
  ·subst e;rw[uh] at z;cases z;exact JL q
  ·rw[ud e] at z;by_cases i:b=l
   ·subst i;rw[uh] at z;cases z;refine⟨_,D,λg=>?_⟩;by_cases m:g=f
    ·rw[m,List.lookup_cons_self,f7 rfl];exact r
    ·rw[gX,beq_false_of_ne m,f8 m];exact True.intro
   ·rw[ud i] at z;refine(k b o z).Cd (λc v p y=>x c v (λm=>?_) y) (λc y=>j c _ y λ_ e=>by cases e) λc J y=>j c _ y λ_ e=>by cases e
    rcases p with p|p
    ·exact e<|p▸m
    ·rw[m,t] at p;cases p
 ·have F:b≠a:=λi=>by rw[i,t] at e;cases e
  have G:b≠l:=λi=>by rw[i,n] at z;cases z
  rw[ud F,ud G];exact e
 ·by_cases e:b=a
  ·obtain⟨_,q⟩:=q;rw[e];exact⟨_,q⟩
  ·exact⟨_,x b o e z⟩
def Y0(C:cr)(f:Str)(e g:TE):TS:=λD c H=>g c H λy h=>e c h λx d=>∃a,x=.ref a/\d a=some (CJ C a none)/\∀b,d b=none->b≠a->D.nx c (upd (upd d b<|.xd [(f,y)]) a<|CJ C a<|some b)
theorem Tu(L:PE X o M)(N:PE X value P)(Q:jp value (some<|.Attribute o f e) pos.line X.env=pure false)
 (R:X.K.lookup C=some (iZ nm q C Ns bs B true sn sub ab S dd k0 E G k3 k5 l)) (m:B.contains (.type "object")=true) (n:∀x:cr,sr (.ref x) "__setattr__" B=pure ())
 (T:gN X.K (.ref C) "__setattr__"=some (some<|.builtin "object.__setattr__"))(U:gN X.K (.ref C) f=some none):PS X (.Assign [.Attribute o f e] value pos) (Y0 C f M P):=by
  intro b s p H D I h
  refine qF (uR (N b s p H _ I h) λu Y r=>e2a3 r λy H1 Z ry q=>uR (L b Y p H1 _ Z q) λov s2 r=>e2a3 r λx H2 i rx v=>e1a3 v λa ex J q2=>?_) Q
  subst ex
  obtain rfl:ov=gC a:=rx
  obtain⟨t0,O⟩:=Gb i J
  have w:=i.xP
  obtain⟨hp,g,d,t,os⟩:=s2
  refine HZ PySem.F.store_ValueError m (n a) (w _ _ R) (oh w T) (oh w U) O rfl (λc z=>by cases z) rfl λh' A j k z2 z3 z4=>?_
  have n1:H2 j=none:=by
    cases z:H2 j with
    | none=>rfl
    | some o=>obtain⟨u,q⟩:=zM i.uU z;rw[k] at q;cases q
  have na:j≠a:=λz=>by rw[z,O] at k;cases k
  obtain⟨E,G⟩:=wU.a0T (d:=some j) i.uU J k z2 ⟨t0,z3⟩ z4 ry
  exact⟨p,_,i.un (h':=h') (t':=A) (G _) E,q2 j n1 na⟩
theorem H0(b:bm.contains (.type "BaseException")=true)(k:A.handled=none)
 (h:gn M A x (λv a=>∃e t i,v=.ref e/\a.heap.get? C=some (iZ nm q C N bs bm hdct sn sub ab col dd k0 k1 k2 k3 k5 newId) /\
 a.heap.get? e=some { cls:=.ref C,dict:=i,data:=.fields #[.ref t,.none,.none,.none,.bool false,.none]}/\E (.ref e) a) E s) :
    gn M A (raiseStmt l (some x) none) Q E s:=by
  have f:(gC C::bm).contains (.type "BaseException")=true:=by rw[ts,b,Bool.or_true]
  unfold raiseStmt
  refine am<|io h (λv a c=>?_) λ_ _ x=>x
  obtain⟨e,t,i,rfl,j,m,n⟩:=c
  obtain⟨o,g,d,p,r⟩:=a
  repeat (first|with_reducible refine jc m ?_|with_reducible refine jc j ?_|(with_reducible refine pX j ?_;rw[f])|wp_step)
  exact wpAny_raiseNew_none k n
theorem Ia(F:jI B c y H) 
 (n:bm.contains (.type "BaseException")=true) (Y:A.handled=none) (k:(iJ l<|f9 args o).any (·.1)=false)
 (h:gn (gp prog w) A (eval (.Name x np) o) (λf m=>f=.ref C/\gn (gp prog w) A (evalArgs (.ref C) true (iJ l (f9 args o)) [])
 (λa b=>a.kw=[]/\a.pos.length<=gf/\b.heap.get? C=some (iZ nm q C N bs bm hdct sn sub ab col dd k0 k1 k2 k3 k5 c)/\(∃I,b.heap.Ns N I/\I "__init__"=some (.ref fI))/\(∃J,b.heap.get? fI=some J/\J.cls=.type "function")/\rM b.heap H bm /\
 ∀D e,qJ b.heap D e (.ref C) a.pos->gn (gp prog w) (A.under (.builtin "type.__call__" ⟨.ref C::a.pos,[]⟩)) (call (.ref fI) (.ref e::a.pos)) (λr G=>r=.none/\G.heap.get? C=some (iZ nm q C N bs bm hdct sn sub ab col dd k0 k1 k2 k3 k5 c) /\
 (∃t L,G.heap.get? e=some { cls:=.ref C,dict:=L,data:=.fields #[.ref t,.none,.none,.none,.bool false,.none]})/\E (.ref e) G) E { b with heap:=D}) E m) E s) :
    gn (gp prog w) A (exec (.Raise (some<|.Call (.Name x np) args [] l) none pos) o) Q E s:=by
  rw[arm_exec_Raise]
  refine am<|mB<|H0 (C:=C) (nm:=nm) (q:=q) (N:=N) (bs:=bs) (bm:=bm) (hdct:=hdct) (sn:=sn) (sub:=sub) (ab:=ab) (col:=col) (dd:=dd) (k0:=k0) (k1:=k1) (k2:=k2) (k3:=k3) (k5:=k5) (newId:=c) n Y<|am<|io (wpAny_Call_ofName<|io h (λf m i=>?_) λ_ _ x=>x) (λv S p=>am<|mB<|ap p) λ_ _ x=>x
  obtain⟨rfl,i⟩:=i
  unfold mC
  refine am<|gV<|io i (λa b j=>am<|mB ?_) λ_ _ x=>x
  obtain⟨U,M⟩:=a
  obtain⟨O,u,W,⟨I,Z,hi⟩,⟨J,P,R⟩,T,j⟩:=j
  obtain rfl:M=[]:=O
  obtain⟨hp,g,d,tk,os⟩:=b
  simp only[k]
  refine am<|wpAny_keeperOf_exc W ?_
  refine am<|DG (hrest:=u) F T W Z hi P R λD e hm=>io (j D e hm) (λr G X=>⟨X.1,?_⟩) λ_ _ z=>z
  obtain⟨_,c1,⟨t,L,c2⟩,c3⟩:=X
  exact am<|gV<|wpAny_point<|ap ⟨e,t,L,rfl,c1,c2,c3⟩
def A4(H:Hp)(x:cr):Hp:=λb=>if b=x then none else H b
theorem yJ:A4 H x x=none:=f7 rfl
theorem wZ(h:b≠x):A4 H x b=H b:=f8 h
section
variable{P:gS}{w:ic}{H H3 H4:Hp}{h h' h4:hR}{x C:cr}{c:Option cr}
theorem wU.PV(k:wU P w H h)(e:H x=some (CJ C x c)):wU P w (A4 H x) h:=λa o z=>by
 have g:a≠x:=λq=>by rw[q,yJ] at z;cases z
 rw[wZ g] at z
 have d:∀b u,H b=some u->(∀f,u≠.ext f)->A4 H x b=some u:=λb u q n=>by rw[wZ λy=>by rw[y,e] at q;cases q;exact n _ rfl];exact q
 exact(k a o z).Cd (λ_ _ _ q=>q) (λb q=>d b _ q λf y=>by cases y) λb i q=>d b _ q λf y=>by cases y
theorem wU.Gc(k:wU P w H h)(e:h.get? x=none):H x=none:=by
 cases z:H x with
 | none=>rfl
 | some o=>obtain⟨u,q⟩:=zM k z;rw[e] at q;cases q
theorem wU.Lx(k:wU P w H h)(e:h.get? x=none)(f:∀b o,h.get? b=some o->h'.get? b=some o)(n:YY C x c h'):wU P w (upd H x<|CJ C x c) h':=λa o z=>by
 by_cases q:a=x
 ·subst q;rw[uh] at z;cases z;exact JL n
 ·rw[ud q] at z;have d:∀b u,H b=some u->upd H x (CJ C x c) b=some u:=λb u y=>by rw[ud λg=>by rw[g,k.Gc e] at y;cases y];exact y
  exact(k a o z).Cd (λ_ _ _ y=>f _ _ y) (λb y=>d b _ y) λb i y=>d b _ y
theorem Un.Lx(k:wU P w H h)(e:h.get? x=none)(d:∀b o,h.get? b=some o->h'.get? b=some o):Un fs [] H (upd H x<|CJ C x c) h h':=by
 have a:∀b u,H b=some u->upd H x (CJ C x c) b=some u:=λb u y=>by rw[ud λf=>by rw[f,k.Gc e] at y;cases y];exact y
 refine⟨λb o z _ _ _=>d b o z,λb o z _ _ _=>⟨o.slots,d b o z⟩,λb o z n _=>?_,λb o z _=>⟨o,d b o z⟩,λb g z=>a b _ z,λb o u z=>a b _ z,λb i z=>⟨#[],by rw[a b _ z];simp⟩⟩;rw[ud λy=>by rw[y,e] at z;cases z];exact n
theorem Un.PV(u:Un fs [] H H4 h h4)(e:h.get? x=none)(d:H x=none):Un fs [] H (A4 H4 x) h h4:=by
 have a:∀b v,H b=some v->b≠x:=λb v y z=>by rw[z,d] at y;cases y
 refine⟨u.keep,u.slot,λb o z n f=>?_,u.there,λb g z=>?_,λb o v z=>?_,λb i z=>?_⟩
 ·rw[wZ λy=>by rw[y,e] at z;cases z];exact u.free b o z n f
 ·rw[wZ<|a b _ z];exact u.Az b g z
 ·rw[wZ<|a b _ z];exact u.Ai b o v z
 ·rw[wZ<|a b _ z];exact u.Aj b i z
end
def Tv(C:cr)(f:Sp)(a:List V)(E:XK)(h:TA):TS:=λ_ i H=>h i H λc e=>c.length<=gf/\∀x:cr,e x=none ->
 f (.ref x::c++a) (upd e x<|CJ C x none) (λv b=>v=.vK/\∃d,b x=some (CJ C x d)/\GX.g C d (A4 b x)/\E (.ref C) (some x) (A4 b x)) λ_ _ _=>False
section
variable{P:gS}{w:ic}{K:fZ}{mg:Str->Option ci}{base:hR}{N:List Str}{qual:Str}{scope:kZ}{f:cr}{cd:ci}{A:iR}{outer:List Env}{s:gk}{H:Hp}{E:XK}
variable{nm q:Str}{Ns:cr}{bs bm Ck:List ci}{hdct:Bool}{sn:List Str}{sub:List ci}{ab:Bool}{col:Option Bool}{dd:Option cr}{k0 k1 k2 k3 k5:Option ci}{B newId xg:String}
theorem MY{k:Nat}(hg:Gl (uY (uV P w) P w K mg base N qual scope f cd A outer s H E) x)(hm:mg x=some (.ref C))
 (lC:K.lookup C=some (iZ nm q C Ns bs bm hdct sn sub ab col dd k0 k1 k2 k3 k5 newId)) (aa:∀h:hR,K.In h->∃mN,h.Ns Ns mN/\mN "__init__"=some (.ref fI)) (hT:∀h:hR,K.In h->rM h Ck bm) (lI:K.lookup fI=some oI) (ae:oI.cls=.type "function")
 (FB:jI B newId xg Ck) (n:bm.contains (.type "BaseException")=true) (FI:uL P w K mg base (uV P w) k fI fd ps sp) (j:Binds K fd ps U) (af:Vals p U) (hr:vD (k+1) (uY (uV P w) P w K mg base N qual scope f cd A outer s H E).A)
 (ha:PA (uY (uV P w) P w K mg base N qual scope f cd A outer s H E) args ta) (ag:(x==("__debug__":Str))=false)
 (ah:(iJ cpos<|f9 args (uY (uV P w) P w K mg base N qual scope f cd A outer s H E).env).any (·.1)=false)
 (ai:∀(Q:Args->gk->Prop)(E':ci->gk->Prop)(s9:gk),gn (gp P w) (uY (uV P w) P w K mg base N qual scope f cd A outer s H E).A (tE<|iJ cpos<|f9 args (uY (uV P w) P w K mg base N qual scope f cd A outer s H E).env) (λX y=>Q ⟨X,[]⟩ y) E' s9->gn (gp P w) (uY (uV P w) P w K mg base N qual scope f cd A outer s H E).A (evalArgs (.ref C) true (iJ cpos<|f9 args (uY (uV P w) P w K mg base N qual scope f cd A outer s H E).env) []) Q E' s9) :
    PS (uY (uV P w) P w K mg base N qual scope f cd A outer s H E) (.Raise (some<|.Call (.Name x np) args [] cpos) none pos) (Tv C sp p E ta):=by
  intro a s1 σ H1 D I h
  have hA:=ha cpos a s1 σ H1 _ I h
  refine Ia (prog:=P) (w:=w) (C:=C) (nm:=nm) (q:=q) (N:=Ns) (bs:=bs) (bm:=bm) (hdct:=hdct) (sn:=sn) (sub:=sub) (ab:=ab) (col:=col) (dd:=dd) (k0:=k0) (k1:=k1) (k2:=k2) (k3:=k3) (k5:=k5) (fI:=fI)
    FB n (I.ok.hd rfl) ah (yx I hg hm ⟨rfl,?_⟩ ag)
  refine ai _ _ _<|io hA (λl G q2=>?_) λ_ _ z=>z
  refine e2a4 q2 λX H2 F r2 hl M=>?_
  have Y:=F.xP
  refine⟨rfl,by show l.length<=gf;rw[<- r2.length];exact hl,Y _ _ lC,aa _ Y,⟨oI,Y _ _ lI,ae⟩,hT _ Y,λZ e made=>?_⟩
  refine e1a3 made.there λt aj _ _=>?_
  have n2:H2 e=none:=F.uU.Gc made.new
  have I3:Inv (uY (uV P w) P w K mg base N qual scope f cd A outer s H E) a σ (upd H2 e<|CJ C e none) { G with heap:=Z,toks:=G.toks}:=F.un (Un.Lx F.uU made.new made.keeps)<|F.uU.Lx made.new made.keeps ⟨t,aj⟩
  have r3:Vals (.ref e::X++p) (.ref e::l++U):=.cons rfl<|Vals.append r2 af
  have ak:(gC e::l++U).length=ps.length:=by rw[<- r3.length];exact FI.len _ _ _ _<|M e n2
  refine lP<|jl (FI.run _ _ { G with heap:=Z} _ ⟨.ref e::l,[]⟩ (.ref e::l++U) (.ref e::X++p) _ _ (hr.make C l []) (I3.Ht.make C l []) (j { G with heap:=Z} (.ref e::l) I3.xP ak) r3 (M e n2)) λr y O=>?_
  cases r with
  | error e'=>obtain⟨_,_,_,_,_,z⟩:=O;exact z.elim
  | ok fl =>
    cases fl with
    | next=>exact gU O
    | brk=>exact gU O
    | cont=>exact gU O
    | ret u =>
      obtain⟨v,H4,R,i,S,m,rv,rfl,c,e4,gd,hE⟩:=id O
      have T:(uY (uV P w) P w K mg base N qual scope f cd A outer s H E).stack=(uY (uV P w) P w K mg base N qual scope f cd A outer s H E).env::(uY (uV P w) P w K mg base N qual scope f cd A outer s H E).outer:=rfl
      have J:Inv (uY (uV P w) P w K mg base N qual scope f cd A outer s H E) a σ H4 y:=by
        obtain⟨hh,g,d,tt,al⟩:=y
        obtain rfl:al=G.os:=R
        exact Inv.call (s:={ G with heap:=Z}) (h':=hh) (g':=g) (d':=d) (t':=tt) (ch:=[]) I3 S m i<|λb z=>gy z q0o
      obtain⟨t4,O4⟩:=Gb J e4
      refine⟨rv,J.xP _ _ lC,⟨t4,c,O4⟩,?_⟩
      have fu:=J.Ht.xC
      have an:(kW y.heap (e::yp (uY (uV P w) P w K mg base N qual scope f cd A outer s H E).stack)).get? e=none:=rj _ gc
      refine io (Ac (base:=kW y.heap (e::yp (uY (uV P w) P w K mg base N qual scope f cd A outer s H E).stack)) (a0:=.ref t4) J.ok.frames
        (qO fu λao he b j=>gg _<|List.mem_filterMap.mpr ⟨ao,he,j⟩) (wX J T) O4 (λb o z=>mr _ z) an rfl rfl rfl
        (Q:=λ_ aq=>uV P w outer H s E (.ref e) aq) λar fl up dk=>?_) (λ_ _ z=>z) λ_ _ z=>z
      refine⟨C,e,A4 H4 e,rfl,?_,hE⟩
      refine Js (s2:=y) F T rfl R i (Un.PV ((Un.Lx F.uU made.new made.keeps).trans S) made.new n2) (m.PV e4) (λb o z L nf=>oy _ z λj=>?_) (λb j=>?_) up fl ⟨_,dk,gd⟩
      · rcases List.mem_cons.mp j with rfl|j
        · rcases L with L|⟨o0, L⟩
          · exact L yJ
          · rw[made.new] at L; cases L
        · exact nf j
      · have z := J.Zv b j
        refine⟨?_,(fu.mem j).2⟩
        by_cases q:b=e
        · rw[q, yJ]
        · rw[wZ q]; exact z.1
end
def WA(K:fZ)(C:cr)(c:Str):Sp:=λd H Q _=>∃x l b,d=[.ref x,.ref l]/\H x=some (CJ C x none)/\(vA K H l b\/yq K H l b)/\∀p a,H p=none->H a=none->a≠x->a≠p->Q .vK (upd (upd (upd H p<|.lst b) a<|.xd [(c,.ref p)]) x<|CJ C x<|some a)
section
variable{P:gS}{w:ic}{K:fZ}{mg:Str->Option ci}{base:hR}{qual name:Str}{scope:kZ}{f yr cc:cr}{C:cr}{k:Nat}{p0 p1 p2 p3 p4 p5 p6 p7 p8 p9 apos pos:Pos}{r fl tx:Str}{j:Nat}
variable{nm q:Str}{Ns:cr}{bs bm:List ci}{sn:List Str}{sub:List ci}{ab:Bool}{col:Option Bool}{dd:Option cr}{k0 k1 k2 k3 k5:Option ci}{params:Arguments}{dV kV doc pm ct oc:ci}{an od:Option cr}{Mw:Array (Option ci)}{body:List gP}
theorem Tw(lk:K.lookup f=some ⟨oc,od,.func<|jM name qual params body scope [("__class__",cc)] dV kV doc pm an (.ref yr) ct,Mw⟩)(g:iN K (.ref yr) qual=true)
 (m:body=[.Expr (.Call (.Attribute (.Call (.Name "super" p0) [] [] p1) "__init__" apos) [.Constant (.str tx) j p3] [] pos) p2,.Assign [.Attribute (.Name "self" p4) fl p5] (.Call (.Name "list" p6) [.Name r p7] [] p8) p9])
 (S:WL.xG ["self",r] ["self",r] scope) (D:JG P K C f yr cc "self") (n:MV p0 p1 apos pos "__init__" [.Constant (.str tx) j p3]) (o:mg "super"=none) (t:mg "list"=none) (u:scope.names.lookup ("list":Str)=some .globalImplicit)
 (M:K.lookup C=some (iZ nm q C Ns bs bm true sn sub ab col dd k0 k1 k2 k3 k5 "ValueError.__new__")) (U:jm K C C "__init__"=some (some<|.builtin "ValueError.__init__")) (v:j9 K C (.type "ValueError")=some true)
 (B:bm.contains (.type "object")=true) (F:∀x:cr,sr (.ref x) "__setattr__" bm=pure ()) (X:gN K (.ref C) "__setattr__"=some (some<|.builtin "object.__setattr__")) (Y:gN K (.ref C) fl=some none)
 (G:(r==("__debug__":Str))=false) (I:(r==("__classdict__":Str))=false) :
    uL P w K mg base (uV P w) (k+1) f (jM name qual params body scope [("__class__",cc)] dV kV doc pm an (.ref yr) ct) ["self",r] (WA K C fl):=by
  obtain⟨o1,o2,o3,a⟩:=D.cell
  refine F8 lk g (S.x cc) (λy c h=>?_) (λZ H Q E h=>?_) λA J s H Z Q E hr L=>?_
  · have e : c = cc := by
      by_cases e:(y==("__class__":Str))=true
      · rw[gX, e] at h; cases h; rfl
      · rw[gX, Bool.eq_false_iff.mpr e] at h; cases h
    subst e
    exact⟨_,_,a,rfl⟩
  · obtain⟨x, l, N, rfl, _⟩ := h; rfl
  · obtain⟨x, l, N, rfl, b, hl, hq⟩ := L
    rw[m]
    refine⟨_,xy (DC (PU D rfl S.ks S.kc (S.par _ gc) o M U v (ul Fe uB) rfl rfl n)) (xy (Pz (Tu (II (i:=0) rfl (.inl (S.par _ gc)))
      (wE xm u t jS (ul (II (i:=1) rfl (.inl (S.par _ (gg _ gc))) G I) uB)) rfl M B F X Y)) (CG yz)),?_⟩
    have st:start ["self",r] [V.ref x,V.ref l]=[some<|.ref x,some<|.ref l]:=rfl
    rw[st]
    refine⟨x,rfl,b,?_,b,?_⟩
    · show (1 : Nat) <= gf
      rw[iu];lia
    · refine⟨.ref l, rfl, l, N, rfl, hl, λp O => ⟨.ref x, rfl, x, rfl, ?_, λR d n2 => ?_⟩⟩
      · rw[ud λz => by rw[z, O] at b; cases b]
        exact b
      · have T : R ≠ p := λz => by rw[z, uh] at d; cases d
        rw[ud T] at d
        exact hq p R O d n2 T
end
end L2
namespace WL
variable[L2.GX]
open PySem L2
open Rep (rp)
open Ow (sl)
open Sls (rel)
structure XcI(P:gS)(w:ic)(K:fZ)(mg:Str->Option ci)(base:hR)(k:Nat)(x:Str)(C:cr)(fl:Str):Prop where
 ex:∃(fI Ns:cr)(fd:g9)(oI:pV)(nm q:Str)(bs bm Ck:List ci)(hdct:Bool)(sn:List Str)(sub:List ci)(ab:Bool)(col:Option Bool)(dd:Option cr)(k0 k1 k2 k3 k5:Option ci)(B newId xg:String)(ps:List Str),
  mg x=some (.ref C)/\K.lookup C=some (iZ nm q C Ns bs bm hdct sn sub ab col dd k0 k1 k2 k3 k5 newId)/\(∀h:hR,K.In h->∃mN,h.Ns Ns mN/\mN "__init__"=some (.ref fI))/\(∀h:hR,K.In h->rM h Ck bm)/\K.lookup fI=some oI/\oI.cls=.type "function" /\
  jI B newId xg Ck/\bm.contains (.type "BaseException")=true/\uL P w K mg base (uV P w) k fI fd ps (WA K C fl)/\Binds K fd ps []
 go:∀dx p xs H,H dx=some (.xd [(fl,.ref p)])->H p=some (.lst xs)->GX.g C (some dx) H
section
variable{D D' D1 PO τ α:Type}[Sls D][Sls D'][Sls D1][Sls PO][Ow τ][Rep α]
theorem WB{x r L:Str}{i:Nat}{y j M:Pos}{C:cr}[J:Pj D PO n][At i D (OL α) D1](hg:Gl (uY (uV P w) P w K l base N g c f u A e s H E) x)(h:XcI P w K l base k x C L)(hr:vD (k+1) (uY (uV P w) P w K l base N g c f u A e s H E).A)
  (hv:PE (uY (uV P w) P w K l base N g c f u A e s H E) (.Name r M) (uN i)) (W:(x==("__debug__":Str))=false:=by decide)
  (X:f9 [.Name r M] (uY (uV P w) P w K l base N g c f u A e s H E).env=(false,eval (.Name r M) (uY (uV P w) P w K l base N g c f u A e s H E).env)::f9 [] (uY (uV P w) P w K l base N g c f u A e s H E).env:=by rfl) :
  S1 (uY (uV P w) P w K l base N g c f u A e s H E) E T ms n (.Raise (some<|.Call (.Name x y) [.Name r M] [] j) none Y) (λ(d:D)(_:D'->Prop)(_:τ->PO->Prop) Ke=>Ke C<|J.pj d):=by
 obtain⟨fI,Ns,fd,oI,nm,q,bs,bm,af,ae,sn,ag,ab,ah,dd,k0,k1,k2,k3,k5,B,Z,O,ps,a1,a2,a3,a4,a5,a6,a7,a8,a9,aa⟩:=h.ex;refine⟨_,MY (np:=y) (pos:=Y) (cpos:=j) hg a1 a2 a3 a4 a5 a6 a7 a8 a9 aa .nil hr (ul hv uB X) W (by rw[X];rfl) λQ E' s9 z=>by rw[X] at z ⊢;exact iV z,λd F R σ H Kn Kr Ke En s hw kn kr ke=>?_⟩;obtain⟨v,F1,F2,e1,_,⟨a,I,rfl,_,ha,_⟩,_⟩:=Sz (i:=i) (τ:=OL α) s;refine⟨.ref a,e1,(by show 1<=gf;decide),λx hx=>⟨x,a,I,rfl,uh,.inl ?_,λp m S hd nx y=>⟨rfl,some m,uh,?_⟩⟩⟩
 ·have ne:a≠x:=λz=>by rw[z,hx] at ha;cases ha
  exact .inl<|Rd.of (by rw[ud ne];exact ha)
 ·have px:p≠x:=λz=>by rw[z,uh] at S;cases S
  rw[ud px] at S;rw[ud nx] at hd
  have q:A4 (upd (upd (upd (upd H x<|CJ C x none) p<|.lst I) m<|.xd [(L,.ref p)]) x<|CJ C x<|some m) x=upd (upd H p<|.lst I) m (.xd [(L,.ref p)]):=by
   funext b
   by_cases U:b=x
   ·rw[U,yJ,ud<|Ne.symm nx,ud<|Ne.symm px,hx]
   ·rw[wZ U,ud U];by_cases o:b=m
    ·rw[o,uh,uh]
    ·rw[ud o,ud o];by_cases t:b=p
     ·rw[t,uh,uh]
     ·rw[ud t,ud U,ud t]
  rw[q];refine⟨h.go m p I _ uh (by rw[ud<|Ne.symm y];exact uh),?_⟩;refine e0a3 (s.new (.lst I) S) λs2 c2 _=>?_;obtain⟨s3,c3,_⟩:=s2.new (p:=m) (.xd [(L,.ref p)]) (by rw[ud y];exact hd);refine e1a2 (vM (PO:=PO) s3) λG g1 g2=>?_;exact ke C x _ G R _ hw ((Ch.trans s s2.tab c2 c3).less g1) g2
end
end WL
namespace SX
open PySem PySem.W PyProof.Rows
theorem zu(p:Array Nat)(k:Nat):p.getD k 0=(p[k]?).getD 0:=by simp
theorem BG{p:Array Nat}{i j:Nat}(h:j<=p.size)(k:Nat):(qD p i j).getD k 0=if i<=k/\k<j then p.getD (i+j-1-k) 0 else p.getD k 0:=by rw[zu,qD,getElem?_mirror_all h k,zu,zu];split<;>rfl
theorem JM{p:Array Nat}{k d:Nat}(h:k<p.size)(a:d<=k)(i:Nat):(bubble p k d).getD i 0=if i=k-d then p.getD k 0 else if k-d<i/\i<=k then p.getD (i-1) 0 else p.getD i 0:=by
 rw[zu,getElem?_bubble h d a i,zu,zu,zu];split
 ·rfl
 ·split<;>rfl
structure a0V(lt:Nat->Nat->Bool):Prop where
 ir:∀a,lt a a=false
 tr:∀a b c,lt b a=false->lt c b=false->lt c a=false
 as:∀a b,lt a b=true->lt b a=false
section
variable{lt:Nat->Nat->Bool}{cmp:Nat->Nat->(Bool->gk->Prop)->gk->Prop}{N:Nat}{s:gk}
def Gd(lt:Nat->Nat->Bool)(p:Array Nat)(k:Nat):Prop:=∀i j,i<=j->j<k->lt (p.getD j 0) (p.getD i 0)=false
def Er(lt:Nat->Nat->Bool)(p:Array Nat)(k:Nat):Prop:=∀i j,i<=j->j<k->lt (p.getD i 0) (p.getD j 0)=false
def Hd(N:Nat)(p:Array Nat):Prop:=∀k,p.getD k 0<N
theorem Hd.rev{i j:Nat}(b:Hd N p)(h:j<=p.size):Hd N (qD p i j):=λk=>by rw[BG h];split<;>exact b _
theorem Hd.bub{k d:Nat}(b:Hd N p)(h:k<p.size)(c:d<=k):Hd N (bubble p k d):=λi=>by
 rw[JM h c];by_cases q:i=k-d
 ·rw[f7 q];exact b _
 ·rw[f8 q];by_cases a:k-d<i/\i<=k
  ·rw[f7 a];exact b _
  ·rw[f8 a];exact b _
theorem A5{i j:Nat}:(qD p i j).Perm p:=mirror_perm _ _ _ _
variable(L:a0V lt)(hc:∀i j (C:Bool->gk->Prop),i<N->j<N->C (lt i j) s->cmp i j C s)
include L hc
theorem Ly(b:Hd N p):∀(f n:Nat) {Q:Nat->gk->Prop},1<=n->Gd lt p n->(∀m,n<=m->m<=n+f->Gd lt p m->(m<n+f->lt (p.getD m 0) (p.getD (m-1) 0)=true)->Q m s)->kJ cmp (kas_asc p f n) Q s:=by
 intro g
 induction g with
 | zero=>intro n Q h a k;exact k n (ga _) (ga _) a<|λz=>gy z<|jj _
 | succ f c =>
  intro n Q h a k;refine hc _ _ _ (b _) (b _) ?_
  cases e:lt (p.getD n 0) (p.getD (n-1) 0) with
  | true=>exact k n (ga _) q0a a λ_=>e
  | false =>
   refine c (n+1) q0a (λi j d t=>?_) λm u v l o=>k m q0a q0a l λz=>o q0a;by_cases q:j=n
   ·subst q;by_cases r:i=j
    ·rw[r];exact L.ir _
    ·exact L.tr _ _ _ (a i (j-1) q0a q0a) e
   ·exact a i j d q0a
omit hc in
set_option tactic.hygienic true in
theorem Tx{p:Array Nat}{n q:Nat}(m:q+1<=n)(d:n<=p.size)(f:Er lt p n)(c:∀k,n-(q+1)<=k->k<n->lt (p.getD (n-1) 0) (p.getD k 0)=false)(k:Nat) :
  lt ((qD p (n-(q+1)) n).getD k 0) (p.getD k 0)=false/\lt (p.getD k 0) ((qD p (n-(q+1)) n).getD k 0)=false:=by
 rw[BG d];split
 ·rename_i h
  have e:∀a b,n-(q+1)<=a->a<n->n-(q+1)<=b->b<n->lt (p.getD a 0) (p.getD b 0)=false:=λa b o r g l =>
   L.tr _ (p.getD (n-1) 0) _ (c b g l) (f a (n-1) q0d q0d)
  exact⟨e _ _ q0d q0d h.1 h.2,e _ _ h.1 h.2 q0d q0d⟩
 ·exact⟨L.ir _,L.ir _⟩
omit hc in
theorem Lz{p:Array Nat}{n q m:Nat}(c:q+1<=n)(d:n<=p.size)(f:Er lt p n)(a:∀k,n-(q+1)<=k->k<n->lt (p.getD (n-1) 0) (p.getD k 0)=false)(g:Er lt p m):Er lt (qD p (n-(q+1)) n) m:=λi j b h=>by have e:=Tx L c d f a;exact L.tr _ _ _ (L.tr _ _ _ (e j).2<|g i j b h) (e i).1
omit hc in
theorem DH{n:Nat}(d:1<=n)(b:Er lt p n)(h:lt (p.getD (n-1) 0) (p.getD n 0)=false):Er lt p (n+1):=λi j a e=>by
 by_cases q:j=n
 ·subst q;by_cases c:i=j
  ·rw[c];exact L.ir _
  ·exact L.tr _ _ _ h<|b i (j-1) q0a q0a
 ·exact b i j a q0a
theorem PX:∀(f:Nat)(p:Array Nat)(n q:Nat) {Q:Array Nat×Nat×Nat->gk->Prop},Hd N p->q+1<=n->n+f<=p.size->Er lt p n->(∀k,n-(q+1)<=k->k<n->lt (p.getD (n-1) 0) (p.getD k 0)=false) ->
  (∀a m d,a.Perm p->a.size=p.size->Hd N a->d+1<=m->n<=m->m<=n+f->Er lt a m->(∀k,m-(d+1)<=k->k<m->lt (a.getD (m-1) 0) (a.getD k 0)=false)->Q (a,m,d) s)->kJ cmp (kas_desc f p n q) Q s:=by
 intro F
 induction F with
 | zero=>intro p n q Q b w G h c k;exact k p n q (.refl _) rfl b w (ga _) (ga _) h c
 | succ f g =>
  intro p n q Q b w G h c k;refine hc _ _ _ (b _) (b _) ?_
  cases e:lt (p.getD n 0) (p.getD (n-1) 0) with
  | true =>
   have y:=DH L q0a h<|L.as _ _ e
   have A:∀{x:Array Nat},∀k,n+1-(0+1)<=k->k<n+1->lt (x.getD (n+1-1) 0) (x.getD k 0)=false:=λ{x} k H I=>by
    have:k=n+1-1:=by lia
    rw[this];exact L.ir _
   split
   ·refine g _ (n+1) 0 (b.rev q0a) q0a (by rw[mf];lia) (Lz L w q0a h c y) A λa m d l o r t B D u v=>k a m d (l.trans A5) (o.trans<|mf _ _) r t q0a q0a u v
   ·exact g p (n+1) 0 b q0a q0a y A λa m d l o r t B D u v=>k a m d l o r t q0a q0a u v
  | false =>
   refine hc _ _ _ (b _) (b _) ?_
   cases J:lt (p.getD (n-1) 0) (p.getD n 0) with
   | true=>exact k p n q (.refl _) rfl b w (ga _) q0a h c
   | false =>
    refine g p (n+1) (q+1) b q0a q0a (DH L q0a h J) (λE H I=>?_) λa m d l o r t B D u v=>k a m d l o r t q0a q0a u v;have M:n+1-1=n:=by lia
    rw[M];by_cases z:E=n
    ·rw[z];exact L.ir _
    ·exact L.tr _ _ _ (c E q0a q0a) e
theorem Ib{n a:Nat}(b:Hd N p)(e:1<=n)(o:n<=a)(q:a<=p.size)(f:Er lt p n)
 (k:∀m c,c.Perm p->c.size=p.size->Hd N c->1<=m->m<=a->Gd lt c m->Q (m,c) s):kJ cmp (kas_tail3 n a p) Q s:=by
  unfold kas_tail3
  rw[mq]
  have d:n<=p.size:=by omega
  refine Ly L hc (b.rev d) _ n e (λi j g h=>?_) λm r t l _=>k m _ A5 (mf _ _) (b.rev d) q0d q0d l
  rw[BG d,BG d,f7 ⟨im _,h⟩,f7 ⟨im _,q0d⟩]
  exact f _ _ q0d q0d
theorem PY{n a:Nat}(b:Hd N p)(A:1<=n)(B:n+1<=a)(D:a<=p.size)(w:Er lt p (n+1))
 (k:∀m d,d.Perm p->d.size=p.size->Hd N d->1<=m->m<=a->Gd lt d m->Q (m,d) s):kJ cmp (kas_descPart n a p) Q s:=by
  unfold kas_descPart
  rw[mq]
  refine PX L hc _ p (n+1) 0 b q0a q0a w (λx E F=>?_) λd m G t u v y H I e z=>?_
  · have : x = n+1-1 := by lia
    rw[this];exact L.ir _
  · dsimp only
    split
    · exact Ib L hc (v.rev q0a) q0a q0a (by rw[mf]; lia) (Lz L y q0a e z e) λf c g h l o q r => k f c ((g.trans A5).trans t) ((h.trans<|mf _ _).trans u) l o q r
    · exact Ib L hc v q0a q0a q0a e λf c g h l o q r => k f c (g.trans t) (h.trans u) l o q r
set_option tactic.hygienic true in
theorem MZ{d:Nat}(b:Hd N p)(P:1<=d)(B:d<=p.size)
 (k:∀m f,f.Perm p->f.size=p.size->Hd N f->1<=m->m<=d->Gd lt f m->Q (m,f) s):kJ cmp (kas_count d p) Q s:=by
  unfold kas_count
  rw[mq]
  refine Ly L hc b _ 1 (ga _) (λi j g v=>?_) λn w R o D=>?_
  · have r : i = 0 := by lia
    have h:j=0:=by lia
    rw[r,h];exact L.ir _
  · by_cases e : n = d
    · rw[f7<|by rw[e]; simp]
      exact k n p (.refl _) rfl b w q0a o
    · rw[f8<|by simp[e]]
      have x:=D q0a
      split
      · rename_i S
        refine hc _ _ _ (b _) (b _) ?_
        cases h:lt (p.getD 0 0) (p.getD (n-1) 0) with
        | true=>exact k n p (.refl _) rfl b w q0a o
        | false =>
          have t:n<=p.size:=by lia
          refine PY L hc (b.rev t) q0a q0a (by rw[mf];lia) (λi j g v=>?_) λE u y F G H I J=>k E u (y.trans A5) (F.trans<|mf _ _) G H I J
          have l:∀a c,a<n->c<n->lt (p.getD a 0) (p.getD c 0)=false:=λa c M y=>L.tr _ _ _ (L.tr _ _ _ (o c (n-1) q0a q0a) h)<|o 0 a (im _) M
          rw[BG t i,BG t j]
          by_cases q:j<n
          · rw[f7 ⟨im _, by lia⟩, f7 ⟨im _, q⟩]
            exact l _ _ q0a q0a
          · have O : j = n := by lia
            rw[f8 (c:=0<=j/\j<n) λz=>q z.2]
            by_cases A:i<n
            · rw[f7 ⟨im _, A⟩, O]
              exact L.tr _ _ _ (L.as _ _ x)<|l _ _ q0a q0a
            · rw[f8 λz => A z.2, show i = j by lia]
              exact L.ir _
      · refine PY L hc b q0a q0a B (DH L q0a (λi j g v => ?_)<|L.as _ _ x) k
        have r:i=0:=by lia
        have h:j=0:=by lia
        rw[r,h];exact L.ir _
theorem M0{k:Nat}(b:Hd N p)(q:Gd lt p k):∀(f l r:Nat) {Q:Nat->gk->Prop},r-l<=f->l<=r->r<=k->(∀i,i<l->lt (p.getD k 0) (p.getD i 0)=false)->(∀i,r<=i->i<k->lt (p.getD k 0) (p.getD i 0)=true) ->
  (∀h,h<=k->(∀i,i<h->lt (p.getD k 0) (p.getD i 0)=false)->(∀i,h<=i->i<k->lt (p.getD k 0) (p.getD i 0)=true)->Q h s)->kJ cmp (tz p k f l r) Q s:=by
 intro t
 induction t with
 | zero=>intro l r Q u o a m n d;exact d l q0d m λi z=>n i q0d
 | succ f g =>
  intro l r Q u o a m n d;show kJ cmp (if l>=r then KasT.ret l else KasT.ask (p.getD k 0) (p.getD ((l+r) / 2) 0) λc=>if c=true then tz p k f l ((l+r) / 2) else tz p k f ((l+r) / 2+1) r) Q s;split
  ·exact d l q0d m λi z=>n i q0d
  ·refine hc _ _ _ (b _) (b _) ?_
   cases e:lt (p.getD k 0) (p.getD ((l+r) / 2) 0) with
   | true =>
    refine g l ((l+r) / 2) q0d q0d q0d m (λi v w=>?_) d
    cases x:lt (p.getD k 0) (p.getD i 0) with
    | true=>rfl
    | false=>rw[L.tr _ _ _ (q ((l+r) / 2) i v w) x] at e;cases e
   | false =>
    refine g ((l+r) / 2+1) r q0d q0d a (λi z=>?_) n d;exact L.tr _ _ _ (q i ((l+r) / 2) q0d q0d) e
theorem Tz:∀(f:Nat)(p:Array Nat)(k:Nat) {Q:Array Nat->gk->Prop},Hd N p->k+f<=p.size->Gd lt p k->(∀d,d.Perm p->Gd lt d (k+f)->Q d s)->kJ cmp (kas_bin f p k) Q s:=by
 intro t
 induction t with
 | zero=>intro p k Q b u c g;exact g p (.refl _) c
 | succ f h =>
  intro p k Q b u c g;show kJ cmp ((tz p k k 0 k).bind λl=>kas_bin f (bubble p k<|k-l)<|k+1) Q s;rw[mq];refine M0 L hc b c k 0 k q0a q0a (ga _) (λi z=>gy z q0a) (λi D v=>gy v q0a) λl E w x=>?_;have a:k<p.size:=by lia
  have m:k-l<=k:=by lia
  have y:k-(k-l)=l:=by lia
  refine h _ (k+1) (b.bub a m) (by rw[bubble_size];lia) (λi j n F=>?_) λd A B=>g d (A.trans<|bubble_perm _ _ _) (by rw[show k+(f+1)=k+1+f by lia];exact B);rw[JM a m,JM a m,y];by_cases o:j=l
  ·rw[f7 o];by_cases e:i=l
   ·rw[f7 e];exact L.ir _
   ·rw[f8 e,f8 q0a];exact w i q0a
  ·rw[f8 o];by_cases q:l<j/\j<=k
   ·rw[f7 q];by_cases e:i=l
    ·rw[f7 e];exact L.as _ _<|x (j-1) q0a q0a
    ·rw[f8 e];by_cases r:l<i/\i<=k
     ·rw[f7 r];exact c _ _ q0a q0a
     ·rw[f8 r];exact c _ _ q0a q0a
   ·rw[f8 q,f8 q0a,f8 q0a];exact c _ _ n q0a
set_option tactic.hygienic true in
theorem PZ{n:Nat}(p:1<=n)(u:n<=N)(d:∀a,a.Perm (gH n).toArray->Gd lt a n->Q a s):kJ cmp (kas_sort n) Q s:=by
 unfold kas_sort;rw[mq];have e:(gH n).toArray.size=n:=by simp
 have b:Hd N (gH n).toArray:=λk=>by
  rw[zu];simp only[List.getElem?_toArray,List.getElem?_range'];by_cases h:k<n
  ·simp[sN h];lia
  ·simp[jJ (l:=gH n)<|by simpa using h];lia
 refine MZ L hc b p (by rw[e];exact ga _) λm a f q r v w g=>?_;split
 ·rename_i h
  refine Tz L hc _ a (max m 1) r (by rw[q,e];lia) (by rw[show max m 1=m by lia];exact g) λc t o=>d c (t.trans f) (by rw[show max m 1+(n-max m 1)=n by lia] at o;exact o)
 ·exact d a f (by rw[show n=m by lia];exact g)
end
open PySem.Spec
def Ic(p q:Int×Int):Bool:=decide (p.1<q.1)||(p.1==q.1&&decide (p.2<q.2))
theorem EX:Ic p q=false↔q.1<p.1\/(q.1=p.1/\q.2<=p.2):=by unfold Ic;simp only[Bool.or_eq_false_iff,Bool.and_eq_false_iff,decide_eq_false_iff_not,beq_eq_false_iff_ne];omega
theorem Y1:Ic p q=true↔p.1<q.1\/(p.1=q.1/\p.2<q.2):=by unfold Ic;simp only[Bool.or_eq_true,g8,hJ,beq_iff_eq]
def wz(h:hR)(v:ci)(p:Int×Int):Prop:=∃x o t u n,v=.ref x/\h.get? x=some o/\o.cls=.type "tuple"/\o.data=.seq #[.int p.1 t,.int p.2 u] n
theorem TB{x y:ci}{p q:Int×Int}{Q:Bool->gk->Prop}(hx:wz s.heap x p)(hy:wz s.heap y q)(h:Q (Ic p q) s):gn (gp prog w) A (keyLt' (tuples' true) x y) Q E s:=by
 obtain⟨a,o,t,u,n,rfl,h1,h2,h3⟩:=hx;obtain⟨b,o',t',u',n',rfl,k1,k2,k3⟩:=hy;refine PySem.W.kat_lt h1 h3 k1 k3<|sP<|qK<|tQ (λe=>tD<|sP<|qK<|tQ (λe2=>tD<|PySem.W.kat_nil ?_) λe2=>tR<|PySem.W.kat_one _ _<|wpAny_lt_int ?_) λe=>tR<|oneLt_int ?_
 ·have e1:=eq_of_beq e;have e2:=eq_of_beq e2;have:Ic p q=false:=EX.mpr<|.inr ⟨e1.symm,Int.le_of_eq e2.symm⟩;rw[this] at h;exact h
 ·have e1:=eq_of_beq e;have:Ic p q=decide (p.2<q.2):=by unfold Ic;rw[e1];simp
  rw[this] at h;exact h
 ·have:Ic p q=decide (p.1<q.1):=by unfold Ic;rw[e];simp
  rw[this] at h;exact h
theorem wz.keep{h a:hR}(k:∀b o,h.get? b=some o->o.cls=.type "tuple"->a.get? b=some o)(z:wz h v p):wz a v p:=by obtain⟨x,o,t,u,n,e,d,c,f⟩:=z;exact⟨x,o,t,u,n,e,k x o d c,c,f⟩
theorem DI{h a:hR}(k:∀b o,h.get? b=some o->o.cls=.type "tuple"->a.get? b=some o):∀{c:List ci} {d:List (Int×Int)},Paired (wz h) c d->Paired (wz a) c d:=by
 intro _ _ z
 induction z with
 | nil=>exact .nil
 | cons h t e=>exact .cons (h.keep k) e
theorem DJ:∀{d:List ci} {e:List (Int×Int)},Paired (wz h) d e->∃c,PySem.W.KatTups h d c/\c.length=d.length/\∀v∈c,∃i t,v=kK i t
 | _,_,.nil=>⟨[],PySem.W.KatTups.nil,rfl,λ_ z=>gy z iD⟩
 | _,_,.cons a b=>by
  refine e1a3 (DJ b) λc f g j=>?_;obtain⟨x,o,t,u,n,rfl,k,l,m⟩:=a;refine⟨_::c,⟨⟨x,o,_,n,rfl,k,l,m,rfl⟩,f⟩,by simp[g],λv p=>?_⟩;rcases List.mem_cons.mp p with z|z
  ·exact⟨_,_,z⟩
  ·exact j v z
theorem EY:∀{c:List ci} {d:List (Int×Int)},Paired (wz h) c d->∀i,i<c.length->wz h (c.getD i .none) (d.getD i (0,0)):=by
 intro _ _ z
 induction z with
 | nil=>intro i z;exact gy z<|Nat.not_lt_zero _
 | cons a b e =>
  intro i z
  cases i with
  | zero=>exact a
  | succ i=>simpa using e i (by simpa using z)
theorem JN{d:List ci}{n:Nat}(D:s.heap.get? a=some (lA "list" d.toArray n))(hp:Paired (wz s.heap) d m)(I:d.length<64)
 (h:∀J:List Nat,J.Perm (gH d.length)->(J.map λi=>m.getD i (0,0)).Pairwise (λx y=>Ic y x=false)->P (.done<|.ret .none) { s with heap:=sortedHeap s.heap a d (J.map λi=>d.getD i .none).toArray}):gn (gp U w) A (Builtin.«list.sort» ⟨[.ref a],[]⟩) P E s:=by
  rw[list_sort_plain]
  have sl:(64:Nat)<=gf:=by rw[iu];decide
  have hz:d.length<=gf:=by lia
  refine am<|listItems_at D rfl<|am<|sQ D rfl ?_ (hsz:=by simpa using hz)
  obtain⟨L,X⟩:∃L,(s.heap.update a<|Obj.mapSeq λ_=>#[]).get? a=some (lA "list" #[] L):=⟨_,get?_update_seq D _⟩
  refine am<|seqEpoch_at X rfl<|am<|wpAny_newTuple<|am<|sM<|gV ?_
  have F:(((s.heap.update a<|Obj.mapSeq λ_=>#[]).push<|lA "tuple" d.toArray 0).push<|lA "list" #[] 0).get? a=some (lA "list" #[] L):=ce _<|ce _ X
  have g:Paired (wz<|((s.heap.update a<|Obj.mapSeq λ_=>#[]).push<|lA "tuple" d.toArray 0).push<|lA "list" #[] 0) d m:=DI (λb o z c=>ce _<|ce _<|(gW _ _ (λq=>by rw[<- q,D] at z;cases z;have c:ju "list"=ju "tuple":=c;injection c with c;exact gy c q0q)).trans z) hp
  have sz:d.toArray.size=d.length:=by simp
  by_cases Y:d.length<2
  · rw[f7 q0a, f7 q0a]
    refine am<|ap<|am<|ap ?_
    refine am<|seqEpoch_at F rfl<|am<|sQ F rfl ?_ (hsz2:=by simp[SortSt.mk',arrOf];lia)
    have key:=h (gH d.length) (.refl _) (by
      rcases d with _|⟨v,_|⟨v2,r⟩⟩
      · simp
      · simp
      · simp at Y; lia)
    have e:((gH d.length).map λi=>d.getD i .none).toArray=Array.map (λx=>x.snd) (d.toArray.zip d.toArray):=by
      rcases d with _|⟨v,_|⟨v2,r⟩⟩
      · simp
      · simp
      · simp at Y; lia
    rw[e] at key
    simp only[qy,kf,oC]
    exact ap key
  rw[f8 q0a,f8 q0a]
  refine e1a3 (DJ g) λfs f1 f2 f3=>?_
  refine am<|PySem.W.kat_kind (T:=.type "int") f1 q0a (λv hv=>?_) q0q ?_
  · obtain⟨i, t, rfl⟩ := f3 v hv
    exact PySem.W.Looks.now
  refine am (io (PySem.W.kat_run (ks:=d) (vs:=d) (κ:=tuples' true) rfl q0a I (Q:=λf u=>∃p:Array Nat,p.size=d.length/\arrOf f=Array.map (PySem.W.kas_item (d.toArray.zip d.toArray)) p/\failedOf f=none/\u={ s with heap:=((s.heap.update a (Obj.mapSeq λ_=>#[])).push (lA "tuple" d.toArray 0)).push (lA "list" #[] 0)}/\p.toList.Perm (gH d.length)/\(p.toList.map λi=>m.getD i (0,0)).Pairwise (λx y=>Ic y x=false))
    (G:=λp u=>u={ s with heap:=((s.heap.update a (Obj.mapSeq λ_=>#[])).push (lA "tuple" d.toArray 0)).push (lA "list" #[] 0)}/\p.toList.Perm (gH d.length)/\(p.toList.map λi=>m.getD i (0,0)).Pairwise (λx y=>Ic y x=false)) (λp f u M O R q4=>⟨p,M,O,R,q4⟩) ?_) ?_ λ_ _ z=>z)
  rotate_left
  · rintro⟨⟨⟩, f⟩ u ⟨p, M, O, R, rfl, g1, g2⟩
    have Z:=PySem.W.kat_snds (vs:=d) (ks:=d) rfl O
    refine am<|seqEpoch_at F rfl<|am<|sQ F rfl ?_ (hsz2:=by rw[Z];simp[M];lia)
    rw[R]
    simp only[qy,kf,oC]
    rw[Z]
    exact ap<|h _ g1 g2
  · refine PZ (N := d.length) (lt := λi j => Ic (m.getD i (0, 0))<|m.getD j (0, 0)) ⟨λa => ?_, λa b c z1 z2 => ?_, λa b z => ?_⟩ (λi j C H B k => ?_) q0a (ga _) λl c1 c2 => ⟨rfl, ?_, ?_⟩
    · exact EX.mpr<|.inr ⟨rfl, nw _⟩
    · have z1 := EX.mp z1
      have z2:=EX.mp z2
      exact EX.mpr q0a
    · have z := Y1.mp z
      exact EX.mpr q0a
    · exact TB (EY g i H) (EY g j B) k
    · have := c1.toList
      simpa using this
    · rw[List.pairwise_iff_getElem]
      intro i j H B S
      have hl:l.size=d.length:=by have:=c1.size_eq;simpa using this
      have q:=c2 i j (kR S) (by simpa[hl] using B)
      have gi:l.getD i 0=l.toList[i]'(by simpa using H):=by
        have:i<l.size:=by simpa using H
        simp[Array.getD,this]
      have gj:l.getD j 0=l.toList[j]'(by simpa using B):=by
        have:j<l.size:=by simpa using B
        simp[Array.getD,this]
      rw[uc,uc,<- gi,<- gj]
      exact q
theorem Ge{a:List ci}(u:s.heap.IsList l a.toArray)(v:Paired (wz s.heap) a B)(f:a.length<64)
 (h:∀j C r (d:List Nat),s.heap.objs.size<=r->d.Perm (gH a.length)->(d.map λi=>B.getD i (0,0)).Pairwise (λx y=>Ic y x=false)->(∃n,j.get? r=some { cls:=.type "list",data:=.seq (d.map λi=>a.getD i .none).toArray n})->(∀c o,s.heap.get? c=some o->j.get? c=some o)->Q (.ref r) { s with heap:=j,toks:=C}) :
    gn (gp t w) A (call (.builtin "sorted") [.ref l]) Q E s:=by
  refine qI kind_sorted plain_sorted entry_sorted (args_sorted1 _) ?_
  have I:(64:Nat)<=gf:=by rw[iu];decide
  refine am (m:=checkCount "sorted" 1 1 _)<|ap<|am<|collect_list u ?_ q0d
  have e:∀c o,s.heap.get? c=some o->((s.heap.push<|lA "list" #[] 0).update s.heap.objs.size<|Obj.mapSeq λx=>x++a.toArray).get? c=some o:=λc o q=>(gW _ _<|iG<|gl q).trans<|ce _ q
  have sz:s.heap.objs.size<=((s.heap.push<|lA "list" #[] 0).update s.heap.objs.size<|Obj.mapSeq λx=>x++a.toArray).objs.size:=by rw[nM,sh];exact kN _
  generalize ((s.heap.push<|lA "list" #[] 0).update s.heap.objs.size<|Obj.mapSeq λx=>x++a.toArray)=k at e sz ⊢
  refine am<|sM ?_
  have p:(k.push<|lA "list" a.toArray 0).get? k.objs.size=some (lA "list" a.toArray 0):=gu _ rfl
  refine am<|gV<|ie slot_list_sort ⟨_,p,rfl⟩ entry_list_sort (JN p (DI (λb o z _=>ce _<|e b o z) v) f λd D F=>⟨_,rfl,?_⟩)<|args_list_sort _
  obtain⟨G,H⟩:=sortedHeap_at (out:=(d.map λi=>a.getD i .none).toArray) p
  refine ap ⟨_,rfl,h _ s.toks k.objs.size d sz D F ⟨G,by simpa using H⟩ λc o g=>?_⟩
  have lt:=gl<|e c o g
  rw[sortedHeap_old (gx lt)<|by rw[sh];exact nq lt]
  exact ce _<|e c o g
end SX
namespace L2
open PySem PySem.Spec PyProof.Rows SX
theorem range_getD(l:List a)(d:a):(gH l.length).map (λi=>l.getD i d)=l:=by refine List.ext_getElem q0o λi c b=>?_;simp[List.getD,b]
theorem EZ(h:Paired R c k):∀{b:List Nat},(∀i∈b,i<c.length)->Paired R (b.map λi=>c.getD i d) (b.map λi=>k.getD i e):=by
 have g:∀i,i<c.length->R (c.getD i d) (k.getD i e):=by
  induction h with
  | nil=>exact λi z=>gy z<|Nat.not_lt_zero _
  | cons a _ f =>
   intro i z
   cases i with
   | zero=>exact a
   | succ i=>simpa using f i (by simpa using z)
 intro b
 induction b with
 | nil=>exact λ_=>.nil
 | cons i r f=>exact λz=>.cons (g i<|z i gc)<|f λj l=>z j<|gg _ l
theorem pairs_at(I:Inv X g B H s):∀{i:List V} {d:List ci} {f:List (Int×Int)},Vals i d->Paired (λ(v:V)(p:Int×Int)=>∃t,v=.ref t/\H t=some (.tup [.int p.1,.int p.2])) i f->Paired (wz s.heap) d f:=by
 intro _ _ f z
 induction z generalizing f with
 | nil=>intro w;cases w;exact .nil
 | cons r C j=>intro w;cases w with|cons q k =>
  refine e1a2 q λt e h=>?_;subst e;obtain rfl:=r;obtain⟨d,l,⟨o,m,u,n,x⟩,_⟩:=I.tuple<|yq.of h
  cases l with|cons a b =>
  cases b with|cons b c =>
  cases c;obtain⟨y,rfl⟩:=a;obtain⟨A,rfl⟩:=b;exact .cons ⟨t,o,y,A,n,rfl,m,u,x⟩<|j k
theorem Gg:xQ X (.builtin "sorted") (λm H Q=>∃(a:cr)(c:List V) (j:List (Int×Int)),m=[.ref a]/\vA X.K H a c/\Paired (λ(v:V)(p:Int×Int)=>∃t,v=.ref t/\H t=some (.tup [.int p.1,.int p.2])) c j/\c.length<64 /\
  ∀(l:cr)(b:List Nat),H l=none->b.Perm (gH c.length)->(b.map λi=>j.getD i (0,0)).Pairwise (λx y=>Ic y x=false)->Q (.ref l) (upd H l (.lst (b.map λi=>c.getD i .vK)))):=by
 intro w s R H m c Q I r h;obtain⟨a,f,j,rfl,A,B,C,q⟩:=h;obtain⟨u,rfl,D⟩:=vals1 r;cases D;refine e1a3 (I.list A) λd k E S=>?_;have F:f.length=d.length:=k.length;refine Ge E.isList (pairs_at I k B) q0d λT G r b z g J L M=>?_;obtain⟨n,e⟩:=L;rw[<- F] at g;have N:∀i∈b,i<f.length:=λi O=>by simpa using g.subset O
 have P:b.length=f.length:=by simpa using g.length_eq
 exact⟨.ref r,_,I.laid (t':=G) (o:=.lst<|b.map λi=>f.getD i .vK) M z ⟨by rw[gh,P];omega,b.map λi=>d.getD i .none,n,EZ k N,e⟩,rfl,q r b (I.uU.fresh z) g J⟩
end L2
namespace WL
variable[L2.GX]
open PySem L2 SX
open Rep (rp)
open Ow (sl)
open Sls (rel)
section
variable{D:Type}[Sls D]
theorem M3:∀{a:List d} {b:List V},Paired R a b->Paired (λv x=>R x v) b a:=by
 intro _ _ z
 induction z with
 | nil=>exact .nil
 | cons h t c=>exact .cons h c
theorem Ie{a b:Type}{R S:a->b->Prop}(h:∀x y,R x y->S x y):∀{c:List a} {d:List b},Paired R c d->Paired S c d:=λz=>L2.Paired.Vi z h
theorem JO(C:Gl X "sorted")(G:X.mg "sorted"=none)(I:ER X E T a J)(m:f9 [a] X.env=(false,eval a X.env)::f9 [] X.env:=by rfl) :
  EO X E T (.Call (.Name "sorted" p) [a] [] pos) (λ(d:D) (n:OL (Int×Int)->D->Prop) c=>J d (λg b=>(g b).length<64/\∀f,f.Perm (g b)->f.Pairwise (λx y=>Ic y x=false)->n ⟨f⟩ b) c):=by
 refine e1a2 I λta L M=>?_;refine⟨_,v6 Gg C G jF (ul L uB m) (he:=m),λd F R N H n c Q s O P S=>M d F R N H _ c _ s O (λg b u o U W r Y h Z=>?_) S⟩;obtain⟨q,A,rfl,h1,j⟩:=Z b o U W (Ch.refl _ _ _ _) h;have B:(g b).length=A.length:=j.length;refine⟨_,A,g b,rfl,vA.of h1,Ie (λv x z=>?_)<|M3 j,by rw[<- B];exact r.1,λl ix hl k sn=>?_⟩
 ·obtain⟨t,u,w,rfl,_,e,e1,e2⟩:=z;exact⟨t,rfl,by rw[e,e1,e2]⟩
 ·rw[<- B] at k;have lt:∀i∈ix,i<(g b).length:=λi hi=>by simpa using k.subset hi
  refine e1a3 (wG h hl<|EZ (d:=(0,0)) (e:=V.vK) j lt) λR' c3 s3 n3=>?_;exact P _ b _ _ o R' _ (r.2 _ (by have:=k.map<|λi=>(g b).getD i (0,0);rwa [range_getD] at this) sn) (Ch.trans s h.tab Y c3) s3 n3
theorem tw_trueR{h:Type}[Rep h]{i:Wf D (D->List h) D}(r:ER X E T a i)(t:∀b,qa a X.env b=(do let v <- b;lZ a.pos;jW [v] (tF v)):=by intro _;rfl):TW X E T a (λ(d:D) j e=>i d (λg c=>j (!(g c).isEmpty) c) e):=by
 refine e1a2 r λL w x=>?_;refine⟨_,Ho w t,λd F R y H j e Q s z A B=>x d F R y H _ e _ s z (λg c u k m n C G o I=>?_) B⟩;obtain⟨q,f,rfl,J,p⟩:=I c k m n (Ch.refl _ _ _ _) o;refine⟨!f.isEmpty,.inl ⟨f,vA.of J,rfl⟩,?_⟩
 have:f.isEmpty=(g c).isEmpty:=by generalize g c=l at p;cases p<;>rfl
 rw[this];exact A _ c k m n C G o
end
section
variable{D PO τ:Type}[Sls D][Sls PO][Ow τ]{α:Type}[Rep α]
theorem P0(q:ID)(i:Nat)[Sls j][A:At i D (Bd C l) j](n:q.ok l)(o:zX X.K C)(t:vc X.K C q.nm)(u:X.A.units+1<jQ)(w:PE X (.Name x b) (uN i))(B:EV X T a f)(m:M1 X (.Attribute (.Name x b) q.nm G) "get" apos a pos:=by exact⟨rfl,rfl,rfl,rfl⟩)(I:gY (.Name x b) q.nm X.env (eval (.Name x b) X.env)=eval (.Name x b) X.env:=by rfl) :
  EW X E T (.Call (.Attribute (.Attribute (.Name x b) q.nm G) "get" apos) [a] [] pos) (λ(d:D)(c:Option Int->D->Prop) _=>c (lk (q.get<|A.get d)<|f d) d):=by
 refine e1a2 B λW J L=>?_;refine⟨_,Of u (v4 w I) J m,λd F R M H c Y Q s N O Z=>?_⟩;obtain⟨p,P,e1,e2,e3,e4,us,S,e,_,_⟩:=vG (i:=i) s;refine e1a4 (zo e q n) λy U h _ _=>?_;refine⟨_,S,p,C,P,_,_,rfl,e.ob,o,t,U,y,rfl,.inl ⟨_,.inl h⟩,L d F R M H _ s λv r=>?_⟩;subst r;have g:=w9.k (k:=gM<|f d) h;rw[xu] at g;refine⟨_,g,O _ d _ F R H N (Ch.refl _ _ _ _) s ?_⟩
 cases lk (q.get<|A.get d) (f d) with
 | none=>exact rfl
 | some z=>exact⟨(λz=>by cases z),rfl⟩
theorem P1(q:ID)(i:Nat)[Sls n][A:At i D (Bd C o) n](t:q.ok o)(u:zX X.K C)(w:vc X.K C q.nm)(B:X.A.units+1<jQ)(G:PE X (.Name x c) (uN i))(I:EV X T a f)(J:EV X T b g)(m:M2 X (.Attribute (.Name x c) q.nm L) "get" apos a b pos:=by exact⟨rfl,rfl,rfl,rfl⟩)(M:gY (.Name x c) q.nm X.env (eval (.Name x c) X.env)=eval (.Name x c) X.env:=by rfl) :
  EW X E T (.Call (.Attribute (.Attribute (.Name x c) q.nm L) "get" apos) [a,b] [] pos) (λ(d:D)(e:Int->D->Prop) _=>e ((lk (q.get<|A.get d)<|f d).getD<|g d) d):=by
 refine e1a2 I λta N O=>?_;refine e1a2 J λtb P S=>?_;refine⟨_,Og B (v4 G M) N P m,λd F R h H e Ke Q s U W ke=>?_⟩;obtain⟨p,Y,e1,e2,e3,e4,us,Z,j,_,_⟩:=vG (i:=i) s;refine e1a4 (zo j q t) λy l1 l _ _=>?_;refine⟨_,Z,p,C,Y,_,_,rfl,j.ob,u,w,l1,y,rfl,.inl ⟨_,.inl l⟩,O d F R h H _ s λv r=>S d F R h H _ s λv' r'=>?_⟩;subst r r';have g:=w9.k (k:=gM<|f d) l;rw[xu] at g;refine⟨_,g,W _ d _ F R H U (Ch.refl _ _ _ _) s ?_⟩
 cases lk (q.get<|A.get d) (f d) with
 | none=>exact rfl
 | some z=>exact rfl
theorem TC(q:ID)(i:Nat)[Sls e][A:At i D (Bd C g) e][U:Pt i e (Bd C g) D](n:q.ok g)(o:zX X.K C)(t:vc X.K C q.nm)(u:PE X (.Name x b) (uN i))(w:EV X T a f)(m:M1 X (.Attribute (.Name x b) q.nm B) "pop" apos a pos:=by exact⟨rfl,rfl,rfl,rfl⟩)(G:gY (.Name x b) q.nm X.env (eval (.Name x b) X.env)=eval (.Name x b) X.env:=by rfl) :
  EW X E T (.Call (.Attribute (.Attribute (.Name x b) q.nm B) "pop" apos) [a] [] pos) (λ(d:D)(h:Int->D->Prop) _=>∃v,lk (q.get<|A.get d) (f d)=some v/\h v (U.put (A.hole d)<|q.set (A.get d)<|dk (q.get<|A.get d)<|f d)):=by
 refine e1a2 w λta I J=>?_;refine⟨_,Oh (v4 u G) I m,λd F R L H h Ke Q s M N ke=>?_⟩;obtain⟨p,O,e1,e2,e3,e4,us,P,j,S,W⟩:=vG (i:=i) s;refine e1a4 (zo j q n) λy Y k l Z=>?_;refine⟨_,P,p,C,O,_,_,rfl,j.ob,o,t,Y,y,rfl,.inl ⟨_,.inl k⟩,J d F R L H _ s λv r=>?_⟩;subst r;refine e1a2 M λz h1 h2=>?_;refine⟨_,gM<|f d,V.int z,k,rfl,(by rw[xu,h1];rfl),?_⟩;rw[HR];obtain⟨c,s'⟩:=W (U:=U) l<|Z (dk (q.get<|A.get d)<|f d)<|S _ l;exact N z _ _ F R _ h2 c s' rfl
theorem Ig{R:Rg}{H:Hp}{y:α}:∀{xs:List α} {vs:List V},Paired (rp R H) (xs++[y]) vs->∃us u,vs=us++[u]/\Paired (rp R H) xs us/\rp R H y u:=by
 intro xs
 induction xs with
 | nil=>intro _ z;cases z with|cons h t=>cases t;exact⟨[],_,rfl,.nil,h⟩
 | cons a xs ih =>
  intro _ z
  cases z with|cons h t =>
  obtain⟨us,u,rfl,h1,h2⟩:=ih t;exact⟨_::us,u,rfl,.cons h h1,h2⟩
theorem LA(i:Nat){D0:Type}[Sls D0][A:At i D (OL α) D0][U:Pt i D0 (OL α) D](hn:PE X (.Name x p1) (uN i))(hb:PE X (.Call (.Attribute (.Name x p1) "pop" apos) [] [] pos) (XX X.K "list" XY<|uN i)) :
  EW X E T (.Call (.Attribute (.Name x p1) "pop" apos) [] [] pos) (λ(d:D)(Kn:α->D->Prop) _=>∃ys y,(A.get d).l=ys++[y]/\Kn y (U.put (A.hole d) ⟨ys⟩)):=by
 refine⟨_,hb,λd F R σ H Kn Ke Q s hw kn ke=>?_⟩;refine e2a4 (AU (i:=i) s) λa vs g1 g2 g3 g4=>?_;refine e2a2 hw λys y e hk=>?_;rw[e] at g3;obtain⟨us,u,rfl,h1,h2⟩:=Ig g3;obtain⟨c2,s2⟩:=g4 _ _ h1;refine⟨_,g1,.inl ⟨rfl,_,vA.of g2⟩,a,_,u,rfl,rfl,g2,q0o,?_⟩;rw[List.dropLast_concat];exact kn y _ u F R _ hk c2 s2<|s.val c2 h2
theorem yC{R:Rg}{H:Hp}:∀{xs:List α} {vs:List V} (k:Nat),Paired (rp R H) xs vs->Paired (rp R H) (xs.eraseIdx k) (vs.eraseIdx k):=by
 intro _ _ k z
 induction z generalizing k with
 | nil=>exact .nil
 | cons h t ih=>cases k with
  | zero=>exact t
  | succ k=>exact .cons h<|ih k
theorem M4{a:hO}(i:Nat){D0:Type}[Sls D0][A:At i D (OL α) D0][U:Pt i D0 (OL α) D]{we:Wf D Int D}(hn:PE X (.Name x p1) (uN i))(h:EW X E T a we)
  (hb:∀{t:TA},PA X [a] t->PE X (.Call (.Attribute (.Name x p1) "pop" apos) [a] [] pos) (tBM X.K "list" N8 (uN i) t)) (hs:f9 [a] X.env=(false,eval a X.env)::f9 [] X.env:=by rfl) :
  EW X E T (.Call (.Attribute (.Name x p1) "pop" apos) [a] [] pos) (λ(d:D)(Kn:α->D->Prop) Ke=>we d (λk d'=>0<=k/\∃y,(A.get d').l[k.toNat]?=some y/\(A.get d').l.length<1000/\Kn y (U.put (A.hole d') ⟨(A.get d').l.eraseIdx k.toNat⟩)) Ke):=by
 refine e1a2 h λt h1 h2=>?_;refine⟨_,hb<|ul h1 uB hs,λd F R σ H Kn Ke Q s hw kn ke=>?_⟩;refine e2a4 (AU (i:=i) s) λa0 vs0 g1 g2 g3 _=>?_;refine⟨_,g1,.inl ⟨rfl,vs0,vA.of g2⟩,h2 d F R σ H _ _ _ s hw (λk d' v F' R' H' q c s' r=>?_) ke⟩;subst r;refine e2a4 (AU (i:=i) s') λa' SG k1 k2 k3 k4=>?_;rw[g1] at k1;cases k1;obtain⟨q0,y,e,ql,hk⟩:=q;refine e1a2 (v7 k3 e) λu hu ru=>?_;have lt:=(List.getElem?_eq_some_iff.mp hu).1;have ll:=Paired.length k3;obtain⟨c2,s2⟩:=k4 _ _<|yC k.toNat k3;refine⟨a0,SG,k,k.toNat,u,rfl,rfl,k2,q0a,q0a,?_,hu,kn y _ u F' R' _ hk (Ch.trans s s'.tab c c2) s2<|s'.val c2 ru⟩;have e0:(if k<0 then k+(SG.length:Int) else k)=k:=f8 q0a;show (if (decide (0<=(if k<0 then k+(SG.length:Int) else k))&&decide ((if k<0 then k+(SG.length:Int) else k)<(SG.length:Int)))=true then some (if k<0 then k+(SG.length:Int) else k).toNat else none)=_;rw[e0];have:(decide (0<=k)&&decide (k<(SG.length:Int)))=true:=by simp;lia
 exact f7 this
end
end WL
namespace L2
open PySem PySem.Spec PyProof.Rows SX
def WC(f:TE)(c:Int):TE:=λg H Q=>f g H λv d=>∃(a:cr) (b:List (Key×V)) (e:List Int),v=.ref a/\d a=some (.dK b)/\b.map (·.1)=e.map gM/\∀p,d p=none->Q (.ref p) (upd d p<|.dK<|e.map λk=>(gM k,V.int c))
theorem stored_new:∀{l:List (Key×ci)},k∉l.map (·.1)->stored l k y=l++[(k,y)]
 | l,h=>by unfold stored;rw[f8];simp only[tZ,hJ,not_exists,not_and];exact λe a z=>h<|List.mem_map.mpr ⟨e,a,z⟩
theorem Ih:∀{l:List k} {c:List m},Paired R c (l++[v])->∃b d,c=b++[d]/\Paired R b l/\R d v:=by
 intro e
 induction e with
 | nil=>intro _ z;cases z with|cons h t=>cases t;exact⟨[],_,rfl,.nil,h⟩
 | cons a e f =>
  intro _ z
  cases z with|cons h t =>
  obtain⟨g,u,rfl,i,j⟩:=f t;exact⟨_::g,u,rfl,.cons h i,j⟩
theorem zO:∀{l:List c} {m:List d},l.length=m.length->(∀(j:Nat)(k:c)(v:d),l[j]?=some k->m[j]?=some v->R k v)->Paired R l m
 | [],[],_,_=>.nil
 | [],_::_,h,_=>by cases h
 | _::_,[],h,_=>by cases h
 | a::l,b::m,h,f=>.cons (f 0 a b rfl rfl)<|zO (ml h) λj k v e g=>f (j+1) k v e g
theorem Ii{c:Int}:∀{a:List Int} {r:List (Key×ci)},r.map (·.1)=a.map gM->(∀e∈r,∃t,e.2=.int c t)->KV (a.map λk=>(gM k,V.int c)) r
 | [],[],_,_=>.nil
 | [],_::_,h,_=>by cases h
 | _::_,[],h,_=>by cases h
 | k::a,e::r,h,f=>by rw[gK,gK] at h;injection h with b d;obtain⟨t,g⟩:=f e gc;exact .cons ⟨b.symm,t,g⟩<|Ii d λi j=>f i<|gg _ j
theorem JP{P:gS}{w:ic}(g:∀v k,i v k->yX k v=true)(h:StoredAll i j l r):∀{a:List Key},Paired (λk v=>yX k v=true) a l->a.Nodup->r.map (·.1)=a/\∀e∈r,∃v,j v e.2:=by
 induction h with
 | nil=>intro a c _;cases c;exact⟨rfl,λ_ z=>by cases z⟩
 | @snoc l r v k y _ m n o =>
  intro a c p;obtain⟨q,d,rfl,s,t⟩:=Ih c;have u:k=d:=(uJ P w).inj v k d (g v k m) t;subst u;have b:=List.nodup_append.mp p;obtain⟨f,x⟩:=o s b.1;have A:k∉r.map (·.1):=λz=>by rw[f] at z;exact b.2.2 k z k q0o rfl
  rw[stored_new A,jw,f];refine⟨rfl,λe B=>?_⟩;rcases List.mem_append.mp B with z|z
  ·exact x e z
  ·rw[List.mem_singleton.mp z];exact⟨v,n⟩
theorem P2(af:X.calm=true)(hi:PE X iter ti)(E:nE d X.env=pure [])(F:∀y∈d.names,y.2≠.cell)(f:d.kind=.function)(p:∀y∈d.names,y.2=.local->d.names.lookup y.1=some .local)(hx:d.names.lookup x=some .local)(hd:(x==("__debug__":Str))=false:=by decide)
 (hs:∀x,jB iter X.env x=pure x:=by intro _;rfl):PE X (.DictComp (.Name x q1) (.Constant (.int c) j q2) [⟨.Name x px,iter,[],0⟩] d pos) (WC ti c):=by
  intro u s σ H Q I h
  have hh:X.A.handled=none:=I.ok.hd af
  rw[arm_eval_DictComp]
  refine oo (use:=none) rfl hs E f p<|uR (hi u s σ H _ I h) λv l z9=>e2a3 z9 λx1 H1 I1 r1 N=>e3a4 N λa r O e1 ha G q=>?_
  subst e1
  obtain rfl:v=gC a:=r1
  obtain⟨hz,S,m,kv,vB⟩:=I1.uU a _ ha
  obtain⟨B,D⟩:=vB.dictAt
  have alt:a<l.heap.objs.size:=D.lt_size
  refine wpAny_pyIter_dict S D ?_
  -- the M ah at n,the dict at n+1,the frame at n+2
  have u0:∀b o,l.heap.get? b=some o->(l.heap.push { cls:=.type "dict_keyiterator",data:=.fields #[.ref a,.int 0 0,.int m.length 0,.int B 0]}).get? b=some o:=λb o e=>ce _ e
  have i0:Heap.IsKeyIter (l.heap.push { cls:=.type "dict_keyiterator",data:=.fields #[.ref a,.int 0 0,.int m.length 0,.int B 0]}) l.heap.objs.size a 0 m.length B:=⟨_,gu _ rfl,rfl,rfl⟩
  have z0:(l.heap.push { cls:=.type "dict_keyiterator",data:=.fields #[.ref a,.int 0 0,.int m.length 0,.int B 0]}).objs.size=l.heap.objs.size+1:=iW _ _
  generalize l.heap.push { cls:=.type "dict_keyiterator",data:=.fields #[.ref a,.int 0 0,.int m.length 0,.int B 0]}=g at u0 i0 z0 ⊢
  refine hI<|wpAny_newFunctionEnv F (λy hy=>by cases hy) (λJ T U=>?_) f
  have d1:(g.push { cls:=.type "dict",dict:=none,data:=.dict #[]}).DictOf (uJ X.prog X.w) g.objs.size []:=rK g
  have u1:∀b o,g.get? b=some o->(g.push { cls:=.type "dict",dict:=none,data:=.dict #[]}).get? b=some o:=λb o e=>ce _ e
  have z1:(g.push { cls:=.type "dict",dict:=none,data:=.dict #[]}).objs.size=g.objs.size+1:=iW _ _
  generalize g.push { cls:=.type "dict",dict:=none,data:=.dict #[]}=g1 at d1 u1 z1 T U ⊢
  have u2:∀b o,g1.get? b=some o->J.get? b=some o:=λb o e=>U.extBut b o (gx<|gl e)<|ce _ e
  have c1:g.objs.size≠g1.objs.size:=by lia
  have n1:∀b∈[l.heap.objs.size,a],b<g.objs.size:=λb hb=>by
    rcases List.mem_cons.mp hb with z|z
    · rw[z, z0]; exact iQ _
    · rw[List.mem_singleton.mp z, z0]; exact nq alt
  have W:=Walks.dictKeys (prog:=X.prog) (w:=X.w) (knd:=uJ X.prog X.w) hh l.heap.objs.size a (gx alt) m B
  have st:J.IsKeyIter l.heap.objs.size a 0 m.length B/\J.DictAt (uJ X.prog X.w) a m B:=⟨i0.at λo e=>u2 _ o<|u1 _ o e,D.at' λo e=>u2 _ o<|u1 _ o<|u0 _ o e⟩
  have C:=codeAny_compLoop_walkD (R:=compPost (gp X.prog X.w) X.A X.xe none (EP X u σ Q) (gC g.objs.size) g1.objs.size) (s:={ l with heap:=J,toks:=l.toks+0}) (kx:=.Name x q1) (vx:=.Constant (.int c) j q2) (iter:=iter) (x:=x) (px:=px) (ifs:=[]) (scope:=d) (pos:=pos) (D:=g.objs.size) (cenv:=si d [] g1.objs.size X.env) W (λ_=>true) (λv k=>yX k v=true) (λ_ y=>∃t,y=.int c t)
    (lookup_relabel_local hx) (by simp[si,n8,f]) c1 (λY=>jj _<|n1 _ Y) (λY=>jj _<|mE (n1 _ Y)<|by rw[z1];exact iQ _) st (d1.at λo e=>u2 _ o e) T (λi v L m3 _ _ _ _=>rA ⟨rfl,L.heap,L.toks,rfl,λ_ _ e=>e⟩)
    (λi v L m3 Z _ hn Y _=>by
      refine e2a2 Z λk x' aj hk=>?_
      exact oR (jV (by show d.kind=_;exact f) (lookup_relabel_local hx) hn Y ⟨⟨k,hk,hk⟩,L.heap,L.toks,rfl,λ_ _ e=>e⟩) hd)
    (λi v L m3 _ _ _ _ _=>wpAny_Constant_int ⟨⟨_,rfl⟩,L.heap,_,rfl,λ_ _ e=>e⟩)
    (λh2 tk m' aa ag hn dd ab hP hS k=>?fin) (by rw[<- Paired.length kv];exact hz)
  · exact codeAny_compStart_dict C<|W.self 0 _ _ _ st C
  · refine⟨m', hn, λh3 ae => ?_⟩
    have le:l.heap.objs.size<=g.objs.size:=by rw[z0];exact kN _
    have k':∀b o,l.heap.get? b=some o->h3.get? b=some o:=λb o e=>by
      have lb:=gl e
      have lg:b<g.objs.size:=gD lb le
      have n2:b≠g1.objs.size:=gx (by rw[z1];exact nq lg)
      exact ae.extBut b o n2<|k b o n2 (λz=>by rw[List.mem_singleton.mp z] at lb;exact jj _ lb) (gx lg)<|u2 _ _<|u1 _ _<|u0 _ _ e
    have nH:H1 g.objs.size=none:=I1.uU.fresh le
    have kk:∀{r:List (Key×V)} {m:List (Key×ci)},KV r m->r.map (·.1)=m.map (·.1):=λh=>by
      induction h with
      | nil=>rfl
      | cons h _ ih=>rw[gK,gK,ih,h.1]
    have Z:Paired (λk v=>yX k v=true) (O.map gM) ag:=by
      rw[<- G,kk kv]
      refine zO (by rw[gh,ab]) λj k v J h2=>?_
      refine e2a2 (hP j v h2) λk' x' g1 g2=>?_
      rw[i4,g1] at J
      cases J
      exact g2
    have nd:(O.map gM:List Key).Nodup:=by
      rw[<- G,kk kv]
      obtain⟨o,es,ho,hc,ai,hk,hp,hn⟩:=id D
      exact hn
    obtain⟨f1,f2⟩:=JP (P:=X.prog) (w:=X.w) (λv k h=>h) hS (by rw[List.filter_eq_self.mpr<|λ_ _=>rfl];exact Z) nd
    have rel:KV (O.map λk=>(gM k,V.int c)) aa:=Ii f1 λe he=>(f2 e he).elim λv Z=>Z
    have ll:O.length=r.length:=by have:=congrArg m7 G;simpa using this.symm
    exact⟨.ref g.objs.size,_,I1.laid (a:=g.objs.size) (o:=.dK<|O.map λk=>(gM k,V.int c)) (t':=tk) k' le<|CY (by rw[gh,ll];exact hz) (beq_eq_false_iff_ne.mpr λz=>gy I1.big<|by rw[<- z];exact Nat.not_lt.mpr le) rel<|dd.extBut ae.extBut c1,rfl,q _ nH⟩
end L2
namespace WL
variable[L2.GX]
open PySem L2
open Rep (rp)
open Ow (sl)
open Sls (rel)
section
variable{D PO τ:Type}[Sls D][Sls PO][Ow τ]{α:Type}[Rep α]
theorem P4{F R:Rg}{H:Hp}{d:D}{g:St}(s:vm T F R H d g){p:cr}(c:H p=none){l:List (Int×α)}{us:List (Key×V)}(h:PK R H l us):∃e,Ch T F R H (λa=>a=p\/F a) e (upd H p<|.dK us)/\vm T F e (upd H p<|.dK us) d g/\Nw T (λa=>a=p) F e (upd H p<|.dK us) (Dc.mk l) (.ref p):=by
 refine e0a3 (s.new (.dK us) c) λi m j=>?_;have n:¬F p:=λz=>j<|s.sub p z;have f:Ext (λ_=>False) R H (λa=>R a\/a=p) (upd H p<|.dK us):=⟨λb o _ h=>by rw[ud<|uo h c];exact h,λa h=>h.elim .inl λq=>.inr<|by rw[q];exact c⟩;refine⟨λa=>R a\/a=p,⟨m.keep,f.new,λa h=>h.elim (λq=>.inr<|by rw[q];exact c) .inl,λa h _=>.inl h⟩,⟨Sls.st s.rel f (λ_ z=>z.elim)<|λ_ _ z=>z,λa h=>.inl<|s.sub a h,λa h=>?_,i.tab,.inl s.uW,s.uM⟩,⟨⟨p,us,rfl,λb=>Iff.rfl,uh,PH (f.wide λ_ z=>z.elim) h⟩,λa h=>.inr h,λa h k=>n (by rw[<- h];exact k),λh=>j<|by rw[<- h];exact s.uW⟩⟩;rcases h with h|h
 ·exact i.wu a h
 ·rw[h,uh];simp
theorem LB{c:Int}:∀l:List Int,PK R H (l.map λk=>(k,c)) (l.map λk=>((gM k:Key),V.int c))
 | []=>.nil
 | _::l=>.cons ⟨rfl,rfl⟩<|LB l
theorem M5{y:Str}{r t u:Pos}{c:Int}{j:Nat}{a:kZ}(q:ID)(i:Nat){m:Type}[Sls m][A:At i D (Bd C v) m](w:q.ok v)(B:zX X.K C)(G:vc X.K C q.nm)(l:X.calm=true)(I:PE X (.Name x h) (uN i))(e:nE a X.env=pure [])(f:∀y∈a.names,y.2≠.cell)(g:a.kind=.function)(b:∀y∈a.names,y.2=.local->a.names.lookup y.1=some .local)(J:a.names.lookup y=some .local)(L:(y==("__debug__":Str))=false:=by decide)(M:gY (.Name x h) q.nm X.env (eval (.Name x h) X.env)=eval (.Name x h) X.env:=by rfl)
  (N:∀z,jB (.Attribute (.Name x h) q.nm O) X.env z=pure z:=by intro _;rfl) :
  EO X E T (.DictComp (.Name y r) (.Constant (.int c) j t) [⟨.Name y u,.Attribute (.Name x h) q.nm O,[],0⟩] a pos) (λ(d:D)(n:Dc Int->D->Prop) _=>n ⟨((q.get<|A.get d).map (·.1)).map λk=>(k,c)⟩ d):=by
 refine⟨_,P2 l (v4 I M) e f g b J L N,λd F R σ H n Ke Q s P S ke=>?_⟩;obtain⟨p,U,e1,e2,e3,e4,us,W,o,_,_⟩:=vG (i:=i) s;refine e1a4 (zo o q w) λz Y Z _ _=>?_;refine⟨_,W,p,C,U,_,_,rfl,o.ob,B,G,Y,z,_,(q.get<|A.get d).map (·.1),rfl,Z,?_,λp' hp=>?_⟩
 ·unfold Ay;rw[jP,jP];rfl
 ·refine e1a3 (P4 s hp (LB (R:=R) (H:=H) (c:=c) ((q.get<|A.get d).map (·.1)))) λR' c3 s3 n3=>?_;exact S _ d _ _ F R' _ P c3 s3 n3
theorem WD{j:Nat}(e:EV X T a f):EO X E T (.Dict [some a] [.Constant .none j w] pos) (λ(d:D) (b:Dc (Option Int)->D->Prop) _=>b ⟨[(f d,none)]⟩ d):=by
 refine e1a2 e λx g h=>?_;refine⟨_,RV (Oe g IJ RU) rfl rfl q0o q0o,λd F R i H b y Q s k m z=>?_⟩;intro p c;refine e0a3 (s.new (.dK []) c) λn A B=>?_;refine h d F R i _ _ n λv r=>⟨uh,[(gM<|f d,.vK)],?_,(show 1<=15 by decide),?_⟩
 ·have r:v=V.int (f d):=r;rw[r];rfl
 ·rw[RA];refine e1a3 (P4 (α:=Option Int) s c (l:=[(f d,none)]) (us:=[(gM<|f d,V.vK)])<|.cons ⟨rfl,rfl⟩ .nil) λo q t u=>?_;exact m _ d _ _ F o _ k q t u
theorem tw_dcNin(i:Nat)[Sls h][A:At i D (Dc α) h](j:X.A.units+1<jQ)(m:EW X E T a wk)(n:PE X (.Name x e) (uN i))(o:iq .NotIn (.Name x e)=false:=by with_unfolding_all rfl) :
  TW X E T (.Compare a [.NotIn] [.Name x e] pos) (λ(d:D)(f:Bool->D->Prop) c=>wk d (λk b=>f (!(lk (A.get b).l k).isSome) b) c):=by
 refine e1a2 m λO p q=>?_;refine⟨_,IK (Bq j p n) o,λd F R r H f c Q s t v w=>q d F R r H _ c _ s t (λk b u z B C G I g J=>?_) w⟩;subst J;obtain⟨y,P,L,M,N⟩:=CI (i:=i) g;refine⟨_,L,y,_,rfl,w9.k (k:=gM k) M,_,rfl,?_⟩;rw[Lw N];exact v _ b z B C G I g
theorem Ij(i:Nat)[Sls q][A:At i D (Dc Int) q][U:Pt i q (Dc Int) D][J:Pj D PO n](B:X.A.units+1<jQ)(C:PE X (.Name x G) (uN i))(I:EV X T a f)(L:EV X T e h)(m:XJ X op (ZU g))
 (M:∀c j b,augStore a c j b=(do jW [b,c,j] (rE c j b);release [b,c,j] [];pure .next):=by intros;rfl) :
    S1 X E T ms n (.AugAssign (.Subscript (.Name x G) a p3) op e pos) (λ(d:D)(r:D->Prop)(_:τ->PO->Prop) _=>∃v,lk (A.get d).l (f d)=some v/\(A.get d).l.length<gf/\r (U.put (A.hole d) ⟨pk (A.get d).l (f d)<|g v<|h d⟩)):=by
  refine e1a2 I λta N O=>?_
  refine e1a2 L λte P Q=>?_
  refine⟨_,RT B C N P m M,λd F R o H r Kr Ke En s S W kr ke=>?_⟩
  refine e2a4 (PM (i:=i) s) λy us Y t p Z=>?_
  refine e1a3 S λv h1 h2 h3=>?_
  refine⟨_,Y,O d F R o H _ s λk rk=>?_⟩
  subst rk
  refine e1a2 ((JH p).1 v h1) λw w1 w2=>?_
  subst w2
  have u:=w9.k (k:=gM<|f d) t
  rw[w1] at u
  refine⟨y,_,rfl,u,Q d F R o H _ s λz rz=>?_⟩
  subst rz
  obtain⟨c3,s3⟩:=Z _ _<|PL (R:=R) (H:=H) (k:=f d) (x:=g v<|h d) (v:=V.int<|g v<|h d) rfl p
  exact⟨v,h d,rfl,rfl,_,Fp.k (k:=gM<|f d) t (by rw[JI p];exact h2),W _ F R _ o h3 c3 s3<|Ag.refl _ _⟩
end
section
variable{D:Type}[Sls D]
theorem tw_ninT{j:Wf D Int D}{m:Wf D (Tp Int) D}(w:EW X E T a j)(x:EW X E T b m)(z:iq .NotIn b=false) :
  TW X E T (.Compare a [.NotIn] [b] pos) (λ(d:D) n f=>j d (λk g=>m g (λt h=>n (!decide (k∈t.l)) h) f) f):=by
 refine e1a2 w λta A B=>?_;refine e1a2 x λtb G I=>?_;refine⟨_,wR AE A G z,λd F R o H n f Q s J L p=>B d F R o H _ f _ s J (λk g u M N O P r i S=>?_) p⟩;refine I g M N o O _ f _ i P (λt h v U W Y Z c2 s2 r2=>?_) λC y d' F' R' H' k c s'=>p C y d' F' R' H' k (Ch.trans s i.tab r c) s';subst S;obtain⟨l⟩:=t;obtain⟨q,us,rfl,_,h1,h2⟩:=r2;have e:=ints_of (xs:=l) h2;subst e;refine⟨q,_,rfl,.inr<|yq.of h1,rfl,zQ _,_,rfl,?_⟩;rw[f7 rfl,AS];exact L _ h U W Y Z (Ch.trans s i.tab r c2) s2
end
end WL
namespace L2
variable[L2.GX]
open PySem PySem.Spec PyProof.Rows
def a0W(K:fZ)(d:TE):TE:=λe H Q=>d e H λx b=>∃a c,x=.ref a/\vA K b a c/\∀p,b p=none->Q (.ref p) (upd b p<|.lst c.reverse)
theorem WE{X:Cx}{e:hO}{te:TE}{p2 p3 p4 pos:Pos}{j:Nat}(he:PE X e te):PE X (.Subscript e (.Slice none none (some<|.UnaryOp .USub (.Constant (.int 1) j p3) p4) p2) pos) (a0W X.K te):=by
 intro pins s σ H Q I h;refine rW<|uR (he pins s σ H _ I h) λv s1 z9=>e2a3 z9 λx H1 I1 r1 z89=>e2a3 z89 λa xs e1 hx q=>?_;subst e1;obtain rfl:v=gC a:=r1;refine wpAny_Slice ?_;rw[sI,evalPart_some];refine ap<|ap<|uR (UG NO uE pins s1 σ H1 (λv H=>v=.int (-1)/\H=H1) I1 ⟨1,rfl,rfl,rfl⟩) λu s2 z9=>e2a4 z9 λy H2 I2 r2 e2 e3=>?_;subst e2 e3;obtain⟨t,rfl⟩:=r2;have I4:Inv X pins σ H2 { s2 with heap:=s2.heap.push { cls:=.type "slice",data:=.fields #[.none,.none,.int (-1) t]}}:=I2.kept (t':=s2.toks) λb ob q=>ce _ q;refine e1a3 (I4.list hx) λyW r pl hz=>?_;refine' tail_any pl.isList.typeIs slot_list_getitem.lookup ?_ ?hs
 case hs=>with_unfolding_all rfl
 refine sJ pl.isList (qk ..) .none .none (.int (-1) t) q0q ?_ (by rw[gv,<- r.length];exact hz);rw[PySem.W.krv_pick];refine⟨.ref (s2.heap.push { cls:=.type "slice",data:=.fields #[.none,.none,.int (-1) t]}).objs.size,_,I4.laid (t':=s2.toks) (o:=.lst xs.reverse) (λb ob q=>ce _ q) (ga _) ?_,rfl,q _<|I4.uU.fresh<|ga _⟩;exact⟨by rw[List.length_reverse];exact hz,yW.reverse,0,r.reverse,gu _ rfl⟩
end L2
namespace WL
variable[L2.GX]
open PySem L2
open Rep (rp)
open Ow (sl)
open Sls (rel)
section
variable{D:Type}[Sls D]{α:Type}[Rep α]
theorem JQ{R:Rg}{H:Hp}:∀{xs:List α} {vs:List V},Paired (rp R H) xs vs->Paired (rp R H) xs.reverse vs.reverse:=by
 intro _ _ z
 induction z with
 | nil=>exact .nil
 | cons h t ih=>rw[m8,m8];exact wS ih<|.cons h .nil
theorem WF{j:Nat}(i:ER X E T a k) :
  EO X E T (.Subscript a (.Slice none none (some<|.UnaryOp .USub (.Constant (.int 1) j N) O) P) pos) (λ(d:D)(f:OL α->D->Prop) c=>k d (λg b=>f ⟨(g b).reverse⟩ b) c):=by
 refine e1a2 i λS l m=>?_;refine⟨_,WE l,λd F R n H f c Q s o r t=>?_⟩;refine m d F R n H _ c _ s o (λg b u h v w x y e z=>?_) t;obtain⟨q,A,rfl,B,C⟩:=z b h v w (Ch.refl _ _ _ _) e;refine⟨q,A,rfl,vA.of B,λp G=>?_⟩;refine e1a3 (wG e G<|JQ C) λI J L M=>?_;exact r _ b _ _ h I _ x (Ch.trans s e.tab y J) L M
end
end WL
namespace K7
variable[L2.GX]
open PySem L2 WL
open WL.Rep (rp)
open WL.Ow (sl)
open WL.Sls (rel)
local macro_rules | `(tactic| walk_at "wl") => `(tactic| dsimp only [At.get, At.hole, Pt.put, Ent.ent, Pj.pj, Fg.fg, Sel.sel, Sel.rest, Sel.mrg, Pre.pre, Pre.suf, at0, atS, pt0, ptS, ent0, entS, entC, pjNil, pjUn, pjCons, fgId, fgUn, fgCons, selNil, selCons, pre0, preS, stepC, id])
def top(i:Nat):gP:=PySem.Challenge.pw_slimbody_k27_whole_carried_up_without_ta.main.body.getD i<|.Pass ⟨0,0,0,0⟩
abbrev wm:gP:=top 16
abbrev DL:gP:=top 17
abbrev Gh:gP:=top 19
def E4:Wf (List Int×Unit) Bool (Un×Unit):=λp a _=>a (asc p.1) (⟨⟩,())
def E5:Wf (Tp Int×Unit) Bool (Un×Unit):=λp a _=>a (asc p.1.l) (⟨⟩,())
def CK(C:cr):Wf (List Int×Unit) Unit (Un×Unit):=λp a b=>(asc p.1=true->a () (⟨⟩,()))/\(asc p.1=false->b C (⟨⟩,()))
def LC(C:cr):Wf (Tp Int×Unit) Unit (Un×Unit):=λp a b=>(asc p.1.l=true->a () (⟨⟩,()))/\(asc p.1.l=false->b C (⟨⟩,()))
def LD:Wf (List (Tp Int)×Unit) (OL Int) (Un×Unit):=λp a _=>∃U:List Int,U.length<64/\(∀r∈p.1,wl r.l/\∀x∈r.l,x∈U)/\a ⟨NB (p.1.map (·.l))⟩ (⟨⟩,())
section
variable{P:gS}{w:ic}{K:fZ}{mg:Str->Option ci}{base:hR}{T:cr}
theorem E6:um ["row"] ["row"] (ue wm):=⟨rfl,rfl,rfl,q0s,rfl,q0s,q0s⟩
theorem JR{f c:cr}{fd:g9}(F:ye K "is_sum" "is_sum" wm f fd)(hc:fd.code=.ref c)(B:HI mg base c T)(WG:mg "all"=none)(WH:mg "zip"=none):uL P w K mg base (uV P w) 1 f fd ["row"] (xN T E4):=by
 refine' ur (UX (A:=List Int×Unit) (PO:=Un×Unit) (τ:=Bool) (D':=Unit) (ms:=[]) (j:=0) F E6 rfl rfl λA outer s H E hr=>?body) ?nice
 case body =>
  exact ug<|uD<|uQ<|O9 (ss 0) (uG<|HN (vg<|ss 0) (FM ui) FL)<|λh=>HH a0p (c:=c) (P:=T) rfl ⟨hc,B.hd,B.blt⟩ hr.depth rfl WG rfl WH h rfl rfl rfl q0s rfl rfl rfl q0s q0s q0s
 case nice =>
  intro p Kn Ke h
  walk_at "wl"
  rw[YD];exact h
theorem JS{f c:cr}{fd:g9}(F:ye K "is_sum" "is_sum" wm f fd)(hc:fd.code=.ref c)(B:HI mg base c T)(WG:mg "all"=none)(WH:mg "zip"=none):uL P w K mg base (uV P w) 1 f fd ["row"] (xN T E5):=by
 refine' ur (UX (A:=Tp Int×Unit) (PO:=Un×Unit) (τ:=Bool) (D':=Unit) (ms:=[]) (j:=0) F E6 rfl rfl λA outer s H E hr=>?body) ?nice
 case body =>
  exact ug<|uD<|uQ<|Pa (ss 0) (MQ (ss 0) (FM ui) FL)<|λh=>HH a0N (c:=c) (P:=T) rfl ⟨hc,B.hd,B.blt⟩ hr.depth rfl WG rfl WH h rfl rfl rfl q0s rfl rfl rfl q0s q0s q0s
 case nice =>
  intro p Kn Ke h
  walk_at "wl"
  rw[YD];exact h
theorem LF:um ["row"] ["row"] (ue DL):=⟨rfl,rfl,rfl,q0s,rfl,q0s,q0s⟩
theorem E7{b:Bool}(h:(b=true->p)/\(b=false->q)):if (!b)=true then q else p:=by
 cases b
 ·exact h.2 rfl
 ·exact h.1 rfl
theorem P5{f C f1:cr}{fd U9:g9}{Ck:List ci}{B newId xg:String}(F:ye K "must_be_sum" "must_be_sum" DL f fd)(F1:Fn K mg "is_sum" wm ["row"] f1 U9)(G1:uL P w K mg base (uV P w) 1 f1 U9 ["row"] (xN T E4))
  (hC:mg "NotASum"=some (.ref C))(O:iH K C Ck newId=true)(FB:jI B newId xg Ck)(g0:∀H',GX.g C none H'):uL P w K mg base (uV P w) 2 f fd ["row"] (xN T<|CK C):=by
 refine' ur (B3 (uI q0q) (A:=List Int×Unit) (PO:=Un×Unit) (D':=List Int×Unit) (ms:=[]) (j:=0) F LF rfl rfl λRX A outer s H E hr=>?body) ?nice
 case body =>
  exact ug<|uS (tw_not<|tw_val<|uw<|AT G1 hr rfl F1.at_ F1.fn.kp F1.bd De<|uj (ss 0) uf) (ug<|Dt<|Df rfl hC O FB g0<|ul Fe uB) uH
 case nice =>
  intro p Kn Ke h
  walk_at "wl"
  exact E7 h
theorem P6{f C f1:cr}{fd U9:g9}{Ck:List ci}{B newId xg:String}(F:ye K "must_be_sum" "must_be_sum" DL f fd)(F1:Fn K mg "is_sum" wm ["row"] f1 U9)(G1:uL P w K mg base (uV P w) 1 f1 U9 ["row"] (xN T E5))
  (hC:mg "NotASum"=some (.ref C))(O:iH K C Ck newId=true)(FB:jI B newId xg Ck)(g0:∀H',GX.g C none H'):uL P w K mg base (uV P w) 2 f fd ["row"] (xN T<|LC C):=by
 refine' ur (B3 (uI q0q) (A:=Tp Int×Unit) (PO:=Un×Unit) (D':=Tp Int×Unit) (ms:=[]) (j:=0) F LF rfl rfl λRX A outer s H E hr=>?body) ?nice
 case body =>
  exact ug<|uS (tw_not<|tw_val<|uw<|AT G1 hr rfl F1.at_ F1.fn.kp F1.bd De<|uj (ss 0) uf) (ug<|Dt<|Df rfl hC O FB g0<|ul Fe uB) uH
 case nice =>
  intro p Kn Ke h
  walk_at "wl"
  exact E7 h
theorem Ik:um ["rows","odd","row","number"] ["rows"] (ue Gh):=⟨rfl,rfl,rfl,q0s,rfl,q0s,q0s⟩
theorem P7{f C f1:cr}{fd U9:g9}(F:ye K "total" "total" Gh f fd)(F1:Fn K mg "must_be_sum" DL ["row"] f1 U9)(G1:uL P w K mg base (uV P w) 2 f1 U9 ["row"] (xN T<|LC C))(a0X:mg "set"=none)(TF:mg "sorted"=none) :
  uL P w K mg base (uV P w) 3 f fd ["rows"] (xN T LD):=by
 refine' ur (vS (A:=List (Tp Int)×Unit) (PO:=Un×Unit) (τ:=OL Int) (D':=Unit) (ms:=[]) (j:=3) F Ik rfl rfl λRX A outer s H E hr=>?body) ?nice
 case body =>
  have nd:=Ik.nd
  exact Cw (uI q0q) (uv 1 nd<|SQ (w:=w) rfl rfl a0X)
   (Cw (uI q0q) (vT (is:=[]) (mb:=[]) (D1:=List (Tp Int)×SI w×Tp Int×Un×Unit) (D2:=List (Tp Int)×SI w×Tp Int×Un×Unit) (uI q0q) ya rfl (vv (ss 0)) (uF 2 (ut nd))
    (Cw (uI q0q) (uX (uw (AT G1 hr rfl F1.at_ F1.fn.kp F1.bd De (uj (ss 2) uf))))
     (ug (vT (is:=[]) (mb:=[]) (D1:=List (Tp Int)×SI w×Tp Int×Int×Unit) (D2:=List (Tp Int)×SI w×Tp Int×Int×Unit) (uI q0q) ya rfl (Pc (ss 2)) (uF 3 (ut nd))
      (ug (uS (tw_inS 1 (w:=w) rfl (ss 3) (pv 1) (by with_unfolding_all rfl))
       (ug<|SS 1 (w:=w) rfl (ss 3)<|λh=>AA<|OC PySem.F.slot_set_discard PySem.F.type_set_discard OB (pv 1) h)
       (ug (SR 1 (w:=w) rfl (ss 3) (λh=>AA (OC PySem.F.slot_set_add PySem.F.type_set_add Sr (pv 1) h)))))) q0q q0q))) q0q q0q)
    (ug (uD (JC 1 (w:=w) rfl rfl rfl TF (pv 1)))))
 case nice =>
  intro p Kn Ke h
  walk_at "wl"
  obtain⟨U,hU,hr,hk⟩:=h;refine uZ (λ(r:List (Tp Int)) (b:List (Tp Int)×SI w×Un×Un×Unit)=>wl b.2.1.l/\(∀x∈b.2.1.l,x∈U)/\(r.map (·.l)).foldl xr b.2.1.l=NB (p.1.map (·.l))) p.1 ⟨gR,(λ_ h=>by cases h),rfl⟩ ?_ ?_
  ·rintro x r b ⟨pre,e⟩ ⟨h1,h2,h3⟩ K hK;have hx:=hr x (by rw[e];simp);refine⟨λ_=>?_,λz=>gy ((xt _).mpr hx.1)<|by rw[z];simp⟩;refine uZ (λ(q:List Int) (c:List (Tp Int)×SI w×Tp Int×Un×Unit)=>wl c.2.1.l/\(∀y∈c.2.1.l,y∈U)/\q.foldl JD c.2.1.l=xr b.2.1.l x.l) x.l ⟨h1,h2,rfl⟩ ?_ ?_
   ·rintro y q c ⟨a2i,e2⟩ ⟨g1,g2,g3⟩ K2 hK2;have hy:y∈x.l:=by rw[e2];simp
    have g3':q.foldl JD (JD c.2.1.l y)=xr b.2.1.l x.l:=g3;by_cases hc:y∈c.2.1.l
    ·rw[f7<|decide_eq_true hc];refine hK2 _ ⟨i8 _ g1,λz hz=>g2 z (zn.mp hz).1,?_⟩;rw[<- g3'];unfold JD;rw[f7 hc]
    ·rw[f8<|by simpa using hc];refine⟨by have:=vE g1 g2;lia,hK2 _ ⟨Cy g1,λz hz=>?_,?_⟩⟩
     ·rcases AY.mp hz with e3|e3
      ·rw[e3];exact hx.2 y hy
      ·exact g2 z e3
     ·rw[<- g3'];rw[show JD c.2.1.l y=Ep y c.2.1.l from f8 hc]
   ·rintro c ⟨g1,g2,g3⟩;refine hK _ ⟨g1,g2,?_⟩;rw[<- h3];show (r.map (·.l)).foldl xr c.2.1.l=(r.map (·.l)).foldl xr (xr b.2.1.l x.l);rw[<- g3];rfl
  ·rintro b ⟨h1,h2,h3⟩;refine⟨by have:=vE h1 h2;lia,?_⟩;have h3':b.2.1.l=NB (p.1.map (·.l)):=h3;rw[h3'];exact hk
end
end K7
namespace WL
variable[L2.GX]
open PySem L2
open Rep (rp)
open Ow (sl)
open Sls (rel)
section
variable{X:Cx}{scope:kZ}{T:List Str}{i j:Nat}{x y:Str}{c d:cr}
/-- the scope of a comprehension Y2 reads nothing,one name,two names from around it -/
theorem Xl(a:scope.kind=.function/\nE scope X.env=pure []:=by exact⟨rfl,rfl⟩)
 (b:(∀z∈scope.names,z.2≠.cell)/\(∀z∈scope.names,z.2=.local->scope.names.lookup z.1=some .local)/\∀z∈scope.names,z.2≠.free:=by refine⟨?_,?_,?_⟩<;>decide +kernel):x9 X scope [] T [] [] :=
  ⟨a.1,a.2,b.1,b.2.1,(λ_ _ h=>by cases h),λz f e=>gy e<|b.2.2 z f,(λj z h=>by cases h),rfl⟩
theorem Rx(a:scope.kind=.function/\nE scope X.env=pure [(x,c)]/\X.env.cells.lookup x=some c/\X.N[i]?=some x/\X.env.kindOf x=some .cell/\(n8 scope X.env).names.lookup x=some .cell:=by exact⟨rfl,rfl,rfl,rfl,rfl,rfl⟩)
 (b:(∀z∈scope.names,z.2≠.cell)/\(∀z∈scope.names,z.2=.local->scope.names.lookup z.1=some .local)/\∀z∈scope.names,z.2=.free->z.1=x:=by refine⟨?_,?_,?_⟩<;>decide +kernel):x9 X scope [(x,c)] T [x] [i] :=
  have f:∀{z:Str},z=x->jD z [(x,c)]=some c:=λ{z} e=>by rw[e,gX,oH]
  ⟨a.1,a.2.1,b.1,b.2.1,(λz e h=>(lkc h).elim (λq=>by rw[q.1,q.2];exact a.2.2.1) λq=>by cases q),λz g e=>⟨c,f (b.2.2 z g e)⟩,(λk z h=>by
    cases k with
    | zero=>cases h;exact⟨i,c,rfl,a.2.2.2.1,.inl a.2.2.2.2.1,f rfl,.inl a.2.2.2.2.2⟩
    | succ k=>cases h),rfl⟩
theorem bs2(a:scope.kind=.function/\nE scope X.env=pure [(y,d),(x,c)]/\X.env.cells.lookup x=some c/\X.env.cells.lookup y=some d/\X.N[i]?=some x/\X.N[j]?=some y/\X.env.kindOf x=some .cell/\X.env.kindOf y=some .cell/\(n8 scope X.env).names.lookup x=some .cell/\(n8 scope X.env).names.lookup y=some .cell:=by exact⟨rfl,rfl,rfl,rfl,rfl,rfl,rfl,rfl,rfl,rfl⟩)
 (b:(∀z∈scope.names,z.2≠.cell)/\(∀z∈scope.names,z.2=.local->scope.names.lookup z.1=some .local)/\(∀z∈scope.names,z.2=.free->z.1=x\/z.1=y)/\¬x=y:=by refine⟨?_,?_,?_,?_⟩<;>decide +kernel):x9 X scope [(y,d),(x,c)] T [x,y] [i,j] :=
  have f:∀{z:Str},z=y->jD z [(y,d),(x,c)]=some d:=λ{z} e=>by rw[e,gX,oH]
  have g:∀{z:Str},z=x->jD z [(y,d),(x,c)]=some c:=λ{z} e=>by rw[e,gX,beq_eq_false_iff_ne.mpr b.2.2.2,gX,oH]
  ⟨a.1,a.2.1,b.1,b.2.1,(λz e h=>(lkc h).elim (λq=>by rw[q.1,q.2];exact a.2.2.2.1) λh=>(lkc h).elim (λq=>by rw[q.1,q.2];exact a.2.2.1) λq=>by cases q),λz l e=>(b.2.2.1 z l e).elim (λq=>⟨c,g q⟩) λq=>⟨d,f q⟩,(λk z h=>by
    cases k with
    | zero=>cases h;exact⟨i,c,rfl,a.2.2.2.2.1,.inl a.2.2.2.2.2.2.1,g rfl,.inl a.2.2.2.2.2.2.2.2.1⟩
    | succ k=>cases k with
      | zero=>cases h;exact⟨j,d,rfl,a.2.2.2.2.2.1,.inl a.2.2.2.2.2.2.2.1,f rfl,.inl a.2.2.2.2.2.2.2.2.2⟩
      | succ k=>cases h),rfl⟩
end
end WL
namespace K7
variable[L2.GX]
open PySem L2 WL
open WL.Rep (rp)
open WL.Ow (sl)
open WL.Sls (rel)
local macro_rules | `(tactic| walk_at "wl") => `(tactic| dsimp only [At.get, At.hole, Pt.put, Ent.ent, Pj.pj, Fg.fg, Sel.sel, Sel.rest, Sel.mrg, Pre.pre, Pre.suf, at0, atS, pt0, ptS, ent0, entS, entC, pjNil, pjUn, pjCons, fgId, fgUn, fgCons, selNil, selCons, pre0, preS, stepC, id, ID.get, ID.set, wSq])
local macro_rules | `(tactic| walk_at "sc") => `(tactic| exact ⟨rfl, rfl, rfl, by decide +kernel, rfl, by decide +kernel, by decide +kernel⟩)
section
variable(C:cr)
abbrev B0:=Bd C true
def vF{C:cr}(x:B0 C)(row:List Int):Bool:=row.all λc=>(lk x.rk c).isSome
def vR{C:cr}(x:B0 C)(c:Int):List Int:=(lk x.bd c).getD []
def WI{C:cr}(x:B0 C)(c:Int):List Int:=(x.rk.map (·.1)).filter λh=>decide<|c∈vR x h
def TH{C:cr}(x:B0 C)(row:List Int)(r:Int):Bool:=row.all λc=>decide<|lk x.rk c=some r
structure P8{C:cr}(x:B0 C):Prop where
 kb:∀k,(lk x.rk k).isSome=true->(lk x.bd k).isSome=true
 bo:∀k b,lk x.bd k=some b->wl b/\∀c∈b,0<=c/\c<63
 ri:(x.rk.map (·.1)).Pairwise (·<=·)
 lr:x.rk.length<64
 lb:x.bd.length<64
def A6(a:cr):Wf (B0 C×Int×Unit) Unit (B0 C×Un×Unit):=λp b c =>
 if (lk p.1.rk p.2.1).isSome=true then b () (p.1,⟨⟩,()) else c a (p.1,⟨⟩,())
def zv(XS XC:cr):Wf (B0 C×List Int×Unit) Unit (B0 C×Un×Unit):=λp Kn Ke =>
 if asc p.2.1=true then (if vF p.1 p.2.1=true then Kn () (p.1,⟨⟩,()) else Ke XC (p.1,⟨⟩,())) else Ke XS (p.1,⟨⟩,())
def wJ(XO:cr):Wf (B0 C×List Int×Int×Unit) Unit (B0 C×Un×Un×Unit):=λp Kn Ke =>
 vF p.1 p.2.1=true/\if TH p.1 p.2.1 p.2.2.1=true then Kn () (p.1,⟨⟩,⟨⟩,()) else Ke XO (p.1,⟨⟩,⟨⟩,())
def w4(XS XC:cr):Wf (B0 C×List Int×Unit) (OL Int) (B0 C×Un×Unit):=λp Kn Ke =>
 P8 p.1/\if asc p.2.1=true then (if vF p.1 p.2.1=true then Kn ⟨NB<|p.2.1.map<|vR p.1⟩ (p.1,⟨⟩,()) else Ke XC (p.1,⟨⟩,())) else Ke XS (p.1,⟨⟩,())
def CL:Wf (B0 C×Unit) (OL Int) (B0 C×Unit):=λp a _=>P8 p.1/\a ⟨p.1.rk.map (·.1)⟩ (p.1,())
def Gi(a:cr):Wf (B0 C×Int×Unit) (OL Int) (B0 C×Un×Unit):=λp b c =>
 P8 p.1/\if (lk p.1.rk p.2.1).isSome=true then b ⟨WI p.1 p.2.1⟩ (p.1,⟨⟩,()) else c a (p.1,⟨⟩,())
def Il(b c d e f:cr):Wf (B0 C×Int×List Int×Unit) Int (B0 C×Un×Un×Unit):=λp g a =>
 P8 p.1/\lk p.1.bd p.1.up=none/\if p.2.1<0\/12<p.2.1 then a b (p.1,⟨⟩,⟨⟩,()) else if asc p.2.2.1=true then (if vF p.1 p.2.2.1=true then (if TH p.1 p.2.2.1 (p.2.1-1)=true then
  (if NB (p.2.2.1.map (vR p.1))=[] then g p.1.up ({ p.1 with rk:=pk p.1.rk p.1.up p.2.1,bd:=pk p.1.bd p.1.up p.2.2.1,up:=p.1.up+1},⟨⟩,⟨⟩,()) else a f (p.1,⟨⟩,⟨⟩,())) else a e (p.1,⟨⟩,⟨⟩,())) else a d (p.1,⟨⟩,⟨⟩,())) else a c (p.1,⟨⟩,⟨⟩,())
def Gj(b c:cr):Wf (B0 C×Int×Unit) Unit (B0 C×Un×Unit):=λp d a =>
 P8 p.1/\if (lk p.1.rk p.2.1).isSome=true then (if WI p.1 p.2.1=[] then d () ({ p.1 with rk:=dk p.1.rk p.2.1,bd:=dk p.1.bd p.2.1},⟨⟩,()) else a c (p.1,⟨⟩,())) else a b (p.1,⟨⟩,())
def A7(XC:cr):Wf (B0 C×Int×Unit) (OL Int) (B0 C×Un×Unit):=λp Kn Ke =>
 P8 p.1/\if (lk p.1.rk p.2.1).isSome=true then Kn ⟨vR p.1 p.2.1⟩ (p.1,⟨⟩,()) else Ke XC (p.1,⟨⟩,())
end
theorem yK{n k:Int}(h0:0<=k)(h1:k<n):k∈xO 0 n:=by exact List.mem_map.mpr ⟨k.toNat,List.mem_range.mpr q0a,q0a⟩
theorem yL{k:Int}:∀{l:List (Int×c)},(lk l k).isSome=true->k∈l.map (·.1):=by
 intro b
 induction b with
 | nil=>intro h;cases h
 | cons e l a =>
  intro h;by_cases q:e.1=k
  ·rw[<- q];simp
  ·have:lk (e::l) k=lk l k:=by unfold lk;rw[h8,gI q]
   rw[this] at h;exact gg _<|a h
theorem wK{k:Int}:∀{l:List (Int×a)},k∈l.map (·.1)->(lk l k).isSome=true
 | [],h=>by cases h
 | e::l,h=>by
  by_cases q:e.1=k
  ·unfold lk;rw[h8,decide_eq_true q];rfl
  ·have:lk (e::l) k=lk l k:=by unfold lk;rw[h8,gI q]
   rw[this];rcases List.mem_cons.mp h with z|z
   ·exact gy z.symm q
   ·exact wK z
theorem DM{C:cr}{x:B0 C}{c:Int}{r:List Int}:vF x (c::r)=((lk x.rk c).isSome&&vF x r):=by unfold vF;rw[ph]
theorem P9{C:cr}{x:B0 C}{c k:Int}{r:List Int}:TH x (c::r) k=(decide (lk x.rk c=some k)&&TH x r k):=by unfold TH;rw[ph]
theorem M6{C:cr}{x:B0 C}{row:List Int}(ok:P8 x)(ha:asc row=true)(h:vF x row=true):row.length<=gf:=by have:=vE (U:=x.rk.map (·.1)) ((xt row).mp ha) λc hc=>yL<|List.all_eq_true.mp h c hc;rw[gh] at this;have:=ok.lr;exact ve q0a
theorem A8{n:Nat}(h:n<1000):n<gf:=by have z:gf=16777216:=iu;lia
theorem Ae{C:cr}{x:B0 C}(ok:P8 x){c:Int}(h:(lk x.rk c).isSome=true):lk x.bd c=some (vR x c):=by obtain⟨v,hv⟩:=Option.isSome_iff_exists.mp<|ok.kb c h;unfold vR;rw[hv];rfl
theorem vo{K:List d->S->Prop}(e:∀x∈c,∀K:Option d->S->Prop,(if q x=true then K (some x) s else K none s)->b x s K)(h:K (c.filter q) s):AX b c s K:=by
 refine vi (f:=λx=>if q x=true then some x else none) (λx g K a=>e x g K ?_) (by rw[filterMap_filter];exact h);by_cases z:q x=true
 ·rw[f7 z] at a ⊢;exact a
 ·rw[f8 z] at a ⊢;exact a
section
variable{q:Cq}{C XC XS XO XB XP XV WJ XF XT XN XR XL:cr}
abbrev yM:gP:=Bk (top 26) 15
abbrev yN:List Str:=["self","cell"]
theorem Es:um ["self","cell"] yN (ue yM):=by walk_at "sc"
abbrev vP(q:Cq)(C XC:cr)(k:Nat):=yT q C "must_stand" yN (A6 C XC) k
theorem Et(F:ye q.K "must_stand" "Body.must_stand" yM f d)(c:Aw q.K C)(a:Xc q.K q.mg "NoCell" XC):Gq q 2 f d yN (A6 C XC):=by
 refine' ur (B3 (uI q0q) (D':=(Bd C true)×Int×Unit) (ms:=[0]) (j:=0) F Es rfl rfl λe A b s H E g =>
   (ug (uS (tw_dIn .rk true 0 trivial c.cl c.nR (BE g) (ss 1) (pv 0))
   (ug<|Ad rfl a)
   uH))) λp i k h=>?_
 walk_at "wl"
 have h:if (lk p.1.rk p.2.1).isSome=true then i () (p.1,⟨⟩,()) else k XC (p.1,⟨⟩,()):=h
 cases q:(lk p.1.rk p.2.1).isSome with
 | true=>rw[q] at h;simpa using h
 | false=>rw[q] at h;simpa using h
abbrev zw:gP:=Bk (top 26) 16
abbrev zx:List Str:=["self","row"]
theorem A9:um ["self","row","cell"] zx (ue zw):=by walk_at "sc"
abbrev xU(q:Cq)(C XS XC:cr)(k:Nat):=yT q C "must_hold" zx (zv C XS XC) k
theorem Gk{f:cr}{fd:g9}(F:ye q.K "must_hold" "Body.must_hold" zw f fd)(ct:Aw q.K C)(Eu:wC q "must_be_sum" ["row"] (CK XS) 2)(wA:vP q C XC 2):Gq q 3 f fd zx (zv C XS XC):=by
 refine' ur (B3 (uI q0q) (D':=(Bd C true)×(List Int)×Un×Unit) (ms:=[0]) (j:=1) F A9 rfl rfl λRX A outer s H E hr =>
   (uu (uX (uw (uz Eu (uj (ss 1) uf))))
   (ug (vT (is:=[]) (mb:=[0]) (D1:=(Bd C true)×(List Int)×Int×Unit) (D2:=(Bd C true)×(List Int)×Int×Unit) (uI q0q) ya rfl (vv (ss 1)) (uF 2 (ut A9.nd))
   (ug (uX (uw (vz 0 wA (uj (ss 2) uf))))) q0q q0q)))) λp Kn Ke h=>?_
 walk_at "wl"
 have h:if asc p.2.1=true then (if vF p.1 p.2.1=true then Kn () (p.1,⟨⟩,()) else Ke XC (p.1,⟨⟩,())) else Ke XS (p.1,⟨⟩,()):=h;refine⟨λha=>?_,λha=>?_⟩
 ·have ha:asc p.2.1=true:=ha;rw[f7 ha] at h;refine uZ (λ(r:List Int)(b:B0 C×List Int×WL.Un×Unit)=>b.1=p.1/\if vF p.1 r=true then Kn () (p.1,⟨⟩,()) else Ke XC (p.1,⟨⟩,())) p.2.1 ⟨rfl,h⟩ ?_ ?_
  ·rintro c r b _ ⟨e,hb⟩ K2 hK;rw[DM] at hb;show if (lk b.1.rk c).isSome=true then K2 _ else Ke XC (b.1,⟨⟩,());rw[e]
   cases q:(lk p.1.rk c).isSome with
   | false=>rw[q] at hb;simpa using hb
   | true =>
    rw[q,Bool.true_and] at hb;rw[f7 rfl];exact hK _ ⟨rfl,hb⟩
  ·rintro b ⟨e,hb⟩;rw[e];exact hb
 ·have ha:asc p.2.1=false:=ha;rw[f8<|by rw[ha];simp] at h;exact h
abbrev wL:gP:=Bk (top 26) 17
abbrev wM:List Str:=["self","row","rank"]
theorem xV:um ["self","row","rank","cell"] wM (ue wL):=by walk_at "sc"
abbrev BH(q:Cq)(C XO:cr)(k:Nat):=yT q C "must_have_rank" wM (wJ C XO) k
theorem Ba{f:cr}{fd:g9}(F:ye q.K "must_have_rank" "Body.must_have_rank" wL f fd)(ct:Aw q.K C)(Im:Xc q.K q.mg "OtherRank" XO):Gq q 2 f fd wM (wJ C XO):=by
 refine' ur (B3 (uI q0q) (D':=(Bd C true)×(List Int)×Int×Un×Unit) (ms:=[0]) (j:=1) F xV rfl rfl λRX A outer s H E hr =>
   (ug (vT (is:=[]) (mb:=[0]) (D1:=(Bd C true)×(List Int)×Int×Int×Unit) (D2:=(Bd C true)×(List Int)×Int×Int×Unit) (uI q0q) ya rfl (vv (ss 1)) (uF 3 (ut xV.nd))
   (ug (uS (tw_cm OR (FW .rk 0 trivial ct.cl ct.nR (BE hr) (pv 0) (vy 3 (pv 3))) (ss 2))
   (ug<|Ad rfl Im)
   uH)) q0q q0q))) λp Kn Ke h=>?_
 walk_at "wl"
 refine uZ (λ(r:List Int)(b:B0 C×List Int×Int×WL.Un×Unit)=>b.1=p.1/\b.2.2.1=p.2.2.1/\vF p.1 r=true/\if TH p.1 r p.2.2.1=true then Kn () (p.1,⟨⟩,⟨⟩,()) else Ke XO (p.1,⟨⟩,⟨⟩,())) p.2.1 ⟨rfl,rfl,h.1,h.2⟩ ?_ ?_
 ·rintro c r b _ ⟨e1,e2,hi,hb⟩ K2 hK;rw[DM,g8] at hi;rw[P9] at hb;obtain⟨v,hv⟩:=Option.isSome_iff_exists.mp hi.1;refine⟨v,by rw[e1];exact hv,?_⟩;rw[hv] at hb;rw[e2];by_cases q:v=p.2.2.1
  ·rw[f8<|by simp[q]];refine hK _ ⟨e1,rfl,hi.2,?_⟩;rw[q] at hb;simpa using hb
  ·rw[f7 (by simp[q]),e1];rw[f8<|by simp[q]] at hb;exact hb
 ·rintro b ⟨e1,_,_,hb⟩;rw[e1];exact hb
abbrev zy:gP:=Bk (top 26) 9
abbrev vL:List Str:=["self","row"]
theorem Gm:um ["self","row"] vL (ue zy):=by walk_at "sc"
theorem Ev:(["cell","self"]:List Str).Nodup:=by decide +kernel
abbrev B7(q:Cq)(C XS XC:cr)(k:Nat):=yT q C "border_of" vL (w4 C XS XC) k
theorem Gn{f:cr}{fd:g9}(F:ye q.K "border_of" "Body.border_of" zy f fd)(ct:Aw q.K C)(TJ:wC q "total" ["rows"] LD 3)(Io:xU q C XS XC 3):Gq q 4 f fd vL (w4 C XS XC):=by
 refine' ur (vS (D':=Unit) (ms:=[0]) (j:=0) F Gm rfl rfl λRX A outer s H E hr =>
   (uu (uX (uw (vz 0 Io (uj (ss 1) uf))))
   (ug (uD (uz TJ (uj (uG (wg (Ts:=["cell"]) (Fr:=["self"]) (idx:=[0]) (k:=1) (mb:=[1]) (is:=[]) (cl:=[("self",s.heap.objs.size+1)]) rfl (vv (ss 1)) Rx rfl (vN rfl) (λs₀ H₀ C ex pn=>(uF 0 (ut Ev))) (λs₀ H₀ C ex pn=>tws_nil) (λs₀ H₀ C ex pn=>(zS 1 ct.cl ct.nB (BE hr) (pv 1) (vy 0 (pv 0)))))) uf)))))) λp Kn Ke h=>?_
 walk_at "wl"
 obtain⟨ok,h⟩:=h;show if asc p.2.1=true then (if vF p.1 p.2.1=true then _ else Ke XC (p.1,⟨⟩,())) else Ke XS (p.1,⟨⟩,());by_cases ha:asc p.2.1=true
 ·rw[f7 ha] at h ⊢;by_cases hb:vF p.1 p.2.1=true
  ·rw[f7 hb] at h ⊢
   have lkb:∀c∈p.2.1,lk p.1.bd c=some (vR p.1 c):=λc hc=>by obtain⟨v,hv⟩:=Option.isSome_iff_exists.mp<|ok.kb c<|List.all_eq_true.mp hb c hc;unfold vR;rw[hv];rfl
   refine⟨M6 ok ha hb,vi (f:=λc=>some<|Tp.mk<|vR p.1 c) (λc hc K hk=>⟨vR p.1 c,lkb c hc,hk⟩) ?_⟩;refine⟨xO 0 63,by rw[vX];decide,λr hr=>?_,?_⟩
   ·obtain⟨c,hc,e⟩:=List.mem_filterMap.mp hr;cases e;obtain⟨g1,g2⟩:=ok.bo c _<|lkb c hc;exact⟨g1,λx hx=>yK (g2 x hx).1 (g2 x hx).2⟩
   ·have e:((p.2.1.filterMap λc=>some<|Tp.mk<|vR p.1 c).map (·.l))=p.2.1.map (vR p.1):=by rw[show (λc=>some<|Tp.mk<|vR p.1 c)=some∘(λc=>Tp.mk<|vR p.1 c) from rfl,List.filterMap_eq_map,jP];rfl
    rw[e];exact h
  ·rw[f8 hb] at h ⊢;exact h
 ·rw[f8 ha] at h ⊢;exact h
abbrev Go:gP:=Bk (top 26) 4
abbrev xW:List Str:=["self"]
theorem Qa:um ["self"] xW (ue Go):=by walk_at "sc"
abbrev TK(q:Cq)(C:cr)(k:Nat):=yT q C "cells" xW (CL C) k
theorem Qb(F:ye q.K "cells" "Body.cells" Go f d)(b:Aw q.K C)(B:Bn q.mg):Gq q 2 f d xW (CL C):=by
 refine' ur (vS (D':=Unit) (ms:=[0]) (j:=0) F Qa rfl rfl λe A a s H E g =>
   (ug (uD (Dw .rk 0 trivial b.cl b.nR rfl rfl B.sorted (pv 0))))) λp i k h=>?_
 walk_at "wl"
 obtain⟨c,h⟩:=h;exact⟨c.lr,by rw[<- Dh (nW _) c.ri];exact h⟩
abbrev JT:gP:=Bk (top 26) 8
abbrev zA:List Str:=["self","cell"]
theorem TL:um ["self","cell"] zA (ue JT):=by walk_at "sc"
theorem Qc:(["high","cell","self"]:List Str).Nodup:=by decide +kernel
abbrev WK(q:Cq)(C XC:cr)(k:Nat):=yT q C "over" zA (Gi C XC) k
theorem TM(F:ye q.K "over" "Body.over" JT f u)(m:Aw q.K C)(a:vP q C XC 3)(b:TK q C 3):Gq q 4 f u zA (Gi C XC):=by
 refine' ur (vS (D':=Unit) (ms:=[0]) (j:=0) F TL rfl rfl λw A i s H E x =>
   (uu (uX (uw (vz 0 a (uj (ss 1) uf))))
   (ug (uD (wg (Ts:=["high"]) (Fr:=["cell","self"]) (idx:=[1,0]) (k:=1) (mb:=[1,2]) (is:=[]) (cl:=[("self",s.heap.objs.size+1),("cell",s.heap.objs.size+1+1)]) rfl (vv (uG (HV 0 b))) bs2 rfl (vN rfl) (λc d C n o=>(uF 0 (ut Qc))) (λc d C n o=>(tws_one (tw_inT (ss 1) (zS 2 m.cl m.nB (BE x) (pv 2) (vy 0 (pv 0))) (by with_unfolding_all rfl)))) (λc d C n o=>(ss 0))))))) λp B y h=>?_
 walk_at "wl"
 obtain⟨l,h⟩:=h;show if (lk p.1.rk p.2.1).isSome=true then _ else y XC (p.1,⟨⟩,());by_cases r:(lk p.1.rk p.2.1).isSome=true
 ·rw[f7 r] at h ⊢;refine⟨l,?_,?_⟩
  ·show (p.1.rk.map (·.1)).length<=gf;rw[gh];have:=l.lr;exact ve q0a
  ·refine vi (f:=λk=>if decide (p.2.1∈vR p.1 k)=true then some k else none) (λk z K g=>?_) ?_
   ·obtain⟨v,t⟩:=Option.isSome_iff_exists.mp<|l.kb k<|wK z;have e:vR p.1 k=v:=by unfold vR;rw[t];rfl
    refine⟨v,t,?_⟩;rw[e] at g;show if decide (p.2.1∈v)=true then _ else _;by_cases q:decide (p.2.1∈v)=true
    ·rw[f7 q] at g ⊢;exact g
    ·rw[f8 q] at g ⊢;exact g
   ·rw[filterMap_filter];exact h
 ·rw[f8 r] at h ⊢;exact h
abbrev Qd:gP:=Bk (top 26) 1
abbrev B8:List Str:=["self","rank","border"]
theorem Qe:um ["self","rank","border","cell"] B8 (ue Qd):=by walk_at "sc"
abbrev Y3(q:Cq)(C XB XS XC XO XP:cr)(k:Nat):=yT q C "put" B8 (Il C XB XS XC XO XP) k
theorem WM(F:ye q.K "put" "Body.put" Qd f R)(o:Aw q.K C)(e:xU q C XS XC 5)(b:BH q C XO 5)(g:B7 q C XS XC 5)(k:Xc q.K q.mg "BadRank" XB)(t:Xc q.K q.mg "Full" WJ)(c:Xc q.K q.mg "OpenBorder" XP)(d:q.mg "MOST_CELLS"=some (.int 120 r))(i:q.mg "TOP_RANK"=some (.int 12 u))(B:Bn q.mg):Gq q 6 f R B8 (Il C XB XS XC XO XP):=by
 refine' ur (vS (D':=Unit) (ms:=[0]) (j:=1) F Qe rfl rfl λS A I s H E O =>
   (uu (uS (tw_w (Lj (tw_cm OP (ss 1) ui) (FP (tw_cm UZ (ss 1) (Pn rfl i)))))
   (ug<|Ad rfl k)
   uH)
   (uu (uX (uw (vz 0 e (uj (ss 2) uf))))
   (uu (uX (uw (vz 0 b (uj (ss 2) (uj (zN Fj (ss 1) ui) uf)))))
   (uu (uS (tw_trueO (vz 0 g (uj (ss 2) uf)))
   (ug<|Ad rfl c)
   uH)
   (uu (uS (tw_cm OQ (S6 .rk 0 trivial o.cl o.nR rfl B.len (pv 0)) (Pn rfl d))
   (ug<|Ad rfl t)
   uH)
   (uu (uv 3 Qe.nd (uQ (YE 0 o.cl o.nU (pv 0))))
   (uu (FX .rk 0 trivial o.cl o.nR (BE O) (pv 0) (vy 3 (pv 3)) (ss 1))
   (uu (S7 0 o.cl o.nB (BE O) (pv 0) (vy 3 (pv 3)) (S9 rfl B.tuple (vg (ss 2))))
   (uu (YF 0 o.cl o.nU (pv 0) (zN Al (ss 3) ui))
   (ug (uD (uQ (ss 3)))))))))))))) λp P m h=>?_
 walk_at "wl"
 obtain⟨J,L,h⟩:=h
 have M:(if asc p.2.2.1=true then (if vF p.1 p.2.2.1=true then (if TH p.1 p.2.2.1 (p.2.1-1)=true then
  (if NB (p.2.2.1.map (vR p.1))=[] then P p.1.up ({ p.1 with rk:=pk p.1.rk p.1.up p.2.1,bd:=pk p.1.bd p.1.up p.2.2.1,up:=p.1.up+1},⟨⟩,⟨⟩,()) else m XP (p.1,⟨⟩,⟨⟩,())) else m XO (p.1,⟨⟩,⟨⟩,())) else m XC (p.1,⟨⟩,⟨⟩,())) else m XS (p.1,⟨⟩,⟨⟩,())) ->
  zv C XS XC (p.1,p.2.2.1,()) (λy v=>wJ C XO (v.1,p.2.2.1,p.2.1-1,()) (λy w=>w4 C XS XC (w.1,p.2.2.1,()) (λy a =>
   if (!y.l.isEmpty)=true then m XP (a.1,⟨⟩,⟨⟩,()) else if decide (120<=(a.1.rk.length:Int))=true then m WJ (a.1,⟨⟩,⟨⟩,()) else a.1.rk.length<gf/\a.1.bd.length<gf/\lk a.1.bd a.1.up=none /\
    P a.1.up ({ a.1 with rk:=pk a.1.rk a.1.up p.2.1,bd:=pk a.1.bd a.1.up p.2.2.1,up:=a.1.up+1},⟨⟩,⟨⟩,()))
   λn v=>m n (v.1,⟨⟩,⟨⟩,())) λn v=>m n (v.1,⟨⟩,⟨⟩,())) λn v=>m n (v.1,⟨⟩,⟨⟩,()):=by
  intro h;show if asc p.2.2.1=true then (if vF p.1 p.2.2.1=true then _ else m XC (p.1,⟨⟩,⟨⟩,())) else m XS (p.1,⟨⟩,⟨⟩,());by_cases N:asc p.2.2.1=true
  ·rw[f7 N] at h ⊢;by_cases x:vF p.1 p.2.2.1=true
   ·rw[f7 x] at h ⊢;refine⟨x,?_⟩;by_cases Q:TH p.1 p.2.2.1 (p.2.1-1)=true
    ·rw[f7 Q] at h ⊢;refine⟨J,?_⟩;rw[f7 N,f7 x];by_cases hd:NB (p.2.2.1.map<|vR p.1)=[]
     ·rw[f7 hd] at h;have T:=J.lr;have U:=J.lb;have z:gf=16777216:=iu;rw[hd,f8 q0o,f8<|by simp;lia];exact⟨(by show p.1.rk.length<gf;lia),(by show p.1.bd.length<gf;lia),L,h⟩
     ·rw[f8 hd] at h;rw[f7<|by simpa using hd];exact h
    ·rw[f8 Q] at h ⊢;exact h
   ·rw[f8 x] at h ⊢;exact h
  ·rw[f8 N] at h ⊢;exact h
 by_cases D:p.2.1<0
 ·rw[f7<|decide_eq_true D,f7 rfl];rw[f7<|.inl D] at h;exact h
 ·rw[f8<|by simpa using D];by_cases G:12<p.2.1
  ·rw[f7<|decide_eq_true G];rw[f7<|.inr G] at h;exact h
  ·rw[f8<|by simpa using G];rw[f8 (by intro z;rcases z with z|z;exact D z;exact G z)] at h;exact M h
abbrev JU:gP:=Bk (top 26) 2
abbrev zB:List Str:=["self","cell"]
theorem TN:um ["self","cell"] zB (ue JU):=by walk_at "sc"
theorem TQ(F:ye q.K "take" "Body.take" JU f m)(d:Aw q.K C)(c:WK q C XC 5)(b:Xc q.K q.mg "Covered" XV):Gq q 6 f m zB (Gj C XC XV):=by
 refine' ur (B3 (uI q0q) (D':=(Bd C true)×Int×Unit) (ms:=[0]) (j:=0) F TN rfl rfl λn A g s H E o =>
   (uu (uS (tw_trueO (vz 0 c (uj (ss 1) uf)))
   (ug<|Ad rfl b)
   uH)
   (uu (Lr .rk 0 trivial d.cl d.nR (pv 0) (vy 1 (pv 1)) (λi k=>Fv i k))
   (ug (S8 0 d.cl d.nB (pv 0) (vy 1 (pv 1)) (λi k=>Fv i k)))))) λp t u h=>?_
 walk_at "wl"
 obtain⟨l,h⟩:=h;refine⟨l,?_⟩;by_cases e:(lk p.1.rk p.2.1).isSome=true
 ·rw[f7 e] at h ⊢
  cases q:WI p.1 p.2.1 with
  | nil =>
   rw[q,f7 rfl] at h;exact⟨e,l.kb _ e,h⟩
  | cons a r =>
   rw[q,f8 q0o] at h;exact h
 ·rw[f8 e] at h ⊢;exact h
abbrev DN:gP:=Bk (top 26) 7
abbrev w6:List Str:=["self","cell"]
theorem M7:um ["self","cell"] w6 (ue DN):=by walk_at "sc"
abbrev Qf(q:Cq)(C XC:cr)(k:Nat):=yT q C "border" w6 (A7 C XC) k
theorem M8{f:cr}{fd:g9}(F:ye q.K "border" "Body.border" DN f fd)(ct:Aw q.K C)(wA:vP q C XC 2)(B:Bn q.mg):Gq q 3 f fd w6 (A7 C XC):=by
 refine' ur (vS (D':=Unit) (ms:=[0]) (j:=0) F M7 rfl rfl λRX A outer s H E hr =>
   (uu (uX (uw (vz 0 wA (uj (ss 1) uf))))
   (ug (uD (Pm rfl B.list (zS 0 ct.cl ct.nB (BE hr) (pv 0) (vy 1 (pv 1)))))))) λp Kn Ke h=>?_
 walk_at "wl"
 obtain⟨ok,h⟩:=h;show if (lk p.1.rk p.2.1).isSome=true then _ else Ke XC (p.1,⟨⟩,());by_cases q:(lk p.1.rk p.2.1).isSome=true
 ·rw[f7 q] at h ⊢;exact⟨_,Ae ok q,h⟩
 ·rw[f8 q] at h ⊢;exact h
end
section
variable(C:cr)
def wn{C:cr}(x:B0 C)(c:Int):Bool:=(lk x.ht c).isSome||(lk x.th c).isSome
def Bb{C:cr}(x:B0 C)(low high:Int):List Int:=(vR x high).filter λf=>decide (f≠low)&&(lk x.ht f).isSome
def vB{C:cr}(x:B0 C)(t:Int):Int:=(lk x.ht t).getD 0
def vf{C:cr}(x:B0 C):List Int:=x.ht.map (·.1)
def Xm{C:cr}(x:B0 C):Prop:=∃r:Int->Nat,∀l∈vf x,∀t∈Bb x l (vB x l),r l<r t
structure Af{C:cr}(x:B0 C):Prop where
 ok:P8 x
 nd:(vf x).Nodup
 len:x.ht.length<64
 Y4:x.th.length<64
 ht:∀l h,lk x.ht l=some h->(lk x.rk l).isSome=true/\(lk x.rk h).isSome=true/\l∈vR x h/\lk x.th h=some l
 th:∀l h,lk x.th h=some l->lk x.ht l=some h
 one:∀c,(lk x.ht c).isSome=true->(lk x.th c).isSome=true->False
 acy:Xm x
def Ec{C:cr}(x:B0 C)(low high:Int):B0 C:={ x with ht:=pk x.ht low high,th:=pk x.th high low}
def E8:Wf (B0 C×Int×Unit) Bool (B0 C×Un×Unit):=λp a _=>a (wn p.1 p.2.1) (p.1,⟨⟩,())
def Gp:Wf (B0 C×Int×Int×Unit) (OL Int) (B0 C×Un×Un×Unit):=λp a _ =>
 (lk p.1.bd p.2.2.1).isSome=true/\(vR p.1 p.2.2.1).length<=gf/\a ⟨Bb p.1 p.2.1 p.2.2.1⟩ (p.1,⟨⟩,⟨⟩,())
def LG:Wf (B0 C×Unit) (OL Int) (B0 C×Unit):=λp a _=>p.1.ht.length<64/\(vf p.1).Nodup/\a ⟨Av<|vf p.1⟩ (p.1,())
def Ip:Wf (B0 C×Unit) (OL<|Int×Int) (B0 C×Unit):=λp a _=>p.1.ht.length<64/\(vf p.1).Nodup/\a ⟨(Av<|vf p.1).map λl=>(l,vB p.1 l)⟩ (p.1,())
def E9(a:cr):Wf (B0 C×Int×Unit) (Option Int) (B0 C×Un×Unit):=λp b c =>
 if (lk p.1.rk p.2.1).isSome=true then b (lk p.1.ht p.2.1) (p.1,⟨⟩,()) else c a (p.1,⟨⟩,())
def Gr(b c:cr):Wf (B0 C×Int×Unit) Int (B0 C×Un×Unit):=λp d a =>
 Af p.1/\if (lk p.1.rk p.2.1).isSome=true then (if (lk p.1.ht p.2.1).isSome=true then d (vB p.1 p.2.1) ({ p.1 with ht:=dk p.1.ht p.2.1,th:=dk p.1.th (vB p.1 p.2.1)},⟨⟩,()) else a c (p.1,⟨⟩,())) else a b (p.1,⟨⟩,())
def yo:Wf (Dc (Option Int)×Int×Unit) (OL Int) (Dc (Option Int)×Un×Unit):=λp a _ =>
 (∃m:Int->Nat,(∀k,m k<1000)/\(lk p.1.l p.2.1).isSome=true/\∀k e,lk p.1.l k=some (some e)->(lk p.1.l e).isSome=true/\m e<m k)/\∀r:List Int,r≠[]->a ⟨r⟩ (p.1,⟨⟩,())
def B9:Wf (B0 C×Int×Int×Unit) (OL Int) (B0 C×Un×Un×Unit):=λp a _ =>
 Af p.1/\(lk p.1.rk p.2.2.1).isSome=true/\wn p.1 p.2.1=false/\wn p.1 p.2.2.1=false/\∀r:List Int,(r=[]->Xm (Ec p.1 p.2.1 p.2.2.1))->a ⟨r⟩ (p.1,⟨⟩,⟨⟩,())
def Qg(b c d e:cr):Wf (B0 C×Int×Int×Unit) Unit (B0 C×Un×Un×Unit):=λp f a =>
 Af p.1/\if (lk p.1.rk p.2.1).isSome=true then (if (lk p.1.rk p.2.2.1).isSome=true then (if p.2.1∈vR p.1 p.2.2.1 then (if wn p.1 p.2.1=true\/wn p.1 p.2.2.1=true then a d (p.1,⟨⟩,⟨⟩,())
  else a e (p.1,⟨⟩,⟨⟩,())/\(Xm (Ec p.1 p.2.1 p.2.2.1)->f () (Ec p.1 p.2.1 p.2.2.1,⟨⟩,⟨⟩,()))) else a c (p.1,⟨⟩,⟨⟩,())) else a b (p.1,⟨⟩,⟨⟩,())) else a b (p.1,⟨⟩,⟨⟩,())
structure Ord{C:cr}(x:B0 C)(o:List Int):Prop where
 pm:o.Perm (vf x)
 up:o.Pairwise λa b=>a∉Bb x b (vB x b)
def LH:Wf (B0 C×Unit) (OL Int) (B0 C×Unit):=λp a _=>Af p.1/\∀o,Ord p.1 o->a ⟨o⟩ (p.1,())
def BI{C:cr}(x:B0 C)(s:List Int×List Int)(t:Int):List Int×List Int:=if t∈s.1 then (xr s.1<|vR x<|vB x t,s.2++[vB x t]) else s
end
theorem wo{j:Int}:lk (e::l) j=if e.1=j then some e.2 else lk l j:=by
 by_cases q:e.1=j
 ·rw[f7 q];unfold lk;rw[h8,decide_eq_true q];rfl
 ·rw[f8 q];unfold lk;rw[h8,gI q]
theorem JV{k j:Int}:∀{l:List (Int×c)},lk l k=none->lk (l++[(k,v)]) j=if j=k then some v else lk l j:=by
 intro b
 induction b with
 | nil =>
  intro _;rw[mo,wo];by_cases q:j=k
  ·rw[f7 q,f7 q.symm]
  ·rw[f8 q,f8<|λz=>q z.symm]
 | cons e l a =>
  intro h;rw[wo] at h;by_cases z:e.1=k
  ·rw[f7 z] at h;cases h
  ·rw[f8 z] at h;rw[List.cons_append,wo,wo,a h];by_cases q:e.1=j
   ·rw[f7 q,f7 q,f8<|λw=>z<|q.trans w]
   ·rw[f8 q,f8 q]
theorem yO{k:Int}(h:lk l k=none):pk l k v=l++[(k,v)]:=by unfold pk;rw[h];rfl
theorem Bc{k j:Int}:∀{l:List (Int×d)},lk (dk l k) j=if j=k then none else lk l j:=by
 intro c
 induction c with
 | nil=>unfold dk;rw[List.filter_nil];split<;>rfl
 | cons e l a =>
  have b:=a;unfold dk at b ⊢;rw[iO];by_cases z:e.1=k
  ·rw[f8 (by simpa using z),b,wo];by_cases q:j=k
   ·rw[f7 q,f7 q]
   ·rw[f8 q,f8 q,f8<|λw=>q<|w.symm.trans z]
  ·rw[f7 (by simpa using z),wo,wo,b];by_cases q:e.1=j
   ·rw[f7 q,f7 q,f8<|λw=>z<|q.trans w]
   ·rw[f8 q,f8 q]
theorem WN{k j:Int}:∀{l:List (Int×c)},lk (l.map λe=>if e.1=k then (e.1,v) else e) j=if j=k then (if (lk l k).isSome=true then some v else none) else lk l j:=by
 intro b
 induction b with
 | nil=>simp[lk]
 | cons e l a =>
  rw[gK,wo,a,wo,wo];by_cases z:e.1=k
  ·rw[f7 z,f7 z];by_cases q:j=k
   ·subst q;simp[z]
   ·have:¬e.1=j:=λw=>q<|w.symm.trans z;simp[q,this]
  ·rw[f8 z,f8 z];by_cases q:e.1=j
   ·have:¬j=k:=λw=>z<|q.trans w;simp[q,this]
   ·simp[q]
theorem xk{k j:Int}:lk (pk l k v) j=if j=k then some v else lk l j:=by
 unfold pk
 cases q:(lk l k).isSome with
 | true=>rw[f7 rfl,WN,q];simp
 | false =>
  rw[f8 q0o,JV<|by simpa using q]
theorem LI{a:Type}{l:List (Int×a)}{k:Int}(h:k∉l.map (·.1)):lk l k=none:=by
 cases e:lk l k with
 | none=>rfl
 | some v=>exact gy (yL<|by rw[e];rfl) h
theorem zC{a:Type}{k:Int}{l:List (Int×a)}:(lk l k).isSome=true↔k∈l.map (·.1):=⟨yL,wK⟩
theorem LJ{c t:Int}:∀{l:List Int},t∈l->lk (l.map λk=>(k,c)) t=some c
 | a::l,h=>by
  rw[gK,wo];by_cases q:a=t
  ·rw[f7 q]
  ·rw[f8 q];exact LJ<|(List.mem_cons.mp h).elim (λz=>gy z.symm q) id
theorem Ca{b:Type}{p q:b->Bool}(h:∀t,q t=true->p t=true):∀{l:List b},(l.filter q).length<=(l.filter p).length
 | []=>ga _
 | a::l=>by
  have:=Ca h (l:=l);rw[iO,iO];by_cases z:q a=true
  ·rw[f7 z,f7<|h a z];simpa using this
  ·rw[f8 z];split<;>simp<;>lia
theorem filter_lt{b:Type}{p q:b->Bool}(h:∀t,q t=true->p t=true){x:b}(c:p x=true)(d:q x=false):∀{l:List b},x∈l->(l.filter q).length+1<=(l.filter p).length
 | a::l,m=>by
  rw[iO,iO];rcases List.mem_cons.mp m with z|z
  ·subst z;rw[d,c,f8 q0o,f7 rfl];have:=Ca h (l:=l);simp;lia
  ·have:=filter_lt h c d z;by_cases w:q a=true
   ·rw[f7 w,f7<|h a w];simp;lia
   ·rw[f8 w];split<;>simp<;>lia
theorem Qh{r:Int->Nat}{t:Int}:∀{l:List Int},t∈l->r t<=(l.map r).sum
 | a::l,h=>by
  rw[gK,List.sum_cons];rcases List.mem_cons.mp h with z|z
  ·rw[z];lia
  ·have:=Qh (r:=r) z;lia
section
variable{C:cr}{x:B0 C}
theorem vQ{l:Int}(h:l∈vf x):lk x.ht l=some (vB x l):=by obtain⟨v,e⟩:=Option.isSome_iff_exists.mp<|wK h;unfold vB;rw[e];rfl
theorem wp{l h t:Int}:t∈Bb x l h↔t∈vR x h/\t≠l/\t∈vf x:=by unfold Bb vf;rw[iE,g8,hJ,zC]
theorem Af.FH(a:Af x){l:Int}(h:l∈vf x):(lk x.rk<|vB x l).isSome=true:=(a.ht l _<|vQ h).2.1
theorem Af.bl(a:Af x){c:Int}(h:(lk x.rk c).isSome=true):(vR x c).length<=gf:=by
 have:=(a.ok.bo c _<|Ae a.ok h);have:=vE (U:=xO 0 63) this.1 λk b=>yK (this.2 k b).1 (this.2 k b).2;have e:(xO 0 63).length=63:=by decide
 exact ve q0a
theorem TR{low high:Int}{V:List Int}(v:Af x)(o:low∉vf x)(f:low∈V)(E:∀k∈V,k≠low->k∈vf x)
 (p:∀k∈V,(k≠low->low∉vR x (vB x k))/\∀t∈Bb x k (if k=low then high else vB x k),t∈V):Xm (Ec x low high):=by
  obtain⟨r,u⟩:=v.acy
  have c:∀{t:Int},t∈vf (Ec x low high)↔t=low\/t∈vf x:=λ{t}=>by
    show t∈(pk x.ht low high).map (·.1)↔_
    rw[<- zC,xk]
    by_cases q:t=low
    · simp[q]
    · rw[f8 q, zC]; simp[q, vf]
  have y:∀l,vB (Ec x low high) l=if l=low then high else vB x l:=λl=>by
    unfold vB Ec
    rw[xk]
    split<;>rfl
  have A:∀{l h t:Int},t∈Bb (Ec x low high) l h↔t∈vR x h/\t≠l/\(t=low\/t∈vf x):=λ{l h t}=>by
    rw[wp,c];exact Iff.rfl
  refine⟨λt=>if t∈V then (if t=low then ((vf x).map r).sum+1 else ((vf x).map r).sum+2+r t) else r t,λl g t a=>?_⟩
  rw[y] at a
  have a:=A.mp a
  have i:∀k,k∈vf x->r k<=((vf x).map r).sum:=λk B=>Qh B
  dsimp only
  by_cases b:l=low
  · subst b
    rw[f7 rfl] at a
    rw[f7 f,f7 rfl]
    have D:t∈vf x:=a.2.2.elim (λz=>gy z a.2.1) id
    have e:t∈V:=(p l f).2 t (by rw[f7 rfl];exact wp.mpr ⟨a.1,a.2.1,D⟩)
    rw[f7 e,f8 a.2.1]
    lia
  · rw[f8 b] at a
    have j:l∈vf x:=(c.mp g).elim (λz=>gy z b) id
    by_cases m:l∈V
    · rw[f7 m, f8 b]
      have d:=p l m
      rw[f8 b] at d
      rcases a.2.2 with z|z
      · rw[z] at a; exact gy a.1<|d.1 b
      · have s : t ∈ Bb x l (vB x l) := wp.mpr ⟨a.1, a.2.1, z⟩
        have:=u l j t s
        have n:t≠low:=λw=>o<|w▸z
        rw[f7<|d.2 t s,f8 n]
        lia
    · rw[f8 m]
      have:=i l j
      rcases a.2.2 with z|z
      · subst z
        rw[f7 f,f7 rfl]
        lia
      · have s : t ∈ Bb x l (vB x l) := wp.mpr ⟨a.1, a.2.1, z⟩
        have:=u l j t s
        have n:t≠low:=λw=>o<|w▸z
        by_cases e:t∈V
        · rw[f7 e, f8 n]; lia
        · rw[f8 e]; lia
def ND(x:B0 C)(e:List (Int×Option Int)):Nat:=((vf x).filter λt=>!(lk e t).isSome).length
structure Rw(x:B0 C)(low:Int)(e:List (Int×Option Int))(ws:List Int)(D:Int->List (Int×Option Int)->Prop):Prop where
 lo:(lk e low).isSome=true
 tl:∀k,(lk e k).isSome=true->k≠low->k∈vf x
 wk:∀k∈ws,(lk e k).isSome=true
 dn:∀k,(lk e k).isSome=true->k∉ws->D k e
 ch:∃mm:Int->Nat,(∀k,mm k<=e.length)/\∀k t,lk e k=some (some t)->(lk e t).isSome=true/\mm t<mm k
 sz:e.length+ND x e<=64
theorem Rw.add{low:Int}{a t0:Int}(R:Rw x low e p D)(m:a∈vf x)(d:lk e a=none)(i:(lk e t0).isSome=true)(b:∀k,(lk e k).isSome=true->D k e->D k (pk e a<|some t0)) :
  Rw x low (pk e a<|some t0) (p++[a]) D/\ND x (pk e a<|some t0)+1<=ND x e:=by
 have r:ND x (pk e a<|some t0)+1<=ND x e:=by
  refine filter_lt (x:=a) (λt h=>?_) (by rw[d];rfl) (by rw[xk,f7 rfl];rfl) m;rw[xk] at h;by_cases q:t=a
  ·rw[f7 q] at h;simp at h
  ·rw[f8 q] at h;exact h
 have f:∀k,(lk e k).isSome=true->(lk (pk e a<|some t0) k).isSome=true:=λk h=>by
  rw[xk];split
  ·rfl
  ·exact h
 have j:∀k,k≠a->lk (pk e a<|some t0) k=lk e k:=λk h=>by rw[xk,f8 h]
 have c:(pk e a<|some t0).length=e.length+1:=by rw[yO d];simp
 refine⟨⟨f _ R.lo,λk h n=>?_,λk h=>?_,λk h n=>?_,?_,by rw[c];have:=R.sz;lia⟩,r⟩
 ·by_cases q:k=a
  ·rw[q];exact m
  ·rw[j k q] at h;exact R.tl k h n
 ·rcases List.mem_append.mp h with z|z
  ·exact f _<|R.wk k z
  ·rw[List.mem_singleton.mp z,xk,f7 rfl];rfl
 ·have q:k≠a:=λz=>n (by rw[z];simp);rw[j k q] at h;exact b k h<|R.dn k h λz=>n<|il _ z
 ·obtain⟨s,o,u⟩:=R.ch;refine⟨λk=>if k=a then e.length+1 else s k,λk=>?_,λk t h=>?_⟩
  ·rw[c];dsimp only;split
   ·exact ga _
   ·have:=o k;lia
  ·by_cases q:k=a
   ·rw[q,xk,f7 rfl] at h;injection h with h;injection h with h;subst h;have l:t0≠a:=λz=>by rw[z,d] at i;cases i
    refine⟨f _ i,?_⟩;dsimp only;rw[f7 q,f8 l];have:=o t0;lia
   ·rw[j k q] at h;have g:=u k t h;have l:t≠a:=λz=>by rw[z,d] at g;cases g.1
    refine⟨f _ g.1,?_⟩;dsimp only;rw[f8 q,f8 l];exact g.2
def LK(x:B0 C)(low high:Int)(k:Int)(e:List (Int×Option Int)):Prop:=(k≠low->low∉vR x (vB x k))/\∀t∈Bb x k (if k=low then high else vB x k),(lk e t).isSome=true
theorem Qi{low high:Int}(b:Af x):Rw x low [(low,none)] [low] (LK x low high):=by
 have a:∀k,(lk ([(low,none)]:List (Int×Option Int)) k).isSome=true->k=low:=λk h=>by have:=yL h;simpa using this
 refine⟨wK q0o,λk h n=>gy (a k h) n,λk h=>wK (by simpa using h),λk h n=>gy (a k h) (by simpa using n),⟨λ_=>0,λ_=>im _,λk t h=>?_⟩,?_⟩
 ·rw[wo] at h;by_cases q:low=k
  ·rw[f7 q] at h;cases h
  ·rw[f8 q] at h;cases h
 ·have:=b.len;have g:ND x [(low,none)]<=(vf x).length:=gQ _ _;have e:(vf x).length=x.ht.length:=gh _;simp only[gF]
  lia
theorem a00{low:Int}(a:Af x):2*ND x [(low,none)]+[low].length<=200:=by
 have:=a.len;have g:ND x [(low,none)]<=(vf x).length:=gQ _ _;have e:(vf x).length=x.ht.length:=gh _;simp only[gF]
 lia
def JW(x:B0 C)(a:List Int):List Int:=(vf x).filter λt=>decide<|t∉a
def cnt(x:B0 C)(a:List Int)(t:Int):Int:=((a.filter λl=>decide<|t∈Bb x l (vB x l)).length:Int)
theorem xX{t:Int}:t∈JW x a↔t∈vf x/\t∉a:=by unfold JW;rw[iE,hJ]
theorem cnt_cons{l t:Int}:cnt x (l::a) t=cnt x a t+if t∈Bb x l (vB x l) then 1 else 0:=by
 unfold cnt;rw[iO];by_cases q:t∈Bb x l (vB x l)
 ·rw[f7<|decide_eq_true q,f7 q];simp
 ·rw[f8 (by simpa using q),f8 q];simp
theorem Iq{a:List Int}{t:Int}(h:a.Perm b):cnt x a t=cnt x b t:=by unfold cnt;rw[(h.filter _).length_eq]
theorem WO{t:Int}:0<=cnt x a t:=by unfold cnt;lia
theorem Qj{t:Int}(h:cnt x a t=0):∀l∈a,t∉Bb x l (vB x l):=λl b q=>by unfold cnt at h;have:(a.filter λl=>decide<|t∈Bb x l (vB x l))=[]:=List.length_eq_zero_iff.mp q0a;have m:l∈(a.filter λl=>decide<|t∈Bb x l (vB x l)):=List.mem_filter.mpr ⟨b,decide_eq_true q⟩;rw[this] at m;cases m
theorem LL{t:Int}(h:cnt x a t≠0):∃l∈a,t∈Bb x l (vB x l):=by
 unfold cnt at h
 cases e:(a.filter λl=>decide<|t∈Bb x l (vB x l)) with
 | nil=>rw[e] at h;exact gy rfl h
 | cons l r =>
  have m:l∈(a.filter λl=>decide<|t∈Bb x l (vB x l)):=by rw[e];exact gc
  have:=List.mem_filter.mp m;exact⟨l,this.1,jo this.2⟩
theorem JX{a b:List Int}(h:a.Nodup)(c:b.Nodup)(s:∀k∈a,k∈b):a.length<=b.length:=by
 have p:a.Perm (b.filter λk=>decide<|k∈a):=vw h (c.filter _) λk=>by rw[iE,hJ];exact⟨λz=>⟨s k z,z⟩,λz=>z.2⟩
 rw[p.length_eq];exact gQ _ _
theorem LM{a:Type}{l:List (Int×a)}{k:Int}{v:a}(h:(lk l k).isSome=true):(pk l k v).map (·.1)=l.map (·.1):=by unfold pk;rw[f7 h,jP];refine mw λe _=>?_;dsimp only[tM];split<;>rfl
structure Kh(x:B0 C)(u:List (Int×Int))(ready told r2:List Int):Prop where
 ks:u.map (·.1)=vf x
 nd:(told++ready).Nodup
 st:∀t∈told++ready,t∈vf x
 ct:∀t∈vf x,lk u t=some (cnt x (JW x told) t+if t∈r2 then 1 else 0)
 rd:∀t∈vf x,t∉told->(t∈ready↔cnt x (JW x told) t+(if t∈r2 then 1 else 0)=0)
 bk:∀a∈told,∀l∈vf x,l∉told->a∉Bb x l (vB x l)
 od:told.Pairwise λa b=>a∉Bb x b (vB x b)
theorem TU{y:Int}(b:Af x)(c:y∈vf x)(d:y∉a):(JW x a).Perm (y::JW x (a++[y])):=by
 refine vw (b.nd.filter _) (List.nodup_cons.mpr ⟨λz=>(xX.mp z).2 q0o,b.nd.filter _⟩) λk=>?_;rw[xX,gL,xX,ki,lv];by_cases q:k=y
 ·subst q;exact⟨λ_=>.inl rfl,λ_=>⟨c,d⟩⟩
 ·simp[q]
theorem Kh.pop{y:Int}(n:Af x)(K:Kh x u (f++[y]) c []):Kh x u f (c++[y]) (Bb x y<|vB x y):=by
 have g:y∈vf x:=K.st y q0o;have o:=List.nodup_append.mp K.nd;have h:y∉c:=λz=>o.2.2 y z y q0o rfl;have q:=TU n g h;have j:∀t,cnt x (JW x c) t=cnt x (JW x<|c++[y]) t+if t∈Bb x y (vB x y) then 1 else 0:=λt=>by rw[Iq q,cnt_cons]
 have r:cnt x (JW x c) y=0:=by have:=(K.rd y g h).mp q0o;simpa using this
 refine⟨K.ks,?_,λt d=>K.st t (by simp only[ki,lv] at d ⊢;rcases d with(z|z)|z<;>simp[z]),λt d=>?_,λt d e=>?_,λa i l k e=>?_,?_⟩
 ·have p:(c++[y]++f).Perm (c++(f++[y])):=by rw[kC];exact nC c lU
  exact(p.nodup_iff).mpr K.nd
 ·rw[K.ct t d,j t];simp
 ·have s:t∉c:=λz=>e<|il _ z;have v:t≠y:=λz=>e (by rw[z];simp);have:=K.rd t d s;rw[j t] at this;rw[ki,lv] at this;simpa[v] using this
 ·have m:l∉c:=λz=>e<|il _ z;rcases List.mem_append.mp i with z|z
  ·exact K.bk a z l k m
  ·rw[List.mem_singleton.mp z];exact Qj r l<|xX.mpr ⟨k,m⟩
 ·rw[List.pairwise_append];refine⟨K.od,je _ _,λa i b w=>?_⟩;rw[List.mem_singleton.mp w];exact K.bk a i y g h
theorem Kh.step{b v:Int}(K:Kh x u ready c (b::e))(f:b∈vf x)(i:b∉c)(j:b∉e)(k:lk u b=some v) :
  Kh x (pk u b<|v-1) (if v-1=0 then ready++[b] else ready) c e:=by
 have g:=K.ct b f;rw[k,f7 gc] at g;injection g with g
 have l:b∉ready:=λz=>by
  have:=(K.rd b f i).mp z;rw[f7 gc] at this;have:=WO (x:=x) (a:=JW x c) (t:=b)
  lia
 have d:∀t,t≠b->(if t∈b::e then (1:Int) else 0)=if t∈e then 1 else 0:=λt q=>by simp[q]
 refine⟨(LM<|by rw[k];rfl).trans K.ks,?_,λt h=>?_,λt h=>?_,λt h m=>?_,K.bk,K.od⟩
 ·split
  ·have p:(c++(ready++[b])).Perm (b::(c++ready)):=by rw[<- kC];exact lU
   refine(p.nodup_iff).mpr<|List.nodup_cons.mpr ⟨λz=>?_,K.nd⟩;rcases List.mem_append.mp z with z|z
   ·exact i z
   ·exact l z
  ·exact K.nd
 ·by_cases q:t=b
  ·rw[q];exact f
  ·refine K.st t ?_;rcases List.mem_append.mp h with z|z
   ·exact il _ z
   ·by_cases w:v-1=0
    ·rw[f7 w] at z;rcases List.mem_append.mp z with z|z
     ·exact gE _ z
     ·exact gy (List.mem_singleton.mp z) q
    ·rw[f8 w] at z;exact gE _ z
 ·rw[xk];by_cases q:t=b
  ·rw[f7 q,q,f8 j];congr 1;lia
  ·rw[f8 q,K.ct t h,d t q]
 ·by_cases q:t=b
  ·rw[q,f8 j];by_cases w:v-1=0
   ·rw[f7 w];exact⟨λ_=>by lia,λ_=>by simp⟩
   ·rw[f8 w];exact⟨λz=>gy z l,λz=>gy q0a w⟩
  ·have:=K.rd t h m;rw[d t q] at this;rw[<- this];by_cases w:v-1=0
   ·rw[f7 w];simp[q]
   ·rw[f8 w]
theorem Kh.done(f:Af x)(K:Kh x u [] a []):Ord x a:=by
 obtain⟨r,g⟩:=f.acy
 have c:∀n t,r t<=n->t∈vf x->t∈a:=by
  intro n
  induction n with
  | zero =>
   intro t i d;by_cases q:t∈a
   ·exact q
   ·have:cnt x (JW x a) t≠0:=λz=>by have:=(K.rd t d q).mpr (by simpa using z);cases this
    obtain⟨l,b,e⟩:=LL this;have:=g l (xX.mp b).1 t e
    lia
  | succ n j =>
   intro t i d;by_cases q:t∈a
   ·exact q
   ·have:cnt x (JW x a) t≠0:=λz=>by have:=(K.rd t d q).mpr (by simpa using z);cases this
    obtain⟨l,b,e⟩:=LL this;have:=g l (xX.mp b).1 t e;exact gy (j l q0a (xX.mp b).1) (xX.mp b).2
 have h:=K.nd;rw[jN] at h;exact⟨vw h f.nd λk=>⟨λz=>K.st k (by simpa using z),λz=>c _ k (ga _) z⟩,K.od⟩
theorem Kh.len(b:Af x)(K:Kh x u ready a d):ready.length<=63/\a.length<=63/\u.length<=63:=by
 have e:(vf x).length=x.ht.length:=gh _;have:=b.len;have c:=JX K.nd b.nd K.st;rw[gw] at c;have f:u.length=(vf x).length:=by rw[<- K.ks,gh]
 lia
theorem Qk(a:Af x){l h:Int}(b:(lk x.rk h).isSome=true):(Bb x l h).Nodup:=by exact(uq (a.ok.bo h _<|Ae a.ok b).1).filter _
end
def zD(C:cr):Wf (B0 C×List Int×Unit) Unit (B0 C×WL.Un×Unit):=λp a _=>(∀c∈p.2.1,wn p.1 c=false)/\a () (p.1,⟨⟩,())
section
variable{q:Cq}{C XC XS XO XB XP XV WJ XF XT XN XR XL:cr}
abbrev BJ:gP:=Bk (top 28) 22
abbrev BK:List Str:=["self","cell"]
theorem JY:um ["self","cell"] BK (ue BJ):=by walk_at "sc"
abbrev BL(q:Cq)(C:cr)(k:Nat):=yT q C "is_tied" BK (E8 C) k
theorem JZ(F:ye q.K "is_tied" "Field.is_tied" BJ f g)(b:Aw q.K C)(c:NC q.K C):Gq q 2 f g BK (E8 C):=by
 refine' ur (vS (D':=Unit) (ms:=[0]) (j:=0) F JY rfl rfl λi A a s H E d =>
   (ug (uD (uQ (Yl (Pg .ht false 0 rfl b.cl c.nH (BE d) (ss 1) (pv 0)) (Lk (Pg .th false 0 rfl b.cl c.nT (BE d) (ss 1) (pv 0)))))))) λp k l h=>?_
 walk_at "wl"
 have h:k ((lk p.1.ht p.2.1).isSome||(lk p.1.th p.2.1).isSome) (p.1,⟨⟩,()):=h;rw[f8 gr,f8 gr];by_cases e:(lk p.1.ht p.2.1).isSome=true
 ·rw[f7 e];rw[e] at h;exact h
 ·rw[f8 e];rw[Bool.eq_false_iff.mpr e] at h;exact h
abbrev xH:gP:=Bk (top 28) 23
abbrev xI:List Str:=["self","row"]
theorem yU:um ["self","row","cell"] xI (ue xH):=by walk_at "sc"
abbrev DO(q:Cq)(C:cr)(k:Nat):=yT q C "must_be_lone" xI (zD C) k
theorem Cn(F:ye q.K "must_be_lone" "Field.must_be_lone" xH f i)(t:Aw q.K C)(a:BL q C 2)(d:Xc q.K q.mg "NotLone" XL):Gq q 3 f i xI (zD C):=by
 refine' ur (B3 (uI q0q) (D':=(Bd C true)×(List Int)×Un×Unit) (ms:=[0]) (j:=1) F yU rfl rfl λk A g s H E u =>
   (ug (vT (is:=[]) (mb:=[0]) (D1:=(Bd C true)×(List Int)×Int×Unit) (D2:=(Bd C true)×(List Int)×Int×Unit) (uI q0q) ya rfl (vv (ss 1)) (uF 2 (ut yU.nd))
   (ug (uS (tw_val (uw (vz 0 a (uj (ss 2) uf))))
   (ug<|Ad rfl d)
   uH)) q0q q0q))) λp v w h=>?_
 walk_at "wl"
 obtain⟨l,m⟩:=h;refine uZ (λ(r:List Int)(b:B0 C×List Int×WL.Un×Unit)=>b.1=p.1/\∀c∈r,wn p.1 c=false) _ ⟨rfl,l⟩ ?_ ?_
 ·intro y r b _ e K n;show if wn b.1 y=true then _ else _;rw[f8<|by rw[e.1,e.2 y gc];decide];exact n _ ⟨e.1,λc o=>e.2 c<|gg _ o⟩
 ·intro b e;rw[e.1];exact m
abbrev Gu:gP:=Bk (top 28) 24
abbrev Gv:List Str:=["self","low","high"]
theorem Ql:um ["self","low","high"] Gv (ue Gu):=by walk_at "sc"
theorem M9:(["face","low","self"]:List Str).Nodup:=by decide +kernel
abbrev LN(q:Cq)(C:cr)(k:Nat):=yT q C "steps" Gv (Gp C) k
theorem Qm(F:ye q.K "steps" "Field.steps" Gu f r)(d:Aw q.K C)(t:NC q.K C):Gq q 2 f r Gv (Gp C):=by
 refine' ur (vS (D':=Unit) (ms:=[0]) (j:=0) F Ql rfl rfl λu A g s H E i =>
   (ug (uD (wg (Ts:=["face"]) (Fr:=["low","self"]) (idx:=[1,0]) (k:=1) (mb:=[1,2]) (is:=[]) (cl:=[("self",s.heap.objs.size+1),("low",s.heap.objs.size+1+1)]) rfl (Pc (zS 0 d.cl d.nB (BE i) (pv 0) (vy 2 (pv 2)))) bs2 rfl (vN rfl) (λa b C l m=>(uF 0 (ut M9))) (λa b C l m=>(tws_one (tw_w (Jw (tw_cm OR (ss 0) (ss 1)) (FO (tw_dIn .ht false 2 rfl d.cl t.nH (BE i) (ss 0) (pv 2))))))) (λa b C l m=>(ss 0)))))) λp w B h=>?_
 walk_at "wl"
 obtain⟨x,n,h⟩:=h;obtain⟨v,o⟩:=Option.isSome_iff_exists.mp x;have e:vR p.1 p.2.2.1=v:=by unfold vR;rw[o];rfl
 rw[e] at n;refine⟨v,o,n,?_⟩;refine vo (q:=λf=>decide (f≠p.2.1)&&(lk p.1.ht f).isSome) (λf D K c=>?_) ?_
 ·show if (!decide (f=p.2.1))=true then (if (if false=true then _ else (lk p.1.ht f).isSome)=true then K (some f) _ else K none _) else (if false=true then K (some f) _ else K none _);rw[f8 gr,f8 gr];by_cases z:f=p.2.1
  ·rw[f8<|by simp[z]];rw[f8<|by simp[z]] at c;exact c
  ·rw[f7<|by simp[z]];by_cases y:(lk p.1.ht f).isSome=true
   ·rw[f7 y];rw[f7<|by simp[z,y]] at c;exact c
   ·rw[f8 y];rw[f8<|by simp[z,y]] at c;exact c
 ·have h:w ⟨Bb p.1 p.2.1 p.2.2.1⟩ (p.1,⟨⟩,⟨⟩,()):=h;unfold Bb at h;rw[e] at h;exact h
abbrev Gw:gP:=Bk (top 28) 17
abbrev Gx:List Str:=["self"]
theorem Qn:um ["self"] Gx (ue Gw):=by walk_at "sc"
abbrev LO(q:Cq)(C:cr)(k:Nat):=yT q C "tails" Gx (LG C) k
theorem Qo(F:ye q.K "tails" "Field.tails" Gw f b)(c:Aw q.K C)(d:NC q.K C)(B:Bn q.mg):Gq q 2 f b Gx (LG C):=by
 refine' ur (vS (D':=Unit) (ms:=[0]) (j:=0) F Qn rfl rfl λe A a s H E k =>
   (ug (uD (Dw .ht 0 rfl c.cl d.nH rfl rfl B.sorted (pv 0))))) λp l m h=>?_
 walk_at "wl"
 obtain⟨g,n,i⟩:=h;exact⟨g,i⟩
abbrev DP:gP:=Bk (top 28) 20
abbrev DQ:List Str:=["self"]
theorem Na:um ["self"] DQ (ue DP):=by walk_at "sc"
theorem J0:(["low","self"]:List Str).Nodup:=by decide +kernel
abbrev Qp(q:Cq)(C:cr)(k:Nat):=yT q C "arrows" DQ (Ip C) k
theorem Nb(F:ye q.K "arrows" "Field.arrows" DP f i)(m:Aw q.K C)(n:NC q.K C)(a:LO q C 2):Gq q 3 f i DQ (Ip C):=by
 refine' ur (vS (D':=Unit) (ms:=[0]) (j:=0) F Na rfl rfl λo A d s H E r =>
   (ug (uD (wg (Ts:=["low"]) (Fr:=["self"]) (idx:=[0]) (k:=1) (mb:=[1]) (is:=[]) (cl:=[("self",s.heap.objs.size+1)]) rfl (vv (uG (HV 0 a))) Rx rfl (vN rfl) (λb c C e g=>(uF 0 (ut J0))) (λb c C e g=>tws_nil) (λb c C e g=>(vW (ss 0) (FW .ht 1 rfl m.cl n.nH (BE r) (pv 1) (vy 0 (pv 0))))))))) λp z B h=>?_
 walk_at "wl"
 obtain⟨t,u,v⟩:=h;refine⟨t,u,?_,?_⟩
 ·show (Av<|vf p.1).length<=gf;rw[(vI _).length_eq];exact ve (by show (p.1.ht.map (·.1)).length<=1000;rw[gh];lia)
 ·refine vi (f:=λl=>some (l,vB p.1 l)) (λl w K y=>?_) ?_
  ·exact⟨_,vQ (x:=p.1)<|xq.mp w,y⟩
  ·rw[n9];exact v
abbrev BM:gP:=Bk (top 28) 15
abbrev BN:List Str:=["self","cell"]
theorem J1:um ["self","cell"] BN (ue BM):=by walk_at "sc"
abbrev Nc(q:Cq)(C XC:cr)(k:Nat):=yT q C "head_of" BN (E9 C XC) k
theorem J2(F:ye q.K "head_of" "Field.head_of" BM f c)(d:Aw q.K C)(e:NC q.K C)(a:vP q C XC 2):Gq q 3 f c BN (E9 C XC):=by
 refine' ur (vS (D':=Unit) (ms:=[0]) (j:=0) F J1 rfl rfl λg A b s H E i =>
   (uu (uX (uw (vz 0 a (uj (ss 1) uf))))
   (ug (uD (uQ (P0 .ht 0 rfl d.cl e.nH (BE i) (pv 0) (vy 1 (pv 1)))))))) λp k l h=>?_
 walk_at "wl"
 exact h
abbrev Gy:gP:=Bk (top 28) 14
abbrev Gz:List Str:=["self","low"]
theorem Ir:um ["self","low","high"] Gz (ue Gy):=by walk_at "sc"
abbrev TV(q:Cq)(C XC XN:cr)(k:Nat):=yT q C "untie" Gz (Gr C XC XN) k
theorem Qq(F:ye q.K "untie" "Field.untie" Gy f k)(c:Aw q.K C)(d:NC q.K C)(a:vP q C XC 2)(b:Xc q.K q.mg "NotTied" XN):Gq q 3 f k Gz (Gr C XC XN):=by
 refine' ur (vS (D':=Unit) (ms:=[0]) (j:=1) F Ir rfl rfl λl A g s H E m =>
   (uu (uX (uw (vz 0 a (uj (ss 1) uf))))
   (uu (uS (tw_dIn .ht true 0 rfl c.cl d.nH (BE m) (ss 1) (pv 0))
   (ug<|Ad rfl b)
   uH)
   (uu (uv 2 Ir.nd (uQ (TC .ht 0 rfl c.cl d.nH (pv 0) (vy 1 (pv 1)))))
   (uu (Lr .th 0 rfl c.cl d.nT (pv 0) (vy 2 (pv 2)) (λn o=>Fv n o))
   (ug (uD (uQ (ss 2))))))))) λp u r h=>?_
 walk_at "wl"
 obtain⟨t,h⟩:=h;show if (lk p.1.rk p.2.1).isSome=true then _ else r XC (p.1,⟨⟩,());by_cases i:(lk p.1.rk p.2.1).isSome=true
 ·rw[f7 i] at h ⊢;dsimp only;rw[f7 rfl];by_cases q:(lk p.1.ht p.2.1).isSome=true
  ·rw[f7 q] at h;rw[f8<|by simp[q]];have e:=vQ (x:=p.1)<|yL q;exact⟨_,e,by rw[(t.ht _ _ e).2.2.2];rfl,h⟩
  ·rw[f8 q] at h;rw[f7<|by simp[q]];exact h
 ·rw[f8 i] at h ⊢;exact h
abbrev wN:gP:=top 29
abbrev wO:List Str:=["earlier","last"]
theorem vY:um ["earlier","last","row","tail"] wO (ue wN):=by walk_at "sc"
abbrev BO(q:Cq)(k:Nat):=wC q "row_from_first" wO yo k
theorem Be(F:DB q "row_from_first" wN f n):Gq q 2 f n wO yo:=by
 refine' ur (vS (D':=Unit) (ms:=[0]) (j:=2) F vY rfl rfl λo A b s H E r =>
   (uu (uv 2 vY.nd (uy (α:=Int) ux))
   (uu (uv 3 vY.nd (uQ (yF (ss 1))))
   (uu (Dy (mb:=[0]) (D2:=(Dc (Option Int))×Int×(OL Int)×(Option Int)×Unit) (uI q0q) ya (tw_cm Li (ss 3) Ju)
   (uu (vJ 2 (zi (ss 3)))
   (ug (uv 3 vY.nd (uQ (DE 0 (BE r) (pv 0) (zi (ss 3))))))) q0q)
   (ug (uD (WF (vt 2)))))))) λp B D h=>?_
 walk_at "wl"
 obtain⟨⟨a,t,u,w⟩,h⟩:=h;refine⟨λm d=>d.1=p.1/\(match d.2.2.2.1 with|none=>d.2.2.1.l≠[]|some k=>(lk p.1.l k).isSome=true/\d.2.2.1.l.length+a k<1000)/\(match d.2.2.2.1 with|none=>0|some k=>a k+1)<=m,⟨a p.2.1+1,rfl,⟨u,by have:=t p.2.1;simpa using this⟩,ga _⟩,?_⟩;intro m;refine a0K λG I x y J=>?_;rintro⟨rfl,c,L⟩
 cases y with
 | none =>
  rw[f8 q0o];exact h _ (by simpa using c)
 | some k =>
  rw[f7 q0o];obtain⟨v,i⟩:=Option.isSome_iff_exists.mp c.1;have z:gf=16777216:=iu;refine⟨k,rfl,by show x.l.length<gf;lia,k,rfl,v,i,?_⟩
  cases v with
  | none=>exact⟨0,q0a,rfl,q0o,ga _⟩
  | some e =>
   have g:=w k e i;exact⟨a e+1,q0a,rfl,⟨g.1,by simp;lia⟩,ga _⟩
abbrev zF:gP:=Bk (top 28) 25
abbrev zH:List Str:=["self","low","high"]
theorem wh:um ["self","low","high","earlier","waiting","tail","head","later"] zH (ue zF):=by walk_at "sc"
abbrev Iu(q:Cq)(C:cr)(k:Nat):=yT q C "ring_with" zH (B9 C) k
theorem GB(F:ye q.K "ring_with" "Field.ring_with" zF f fd)(ct:Aw q.K C)(cf:NC q.K C)(a:BO q 3)(D:LN q C 3):Gq q 4 f fd zH (B9 C):=by
 refine' ur (vS (D':=Unit) (ms:=[0]) (j:=5) F wh rfl rfl λaf A aa s H E P =>
   (uu (uv 3 wh.nd (WD (vy 1 (pv 1))))
   (uu (uv 4 wh.nd (uy (uk (ss 1) ux)))
   (uu (Dy (mb:=[0]) (D2:=(Bd C true)×Int×Int×(Dc (Option Int))×(OL Int)×Int×Int×Un×Unit) (uI q0q) ya (tw_trueR (vt 4))
   (uu (uv 5 wh.nd (uQ (LA 4 (pv 4) (N5 lh nX nY N7 (pv 4)))))
   (uu (uv 6 wh.nd (uQ (P1 .ht 0 rfl ct.cl cf.nH (BE P) (pv 0) (vy 5 (pv 5)) (vy 2 (pv 2)))))
   (uu (uS (tw_w (Jw (tw_cm OR (ss 5) (ss 1)) (FO (tw_inT (ss 1) (zS 0 ct.cl ct.nB (BE P) (pv 0) (vy 6 (pv 6))) (by with_unfolding_all rfl)))))
   (ug<|uD<|uz a<|uP 3<|uj (ss 5) uf)
   uH)
   (ug (vT (is:=[]) (mb:=[0]) (D1:=(Bd C true)×Int×Int×(Dc (Option Int))×(OL Int)×Int×Int×Int×Unit) (D2:=(Bd C true)×Int×Int×(Dc (Option Int))×(OL Int)×Int×Int×Int×Unit) (uI q0q) ya rfl (vv (uG (vz 0 D (uj (ss 5) (uj (ss 6) uf))))) (uF 7 (ut wh.nd))
   (ug (uS (tw_dcNin 3 (BE P) (ss 7) (pv 3))
   (uu (PN 3 (BE P) (pv 3) (ss 7) (yF (ss 5)))
   (ug (vJ 4 (ss 7))))
   uH)) q0q q0q))))) q0q)
   (ug (uD (uy (α:=Int) ux))))))) λp Kn Ke h=>?_
 walk_at "wl"
 obtain⟨L,hh,t1,t2,h⟩:=h
 have G:p.2.1∉vf p.1:=λz=>by have:=wK z;unfold wn at t1;rw[this] at t1;cases t1
 have n0:lk p.1.ht p.2.1=none:=LI G;refine⟨λm d=>d.1=p.1/\d.2.1=p.2.1/\d.2.2.1=p.2.2.1/\Rw p.1 p.2.1 d.2.2.2.1.l d.2.2.2.2.1.l (LK p.1 p.2.1 p.2.2.1)/\2*ND p.1 d.2.2.2.1.l+d.2.2.2.2.1.l.length<=m/\m<=200,⟨_,rfl,rfl,rfl,Qi L,ga _,a00 L⟩,?_⟩;intro m;refine Eo λd1 d2 d3 d4 d5 d6 d7 d8 d9=>?_;rintro⟨rfl,rfl,rfl,i,i5,i6⟩;rcases su d5.l with e|⟨ys,y,e⟩
 ·rw[f8<|by rw[e];simp];refine h [] λ_=>?_;rw[e] at i;exact TR (V:=d4.l.map (·.1)) L G (zC.mp i.lo) (λk o n=>i.tl k (zC.mpr o) n) λk o=>⟨(i.dn k (zC.mpr o) q0o).1,λt c=>zC.mp<|(i.dn k (zC.mpr o) q0o).2 t c⟩
 ·rw[f7<|by rw[e];simp];rw[sv] at e;refine⟨ys,y,e,?_⟩;have W:(lk d4.l y).isSome=true:=i.wk y (by rw[e];simp)
  have hd:(lk p.1.ht y).getD p.2.2.1=if y=p.2.1 then p.2.2.1 else vB p.1 y:=by
   by_cases q:y=p.2.1
   ·rw[f7 q,q,n0];rfl
   ·rw[f8 q,vQ<|i.tl y W q];rfl
  have M:(lk p.1.rk<|if y=p.2.1 then p.2.2.1 else vB p.1 y).isSome=true:=by
   by_cases q:y=p.2.1
   ·rw[f7 q];exact hh
   ·rw[f8 q];exact L.FH<|i.tl y W q
  rw[hd]
  have I:(y≠p.2.1->p.2.1∉vR p.1 (vB p.1 y))->Gp C (p.1,y,(if y=p.2.1 then p.2.2.1 else vB p.1 y),()) (λab p'=>FQ (λx (b:B0 C×Int×Int×Dc (Option Int)×OL Int×Int×Int×WL.Un×Unit) R Kr Ke =>
    if (!(lk b.2.2.2.1.l x).isSome)=true then b.2.2.2.1.l.length<gf/\b.2.2.2.2.1.l.length<gf/\R (b.1,b.2.1,b.2.2.1,⟨pk b.2.2.2.1.l x<|some b.2.2.2.2.2.1⟩,⟨b.2.2.2.2.1.l++[x]⟩,b.2.2.2.2.2.1,b.2.2.2.2.2.2.1,⟨⟩,b.2.2.2.2.2.2.2.2)
    else R (b.1,b.2.1,b.2.2.1,b.2.2.2.1,b.2.2.2.2.1,b.2.2.2.2.2.1,b.2.2.2.2.2.2.1,⟨⟩,b.2.2.2.2.2.2.2.2)) ab.l (p'.1,p.2.1,p.2.2.1,d4,⟨ys⟩,y,(if y=p.2.1 then p.2.2.1 else vB p.1 y),d8,d9)
    (λN=>∃m',m'<m/\N.1=p.1/\N.2.1=p.2.1/\N.2.2.1=p.2.2.1/\Rw p.1 p.2.1 N.2.2.2.1.l N.2.2.2.2.1.l (LK p.1 p.2.1 p.2.2.1)/\2*ND p.1 N.2.2.2.1.l+N.2.2.2.2.1.l.length<=m'/\m'<=200) Kn Ke) (λae p'=>Ke ae (p'.1,⟨⟩,⟨⟩,())):=by
   intro hy;refine⟨by rw[Ae L.ok M];rfl,L.bl M,?_⟩
   refine uZ (λ(r:List Int) (b:B0 C×Int×Int×Dc (Option Int)×OL Int×Int×Int×WL.Un×Unit)=>b.1=p.1/\b.2.1=p.2.1/\b.2.2.1=p.2.2.1/\b.2.2.2.2.2.1=y/\(lk b.2.2.2.1.l y).isSome=true/\(∀t∈r,t∈vf p.1) /\
    Rw p.1 p.2.1 b.2.2.2.1.l b.2.2.2.2.1.l (λk e=>if k=y then (∀t∈Bb p.1 y (if y=p.2.1 then p.2.2.1 else vB p.1 y),(lk e t).isSome=true\/t∈r) else LK p.1 p.2.1 p.2.2.1 k e)/\2*ND p.1 b.2.2.2.1.l+b.2.2.2.2.1.l.length+1<=m) _ ?_ ?_ ?_
   ·refine⟨rfl,rfl,rfl,rfl,W,λt c=>(wp.mp c).2.2,⟨i.lo,i.tl,λk o=>i.wk k (by rw[e];exact il _ o),λk o O=>?_,i.ch,i.sz⟩,?_⟩
    ·dsimp only;by_cases q:k=y
     ·rw[f7 q];exact λt c=>.inr c
     ·rw[f8 q];exact i.dn k o (by rw[e];intro z;rcases List.mem_append.mp z with z|z;exact O z;exact q<|List.mem_singleton.mp z)
    ·rw[e,gw] at i5;simp only[gF] at i5
     lia
   ·intro S r;refine Eo λb1 b2 b3 X b5 J b7 b8 b9=>?_;rintro _ ⟨rfl,rfl,rfl,rfl,Y,j6,u,j8⟩ K hK;have T:∀t∈r,t∈vf p.1:=λt c=>j6 t (gg _ c)
    cases q:lk X.l S with
    | none =>
     rw[f7 q0o];have z:gf=16777216:=iu;have s1:=u.sz;have nn:∀(k:Int) (e':List (Int×Option Int)),(∀t,(lk e' t).isSome=true->(lk (pk e' S<|some J) t).isSome=true):=λk e' t c=>by rw[xk];split;rfl;exact c
     obtain⟨Q,u2⟩:=u.add (t0:=J) (j6 S gc) q Y λk o U=>by
      by_cases B:k=J
      ·rw[f7 B] at U ⊢;exact λt c=>(U t c).imp (nn k _ t) id
      ·rw[f8 B] at U ⊢;exact⟨U.1,λt c=>nn k _ t<|U.2 t c⟩
     refine⟨by show X.l.length<gf;lia,by show b5.l.length<gf;lia,hK _ ⟨rfl,rfl,rfl,rfl,nn 0 _ _ Y,T,?_,?_⟩⟩
     ·refine⟨Q.lo,Q.tl,Q.wk,λk o O=>?_,Q.ch,Q.sz⟩;have g:=Q.dn k o O;by_cases B:k=J
      ·rw[f7 B] at g ⊢;intro t c;rcases g t c with w|w
       ·exact .inl w
       ·rcases List.mem_cons.mp w with w|w
        ·left;rw[w,xk,f7 rfl];rfl
        ·exact .inr w
      ·rw[f8 B] at g ⊢;exact g
     ·show 2*ND p.1 (pk X.l S<|some J)+(b5.l++[S]).length+1<=m;rw[gw];simp only[gF]
      lia
    | some v =>
     rw[f8 q0o];refine hK _ ⟨rfl,rfl,rfl,rfl,Y,T,⟨u.lo,u.tl,u.wk,λk o O=>?_,u.ch,u.sz⟩,j8⟩;have g:=u.dn k o O;by_cases B:k=J
     ·rw[f7 B] at g ⊢;intro t c;rcases g t c with w|w
      ·exact .inl w
      ·rcases List.mem_cons.mp w with w|w
       ·left;rw[w,q];rfl
       ·exact .inr w
     ·rw[f8 B] at g ⊢;exact g
   ·refine Eo λb1 b2 b3 X b5 J b7 b8 b9=>?_;rintro⟨rfl,rfl,rfl,rfl,Y,_,u,j8⟩;refine⟨m-1,q0a,rfl,rfl,rfl,⟨u.lo,u.tl,u.wk,λk o O=>?_,u.ch,u.sz⟩,by dsimp only at j8 ⊢;lia,q0a⟩;have g:=u.dn k o O;by_cases B:k=J
    ·rw[f7 B] at g;subst B;exact⟨hy,λt c=>(g t c).elim id λw=>gy w q0o⟩
    ·rw[f8 B] at g;exact g
  by_cases q:y=p.2.1
  ·rw[f8 (by simp[q]),f8 gr];exact I λz=>gy q z
  ·rw[f7<|by simp[q]];refine⟨_,Ae L.ok M,?_⟩;by_cases Z:p.2.1∈vR p.1 (if y=p.2.1 then p.2.2.1 else vB p.1 y)
   ·rw[f7<|decide_eq_true Z];obtain⟨mm,m1,m2⟩:=i.ch;refine⟨⟨mm,λk=>by have:=m1 k;have:=i.sz;lia,W,m2⟩,λr P=>h r λz=>gy z P⟩
   ·rw[f8<|by simpa using Z];exact I λ_=>by rw[f8 q] at Z;exact Z
abbrev Qr:gP:=Bk (top 28) 13
abbrev Qs:List Str:=["self","low","high"]
theorem Qt:um ["self","low","high","ring"] Qs (ue Qr):=by walk_at "sc"
abbrev Y5(q:Cq)(C XC XF XT XR:cr)(k:Nat):=yT q C "tie" Qs (Qg C XC XF XT XR) k
theorem WP(F:ye q.K "tie" "Field.tie" Qr f D)(o:Aw q.K C)(x:NC q.K C)(b:vP q C XC 4)(d:BL q C 4)(e:Iu q C 4)(g:Xc q.K q.mg "NotFace" XF)(k:Xc q.K q.mg "Tied" XT)(c:XcI q.P q.w q.K q.mg q.base 3 "RingOfArrows" XR "ring"):Gq q 5 f D Qs (Qg C XC XF XT XR):=by
 refine' ur (B3 (uI q0q) (D':=(Bd C true)×Int×Int×(OL Int)×Unit) (ms:=[0]) (j:=1) F Qt rfl rfl λG A v s H E l =>
   (uu (uX (uw (vz 0 b (uj (ss 1) uf))))
   (uu (uX (uw (vz 0 b (uj (ss 2) uf))))
   (uu (uS (tw_ninT (ss 1) (zS 0 o.cl o.nB (BE l) (pv 0) (vy 2 (pv 2))) (by with_unfolding_all rfl))
   (ug<|Ad rfl g)
   uH)
   (uu (uS (tw_w (Lj (tw_val (uw (vz 0 d (uj (ss 1) uf)))) (FP (tw_val (uw (vz 0 d (uj (ss 2) uf)))))))
   (ug<|Ad rfl k)
   uH)
   (uu (uv 3 Qt.nd (vz 0 e (uj (ss 1) (uj (ss 2) uf))))
   (uu (uS (tw_trueR (vt 3))
   (ug<|WB (i:=3) (α:=Int) rfl c l<|pv 3)
   uH)
   (uu (FX .ht 0 rfl o.cl x.nH (BE l) (pv 0) (vy 1 (pv 1)) (ss 2))
   (ug (FX .th 0 rfl o.cl x.nT (BE l) (pv 0) (vy 2 (pv 2)) (ss 1))))))))))) λp I y h=>?_
 walk_at "wl"
 obtain⟨t,h⟩:=h;show if (lk p.1.rk p.2.1).isSome=true then _ else y XC (p.1,⟨⟩,⟨⟩,());by_cases B:(lk p.1.rk p.2.1).isSome=true
 ·rw[f7 B] at h ⊢;show if (lk p.1.rk p.2.2.1).isSome=true then _ else y XC (p.1,⟨⟩,⟨⟩,());by_cases ht:(lk p.1.rk p.2.2.1).isSome=true
  ·rw[f7 ht] at h ⊢;refine⟨_,Ae t.ok ht,?_⟩;by_cases u:p.2.1∈vR p.1 p.2.2.1
   ·rw[f7 u] at h;rw[f8<|by simp[u]];show if wn p.1 p.2.1=true then _ else _;by_cases m:wn p.1 p.2.1=true
    ·rw[f7<|.inl m] at h;rw[f7 m,f7 rfl];exact h
    ·rw[f8 m];show if wn p.1 p.2.2.1=true then _ else _;by_cases n:wn p.1 p.2.2.1=true
     ·rw[f7<|.inr n] at h;rw[f7 n];exact h
     ·rw[f8<|λz=>z.elim m n] at h;rw[f8 n];refine⟨t,ht,by simpa using m,by simpa using n,λr l=>?_⟩
      cases r with
      | nil =>
       rw[f8 q0o];have z:gf=16777216:=iu;exact⟨(by show p.1.ht.length<gf;have:=t.len;lia),(by show p.1.th.length<gf;have:=t.Y4;lia),h.2<|l rfl⟩
      | cons a r =>
       rw[f7 q0o];exact h.1
   ·rw[f8 u] at h;rw[f7<|by simp[u]];exact h
  ·rw[f8 ht] at h ⊢;exact h
 ·rw[f8 B] at h ⊢;exact h
abbrev GC:gP:=Bk (top 28) 21
abbrev GD:List Str:=["self"]
theorem wB:um ["self","tail","unmet","low","high","later","ready","told"] GD (ue GC):=by walk_at "sc"
theorem Nd:(["tail","unmet"]:List Str).Nodup:=by decide +kernel
abbrev TX(q:Cq)(C:cr)(k:Nat):=yT q C "order" GD (LH C) k
theorem Qu(F:ye q.K "order" "Field.order" GC f fd)(ct:Aw q.K C)(cf:NC q.K C)(u:Qp q C 3)(n:LN q C 3)(v:LO q C 3):Gq q 4 f fd GD (LH C):=by
 refine' ur (vS (D':=Unit) (ms:=[0]) (j:=7) F wB rfl rfl λab A aa s H E U =>
   (uu (uv 2 wB.nd (M5 .ht 0 rfl ct.cl cf.nH rfl (pv 0) rfl q0s rfl q0s rfl) (hx:=tU rfl))
   (uu (vT (is:=[]) (mb:=[0]) (D1:=(Bd C true)×Un×(Dc Int)×Int×Int×Un×Un×Un×Unit) (D2:=(Bd C true)×Un×(Dc Int)×Int×Int×Un×Un×Un×Unit) (uI q0q) ya rfl (vv (uG (HV 0 u))) (AV 3 4 (Bm rfl (vH (ut (i:=3) wB.nd) (vH (ut (i:=4) wB.nd) zJ))) q0q q0q)
   (ug (vT (is:=[]) (mb:=[0]) (D1:=(Bd C true)×Un×(Dc Int)×Int×Int×Int×Un×Un×Unit) (D2:=(Bd C true)×Un×(Dc Int)×Int×Int×Int×Un×Un×Unit) (uI q0q) ya rfl (vv (uG (vz 0 n (uj (ss 3) (uj (ss 4) uf))))) (uF 5 (ut wB.nd))
   (ug (Ij 2 (BE U) (pv 2) (vy 5 (pv 5)) Ph NJ)) q0q q0q)) q0q q0q)
   (uu (zR (Ts:=["tail"]) (Fr:=["unmet"]) (idx:=[2]) (k:=1) (mb:=[1]) (is:=[]) (cl:=[("unmet",s.heap.objs.size+1)]) 6 wB.nd rfl rfl rfl q0q rfl (vv (uG (HV 0 v))) Rx rfl (vN rfl) (λJ L C ex pn=>(uF 0 (ut Nd))) (λJ L C ex pn=>(tws_one (tw_cm zk (DE 1 (BE U) (pv 1) (ss 0)) ui))) (λJ L C ex pn=>(ss 0)))
   (uu (uv 7 wB.nd (uy (α:=Int) ux))
   (uu (Dy (mb:=[0]) (D2:=(Bd C true)×Int×(Dc Int)×Un×Un×Un×(OL Int)×(OL Int)×Unit) (uI q0q) ya (tw_trueR (vt 6))
   (uu (uv 1 wB.nd (uQ (LA 6 (pv 6) (N5 lh nX nY N7 (pv 6)))))
   (uu (vJ 7 (ss 1))
   (ug (vT (is:=[]) (mb:=[0]) (D1:=(Bd C true)×Int×(Dc Int)×Un×Un×Int×(OL Int)×(OL Int)×Unit) (D2:=(Bd C true)×Int×(Dc Int)×Un×Un×Int×(OL Int)×(OL Int)×Unit) (uI q0q) ya rfl (vv (uG (vz 0 n (uj (ss 1) (uj (FW .ht 0 rfl ct.cl cf.nH (BE U) (pv 0) (vy 1 (pv 1))) uf))))) (uF 5 (ut wB.nd))
   (uu (Ij 2 (BE U) (pv 2) (vy 5 (pv 5)) Ph Vw)
   (ug (uS (tw_cm zk (DE 2 (BE U) (pv 2) (ss 5)) ui)
   (ug<|vJ 6<|ss 5)
   uH))) q0q q0q)))) q0q)
   (ug (xT 7 (pv 7))))))))) λp Kn Ke h=>?_
 walk_at "wl"
 obtain⟨g,h⟩:=h;have sl:gf=16777216:=iu;have W:(vf p.1).length<=63:=by have e:(vf p.1).length=p.1.ht.length:=gh _;have:=g.len;lia
 have N:(Av<|vf p.1).Nodup:=(vI _).nodup_iff.mpr g.nd;refine⟨g.len,g.nd,?_⟩;refine uZ (λ(r:List (Int×Int)) (b:B0 C×WL.Un×Dc Int×WL.Un×WL.Un×WL.Un×WL.Un×WL.Un×Unit)=>b.1=p.1/\b.2.2.1.l.map (·.1)=vf p.1/\(∀e∈r,e.1∈vf p.1/\e.2=vB p.1 e.1)/\∀t∈vf p.1,lk b.2.2.1.l t=some (cnt p.1 (Av<|vf p.1) t-cnt p.1 (r.map (·.1)) t)) _ ?_ ?_ ?_
 ·refine⟨rfl,?_,λe he=>?_,λt c=>?_⟩
  ·show ((List.map (λx=>x.1) p.1.ht).map λk=>(k,(0:Int))).map (·.1)=vf p.1;rw[jP];exact List.map_id' _
  ·obtain⟨l,hl,rfl⟩:=List.mem_map.mp he;exact⟨xq.mp hl,rfl⟩
  ·have e:((Av<|vf p.1).map λl=>(l,vB p.1 l)).map (·.1)=Av (vf p.1):=by rw[jP];exact List.map_id' _
   rw[e,Int.sub_self];exact LJ c
 ·rintro⟨l,hd⟩ r;refine Eo λb1 b2 b3 b4 b5 b6 b7 b8 b9=>?_;rintro _ ⟨rfl,j2,j3,R⟩ K hK;have l1:l∈vf p.1/\hd=vB p.1 l:=j3 (l,hd) gc;have hl:=l1.1;have e2:=l1.2;subst e2;have o:=g.FH hl;refine⟨by rw[Ae g.ok o];rfl,g.bl o,?_⟩;refine uZ (λ(B:List Int)(b:B0 C×WL.Un×Dc Int×Int×Int×WL.Un×WL.Un×WL.Un×Unit)=>b.1=p.1/\b.2.2.1.l.map (·.1)=vf p.1/\B.Nodup/\(∀t∈B,t∈vf p.1)/\∀t∈vf p.1,lk b.2.2.1.l t=some (cnt p.1 (Av<|vf p.1) t-cnt p.1 (r.map (·.1)) t-if t∈B then 1 else 0)) _ ?_ ?_ ?_
  ·refine⟨rfl,j2,Qk g o,λt c=>(wp.mp c).2.2,λt c=>?_⟩;rw[R t c,gK,cnt_cons,<- Int.sub_sub]
  ·intro G B;refine Eo λc1 c2 O c4 c5 c6 c7 c8 c9=>?_;rintro _ ⟨rfl,D,k3,X,k5⟩ K2 I;have T:=List.nodup_cons.mp k3;have e0:=k5 G<|X G gc;have cl:O.l.length<=63:=by rw[<- gh (f:=(·.1)) (as:=O.l),D];exact W
   refine⟨_,e0,by show O.l.length<gf;lia,I _ ⟨rfl,(LM<|by rw[e0];rfl).trans D,T.2,λt c=>X t<|gg _ c,λt c=>?_⟩⟩;rw[xk];by_cases q:t=G
   ·rw[f7 q,q,f7 gc,f8 T.1];congr 1;lia
   ·rw[f8 q,k5 t c];simp[q]
  ·refine Eo λc1 c2 O c4 c5 c6 c7 c8 c9=>?_;rintro⟨rfl,D,_,_,k5⟩;refine hK _ ⟨rfl,D,λe he=>j3 e<|gg _ he,λt c=>?_⟩;rw[k5 t c];simp
 ·refine Eo λb1 b2 b3 b4 b5 b6 b7 b8 b9=>?_;rintro⟨rfl,j2,_,R⟩
  have R:∀t∈vf p.1,lk b3.l t=some (cnt p.1 (vf p.1) t):=λt c=>by rw[R t c,n6,Iq<|vI<|vf p.1];unfold cnt;simp
  refine⟨g.len,g.nd,?_⟩;refine⟨by rw[(vI _).length_eq];lia,?_⟩;refine vo (q:=λt=>decide<|cnt p.1 (vf p.1) t=0) (λt c K hK=>⟨_,R t<|xq.mp c,hK⟩) ?_
  have P:Kh p.1 b3.l ((Av<|vf p.1).filter λt=>decide<|cnt p.1 (vf p.1) t=0) [] []:=by
   have u0:JW p.1 []=vf p.1:=by unfold JW;simp
   refine⟨j2,by rw[mo];exact N.filter _,λt c=>?_,λt c=>?_,λt c _=>?_,λa ha=>gy ha q0o,gR⟩
   ·rw[mo,iE] at c;exact xq.mp c.1
   ·rw[u0,R t c];simp
   ·rw[u0,iE,xq,hJ];simp[c]
  refine⟨λm d=>d.1=p.1/\Kh p.1 d.2.2.1.l d.2.2.2.2.2.2.1.l d.2.2.2.2.2.2.2.1.l []/\64<=m+d.2.2.2.2.2.2.2.1.l.length,⟨64,rfl,P,q0o⟩,?_⟩;intro m;refine Eo λd1 d2 d3 d4 d5 d6 d7 Q d9=>?_;rintro⟨rfl,M,i2⟩;rcases su d7.l with e|⟨ys,y,e⟩
  ·rw[f8<|by rw[e];simp];rw[e] at M;exact h _<|M.done g
  ·rw[f7<|by rw[e];simp];rw[sv] at e;rw[e] at M;have yt:y∈vf p.1:=M.st y q0o;have o:=g.FH yt;have ln:=M.len g;refine⟨ys,y,e,by show Q.l.length<gf;lia,_,vQ yt,by rw[Ae g.ok o];rfl,g.bl o,?_⟩;have K0:=M.pop g;refine uZ (λ(B:List Int)(b:B0 C×Int×Dc Int×WL.Un×WL.Un×WL.Un×OL Int×OL Int×Unit)=>b.1=p.1/\b.2.2.2.2.2.2.2.1.l=Q.l++[y]/\Kh p.1 b.2.2.1.l b.2.2.2.2.2.2.1.l (Q.l++[y]) B/\B.Nodup/\∀t∈B,t∈vf p.1/\t∉Q.l++[y]) _ ?_ ?_ ?_
   ·refine⟨rfl,rfl,K0,Qk g o,λt c=>⟨(wp.mp c).2.2,λz=>?_⟩⟩;rcases List.mem_append.mp z with z|z
    ·have yn:y∉Q.l:=λw=>(List.nodup_append.mp M.nd).2.2 y w y q0o rfl;exact M.bk t z y yt yn c
    ·exact(wp.mp c).2.1<|List.mem_singleton.mp z
   ·intro G B;refine Eo λc1 c2 O c4 c5 c6 c7 c8 c9=>?_;rintro _ ⟨rfl,Y,D,k3,X⟩ K2 I;have T:=List.nodup_cons.mp k3;have x1:=X G gc;have hv:=D.ct G x1.1;have S:=D.step x1.1 x1.2 T.1 hv;have ae:=D.len g;refine⟨_,hv,by show O.l.length<gf;lia,_,by rw[xk,f7 rfl],?_⟩;have Z:∀t∈B,t∈vf p.1/\t∉Q.l++[y]:=λt c=>X t<|gg _ c;by_cases w:(cnt p.1 (JW p.1<|Q.l++[y]) G+if G∈G::B then 1 else 0)-1=0
    ·rw[f7<|decide_eq_true w];rw[f7 w] at S;exact⟨by show c7.l.length<gf;lia,I _ ⟨rfl,Y,S,T.2,Z⟩⟩
    ·rw[f8<|by simpa using w];rw[f8 w] at S;exact I _ ⟨rfl,Y,S,T.2,Z⟩
   ·refine Eo λc1 c2 O c4 c5 c6 c7 c8 c9=>?_;rintro⟨rfl,Y,D,_,_⟩;exact⟨m-1,q0a,rfl,by rw[Y];exact D,by rw[Y,gw,gF];lia⟩
end
structure NE(l:List Int):Prop where
 ri:wl l
 lt:∀c∈l,0<=c/\c<63
theorem NE.xr(d:NE a)(e:NE b):NE (xr a b):=⟨xE d.ri,λc f=>(FT (uq e.ri) f).elim (d.lt c)<|e.lt c⟩
theorem NE.mem(b:NE a):∀k∈a,k∈xO 0 63:=λk c=>yK (b.lt k c).1 (b.lt k c).2
def LP:Wf (List Int×List Int×Unit) (OL Int) (WL.Un×WL.Un×Unit):=λp a _=>NE p.1/\NE p.2.1/\a ⟨xr p.1 p.2.1⟩ (⟨⟩,⟨⟩,())
section
variable{XS:cr}
theorem Iv(h:wl row)(k:a () (⟨⟩,())):CK XS (row,()) a b:=⟨λ_=>k,λz=>by
 rw[(xt row).mpr h] at z
 cases z⟩
end
section
variable{C:cr}{x:B0 C}
theorem Af.Va(a:Af x){c:Int}(h:(lk x.rk c).isSome=true):NE (vR x c):=⟨(a.ok.bo c _<|Ae a.ok h).1,(a.ok.bo c _<|Ae a.ok h).2⟩
theorem WQ{t h:Int}(d:t∈f h):∀{T:List Int},T.Nodup->(∀a∈T,a≠h->t∉f a)->Sf f t T=decide (h∈T):=by
 intro e
 induction e with
 | nil=>intro _ _;exact rfl
 | cons c T b =>
  intro n k;have n:=List.nodup_cons.mp n;show xor (decide<|t∈f c) (Sf f t T)=_;rw[b n.2 λa m=>k a<|gg _ m];by_cases q:c=h
  ·subst q;simp[d,n.1]
  ·have:=k c gc q;simp[this,Ne.symm q]
theorem Qv(g:Af x):∀{q T acc:List Int},q.Nodup->(∀t∈q,t∈vf x)->(q.Pairwise λa b=>a∉Bb x b (vB x b))->wl T->(∀h∈T,∃t∈q,vB x t=h)->(q.foldl (BI x) (u4 (vR x) T,acc)).2.Perm (acc++T):=by
 intro N
 induction N with
 | nil =>
  intro T acc _ _ _ _ n
  cases T with
  | nil=>simp
  | cons h r=>obtain⟨t,z,_⟩:=n h gc;cases z
 | cons t q p =>
  intro T acc B D s o n;have B:=List.nodup_cons.mp B;have s:=List.pairwise_cons.mp s;have F:=D t gc;have G:=(g.ht t _<|vQ F).2.2.1
  have O:∀a∈vf x,∀b∈vf x,vB x a=vB x b->a=b:=λa P b G e=>by have E:=(g.ht a _<|vQ P).2.2.2;have Q:=(g.ht b _<|vQ G).2.2.2;rw[e,Q] at E;injection E with E;exact E.symm
  have J:∀c∈T,(vR x c).Nodup:=λc u=>by obtain⟨d,m,e⟩:=n c u;rw[<- e];exact uq (g.Va<|g.FH<|D d m).ri
  have v:t∈u4 (vR x) T↔vB x t∈T:=by
   have:=wy (f:=vR x) (x:=t) (l:=T) J;rw[WQ G (uq o) λR m S z=>?_] at this
   ·exact decide_eq_decide.mp this
   ·obtain⟨d,y,e⟩:=n R m;have L:d≠t:=λw=>S (by rw[<- e,w]);have U:d∈q:=(List.mem_cons.mp y).elim (λw=>gy w L) id;refine s.1 d U<|wp.mpr ⟨?_,Ne.symm L,F⟩;rw[e];exact z
  rw[lp];unfold BI;by_cases A:vB x t∈T
  ·rw[f7<|v.mpr A];have W:wl [vB x t]:=je _ _;have H:=g.Va (g.FH F)
   have X:u4 (vR x) [vB x t]=vR x (vB x t):=DA (v8 _ _) H.ri λk=>by rw[wy<|λc u=>by rw[List.mem_singleton.mp u];exact uq H.ri];show xor (decide<|k∈vR x (vB x t)) false=_;rw[mQ]
   have M:=CD (f:=vR x) o W J (λc u=>by rw[List.mem_singleton.mp u];exact uq H.ri);rw[X] at M;rw[<- M]
   have i:∀k,k∈xr T [vB x t]↔k∈T/\k≠vB x t:=λk=>by
    rw[yb q0o,lv];by_cases z:k=vB x t
    ·subst z;simp[A]
    ·simp[z]
   have Y:=p (T:=xr T [vB x t]) (acc:=acc++[vB x t]) B.2 (λk I=>D k<|gg _ I) s.2 (xE o) λh j=>by have j:=(i h).mp j;obtain⟨d,y,e⟩:=n h j.1;refine⟨d,(List.mem_cons.mp y).elim (λw=>gy (by rw[<- e,w]) j.2) id,e⟩
   refine Y.trans ?_;rw[kC];refine nC acc<|vw (List.nodup_cons.mpr ⟨λz=>((i _).mp z).2 rfl,uq<|xE o⟩) (uq o) λk=>?_;show k∈vB x t::xr T [vB x t]↔_;rw[gL,i];by_cases z:k=vB x t
   ·subst z;simp[A]
   ·simp[z]
  ·rw[f8 λz=>A<|v.mp z]
   exact p B.2 (λk I=>D k<|gg _ I) s.2 o λh j=>by obtain⟨d,y,e⟩:=n h j;exact⟨d,(List.mem_cons.mp y).elim (λw=>gy j<|by rw[<- e,w];exact A) id,e⟩
theorem Fa(h:∀c∈row,c∉vf x):∀{o:List Int},(∀t∈o,t∈vf x)->o.foldl (BI x) (row,a)=(row,a)
 | [],_=>rfl
 | t::o,k=>by
  rw[lp];have:BI x (row,a) t=(row,a):=by unfold BI;rw[f8 λz=>h t z<|k t gc]
  rw[this];exact Fa h λt b=>k t<|gg _ b
end
def Iw(C d a:cr):Wf (B0 C×List Int×Unit) (OL Int) (B0 C×WL.Un×Unit):=λp b c =>
 Af p.1/\NE p.2.1/\if vF p.1 p.2.1=true then (∀o,Ord p.1 o->b ⟨Av (o.foldl (BI p.1) (p.2.1,[])).2⟩ (p.1,⟨⟩,())) else c a (p.1,⟨⟩,())
def GF(C a b:cr):Wf (B0 C×Int×Unit) Unit (B0 C×WL.Un×Unit):=λp c d=>wn p.1 p.2.1=false/\Gj C a b p c d
abbrev TY(q:Cq)(C a b:cr)(k:Nat):=yT q C "take" zB (GF C a b) k
section
variable{C:cr}{x:B0 C}
theorem Qw{x:Int}(c:wl b):decide (x∈xr a b)=xor (decide<|x∈a) (decide<|x∈b):=by have e:=yb (l:=a) (x:=x)<|uq c;by_cases p:x∈a<;>by_cases q:x∈b<;>simp[p,q,e]
structure Fl{C:cr}(x:B0 C)(row h:List Int):Prop where
 ri:wl h
 hs:∀k∈h,∃t∈vf x,vB x t=k
 nt:∀t∈vf x,t∉xr row (u4 (vR x) h)
 od:∃o,Ord x o
theorem Vb(ok:Af x){h:List Int}(a:∀k∈h,∃t∈vf x,vB x t=k):∀c∈h,(vR x c).Nodup:=λc b=>by obtain⟨t,m,e⟩:=a c b;rw[<- e];exact uq (ok.Va<|ok.FH m).ri
theorem TZ(d:Af x)(f:∃o,Ord x o)(g:wl h)(i:∀k∈h,∃t∈vf x,vB x t=k)(j:∀t∈vf x,t∉u4 (vR x) h):h=[]:=by
 obtain⟨o,a⟩:=f
 have p:=Qv d (q:=o) (T:=h) (acc:=[]) (a.pm.nodup_iff.mpr d.nd) (λt b=>a.pm.mem_iff.mp b) a.up g λk l=>by obtain⟨t,m,e⟩:=i k l;exact⟨t,a.pm.mem_iff.mpr m,e⟩
 rw[Fa (λc n z=>j c z n) λt b=>a.pm.mem_iff.mp b] at p;exact(List.nil_perm.mp p).trans rfl
theorem T0(l:Af x):∀{q R acc:List Int},q.Nodup->(∀t∈q,t∈vf x)->(q.Pairwise λa b=>a∉Bb x b (vB x b)) ->
  ∃d,(q.foldl (BI x) (R,acc)).2=acc++d/\d.Nodup/\(∀k∈d,∃t∈q,vB x t=k)/\∀t∈q,xor (decide<|t∈R) (Sf (vR x) t d)=false:=by
 intro q
 induction q with
 | nil=>exact λ_ _ _=>⟨[],(jN _).symm,lK,(λk z=>by cases z),λt z=>by cases z⟩
 | cons t q D =>
  intro R acc g E m;have g:=List.nodup_cons.mp g;have m:=List.pairwise_cons.mp m;have n:=E t gc;have f:∀s∈q,s∈vf x:=λs d=>E s<|gg _ d;have G:=(l.ht t _<|vQ n).2.2.1;have H:=(l.Va<|l.FH n).ri
  have F:∀{d:List Int},(∀k∈d,∃s∈q,vB x s=k)->Sf (vR x) t d=false:=λ{d} h=>by
   induction d with
   | nil=>rfl
   | cons k d r =>
    show xor (decide<|t∈vR x k) (Sf (vR x) t d)=false;rw[r λj I=>h j<|gg _ I,mQ];obtain⟨s,c,e⟩:=h k gc;refine gI λz=>m.1 s c<|wp.mpr ⟨by rw[e];exact z,λw=>g.1 (by rw[w];exact c),n⟩
  by_cases o:t∈R
  ·have u:BI x (R,acc) t=(xr R<|vR x<|vB x t,acc++[vB x t]):=f7 o;rw[lp,u];obtain⟨d,v,y,i,A⟩:=D (R:=xr R<|vR x<|vB x t) (acc:=acc++[vB x t]) g.2 f m.2;refine⟨vB x t::d,by rw[v,kC];rfl,List.nodup_cons.mpr ⟨λz=>?_,y⟩,λk B=>?_,λs c=>?_⟩
   ·obtain⟨s,c,e⟩:=i _ z;have J:=(l.ht t _<|vQ n).2.2.2;have p:=(l.ht s _<|vQ<|f s c).2.2.2;rw[e,J] at p;injection p with p;exact g.1 (by rw[p];exact c)
   ·rcases List.mem_cons.mp B with z|z
    ·exact⟨t,gc,z.symm⟩
    ·obtain⟨s,c,e⟩:=i k z;exact⟨s,gg _ c,e⟩
   ·show xor (decide<|s∈R) (xor (decide<|s∈vR x (vB x t))<|Sf (vR x) s d)=false;rcases List.mem_cons.mp c with z|z
    ·rw[z,F i,decide_eq_true o,decide_eq_true G];rfl
    ·have:=A s z;rw[Qw H,lN] at this;exact this
  ·have u:BI x (R,acc) t=(R,acc):=f8 o;rw[lp,u];obtain⟨d,v,y,i,A⟩:=D (R:=R) (acc:=acc) g.2 f m.2;refine⟨d,v,y,λk B=>?_,λs c=>?_⟩
   ·obtain⟨s,c,e⟩:=i k B;exact⟨s,gg _ c,e⟩
   ·rcases List.mem_cons.mp c with z|z
    ·rw[z,F i,gI o];rfl
    ·exact A s z
theorem WR(b:Af x)(a:Ord x o):Fl x row (Av (o.foldl (BI x) (row,[])).2):=by
 obtain⟨c,g,h,i,j⟩:=T0 b (q:=o) (R:=row) (acc:=[]) (a.pm.nodup_iff.mpr b.nd) (λt d=>a.pm.mem_iff.mp d) a.up;rw[g,mo]
 have f:∀k∈Av c,∃t∈vf x,vB x t=k:=λk l=>by obtain⟨t,m,e⟩:=i k<|xq.mp l;exact⟨t,a.pm.mem_iff.mp m,e⟩
 refine⟨Pb (AR _)<|(vI c).nodup_iff.mpr h,f,λt d=>of_decide_eq_false ?_,o,a⟩;rw[Qw<|v8 _ _,wy<|Vb b f,FZ<|vI c];exact j t<|a.pm.mem_iff.mpr d
end
def w_up(C:cr):Wf (B0 C×List Int×Unit) (OL Int) (B0 C×WL.Un×Unit):=λp a _ =>
 (Af p.1/\NE p.2.1/\vF p.1 p.2.1=true/\(∀c∈p.2.1,wn p.1 c=false)/\vF p.1 (u4 (vR p.1) p.2.1)=true/\∀c,(lk p.1.rk c).isSome=true->0<=c/\c<63)/\∀h,Fl p.1 (u4 (vR p.1) p.2.1) h->a ⟨xr p.2.1 h⟩ (p.1,⟨⟩,())
section
variable{q:Cq}{C XC XS XO XB XP XV WJ XF XT XN XR XL:cr}
abbrev GG:gP:=top 18
abbrev GH:List Str:=["one","other"]
theorem Qx:um ["one","other"] GH (ue GG):=by walk_at "sc"
abbrev LQ(q:Cq)(k:Nat):=wC q "added" GH LP k
theorem Qy(F:DB q "added" GG f e)(a:wC q "must_be_sum" ["row"] (CK XS) 2)(B:Bn q.mg):Gq q 3 f e GH LP:=by
 refine' ur (vS (D':=Unit) (ms:=[]) (j:=0) F Qx rfl rfl λg A b s H E k =>
   (uu (uX (uw (uz a (uj (ss 0) uf))))
   (uu (uX (uw (uz a (uj (ss 1) uf))))
   (ug (uD (Ti 0 1 rfl rfl B.sorted rfl B.set (pv 0) (pv 1))))))) λp l m h=>?_
 walk_at "wl"
 obtain⟨c,d,i⟩:=h;exact Iv c.ri<|Iv d.ri ⟨⟨c.ri,d.ri,xO 0 63,by rw[vX];decide,c.mem,d.mem⟩,i⟩
abbrev DR:gP:=top 21
abbrev DS:List Str:=["field","row"]
theorem xz:um ["field","row","rest","heads","tail","head"] DS (ue DR):=by walk_at "sc"
abbrev Qz(q:Cq)(C XS XC:cr)(k:Nat):=wC q "filled" DS (Iw C XS XC) k
theorem Nf(F:DB q "filled" DR f Q)(ct:Aw q.K C)(g:LQ q 4)(a:xU q C XS XC 4)(i:TX q C 4)(c:Nc q C XC 4)(d:Qf q C XC 4)(B:Bn q.mg):Gq q 5 f Q DS (Iw C XS XC):=by
 refine' ur (vS (D':=Unit) (ms:=[0]) (j:=4) F xz rfl rfl λR A y s H E hr =>
   (uu (uX (uw (vz 0 a (uj (ss 1) uf))))
   (uu (uv 2 xz.nd (FJ rfl B.list (vg (ss 1))))
   (uu (uv 3 xz.nd (uy (α:=Int) ux))
   (uu (vT (is:=[]) (mb:=[0]) (D1:=(Bd C true)×(List Int)×(OL Int)×(OL Int)×Int×Un×Unit) (D2:=(Bd C true)×(List Int)×(OL Int)×(OL Int)×Int×Un×Unit) (uI q0q) ya rfl (vv (uG (HV 0 i))) (uF 4 (ut xz.nd))
   (ug (uS (tw_cmI U0 (ss 4) (vt 2) (by with_unfolding_all rfl))
   (Lf (D':=(Bd C true)×(List Int)×(OL Int)×(OL Int)×Int×Un×Unit) (uu (uv 5 xz.nd (vz 0 c (uj (ss 4) uf)))
   (uu (vJ 3 (zi (ss 5)))
   (ug (uv 2 xz.nd (uz g (uA 2 (uj (uG (vz 0 d (uj (zi (ss 5)) uf))) uf))))))))
   uH)) q0q q0q)
   (ug (uD (BB rfl B.sorted (vt 3))))))))) λp Kn L h=>?_
 walk_at "wl"
 obtain⟨n,M,h⟩:=h;show if asc p.2.1=true then (if vF p.1 p.2.1=true then _ else L XC (p.1,⟨⟩,())) else L XS (p.1,⟨⟩,());rw[f7<|(xt p.2.1).mpr M.ri];by_cases N:vF p.1 p.2.1=true
 ·rw[f7 N] at h ⊢;refine⟨n,λo z=>?_⟩
  have S:o.length<=63:=by rw[z.pm.length_eq];have e:(vf p.1).length=p.1.ht.length:=gh _;have:=n.len;lia
  refine uZ (λ(r:List Int)(b:B0 C×List Int×OL Int×OL Int×WL.Un×WL.Un×Unit)=>b.1=p.1/\NE b.2.2.1.l/\(∀t∈r,t∈vf p.1)/\b.2.2.2.1.l.length+r.length<=63/\r.foldl (BI p.1) (b.2.2.1.l,b.2.2.2.1.l)=o.foldl (BI p.1) (p.2.1,[])) _ ⟨rfl,M,λt D=>z.pm.mem_iff.mp D,by simpa using S,rfl⟩ ?_ ?_
  ·intro t r;refine Yu λT U O v W X Y=>?_;rintro _ ⟨rfl,w,G,I,m⟩ K P;have x:=G t gc;have u:∀t∈r,t∈vf p.1:=λt D=>G t<|gg _ D;rw[gG] at I;rw[lp] at m;unfold BI at m;by_cases q:t∈O.l
   ·rw[f7<|decide_eq_true q];rw[f7 q] at m;have J:=n.FH x;have Z:(lk p.1.rk t).isSome=true:=(n.ht t _<|vQ x).1;have sl:gf=16777216:=iu;show if (lk p.1.rk t).isSome=true then _ else _;rw[f7 Z];refine⟨_,vQ x,by show v.l.length<gf;lia,_,vQ x,n.ok,?_⟩;rw[f7 J];refine⟨w,n.Va J,P _ ⟨rfl,w.xr<|n.Va J,u,?_,m⟩⟩;rw[gw,gF];lia
   ·rw[f8<|by simpa using q];rw[f8 q] at m;exact P _ ⟨rfl,w,u,by show v.l.length+r.length<=63;lia,m⟩
  ·refine Yu λT U O v W X Y=>?_;rintro⟨rfl,w,G,I,m⟩;have k:=h o z;rw[<- m] at k;exact⟨by show v.l.length<64;simp at I;lia,k⟩
 ·rw[f8 N] at h ⊢;exact h
abbrev WT:gP:=top 22
abbrev WU:List Str:=["field","row"]
theorem Y6:um ["field","row"] WU (ue WT):=by walk_at "sc"
abbrev a01(q:Cq)(C:cr)(k:Nat):=wC q "up" WU (w_up C) k
theorem Y7(F:DB q "up" WT f D)(P:Aw q.K C)(l:LQ q 6)(i:Qz q C XS XC 6)(b:xU q C XS XC 6)(a:DO q C 6)(g:B7 q C XS XC 6):Gq q 7 f D WU (w_up C):=by
 refine' ur (vS (D':=Unit) (ms:=[0]) (j:=0) F Y6 rfl rfl λG A r s H E w =>
   (uu (uX (uw (vz 0 b (uj (ss 1) uf))))
   (uu (uX (uw (vz 0 a (uj (ss 1) uf))))
   (ug (uD (uz l (uj (ss 1) (uj (uG (uz i (uP 0 (uj (uG (vz 0 g (uj (ss 1) uf))) uf)))) uf)))))))) λp Q x h=>?_
 walk_at "wl"
 obtain⟨⟨n,y,u,I,J,w⟩,L⟩:=h;have z:asc p.2.1=true:=(xt p.2.1).mpr y.ri;show if asc p.2.1=true then (if vF p.1 p.2.1=true then _ else x XC (p.1,⟨⟩,())) else x XS (p.1,⟨⟩,());rw[f7 z,f7 u];refine⟨I,n.ok,?_⟩;rw[f7 z,f7 u];have B:∀c∈p.2.1,(lk p.1.rk c).isSome=true:=λc M=>List.all_eq_true.mp u c M;refine⟨n,⟨v8 _ _,λd N=>?_⟩,?_⟩
 ·obtain⟨c,m,q⟩:=zp (λc m=>uq (n.Va<|B c m).ri) N;exact(n.Va<|B c m).lt d q
 ·show if vF p.1 (u4 (vR p.1) p.2.1)=true then _ else _;rw[f7 J];intro o O;have f:=WR n (row:=u4 (vR p.1) p.2.1) O;refine⟨y,⟨f.ri,λk v=>?_⟩,L _ f⟩;obtain⟨t,m,e⟩:=f.hs k v;rw[<- e];exact w _<|n.FH m
end
abbrev J3:gP:=top 32
abbrev xJ:=U1
abbrev RW:=Option<|Int×List Int
def rowAt(a:List RW)(k:Int):RW:=if 0<=k then (a[k.toNat]?).join else none
def eb(a:List RW)(k:Int):List Int:=((rowAt a k).map (·.2)).getD []
structure Vr(rows:List RW):Prop where
 ok:∀k r e,rowAt rows k=some (r,e)->0<=r/\r<=12/\wl e/\(∀c∈e,c<k/\∃e',rowAt rows c=some (r-1,e'))/\u4 (eb rows) e=[]
 ln:rows.length<=60
 sm:∀k r e,rowAt rows k=some (r,e)->∀c∈e,c<35
def Lp(a:List RW)(q:Int×List Int):Prop:=wl q.2/\(∀c∈q.2,∃e,rowAt a c=some (q.1,e))/\u4 (eb a) q.2=[]
def Cb(a:List RW):List Int:=(xO 0 a.length).filter λk=>(rowAt a k).isSome
def Bj:List RW:=[some (0,[]),some (0,[]),some (0,[]),some (0,[]),some (1,[0,1]),some (1,[0,2]),some (1,[0,3]),some (1,[1,2]),some (1,[1,3]),some (1,[2,3]),some (2,[4,5,7]),some (2,[4,6,8]),some (2,[5,6,9]),some (2,[7,8,9]),some (3,[10,11,12,13])]
def GI:Wf (Bg×Unit) Int (Bg×Unit):=λp a _=>∀r,0<=r->r<=12->a r (⟨⟩,())
def GJ:Wf (List Int×List Int×Unit) (OL Int) (WL.Un×WL.Un×Unit):=λp a _=>(p.1.length<=1000/\p.2.1.length<=1000/\(p.1.filter λk=>!decide (k∈p.2.1)).length+(p.2.1.filter λk=>!decide (k∈p.1)).length<64)/\a ⟨jn p.1 p.2.1⟩ (⟨⟩,⟨⟩,())
def J4:Wf (List RW×Unit) (OL Int) (WL.Un×Unit):=λp a _=>p.1.length<1000/\a ⟨Cb p.1⟩ (⟨⟩,())
def J5:Wf (Bg×List Int×Unit) (OL Int) (Bg×WL.Un×Unit):=λp a _=>p.2.1.length<60/\∀l,wl l->(∀x∈l,x∈p.2.1)->a ⟨l⟩ (⟨⟩,⟨⟩,())
def J7:Wf (List RW×List Int×Unit) (OL Int) (WL.Un×WL.Un×Unit):=λp a _=>Vr p.1/\(∀c∈p.2.1,(rowAt p.1 c).isSome=true)/\a ⟨u4 (eb p.1) p.2.1⟩ (⟨⟩,⟨⟩,())
def LR:Wf (Int×Unit) Bool (WL.Un×Unit):=λp a _=>a true (⟨⟩,())
def QA:Wf (List Int×Unit) Bool (WL.Un×Unit):=λp a _=>a true (⟨⟩,())
def LS:Wf (Int×Unit) (OL RW) (WL.Un×Unit):=λp a _=>0<=p.1/\a ⟨Bj.take p.1.toNat⟩ (⟨⟩,())
def zU:Wf (OL RW×OL (Int×List Int)×Int×Bg×Unit) (OL Int) (OL RW×OL (Int×List Int)×WL.Un×Bg×Unit):=λp a _ =>
 Vr p.1.l/\p.1.l.length<=34/\p.2.1.l.length<=100/\(∀q∈p.2.1.l,Lp p.1.l q)/\0<=p.2.2.1/\p.2.2.1<=12 /\
 ∀e q,Vr (p.1.l++[some (p.2.2.1,e)])->(∀u∈p.2.1.l++q,Lp (p.1.l++[some (p.2.2.1,e)]) u)->q.length<=1->a ⟨e⟩ (p.1,⟨p.2.1.l++q⟩,⟨⟩,⟨⟩,())
def QB:Wf (Bg×Int×Unit) (OL RW) (Bg×WL.Un×Unit):=λp b _=>(0<=p.2.1/\p.2.1<=20)/\∀a,Vr a->a.length<=35->b ⟨a⟩ (⟨⟩,⟨⟩,())
structure yc{C:cr}(x:B0 C)(rows:List RW):Prop where
 up:x.up=rows.length
 rk:∀k,lk x.rk k=(rowAt rows k).map (·.1)
 bd:∀k,lk x.bd k=(rowAt rows k).map (·.2)
 ks:x.rk.map (·.1)=Cb rows
 lb:x.bd.length<=rows.length
def QC(C:cr):Wf (B0 C×List RW×Unit) (B0 C) (WL.Un×WL.Un×Unit):=λp a _=>p.1=⟨[],[],0,[],[]⟩/\Vr p.2.1/\∀x:B0 C,yc x p.2.1->x.ht=[]->x.th=[]->a x (⟨⟩,⟨⟩,())
theorem xL{b:Type}{l:List b}{i:Int}(c:0<=i)(d:i<(l.length:Int)):∃x,Ef l i=some x/\l[i.toNat]?=some x/\x∈l:=by
 have a:i.toNat<l.length:=by lia
 have e:l[i.toNat]?=some l[i.toNat]:=iP a;have:=K3 e;rw[show ((i.toNat:Nat):Int)=i by lia] at this;exact⟨_,this,e,tW a⟩
theorem LU{n k:Int}(h:k∈xO 0 n):0<=k/\k<n:=by
 unfold xO at h;obtain⟨i,a,e⟩:=List.mem_map.mp h;have:=List.mem_range.mp a
 lia
theorem uC{k:Int}(h:rowAt rows k=some y):0<=k/\k<(rows.length:Int)/\rows[k.toNat]?=some (some y)/\Ef rows k=some (some y):=by
 unfold rowAt at h;by_cases a:0<=k
 ·rw[f7 a] at h
  cases e:rows[k.toNat]? with
  | none=>rw[e] at h;cases h
  | some z =>
   rw[e] at h;have h:z=some y:=h;subst h;have f:=(List.getElem?_eq_some_iff.mp e).1;have b:k<(rows.length:Int):=by omega
   obtain⟨x,d,c,_⟩:=xL a b;rw[e] at c;cases c;exact⟨a,b,rfl,d⟩
 ·rw[f8 a] at h;cases h
theorem DT{k:Int}(a:0<=k)(e:rows[k.toNat]?=some z):rowAt rows k=z:=by unfold rowAt;rw[f7 a,e];rfl
theorem Vr.Ng(v:Vr rows){k:Int}(h:rowAt rows k=some y):wl y.2/\∀x∈y.2,x∈xO 0 35:=by obtain⟨_,_,b,c,_⟩:=v.ok k y.1 y.2 h;refine⟨b,λx a=>?_⟩;obtain⟨_,f,d⟩:=c x a;obtain⟨e,g,_⟩:=uC d;exact yK e<|v.sm k y.1 y.2 h x a
theorem xM{k:Int}(h:rowAt rows k=some y):eb rows k=y.2:=by unfold eb;rw[h];rfl
theorem WV(a:List b){n:Int}(h:0<=n):El a none (some n)=a.take n.toNat:=by unfold El;rw[show (some n)=some ((n.toNat:Nat):Int) by rw[show ((n.toNat:Nat):Int)=n by lia],HT.KS,HT.Hw];simp
theorem vU{n:Int}(a:0<n)(b:n<1073741824)(h:∀r,0<=r->r<n->c r (⟨⟩,⟨⟩,())):xJ (g,n,()) c d:=⟨a,b,h⟩
theorem vj:rowAt (rows++[z]) (rows.length:Int)=z:=by refine DT q0a ?_;rw[kE,jk<|ga _,pW];rfl
theorem vC{a:List RW}{k:Int}(h:k≠(a.length:Int)):rowAt (a++[z]) k=rowAt a k:=by
 unfold rowAt;by_cases b:0<=k
 ·rw[f7 b,f7 b];by_cases c:k.toNat<a.length
  ·rw[kS c]
  ·rw[jJ (by rw[gw,gF];lia),jJ q0a]
 ·rw[f8 b,f8 b]
theorem GK{a:List RW}{k:Int}(h:k≠(a.length:Int)):eb (a++[z]) k=eb a k:=by unfold eb;rw[vC h]
theorem w8{k:Int}(h:rowAt rows k=some y):k≠(rows.length:Int):=λz=>by
 have:=(uC h).2.1
 lia
theorem GL(v:Vr rows)(p:rows.length<=35)(m:∀r e,z=some (r,e)->0<=r/\r<=12/\wl e/\(∀c∈e,∃g,rowAt rows c=some (r-1,g))/\u4 (eb rows) e=[]):Vr (rows++[z]):=by
 refine⟨λk r e h=>?_,by rw[gw,gF];lia,λk r e h c n=>?_⟩
 rotate_left
 ·by_cases q:k=(rows.length:Int)
  ·rw[q,vj] at h;obtain⟨g,i⟩:=(m r e h).2.2.2.1 c n;have:=(uC i).2.1
   lia
  ·rw[vC q] at h;exact v.sm k r e h c n
 have j:∀{k r e},0<=r/\r<=12/\wl e/\(∀c∈e,c<k/\∃g,rowAt rows c=some (r-1,g))/\u4 (eb rows) e=[]->0<=r/\r<=12/\wl e/\(∀c∈e,c<k/\∃g,rowAt (rows++[z]) c=some (r-1,g))/\u4 (eb<|rows++[z]) e=[]:=λ{k r e} ⟨a,b,c,d,f⟩=>by
  refine⟨a,b,c,λx l=>?_,?_⟩
  ·obtain⟨o,g,i⟩:=d x l;exact⟨o,g,by rw[vC<|w8 i];exact i⟩
  ·rw[<- f];refine vO λx l=>?_;obtain⟨_,g,i⟩:=d x l;exact GK<|w8 i
 by_cases q:k=(rows.length:Int)
 ·rw[q,vj] at h;obtain⟨a,b,c,d,f⟩:=m r e h;refine j ⟨a,b,c,λx l=>?_,f⟩;obtain⟨g,i⟩:=d x l;exact⟨by have:=(uC i).2.1;lia,g,i⟩
 ·rw[vC q] at h;exact j<|v.ok k r e h
theorem DU(h:Lp rows u):Lp (rows++[z]) u:=by
 obtain⟨a,b,c⟩:=h;refine⟨a,λx d=>?_,?_⟩
 ·obtain⟨e,q⟩:=b x d;exact⟨e,by rw[vC<|w8 q];exact q⟩
 ·rw[<- c];refine vO λx d=>?_;obtain⟨e,q⟩:=b x d;exact GK<|w8 q
theorem QD{r:Int}:Lp (rows++[some (r,[])]) (r,[(rows.length:Int)]):=by
 refine⟨je _ _,λx a=>⟨[],?_⟩,?_⟩
 ·rw[List.mem_singleton.mp a,vj]
 ·show xr [] (eb (rows++[some (r,[])]) (rows.length:Int))=[];rw[xM (y:=(r,[])) vj];rfl
theorem T1(h:wl e):xr e e=[]:=CA (xE h) gR λk=>by rw[yb<|uq h];by_cases q:k∈e<;>simp[q]
theorem Nh{c:Int}:u4 f (l++[c])=xr (u4 f l) (f c):=by unfold u4 NB;rw[jw,List.foldl_append];rfl
theorem Ni{r:Int}(v:Vr rows)(p:wl l)(h:∀c∈l,∃e,rowAt rows c=some (r,e)) :
  (∀c∈u4 (eb rows) l,∃n,rowAt rows c=some (r-1,n))/\u4 (eb rows) (u4 (eb rows) l)=[]/\Lp (rows++[some (r,u4 (eb rows) l)]) (r,l++[(rows.length:Int)]):=by
 have m:∀c∈l,wl (eb rows c)/\(∀d∈eb rows c,∃n,rowAt rows d=some (r-1,n))/\u4 (eb rows) (eb rows c)=[]:=λc i=>by obtain⟨e,j⟩:=h c i;obtain⟨_,_,a,b,f⟩:=v.ok c r e j;rw[xM j];exact⟨a,λd k=>(b d k).2,f⟩
 have s:∀{d q},rowAt rows d=some q->(eb rows d).Nodup:=λ{d q} k=>by rw[xM k];exact uq (v.Ng k).1
 refine⟨λc i=>?_,MU λc i=>⟨(m c i).1,λd k=>?_,(m c i).2.2⟩,?_,λx o=>?_,?_⟩
 ·obtain⟨d,k,o⟩:=zp (λc i=>uq (m c i).1) i;exact(m d k).2.1 c o
 ·obtain⟨n,q⟩:=(m c i).2.1 d k;exact s q
 ·refine List.pairwise_append.mpr ⟨p,je _ _,λa t b u=>?_⟩;obtain⟨e,j⟩:=h a t;rw[List.mem_singleton.mp u];exact(uC j).2.1
 ·rcases List.mem_append.mp o with z|z
  ·obtain⟨e,j⟩:=h x z;exact⟨e,by rw[vC<|w8 j];exact j⟩
  ·rw[List.mem_singleton.mp z];exact⟨_,vj⟩
 ·show u4 _ (l++[(rows.length:Int)])=[];rw[Nh,xM (y:=(r,u4 (eb rows) l)) vj,vO (g:=eb rows) λc i=>?_]
  ·exact T1<|v8 _ _
  ·obtain⟨e,j⟩:=h c i;exact GK<|w8 j
theorem Lp.sub{a:List RW}(c:a.length<=35)(h:Lp a u):∀x∈u.2,x∈xO 0 35:=λx b=>by obtain⟨e,q⟩:=h.2.1 x b;have:=uC q;exact yK q0a q0a
theorem xY{k:Int}:k∈Cb rows↔(rowAt rows k).isSome=true:=by unfold Cb;rw[iE];refine⟨λh=>h.2,λh=>⟨?_,h⟩⟩;obtain⟨y,a⟩:=Option.isSome_iff_exists.mp h;have:=uC a;exact yK this.1 this.2.1
theorem wT(a:List RW):(Cb a).length<=a.length:=by
 have:=gQ (λk=>(rowAt a k).isSome)<|xO 0 a.length;rw[vX] at this;unfold Cb
 lia
theorem LV(c:List RW):wl (Cb c):=by
 refine i8 _ ?_;unfold xO;rw[List.pairwise_map];refine oj ?_<|rL;intro a b h
 lia
theorem QE(n:Nat):xO 0 ((n+1:Nat):Int)=xO 0 (n:Int)++[(n:Int)]:=by unfold xO;rw[show (((n+1:Nat):Int)-0).toNat=n+1 by lia,show ((n:Int)-0).toNat=n by lia,List.range_succ,jw];simp
theorem T2:Cb (rows++[z])=Cb rows++if z.isSome=true then [(rows.length:Int)] else []:=by
 unfold Cb;rw[gw,gF,QE,List.filter_append];congr 1
 ·refine ng λk a=>?_;rw[vC (by have:=LU a;lia)]
 ·rw[iO,vj];rfl
theorem QF:Cb (rows++[some y])=Cb rows++[(rows.length:Int)]:=T2
theorem Fb{a:List RW}{k:Int}(h:(a.length:Int)<=k):rowAt a k=none:=by
 cases e:rowAt a k with
 | none=>rfl
 | some y=>have:=(uC e).2.1;omega
theorem BP{a:List RW}{j k:Int}(c:0<=j):rowAt (a.set j.toNat none) k=if k=j then none else rowAt a k:=by
 by_cases q:k=j
 ·rw[f7 q,q];unfold rowAt;rw[f7 c];by_cases d:j.toNat<a.length
  ·rw[nZ d];rfl
  ·rw[jJ<|by rw[lm];lia];rfl
 ·rw[f8 q];unfold rowAt;by_cases b:0<=k
  ·rw[f7 b,f7 b,mi q0a]
  ·rw[f8 b,f8 b]
theorem QG{a:List RW}{j:Int}(b:0<=j):Cb (a.set j.toNat none)=(Cb a).filter λk=>!decide (k=j):=by unfold Cb;rw[lm,List.filter_filter];refine ng λk _=>?_;rw[BP b];by_cases q:k=j<;>simp[q]
section
variable{C XC XS XO XB XP XV:cr}{x:B0 C}{rows:List RW}
theorem yc.lr(c:yc x rows):x.rk.length<=rows.length:=by have:=congrArg m7 c.ks;rw[gh] at this;rw[this];exact wT rows
theorem yc.okb(c:yc x rows)(v:Vr rows):P8 x:=by
 have l:=v.ln;have g:=c.lr;have i:=c.lb;refine⟨λk h=>?_,λk b h=>?_,by rw[c.ks];exact(LV rows).imp Int.le_of_lt,q0a,q0a⟩
 ·rw[c.rk,hV] at h;rw[c.bd,hV];exact h
 ·rw[c.bd] at h
  cases e:rowAt rows k with
  | none=>rw[e] at h;cases h
  | some y =>
   rw[e] at h;cases h;obtain⟨_,_,a,b,_⟩:=v.ok k y.1 y.2 e;refine⟨a,λd f=>?_⟩;obtain⟨j,q⟩:=(b d f).2;have:=uC q;exact⟨this.1,by have:=v.sm k y.1 y.2 e d f;lia⟩
theorem yc.vR(c:yc x rows)(k:Int):vR x k=eb rows k:=by unfold K7.vR eb;rw[c.bd]
theorem yc.put(c:yc x rows){r:Int}:yc ({ x with rk:=pk x.rk x.up r,bd:=pk x.bd x.up e,up:=x.up+1}:B0 C) (rows++[some (r,e)]):=by
 have n:rowAt rows x.up=none:=Fb (by rw[c.up];exact nw _);have a:lk x.rk x.up=none:=by rw[c.rk,n];rfl
 have b:lk x.bd x.up=none:=by rw[c.bd,n];rfl
 have d:=c.lr;have f:=c.lb;refine⟨?_,λk=>?_,λk=>?_,?_,?_⟩
 ·show x.up+1=_;rw[c.up,gw,gF]
  lia
 ·show lk (pk x.rk x.up r) k=_;rw[yO a,JV a];by_cases q:k=x.up
  ·rw[f7 q,q,c.up,vj];rfl
  ·rw[f8 q,vC (by rw[<- c.up];exact q),c.rk]
 ·show lk (pk x.bd x.up e) k=_;rw[yO b,JV b];by_cases q:k=x.up
  ·rw[f7 q,q,c.up,vj];rfl
  ·rw[f8 q,vC (by rw[<- c.up];exact q),c.bd]
 ·show (pk x.rk x.up r).map (·.1)=_;rw[yO a,jw,c.ks,QF,<- c.up];rfl
 ·show (pk x.bd x.up e).length<=_;rw[yO b,gw,gw,gF,gF]
  lia
theorem yc.take(c:yc x rows){j:Int}(a:0<=j):yc ({ x with rk:=dk x.rk j,bd:=dk x.bd j}:B0 C) (rows.set j.toNat none):=by
 have d:=c.lr;have b:=c.lb;refine⟨by rw[lm];exact c.up,λk=>?_,λk=>?_,?_,?_⟩
 ·show lk (dk x.rk j) k=_;rw[Bc,BP a,c.rk];split<;>rfl
 ·show lk (dk x.bd j) k=_;rw[Bc,BP a,c.bd];split<;>rfl
 ·show (dk x.rk j).map (·.1)=_;rw[QG a,<- c.ks];unfold dk;rw[qq];congr 1;refine ng λe _=>?_;by_cases q:e.1=j<;>simp[q]
 ·rw[lm];exact gO (gQ _ _) b
theorem yc.vF(c:yc x rows)(h:∀k∈row,(rowAt rows k).isSome=true):vF x row=true:=List.all_eq_true.mpr λk a=>by rw[c.rk,hV];exact h k a
theorem QH{r:Int}(c:yc x rows)(v:Vr rows)(l:0<=r)(m:r<=12)(i:wl e)(g:∀d∈e,∃b,rowAt rows d=some (r-1,b))(j:u4 (eb rows) e=[])
 (k:∀a:B0 C,yc a (rows++[some (r,e)])->a.ht=x.ht->a.th=x.th->h x.up (a,⟨⟩,⟨⟩,())):Il C XB XS XC XO XP (x,r,e,()) h o:=by
  have n:rowAt rows x.up=none:=Fb (by rw[c.up];exact nw _)
  refine⟨c.okb v,(by show lk x.bd x.up=none;rw[c.bd,n];rfl),?_⟩
  show if r<0\/12<r then _ else if asc e=true then (if K7.vF x e=true then (if TH x e (r-1)=true then (if NB (e.map<|K7.vR x)=[] then h x.up _ else _) else _) else _) else _
  rw[f8 q0a,f7<|(xt e).mpr i,f7 (c.vF λd f=>by obtain⟨b,q⟩:=g d f;rw[q];rfl),f7,f7]
  · exact k _ c.put rfl rfl
  · rw[mw λd _ => c.vR d]
    exact j
  · refine List.all_eq_true.mpr λd f => decide_eq_true ?_
    obtain⟨b,q⟩:=g d f
    rw[c.rk,q]
    rfl
theorem LW(c:yc x rows){j h:Int}:h∈WI x j↔(rowAt rows h).isSome=true/\j∈eb rows h:=by
 unfold WI;rw[iE,hJ,c.vR];constructor
 ·rintro⟨a,b⟩;have:=wK a;rw[c.rk,hV] at this;exact⟨this,b⟩
 ·rintro⟨a,b⟩;exact⟨yL (by rw[c.rk,hV];exact a),b⟩
theorem T4(c:yc x rows){j:Int}:WI x j=[]↔∀h,j∉eb rows h:=by
 rw[List.eq_nil_iff_forall_not_mem];constructor
 ·intro z h a;refine z h ((LW c).mpr ⟨?_,a⟩)
  cases e:rowAt rows h with
  | none=>unfold eb at a;rw[e] at a;cases a
  | some y=>rfl
 ·intro z h a;exact z h ((LW c).mp a).2
theorem T5{j:Int}(c:yc x rows)(v:Vr rows)(b:(rowAt rows j).isSome=true)(e:∀h,j∉eb rows h)(f:wn x j=false)
 (k:∀a:B0 C,yc a (rows.set j.toNat none)->a.ht=x.ht->a.th=x.th->d () (a,⟨⟩,())):GF C XC XV (x,j,()) d i:=by
  refine⟨f,c.okb v,?_⟩
  show if (lk x.rk j).isSome=true then (if WI x j=[] then d () _ else _) else _
  rw[f7 (by rw[c.rk,hV];exact b),f7<|(T4 c).mpr e]
  obtain⟨y,g⟩:=Option.isSome_iff_exists.mp b
  exact k _ (c.take (uC g).1) rfl rfl
end
theorem wP{a:List RW}{n:Nat}{j:Int}:rowAt (a.take n) j=if j<(n:Int) then rowAt a j else none:=by
 unfold rowAt;by_cases b:0<=j
 ·rw[f7 b,f7 b,sS];by_cases c:j<(n:Int)
  ·rw[f7 c,f7 q0d]
  ·rw[f8 c,f8 q0d];rfl
 ·rw[f8 b,f8 b];split<;>rfl
theorem T6(v:Vr rows)(n:Nat):Vr (rows.take n):=by
 refine⟨λk r e h=>?_,gO (List.length_take_le' _ _) v.ln,λk r e h=>?_⟩
 rotate_left
 ·rw[wP] at h;split at h
  ·exact v.sm k r e h
  ·cases h
 rw[wP] at h;by_cases q:k<(n:Int)
 ·rw[f7 q] at h;obtain⟨a,b,c,d,f⟩:=v.ok k r e h;refine⟨a,b,c,λx g=>⟨(d x g).1,?_⟩,?_⟩
  ·obtain⟨l,i,j⟩:=d x g;exact⟨i,by rw[wP,f7 q0a];exact j⟩
  ·rw[<- f];refine vO λx g=>?_;have:=(d x g).1;unfold eb;rw[wP,f7 q0a]
 ·rw[f8 q] at h;cases h
def Y8(a:List RW)(u:Int×List Int):Bool:=asc u.2&&u.2.all (λc=>decide ((rowAt a c).map (·.1)=some u.1))&&decide (u4 (eb a) u.2=[])
theorem LX{c r:Int}(h:(rowAt rows c).map (·.1)=some r):∃e,rowAt rows c=some (r,e):=by
 cases e:rowAt rows c with
 | none=>rw[e] at h;cases h
 | some y=>rw[e] at h;cases h;exact⟨y.2,rfl⟩
theorem QI(h:Y8 rows u=true):Lp rows u:=by unfold Y8 at h;rw[g8,g8] at h;exact⟨(xt _).mp h.1.1,λc a=>LX<|jo<|List.all_eq_true.mp h.1.2 c a,jo h.2⟩
def VrB(rows:List RW):Bool:=decide (rows.length<=27)&&(gH rows.length).all λk=>match rowAt rows (k:Int) with
 | none=>true
 | some (r,e)=>decide (0<=r)&&decide (r<=12)&&asc e&&e.all (λc=>decide (c<(k:Int))&&decide ((rowAt rows c).map (·.1)=some (r-1)))&&decide (u4 (eb rows) e=[])
theorem QJ(h:VrB rows=true):Vr rows:=by
 unfold VrB at h;rw[g8] at h;have f:=jo h.1
 suffices g:∀k r e,rowAt rows k=some (r,e)->0<=r/\r<=12/\wl e/\(∀c∈e,c<k/\∃d,rowAt rows c=some (r-1,d))/\u4 (eb rows) e=[] from⟨g,q0d,λk r e a c b=>by
  have:=((g k r e a).2.2.2.1 c b).1;have:=uC a
  omega⟩
 intro k r e a;have q:=uC a;have z:=List.all_eq_true.mp h.2 k.toNat<|List.mem_range.mpr q0d;rw[show ((k.toNat:Nat):Int)=k by omega,a] at z;simp only[g8,hJ,nN] at z;exact⟨z.1.1.1.1,z.1.1.1.2,(xt _).mp z.1.1.2,λc b=>⟨(z.1.2 c b).1,LX (z.1.2 c b).2⟩,z.2⟩
def Xn(n:Nat):List (Int×List Int):=(xO 0 n).filterMap λk=>if decide (k<4)=true then some (0,[k]) else none
def lp1:List (Int×List Int):=[(1,[4,5,7]),(1,[4,6,8]),(1,[5,6,9])]
def chk(m:Nat):Bool:=VrB (Bj.take m)&&(Xn (Bj.take m).length).all (Y8<|Bj.take m)&&decide ((Xn (Bj.take m).length).length<=4)&&decide ((Bj.take m).length<=15)&&(decide ((Bj.take m).length<=9)||lp1.all (Y8<|Bj.take m))
theorem T7:(gH 16).all chk=true:=by decide +kernel
theorem J8(c:wl a)(d:wl b)(f:∀k∈a,k∈xO 0 35)(g:∀k∈b,k∈xO 0 35):a.length<=1000/\b.length<=1000/\(a.filter λk=>!decide (k∈b)).length+(b.filter λk=>!decide (k∈a)).length<64:=by
 have i:=vE c f;have j:=vE d g;have h:=SX.yi ((a.filter λk=>!decide (k∈b))++b.filter λk=>!decide (k∈a)) (xO 0 35) (List.nodup_append.mpr ⟨(uq c).filter _,(uq d).filter _,λx l y m e=>?_⟩) λk n=>?_
 ·rw[gw] at h;rw[vX] at i j h
  lia
 ·have q:=(List.mem_filter.mp l).2;rw[e] at q;simp[(List.mem_filter.mp m).1] at q
 ·rcases List.mem_append.mp n with z|z
  ·exact f k (List.mem_filter.mp z).1
  ·exact g k (List.mem_filter.mp z).1
theorem T8{a b:List Int}(h:a.length+b.length<64):a.length<=1000/\b.length<=1000/\(a.filter λk=>!decide (k∈b)).length+(b.filter λk=>!decide (k∈a)).length<64:=by
 have c:=gQ (λk=>!decide (k∈b)) a;have d:=gQ (λk=>!decide (k∈a)) b
 lia
theorem Y9(v:Vr rows)(n:rows.length<=59):Vr (rows++[some (0,[])]):=by
 refine⟨λk r e h=>?_,by rw[gw,gF];lia,λk r e h c j=>?_⟩
 ·by_cases q:k=(rows.length:Int)
  ·rw[q,vj] at h;cases h;exact⟨nw 0,q0q,gR,(λ_ z=>by cases z),rfl⟩
  ·rw[vC q] at h;obtain⟨a,b,c,d,f⟩:=v.ok k r e h;refine⟨a,b,c,λx i=>?_,?_⟩
   ·obtain⟨m,l,g⟩:=d x i;exact⟨m,l,by rw[vC<|w8 g];exact g⟩
   ·rw[<- f];refine vO λx i=>?_;obtain⟨_,l,g⟩:=d x i;exact GK<|w8 g
 ·by_cases q:k=(rows.length:Int)
  ·rw[q,vj] at h;cases h;cases j
  ·rw[vC q] at h;exact v.sm k r e h c j
theorem T9:yc (⟨[],[],0,[],[]⟩:B0 C) []:=by
 have n:∀k,rowAt [] k=none:=λk=>by unfold rowAt;split<;>rfl
 exact⟨rfl,(λk=>by rw[n];rfl),(λk=>by rw[n];rfl),rfl,ga _⟩
structure Arr{C:cr}(x:B0 C)(a:List (Int×Int)):Prop where
 ok:Af x
 nt:(x.th.map (·.1)).Nodup
 pm:(a.map (·.1)).Perm (vf x)
 hd:∀e∈a,vB x e.1=e.2
def QK(C:cr):Wf (B0 C×List RW×Bg×Int×Unit) (OL<|Int×Int) (B0 C×WL.Un×Bg×WL.Un×Unit):=λp b _ =>
 yc p.1 p.2.1/\Vr p.2.1/\p.2.1.length<=35/\p.1.ht=[]/\p.1.th=[]/\(0<=p.2.2.2.1/\p.2.2.2.1<=1000)/\∀x a,yc x p.2.1->Arr x a->b ⟨a⟩ (x,⟨⟩,⟨⟩,⟨⟩,())
def LY(C:cr):Wf (Bg×Int×Unit) (T3 (B0 C) (OL RW)<|OL<|Int×Int) (Bg×WL.Un×Unit):=λp c _ =>
 (0<=p.2.1/\p.2.1<=20)/\∀x b a,yc x b->Vr b->b.length<=35->Arr x a->c ⟨x,⟨b⟩,⟨a⟩⟩ (⟨⟩,⟨⟩,())
def GN:Wf (List (Int×Int)×Unit) (OL Int) (WL.Un×Unit):=λp a _=>p.1.length<64/\a ⟨Av (p.1.map (·.2))⟩ (⟨⟩,())
def Ry(b:List RW)(a:List (Int×Int)):List Int:=(Cb b).filter λk=>!decide (k∈a.map (·.1)++Av (a.map (·.2)))
def DV:Wf (List (Int×Int)×Unit) (OL Int) (WL.Un×Unit):=λp a _=>p.1.length<64/\a ⟨p.1.map (·.1)⟩ (⟨⟩,())
def J9:Wf (List RW×List (Int×Int)×Unit) (OL Int) (WL.Un×WL.Un×Unit):=λp a _=>p.1.length<1000/\p.2.1.length<64/\a ⟨Ry p.1 p.2.1⟩ (⟨⟩,⟨⟩,())
def w_sum:Wf (List Int×Unit) Bool (WL.Un×Unit):=λp a _=>wl p.1/\p.1.length<=1000/\a true (⟨⟩,())
def DW:Wf (List Int×List Int×Unit) (OL Int) (WL.Un×WL.Un×Unit):=λp a _=>p.1.length<=1000/\a ⟨p.1.filter λk=>decide<|k∈p.2.1⟩ (⟨⟩,⟨⟩,())
theorem WX(h:wl l){k:Int}(p:1<=k)(c:k<l.length):∃a b,Ef l (k-1)=some a/\Ef l k=some b/\a<b:=by obtain⟨a,d,e,_⟩:=xL (l:=l) (i:=k-1) q0a q0a;obtain⟨b,f,g,_⟩:=xL (l:=l) (i:=k) q0a c;obtain⟨j,m⟩:=List.getElem?_eq_some_iff.mp e;obtain⟨n,o⟩:=List.getElem?_eq_some_iff.mp g;refine⟨a,b,d,f,?_⟩;rw[<- m,<- o];exact(List.pairwise_iff_getElem.mp h) _ _ j n q0a
theorem WY(k:a true (⟨⟩,())):QA (l,()) a b:=k
theorem QL{n k:Int}(h:k∈xO 1 n):1<=k/\k<n:=by unfold xO at h;obtain⟨i,a,e⟩:=List.mem_map.mp h;have:=List.mem_range.mp a;omega
theorem wF:∀{l:List b} {i:Nat},l[i]?=some y->(y::l.eraseIdx i).Perm l
 | [],i,h=>by simp at h
 | a::l,0,h=>by
  have h:a=y:=by simpa using h
  rw[h];exact .refl _
 | a::l,i+1,h=>by rw[nJ];exact(List.Perm.swap a y _).trans<|(wF<|by simpa using h).cons a
theorem CM{a:Type}{l:List (Int×a)}{k:Int}:(dk l k).map (·.1)=(l.map (·.1)).filter λj=>decide (j≠k):=by unfold dk;rw[qq];rfl
section
variable{C:cr}{x:B0 C}{rows:List RW}{a:List (Int×Int)}
theorem Af.Za(b:Af x){l:Int}(n:l∈vf x):Af ({ x with ht:=dk x.ht l,th:=dk x.th (vB x l)}:B0 C):=by
 have o:∀{t:Int},t∈vf ({ x with ht:=dk x.ht l,th:=dk x.th (vB x l)}:B0 C)↔t∈vf x/\t≠l:=λ{t}=>by show t∈(dk x.ht l).map (·.1)↔_;rw[CM,iE,hJ];exact Iff.rfl
 refine⟨⟨b.ok.kb,b.ok.bo,b.ok.ri,b.ok.lr,b.ok.lb⟩,?_,?_,?_,λd f e=>?_,λd f e=>?_,λc h i=>?_,?_⟩
 ·show ((dk x.ht l).map (·.1)).Nodup;rw[CM];exact b.nd.filter _
 ·exact iY (gQ _ _) b.len
 ·exact iY (gQ _ _) b.Y4
 ·have e:lk (dk x.ht l) d=some f:=e;rw[Bc] at e;by_cases q:d=l
  ·rw[f7 q] at e;cases e
  ·rw[f8 q] at e;have g:=b.ht d f e;refine⟨g.1,g.2.1,g.2.2.1,?_⟩;show lk (dk x.th<|vB x l) f=some d;rw[Bc,f8 λz=>?_]
   ·exact g.2.2.2
   ·have:=(b.ht l _<|vQ n).2.2.2;rw[<- z,g.2.2.2] at this;injection this with this;exact q this
 ·have e:lk (dk x.th<|vB x l) f=some d:=e;rw[Bc] at e;by_cases q:f=vB x l
  ·rw[f7 q] at e;cases e
  ·rw[f8 q] at e;have g:=b.th d f e;show lk (dk x.ht l) d=some f;rw[Bc,f8 λz=>?_]
   ·exact g
   ·rw[z,vQ n] at g;injection g with g;exact q g.symm
 ·have h:(lk (dk x.ht l) c).isSome=true:=h;have i:(lk (dk x.th<|vB x l) c).isSome=true:=i;rw[Bc] at h i;refine b.one c ?_ ?_
  ·by_cases q:c=l
   ·rw[f7 q] at h;cases h
   ·rw[f8 q] at h;exact h
  ·by_cases q:c=vB x l
   ·rw[f7 q] at i;cases i
   ·rw[f8 q] at i;exact i
 ·obtain⟨r,p⟩:=b.acy;refine⟨r,λk m t j=>?_⟩;have m:=o.mp m
  have s:vB ({ x with ht:=dk x.ht l,th:=dk x.th (vB x l)}:B0 C) k=vB x k:=by unfold vB;show (lk (dk x.ht l) k).getD 0=_;rw[Bc,f8 m.2]
  rw[s] at j;have j:=wp.mp j;exact p k m.1 t<|wp.mpr ⟨j.1,j.2.1,(o.mp j.2.2).1⟩
theorem Af.Ec(d:Af x){low high:Int}(w:(lk x.rk low).isSome=true)(y:(lk x.rk high).isSome=true)(f:low∈vR x high)(A:wn x low=false)(B:wn x high=false)(D:low≠high)(ac:Xm (Ec x low high))(E:x.ht.length+1<64)(F:x.th.length+1<64):Af (Ec x low high):=by
 have p:=Bool.or_eq_false_iff.mp A;have r:=Bool.or_eq_false_iff.mp B;have o:lk x.ht low=none:=by simpa using p.1
 have G:lk x.th low=none:=by simpa using p.2
 have H:lk x.ht high=none:=by simpa using r.1
 have s:lk x.th high=none:=by simpa using r.2
 have t:(K7.Ec x low high).ht=x.ht++[(low,high)]:=yO o;have I:(K7.Ec x low high).th=x.th++[(high,low)]:=yO s;have j:∀k,lk (K7.Ec x low high).ht k=if k=low then some high else lk x.ht k:=λk=>xk;have l:∀k,lk (K7.Ec x low high).th k=if k=high then some low else lk x.th k:=λk=>xk;refine⟨⟨d.ok.kb,d.ok.bo,d.ok.ri,d.ok.lr,d.ok.lb⟩,?_,by rw[t];simpa using E,by rw[I];simpa using F,λm n e=>?_,λm n e=>?_,λc h i=>?_,ac⟩
 ·show ((K7.Ec x low high).ht.map (·.1)).Nodup;rw[t,jw];refine List.nodup_append.mpr ⟨d.nd,q0o,λa u b f z=>?_⟩;have f:b=low:=by simpa using f
  rw[z,f] at u;have:=wK u;rw[o] at this;cases this
 ·rw[j] at e;by_cases q:m=low
  ·rw[f7 q] at e;injection e with e;subst e;subst q;exact⟨w,y,f,by rw[l,f7 rfl]⟩
  ·rw[f8 q] at e;have g:=d.ht m n e;refine⟨g.1,g.2.1,g.2.2.1,?_⟩;rw[l,f8 λz=>?_]
   ·exact g.2.2.2
   ·rw[z,s] at g;cases g.2.2.2
 ·rw[l] at e;by_cases q:n=high
  ·rw[f7 q] at e;injection e with e;subst e;subst q;rw[j,f7 rfl]
  ·rw[f8 q] at e;have g:=d.th m n e;rw[j,f8 λz=>?_]
   ·exact g
   ·rw[z,o] at g;cases g
 ·rw[j] at h;rw[l] at i;by_cases q:c=low
  ·rw[f8 λz=>D<|q.symm.trans z,q,G] at i;cases i
  ·rw[f8 q] at h;by_cases v:c=high
   ·rw[v,H] at h;cases h
   ·rw[f8 v] at i;exact d.one c h i
theorem yc.same(c:yc x rows){y:B0 C}(b:y.rk=x.rk)(d:y.bd=x.bd)(e:y.up=x.up):yc y rows:=by obtain⟨f,g,h,i,j⟩:=c;exact⟨e.trans f,by rw[b];exact g,by rw[d];exact h,by rw[b];exact i,by rw[d];exact j⟩
theorem Arr.mem(A:Arr x a)(h:e∈a):e.1∈vf x:=A.pm.mem_iff.mp<|List.mem_map.mpr ⟨e,h,rfl⟩
theorem Arr.pop(A:Arr x a){i:Nat}(h:a[i]?=some y):Arr ({ x with ht:=dk x.ht y.1,th:=dk x.th (vB x y.1)}:B0 C) (a.eraseIdx i):=by
 have b:(y::a.eraseIdx i).Perm a:=wF h;have g:y∈a:=b.mem_iff.mp gc;have j:=A.mem g
 have d:(y.1::(a.eraseIdx i).map (·.1)).Perm (vf x):=by
  have:=(b.map (λe:Int×Int=>e.1)).trans A.pm
  rwa [gK] at this
 have c:=List.nodup_cons.mp<|d.nodup_iff.mpr A.ok.nd;refine⟨A.ok.Za j,?_,?_,λe f=>?_⟩
 ·show ((dk x.th<|vB x y.1).map (·.1)).Nodup;rw[CM];exact A.nt.filter _
 ·show ((a.eraseIdx i).map (·.1)).Perm ((dk x.ht y.1).map (·.1));rw[CM];refine vw c.2 (A.ok.nd.filter _) λk=>?_;rw[iE,hJ];have:=d.mem_iff (a:=k);rw[gL] at this;constructor
  ·exact λz=>⟨this.mp<|.inr z,λw=>c.1<|w▸z⟩
  ·exact λz=>(this.mpr z.1).elim (λw=>gy w z.2) id
 ·have l:e∈a:=b.mem_iff.mp<|gg _ f;have m:e.1≠y.1:=λz=>c.1<|z▸List.mem_map.mpr ⟨e,f,rfl⟩;show (lk (dk x.ht y.1) e.1).getD 0=e.2;rw[Bc,f8 m];exact A.hd e l
theorem Arr.Ua(A:Arr x a)(c:yc x rows)(v:rows.length<=35):x.ht.length<=35/\x.th.length<=35/\a.length<=35:=by
 have i:=c.lr;have d:(x.rk.map (·.1)).Nodup:=by rw[c.ks];exact uq<|LV rows
 have g:(vf x).length<=(x.rk.map (·.1)).length:=JX A.ok.nd d λk b=>yL (A.ok.ht k _<|vQ b).1
 have f:(x.th.map (·.1)).length<=(x.rk.map (·.1)).length:=JX A.nt d λk b=>by obtain⟨l,e⟩:=Option.isSome_iff_exists.mp<|wK b;exact yL (A.ok.ht l k<|A.ok.th l k e).2.1
 have h:=A.pm.length_eq;have e:(vf x).length=x.ht.length:=gh _;rw[gh] at g f h;rw[gh] at f
 lia
theorem Arr.add(A:Arr x a)(c:yc x rows)(v:rows.length<=35){low high:Int}(k:(lk x.rk low).isSome=true)(l:(lk x.rk high).isSome=true)(d:low∈vR x high)(f:wn x low=false)(g:wn x high=false)(m:low≠high)(ac:Xm (Ec x low high)):Arr (Ec x low high) (a++[(low,high)]):=by
 have q:=A.Ua c v;have h:lk x.ht low=none:=by simpa using(Bool.or_eq_false_iff.mp f).1
 have i:lk x.th high=none:=by simpa using(Bool.or_eq_false_iff.mp g).2
 have n:(K7.Ec x low high).ht=x.ht++[(low,high)]:=yO h;have o:(K7.Ec x low high).th=x.th++[(high,low)]:=yO i;refine⟨A.ok.Ec k l d f g m ac q0a q0a,?_,?_,λe p=>?_⟩
 ·rw[o,jw];refine List.nodup_append.mpr ⟨A.nt,q0o,λa j b d z=>?_⟩;have d:b=high:=by simpa using d
  rw[z,d] at j;have:=wK j;rw[i] at this;cases this
 ·show ((a++[(low,high)]).map (·.1)).Perm ((K7.Ec x low high).ht.map (·.1));rw[n,jw,jw];exact A.pm.append_right _
 ·show (lk (pk x.ht low high) e.1).getD 0=e.2;rw[xk];rcases List.mem_append.mp p with z|z
  ·have:e.1≠low:=λw=>by have:=wK<|A.mem z;rw[w,h] at this;cases this
   rw[f8 this];exact A.hd e z
  ·have z:e=(low,high):=by simpa using z
   rw[z,f7 rfl];rfl
theorem QM(v:Vr rows){k:Int}(d:rowAt rows k=some y):y.2.length<=95:=by
 have b:=v.ok k y.1 y.2 d
 have:=vE (U:=Cb rows) b.2.2.1 λc e=>by obtain⟨_,g,f⟩:=b.2.2.2.1 c e;exact xY.mpr (by rw[f];rfl)
 have h:=wT rows;have i:=v.ln
 lia
theorem Ub(i:P8 x)(b:x.ht=[])(d:x.th=[]):Arr x []:=by
 have f:vf x=[]:=by unfold vf;rw[b];rfl
 refine⟨⟨i,by rw[f];exact lK,by rw[b];decide,by rw[d];decide,λl h e=>?_,λl h e=>?_,λc e=>?_,λ_=>0,λl g=>?_⟩,by rw[d];exact lK,by rw[f];exact .refl _,λe j=>by cases j⟩
 ·rw[b] at e;cases e
 ·rw[d] at e;cases e
 ·rw[b] at e;cases e
 ·rw[f] at g;cases g
theorem QN{i:Nat}(A:Arr x a)(c:yc x rows)(h:a[i]?=some y)(k:∀v (b:B0 C),yc b rows->Arr b (a.eraseIdx i)->d v (b,⟨⟩,())):Gr C g j (x,y.1,()) d l:=by have f:=A.mem<|jd h;have e:=vQ f;refine⟨A.ok,?_⟩;show if (lk x.rk y.1).isSome=true then (if (lk x.ht y.1).isSome=true then d (vB x y.1) _ else _) else _;rw[f7 (A.ok.ht _ _ e).1,f7<|by rw[e];rfl];exact k _ _ (c.same rfl rfl rfl)<|A.pop h
theorem WZ{n:cr}{low high:Int}(A:Arr x a)(c:yc x rows)(v:Vr rows)(o:rows.length<=35)(b:rowAt rows high=some y)(h:low∈y.2)
 (i:∀D∈[d,e],f D (x,⟨⟩,⟨⟩,()))(k:∀g:B0 C,yc g rows->Arr g (a++[(low,high)])->p () (g,⟨⟩,⟨⟩,())):Qg C B n d e (x,low,high,()) p f:=by
  have r:=v.ok high y.1 y.2 b
  obtain⟨s,E,u⟩:=r.2.2.2.1 low h
  have j:(lk x.rk low).isSome=true:=by rw[c.rk,u];rfl
  have l:(lk x.rk high).isSome=true:=by rw[c.rk,b];rfl
  have m:low∈K7.vR x high:=by rw[c.vR,xM b];exact h
  refine⟨A.ok,?_⟩
  show if (lk x.rk low).isSome=true then (if (lk x.rk high).isSome=true then (if low∈K7.vR x high then (if wn x low=true\/wn x high=true then f d _ else f e _/\_) else _) else _) else _
  rw[f7 j,f7 l,f7 m]
  by_cases t:wn x low=true\/wn x high=true
  · rw[f7 t]; exact i d q0o
  · rw[f8 t]
    have w:wn x low=false:=by cases q:wn x low with|true=>exact gy (.inl q) t|false=>rfl
    have z:wn x high=false:=by cases q:wn x high with|true=>exact gy (.inr q) t|false=>rfl
    exact⟨i e q0o,λac=>k _ (c.same rfl rfl rfl)<|A.add c o j l m w z (Int.ne_of_lt s) ac⟩
end
section
variable{q:Cq}{C XC XS XO XB XP XV WJ XF XT XN XR XL:cr}
abbrev Ka:gP:=top 34
abbrev Kc:List Str:=["_law_bag_here"]
theorem Uc:um ["_law_bag_here"] Kc (ue Ka):=by walk_at "sc"
abbrev W0(q:Cq)(k:Nat):=wC q "_law_rank" Kc GI k
theorem Ud(F:DB q "_law_rank" Ka f g)(a:wC q "_law_pull" ["_law_bag_here","_law_many"] xJ 1):Gq q 2 f g Kc GI:=by
 refine' ur (vS (D':=Unit) (ms:=[0]) (j:=0) F Uc rfl rfl λi A c s H E n =>
   (uu (uS (tw_cm zk (uw (uz a (uP 0 (uj ui uf)))) ui)
   (ug<|uD<|uz a<|uP 0<|uj ui uf)
   uH)
   (ug (uD (uQ (xS (vg (uG (uy (uk ui (uk ui (uk ui (uk ui (uk ui (uk ui (uk ui (uk ui ux))))))))))) (uw (uz a (uP 0 (uj ui uf)))))))))) λp k o h=>?_
 walk_at "wl"
 have h:∀r,0<=r->r<=12->k r (⟨⟩,()):=h;refine vU q0q q0q λr t u=>?_
 try dsimp only
 by_cases q:r=11
 ·rw[f7<|decide_eq_true q];refine vU q0q q0q λs d b=>h s d ?_;have b:s<13:=b
  lia
 ·rw[f8<|by simpa using q];refine vU q0q q0q λs d b=>?_;have b:s<8:=b;obtain⟨x,m,_,e⟩:=xL (l:=[(0:Int),0,1,1,1,2,2,3]) d (by simpa using b);refine⟨x,m,h x ?_ ?_⟩
  ·simp at e;lia
  ·simp at e;lia
abbrev Kd:gP:=top 35
abbrev Kf:List Str:=["_law_one","_law_other"]
theorem LZ:um ["_law_one","_law_other","_law_left"] Kf (ue Kd):=by walk_at "sc"
theorem QO:(["_law_x","_law_other"]:List Str).Nodup:=by decide +kernel
theorem QP:(["_law_x","_law_one"]:List Str).Nodup:=by decide +kernel
abbrev GO(q:Cq)(k:Nat):=wC q "_law_join" Kf GJ k
theorem Ue(F:DB q "_law_join" Kd f i)(B:Bn q.mg):Gq q 2 f i Kf GJ:=by
 refine' ur (vS (D':=Unit) (ms:=[]) (j:=1) F LZ rfl rfl λl A e s H E n =>
   (uu (zR (Ts:=["_law_x"]) (Fr:=["_law_other"]) (idx:=[1]) (k:=1) (mb:=[1]) (is:=[]) (cl:=[("_law_other",s.heap.objs.size+1+1)]) 2 LZ.nd rfl rfl rfl q0q rfl (vv (ss 0)) Rx rfl (vN rfl) (λa b C c d=>(uF 0 (ut QO))) (λa b C c d=>(tws_one (tw_cmI Dj (ss 0) (vg (ss 1)) (by with_unfolding_all rfl)))) (λa b C c d=>(ss 0)))
   (ug (uD (BB rfl B.sorted (vg (uG (Au (vt 2) (vg (uG (wg (Ts:=["_law_x"]) (Fr:=["_law_one"]) (idx:=[0]) (k:=1) (mb:=[1]) (is:=[]) (cl:=[("_law_one",s.heap.objs.size+1)]) rfl (vv (ss 1)) Rx rfl (vN rfl) (λa b C c d=>(uF 0 (ut QP))) (λa b C c d=>(tws_one (tw_cmI Dj (ss 0) (vg (ss 1)) (by with_unfolding_all rfl)))) (λa b C c d=>(ss 0))))))))))))) λp o r h=>?_
 walk_at "wl"
 obtain⟨⟨t,u,v⟩,m⟩:=h;refine⟨ve q0d,vo (q:=λk=>!decide (k∈p.2.1)) (λk _ K g=>g) ?_⟩;refine⟨ve (show p.2.1.length<=1000 by omega),vo (q:=λk=>!decide (k∈p.1)) (λk _ K g=>g) ?_⟩;have w:=gQ (λk=>!decide (k∈p.2.1)) p.1;have x:=gQ (λk=>!decide (k∈p.1)) p.2.1;refine⟨ve ?_,?_,m⟩
 ·show (p.1.filter λk=>!decide (k∈p.2.1)).length+(p.2.1.filter λk=>!decide (k∈p.1)).length<=1000;omega
 ·rw[gw];show (p.1.filter λk=>!decide (k∈p.2.1)).length+(p.2.1.filter λk=>!decide (k∈p.1)).length<64;omega
abbrev Kg:gP:=top 36
abbrev Ki:List Str:=["_law_rows_here"]
theorem Uf:um ["_law_rows_here"] Ki (ue Kg):=by walk_at "sc"
theorem QQ:(["_law_k","_law_rows_here"]:List Str).Nodup:=by decide +kernel
abbrev GP(q:Cq)(k:Nat):=wC q "_law_here" Ki J4 k
theorem Ug(F:DB q "_law_here" Kg f n)(B:Bn q.mg):Gq q 2 f n Ki J4:=by
 refine' ur (vS (D':=Unit) (ms:=[]) (j:=0) F Uf rfl rfl λo A c s H E w =>
   (ug (uD (wg (Ts:=["_law_k"]) (Fr:=["_law_rows_here"]) (idx:=[0]) (k:=1) (mb:=[1]) (is:=[]) (cl:=[("_law_rows_here",s.heap.objs.size+1)]) rfl (wH rfl B.range (xf rfl B.len (vg (ss 0)))) Rx rfl (vN rfl) (λa b C g i=>(uF 0 (ut QQ))) (λa b C g i=>(tws_one (tw_cm Li (xS (vg (ss 1)) (ss 0)) Ju))) (λa b C g i=>(ss 0)))))) λp z D h=>?_
 walk_at "wl"
 obtain⟨G,r⟩:=h;refine⟨⟨q0a,q0a⟩,?_,vo (q:=λk=>(rowAt p.1 k).isSome) (λk d K e=>?_) r⟩
 ·rw[vX];exact ve q0a
 ·obtain⟨m,t⟩:=LU d;obtain⟨x,u,v,_⟩:=xL (l:=p.1) m t;rw[DT m v] at e;refine⟨x,u,?_⟩
  cases x with
  | none=>exact e
  | some y=>exact e
abbrev Kj:gP:=top 37
abbrev Kk:List Str:=["_law_bag_here","_law_row_here"]
theorem zV:um ["_law_bag_here","_law_row_here","_law_found","_law_count","_law_k"] Kk (ue Kj):=by walk_at "sc"
abbrev QR(q:Cq)(k:Nat):=wC q "_law_some" Kk J5 k
theorem Uh(F:DB q "_law_some" Kj f O)(a:wC q "_law_pull" ["_law_bag_here","_law_many"] xJ 2)(d:GO q 2)(B:Bn q.mg):Gq q 3 f O Kk J5:=by
 refine' ur (vS (D':=Unit) (ms:=[0]) (j:=3) F zV rfl rfl λP A v s H E Q =>
   (uu (uv 2 zV.nd (uy (α:=Int) ux))
   (uu (uS (tw_cmL (FN Q.units) (vg (ss 1)) (vg (uG (uy (α:=Int) ux))))
   (ug<|xT 2<|pv 2)
   uH)
   (uu (uv 3 zV.nd (uz a (uP 0 (uj ui uf))))
   (uu (uS (tw_cm zk (ss 3) ui)
   (ug<|uv 3 zV.nd<|uQ<|OJ Am (uw<|uz a<|uP 0<|uj ui uf)<|xf rfl B.len<|vg<|ss 1)
   uH)
   (uu (vT (is:=[]) (mb:=[0]) (D1:=Bg×(List Int)×(OL Int)×Int×Int×Unit) (D2:=Bg×(List Int)×(OL Int)×Int×Int×Unit) (uI q0q) ya rfl (wH rfl B.range (ss 3)) (uF 4 (ut zV.nd))
   (ug (uv 2 zV.nd (uz d (uA 2 (uj (uG (uy (uk (xS (vg (ss 1)) (uw (uz a (uP 0 (uj (xf rfl B.len (vg (ss 1))) uf))))) ux))) uf))))) q0q q0q)
   (ug (xT 2 (pv 2))))))))) λp J o h=>?_
 walk_at "wl"
 obtain⟨Y,L⟩:=h;by_cases w:p.2.1=[]
 ·rw[f7<|decide_eq_true w];exact L [] gR λ_ z=>by cases z
 rw[f8<|by simpa using w]
 have D:0<(p.2.1.length:Int):=by
  have:=List.length_pos_iff.mpr w
  lia
 have g:∀(n c:Int),FQ (λ(x:Int)(b:Bg×List Int×OL Int×Int×WL.Un×Unit) G (Z:OL Int->Bg×WL.Un×Unit->Prop) o=>xJ (b.1,(b.2.1.length:Int),()) (λx t=>∃k,Ef b.2.1 x=some k/\GJ (b.2.2.1.l,[k],()) (λx m=>G (t.1,b.2.1,x,b.2.2.2.1,⟨⟩,b.2.2.2.2.2)) λC m=>o C (t.1,⟨⟩,())) λC t=>o C (t.1,⟨⟩,()))
   (xO 0 n) (⟨⟩,p.2.1,⟨[]⟩,c,⟨⟩,p.2.2) (λM=>J M.2.2.1 (M.1,⟨⟩,())) J o:=by
  intro n c;refine uZ (λ(r:List Int)(b:Bg×List Int×OL Int×Int×WL.Un×Unit)=>b.2.1=p.2.1/\wl b.2.2.1.l/\∀x∈b.2.2.1.l,x∈p.2.1) (xO 0 n) ⟨rfl,gR,(λ_ z=>by cases z)⟩ ?_ ?_
  ·rintro x r b _ ⟨e,i,g2⟩ K R;rw[e];refine vU D q0a λr N u=>?_;obtain⟨y,S,_,T⟩:=xL (l:=p.2.1) N u;have U:=vE i g2;refine⟨y,S,T8 (show b.2.2.1.l.length+1<64 by lia),R _ ⟨rfl,FV i<|je _ _,λz W=>?_⟩⟩;rcases FU.mp W with⟨I,_⟩|⟨I,_⟩
   ·exact g2 z I
   ·rw[List.mem_singleton.mp I];exact T
  ·rintro b ⟨_,i,g2⟩;exact L _ i g2
 refine vU q0q q0q λr N u=>?_
 try dsimp only
 have u:r<7:=u;by_cases q:r=6
 ·rw[f7<|decide_eq_true q];refine vU q0q q0q λs X i=>?_;have i:s<3:=i
  have b1:s*(p.2.1.length:Int)<=2*60:=by
   have:s*(p.2.1.length:Int)<=2*(p.2.1.length:Int):=Int.mul_le_mul_of_nonneg_right q0a q0a
   lia
  have b0:0<=s*(p.2.1.length:Int):=Int.mul_nonneg X q0a;exact⟨.inl ⟨q0a,q0a⟩,⟨q0a,q0a⟩,g _ _⟩
 ·rw[f8<|by simpa using q];exact⟨⟨q0a,q0a⟩,g _ _⟩
abbrev Kl:gP:=top 38
abbrev Km:List Str:=["_law_rows_here","_law_row_here"]
theorem CN:um ["_law_rows_here","_law_row_here","_law_found","_law_cell"] Km (ue Kl):=by walk_at "sc"
abbrev QS(q:Cq)(k:Nat):=wC q "_law_edge" Km J7 k
theorem Ui(F:DB q "_law_edge" Kl f o)(a:GO q 2):Gq q 3 f o Km J7:=by
 refine' ur (vS (D':=Unit) (ms:=[]) (j:=2) F CN rfl rfl λt A i s H E N =>
   (uu (uv 2 CN.nd (uy (α:=Int) ux))
   (uu (vT (is:=[]) (mb:=[]) (D1:=(List RW)×(List Int)×(OL Int)×Int×Unit) (D2:=(List RW)×(List Int)×(OL Int)×Int×Unit) (uI q0q) ya rfl (vv (ss 1)) (uF 3 (ut CN.nd))
   (ug (uv 2 CN.nd (uz a (uA 2 (uj (Dg (zi (xS (vg (ss 0)) (ss 3)))) uf))))) q0q q0q)
   (ug (xT 2 (pv 2)))))) λp u O h=>?_
 walk_at "wl"
 obtain⟨v,w,B⟩:=h;refine uZ (λ(r:List Int)(b:List RW×List Int×OL Int×WL.Un×Unit)=>b.1=p.1/\(∀c∈r,(rowAt p.1 c).isSome=true)/\wl b.2.2.1.l/\(∀x∈b.2.2.1.l,x∈xO 0 35)/\(r.map<|eb p.1).foldl xr b.2.2.1.l=u4 (eb p.1) p.2.1) p.2.1 ⟨rfl,w,gR,(λ_ z=>by cases z),rfl⟩ ?_ ?_
 ·rintro c r b _ ⟨e,n,g1,g2,d⟩ K D;obtain⟨y,k⟩:=Option.isSome_iff_exists.mp<|n c gc;obtain⟨_,_,_,G⟩:=uC k;obtain⟨g,m⟩:=v.Ng k;rw[e];have I:=vE g1 g2;have J:=vE g m;rw[vX] at I J;refine⟨_,G,y,rfl,J8 g1 g g2 m,D _ ⟨rfl,λc L=>n c<|gg _ L,FV g1 g,λx M=>?_,?_⟩⟩
  ·rcases FU.mp M with⟨z,_⟩|⟨z,_⟩
   ·exact g2 x z
   ·exact m x z
  ·rw[<- d];show (r.map<|eb p.1).foldl xr (jn b.2.2.1.l y.2)=(r.map<|eb p.1).foldl xr (xr b.2.2.1.l<|eb p.1 c);rw[Pe g1 g,xM k]
 ·rintro b ⟨_,_,_,_,d⟩;have d:b.2.2.1.l=u4 (eb p.1) p.2.1:=d;show u b.2.2.1 _;rw[show b.2.2.1=OL.mk b.2.2.1.l from rfl,d];exact B
abbrev GQ:gP:=top 47
abbrev GR:List Str:=["_law_found"]
theorem QT:um ["_law_found"] GR (ue GQ):=by walk_at "sc"
abbrev Uj(q:Cq)(k:Nat):=wC q "_law_whole" GR LR k
theorem QU(F:DB q "_law_whole" GQ f b)(B:Bn q.mg):Gq q 2 f b GR LR:=by
 refine' ur (vS (D':=Unit) (ms:=[]) (j:=0) F QT rfl rfl λc A a s H E d =>
   (ug (uD (uQ (Wg (BD (ty:="int") rfl B.isinstance (Ff (v:=.ty "int") rfl B.int PyProof.Rows.boot_int rfl) (ss 0)) (Lk (Wh (BD (ty:="bool") rfl B.isinstance (Ff (v:=.ty "bool") rfl B.bool PyProof.Rows.boot_bool rfl) (ss 0))))))))) λp e g h=>?_
 walk_at "wl"
 exact h
abbrev s_row:gP:=top 48
abbrev QV:List Str:=["_law_found"]
theorem QW:um ["_law_found","_law_one"] QV (ue s_row):=by walk_at "sc"
abbrev Zb(q:Cq)(k:Nat):=wC q "_law_row" QV QA k
theorem W2(F:DB q "_law_row" s_row f d)(a:Uj q 2)(B:Bn q.mg):Gq q 3 f d QV QA:=by
 refine' ur (vS (D':=Unit) (ms:=[]) (j:=1) F QW rfl rfl λe A c s H E i =>
   (uu (uS (tw_not (tw_val (BD (ty:="list") rfl B.isinstance (Ff (v:=.ty "list") rfl B.list jS rfl) (ss 0))))
   (ug<|uD<|uQ AO)
   uH)
   (uu (vT (is:=[]) (mb:=[]) (D1:=(List Int)×Int×Unit) (D2:=(List Int)×Int×Unit) (uI q0q) ya rfl (vv (ss 0)) (uF 1 (ut QW.nd))
   (ug (uS (tw_not (tw_val (uw (uz a (uj (ss 1) uf)))))
   (ug<|uD<|uQ AO)
   uH)) q0q q0q)
   (ug (uD (uQ AO)))))) λp k l h=>?_
 walk_at "wl"
 rw[f8 q0q];exact uZ (λ(r:List Int)(b:List Int×WL.Un×Unit)=>True) p.1 trivial (λx r b _ _ K g=>g _ trivial) λ_ _=>h
abbrev GS:gP:=top 33
abbrev GU:List Str:=["_law_many"]
theorem zI:um ["_law_many","_law_pairs","_law_threes","_law_rows_here"] GU (ue GS):=by walk_at "sc"
theorem Nj:(["_law_k"]:List Str).Nodup:=by decide +kernel
theorem Nk:(["_law_pair"]:List Str).Nodup:=by decide +kernel
theorem Nl:(["_law_three"]:List Str).Nodup:=by decide +kernel
abbrev Uk(q:Cq)(k:Nat):=wC q "_law_stock" GU LS k
theorem QX(F:DB q "_law_stock" GS f i)(B:Bn q.mg):Gq q 2 f i GU LS:=by
 refine' ur (vS (D':=Unit) (ms:=[]) (j:=3) F zI rfl rfl λl A g s H E o =>
   (uu (uv 1 zI.nd (uy (uk (uG (uy (uk ui (uk ui ux)))) (uk (uG (uy (uk ui (uk ui ux)))) (uk (uG (uy (uk ui (uk ui ux)))) (uk (uG (uy (uk ui (uk ui ux)))) (uk (uG (uy (uk ui (uk ui ux)))) (uk (uG (uy (uk ui (uk ui ux)))) ux))))))))
   (uu (uv 2 zI.nd (uy (uk (uG (uy (uk ui (uk ui (uk ui ux))))) (uk (uG (uy (uk ui (uk ui (uk ui ux))))) (uk (uG (uy (uk ui (uk ui (uk ui ux))))) (uk (uG (uy (uk ui (uk ui (uk ui ux))))) ux))))))
   (uu (uv 3 zI.nd (Au (vg (uG (wg (Ts:=["_law_k"]) (Fr:=[]) (idx:=[]) (k:=1) (mb:=[]) (is:=[]) (cl:=[]) rfl (wH rfl B.range ui) Xl rfl (vN rfl) (λa b C c d=>(uF 0 (ut Nj))) (λa b C c d=>tws_nil) (λa b C c d=>(yF (vW ui (uG (uy (α:=Int) ux)))))))) (vg (uG (wg (Ts:=["_law_pair"]) (Fr:=[]) (idx:=[]) (k:=1) (mb:=[]) (is:=[1]) (cl:=[]) rfl (JA 1 (pv 1) q0q) Xl rfl (vN rfl) (λa b C c d=>(uF 0 (ut Nk))) (λa b C c d=>tws_nil) (λa b C c d=>(yF (vW ui (ss 0)))))))))
   (uu (uv 3 zI.nd (Au (vg (uG (Au (vt 3) (vg (uG (wg (Ts:=["_law_three"]) (Fr:=[]) (idx:=[]) (k:=1) (mb:=[]) (is:=[2]) (cl:=[]) rfl (JA 2 (pv 2) q0q) Xl rfl (vN rfl) (λa b C c d=>(uF 0 (ut Nl))) (λa b C c d=>tws_nil) (λa b C c d=>(yF (vW ui (ss 0)))))))))) (vg (uG (uy (uk (yF (vW ui (uG (uy (uk ui (uk ui (uk ui (uk ui ux)))))))) ux))))))
   (ug (uD (HN (vt 3) FL (FM (ss 0)))))))))) λp r t h=>?_
 walk_at "wl"
 obtain⟨m,n⟩:=h;refine⟨q0q,(by rw[vX];exact ve q0q),vi (f:=λ_=>some<|some (0,[])) (λx _ K e=>e) ?_⟩;refine⟨ve q0q,vi (f:=λx=>some<|some (1,x)) (λx _ K e=>e) ?_⟩;refine⟨ve q0q,ve q0q,vi (f:=λx=>some<|some (2,x)) (λx _ K e=>e) ?_⟩;refine⟨ve q0q,ve q0q,?_⟩;rw[WV _ m];exact n
abbrev BQ:gP:=top 39
abbrev BR:List Str:=["_law_rows_here","_law_loops","_law_rank_here","_law_bag_here"]
theorem v9:um ["_law_rows_here","_law_loops","_law_rank_here","_law_bag_here","_law_number","_law_edge_here","_law_beneath","_law_k","_law_kin","_law_chosen"] BR (ue BQ):=by walk_at "sc"
theorem Cc:(["_law_at","_law_one","_law_rank_here"]:List Str).Nodup:=by decide +kernel
theorem Ix:(["_law_k","_law_rank_here","_law_rows_here"]:List Str).Nodup:=by decide +kernel
abbrev Nm(q:Cq)(k:Nat):=wC q "_law_edge_by" BR zU k
theorem Ko(F:DB q "_law_edge_by" BQ f fd)(a:wC q "_law_pull" ["_law_bag_here","_law_many"] xJ 3)(G:GO q 3)(I:GP q 3)(J:QR q 3)(L:QS q 3)(B:Bn q.mg):Gq q 4 f fd BR zU:=by
 refine' ur (vS (D':=Unit) (ms:=[0,1,3]) (j:=6) F v9 rfl rfl λae A aa s H E hr =>
   (uu (uv 4 v9.nd (uQ (xf rfl B.len (vt 0))))
   (uu (uv 5 v9.nd (uy (α:=Int) ux))
   (uu (uS (tw_cm zk (ss 2) ui)
   (uu (vJ 1 (vW ui (uG (uy (uk (ss 4) ux)))))
   (ug (xT 5 (pv 5))))
   uH)
   (uu (uS (tw_cm OP (uw (uz a (uP 3 (uj ui uf)))) ui)
   (uu (zR (Ts:=["_law_at","_law_one"]) (Fr:=["_law_rank_here"]) (idx:=[2]) (k:=2) (mb:=[2]) (is:=[1]) (cl:=[("_law_rank_here",s.heap.objs.size+1+1)]) 6 v9.nd rfl rfl rfl q0q rfl (JA 1 (pv 1) q0q) Rx rfl (vN rfl) (λd g C T U=>(AV 0 1 (Bm rfl (vH (ut (i:=0) Cc) (vH (ut (i:=1) Cc) zJ))) q0q q0q)) (λd g C T U=>(tws_one (tw_cm zk (ss 0) (zN Fj (ss 2) ui)))) (λd g C T U=>(ss 1)))
   (uu (vT (is:=[]) (mb:=[0,1,3]) (D1:=(OL RW)×(OL (Int×(List Int)))×Int×Bg×Int×(OL Int)×(OL (List Int))×Int×Un×Un×Unit) (D2:=(OL RW)×(OL (Int×(List Int)))×Int×Bg×Int×(OL Int)×(OL (List Int))×Int×Un×Un×Unit) (uI q0q) ya rfl (wH rfl B.range (xS (vg (uG (uy (uk ui (uk ui (uk ui (uk ui (uk ui (uk ui (uk ui (uk ui ux))))))))))) (uw (uz a (uP 3 (uj ui uf)))))) (uF 7 (ut v9.nd))
   (ug (uS (tw_cmL (zl hr.units) (vt 6) (vg (uG (uy (α:=(List Int)) ux))))
   (ug<|uv 5 v9.nd<|uz G<|uA 5<|uj (xS (vt 6)<|uw<|uz a<|uP 3<|uj (xf rfl B.len<|vt 6) uf) uf)
   uH)) q0q q0q)
   (uu (uS (tw_cmL (FN hr.units) (vt 5) (vg (uG (uy (α:=Int) ux))))
   (ug<|vJ 1<|vW (ss 2)<|uG<|uy<|uk (ss 4) ux)
   uH)
   (ug (xT 5 (pv 5))))))
   uH)
   (uu (zR (Ts:=["_law_k"]) (Fr:=["_law_rank_here","_law_rows_here"]) (idx:=[2,0]) (k:=1) (mb:=[1,2]) (is:=[]) (cl:=[("_law_rows_here",s.heap.objs.size+1),("_law_rank_here",s.heap.objs.size+1+1)]) 8 v9.nd rfl rfl rfl q0q rfl (vv (uG (uz I (uA 0 uf)))) bs2 rfl (vN rfl) (λd g C T U=>(uF 0 (ut Ix))) (λd g C T U=>(tws_one (tw_cm zk (Jv (zi (xS (vt 2) (ss 0)))) (ss 1)))) (λd g C T U=>(ss 0)))
   (uu (uv 9 v9.nd (uz J (uP 3 (uA 8 uf))))
   (uu (vJ 1 (vW (ss 2) (uG (Au (vt 9) (vg (uG (uy (uk (ss 4) ux))))))))
   (ug (uD (uz L (uA 0 (uA 9 uf))))))))))))) λp Kn Ke h=>?_
 walk_at "wl"
 obtain⟨v,hn,hq,W,r0,r1,Y⟩:=h;by_cases h0:p.2.2.1=0
 ·rw[f7<|decide_eq_true h0];refine⟨A8 q0a,?_⟩;refine Y [] [(0,[(p.1.l.length:Int)])] (GL v q0a λr e z=>?_) (λu M=>?_) q0o
  ·cases z;exact⟨r0,r1,gR,(λ_ z=>by cases z),rfl⟩
  ·rcases List.mem_append.mp M with z|z
   ·exact DU<|W u z
   ·rw[List.mem_singleton.mp z];have:=QD (rows:=p.1.l) (r:=p.2.2.1);rw[h0] at this ⊢;exact this
 ·rw[f8<|by simpa using h0];refine vU q0q q0q λx g0 g1=>?_
  try dsimp only
  by_cases hx:x<3
  ·rw[f7<|decide_eq_true hx];refine⟨ve q0a,vi (f:=λu:Int×List Int=>if decide (u.1=p.2.2.1-1)=true then some u.2 else none) (λu _ K o=>?_) ?_⟩
   ·show if decide (u.1=p.2.2.1-1)=true then K (some u.2) _ else K none _;by_cases z:decide (u.1=p.2.2.1-1)=true
    ·rw[f7 z] at o ⊢;exact o
    ·rw[f8 z] at o ⊢;exact o
   ·have ly:(p.2.1.l.filterMap λu:Int×List Int=>if decide (u.1=p.2.2.1-1)=true then some u.2 else none).length<=100:=gO (List.length_filterMap_le _ _) hq
    have X:∀z∈(p.2.1.l.filterMap λu:Int×List Int=>if decide (u.1=p.2.2.1-1)=true then some u.2 else none),Lp p.1.l (p.2.2.1-1,z):=λz hz=>by
     obtain⟨u,M,e⟩:=List.mem_filterMap.mp hz;by_cases q:decide (u.1=p.2.2.1-1)=true
     ·rw[f7 q] at e;cases e;rw[<- jo q];exact W u M
     ·rw[f8 q] at e;cases e
    generalize (p.2.1.l.filterMap λu:Int×List Int=>if decide (u.1=p.2.2.1-1)=true then some u.2 else none)=ys at ly X;refine vU q0q q0q λs g2 g3=>?_;obtain⟨m,m1,_,m3⟩:=xL (l:=[(2:Int),2,2,2,0,1,3,4]) g2 (by simpa using g3);refine⟨m,m1,⟨by simp at m3;lia,by simp at m3;lia⟩,?_⟩;refine uZ (λ(r:List Int) (b:OL RW×OL (Int×List Int)×Int×Bg×Int×OL Int×OL (List Int)×WL.Un×WL.Un×WL.Un×Unit)=>b.1=p.1/\b.2.1=p.2.1/\b.2.2.1=p.2.2.1/\b.2.2.2.2.1=(p.1.l.length:Int)/\b.2.2.2.2.2.2.1.l=ys/\Lp p.1.l (p.2.2.1-1,b.2.2.2.2.2.1.l)) (xO 0 m) ⟨rfl,rfl,rfl,rfl,rfl,gR,(λ_ z=>by cases z),rfl⟩ ?_ ?_
    ·intro y r;refine Yv λb1 b2 b3 b4 b5 N b7 b8=>?_;rintro _ ⟨P,Q,R,S,Z,n⟩ K o;dsimp only at P Q R S Z n ⊢;subst Z;by_cases q:b7.l=[]
     ·rw[f8<|by simp[q]];exact o _ ⟨P,Q,R,S,rfl,n⟩
     ·rw[f7<|by simp[q]];have:=List.length_pos_iff.mpr q;refine vU q0a q0a λt t0 t1=>?_;obtain⟨z,z1,_,z3⟩:=xL (l:=b7.l) t0 t1;have D:=X z z3;have s1:=vE n.1<|n.sub q0a;have s2:=vE D.1<|D.sub q0a;rw[vX] at s1 s2;have s1:N.l.length<=35:=s1;have s2:z.length<=35:=s2;refine⟨z,z1,J8 n.1 D.1 (n.sub q0a)<|D.sub q0a,o _ ⟨P,Q,R,S,rfl,?_⟩⟩;show Lp p.1.l (p.2.2.1-1,jn N.l z);have nn:∀c,(∃e,rowAt p.1.l c=some (p.2.2.1-1,e))->(eb p.1.l c).Nodup:=λc ⟨e,he⟩=>by rw[xM he];exact uq (v.Ng he).1
      refine⟨FV n.1 D.1,λc O=>?_,?_⟩
      ·rcases FU.mp O with⟨w,_⟩|⟨w,_⟩
       ·exact n.2.1 c w
       ·exact D.2.1 c w
      ·show u4 (eb p.1.l) (jn N.l z)=[];rw[Pe n.1 D.1,CD n.1 D.1 (λc O=>nn c<|n.2.1 c O)<|λc O=>nn c<|D.2.1 c O,show u4 (eb p.1.l) N.l=[] from n.2.2,show u4 (eb p.1.l) z=[] from D.2.2];rfl
    ·refine Yv λb1 b2 b3 b4 b5 N b7 b8=>?_;rintro⟨P,Q,R,S,Z,n⟩;dsimp only at P Q R S Z n ⊢;subst P Q R S
     have va:Vr (p.1.l++[some (p.2.2.1,N.l)]):=GL v q0a λr e z=>by
      cases z;exact⟨r0,r1,n.1,n.2.1,n.2.2⟩
     by_cases q:N.l=[]
     ·rw[f7<|decide_eq_true q];refine⟨A8 q0a,Y N.l [(p.2.2.1,[(p.1.l.length:Int)])] va (λu M=>?_) q0o⟩;rcases List.mem_append.mp M with z|z
      ·exact DU<|W u z
      ·rw[List.mem_singleton.mp z,q];exact QD
     ·rw[f8<|by simpa using q];have:=Y N.l [] va (λu M=>DU<|W u<|by simpa using M) q0o;rw[jN] at this;exact this
  ·rw[f8<|by simpa using hx];refine⟨(show p.1.l.length<1000 by lia),ve (by have:=wT p.1.l;show (Cb p.1.l).length<=1000;lia),vo (q:=λk=>decide ((rowAt p.1.l k).map (·.1)=some p.2.2.1)) (λk ab K o=>?_) ?_⟩
   ·obtain⟨y,X⟩:=Option.isSome_iff_exists.mp<|xY.mp ab;refine⟨_,(uC X).2.2.2,y,rfl,?_⟩;rw[X] at o;show if decide (y.1=p.2.2.1)=true then _ else _;by_cases z:y.1=p.2.2.1
    ·rw[f7<|by simp[z]] at o ⊢;exact o
    ·rw[f8<|by simpa using z] at o ⊢;exact o
   ·have hs:=gQ (λk=>decide ((rowAt p.1.l k).map (·.1)=some p.2.2.1))<|Cb p.1.l;have af:=wT p.1.l;refine⟨(show ((Cb p.1.l).filter _).length<60 by lia),λl l1 l2=>?_⟩
    have hl:∀c∈l,∃e,rowAt p.1.l c=some (p.2.2.1,e):=λc O=>by
     have:=(List.mem_filter.mp<|l2 c O).2
     cases e:rowAt p.1.l c with
     | none=>rw[e] at this;simp at this
     | some y =>
      rw[e] at this;have this:y.1=p.2.2.1:=by simpa using this
      exact⟨y.2,by rw[<- this]⟩
    obtain⟨c1,c2,c3⟩:=Ni v l1 hl;have ll:l.length<=((Cb p.1.l).filter λk=>decide ((rowAt p.1.l k).map (·.1)=some p.2.2.1)).length:=vE l1 l2;refine⟨ve (show l.length+1<=1000 by lia),A8 q0a,v,λc O=>?_,?_⟩
    ·obtain⟨e,he⟩:=hl c O;show (rowAt p.1.l c).isSome=true;rw[he];rfl
    ·refine Y _ [(p.2.2.1,l++[(p.1.l.length:Int)])] (GL v q0a λr e z=>?_) (λu M=>?_) q0o
     ·cases z;exact⟨r0,r1,v8 _ _,c1,c2⟩
     ·rcases List.mem_append.mp M with z|z
      ·exact DU<|W u z
      ·rw[List.mem_singleton.mp z];exact c3
abbrev Kq:gP:=top 40
abbrev Ks:List Str:=["_law_bag_here","_law_most"]
theorem yP:um ["_law_bag_here","_law_most","_law_rows_here","_law_k","_law_loops","_law_rank_here"] Ks (ue Kq):=by walk_at "sc"
theorem QY:(["_law_k"]:List Str).Nodup:=by decide +kernel
abbrev W3(q:Cq)(k:Nat):=wC q "_law_rows" Ks QB k
theorem Ul(F:DB q "_law_rows" Kq f fd)(i:wC q "_law_pull" ["_law_bag_here","_law_many"] xJ 4)(G:Uk q 4)(L:W0 q 4)(w:Nm q 4)(B:Bn q.mg):Gq q 5 f fd Ks QB:=by
 refine' ur (vS (D':=Unit) (ms:=[0]) (j:=4) F yP rfl rfl λaa A X s H E hr =>
   (uu (uv 2 yP.nd (uy (α:=RW) ux))
   (uu (uS (tw_cm zk (uw (uz i (uP 0 (uj ui uf)))) ui)
   (ug<|uv 2 yP.nd<|uz G<|uj (uw<|uz i<|uP 0<|uj ui uf) uf)
   uH)
   (uu (zR (Ts:=["_law_k"]) (Fr:=[]) (idx:=[]) (k:=1) (mb:=[]) (is:=[]) (cl:=[]) 4 yP.nd rfl rfl rfl q0q rfl (wH rfl B.range (xf rfl B.len (vt 2))) Xl rfl (vN rfl) (λM N C ex pn=>(uF 0 (ut QY))) (λM N C ex pn=>(tws_one (tw_cm OP (ss 0) ui))) (λM N C ex pn=>(vW ui (uG (uy (uk (ss 0) ux))))))
   (uu (uS (tw_cm UZ (xf rfl B.len (vt 2)) ui)
   (ug<|uv 4 yP.nd<|Au (vt 4)<|vg<|uG<|uy<|uk (vW ui<|uG<|uy<|uk ui<|uk ui<|uk ui ux)<|uk (vW ui<|uG<|uy<|uk ui<|uk ui<|uk ui ux)<|uk (vW ui<|uG<|uy<|uk ui<|uk ui<|uk ui ux) ux)
   uH)
   (uu (vT (is:=[]) (mb:=[0]) (D1:=Bg×Int×(OL RW)×Int×(OL (Int×(List Int)))×Un×Unit) (D2:=Bg×Int×(OL RW)×Int×(OL (Int×(List Int)))×Un×Unit) (uI q0q) ya rfl (wH rfl B.range (uw (uz i (uP 0 (uj (zN Al (ss 1) ui) uf))))) (uF 3 (ut yP.nd))
   (ug (uS (tw_cm zk (uw (uz i (uP 0 (uj ui uf)))) ui)
   (ug<|vJ 2 SA)
   (Lf (D':=Bg×Int×(OL RW)×Int×(OL (Int×(List Int)))×Un×Unit) (uu (uv 5 yP.nd (uz L (uP 0 uf)))
   (ug (vJ 2 (yF (vW (ss 5) (uG (uz w (uP 2 (uP 4 (uj (ss 5) (uP 0 uf)))))))))))))) q0q q0q)
   (ug (xT 2 (pv 2))))))))) λp W I h=>?_
 walk_at "wl"
 obtain⟨hm,hk⟩:=h
 have S:∀(a:List RW) (o:List (Int×List Int)) (n:Int),n<=20->Vr a->a.length<=15->(∀u∈o,Lp a u)->o.length<=20 ->
   FQ (λ(x:Int) (b:Bg×Int×OL RW×WL.Un×OL (Int×List Int)×WL.Un×Unit) J (Kr:OL RW->Bg×WL.Un×Unit->Prop) I =>
    xJ (b.1,9,()) (λx d=>if decide (x=8)=true then b.2.2.1.l.length<gf/\J (d.1,b.2.1,⟨b.2.2.1.l++[none]⟩,⟨⟩,b.2.2.2.2.1,b.2.2.2.2.2.1,b.2.2.2.2.2.2) else
     GI (d.1,()) (λx d=>zU (b.2.2.1,b.2.2.2.2.1,x,d.1,()) (λO d=>d.1.l.length<gf/\J (d.2.2.2.1,b.2.1,⟨d.1.l++[some (x,O.l)]⟩,⟨⟩,d.2.1,⟨⟩,b.2.2.2.2.2.2)) λC d=>I C (d.2.2.2.1,⟨⟩,())) λC d=>I C (d.1,⟨⟩,())) λC d=>I C (d.1,⟨⟩,()))
   (xO 0 n) (⟨⟩,p.2.1,⟨a⟩,⟨⟩,⟨o⟩,⟨⟩,p.2.2) (λT=>W T.2.2.1 (T.1,⟨⟩,())) W I:=by
  intro a o n hn v hl Y ab;refine uZ (λ(r:List Int) (b:Bg×Int×OL RW×WL.Un×OL (Int×List Int)×WL.Un×Unit)=>Vr b.2.2.1.l/\(∀u∈b.2.2.2.2.1.l,Lp b.2.2.1.l u)/\b.2.2.1.l.length+r.length<=35/\b.2.2.2.2.1.l.length+r.length<=100) (xO 0 n) ⟨v,Y,(by rw[vX];show a.length+_<=35;lia),(by rw[vX];show o.length+_<=100;lia)⟩ ?_ ?_
  ·rintro y r b _ ⟨R,g2,g3,g4⟩ K D;rw[gG] at g3 g4;refine vU q0q q0q λs s0 s1=>?_;dsimp only;by_cases q:s=8
   ·rw[f7<|decide_eq_true q];refine⟨A8 q0a,D _ ⟨GL R q0a (λr e z=>by cases z),λu P=>DU<|g2 u P,?_,?_⟩⟩
    ·show (b.2.2.1.l++[none]).length+r.length<=35;rw[gw,gF]
     lia
    ·show b.2.2.2.2.1.l.length+r.length<=100
     lia
   ·rw[f8<|by simpa using q];intro t t0 t1;refine⟨R,(show b.2.2.1.l.length<=34 by lia),(show b.2.2.2.2.1.l.length<=100 by lia),g2,t0,t1,λe u v1 v2 v3=>⟨A8 (show b.2.2.1.l.length<1000 by lia),D _ ⟨v1,v2,?_,?_⟩⟩⟩
    ·show (b.2.2.1.l++[some (t,e)]).length+r.length<=35;rw[gw,gF]
     lia
    ·show (b.2.2.2.2.1.l++u).length+r.length<=100;rw[gw]
     lia
  ·rintro b ⟨R,_,g3,_⟩;exact hk _ R q0a
 have Q:∀(a:List RW) (U:List (Int×List Int)),Vr a->a.length<=15->(∀u∈U,Lp a u)->U.length<=20->∀g:Bg,xJ (g,p.2.1+1,()) (λx d=>(-2 ^ 62<=x/\x<2 ^ 62)/\FQ (λ(x:Int) (b:Bg×Int×OL RW×WL.Un×OL (Int×List Int)×WL.Un×Unit) J (Kr:OL RW->Bg×WL.Un×Unit->Prop) I =>
    xJ (b.1,9,()) (λx d=>if decide (x=8)=true then b.2.2.1.l.length<gf/\J (d.1,b.2.1,⟨b.2.2.1.l++[none]⟩,⟨⟩,b.2.2.2.2.1,b.2.2.2.2.2.1,b.2.2.2.2.2.2) else
     GI (d.1,()) (λx d=>zU (b.2.2.1,b.2.2.2.2.1,x,d.1,()) (λO d=>d.1.l.length<gf/\J (d.2.2.2.1,b.2.1,⟨d.1.l++[some (x,O.l)]⟩,⟨⟩,d.2.1,⟨⟩,b.2.2.2.2.2.2)) λC d=>I C (d.2.2.2.1,⟨⟩,())) λC d=>I C (d.1,⟨⟩,())) λC d=>I C (d.1,⟨⟩,()))
   (xO 0 x) (d.1,p.2.1,⟨a⟩,⟨⟩,⟨U⟩,⟨⟩,p.2.2) (λT=>W T.2.2.1 (T.1,⟨⟩,())) W I) (λC d=>I C (d.1,⟨⟩,())):=by
  intro a U v l1 Y l2 g;exact vU q0a q0a λr g0 R=>⟨⟨q0a,q0a⟩,S a U r q0a v l1 Y l2⟩
 refine vU q0q q0q λx g0 R=>?_;dsimp only;by_cases hx:x=1
 ·rw[f7<|decide_eq_true hx];refine vU q0q q0q λm m0 m1=>⟨m0,?_⟩;dsimp only;have c:=List.all_eq_true.mp T7 m.toNat<|List.mem_range.mpr q0a;unfold chk at c;simp only[g8,Bool.or_eq_true,hJ] at c;obtain⟨⟨⟨⟨c1,c2⟩,c3⟩,c4⟩,Z⟩:=c;have v:=QJ c1;refine⟨⟨q0a,q0a⟩,(by rw[vX];exact ve q0a),vi (f:=λk:Int=>if decide (k<4)=true then some (0,[k]) else none) (λk _ K D=>?_) ?_⟩
  ·show if decide (k<4)=true then K (some (0,[k])) _ else K none _;by_cases z:decide (k<4)=true
   ·rw[f7 z] at D ⊢;exact D
   ·rw[f8 z] at D ⊢;exact D
  ·have l0:∀u∈Xn (Bj.take m.toNat).length,Lp (Bj.take m.toNat) u:=λu P=>QI<|List.all_eq_true.mp c2 u P;by_cases h9:9<((Bj.take m.toNat).length:Int)
   ·rw[f7<|decide_eq_true h9];have Z:lp1.all (Y8<|Bj.take m.toNat)=true:=Z.elim (λz=>gy z q0a) id;refine⟨ve (show (Xn (Bj.take m.toNat).length).length+3<=1000 by lia),Q _ (Xn (Bj.take m.toNat).length++lp1) v c4 (λu P=>?_) ?_ _⟩
    ·rcases List.mem_append.mp P with z|z
     ·exact l0 u z
     ·exact QI<|List.all_eq_true.mp Z u z
    ·rw[gw];show _+3<=20
     lia
   ·rw[f8<|by simpa using h9];exact Q _ (Xn (Bj.take m.toNat).length) v c4 l0 q0a _
 ·rw[f8<|by simpa using hx];refine⟨⟨q0q,q0q⟩,ve q0q,vi (f:=λk:Int=>if decide (k<4)=true then some (0,[k]) else none) (λk _ K D=>?_) ?_⟩
  ·show if decide (k<4)=true then K (some (0,[k])) _ else K none _;by_cases z:decide (k<4)=true
   ·rw[f7 z] at D ⊢;exact D
   ·rw[f8 z] at D ⊢;exact D
  ·exact Q [] [] (QJ rfl) q0q (λu P=>by cases P) q0q _
abbrev Kt:gP:=top 41
abbrev Ku:List Str:=["_law_body","_law_rows_here"]
theorem GV:um ["_law_body","_law_rows_here","_law_number","_law_row_here"] Ku (ue Kt):=by walk_at "sc"
abbrev W4(q:Cq)(C:cr)(k:Nat):=wC q "_law_fill" Ku (QC C) k
set_option tactic.hygienic true in
theorem Um(F:DB q "_law_fill" Kt f U)(ct:Aw q.K C)(a:Y3 q C XB XS XC XO XP 8)(g:TY q C XC XV 8)(B:Bn q.mg):Gq q 9 f U Ku (QC C):=by
 refine' ur (vS (D':=Unit) (ms:=[]) (j:=2) F GV rfl rfl λW A D s H E hr =>
   (uu (vT (is:=[]) (mb:=[]) (D1:=(Bd C true)×(List RW)×Int×RW×Unit) (D2:=(Bd C true)×(List RW)×Int×RW×Unit) (uI q0q) ya rfl (Tc rfl B.enumerate (ss 1)) (AV 2 3 (Bm rfl (vH (ut (i:=2) GV.nd) (vH (ut (i:=3) GV.nd) zJ))) q0q q0q)
   (ug (uS (tw_cm We (ss 3) Ju)
   (uu (uX (uw (vz 0 a (uj ui (uj (uG (uy (α:=Int) ux)) uf)))))
   (ug (uX (uw (vz 0 g (uj (ss 2) uf))))))
   (ug (uX (uw (vz 0 a (uj (Jv (zi (ss 3))) (uj (uG (FJ rfl B.list (vg (Dg (zi (ss 3)))))) uf)))))))) q0q q0q)
   (ug (xT 0 (pv 0))))) λp Kn Ke h=>?_
 walk_at "wl"
 obtain⟨X,v,Y⟩:=h;refine uZ (λ(r:List (Int×RW)) (b:B0 C×List RW×WL.Un×WL.Un×Unit)=>∃k,r=MT k (p.2.1.drop k)/\k<=p.2.1.length/\yc b.1 (p.2.1.take k)/\b.1.ht=[]/\b.1.th=[]) (MT 0 p.2.1) ⟨0,rfl,im _,?_⟩ ?_ ?_
 ·show yc p.1 []/\p.1.ht=[]/\p.1.th=[];rw[X];exact⟨T9,rfl,rfl⟩
 ·rintro x r b _ ⟨k,e,N,c,m,n⟩ K Z
  have l:k<p.2.1.length:=by
   rcases Nat.lt_or_ge k p.2.1.length with z|z
   ·exact z
   ·rw[List.drop_of_length_le z] at e;cases e
  rw[mY l] at e;have e1:x=((k:Int),p.2.1[k]):=by cases e;rfl
  have e2:r=MT (k+1) (p.2.1.drop<|k+1):=by cases e;rfl
  have tk:p.2.1.take (k+1)=p.2.1.take k++[p.2.1[k]]:=(List.take_append_getElem l).symm;have G:(p.2.1.take k).length=k:=List.length_take_of_le N;have I:=T6 v k;have next:∀o:B0 C,yc o (p.2.1.take k++[p.2.1[k]])->o.ht=[]->o.th=[]->K (o,b.2.1,⟨⟩,⟨⟩,b.2.2.2.2):=λo h m1 m2=>Z _ ⟨k+1,e2,l,by rw[tk];exact h,m1,m2⟩
  have O:rowAt p.2.1 (k:Int)=p.2.1[k]:=DT q0a (by rw[kE];exact iP l);have ln:=v.ln;subst e1;dsimp only
  cases z:p.2.1[k] with
  | none =>
   rw[f7<|show (none:RW).isNone=true from rfl];rw[z] at next
   refine QH c I (nw 0) q0q gR (λ_ q=>by cases q) rfl λP J u w=>?_;have Q:Vr (p.2.1.take k++[some (0,[])]):=Y9 I q0a;refine T5 J Q (by have:=vj (rows:=p.2.1.take k) (z:=some (0,[]));rw[G] at this;rw[this];rfl) (λh t=>?_) (by unfold wn;rw[u,w,m,n];rfl) λx2 R g3 g4=>next x2 ?_ (g3.trans<|u.trans m)<|g4.trans<|w.trans n
   ·cases q:rowAt (p.2.1.take k++[some (0,[])]) h with
    | none=>unfold eb at t;rw[q] at t;cases t
    | some y =>
     rw[xM q] at t;have S:=((Q.ok h y.1 y.2 q).2.2.2.1 _ t).1;have L:=(uC q).2.1;rw[gw,gF,G] at L
     lia
   ·rw[kE,List.set_append_right _ _ q0a,G,pW] at R;exact R
  | some y =>
   rw[f8 q0o];rw[z] at next O
   obtain⟨S,L,a3,T,a5⟩:=v.ok k y.1 y.2 O;refine⟨y,rfl,y,rfl,QH c I S L a3 (λd M=>?_) ?_ λP J u w=>next P J (u.trans m)<|w.trans n⟩
   ·obtain⟨q1,e',q2⟩:=T d M;exact⟨e',by rw[wP,f7 q1];exact q2⟩
   ·rw[<- a5];refine vO λd M=>?_;unfold eb;rw[wP,f7 (T d M).1]
 ·rintro b ⟨k,e,N,c,m,n⟩
  have:k=p.2.1.length:=by
   rcases Nat.lt_or_ge k p.2.1.length with z|z
   ·rw[mY z] at e;cases e
   ·lia
  rw[this,t9] at c;exact Y _ c m n
abbrev Kv:gP:=top 42
abbrev Kw:List Str:=["_law_field","_law_rows_here","_law_bag_here","_law_tries"]
theorem xZ:um ["_law_field","_law_rows_here","_law_bag_here","_law_tries","_law_arrows","_law_k","_law_highs","_law_gone","_law_high","_law_low"] Kw (ue Kv):=by walk_at "sc"
theorem QZ:(["_law_k","_law_rows_here"]:List Str).Nodup:=by decide +kernel
abbrev W5(q:Cq)(C:cr)(k:Nat):=wC q "_law_ties" Kw (QK C) k
theorem Uo(F:DB q "_law_ties" Kv f fd)(ct:Aw q.K C)(m:GP q 6)(d:wC q "_law_pull" ["_law_bag_here","_law_many"] xJ 6)(g:TV q C XC XN 6)(x:Y5 q C XC XF XT XR 6)(a:YW q XT XR "Tied" "RingOfArrows")(B:Bn q.mg):Gq q 7 f fd Kw (QK C):=by
 refine' ur (vS (D':=Unit) (ms:=[0,2]) (j:=6) F xZ rfl rfl λae A Q s H E L =>
   (uu (uv 4 xZ.nd (uy (α:=(Int×Int)) ux))
   (uu (zR (Ts:=["_law_k"]) (Fr:=["_law_rows_here"]) (idx:=[1]) (k:=1) (mb:=[1]) (is:=[]) (cl:=[("_law_rows_here",s.heap.objs.size+1)]) 6 xZ.nd rfl rfl rfl q0q rfl (vv (uG (uz m (uj (ss 1) uf)))) Rx rfl (vN rfl) (λo t C ex pn=>(uF 0 (ut QZ))) (λo t C ex pn=>(tws_one (tw_cmL (zl L.units) (vg (Dg (zi (xS (vg (ss 1)) (ss 0))))) (vg (uG (uy (α:=Int) ux)))))) (λo t C ex pn=>(ss 0)))
   (uu (vT (is:=[]) (mb:=[0,2]) (D1:=(Bd C true)×(List RW)×Bg×Int×(OL (Int×Int))×Int×(OL Int)×Un×Un×Un×Unit) (D2:=(Bd C true)×(List RW)×Bg×Int×(OL (Int×Int))×Int×(OL Int)×Un×Un×Un×Unit) (uI q0q) ya rfl (wH rfl B.range (ss 3)) (uF 5 (ut xZ.nd))
   (ug (uS (tw_w (Jw (tw_cmL (zl L.units) (vt 4) (vg (uG (uy (α:=(Int×Int)) ux)))) (FO (tw_cm zk (uw (uz d (uP 2 (uj ui uf)))) ui))))
   (Lf (D':=(Bd C true)×(List RW)×Bg×Int×(OL (Int×Int))×Int×(OL Int)×Un×Un×Un×Unit) (uu (uv 7 xZ.nd (uQ (M4 4 (pv 4) (uw (uz d (uP 2 (uj (xf rfl B.len (vt 4)) uf)))) (λh=>UM lh nX nY N9 (pv 4) h))))
   (ug (uX (uw (vz 0 g (uj (Jv (ss 7)) uf)))))))
   (ug (uS (tw_cmL (zl L.units) (vt 6) (vg (uG (uy (α:=Int) ux))))
   (Lf (D':=(Bd C true)×(List RW)×Bg×Int×(OL (Int×Int))×Int×(OL Int)×Un×Un×Un×Unit) (uu (uv 8 xZ.nd (uQ (xS (vt 6) (uw (uz d (uP 2 (uj (xf rfl B.len (vt 6)) uf)))))))
   (uu (uv 9 xZ.nd (uQ (xS (vg (Dg (zi (xS (vg (ss 1)) (ss 8))))) (uw (uz d (uP 2 (uj (xf rfl B.len (vg (Dg (zi (xS (vg (ss 1)) (ss 8)))))) uf)))))))
   (uu (Tr rfl (Wz rfl a.m1 rfl a.m2 a.x1 a.x2) (YV 0 x L ct.cl (λE1 Φ R=>(pv 0)) (λE1 Φ R=>(uj (ss 9) (uj (ss 8) uf)))) (λx' =>
   (ug (uv 8 xZ.nd (uQ (Wt ui))))))
   (ug (uS (tw_cm OQ (ss 8) ui)
   (ug<|vJ 4<|vW (ss 9)<|ss 8)
   uH))))))
   uH)))) q0q q0q)
   (ug (uD (JO rfl B.sorted (vt 4)))))))) λp Kn Ke h=>?_
 walk_at "wl"
 obtain⟨c0,v,S,n1,n2,tr,h⟩:=h;have sl:gf=16777216:=iu;refine⟨by show p.2.1.length<1000;lia,by show (Cb p.2.1).length<=gf;have:=wT p.2.1;lia,?_⟩;refine vo (q:=λk=>!decide (eb p.2.1 k=[])) (λk hk K I=>?_) ?_
 ·obtain⟨y,n⟩:=Option.isSome_iff_exists.mp<|xY.mp hk;refine⟨_,(uC n).2.2.2,y,rfl,?_⟩;rw[xM n] at I;exact I
 dsimp only;refine⟨q0a,?_⟩;refine uZ (λ(_:List Int) (b:B0 C×List RW×Bg×Int×OL (Int×Int)×WL.Un×OL Int×WL.Un×WL.Un×WL.Un×Unit)=>b.2.1=p.2.1/\b.2.2.2.2.2.2.1.l=(Cb p.2.1).filter (λk=>!decide (eb p.2.1 k=[]))/\yc b.1 p.2.1/\Arr b.1 b.2.2.2.2.1.l) _ ⟨rfl,rfl,c0,Ub (c0.okb v) n1 n2⟩ ?_ ?_
 ·intro k r;refine U5 λM b2 b3 b4 J b6 N b8 b9 T U=>?_;rintro _ ⟨rfl,u,c,A⟩ K I;dsimp only at u c A ⊢;have al:=A.Ua c S;refine' cutP (G:=_) (λel=>?_) ?_
  rotate_left
  ·by_cases W:J.l=[]
   ·rw[f8 (by simp[W]),f8 gr];exact el
   ·rw[f7<|by simp[W]];refine vU q0q q0q λz z0 z1=>?_;by_cases e8:z=8
    ·rw[f7<|decide_eq_true e8];have p5:0<J.l.length:=List.length_pos_iff.mpr W;refine vU q0a q0a λi O X=>?_;obtain⟨y,a1,Y,P⟩:=xL O X;exact⟨O,y,Y,q0a,QN A c Y λw x' Z A'=>I _ ⟨rfl,u,Z,A'⟩⟩
    ·rw[f8<|by simpa using e8];exact el
  ·by_cases q:N.l=[]
   ·rw[f8<|by simp[q]];exact I _ ⟨rfl,u,c,A⟩
   ·rw[f7<|by simp[q]];have l7:N.l.length<=35:=by rw[u];have:=gQ (λk=>!decide (eb p.2.1 k=[]))<|Cb p.2.1;have:=wT p.2.1;lia
    have p7:0<N.l.length:=List.length_pos_iff.mpr q;refine vU q0a q0a λi O X=>?_;obtain⟨hg,a1,Y,P⟩:=xL O X;rw[u,iE] at P;obtain⟨y,n⟩:=Option.isSome_iff_exists.mp<|xY.mp P.1;have yn:y.2≠[]:=λz=>by have:=P.2;rw[xM n,z] at this;simp at this
    have yl:y.2.length<=95:=by exact QM v n
    have py:0<y.2.length:=List.length_pos_iff.mpr yn;refine⟨hg,a1,_,(uC n).2.2.2,y,rfl,_,(uC n).2.2.2,y,rfl,vU q0a q0a λi' aa ab=>?_⟩;obtain⟨lo,l1,l2,l3⟩:=xL aa ab;refine⟨lo,l1,WZ A c v S n l3 (λD hD=>⟨hD,?_⟩) λx' Z A'=>?_⟩
    ·rw[f8<|λz=>gy (jo z) q0a];exact I _ ⟨rfl,u,c,A⟩
    ·rw[f7<|decide_eq_true (uC n).1];exact⟨by show J.l.length<gf;lia,I _ ⟨rfl,u,Z,A'⟩⟩
 ·refine U5 λM b2 b3 b4 J b6 N b8 b9 T U=>?_;rintro⟨rfl,u,c,A⟩;have c:yc M p.2.1:=c;have A:Arr M J.l:=A;have al:=A.Ua c S;refine⟨by show J.l.length<64;lia,λps hp _=>h M ps c ⟨A.ok,A.nt,(hp.map _).trans A.pm,λe he=>A.hd e<|hp.mem_iff.mp he⟩⟩
abbrev GY:gP:=top 43
abbrev GZ:List Str:=["_law_bag_here","_law_most"]
theorem Bf:um ["_law_bag_here","_law_most","_law_rows_here","_law_field","_law_arrows"] GZ (ue GY):=by walk_at "sc"
abbrev Uq(q:Cq)(C:cr)(k:Nat):=wC q "_law_house" GZ (LY C) k
theorem Q0(F:DB q "_law_house" GY f D)(e:Mk q.K C g)(i:uL q.P q.w q.K q.mg q.base (uV q.P q.w) 8 g b ["self"] (CH C))(k:Binds q.K b ["self"] [])(d:q.mg "Field"=some (.ref C))(l:W3 q 9)(m:W4 q C 9)(o:W5 q C 9)(r:wC q "_law_pull" ["_law_bag_here","_law_many"] xJ 9)(B:Bn q.mg):Gq q 10 f D GZ (LY C):=by
 refine' ur (vS (D':=Unit) (ms:=[0]) (j:=3) F Bf rfl rfl λG A u s H E I =>
   (uu (uv 2 Bf.nd (uz l (uP 0 (uj (ss 1) uf))))
   (uu (uv 3 Bf.nd (uz m (SM (PF e i I rfl d k De) (uA 2 uf))))
   (uu (uv 4 Bf.nd (uz o (uP 3 (uA 2 (uP 0 (uj (uw (uz r (uP 0 (uj (zN Al (OJ Am ui (xf rfl B.len (vt 2))) ui) uf)))) uf))))))
   (ug (Tj 3 2 4 (pv 3) (pv 2) (pv 4))))))) λp Q R h=>?_
 walk_at "wl"
 obtain⟨J,h⟩:=h;refine⟨J,λt v y=>?_⟩;refine⟨rfl,v,λx c L M=>?_⟩;dsimp only;refine⟨.inl q0q,vU (n:=2*(t.length:Int)+1) q0a q0a λz S T=>?_⟩;exact⟨c,v,y,L,M,by show 0<=z/\z<=1000;lia,λN a O A=>h N t a O v y A⟩
abbrev DX:gP:=top 44
abbrev DY:List Str:=["_law_arrows"]
theorem Nn:um ["_law_arrows"] DY (ue DX):=by walk_at "sc"
theorem DZ:(["_law_low","_law_high"]:List Str).Nodup:=by decide +kernel
abbrev Iy(q:Cq)(k:Nat):=wC q "_law_tails" DY DV k
theorem No(F:DB q "_law_tails" DX f l):Gq q 2 f l DY DV:=by
 refine' ur (vS (D':=Unit) (ms:=[]) (j:=0) F Nn rfl rfl λm A c s H E o =>
   (ug (uD (wg (Ts:=["_law_low","_law_high"]) (Fr:=[]) (idx:=[]) (k:=2) (mb:=[]) (is:=[]) (cl:=[]) rfl (vv (ss 0)) Xl rfl (vN rfl) (λa b C d g=>(AV 0 1 (Bm rfl (vH (ut (i:=0) DZ) (vH (ut (i:=1) DZ) zJ))) q0q q0q)) (λa b C d g=>tws_nil) (λa b C d g=>(ss 0)))))) λp r t h=>?_
 walk_at "wl"
 obtain⟨u,h⟩:=h;have v:gf=16777216:=iu;refine⟨q0a,?_⟩;refine vi (f:=λ(e:Int×Int)=>some e.1) (λe w K n=>n) ?_;rw[n9];exact h
abbrev G0:gP:=top 45
abbrev G4:List Str:=["_law_arrows"]
theorem Q1:um ["_law_arrows"] G4 (ue G0):=by walk_at "sc"
theorem Fc:(["_law_low","_law_high"]:List Str).Nodup:=by decide +kernel
abbrev L0(q:Cq)(k:Nat):=wC q "_law_heads" G4 GN k
theorem Q2(F:DB q "_law_heads" G0 f l)(B:Bn q.mg):Gq q 2 f l G4 GN:=by
 refine' ur (vS (D':=Unit) (ms:=[]) (j:=0) F Q1 rfl rfl λm A c s H E r =>
   (ug (uD (BB rfl B.sorted (vg (uG (wg (Ts:=["_law_low","_law_high"]) (Fr:=[]) (idx:=[]) (k:=2) (mb:=[]) (is:=[]) (cl:=[]) rfl (vv (ss 0)) Xl rfl (vN rfl) (λa b C d g=>(AV 0 1 (Bm rfl (vH (ut (i:=0) Fc) (vH (ut (i:=1) Fc) zJ))) q0q q0q)) (λa b C d g=>tws_nil) (λa b C d g=>(ss 1))))))))) λp t u h=>?_
 walk_at "wl"
 obtain⟨n,h⟩:=h;have v:gf=16777216:=iu;refine⟨q0a,?_⟩;refine vi (f:=λ(e:Int×Int)=>some e.2) (λe w K o=>o) ?_;rw[n9];exact⟨by rw[gh];exact n,h⟩
abbrev Kx:gP:=top 46
abbrev Ky:List Str:=["_law_rows_here","_law_arrows"]
theorem L4:um ["_law_rows_here","_law_arrows","_law_bound"] Ky (ue Kx):=by walk_at "sc"
theorem Q3:(["_law_k","_law_bound"]:List Str).Nodup:=by decide +kernel
abbrev W6(q:Cq)(k:Nat):=wC q "_law_lone" Ky J9 k
theorem Ur(F:DB q "_law_lone" Kx f o)(a:Iy q 2)(b:L0 q 2)(c:GP q 2):Gq q 3 f o Ky J9:=by
 refine' ur (vS (D':=Unit) (ms:=[]) (j:=1) F L4 rfl rfl λr A g s H E i =>
   (uu (uv 2 L4.nd (Au (vg (uG (uz a (uj (ss 1) uf)))) (vg (uG (uz b (uj (ss 1) uf))))) (hx:=tU rfl))
   (ug (uD (wg (Ts:=["_law_k"]) (Fr:=["_law_bound"]) (idx:=[2]) (k:=1) (mb:=[1]) (is:=[]) (cl:=[("_law_bound",s.heap.objs.size+1)]) rfl (vv (uG (uz c (uj (ss 0) uf)))) Rx rfl (vN rfl) (λd e C l m=>(uF 0 (ut Q3))) (λd e C l m=>(tws_one (tw_cmI Dj (ss 0) (vt 1) (by with_unfolding_all rfl)))) (λd e C l m=>(ss 0))))))) λp v w h=>?_
 walk_at "wl"
 obtain⟨i,n,t⟩:=h;have x:gf=16777216:=iu;have y:(p.2.1.map (·.1)).length=p.2.1.length:=gh _;have z:(Av (p.2.1.map (·.2))).length=p.2.1.length:=by rw[(vI _).length_eq,gh]
 have B:=wT p.1;refine⟨n,n,?_⟩;refine⟨by show (p.2.1.map (·.1)).length+(Av (p.2.1.map (·.2))).length<=gf;lia,i,?_⟩;exact⟨by show (Cb p.1).length<=gf;lia,vo (q:=λk=>!decide (k∈p.2.1.map (·.1)++Av (p.2.1.map (·.2)))) (λk _ K u=>u) t⟩
abbrev Q4:gP:=top 49
abbrev Q5:List Str:=["_law_found"]
theorem Q6:um ["_law_found","_law_k"] Q5 (ue Q4):=by walk_at "sc"
abbrev Zc(q:Cq)(k:Nat):=wC q "_law_sum" Q5 w_sum k
theorem W7(F:DB q "_law_sum" Q4 f m)(c:Zb q 3)(B:Bn q.mg):Gq q 4 f m Q5 w_sum:=by
 refine' ur (vS (D':=Unit) (ms:=[]) (j:=1) F Q6 rfl rfl λn A d s H E i =>
   (uu (uS (tw_not (tw_val (uw (uz c (uj (ss 0) uf)))))
   (ug<|uD<|uQ AO)
   uH)
   (uu (vT (is:=[]) (mb:=[]) (D1:=(List Int)×Int×Unit) (D2:=(List Int)×Int×Unit) (uI q0q) ya rfl (MP rfl B.range ui (xf rfl B.len (vg (ss 0))) (λh=>Mg rfl B.range h)) (uF 1 (ut Q6.nd))
   (ug (uS (tw_cm OQ (xS (vg (ss 0)) (zN Fj (ss 1) ui)) (xS (vg (ss 0)) (ss 1)))
   (ug<|uD<|uQ AO)
   uH)) q0q q0q)
   (ug (uD (uQ AO)))))) λp x y h=>?_
 walk_at "wl"
 obtain⟨i,z,e⟩:=h;refine WY ?_;rw[f8 q0q];refine⟨⟨q0q,q0q,q0a,q0a⟩,?_⟩;refine uZ (λ(r:List Int)(b:List Int×WL.Un×Unit)=>b.1=p.1/\∀k∈r,1<=k/\k<p.1.length) (xO 1 p.1.length) ⟨rfl,λk e=>QL e⟩ ?_ ?_
 ·rintro k r ⟨D,G⟩ _ ⟨l,g⟩ K o;dsimp only at l ⊢;subst l;obtain⟨a,b,t,u,v⟩:=WX i (g k gc).1 (g k gc).2;refine⟨a,t,b,u,?_⟩;rw[f8<|by simpa using v];exact o _ ⟨rfl,λj w=>g j<|gg _ w⟩
 ·exact λ_ _=>e
abbrev D6:gP:=top 50
abbrev D7:List Str:=["_law_row_here","_law_keep"]
theorem Np:um ["_law_row_here","_law_keep"] D7 (ue D6):=by walk_at "sc"
theorem Kz:(["_law_x","_law_keep"]:List Str).Nodup:=by decide +kernel
abbrev Q7(q:Cq)(k:Nat):=wC q "_law_parted" D7 DW k
theorem Nq(F:DB q "_law_parted" D6 f g):Gq q 2 f g D7 DW:=by
 refine' ur (vS (D':=Unit) (ms:=[]) (j:=0) F Np rfl rfl λi A c s H E o =>
   (ug (uD (wg (Ts:=["_law_x"]) (Fr:=["_law_keep"]) (idx:=[1]) (k:=1) (mb:=[1]) (is:=[]) (cl:=[("_law_keep",s.heap.objs.size+1)]) rfl (vv (ss 0)) Rx rfl (vN rfl) (λa b C d e=>(uF 0 (ut Kz))) (λa b C d e=>(tws_one (tw_cmI U0 (ss 0) (vg (ss 1)) (by with_unfolding_all rfl)))) (λa b C d e=>(ss 0)))))) λp r t h=>?_
 walk_at "wl"
 obtain⟨l,m⟩:=h;exact⟨ve l,vo (q:=λk=>decide<|k∈p.2.1) (λk _ K n=>n) m⟩
end
abbrev Q8:gP:=top 31
theorem W8{K:fZ}{p:YH K×Unit}{a:Bg->WL.Un×Unit->Prop}{b:cr->WL.Un×Unit->Prop}(k:a ⟨⟩ (⟨⟩,())):Pr K p a b:=k
section
variable{C:cr}{x:B0 C}{rows:List RW}{a:List (Int×Int)}
theorem Arr.tail(A:Arr x a){k:Int}:k∈a.map (·.1)↔k∈vf x:=A.pm.mem_iff
theorem Arr.hdm(A:Arr x a){k:Int}(h:∃t∈vf x,vB x t=k):k∈a.map (·.2):=by obtain⟨t,m,e⟩:=h;obtain⟨b,c,q⟩:=List.mem_map.mp<|A.tail.mpr m;refine List.mem_map.mpr ⟨b,c,?_⟩;rw[<- e,<- q];exact(A.hd b c).symm
theorem Arr.hdt(A:Arr x a){k:Int}(h:k∈a.map (·.2)):∃t∈vf x,vB x t=k:=by obtain⟨e,b,rfl⟩:=List.mem_map.mp h;exact⟨e.1,A.mem b,A.hd e b⟩
theorem yQ(A:Arr x a){k:Int}:k∈Ry rows a↔(rowAt rows k).isSome=true/\k∉vf x/\k∉a.map (·.2):=by unfold Ry;rw[iE,xY,tP,decide_eq_false_iff_not,ki,xq,A.tail,oW]
theorem Us:(Ry rows a).length<=rows.length:=gO (gQ _ _)<|wT rows
theorem W9(A:Arr x a){k:Int}(h:k∈Ry rows a):wn x k=false:=by
 have h:=(yQ A).mp h;unfold wn;rw[LI h.2.1]
 cases e:lk x.th k with
 | none=>rfl
 | some l =>
  have b:=A.ok.th l k e;exact gy (A.hdm ⟨l,yL (by rw[b];rfl),by unfold vB;rw[b];rfl⟩) h.2.2
theorem Nr(A:Arr x a){k:Int}(h:k∈a.map (·.2)):k∉vf x:=λz=>by obtain⟨t,m,e⟩:=A.hdt h;refine A.ok.one k (wK z) ?_;rw[<- e,(A.ok.ht t _<|vQ m).2.2.2];rfl
theorem D8(A:Arr x a)(c:yc x rows){k:Int}(h:k∈a.map (·.2)):(rowAt rows k).isSome=true:=by obtain⟨t,m,e⟩:=A.hdt h;have:=A.ok.FH m;rw[e,c.rk,hV] at this;exact this
structure Up{C:cr}(x:B0 C)(rows:List RW)(a:List (Int×Int))(l f:List Int):Prop where
 A:Arr x a
 c:yc x rows
 v:Vr rows
 ln:rows.length<=35
 ri:wl l
 ll:∀k∈l,k∈Ry rows a
 fl:∃h,f=xr l h/\Fl x (u4 (vR x) l) h
theorem Zd(A:Arr x a)(c:yc x rows)(v:Vr rows)(r:rows.length<=35)(o:wl l)(n:∀k∈l,k∈Ry rows a)(k:∀f,Up x rows a l f->s ⟨f⟩ (x,⟨⟩,())):w_up C (x,l,()) s u:=by
 have g:∀k∈l,(rowAt rows k).isSome=true:=λk e=>((yQ A).mp<|n k e).1
 have p:∀{k:Int},(rowAt rows k).isSome=true->0<=k/\k<63:=λ{k} h=>by obtain⟨y,b⟩:=Option.isSome_iff_exists.mp h;have:=uC b;exact⟨this.1,by have:=this.2.1;omega⟩
 refine⟨⟨A.ok,⟨o,λk e=>p<|g k e⟩,c.vF g,λk e=>W9 A<|n k e,c.vF λd i=>?_,λd i=>p<|by rw[c.rk,hV] at i;exact i⟩,λh f=>k _ ⟨A,c,v,r,o,n,h,rfl,f⟩⟩;obtain⟨j,m,q⟩:=zp (λj m=>by rw[c.vR];obtain⟨y,b⟩:=Option.isSome_iff_exists.mp<|g j m;rw[xM b];exact uq (v.Ng b).1) i;obtain⟨y,b⟩:=Option.isSome_iff_exists.mp<|g j m;rw[c.vR,xM b] at q;obtain⟨_,w,t⟩:=(v.ok j y.1 y.2 b).2.2.2.1 d q;rw[t];rfl
namespace Up
variable{l f:List Int}(s:Up x rows a l f)
include s
theorem Ze:wl f:=by obtain⟨h,e,_⟩:=s.fl;rw[e];exact xE s.ri
theorem mem{k:Int}(h:k∈f):k∈l\/k∈a.map (·.2):=by obtain⟨b,e,g⟩:=s.fl;rw[e] at h;exact(FT (uq g.ri) h).imp id λz=>s.A.hdm<|g.hs k z
theorem st{k:Int}(h:k∈f):(rowAt rows k).isSome=true:=(s.mem h).elim (λz=>((yQ s.A).mp<|s.ll k z).1) λz=>D8 s.A s.c z
theorem nt{k:Int}(h:k∈f):k∉vf x:=(s.mem h).elim (λz=>((yQ s.A).mp<|s.ll k z).2.1) λz=>Nr s.A z
theorem low{k:Int}:k∈f/\k∈Ry rows a↔k∈l:=by refine⟨λh=>(s.mem h.1).elim id λz=>gy z ((yQ s.A).mp h.2).2.2,λh=>⟨?_,s.ll k h⟩⟩;obtain⟨b,e,g⟩:=s.fl;rw[e];exact(yb<|uq g.ri).mpr ⟨λ_ z=>((yQ s.A).mp<|s.ll k h).2.2<|s.A.hdm<|g.hs k z,λ_=>h⟩
theorem len:f.length<=35:=by have:=vE s.Ze λk b=>xY.mpr<|s.st b;have:=wT rows;have:=s.ln;omega
theorem nf{k:Int}(h:(rowAt rows k).isSome=true):(vR x k).Nodup:=by obtain⟨y,b⟩:=Option.isSome_iff_exists.mp h;rw[s.c.vR,xM b];exact uq (s.v.Ng b).1
theorem ed{t:Int}(b:t∈vf x):t∉u4 (eb rows) f:=by obtain⟨h,e,g⟩:=s.fl;rw[<- vO λk _=>s.c.vR k,e,CD s.ri g.ri (λk d=>s.nf ((yQ s.A).mp<|s.ll k d).1)<|Vb s.A.ok g.hs];exact g.nt t b
theorem more(i:wl m)(j:∀k∈m,k∈a.map (·.2)):(∀t∈vf x,t∉u4 (eb rows) (xr f m))↔m=[]:=by refine⟨λh=>?_,λh=>by subst h;exact λt d=>s.ed d⟩;obtain⟨n,e,g⟩:=s.fl;refine TZ s.A.ok g.od i (λk b=>s.A.hdt<|j k b) λt d=>of_decide_eq_false ?_;have q:=gI<|h t d;rw[<- vO λk _=>s.c.vR k,CD s.Ze i (λk b=>s.nf<|s.st b)<|λk b=>s.nf<|D8 s.A s.c<|j k b,Qw<|v8 _ _,vO λk _=>s.c.vR k,gI<|s.ed d,oQ] at q;exact q
theorem part:(f.filter λk=>decide<|k∈Ry rows a)=l:=CA (i8 _ s.Ze) s.ri λk=>by rw[iE,hJ];exact s.low
end Up
theorem Zf(v:Vr rows)(e:∀k∈g,(rowAt rows k).isSome=true){d:Int}(f:d∈u4 (eb rows) g):(rowAt rows d).isSome=true:=by obtain⟨c,m,q⟩:=zp (λc m=>by obtain⟨y,b⟩:=Option.isSome_iff_exists.mp<|e c m;rw[xM b];exact uq (v.Ng b).1) f;obtain⟨y,b⟩:=Option.isSome_iff_exists.mp<|e c m;rw[xM b] at q;obtain⟨_,i,h⟩:=(v.ok c y.1 y.2 b).2.2.2.1 d q;rw[h];rfl
theorem Q9(v:Vr rows)(b:∀k∈g,(rowAt rows k).isSome=true):(u4 (eb rows) g).length<=rows.length:=gO (vE (v8 _ _) λd c=>xY.mpr<|Zf v b c)<|wT rows
theorem Rc(c:rows.length<=35){k:Int}(h:(rowAt rows k).isSome=true):k∈xO 0 35:=by obtain⟨y,b⟩:=Option.isSome_iff_exists.mp h;have:=uC b;exact yK this.1 (by have:=this.2.1;omega)
end
theorem Fd{l k:List Int}(h:∀c∈l,c∉k):(l.filter λc=>decide<|c∈k)=[]:=List.filter_eq_nil_iff.mpr λc a z=>h c a<|jo z
theorem Nt{l k:List Int}(h:∀c∈l,c∈k):(l.filter λc=>decide<|c∈k)=l:=List.filter_eq_self.mpr λc a=>decide_eq_true<|h c a
section
variable{C:cr}{x:B0 C}{rows:List RW}{a:List (Int×Int)}{l g:List Int}{Kb:Bool->WL.Un×Unit->Prop}{K1:OL Int->WL.Un×Unit->Prop}{K2:OL Int->WL.Un×WL.Un×Unit->Prop}{E1:cr->WL.Un×Unit->Prop}{E2:cr->WL.Un×WL.Un×Unit->Prop}
theorem Re{c:Bool}{P Q:Prop}(h:c=false)(k:Q):if c=true then P else Q:=by rw[f8<|by rw[h];decide];exact k
theorem Rf:(!decide (([]:List Int)=[]))=false:=rfl
theorem Vc:(!decide (l=l))=false:=by rw[decide_eq_true rfl];rfl
theorem Xa(h:wl l)(n:l.length<=35)(k:Kb true (⟨⟩,())):w_sum (l,()) Kb E1:=⟨h,gO n q0q,k⟩
theorem Bh(n:l.length<=35)(e:(l.filter λc=>decide<|c∈g)=r)(k:K2 ⟨r⟩ (⟨⟩,⟨⟩,())):DW (l,g,()) K2 E2:=⟨gO n q0q,by rw[<- e] at k;exact k⟩
theorem Rh(n:rows.length<=35)(k:K1 ⟨Cb rows⟩ (⟨⟩,())):J4 (rows,()) K1 E1:=⟨iY n q0q,k⟩
theorem Iz(v:Vr rows)(h:∀c∈l,(rowAt rows c).isSome=true)(k:K2 ⟨u4 (eb rows) l⟩ (⟨⟩,⟨⟩,())):J7 (rows,l,()) K2 E2:=⟨v,h,k⟩
theorem L5(n:rows.length<=35)(m:a.length<=35)(k:K2 ⟨Ry rows a⟩ (⟨⟩,⟨⟩,())):J9 (rows,a,()) K2 E2:=⟨iY n q0q,iY m q0q,k⟩
theorem Ri(m:a.length<=35)(k:K1 ⟨a.map (·.1)⟩ (⟨⟩,())):DV (a,()) K1 E1:=⟨iY m q0q,k⟩
theorem Rj(m:a.length<=35)(k:K1 ⟨Av (a.map (·.2))⟩ (⟨⟩,())):GN (a,()) K1 E1:=⟨iY m q0q,k⟩
theorem IA{b:Bg}{K2:OL Int->Bg×WL.Un×Unit->Prop}{E2:cr->Bg×WL.Un×Unit->Prop}(n:l.length<=35)(k:∀m,wl m->(∀x∈m,x∈l)->K2 ⟨m⟩ (⟨⟩,⟨⟩,())):J5 (b,l,()) K2 E2:=⟨iY n q0q,k⟩
theorem Ut(n:rows.length<=35)(c:wl l)(d:wl g)(e:∀k∈l,(rowAt rows k).isSome=true)(f:∀k∈g,(rowAt rows k).isSome=true)(k:K2 ⟨xr l g⟩ (⟨⟩,⟨⟩,())):GJ (l,g,()) K2 E2 :=
 ⟨J8 c d (λk b=>Rc n<|e k b)<|λk b=>Rc n<|f k b,by rw[<- Pe c d] at k;exact k⟩
theorem Uu(m:a.length<=35):(Av (a.map (·.2))).length<=35:=by rw[(vI _).length_eq,gh];exact m
theorem Arr.len(A:Arr x a)(c:yc x rows)(n:rows.length<=35):a.length<=35:=by have:=A.Ua c n;lia
end
section
variable{q:Cq}{C XC XS XO XB XP XV WJ XF XT XN XR XL:cr}
abbrev Bi:gP:=top 51
theorem yd:um ["_law_script","_law_bag_here","_law_field","_law_rows_here","_law_arrows","_law_tails_here","_law_row_here","_law_found","_law_more","_law_other"] ["_law_script"] (ue Bi):=by walk_at "sc"
abbrev L6(q:Cq)(C:cr):=λ(d:(YH q.K)×Bg×(Bd C true)×(OL RW)×(OL<|Int×Int)×(OL Int)×(OL Int)×(OL Int)×Un×Un×Unit) (_:Unit->Prop) (a:Bool->Un×Unit->Prop) (_:cr->Un×Unit->Prop)=>(Up d.2.2.1 d.2.2.2.1.l d.2.2.2.2.1.l d.2.2.2.2.2.2.1.l d.2.2.2.2.2.2.2.1.l/\d.2.2.2.2.2.1.l=d.2.2.2.2.1.l.map (·.1))/\a true (⟨⟩,())
theorem Xb{f:cr}{Z:g9}(F:DB q "law" Bi f Z)(J:wC q "_law_bag" ["_law_script"] (Pr q.K) 10)(w:Uq q C 10)(r:Iy q 10)(g:QR q 10)(n:W6 q 10)(O:a01 q C 10)(L:Zc q 10)(e:Q7 q 10)(D:GP q 10)(o:QS q 10)(y:L0 q 10)(G:GO q 10)(B:Bn q.mg):Gq q 11 f Z ["_law_script"] (U7 q.K):=by
  refine' ur (vS (D':=Unit) (ms:=[]) (j:=9) F yd rfl rfl λab A W s H E N =>
      (uu (uv 1 yd.nd (uz J (uj (ss 0) uf)))
      (uu (Tk 2 3 4 (Bm rfl (vH (ut (i:=2) yd.nd) (vH (ut (i:=3) yd.nd) (vH (ut (i:=4) yd.nd) zJ)))) q0q q0q q0q (uz w (uP 1 (uj ui uf))))
      (uu (uv 5 yd.nd (uz r (uA 4 uf)))
      (uu (uv 6 yd.nd (uz g (uP 1 (uj (uG (uz n (uA 3 (uA 4 uf)))) uf))))
      (uu (uv 7 yd.nd (uz O (uP 2 (uj (uG (FJ rfl B.list (vt 6))) uf))))
      (CF (w':=L6 q C) (uu (uS (tw_w (Lj (tw_not (tw_val (uw (uz L (uA 7 uf))))) (FP (tw_cmL (zl N.units) (vg (uG (uz e (uA 7 (uA 5 uf))))) (vg (uG (uy (α:=Int) ux)))))))
      (ug<|uD<|uQ AO)
      uH)
      (CF (w':=L6 q C) (uu (uS (tw_w (Lj (tw_cmL (zl N.units) (vg (uG (uz e (uA 7 (uj (uG (uz D (uA 3 uf))) uf))))) (vt 7)) (FP (tw_cmL (zl N.units) (vg (uG (uz e (uj (uG (uz o (uA 3 (uA 7 uf)))) (uA 5 uf))))) (vg (uG (uy (α:=Int) ux)))))))
      (ug<|uD<|uQ AO)
      uH)
      (CF (w':=L6 q C) (uu (uS (tw_cmL (zl N.units) (vg (uG (uz e (uA 7 (uj (uG (uz n (uA 3 (uA 4 uf)))) uf))))) (vt 6))
      (ug<|uD<|uQ AO)
      uH)
      (CF (w':=L6 q C) (uu (uv 8 yd.nd (uz g (uP 1 (uj (uG (uz y (uA 4 uf))) uf))))
      (uu (uv 9 yd.nd (uz o (uA 3 (uj (uG (uz G (uA 7 (uA 8 uf)))) uf))))
      (ug (uD (uQ (Yk zk (OS (FN N.units) (vg (uG (uz e (uA 9 (uA 5 uf))))) (vg (uG (uy (α:=Int) ux)))) (OS (FN N.units) (vt 8) (vg (uG (uy (α:=Int) ux)))))))))) (by
   intro d P S T h
   walk_at "wl"
   obtain⟨⟨s,I⟩,k⟩:=h
   have Q:=s.A.len s.c s.ln
   refine Rj Q<|IA (Uu Q) λm R X=>?_
   have hm:=λk M=>xq.mp<|X k M
   have ms:=λk M=>D8 s.A s.c<|hm k M
   have js:=λk M=>(FT (uq R) M).elim (λz=>s.st z) λz=>ms k z
   refine Ut s.ln s.Ze R (λk M=>s.st M) ms<|Iz s.v js<|Bh (gO (Q9 s.v js) s.ln) rfl ?_
   refine Eq.mp (congrArg (λb=>S b _) ?_) k
   refine(decide_eq_true<|decide_eq_decide.mpr<|Iff.trans ?_<|s.more R hm).symm
   rw[I]
   exact List.filter_eq_nil_iff.trans ⟨λh t Y u=>h t u<|decide_eq_true<|s.A.tail.mpr Y,λh t u Y=>h t (s.A.tail.mp<|jo Y) u⟩
))) (by
   intro d P S T h
   walk_at "wl"
   obtain⟨⟨s,I⟩,k⟩:=h
   exact L5 s.ln (s.A.len s.c s.ln) (Bh s.len s.part<|Re Vc ⟨⟨s,I⟩,k⟩)
))) (by
   intro d P S T h
   walk_at "wl"
   obtain⟨⟨s,I⟩,k⟩:=h
   refine Rh s.ln<|Bh s.len (Nt λc u=>xY.mpr<|s.st u)<|Re Vc ?_
   refine Iz s.v (λc u=>s.st u)<|Bh (gO (Q9 s.v λc u=>s.st u) s.ln) (Fd λc u z=>?_)<|Re Rf ⟨⟨s,I⟩,k⟩
   rw[I] at z
   exact s.ed (s.A.tail.mp z) u
))) (by
   intro d P S T h
   walk_at "wl"
   obtain⟨⟨s,I⟩,k⟩:=h
   refine Xa s.Ze s.len<|Re rfl ?_
   exact Bh s.len (Fd λc u=>by rw[I,s.A.tail];exact s.nt u) (Re Rf ⟨⟨s,I⟩,k⟩)
)))))))) λp P T h=>?_
  walk_at "wl"
  have h:P true (⟨⟩,()):=h
  refine W8 ?_
  refine⟨⟨q0q,q0q⟩,λx aa a c v U A=>?_⟩
  have Q:=A.len c U
  exact Ri Q<|L5 U Q<|IA (gO Us U) λl R X=>Zd A c v U R X λf s=>⟨⟨s,rfl⟩,h⟩
end
section
variable{P:gS}{w:ic}{K:fZ}{mg:Str->Option ci}{base:hR}
theorem Rl:um ["_law_bag_here","_law_many","_law_seed","_law_mixed","_law_drawn"] ["_law_bag_here","_law_many"] (ue J3):=⟨rfl,rfl,rfl,q0s,rfl,q0s,q0s⟩
theorem Uv(F:ye K "_law_pull" "_law_pull" J3 f I)(c:mg "len"=none):uL P w K mg base Oi 1 f I ["_law_bag_here","_law_many"] WL.O6:=by
 refine F.ok Rl (λJ H Q E h=>?_)<|λL A p s H J Q E N h=>?_
 ·obtain⟨g,q,m,i,z,s,e,rfl,_⟩:=h;rfl
 ·obtain⟨g,q,m,i,z,j,e,rfl,B,d,v,k⟩:=h;have l:=Rl.nd
  refine⟨_,vr (KL (wR UI (xi vV (pv 0) uE (λ_ _=>rfl)) uE (x8 _))
    (vr (RG (pv 0) uE Ov uE NJ set_list)
    (vr (yZ (i:=2) l rfl (nI rfl) (xi vV (pv 0) uE (λ_ _=>rfl)))
    (vr (KL (wR UI (xi vV (pv 0) uE (λ_ _=>rfl)) (v6 xl (by rfl) c mI (ul (xi vV (pv 0) uE (λ_ _=>rfl)) uB)) (x8 _))
     (wQ (yZ (i:=2) l rfl (nI rfl) (xi vV (xi vV (pv 0) uE (λ_ _=>rfl)) (v0 Fj (xi vV (pv 0) uE (λ_ _=>rfl)) uE) (λ_ _=>rfl)))) yz)
    (vr (KL (UC (wR UJ (xi vV (pv 0) uE (λ_ _=>rfl)) (v6 xl (by rfl) c mI (ul (xi vV (pv 0) uE (λ_ _=>rfl)) uB)) (x8 _)) (NG (wR UH (pv 2) (v0 VC uE uE) (x8 _)))).pt
     (vr (yZ (i:=3) l rfl (nI rfl) (v0 Bo (v0 Al (v0 Al (v0 Am (pv 2) uE) (v0 Am (xi vV (pv 0) uE (λ_ _=>rfl)) uE)) uE) uE))
     (vr (yZ (i:=3) l rfl (nI rfl) (v0 Bo (v0 Am (pv 3) (pv 3)) uE))
     (wQ (Bl (v0 Bo (v0 KN (v0 Bo (v0 Am (v0 Al (pv 3) (xi vV (pv 0) uE (λ_ _=>rfl))) uE) uE) uE) (pv 1)))))) yz)
    (wQ (IM (pv 2) (NI (pv 0) uE set_list))))))) yz)
   (vr (yZ (i:=4) l rfl (nI rfl) (v0 Bo (xi vV (pv 0) uE (λ_ _=>rfl)) (pv 1)))
   (vr (IM (v0 KN (xi vV (pv 0) uE (λ_ _=>rfl)) (pv 1)) (NI (pv 0) uE set_list))
   (wQ (Bl (pv 4))))),?_⟩
  refine⟨_,rfl,g,_,_,_,rfl,rfl,vA.of B.ob,O5 _ _ _ _,_,_,rfl,rfl,_,rfl,?_⟩;refine RY (λ_=>?_)<|λ_=>?_
  ·-- r[1] += 1;x=r[3]
   refine⟨_,rfl,g,_,_,_,rfl,rfl,B.ob,q0q,rfl,_,_,rfl,rfl,g,_,_,1,rfl,rfl,B.ob,rfl,?_⟩;have a:B6 (upd H g<|.lst<|Em q (i+1) z j) g q m (i+1) z j:=B.put (by have:=B.i0;lia);refine⟨_,rfl,g,_,_,_,rfl,rfl,vA.of a.ob,a0I _ _ _ _,?_⟩;refine⟨_,rfl,g,_,_,_,rfl,rfl,vA.of a.ob,O3 _ _ _ _,_,rfl,g,_,_,_,rfl,rfl,vA.of a.ob,Wr _ _ _ _,q,_,rfl,.inl<|vA.of a.sc,_,_,rfl,rfl,_,rfl,?_⟩;have b:=a;refine' cutG (α:=Int) (G:=_) (λy=>RY (λC=>?_)<|λC=>?_) ?_
   rotate_left
   ·have t:i+1<=((m.map V.int).length:Int):=jo C;rw[gh] at t;obtain⟨n,M⟩:=SK (ns:=m) (i:=i+1-1) (by have:=B.i0;lia) q0a;refine⟨_,rfl,g,_,_,_,rfl,rfl,vA.of a.ob,Wr _ _ _ _,_,rfl,g,_,_,_,rfl,rfl,vA.of a.ob,O3 _ _ _ _,_,_,rfl,rfl,q,_,_,_,rfl,rfl,vA.of a.sc,M,?_⟩;exact y n
   ·exact y j
   ·intro n;refine⟨_,rfl,g,_,_,_,rfl,rfl,vA.of a.ob,O3 _ _ _ _,_,rfl,g,_,_,_,rfl,rfl,vA.of a.ob,Wr _ _ _ _,q,_,rfl,.inl<|vA.of a.sc,_,_,rfl,rfl,_,rfl,?_⟩;refine' cutP (G:=_) (λD=>RY (λ_=>a0h D)<|λ_=>?_) ?_
    ·refine⟨_,rfl,_,_,rfl,rfl,⟨q0q,q0q,q0q⟩,_,_,rfl,rfl,_,rfl,?_⟩;refine RY (λ_=>D)<|λ_=>?_;refine⟨_,rfl,_,rfl,g,_,_,2,rfl,rfl,a.ob,rfl,?_⟩;have b:=a.put (z':=n) a.i0;have u:=(Kp.at (g:=g) (H:=H) (o:=.lst<|Em q (i+1) z j)).trans<|Kp.at (o:=.lst<|Em q (i+1) n j);refine⟨_,rfl,g,_,_,_,rfl,rfl,vA.of b.ob,O5 _ _ _ _,_,rfl,_,_,rfl,rfl,d,?_⟩;refine⟨_,rfl,g,_,_,_,rfl,rfl,vA.of b.ob,O5 _ _ _ _,_,rfl,_,_,rfl,rfl,⟨d,v⟩,_,rfl,g,_,_,2,rfl,rfl,b.ob,rfl,?_⟩;exact⟨_,rfl,k _ _ _ _ (u.trans Kp.at) (b.put b.i0) (qE _ q0a)<|pI _ d⟩
    ·refine⟨_,rfl,_,_,rfl,rfl,.inr ⟨q0q,q0q⟩,_,rfl,g,_,_,_,rfl,rfl,vA.of a.ob,O3 _ _ _ _,_,_,rfl,rfl,.inr ⟨q0q,q0q⟩,_,_,rfl,rfl,_,_,rfl,rfl,_,_,rfl,rfl,(by show (0:Int)<2147483647;decide),?_⟩;refine⟨_,rfl,_,rfl,_,_,rfl,rfl,.inl<|Yt _,_,_,rfl,rfl,(by show (0:Int)<2147483629;decide),?_⟩;refine⟨_,rfl,_,rfl,g,_,_,_,rfl,rfl,vA.of a.ob,O3 _ _ _ _,_,_,rfl,rfl,_,_,rfl,rfl,.inr ⟨q0q,q0q⟩,_,_,rfl,rfl,(by show (0:Int)<998244353;decide),_,_,rfl,rfl,⟨q0q,q0q⟩,_,rfl,_,_,rfl,rfl,d,?_⟩;exact k _ _ _ _ Kp.at a (qE _ q0a)<|pI _ d
  ·have b:=B;have u:=Kp.refl g H;refine⟨_,rfl,g,_,_,_,rfl,rfl,vA.of b.ob,O5 _ _ _ _,_,rfl,_,_,rfl,rfl,d,?_⟩;refine⟨_,rfl,g,_,_,_,rfl,rfl,vA.of b.ob,O5 _ _ _ _,_,rfl,_,_,rfl,rfl,⟨d,v⟩,_,rfl,g,_,_,2,rfl,rfl,b.ob,rfl,?_⟩;exact⟨_,rfl,k _ _ _ _ (u.trans Kp.at) (b.put b.i0) (qE _ q0a)<|pI _ d⟩
theorem L7:um ["_law_script","_law_salt","_law_one"] ["_law_script"] (ue Q8):=⟨rfl,rfl,rfl,q0s,rfl,q0s,q0s⟩
theorem a07(a:List Int)(b c:Option Int):∃d:List Int,CW (a.map V.int) b c=d.map V.int:=by unfold CW;exact⟨_,by rw[<- List.map_drop,<- List.map_take]⟩
theorem Xd(F:ye K "_law_bag" "_law_bag" Q8 f U)(m:mg "len"=none)(g:mg "list"=none):uL P w K mg base Oi 1 f U ["_law_script"] (WL.U6 K):=by
 refine F.ok L7 (λX H Q E h=>?_)<|λY A B s H X Q E hr h=>?_
 ·obtain⟨a,N,rfl,_⟩:=h;rfl
 ·obtain⟨a,N,rfl,C,k⟩:=h
  refine⟨_,vr (yZ (i:=1) L7.nd rfl (nI rfl) (v6 xl (by rfl) m mI (ul (zb Cr (pv 0) Co (Cp uE)) uB)))
   (vr (NM PassesOwn.never rfl (Fi (zb Cr (pv 0) Co (Cp uE))) (ut (i:=2) L7.nd)
    (wQ (yZ (i:=1) L7.nd rfl (nI rfl) (v0 Bo (v0 Al (v0 Am (pv 1) uE) (pv 2)) uE))))
   (wQ (Bl (NT (ul (wE xm rfl g jS (ul (zb Cr (pv 0) Co (Cp uE)) uB)) (ul uE (ul uE (ul (pv 1) uB)))))))),?_⟩
  obtain⟨b,j⟩:=a07 N none<|some 63;refine⟨_,rfl,63,rfl,a,_,rfl,C,λp Z=>?_⟩;rw[j];have O:Ci H (upd H p<|.lst<|b.map V.int):=zm Z;refine⟨p,_,rfl,.inl<|vA.of uh,?_⟩;refine⟨_,rfl,63,rfl,a,_,rfl,O.seq C,λn D=>?_⟩;rw[j];have s2:Ci (upd H p<|.lst<|b.map V.int) (upd (upd H p<|.lst<|b.map V.int) n<|.lst<|b.map V.int):=zm D;have c:=O.trans s2;generalize G:upd (upd H p<|.lst<|b.map V.int) n (.lst<|b.map V.int)=H2 at c;have q:H2 n=some (.lst<|b.map V.int):=by rw[<- G];exact uh
  refine⟨n,rfl,⟨_,vA.of q⟩,NN (K:=K) (a:=n) (xs:=b.map V.int) (λi u x=>x=H2/\∃(r:Int)(v:Option V),u=[some<|.ref a,some<|.int r,v]) ⟨rfl,_,none,rfl⟩ (λi u x _ z9=>e0a2 z9 λe _=>by rw[e];exact vA.of q) ?_ ?_⟩
  ·rintro i y u x d ⟨rfl,r,v,rfl⟩
   obtain⟨z,rfl⟩:∃z,y=V.int z:=by
    rw[i4] at d
    cases e:b[i]? with
    | none=>rw[e] at d;cases d
    | some z=>rw[e] at d;exact⟨z,(ii d).symm⟩
   exact⟨_,rfl,_,_,rfl,rfl,.inr ⟨q0q,q0q⟩,_,rfl,_,_,rfl,rfl,_,_,rfl,rfl,(by show (0:Int)<1000003;decide),rfl,_,_,rfl⟩
  ·rintro u x ⟨rfl,r,v,rfl⟩;refine⟨_,rfl,63,rfl,a,_,rfl,c.seq C,λp3 I=>?_⟩;rw[j];refine⟨p3,_,rfl,.inl<|vA.of uh,λJ t=>⟨_,rfl,(by decide:4<=gf),λR l=>?_⟩⟩;have L:=zm (o:=.lst<|b.map V.int) I;have S:=zm (o:=.lst<|b.map V.int) t;have T:=zm (o:=.lst<|Em J 0 0 r) l;have M:J≠R:=uo uh l;refine k _ R J b r (((c.trans L).trans S).trans T) ⟨uh,T _ _ uh,nw _,M⟩ ?_ ?_
   ·exact(((c.trans L).trans S).free l)
   ·exact((c.trans L).free t)
end
local macro_rules | `(tactic| walk_at "wl") => `(tactic| dsimp only [At.get, At.hole, Pt.put, Ent.ent, Pj.pj, Fg.fg, Sel.sel, Sel.rest, Sel.mrg, Pre.pre, Pre.suf, at0, atS, pt0, ptS, ent0, entS, entC, pjNil, pjUn, pjCons, fgId, fgUn, fgCons, selNil, selCons, pre0, preS, stepC, id, ID.get, ID.set, wSq])
local macro_rules | `(tactic| walk_at "sc") => `(tactic| exact ⟨rfl, rfl, rfl, by decide +kernel, rfl, by decide +kernel, by decide +kernel⟩)
local macro_rules | `(tactic| walk_at "ss") => `(tactic| exact ⟨rfl, rfl, rfl, by decide +kernel, rfl, by decide +kernel, by decide +kernel, by decide +kernel, rfl, rfl⟩)
section
variable{q:Cq}{C XC XS XO XB XP XV WJ XF XT XN XR XL:cr}
abbrev KA:gP:=Bk (top 28) 1
theorem Uw:xG B8 B8 (ue KA):=by walk_at "ss"
abbrev D9:gP:=Bk (top 28) 4
theorem Nu:xG xW xW (ue D9):=by walk_at "ss"
abbrev G6:gP:=Bk (top 28) 8
theorem Rm:xG zA zA (ue G6):=by walk_at "ss"
abbrev yR:gP:=Bk (top 28) 9
theorem Ew:xG vL vL (ue yR):=by walk_at "ss"
abbrev BS:gP:=Bk (top 28) 7
theorem KC:xG w6 w6 (ue BS):=by walk_at "ss"
abbrev G7:gP:=Bk (top 28) 2
theorem IB:xG zB zB (ue G7):=by walk_at "ss"
theorem Ux{f:cr}{fd:g9}{k:Nat}(F:DD q.P q.K C "put" "Field.put" KA f fd)(G:Fs q.P q.w q.K q.mg q.base C "put" B8 (xN q.T<|Il C XB XS XC XO XP) k):Gq q (k+1) f fd B8 (Il C XB XS XC XO XP) :=
 zq (m:="put") (ta:=(BX (uN 1)<|BX (uN 2) Cf)) F Uw rfl rfl (λ_=>⟨_,rfl⟩) G (λyr cc A outer s H E=>(ul (pv 1)<|ul (pv 2) uB)) (λa r H Q hl h=>by obtain⟨u1,u2,rfl⟩:=lx2 r<|ml hl;exact⟨u1,rfl,u2,rfl,h⟩) (λf2 env h=>cw_cons h)
theorem Nv{f:cr}{fd:g9}{k:Nat}(F:DD q.P q.K C "cells" "Field.cells" D9 f fd)(G:Fs q.P q.w q.K q.mg q.base C "cells" xW (xN q.T<|CL C) k):Gq q (k+1) f fd xW (CL C) :=
 zq (m:="cells") (ta:=Cf) F Nu rfl rfl (λ_=>⟨_,rfl⟩) G (λyr cc A outer s H E=>uB) (λa r H Q hl h=>by obtain rfl:=lx0 r<|ml hl;exact h) (λf2 env h=>cw_nil h)
theorem Rn{f:cr}{fd:g9}{k:Nat}(F:DD q.P q.K C "over" "Field.over" G6 f fd)(G:Fs q.P q.w q.K q.mg q.base C "over" zA (xN q.T<|Gi C XC) k):Gq q (k+1) f fd zA (Gi C XC) :=
 zq (m:="over") (ta:=(BX (uN 1) Cf)) F Rm rfl rfl (λ_=>⟨_,rfl⟩) G (λyr cc A outer s H E=>(ul (pv 1) uB)) (λa r H Q hl h=>by obtain⟨u1,rfl⟩:=lx1 r<|ml hl;exact⟨u1,rfl,h⟩) (λf2 env h=>cw_cons h)
theorem Ex{f:cr}{fd:g9}{k:Nat}(F:DD q.P q.K C "border_of" "Field.border_of" yR f fd)(G:Fs q.P q.w q.K q.mg q.base C "border_of" vL (xN q.T<|w4 C XS XC) k):Gq q (k+1) f fd vL (w4 C XS XC) :=
 zq (m:="border_of") (ta:=(BX (uN 1) Cf)) F Ew rfl rfl (λ_=>⟨_,rfl⟩) G (λyr cc A outer s H E=>(ul (pv 1) uB)) (λa r H Q hl h=>by obtain⟨u1,rfl⟩:=lx1 r<|ml hl;exact⟨u1,rfl,h⟩) (λf2 env h=>cw_cons h)
theorem KD{f:cr}{fd:g9}{k:Nat}(F:DD q.P q.K C "border" "Field.border" BS f fd)(G:Fs q.P q.w q.K q.mg q.base C "border" w6 (xN q.T<|A7 C XC) k):Gq q (k+1) f fd w6 (A7 C XC) :=
 zq (m:="border") (ta:=(BX (uN 1) Cf)) F KC rfl rfl (λ_=>⟨_,rfl⟩) G (λyr cc A outer s H E=>(ul (pv 1) uB)) (λa r H Q hl h=>by obtain⟨u1,rfl⟩:=lx1 r<|ml hl;exact⟨u1,rfl,h⟩) (λf2 env h=>cw_cons h)
theorem Ro{f:cr}{fd:g9}(F:DD q.P q.K C "take" "Field.take" G7 f fd)(ct:Aw q.K C)(wA:vP q C XC 7)(Nx:BL q C 7)(G:Fs q.P q.w q.K q.mg q.base C "take" zB (xN q.T<|Gj C XC XV) 7):Gq q 8 f fd zB (GF C XC XV):=by
 refine' ur (YQ (A:=B0 C×Int×Unit) (PO:=B0 C×WL.Un×Unit) (ms:=[0]) (uI q0q) F IB rfl λyr cc A outer s H E D hr =>
  U8 (uX<|uw<|vz 0 wA (uj (ss 1) uf) (hx:=Pw))
   (U8 (uS (tw_val (uw (vz 0 Nx (uj (ss 1) uf) (hx:=Pw)))) OK uH)
    (Th (m:="take") (ta:=BX (uN 1) Cf) D IB rfl (λ_=>⟨_,rfl⟩) G hr (ul (pv 1) uB) (λa r H Q hl h=>by obtain⟨u,rfl⟩:=lx1 r hl;exact⟨u,rfl,h⟩) (λf2 env h=>cw_cons h)))) λp Kn Ke h=>?_
 walk_at "wl"
 obtain⟨t,ok,h⟩:=h;show if (lk p.1.rk p.2.1).isSome=true then (if wn p.1 p.2.1=true then False else Gj C XC XV (p.1,p.2) (λx p=>Kn () p) Ke) else Ke XC (p.1,⟨⟩,());by_cases hs:(lk p.1.rk p.2.1).isSome=true
 ·rw[f7 hs,f8<|by simp[t]];exact⟨ok,h⟩
 ·rw[f8 hs] at h ⊢;exact h
abbrev G8:gP:=Bk (top 28) 0
theorem Rp:xG ["self"] ["self"] (ue G8):=by walk_at "ss"
theorem Rq{k:Nat}(F:DD q.P q.K C "__init__" "Field.__init__" G8 f b)(c:Aw q.K C)(d:NC q.K C)(G:Fs q.P q.w q.K q.mg q.base C "__init__" ["self"] (FY C) k):uL q.P q.w q.K q.mg q.base (uV q.P q.w) (k+1) f b ["self"] (CH C) :=
 PD (p3:=⟨0,0,0,0⟩) (p4:=⟨0,0,0,0⟩) F Rp c d (λ_=>⟨_,rfl⟩) rfl G (λ_=>rfl) λe g A a s H E=>vr (Bp (pv 0) AH rfl)<|wQ<|Bp (pv 0) AH rfl
end
end K7
namespace K7
open PySem L2 WL
open WL.Rep (rp)
open WL.Ow (sl)
open WL.Sls (rel)
abbrev KG:List ci:=[.type "ValueError",.type "Exception",.type "BaseException",.type "object"]
abbrev yS:gP:=Bk (top 13) 0
abbrev KH:gP:=Bk (top 26) 0
theorem Uy:um ["self"] ["self"] (ue KH):=⟨rfl,rfl,rfl,q0s,rfl,q0s,q0s⟩
theorem Rr:xG ["self","ring"] ["self","ring"] (ue yS):=⟨rfl,rfl,rfl,q0s,rfl,q0s,q0s,q0s,rfl,rfl⟩
theorem Uz[L2.GX]{K:fZ}(F:ye K "__init__" "Body.__init__" KH f fd)(ct:Aw K C):uL P w K mg base (uV P w) 1 f fd ["self"] (FY C) :=
 Td F Uy ct λb A a s H E=>vr (Bp (pv 0) AH rfl)<|vr (Bp (pv 0) AH rfl)<|wQ<|Bp (pv 0) uE rfl
def gx0:L2.GX:=⟨λ_ _ _=>True⟩
section
variable{P:gS}{K:fZ}{C:cr}
/-- a method Y2 calls super(),as it lies behind the top -/
structure Mx(P:gS)(K:fZ)(C:cr)(m q:Str)(st:gP):Prop where
 ex:∃f fd,Meth K C m f/\∃(oc:ci)(od:Option cr)(kV doc pm:ci)(an:Option cr)(yr cc:cr)(ct:ci) (Mw:Array (Option ci)) (ocD:ci) (odD:Option cr) (vsD:Array ci) (slD:Array (Option ci)) (file:Str) (tf:Tok) (occ:ci) (odc:Option cr) (slc:Array (Option ci)),
  fd=jM m q (vh st) (uK st) (ue st) [("__class__",cc)] .none kV doc pm an (.ref yr) ct/\K.lookup f=some ⟨oc,od,.func fd,Mw⟩/\iN K (.ref yr) q=true/\iC K (.ref f)=true/\K.lookup yr=some ⟨ocD,odD,.fields vsD,slD⟩/\vsD[2]?=some (.str file tf)/\((P.main.file:Str)==file)=true/\K.lookup cc=some ⟨occ,odc,.cell<|some<|.ref C,slc⟩
theorem Zg{st:gP}{g:ci}(a:gN K (.ref C) m=some (some<|.ref f))(i:nA K (.ref f)=true)
 (l:K.lookup f=some ⟨z,od,.func<|jM m q (vh st) (uK st) (ue st) [("__class__",h)] .none g j pm A (.ref b) ct,n⟩)(c:iN K (.ref b) q=true)(k:iC K (.ref f)=true)(o:K.lookup b=some ⟨p,r,.fields d,s⟩)(t:d[2]?=some (.str file B))(u:((P.main.file:Str)==file)=true)(v:K.lookup h=some ⟨w,x,.cell<|some<|.ref C,y⟩):Mx P K C m q st :=
  ⟨_,_,⟨a,i,k⟩,_,_,_,_,_,_,_,_,_,_,_,_,_,_,_,_,_,_,_,rfl,l,c,k,o,t,u,v⟩
/-- the method of the class above Y2 super() e -/
structure Sx(K:fZ)(C:cr)(m q:Str)(st:gP):Prop where
 ex:∃f fd,Sm K C m f/\ye K m q st f fd
theorem Zh{st:gP}{d:ci}(a:jm K C C m=some (some<|.ref f))(ty:og K (.ref f)=some (.type "function"))(fn:lE K f=true)
 (l:K.lookup f=some ⟨h,od,.func<|iX m q (vh st) (uK st) (ue st) .none d e pm i b ct,g⟩)(c:iN K b q=true)(k:iC K (.ref f)=true):Sx K C m q st:=⟨_,_,⟨a,ty,fn⟩,C3 l c k⟩
theorem Mx.fx{st:gP}(M:Mx P K C m q st)(cl:∃s,lS K C=some s)(sub:j9 K C (.ref C)=some true)(g:gB K qz "thirdparty.any"=some none)(top:(P.main.scope.names.lookup ("super":Str)).isSome=false)(h:((vh st).posonlyargs++(vh st).args).head?=some p)(hs:p.arg="self")(ps:List Str)
 (b:∀(i d j:ci)(n:Option cr)(e o:cr)(ct:ci)(us:List ci),us.length=ps.length->rS (jM m q (vh st) (uK st) (ue st) [("__class__",o)] .none i d j n (.ref e) ct) ⟨us,[]⟩=pure (ps.zip us)):∃f fd,Meth K C m f/\DD P K C m q st f fd/\Binds K fd ps []:=by
  obtain⟨f,fd,t,H,I,i,d,j,n,e,o,ct,u,v,w,x,y,r,J,z,A,B,rfl,l,c,k,D,E,F,G⟩:=M.ex
  exact⟨f,_,t,⟨⟨_,_,_,_,_,_,_,_,_,_,rfl,l,c,⟨⟨_,_,_,_,p,l,h,hs⟩,⟨_,_,_,_,_,_,D,E,F⟩,⟨_,_,_,G⟩,cl,sub,g,top⟩⟩,k⟩,.all<|b i d j n e o ct⟩
end
set_option tactic.hygienic true in
theorem UA{K:fZ}(X:K.In h)(e:tS K N=true)(q:gB K N x=some (some v)):h.nsMap N x=some v:=by
 obtain⟨o,k,l,b,f,_,g⟩:=Heap.Ns.of_isNs<|oZ X e;unfold gB at q;split at q
 ·rename_i c d i m n z
  have a:=X _ _ z;rw[b] at a;cases a;cases f;split at q
  ·rename_i p j
   cases q;rw[<- g];unfold nsFind findBy;rw[<- sG,j];rfl
  ·split at q<;>cases q
 ·cases q
theorem all_mk{l:pU}{K:fZ}{XF XL:cr}{eD:Nat}{em:List ci}{eE:Bool}(X:K.In h)(G:h.Ns gz mg)(eF:mg "law"=some (.ref fa))
 (a1:gB K gz "is_sum"=some (some<|.ref f1))
 (l1:K.lookup f1=some ⟨e9,fb,.func<|iX "is_sum" "is_sum" (vh wm) (uK wm) (ue wm) .none fe ff fh fi (.ref c) fj,fo⟩)
 (c1:iN K (.ref c) "is_sum"=true)
 (k1:iC K (.ref f1)=true)
 (lc:K.lookup c=some ⟨fp,ft,.fields eG,fv⟩)
 (ev:eG[11]?=some (.ref cj))
 (eH:K.lookup cj=none)
 (aL:gB K gz "law"=some (some<|.ref fL))
 (lL:K.lookup fL=some ⟨fw,fy,.func<|iX "law" "law" (vh Bi) (uK Bi) (ue Bi) .none eI eJ eK eL eu eM,fz⟩)
 (cL:iN K eu "law"=true)
 (kL:iC K (.ref fL)=true)
 (Q:Dq K "must_be_sum" DL)
 (ck:Dq K "total" Gh)
 (A:Dq K "row_from_first" wN)
 (cm:Dq K "added" GG)
 (bV:Dq K "filled" DR)
 (en:Dq K "up" WT)
 (dQ:Dq K "_law_bag" Q8)
 (da:Dq K "_law_pull" J3)
 (db:Dq K "_law_rank" Ka)
 (dc:Dq K "_law_join" Kd)
 (dd:Dq K "_law_here" Kg)
 (de:Dq K "_law_some" Kj)
 (df:Dq K "_law_edge" Kl)
 (cn:Dq K "_law_whole" GQ)
 (dR:Dq K "_law_row" s_row)
 (cp:Dq K "_law_stock" GS)
 (a5:Dq K "_law_edge_by" BQ)
 (dg:Dq K "_law_rows" Kq)
 (dh:Dq K "_law_fill" Kt)
 (di:Dq K "_law_ties" Kv)
 (cq:Dq K "_law_house" GY)
 (bW:Dq K "_law_tails" DX)
 (cs:Dq K "_law_heads" G0)
 (dj:Dq K "_law_lone" Kx)
 (dS:Dq K "_law_sum" Q4)
 (bX:Dq K "_law_parted" D6)
 (aC:gB K gz "Field"=some (some<|.ref C))
 (Y:Mq K C "must_stand" "Body.must_stand" yM)
 (az:Mq K C "must_hold" "Body.must_hold" zw)
 (D:Mq K C "must_have_rank" "Body.must_have_rank" wL)
 (a6:Mq K C "is_tied" "Field.is_tied" BJ)
 (M:Mq K C "must_be_lone" "Field.must_be_lone" xH)
 (cu:Mq K C "steps" "Field.steps" Gu)
 (cv:Mq K C "tails" "Field.tails" Gw)
 (bY:Mq K C "arrows" "Field.arrows" DP)
 (a7:Mq K C "head_of" "Field.head_of" BM)
 (cw:Mq K C "untie" "Field.untie" Gy)
 (aA:Mq K C "ring_with" "Field.ring_with" zF)
 (dU:Mq K C "tie" "Field.tie" Qr)
 (cx:Mq K C "order" "Field.order" GC)
 (dV:Mx l.prog K C "put" "Field.put" KA)
 (dW:Sx K C "put" "Body.put" Qd)
 (cy:Mx l.prog K C "cells" "Field.cells" D9)
 (cz:Sx K C "cells" "Body.cells" Go)
 (dm:Mx l.prog K C "over" "Field.over" G6)
 (dq:Sx K C "over" "Body.over" JT)
 (aB:Mx l.prog K C "border_of" "Field.border_of" yR)
 (aD:Sx K C "border_of" "Body.border_of" zy)
 (bZ:Mx l.prog K C "border" "Field.border" BS)
 (b0:Sx K C "border" "Body.border" DN)
 (dr:Mx l.prog K C "take" "Field.take" G7)
 (ds:Sx K C "take" "Body.take" JU)
 (aH:Mx l.prog K C "__init__" "Field.__init__" G8)
 (aI:Sx K C "__init__" "Body.__init__" KH)
 (pg:lO K C Str.empty=true)
 (hd:mK K C=true)
 (po:pc K C=true)
 (sa:gN K (.ref C) "__setattr__"=some (some<|.builtin "object.__setattr__"))
 (mk:pQ K C=true)
 (kc:iC K (.ref C)=true)
 (nR:gN K (.ref C) "ranks"=some none)
 (nB:gN K (.ref C) "borders"=some none)
 (nU:gN K (.ref C) "upcoming"=some none)
 (nH:gN K (.ref C) "head_by_tail"=some none)
 (nT:gN K (.ref C) "tail_by_head"=some none)
 (c8:lS K C=some fA)
 (c9:j9 K C (.ref C)=some true)
 (c0:gB K qz "thirdparty.any"=some none)
 (c2:(l.prog.main.scope.names.lookup ("super":Str)).isSome=false)
 (a8:gB K gz "NotASum"=some (some<|.ref XS))
 (a9:iH K XS KG "ValueError.__new__"=true)
 (b1:gB K gz "NoCell"=some (some<|.ref XC))
 (b2:iH K XC KG "ValueError.__new__"=true)
 (aE:gB K gz "OtherRank"=some (some<|.ref XO))
 (aF:iH K XO KG "ValueError.__new__"=true)
 (ba:gB K gz "BadRank"=some (some<|.ref XB))
 (bb:iH K XB KG "ValueError.__new__"=true)
 (aa:gB K gz "OpenBorder"=some (some<|.ref XP))
 (ab:iH K XP KG "ValueError.__new__"=true)
 (dt:gB K gz "Full"=some (some<|.ref ew))
 (du:iH K ew KG "ValueError.__new__"=true)
 (bc:gB K gz "Covered"=some (some<|.ref XV))
 (be:iH K XV KG "ValueError.__new__"=true)
 (bf:gB K gz "NotFace"=some (some<|.ref XF))
 (bg:iH K XF KG "ValueError.__new__"=true)
 (bH:gB K gz "Tied"=some (some<|.ref XT))
 (dv:iH K XT KG "ValueError.__new__"=true)
 (bh:gB K gz "NotTied"=some (some<|.ref XN))
 (bi:iH K XN KG "ValueError.__new__"=true)
 (bj:gB K gz "NotLone"=some (some<|.ref XL))
 (bm:iH K XL KG "ValueError.__new__"=true)
 (ae:gB K gz "MOST_CELLS"=some (some<|.int 120 cV))
 (aJ:gB K gz "TOP_RANK"=some (some<|.int 12 dJ))
 (ey:gB K gz "RingOfArrows"=some (some<|.ref XR))
 (fB:gB K gz "BodyError"=some (some<|.ref XE))
 (lB:K.lookup XR=some (iZ fC qB XR d6 fE (.ref XE::KG) true fF em eE e5 fG fH fJ fK fM fN "ValueError.__new__"))
 (eN:gB K d6 "__init__"=some (some<|.ref fI))
 (ez:tS K d6=true)
 (eO:PySem.W.tailIn K KG (.ref XE::KG)=true)
 (lI:K.lookup fI=some ⟨.type "function",fO,.func<|jM "__init__" "RingOfArrows.__init__" (vh yS) (uK yS) (ue yS) [("__class__",cc)] (.ref TD) eP eQ eR eS (.ref d7) eT,fP⟩)
 (cI:iN K (.ref d7) "RingOfArrows.__init__"=true)
 (lD:K.lookup d7=some ⟨fQ,fR,.fields eU,fS⟩)
 (fD:eU[2]?=some (.str dX fT))
 (pD:((l.prog.main.file:Str)==dX)=true)
 (eV:K.lookup cc=some ⟨e6,e7,.cell<|some<|.ref XR,e8⟩)
 (eW:lS K XR=some fU)
 (eX:j9 K XR (.ref XR)=some true)
 (eY:jm K XR XR "__init__"=some (some<|.builtin "ValueError.__init__"))
 (eZ:j9 K XR (.type "ValueError")=some true)
 (sB:gN K (.ref XR) "__setattr__"=some (some<|.builtin "object.__setattr__"))
 (e0:gN K (.ref XR) "ring"=some none)
 (lT:K.lookup TD=some ⟨fV,fW,.seq #[dT] eD,fX⟩)
 (e1:kD K (.ref XT) [.ref XT,.ref XR]=some true)
 (e2:kD K (.ref XR) [.ref XT,.ref XR]=some true)
 (e3:gB K gz "super"=some none)
 (zz:Bz K) :
    ∃(c cj:cr)(fd:g9),mW K "is_sum"=some (c,cj)/\K.lookup cj=none/\(∀(s:gk)(v:ci),rG s fd ⟨[v],[]⟩ [("_law_script",v)])/\∀base:hR,K.In base->base.Ns gz mg->HI mg base c cj->uL l.prog w K mg base Oi 11 fa fd ["_law_script"] (Lv K cj):=by
  letI:L2.GX:=gx0
  have e:=eF.symm.trans<|hX X G aL
  cases e
  have ht:mW K "is_sum"=some (c,cj):=by
    unfold mW
    rw[a1]
    dsimp only
    rw[l1]
    dsimp only[iX]
    rw[lc]
    dsimp only
    rw[ev]
  have n:=C3 (st:=wm) l1 c1 k1
  have an:Fn K mg "is_sum" wm ["row"] f1 _:=⟨n,hX X G a1,n.binds (ps:=["row"])<|λ_ _ _ _ _ _=>us1 λ_=>rfl⟩
  have dY:=C3 (st:=Bi) lL cL kL
  have b:=Q.fn X G ["row"]<|λ_ _ _ _ _ _=>us1 λ_=>rfl
  have aN:=ck.fn X G ["rows"]<|λ_ _ _ _ _ _=>us1 λ_=>rfl
  have f:=A.fn X G ["earlier","last"]<|λ_ _ _ _ _ _=>us2 λ_ _=>rfl
  have aO:=cm.fn X G ["one","other"]<|λ_ _ _ _ _ _=>us2 λ_ _=>rfl
  have ao:=bV.fn X G ["field","row"]<|λ_ _ _ _ _ _=>us2 λ_ _=>rfl
  have dP:=en.fn X G ["field","row"]<|λ_ _ _ _ _ _=>us2 λ_ _=>rfl
  have c4:=dQ.fn X G ["_law_script"]<|λ_ _ _ _ _ _=>us1 λ_=>rfl
  have bI:=da.fn X G ["_law_bag_here","_law_many"]<|λ_ _ _ _ _ _=>us2 λ_ _=>rfl
  have bJ:=db.fn X G ["_law_bag_here"]<|λ_ _ _ _ _ _=>us1 λ_=>rfl
  have bK:=dc.fn X G ["_law_one","_law_other"]<|λ_ _ _ _ _ _=>us2 λ_ _=>rfl
  have bL:=dd.fn X G ["_law_rows_here"]<|λ_ _ _ _ _ _=>us1 λ_=>rfl
  have bM:=de.fn X G ["_law_bag_here","_law_row_here"]<|λ_ _ _ _ _ _=>us2 λ_ _=>rfl
  have bN:=df.fn X G ["_law_rows_here","_law_row_here"]<|λ_ _ _ _ _ _=>us2 λ_ _=>rfl
  have aP:=cn.fn X G ["_law_found"]<|λ_ _ _ _ _ _=>us1 λ_=>rfl
  have c5:=dR.fn X G ["_law_found"]<|λ_ _ _ _ _ _=>us1 λ_=>rfl
  have aQ:=cp.fn X G ["_law_many"]<|λ_ _ _ _ _ _=>us1 λ_=>rfl
  have R:=a5.fn X G ["_law_rows_here","_law_loops","_law_rank_here","_law_bag_here"]<|λ_ _ _ _ _ _=>us4 λ_ _ _ _=>rfl
  have bO:=dg.fn X G ["_law_bag_here","_law_most"]<|λ_ _ _ _ _ _=>us2 λ_ _=>rfl
  have bP:=dh.fn X G ["_law_body","_law_rows_here"]<|λ_ _ _ _ _ _=>us2 λ_ _=>rfl
  have bQ:=di.fn X G ["_law_field","_law_rows_here","_law_bag_here","_law_tries"]<|λ_ _ _ _ _ _=>us4 λ_ _ _ _=>rfl
  have aR:=cq.fn X G ["_law_bag_here","_law_most"]<|λ_ _ _ _ _ _=>us2 λ_ _=>rfl
  have aq:=bW.fn X G ["_law_arrows"]<|λ_ _ _ _ _ _=>us1 λ_=>rfl
  have aS:=cs.fn X G ["_law_arrows"]<|λ_ _ _ _ _ _=>us1 λ_=>rfl
  have bR:=dj.fn X G ["_law_rows_here","_law_arrows"]<|λ_ _ _ _ _ _=>us2 λ_ _=>rfl
  have c6:=dS.fn X G ["_law_found"]<|λ_ _ _ _ _ _=>us1 λ_=>rfl
  have ar:=bX.fn X G ["_law_row_here","_law_keep"]<|λ_ _ _ _ _ _=>us2 λ_ _=>rfl
  have p:=Y.fn ["self","cell"]<|λ_ _ _ _ _ _=>us2 λ_ _=>rfl
  have E:=az.fn ["self","row"]<|λ_ _ _ _ _ _=>us2 λ_ _=>rfl
  have g:=D.fn ["self","row","rank"]<|λ_ _ _ _ _ _=>us3 λ_ _ _=>rfl
  have S:=a6.fn ["self","cell"]<|λ_ _ _ _ _ _=>us2 λ_ _=>rfl
  have i:=M.fn ["self","row"]<|λ_ _ _ _ _ _=>us2 λ_ _=>rfl
  have aT:=cu.fn ["self","low","high"]<|λ_ _ _ _ _ _=>us3 λ_ _ _=>rfl
  have aU:=cv.fn ["self"]<|λ_ _ _ _ _ _=>us1 λ_=>rfl
  have au:=bY.fn ["self"]<|λ_ _ _ _ _ _=>us1 λ_=>rfl
  have T:=a7.fn ["self","cell"]<|λ_ _ _ _ _ _=>us2 λ_ _=>rfl
  have aV:=cw.fn ["self","low"]<|λ_ _ _ _ _ _=>us2 λ_ _=>rfl
  have H:=aA.fn ["self","low","high"]<|λ_ _ _ _ _ _=>us3 λ_ _ _=>rfl
  have c7:=dU.fn ["self","low","high"]<|λ_ _ _ _ _ _=>us3 λ_ _ _=>rfl
  have aW:=cx.fn ["self"]<|λ_ _ _ _ _ _=>us1 λ_=>rfl
  obtain⟨ep,er,dw,dx,dy⟩:=dV.fx ⟨_,c8⟩ c9 c0 c2 rfl rfl B8<|λ_ _ _ _ _ _ _=>us3 λ_ _ _=>rfl
  obtain⟨es,et,dz,bS⟩:=dW.ex
  obtain⟨d2,d3,b3,b4,b5⟩:=cy.fx ⟨_,c8⟩ c9 c0 c2 rfl rfl xW<|λ_ _ _ _ _ _ _=>us1 λ_=>rfl
  obtain⟨d4,d5,b6,av⟩:=cz.ex
  obtain⟨d8,d9,cA,cB,cC⟩:=dm.fx ⟨_,c8⟩ c9 c0 c2 rfl rfl zA<|λ_ _ _ _ _ _ _=>us2 λ_ _=>rfl
  obtain⟨ea,ec,cD,aX⟩:=dq.ex
  obtain⟨cW,cX,af,ag,ah⟩:=aB.fx ⟨_,c8⟩ c9 c0 c2 rfl rfl vL<|λ_ _ _ _ _ _ _=>us2 λ_ _=>rfl
  obtain⟨cY,cZ,ai,t⟩:=aD.ex
  obtain⟨dL,dM,bp,bq,br⟩:=bZ.fx ⟨_,c8⟩ c9 c0 c2 rfl rfl w6<|λ_ _ _ _ _ _ _=>us2 λ_ _=>rfl
  obtain⟨dN,dO,bt,U⟩:=b0.ex
  obtain⟨ee,ef,cE,cF,cG⟩:=dr.fx ⟨_,c8⟩ c9 c0 c2 rfl rfl zB<|λ_ _ _ _ _ _ _=>us2 λ_ _=>rfl
  obtain⟨eg,eh,cH,aY⟩:=ds.ex
  obtain⟨ei,ej,aZ,cJ,cK⟩:=aH.fx ⟨_,c8⟩ c9 c0 c2 rfl rfl ["self"]<|λ_ _ _ _ _ _ _=>us1 λ_=>rfl
  obtain⟨ek,el,cM,a0⟩:=aI.ex
  have B:=zz.bn X G
  have c3:=sk X G e3
  have aj:=hX X G ae
  have aK:=hX X G aJ
  have bu:Xc K mg "NotASum" XS:=⟨⟨_,_,_,_,hX X G a8,a9,gJ⟩,λ_=>trivial⟩
  have b7:Xc K mg "NoCell" XC:=⟨⟨_,_,_,_,hX X G b1,b2,gJ⟩,λ_=>trivial⟩
  have aG:Xc K mg "OtherRank" XO:=⟨⟨_,_,_,_,hX X G aE,aF,gJ⟩,λ_=>trivial⟩
  have bv:Xc K mg "BadRank" XB:=⟨⟨_,_,_,_,hX X G ba,bb,gJ⟩,λ_=>trivial⟩
  have ak:Xc K mg "OpenBorder" XP:=⟨⟨_,_,_,_,hX X G aa,ab,gJ⟩,λ_=>trivial⟩
  have dA:Xc K mg "Full" ew:=⟨⟨_,_,_,_,hX X G dt,du,gJ⟩,λ_=>trivial⟩
  have bA:Xc K mg "Covered" XV:=⟨⟨_,_,_,_,hX X G bc,be,gJ⟩,λ_=>trivial⟩
  have bB:Xc K mg "NotFace" XF:=⟨⟨_,_,_,_,hX X G bf,bg,gJ⟩,λ_=>trivial⟩
  have dB:Xc K mg "Tied" XT:=⟨⟨_,_,_,_,hX X G bH,dv,gJ⟩,λ_=>trivial⟩
  have bC:Xc K mg "NotTied" XN:=⟨⟨_,_,_,_,hX X G bh,bi,gJ⟩,λ_=>trivial⟩
  have bD:Xc K mg "NotLone" XL:=⟨⟨_,_,_,_,hX X G bj,bm,gJ⟩,λ_=>trivial⟩
  have L:Aw K C:=⟨⟨pg,hd,po,sa⟩,nR,nB,nU⟩
  have cf:NC K C:=⟨nH,nT⟩
  have cN:=hX X G aC
  refine⟨c,cj,iX "law" "law" (vh Bi) (uK Bi) (ue Bi) .none eI eJ eK eL eu eM,ht,eH,λs v=>.of_eq rfl,λbase _ _ Bt=>?_⟩
  let q:Cq:=⟨l.prog,w,K,mg,base,cj⟩
  have SD:L2.JG l.prog K XR fI d7 cc "self":=⟨⟨_,_,_,_,_,lI,rfl,rfl⟩,⟨_,_,_,_,_,_,lD,fD,pD⟩,⟨_,_,_,eV⟩,⟨_,eW⟩,eX,c0,c2⟩
  have b8:uL l.prog w K mg base (uV l.prog w) 3 fI _ ["self","ring"] (WA K XR "ring"):=Tw (P:=l.prog) (w:=w) (mg:=mg) (base:=base) (k:=2) (r:="ring") (fl:="ring") lI cI rfl Rr SD (λ_=>⟨_,rfl⟩) c3 B.list rfl lB eY eZ rfl (λx=>by rw[PySem.refuseLoop_ref];exact PySem.F.store_ValueError.passes _) sB e0 q0q q0q
  have e4:∀h:hR,K.In h->∃mN,h.Ns d6 mN/\mN "__init__"=some (.ref fI):=λh Z=>⟨_,.of_isNs<|oZ Z ez,UA Z ez eN⟩
  have hB:Binds K (jM "__init__" "RingOfArrows.__init__" (vh yS) (uK yS) (ue yS) [("__class__",cc)] (.ref TD) eP eQ eR eS (.ref d7) eT) ["self","ring"] []:=λs us Z hl=>by
    have hl:us.length=2:=by simpa using hl
    obtain⟨u1,u2,rfl⟩:=lx2 us hl
    exact PySem.W.binds_K Z rfl lT rfl rfl rfl
  have N:XcI l.prog w K mg base 3 "RingOfArrows" XR "ring":=⟨⟨fI,d6,_,_,_,_,_,_,KG,_,_,_,_,_,_,_,_,_,_,_,_,_,_,_,hX X G ey,lB,e4,λh Z=>sj Z eO,lI,rfl,gJ,rfl,b8,hB⟩,λ_ _ _ _ _ _=>trivial⟩
  have j:YW q XT XR "Tied" "RingOfArrows":=⟨hX X G bH,hX X G ey,e1,e2⟩
  obtain⟨bx,fY,bz,bw,eA,eB,eC⟩:=bu.ex
  have cO:=P5 b.fn an (JR (P:=l.prog) (w:=w) n rfl Bt B.all B.zip) eA eB eC λ_=>trivial
  have cP:=P6 b.fn an (JS (P:=l.prog) (w:=w) n rfl Bt B.all B.zip) eA eB eC λ_=>trivial
  have dC:=Rq (q:=q) cJ L cf ⟨⟨_,_,cM,Uz (P:=l.prog) (w:=w) (mg:=mg) (base:=base) a0 L,a0.binds<|λ_ _ _ _ _ _=>us1 λ_=>rfl,c3⟩⟩
  have a2:wC q _ _ _ _:=b.fk cO
  have cQ:wC q _ _ _ _:=aN.fk<|P7 aN.fn b cP B.set B.sorted
  have a:yT q C _ _ _ _:=p.fm<|Et (q:=q) p.fn L b7
  have d:yT q C _ _ _ _:=E.fm<|Gk (q:=q) E.fn L a2.up a.up
  have y:yT q C _ _ _ _:=g.fm<|Ba (q:=q) g.fn L aG
  have u:yT q C _ _ _ _:=⟨_,_,Ex (q:=q) ag ⟨⟨_,_,ai,(Gn (q:=q) t L cQ.up d.up),t.binds<|λ_ _ _ _ _ _=>us2 λ_ _=>rfl,c3⟩⟩,af,ah⟩
  have b9:yT q C _ _ _ _:=⟨_,_,Nv (q:=q) b4 ⟨⟨_,_,b6,(Qb (q:=q) av L B),av.binds<|λ_ _ _ _ _ _=>us1 λ_=>rfl,c3⟩⟩,b3,b5⟩
  have cR:yT q C _ _ _ _:=⟨_,_,Rn (q:=q) cB ⟨⟨_,_,cD,(TM (q:=q) aX L a.up b9.up),aX.binds<|λ_ _ _ _ _ _=>us2 λ_ _=>rfl,c3⟩⟩,cA,cC⟩
  have dD:yT q C _ _ _ _:=⟨_,_,Ux (q:=q) dx ⟨⟨_,_,dz,(WM (q:=q) bS L d.up y.up u.up bv dA ak aj aK B),bS.binds<|λ_ _ _ _ _ _=>us3 λ_ _ _=>rfl,c3⟩⟩,dw,dy⟩
  have bE:yT q C _ _ _ _:=⟨_,_,KD (q:=q) bq ⟨⟨_,_,bt,(M8 (q:=q) U L a.up B),U.binds<|λ_ _ _ _ _ _=>us2 λ_ _=>rfl,c3⟩⟩,bp,br⟩
  have m:yT q C _ _ _ _:=S.fm<|JZ (q:=q) S.fn L cf
  have cS:yT q C _ _ _ _:=⟨_,_,Ro (q:=q) cF L a.up m.up ⟨⟨_,_,cH,((TQ (q:=q) aY L cR.up bA)).mono q0q,aY.binds<|λ_ _ _ _ _ _=>us2 λ_ _=>rfl,c3⟩⟩,cE,cG⟩
  have J:yT q C _ _ _ _:=i.fm<|Cn (q:=q) i.fn L m.up bD
  have aw:yT q C _ _ _ _:=aT.fm<|Qm (q:=q) aT.fn L cf
  have ax:yT q C _ _ _ _:=aU.fm<|Qo (q:=q) aU.fn L cf B
  have bF:yT q C _ _ _ _:=au.fm<|Nb (q:=q) au.fn L cf ax.up
  have aM:yT q C _ _ _ _:=T.fm<|J2 (q:=q) T.fn L cf a.up
  have ca:yT q C _ _ _ _:=aV.fm<|Qq (q:=q) aV.fn L cf a.up bC
  have I:wC q _ _ _ _:=f.fk<|Be (q:=q) f.fn
  have al:yT q C _ _ _ _:=H.fm<|GB (q:=q) H.fn L cf I.up aw.up
  have dE:yT q C _ _ _ _:=c7.fm<|WP (q:=q) c7.fn L cf a.up m.up al.up bB dB N
  have cb:yT q C _ _ _ _:=aW.fm<|Qu (q:=q) aW.fn L cf bF.up aw.up ax.up
  have a3:wC q _ _ _ _:=aO.fk<|Qy (q:=q) aO.fn a2.up B
  have cd:wC q _ _ _ _:=ao.fk<|Nf (q:=q) ao.fn L a3.up d.up cb.up aM.up bE.up B
  have eo:wC q _ _ _ _:=dP.fk<|Y7 (q:=q) dP.fn L a3.up cd.up d.up J.up u.up
  have dZ:wC q _ _ _ _:=c4.fk<|YI<|Xd c4.fn B.len B.list
  have o:wC q _ _ _ _:=bI.fk<|Ws<|Uv bI.fn B.len
  have dF:wC q _ _ _ _:=bJ.fk<|Ud (q:=q) bJ.fn o.up
  have O:wC q _ _ _ _:=bK.fk<|Ue (q:=q) bK.fn B
  have k_here:wC q _ _ _ _:=bL.fk<|Ug (q:=q) bL.fn B
  have bT:wC q _ _ _ _:=bM.fk<|Uh (q:=q) bM.fn o.up O.up B
  have bU:wC q _ _ _ _:=bN.fk<|Ui (q:=q) bN.fn O.up
  have k_whole:wC q _ _ _ _:=aP.fk<|QU (q:=q) aP.fn B
  have d0:wC q _ _ _ _:=c5.fk<|W2 (q:=q) c5.fn k_whole.up B
  have cT:wC q _ _ _ _:=aQ.fk<|QX (q:=q) aQ.fn B
  have bG:wC q _ _ _ _:=R.fk<|Ko (q:=q) R.fn o.up O.up k_here.up bT.up bU.up B
  have dG:wC q _ _ _ _:=bO.fk<|Ul (q:=q) bO.fn o.up cT.up dF.up bG.up B
  have k_fill:wC q _ _ _ _:=bP.fk<|Um (q:=q) bP.fn L dD.up cS.up B
  have dH:wC q _ _ _ _:=bQ.fk<|Uo (q:=q) bQ.fn L k_here.up o.up ca.up dE.up j B
  have cU:wC q _ _ _ _:=aR.fk<|Q0 (q:=q) aR.fn ⟨mk,aZ.at_,aZ.fn,kc⟩ (dC.mono q0q) cK cN dG.up k_fill.up dH.up o.up B
  have ay:wC q _ _ _ _:=aq.fk<|No (q:=q) aq.fn
  have a4:wC q _ _ _ _:=aS.fk<|Q2 (q:=q) aS.fn B
  have dI:wC q _ _ _ _:=bR.fk<|Ur (q:=q) bR.fn ay.up a4.up k_here.up
  have d1:wC q _ _ _ _:=c6.fk<|W7 (q:=q) c6.fn d0.up B
  have cg:wC q _ _ _ _:=ar.fk<|Nq (q:=q) ar.fn
  exact YK (YJ<|Xb (q:=q) dY dZ.up cU.up ay.up bT.up dI.up eo.up d1.up cg.up k_here.up bU.up a4.up O.up B) λ_ _ _ _ z=>z
theorem walk{l:pU}{q:gS}{loose:List Str}{XP:(Str->Option ci)->hR->Prop}{YP:ic->hR->Prop}{d:DefRec}{K:Params->fZ}{dx:DefRec}(hn:l.most=some 63)(hdf:d.params.defaults=[])
  (hY:∀(w:ic)(h:hR),YP w h->(K w.params).In h) (a08:(PyProof.Rows.recsOf q).find? (λe=>e.name==("is_sum":Str))=some dx)
  (F:∀(w:ic)(mg:Str->Option ci)(fa:cr)(h:hR),(K w.params).In h->h.Ns gz mg->mg d.name=some (.ref fa) ->
   ∃(c tab:cr)(fd:g9),mW (K w.params) "is_sum"=some (c,tab)/\(K w.params).lookup tab=none/\(∀(s:gk)(u:ci),rG s fd ⟨[u],[]⟩ [("_law_script",u)]) /\
    ∀base:hR,(K w.params).In base->base.Ns gz mg->HI mg base c tab->uL l.prog w (K w.params) mg base Oi 11 fa fd ["_law_script"] (Lv (K w.params) tab)) :
  tY q loose XP YP l.row.toRowW d [] (λf vs=>sK f vs) :=
 L2.OA (n:=63) (k:=11) (x:="_law_script") (tx:="is_sum") (CX:=Oi) (sp:=λ_ K tab=>Lv K tab) hn q0q hdf ⟨rfl,q0q,q0q⟩ hY a08 F (λ_ K H a tab ns _ hS hH=>⟨a,ns,rfl,hS,⟨#[],hH,trivial⟩,λ_=>rfl⟩) λ_ _ _ _ z=>z
end K7
open WL
open K7
set_option tactic.hygienic true
set_option hygiene true
namespace PySem.W.Fast
def tw13235855785137258303:=0
def tw2509395139560215163:=0
def tw12047934562512455960:=0
def tw4902545449330312343:=0
def tw1058437273361192005:=0
def tw10714821794239828822:=0
def tw12698969845234882362:=0
def tw8507938582921546545:=0
def tw7354951816768719139:=0
def tw14406468655945923579:=0
def tw8616697034784625569:=0
def tw6531630044804015101:=0
def tw6614562660439173674:=0
def tw9491982537265647073:=0
def tw13122233574469532022:=0
def tw232154826558659222:=0
def tw6872163044913002610:=0
def tw14187439784382382862:=0
def tw1406547840386224757:=0
def tw4076114251560882698:=0
def tw14252725034774392272:=0
def tw4649894674456261959:=0
def tw490910787713330069:=0
def tw16758975362056014251:=0
def tw457216745996281040:=0
def tw2065867534228060908:=0
def tw6733370968122323910:=0
def tw18200538524060541845:=0
def tw1576501355011493855:=0
def tw1902701269423469548:=0
def tw10473805449879242429:=0
def tw16231130392063571868:=0
def tw5447864695368254669:=0
def tw14213983826251219608:=0
def tw8084545112017736533:=0
def tw15432694704838739081:=0
def tw16949246505962233087:=0
def tw4937499903538873666:=0
def tw18318783108030093087:=0
def tw8406265480803628781:=0
def tw15725877847301125339:=0
def tw1990717400180289236:=0
def tw10233923610996158134:=0
def tw10402949375431751433:=0
def tw9512769990222328220:=0
def tw14149812877422130388:=0
def tw2699351182667480589:=0
def tw16487863216708462558:=0
def tw3354314661341770678:=0
def tw1005632923540259953:=0
def tw12403446347794612492:=0
def tw6848602037405615191:=0
def tw1383501370883402169:=0
def tw10388059524584213811:=0
def tw8649210709890017578:=0
def tw155905417953223599:=0
def tw14658009379466308028:=0
def tw16092359095673146091:=0
def tw227499255612488417:=0
def tw14725816197937347952:=0
def tw14426430465030122069:=0
def tw10008577068570377624:=0
def tw6524850880018092811:=0
def tw1578101163747987207:=0
def tw16636314393521677154:=0
def tw17314169172588232346:=0
def tw4478685219519099622:=0
def tw5626545652900378638:=0
def tw10182618921155318602:=0
def tw16279055934728226994:=0
def tw14589821240624958521:=0
def tw14442637534445069761:=0
def tw15010862867337402231:=0
def tw5422483744530900650:=0
def tw12984667760411105641:=0
def tw10396018547718410952:=0
def tw11805115558338517494:=0
def tw14055967389494999149:=0
def tw3354452982850030856:=0
def tw5787057992619769539:=0
def tw7352691700888822256:=0
def tw11143524637444469091:=0
def tw2916335408685459801:=0
def tw8137470812091634164:=0
def tw11295946765825365654:=0
def tw17466540210050224226:=0
def tw17578051395522682655:=0
def tw365362515853606978:=0
def tw16068426731327190935:=0
def tw8079822667828355414:=0
def tw4359132095085098167:=0
def tw9895957051174917554:=0
def tw15002888457728481328:=0
def tw5765795291480130278:=0
def tw8772430847935083816:=0
def tw15274075394868102644:=0
def tw14628536737068498411:=0
def tw5345395917322719036:=0
def tw16188538635507294052:=0
def tw10161059686803591915:=0
def tw716887697619055464:=0
def tw12294329456453016453:=0
def tw12623818087293002286:=0
def tw12418185591110612567:=0
def tw10646824970839870788:=0
def tw7752741630339153428:=0
def tw15779260372654534450:=0
def tw12753680423359371332:=0
def tw15885598052813436998:=0
def tw9946868843995837934:=0
def tw18265571548520532642:=0
def tw11410677056475009367:=0
def tw4707127694147098346:=0
def tw13536541518835800924:=0
def tw251203971455333467:=0
def tw2434147795148421132:=0
def tw2120150454169740194:=0
def tw201139623429131392:=0
def tw6666607776105218760:=0
def tw8572795472082666050:=0
def tw15693440019881135828:=0
def tw18198884862082453875:=0
def tw9766046177512886367:=0
def tw6417359529525673108:=0
def tw11603395977415098071:=0
def tw1963338280988568761:=0
def tw17503028084568069360:=0
def tw3274545169896013435:=0
def tw15532062622879128025:=0
def tw7832785679752538636:=0
def tw10286618604951711393:=0
def tw2928994600406334585:=0
def tw15927991614600645643:=0
def tw10447883796461506337:=0
def tw14124473181004983563:=0
def tw8694661641436118668:=0
def tw13849614697672148837:=0
def tw12687553973561489651:=0
def tw7522320593633078220:=0
def tw9836525391066575339:=0
def tw10133017870633145818:=0
def tw1799111928280914477:=0
def tw4812622427181082411:=0
def tw12675051859375061878:=0
def tw17810363259201414980:=0
def tw5025107979189338124:=0
def tw3570619469650801597:=0
def tw11802985279482241861:=0
def tw7422370794979386838:=0
def tw5992924726650095062:=0
def tw1881028111861717922:=0
def tw5418060715659712888:=0
def tw15629200376990641728:=0
def tw8950838508668874467:=0
def tw14932693244447180920:=0
def tw6393005504647656923:=0
def tw2349680860575966302:=0
def tw9983641876668721057:=0
def tw951892392458552692:=0
def tw14940497697468581283:=0
def tw1981321482967623685:=0
def tw1210276289946135186:=0
def tw2994995454775777594:=0
def tw5323250827661294535:=0
def tw9982502477554250317:=0
def tw5043190752647958307:=0
def tw13467219874548871514:=0
def tw16711793265685856498:=0
def tw879345042157290528:=0
def tw16394798962770377658:=0
def tw16145252776211055286:=0
def tw8496849318196248322:=0
def tw18181376902761001018:=0
def tw1404995399070497674:=0
def tw16498488606735278980:=0
def tw10133271645198701195:=0
def tw9959985934020658155:=0
def tw14160997259133216517:=0
def tw12581119604069122965:=0
def tw14666043747929355466:=0
def tw8233485811071000937:=0
def tw7546809235553825530:=0
def tw17887381415196054615:=0
def tw1325739260029133747:=0
def tw16285537597423599125:=0
def tw9040880273980209001:=0
def tw18191570172137797620:=0
def tw15269183248500144873:=0
def tw9216919860473710674:=0
def tw663018395556372853:=0
def tw17054355469114506859:=0
def tw15595071065295559108:=0
def tw12680688065491442171:=0
def tw1867711616726933307:=0
def tw14447169013960957947:=0
def tw5087833131324193341:=0
def tw13232675717894735391:=0
def tw7360336842612459397:=0
def tw928162921203129732:=0
def tw13904394001635093207:=0
def tw650186982088577058:=0
def tw5281739541547318498:=0
def tw3193469578864179985:=0
def tw3185996076632038146:=0
def tw2048310409335307428:=0
def tw16697633955619062312:=0
def tw15332663157842466596:=0
def tw1380170808178965217:=0
def tw1083427570892245512:=0
def tw4014549231135742647:=0
def tw15825237057378050468:=0
def tw13896552758419857603:=0
def tw10299709190110721140:=0
def tw8288591769689528544:=0
def tw18081197807427877049:=0
def tw9680867774824808972:=0
def tw16079369251317931161:=0
def tw1201850815666046874:=0
def tw5094388730527135261:=0
def tw4066881366147065883:=0
def tw4043662158966330660:=0
def tw15117391819663158989:=0
def tw5205886142465411982:=0
def tw1504085535099035554:=0
def tw1140537644519034813:=0
def tw125067191508021208:=0
def tw3861940962499154693:=0
def tw16307351640607597958:=0
def tw11741996253195132475:=0
def tw11218824200356983883:=0
def tw10035227066430317808:=0
def tw16229136838262216693:=0
def tw5882370007058389063:=0
def tw2629170878243200182:=0
def tw16853282486906145069:=0
def tw15549343616875002848:=0
def tw2454812575161938843:=0
def tw18308294239876590812:=0
def tw17301098632999353544:=0
def tw1386430941879327556:=0
def tw5792298159781973320:=0
def tw311912061867410261:=0
def tw14374998860733486965:=0
def tw12193147358026962893:=0
def tw9742514654141924912:=0
def tw14234535641445206103:=0
def tw7874893955240619927:=0
def tw7127907944318756002:=0
def tw6762691866588653227:=0
def tw6721551256073867374:=0
def tw1710897953960464650:=0
def tw12228636494958504037:=0
def tw10353315987511140400:=0
def tw10107674628167182716:=0
def tw8982566213785523967:=0
def tw2653800943849328439:=0
def tw14829045577423686579:=0
def tw14476826312354678511:=0
def tw13953194104331815819:=0
def tw14932758720590402563:=0
def tw8410481524776158638:=0
def tw2377001291443087557:=0
def tw1581943879726464747:=0
def tw9114168195766494942:=0
def tw804782640900302234:=0
end PySem.W.Fast
open PySem PySem.W PyProof.Rows
set_option maxHeartbeats 0 in
theorem PySem.Challenge.cw_slimbody_k27_whole_carried_up_without_ta_holds : PySem.Challenge.rw_slimbody_k27_whole_carried_up_without_ta.Holds := by
  w_on; o_law; k_head; (case hw => w_witness2)
  k_fill
  refine K7.walk (l := PySem.Challenge.rw_slimbody_k27_whole_carried_up_without_ta) rfl rfl (fun w h Y => PySem.W.kIn_of Y) (by rfl) ?j0a
  case j0a =>
    intro w mg fa h KX G hmg
    refine' K7.all_mk KX G hmg ?_ ?_ ?_ ?_ ?_ ?_ ?_ ?_ ?_ ?_ ?_ ?_ ?_ ?_ ?_ ?_ ?_ ?_ ?_ ?_ ?_ ?_ ?_ ?_ ?_ ?_ ?_ ?_ ?_ ?_ ?_ ?_ ?_ ?_ ?_ ?_ ?_ ?_ ?_ ?_ ?_ ?_ ?_ ?_ ?_ ?_ ?_ ?_ ?_ ?_ ?_ ?_ ?_ ?_ ?_ ?_ ?_ ?_ ?_ ?_ ?_ ?_ ?_ ?_ ?_ ?_ ?_ ?_ ?_ ?_ ?_ ?_ ?_ ?_ ?_ ?_ ?_ ?_ ?_ ?_ ?_ ?_ ?_ ?_ ?_ ?_ ?_ ?_ ?_ ?_ ?_ ?_ ?_ ?_ ?_ ?_ ?_ ?_ ?_ ?_ ?_ ?_ ?_ ?_ ?_ ?_ ?_ ?_ ?_ ?_ ?_ ?_ ?_ ?_ ?_ ?_ ?_ ?_ ?_ ?_ ?_ ?_ ?_ ?_ ?_ ?_ ?_
    all_goals try first | k_is | k_exc | exact YL (by k_is) (by k_is) (by k_is) (by k_is) | exact YM (by k_is) (by k_is) (by k_is) (by k_is) (by k_is) | exact Zg (by k_is) (by k_is) (by k_is) (by k_is) (by k_is) (by k_is) (by rfl) (by rfl) (by k_is) | exact Zh (by rfl) (by k_is) (by k_is) (by k_is) (by k_is) (by k_is) | rfl | kernel_rfl
    constructor <;> k_is
