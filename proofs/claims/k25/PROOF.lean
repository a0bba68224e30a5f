import PyProof.Rows.All
import Wide.All
import OpenK.AllK
import Wide.FinOn
import Lean
import PyProof.EqAt
import PyProof.EqKinds
import PyProof.TupleCall
import PyProof.Rows.SetFrom
import PyProof.Rows.SortWalkRead
import PyProof.Rows.EqDataRows
import PyProof.CompFree
import PyProof.ZipIter
import PyProof.Rows.ZipGen
import PyProof.GenCompD
import PyProof.CodeObjX
import KE.KNest
import PyProof.DictWalks
import PyProof.AutoListH
import PyProof.WalksMore
import PyProof.Draws
import PyProof.EnumFor
import PyProof.EnumMake
import PyProof.EnumStmt
import PyProof.Rows.EnumRows
import KE.KSuper
import PyProof.WalkInts
import KE.KTryMore
import PyProof.ExcClass2
import PyProof.ExcInit
import PyProof.InstStore
import PyProof.ExcBaseAll.ValueError
import PyProof.InstStoreFacts
import KE.KSortTup
import PyProof.Rows.SortShellK
import PyProof.DictCompW
import KE.KRevSl
import PySem.Challenge.RW_slimbody_k25_carried_down
set_option Elab.async false
set_option linter.all false
set_option tactic.hygienic false
set_option compiler.extract_closed false
set_option hygiene false
set_option genSizeOf false
set_option genInjectivity false
set_option maxRecDepth 100000
local macro_rules|`(#[$a,*])=>`(⟨$a,*⟩)
local macro_rules|`(#v[$a,*])=>`(List.toArray [$a,*])
local macro_rules|`(↑$a)=>`(some $a)
local macro_rules|`(⇑$a)=>`(($a).heap.objs.size)
set_option maxHeartbeats 4000000
local macro_rules|`(19)=>`((vP (vL P w) P w K mg base N qual scope f cd A outer s H E))|`(23)=>`((g8 X.prog X.w))|`(56)=>`(#[I.ok.mod,I.ok.kind,I.ok.glob,I.ok.blt,I.ok.above,I.ok.inj,I.ok.has,I.ok.Pc,I.ok.hd,I.ok.frames,I.ok.Co,I.ok.TY,I.ok.bs,I.ok.IH,I.ok.Dr,I.ok.DT,I.ok.yE,I.ok.J1])|`(57)=>`({ cls:=.type "list",data:=.seq ([]:List cr).toArray})|`(58)=>`((p.1,#[],()))|`(61)=>`((Ch.refl _ _ _ _))
noncomputable section
local macro_rules | `(tactic| walk_at "sc") => `(tactic| exact #[rfl, rfl, rfl, by decide +kernel, rfl, by decide +kernel, by decide +kernel])
local macro_rules | `(tactic| walk_at "ss") => `(tactic| exact #[rfl, rfl, rfl, by decide +kernel, rfl, by decide +kernel, by decide +kernel, by decide +kernel, rfl, rfl])
local macro_rules | `(tactic| walk_at "wl") => `(tactic| dsimp only [At.get, At.hole, Pt.put, Ent.ent, Pj.pj, Fg.fg, Sel.sel, Sel.rest, Sel.mrg, Pre.pre, Pre.suf, at0, atS, pt0, ptS, ent0, entS, entC, pjNil, pjUn, pjCons, fgId, fgUn, fgCons, selNil, selCons, pre0, preS, stepC, id, ID.get, ID.set, wSq])
def e0a2 {p0:Prop}{p1:Prop}{G:Prop}(h:p0/\p1)(k:p0->p1->G):G:=by obtain ⟨h0,h1⟩:=h;exact k h0 h1
def e0a3 {p0:Prop}{p1:Prop}{p2:Prop}{G:Prop}(h:p0/\p1/\p2)(k:p0->p1->p2->G):G:=by obtain ⟨h0,h1,h2⟩:=h;exact k h0 h1 h2
def e0a4 {p0:Prop}{p1:Prop}{p2:Prop}{p3:Prop}{G:Prop}(h:p0/\p1/\p2/\p3)(k:p0->p1->p2->p3->G):G:=by obtain ⟨h0,h1,h2,h3⟩:=h;exact k h0 h1 h2 h3
def e0a6 {p0:Prop}{p1:Prop}{p2:Prop}{p3:Prop}{p4:Prop}{p5:Prop}{G:Prop}(h:p0/\p1/\p2/\p3/\p4/\p5)(k:p0->p1->p2->p3->p4->p5->G):G:=by obtain ⟨h0,h1,h2,h3,h4,h5⟩:=h;exact k h0 h1 h2 h3 h4 h5
def e1a1 {vJ:Sort _}{p0:vJ->Prop}{G:Prop}(h:∃ x0:vJ,p0 x0)(k:∀ x0:vJ,p0 x0->G):G:=by obtain ⟨x0,h0⟩:=h;exact k x0 h0
def e1a2 {vJ:Sort _}{p0:vJ->Prop}{p1:vJ->Prop}{G:Prop}(h:∃ x0:vJ,p0 x0/\p1 x0)(k:∀ x0:vJ,p0 x0->p1 x0->G):G:=by obtain ⟨x0,h0,h1⟩:=h;exact k x0 h0 h1
def e1a3 {vJ:Sort _}{p0:vJ->Prop}{p1:vJ->Prop}{p2:vJ->Prop}{G:Prop}(h:∃ x0:vJ,p0 x0/\p1 x0/\p2 x0)(k:∀ x0:vJ,p0 x0->p1 x0->p2 x0->G):G:=by obtain ⟨x0,h0,h1,h2⟩:=h;exact k x0 h0 h1 h2
def e1a4 {vJ:Sort _}{p0:vJ->Prop}{p1:vJ->Prop}{p2:vJ->Prop}{p3:vJ->Prop}{G:Prop}(h:∃ x0:vJ,p0 x0/\p1 x0/\p2 x0/\p3 x0)(k:∀ x0:vJ,p0 x0->p1 x0->p2 x0->p3 x0->G):G:=by obtain ⟨x0,h0,h1,h2,h3⟩:=h;exact k x0 h0 h1 h2 h3
def e2a2 {vJ:Sort _}{v8:Sort _}{p0:vJ->v8->Prop}{p1:vJ->v8->Prop}{G:Prop}(h:∃ x0:vJ,∃ x1:v8,p0 x0 x1/\p1 x0 x1)(k:∀ x0:vJ,∀ x1:v8,p0 x0 x1->p1 x0 x1->G):G:=by obtain ⟨x0,x1,h0,h1⟩:=h;exact k x0 x1 h0 h1
def e2a3 {vJ:Sort _}{v8:Sort _}{p0:vJ->v8->Prop}{p1:vJ->v8->Prop}{p2:vJ->v8->Prop}{G:Prop}(h:∃ x0:vJ,∃ x1:v8,p0 x0 x1/\p1 x0 x1/\p2 x0 x1)(k:∀ x0:vJ,∀ x1:v8,p0 x0 x1->p1 x0 x1->p2 x0 x1->G):G:=by obtain ⟨x0,x1,h0,h1,h2⟩:=h;exact k x0 x1 h0 h1 h2
def e2a4 {vJ:Sort _}{v8:Sort _}{p0:vJ->v8->Prop}{p1:vJ->v8->Prop}{p2:vJ->v8->Prop}{p3:vJ->v8->Prop}{G:Prop}(h:∃ x0:vJ,∃ x1:v8,p0 x0 x1/\p1 x0 x1/\p2 x0 x1/\p3 x0 x1)(k:∀ x0:vJ,∀ x1:v8,p0 x0 x1->p1 x0 x1->p2 x0 x1->p3 x0 x1->G):G:=by obtain ⟨x0,x1,h0,h1,h2,h3⟩:=h;exact k x0 x1 h0 h1 h2 h3
def e2a5 {vJ:Sort _}{v8:Sort _}{p0:vJ->v8->Prop}{p1:vJ->v8->Prop}{p2:vJ->v8->Prop}{p3:vJ->v8->Prop}{p4:vJ->v8->Prop}{G:Prop}(h:∃ x0:vJ,∃ x1:v8,p0 x0 x1/\p1 x0 x1/\p2 x0 x1/\p3 x0 x1/\p4 x0 x1)(k:∀ x0:vJ,∀ x1:v8,p0 x0 x1->p1 x0 x1->p2 x0 x1->p3 x0 x1->p4 x0 x1->G):G:=by obtain ⟨x0,x1,h0,h1,h2,h3,h4⟩:=h;exact k x0 x1 h0 h1 h2 h3 h4
def e3a2 {vJ:Sort _}{v8:Sort _}{wS:Sort _}{p0:vJ->v8->wS->Prop}{p1:vJ->v8->wS->Prop}{G:Prop}(h:∃ x0:vJ,∃ x1:v8,∃ x2:wS,p0 x0 x1 x2/\p1 x0 x1 x2)(k:∀ x0:vJ,∀ x1:v8,∀ x2:wS,p0 x0 x1 x2->p1 x0 x1 x2->G):G:=by obtain ⟨x0,x1,x2,h0,h1⟩:=h;exact k x0 x1 x2 h0 h1
def e3a3 {vJ:Sort _}{v8:Sort _}{wS:Sort _}{p0:vJ->v8->wS->Prop}{p1:vJ->v8->wS->Prop}{p2:vJ->v8->wS->Prop}{G:Prop}(h:∃ x0:vJ,∃ x1:v8,∃ x2:wS,p0 x0 x1 x2/\p1 x0 x1 x2/\p2 x0 x1 x2)(k:∀ x0:vJ,∀ x1:v8,∀ x2:wS,p0 x0 x1 x2->p1 x0 x1 x2->p2 x0 x1 x2->G):G:=by obtain ⟨x0,x1,x2,h0,h1,h2⟩:=h;exact k x0 x1 x2 h0 h1 h2
def e3a4 {vJ:Sort _}{v8:Sort _}{wS:Sort _}{p0:vJ->v8->wS->Prop}{p1:vJ->v8->wS->Prop}{p2:vJ->v8->wS->Prop}{p3:vJ->v8->wS->Prop}{G:Prop}(h:∃ x0:vJ,∃ x1:v8,∃ x2:wS,p0 x0 x1 x2/\p1 x0 x1 x2/\p2 x0 x1 x2/\p3 x0 x1 x2)(k:∀ x0:vJ,∀ x1:v8,∀ x2:wS,p0 x0 x1 x2->p1 x0 x1 x2->p2 x0 x1 x2->p3 x0 x1 x2->G):G:=by obtain ⟨x0,x1,x2,h0,h1,h2,h3⟩:=h;exact k x0 x1 x2 h0 h1 h2 h3
def e3a5 {vJ:Sort _}{v8:Sort _}{wS:Sort _}{p0:vJ->v8->wS->Prop}{p1:vJ->v8->wS->Prop}{p2:vJ->v8->wS->Prop}{p3:vJ->v8->wS->Prop}{p4:vJ->v8->wS->Prop}{G:Prop}(h:∃ x0:vJ,∃ x1:v8,∃ x2:wS,p0 x0 x1 x2/\p1 x0 x1 x2/\p2 x0 x1 x2/\p3 x0 x1 x2/\p4 x0 x1 x2)(k:∀ x0:vJ,∀ x1:v8,∀ x2:wS,p0 x0 x1 x2->p1 x0 x1 x2->p2 x0 x1 x2->p3 x0 x1 x2->p4 x0 x1 x2->G):G:=by obtain ⟨x0,x1,x2,h0,h1,h2,h3,h4⟩:=h;exact k x0 x1 x2 h0 h1 h2 h3 h4
def e4a4 {vJ:Sort _}{v8:Sort _}{wS:Sort _}{yD:Sort _}{p0:vJ->v8->wS->yD->Prop}{p1:vJ->v8->wS->yD->Prop}{p2:vJ->v8->wS->yD->Prop}{p3:vJ->v8->wS->yD->Prop}{G:Prop}(h:∃ x0:vJ,∃ x1:v8,∃ x2:wS,∃ x3:yD,p0 x0 x1 x2 x3/\p1 x0 x1 x2 x3/\p2 x0 x1 x2 x3/\p3 x0 x1 x2 x3)(k:∀ x0:vJ,∀ x1:v8,∀ x2:wS,∀ x3:yD,p0 x0 x1 x2 x3->p1 x0 x1 x2 x3->p2 x0 x1 x2 x3->p3 x0 x1 x2 x3->G):G:=by obtain ⟨x0,x1,x2,x3,h0,h1,h2,h3⟩:=h;exact k x0 x1 x2 x3 h0 h1 h2 h3
def e4a6 {vJ:Sort _}{v8:Sort _}{wS:Sort _}{yD:Sort _}{p0:vJ->v8->wS->yD->Prop}{p1:vJ->v8->wS->yD->Prop}{p2:vJ->v8->wS->yD->Prop}{p3:vJ->v8->wS->yD->Prop}{p4:vJ->v8->wS->yD->Prop}{p5:vJ->v8->wS->yD->Prop}{G:Prop}(h:∃ x0:vJ,∃ x1:v8,∃ x2:wS,∃ x3:yD,p0 x0 x1 x2 x3/\p1 x0 x1 x2 x3/\p2 x0 x1 x2 x3/\p3 x0 x1 x2 x3/\p4 x0 x1 x2 x3/\p5 x0 x1 x2 x3)(k:∀ x0:vJ,∀ x1:v8,∀ x2:wS,∀ x3:yD,p0 x0 x1 x2 x3->p1 x0 x1 x2 x3->p2 x0 x1 x2 x3->p3 x0 x1 x2 x3->p4 x0 x1 x2 x3->p5 x0 x1 x2 x3->G):G:=by obtain ⟨x0,x1,x2,x3,h0,h1,h2,h3,h4,h5⟩:=h;exact k x0 x1 x2 x3 h0 h1 h2 h3 h4 h5
def e5a3 {vJ:Sort _}{v8:Sort _}{wS:Sort _}{yD:Sort _}{Bb:Sort _}{p0:vJ->v8->wS->yD->Bb->Prop}{p1:vJ->v8->wS->yD->Bb->Prop}{p2:vJ->v8->wS->yD->Bb->Prop}{G:Prop}(h:∃ x0:vJ,∃ x1:v8,∃ x2:wS,∃ x3:yD,∃ x4:Bb,p0 x0 x1 x2 x3 x4/\p1 x0 x1 x2 x3 x4/\p2 x0 x1 x2 x3 x4)(k:∀ x0:vJ,∀ x1:v8,∀ x2:wS,∀ x3:yD,∀ x4:Bb,p0 x0 x1 x2 x3 x4->p1 x0 x1 x2 x3 x4->p2 x0 x1 x2 x3 x4->G):G:=by obtain ⟨x0,x1,x2,x3,x4,h0,h1,h2⟩:=h;exact k x0 x1 x2 x3 x4 h0 h1 h2
def e5a4 {vJ:Sort _}{v8:Sort _}{wS:Sort _}{yD:Sort _}{Bb:Sort _}{p0:vJ->v8->wS->yD->Bb->Prop}{p1:vJ->v8->wS->yD->Bb->Prop}{p2:vJ->v8->wS->yD->Bb->Prop}{p3:vJ->v8->wS->yD->Bb->Prop}{G:Prop}(h:∃ x0:vJ,∃ x1:v8,∃ x2:wS,∃ x3:yD,∃ x4:Bb,p0 x0 x1 x2 x3 x4/\p1 x0 x1 x2 x3 x4/\p2 x0 x1 x2 x3 x4/\p3 x0 x1 x2 x3 x4)(k:∀ x0:vJ,∀ x1:v8,∀ x2:wS,∀ x3:yD,∀ x4:Bb,p0 x0 x1 x2 x3 x4->p1 x0 x1 x2 x3 x4->p2 x0 x1 x2 x3 x4->p3 x0 x1 x2 x3 x4->G):G:=by obtain ⟨x0,x1,x2,x3,x4,h0,h1,h2,h3⟩:=h;exact k x0 x1 x2 x3 x4 h0 h1 h2 h3
def e5a6 {vJ:Sort _}{v8:Sort _}{wS:Sort _}{yD:Sort _}{Bb:Sort _}{p0:vJ->v8->wS->yD->Bb->Prop}{p1:vJ->v8->wS->yD->Bb->Prop}{p2:vJ->v8->wS->yD->Bb->Prop}{p3:vJ->v8->wS->yD->Bb->Prop}{p4:vJ->v8->wS->yD->Bb->Prop}{p5:vJ->v8->wS->yD->Bb->Prop}{G:Prop}(h:∃ x0:vJ,∃ x1:v8,∃ x2:wS,∃ x3:yD,∃ x4:Bb,p0 x0 x1 x2 x3 x4/\p1 x0 x1 x2 x3 x4/\p2 x0 x1 x2 x3 x4/\p3 x0 x1 x2 x3 x4/\p4 x0 x1 x2 x3 x4/\p5 x0 x1 x2 x3 x4)(k:∀ x0:vJ,∀ x1:v8,∀ x2:wS,∀ x3:yD,∀ x4:Bb,p0 x0 x1 x2 x3 x4->p1 x0 x1 x2 x3 x4->p2 x0 x1 x2 x3 x4->p3 x0 x1 x2 x3 x4->p4 x0 x1 x2 x3 x4->p5 x0 x1 x2 x3 x4->G):G:=by obtain ⟨x0,x1,x2,x3,x4,h0,h1,h2,h3,h4,h5⟩:=h;exact k x0 x1 x2 x3 x4 h0 h1 h2 h3 h4 h5
def e6a2 {vJ:Sort _}{v8:Sort _}{wS:Sort _}{yD:Sort _}{Bb:Sort _}{TR:Sort _}{p0:vJ->v8->wS->yD->Bb->TR->Prop}{p1:vJ->v8->wS->yD->Bb->TR->Prop}{G:Prop}(h:∃ x0:vJ,∃ x1:v8,∃ x2:wS,∃ x3:yD,∃ x4:Bb,∃ x5:TR,p0 x0 x1 x2 x3 x4 x5/\p1 x0 x1 x2 x3 x4 x5)(k:∀ x0:vJ,∀ x1:v8,∀ x2:wS,∀ x3:yD,∀ x4:Bb,∀ x5:TR,p0 x0 x1 x2 x3 x4 x5->p1 x0 x1 x2 x3 x4 x5->G):G:=by obtain ⟨x0,x1,x2,x3,x4,x5,h0,h1⟩:=h;exact k x0 x1 x2 x3 x4 x5 h0 h1
def e7a2 {vJ:Sort _}{v8:Sort _}{wS:Sort _}{yD:Sort _}{Bb:Sort _}{TR:Sort _}{α6:Sort _}{p0:vJ->v8->wS->yD->Bb->TR->α6->Prop}{p1:vJ->v8->wS->yD->Bb->TR->α6->Prop}{G:Prop}(h:∃ x0:vJ,∃ x1:v8,∃ x2:wS,∃ x3:yD,∃ x4:Bb,∃ x5:TR,∃ x6:α6,p0 x0 x1 x2 x3 x4 x5 x6/\p1 x0 x1 x2 x3 x4 x5 x6)(k:∀ x0:vJ,∀ x1:v8,∀ x2:wS,∀ x3:yD,∀ x4:Bb,∀ x5:TR,∀ x6:α6,p0 x0 x1 x2 x3 x4 x5 x6->p1 x0 x1 x2 x3 x4 x5 x6->G):G:=by obtain ⟨x0,x1,x2,x3,x4,x5,x6,h0,h1⟩:=h;exact k x0 x1 x2 x3 x4 x5 x6 h0 h1
def us0 {α:Type}{P:List α->Prop}(h:P [])(us:List α)(e:us.length=0):P us:=by
 cases us with
 |nil=>exact h
 |cons=>cases e
def us1 {α:Type}{P:List α->Prop}(h:∀ a,P [a])(us:List α)(e:us.length=1):P us:=by
 cases us with
 |nil=>cases e
 |cons a t=>exact us0 (P:=fun t=>P (a :: t)) (h a) t (Nat.succ.inj e)
def us2 {α:Type}{P:List α->Prop}(h:∀ a b,P [a,b])(us:List α)(e:us.length=2):P us:=by
 cases us with
 |nil=>cases e
 |cons a t=>exact us1 (P:=fun t=>P (a :: t)) (h a) t (Nat.succ.inj e)
def us3 {α:Type}{P:List α->Prop}(h:∀ a b c,P [a,b,c])(us:List α)(e:us.length=3):P us:=by
 cases us with
 |nil=>cases e
 |cons a t=>exact us2 (P:=fun t=>P (a :: t)) (h a) t (Nat.succ.inj e)
def us4 {α:Type}{P:List α->Prop}(h:∀ a b c d,P [a,b,c,d])(us:List α)(e:us.length=4):P us:=by
 cases us with
 |nil=>cases e
 |cons a t=>exact us3 (P:=fun t=>P (a :: t)) (h a) t (Nat.succ.inj e)
def cutG {α:Sort _}{G:α->Prop}{P:Prop}(k:(∀ a,G a)->P)(h:∀ a,G a):P:=k h
def cutP {G P:Prop}(k:G->P)(h:G):P:=k h
def lx0 {α:Type}(us:List α)(e:us.length=0):us=[]:=us0 (P:=fun us=>us=[]) rfl us e
def lx1 {α:Type}(us:List α)(e:us.length=1):∃ a,us=[a]:=us1 (P:=fun us=>∃ a,us=[a]) (fun a=>#[a,rfl]) us e
def lx2 {α:Type}(us:List α)(e:us.length=2):∃ a b,us=[a,b]:=us2 (P:=fun us=>∃ a b,us=[a,b]) (fun a b=>#[a,b,rfl]) us e
open PySem renaming wpAny_bind->am,wpAny_pure->ap,Addr->ci,Value->cr,starEach->gP,sizeLine->gS,Shared->gW,wpAny->gZ,model->g8,mainGlobals->hW,Stmt->il,Program->iB,wpAny_holding->iD,attributeBase->iG,FuncData->iH,wpAny_newObj_type->iK,Expr->iL,Heap->iM,World->iR,wpAny_call_entry->iT,behindInMarks->iV,sizeLine_eq->iY,wpAny_mono->jb,wpAny_field->jc,wpAny_setState_of->je,backTo->jm,Around->jx,compareOp->jy,excClassObj->jD,wpAny_askSetting->jF,SetTable->jH,wpAny_loadPart_at->jJ,codeAny_builtin->jM,wpAny_setField_rec->jP,codeAny_mono->jT,swapsWith->jW,mem_of_lookup->j9,wpAny_truthy_bool->kg,foldedSetIterable->kh,intKind->ky,ExcBaseFacts->kB,cLine->kG,wpAny_Call_Name_kw->kI,wpAny_loadName_local->kN,holding->kO,keywordEach->kP,wpAny_typeOf->kQ,sysModules->kT,plainId_quiet->kU,wpAny_seqItems->k8,unsupported->lu,tupleKind_room_in1->lw,wpAny_passesOwn->lJ,rawInt->lO,builtinLookup_eq_fast->lQ,Scope->l9,wpAny_rule->md,wpAny_isInstance->mn,binaryOp->mz,boot_len->mD,codeAny->mE,codeAny_of_tree->mH,wpAny_call->mM,getMethod->mO,wpAny_of_eq->mP,bootBuiltins->mX,standAt->mY,backToKw->mZ,wpAny_setField->m7,typeLookup->nA,hashInt->nC,wpAny_standAt->nI,callWith->nJ,sliceBounds->nK,codeAny_call_builtin->nN,wpAny_execs_nil->nX,typeLookup_type->nZ,getItem->oh,call_meetsIn->ol,builtinsNs->oy,closureFor->oB,relabel->oU,wpAny_attempt->o6,wpAny_comprehension_free->o7,wpAny_onRaise->o8,tupleKind->pc,GenState->ph,wpAny_Name->pK,assignEach->pL,Keyword->pN,intKind_is->pQ,sub_set_self->pR,wpAny_specialOf->pT,wpAny_updateSeq->pW,IsPart->qg,firstArgMember->qi,IsPair->qm,wpAny_updateSeq_pair->qo,valueAt->qr,wpAny_loadName_free->qx,wpAny_setEntries_of->qD,Obj->qG,wpAny_isSubtype_exc->qI,CmpOp->qJ,isTrue->qN,wpAny_load->qO,wpAny_pyIter_tuple->qP,wpAny_Call_method->rh,callerA->rj,cStatics->rr,ks_wpAt_mono->rs,plainObj_wpAny_Assign_Attribute->rD,wpAny_eqBool_int->rK,PassesOwn->rL,argsOk->rN,subscripted->rW,IsZip->se,wpAny_letGo->sf,Within->sg,wpAny_AugAssign_SubscriptAny->sj,letOwnedTupleGo->sk,wpAny_tests_nil->sv,setItem->sA,BindsTo->sD,OwnTail->sI,wpAny_Compare1->sK,assign->sL,recursionLimit->sN,bindArgs->sO,atKey->sS,relayAll->sV,storeSet->sW,entryFor->sX,entryFor_alias->sY,wpAny_runValue->sZ,isSubtype_type->td,compEnvC->tm,refuseLoop->tz,evalPart_none->tQ,wpAny_getItem_list_slice->tR,call->tS,wpAny_newList->tU,wpAt->tW,table->uc,pickOrder->ud,TriplesOk->ug,noteFrame->uh,field->ui,spliced->uq,truthy->ur,leaving->ut,seqIndex_neg->uv,wpAny_Call_method_late->ux,wpAny_isTrue_Compare1->uF,weight_type_call_type->uJ
open PySem.Heap renaming get?_push_of_some->ce,lt_size->gX,get?_push_size->hI,get?_update_other->iE,get?_update_self->iP,SameBut->i4,size_push->jB,FlyingW->lS,get?_none_of_le->m9,get?_push_at->oo,size_update->oG,get?_update_ne->pX,IsTuple->qu,MadeExcOf->rJ
open PySem.W renaming Frag->gO,nsIn->hZ,findIn->iv,envX->iW,mg_of->iZ,keepIn->jh,excIn->jq,codeIn->jt,fnOf->jC,kia_one->jG,Looks->jN,emptyDict->jO,ks_superIn->jU,instObj->kD,fnX->kF,mroIn->kX,exmAny->lE,hideAll->lY,methodObj->mr,fnIn->my,plainGet->mK,clsIn->mQ,kas_rev_size->m8,of_hideAll->ny,hasDictIn->nP,tabIn->n6,isFn->oz,methodCall_KW->oK,lookIn->oW,typeIn->oX,looks_findIn->oY,hideAll_get->pf,plainGet_of->pi,looks_clsIn->pq,callWith_of->pE,looks_mroIn->pF,ks_superObj->pG,callWith_K->pM,isNs_of_in->pS,plainOver->pZ,takerIn->qy,makesIn->qz,OpenLaw->qE,kitOne->qQ,CodeHd->qU,tabObj->qV,ks_loadName_global->qW,MethP->rA,kas_rev->rB,cellsFrom_some->rM,funFrames_hide->rO,hideAll_none->sh,looks_opaque->sy,callWith_K0->sE,codeRec_of->sQ,tail_of_in->tq,mg_none_of->ts,kitx_list->tG,kitx_dict->tH,handedIn->tP,kat_cons->tX,keeps_M->uj,alongIn->uk,kas_place->um,kat_yes->uo,kat_go->uC,kat_no->uD,nsOkIn->uE,WalkO->uK
open Nat renaming le_refl->gQ,ne_of_lt->hR,lt_of_lt_of_le->ic,le_trans->iA,zero_le->i9,ne_of_gt->jj,lt_of_le_of_lt->jk,lt_succ_self->jw,lt_irrefl->jQ,le_of_lt_succ->j5,le_succ->lP,le_of_lt->lU,lt_trans->nL,succ_pos->nM,mod_lt->nY,lt_succ_of_lt->ot,le_add_right->oM,le_of_eq->qA,sub_self->qH,le_of_not_lt->qR,zero_add->sU,div_lt_of_lt_mul->tT,lt_trichotomy->uH
open List renaming mem_cons_self->gR,mem_cons_of_mem->gU,length_map->gV,size_toArray->hJ,length_append->hO,mem_append_right->ig,length_singleton->ii,length_cons->ij,range->ik,map_cons->im,mem_cons->io,length_filter_le->iq,lookup_cons->iF,find?_cons->iQ,mem_append_left->i8,not_mem_nil->ja,mem_filter->jo,getD_eq_getElem?_getD->jp,take_of_length_le->js,filter_cons->ju,getElem?_eq_getElem->jv,getElem?_map->jE,mem_of_getElem?->jK,pairwise_singleton->jL,getElem?_append_right->jR,map_append->j7,map_map->kj,lookup->ko,getElem?_eq_none->kC,append_nil->kH,filterMap_cons->kM,replicate->kR,mem_append->lj,length_range->lx,append_assoc->lA,getElem?_of_mem->lK,length_take->lR,getElem?_append_left->lV,map_congr_left->l8,length_set->mj,foldl_cons->ml,mem_singleton->mq,nodup_nil->mG,filter_congr->mI,perm_append_comm->mS,length_drop->mV,getElem?_set_ne->nc,take_append_of_le_length->ng,length_nil->nj,nil_append->nq,drop_eq_getElem_cons->n9,length->oi,reverse_cons->oj,any_cons->oq,eraseIdx_cons_succ->oC,all_eq_true->oH,getElem?_set_self->oS,map_nil->oT,filterMap_eq_map'->oV,of_mem_zip->oZ,all_cons->qb,ext_getElem?->qt,eraseIdxIfInBounds_toArray->qC,filter_map->rc,getElem?_take_of_lt->rV,findIdx?->rZ,getElem?_replicate->sr,getElem?_cons_succ->sx,pairwise_lt_range->sH,length_replicate->sP,take_append_drop->sT,eq_nil_or_concat->tD,concat_eq_append->tE,getElem?_range->tV,filterMap_map->tZ,getElem?_take->t6,getElem?_drop->t7,map_filterMap->t9,contains_cons->ul,take_sublist->uu,getElem_mem->uI,any_eq_true->uL,drop_length->uM,zipIdx_cons->uN,take_length->uO,getElem_map->uP
open Array renaming length_toList->gY,getElem?_toList->iI,getElem?_eq_getElem->jr,getD_eq_getD_getElem?->lp,size_map->mB,toList_extract->m6,toList_append->pO,append_assoc->pY,toList_push->qh,toList->si,getElem?_eq_none->sw,find?_toList->tO
open Bool renaming false_ne_true->g9,and_eq_true->iJ,false_eq_true->kZ,eq_iff_iff->mi,xor_assoc->mJ,xor_false->nW,and_self->qd,false_xor->rH,or_false->r8,not_eq_true'->uB
open PySem.SetTable renaming below->hX,sizeAbove->iO,eraseAt->i7,runEnd->jf,insertAt->jg,bits->ji,leap->kd,fresh->ki,has->kE,turns->kJ,fill->kW,Probe->lq,advance->lG,grown->mo,laid->nQ,freeSlot->pU,layClean->pV,probe->qK,slot->qZ,roomFor->tL,fits->uz,road->uA
open PySem.Value renaming ref->h8,type->j4,int->lN,isInt->mW,bool->rf,float->sJ
open Sum renaming inl->iu,inr->qw
open List.Pairwise renaming nil->iw,filter->jS,imp->o4
open PySem.F renaming excBase_ValueError->iz,slot_dict_get->kq,slot_tuple_iterator_next->lX,plainAttrs_list->mh,entry_dict_get->mu,plainAttrs_dict->om,plain_list_iadd->oF,slot_list_pop->oQ,type_list_pop->oR,plain_set_new->pI,slot_zip_next->pJ,plain_extend_loop->qj,slot_dict_delitem->qY,args_dict_get_2->rE,args_dict_get_3->rF,args_tuple_iterator_next_1->rP,slot_dict_pop->rX,type_dict_get->rY,entry_tuple_iterator_next->sd,entry_proto_collect->ue,plain_proto_collect->uf
open False renaming elim->iC
open Option renaming isSome_map->iN,getD_none->qq,map->tJ
open Option.some renaming inj->iX
open PySem.SetTable.layClean renaming free->jd
open PySem.Builtin.SmallTypes renaming nextOf->jl,ownedTupleIsFree->jY,ownedTupleHandOut->nV
open PySem.Around renaming under_plainId->jz,under->rT,frames_deeper->sF,under_plain->tN
open PySem.Calls renaming evalArgs_plain->jA,spliced_cons->jX,callWith_builtin->kf,spliced_nil->lm,loadGlobal_builtin->og,Name_function_global->rg,call_function_entry->rG
open PySem.SetTable.probe renaming go->jI
open PyProof.Rows renaming callWith_type1->jZ,boot_list->j0,boot_sorted->ku,slot_tuple_getitem->kA,IntsAre->kY,seqObj->mw,AllBare->nE,boot_set->oa,envOfC->oJ,callWith_builtin1->pH,boot_tuple->qF,boot_bool->qM,Subscript_->sR,size_push'->tj,listUpdate_at->tY,subscriptTail_builtinR->uw
open PySem.Spec renaming sameAll->kK,same->kS
open Or renaming inl->k9,inr->uG
open PySem.Builtin.Slice renaming slicePlaces->lh,sliceAdjust->qe
open PySem.Builtin.Tuple renaming tupleExact->lv,tupleItemsOf->qa
open Int renaming toNat_natCast->lF,le_refl->ou,emod_lt_of_pos->qp,emod_nonneg->rC
open PySem.Builtin.List renaming listSameRef->lH,listExtendWith->qc
open PySem.W.KasT renaming kasWp->lM,kasWp_bind->nw
open PySem.Str renaming ofString->lW
open PySem.Heap.SameBut renaming refl->lZ,update->oE
open PySem.Shared renaming TypeIs->l6
open PySem.SeqAt renaming noMixAll->mC,noMix->pA,shaped->su
open ForInStep renaming yield->mU
open PySem.SetTable.below renaming go->m4
open Nat.succ renaming inj->ni
open Sum.inl renaming inj->nO
open PySem.Code renaming quiet_builtin->nS,isFrame->sC
open PySem.PyData renaming canLayAll0->n8,depthAll->oO,canLay0->o9,depth->r9
open List.Perm renaming append_left->oA,cons->oN,refl->oP,of_eq->tK
open PyProof.Rows.F renaming plain_set_update_loop->o5,entry_set_update_loop->tM
open PySem.Builtin.Frozenset renaming newClass->pw,oneOther->pB
open String renaming splitOnAux->qf,splitOn->q7
open PySem.Heap.UpToSlots renaming of_keeps->qk
open Eq renaming mpr->qv
open Classical renaming byContradiction->qL
open PyProof.Rows.IntsAre renaming int_at->qS,length->qT
open PySem.Heap.IsSliceOf renaming new->qX
open PySem.pickOrder renaming go->ro
open PySem.W.Looks renaming ld->rQ
open PySem.SeqAt.EqAt renaming int_str->rR,str_int->rS
open PySem.Heap.DictOf renaming new->sG
open PySem.Heap.Ns1 renaming of_empty->sM
open PySem.Data renaming fields->tF
open Function renaming comp->uy
abbrev gM:=@if_neg
abbrev gN:=@if_pos
abbrev hV:=@absurd
abbrev ie:=@decide_eq_false
abbrev iU:=@decide_eq_true_eq
abbrev jV:=@of_decide_eq_true
abbrev mf:=@or_false
abbrev pr:=@if_false
abbrev pC:=@beq_self_eq_true
abbrev pP:=@not_or
abbrev rq:=@bne_self_eq_false
def q0q{p:Prop}(h:p:=by decide):p:=h
def q0d{p:Prop}(h:p:=by omega):p:=h
def q0o{p:Prop}(h:p:=by simp):p:=h
def q0s{p:Prop}(h:p:=by decide +kernel):p:=h
def q0a{p:Prop}(h:p:=by lia):p:=h
namespace L2
open PySem PySem.Spec PyProof.Rows
abbrev Key:=Sum Int Str
noncomputable def zS:Key->cr->Bool
 | .inl k,v=>mW k v
 | .inr x,v=>Value.isStrOf x v
noncomputable def a1t(w:iR):Key->Int
 | .inl k=>nC k
 | .inr x=>hashStr w x
def wh:∀{k:Key} {v:cr},zS k v=true->(∃i t,k=iu i/\v=lN i t)\/(∃x t,k=qw x/\v=Value.str x t)
 | .inl i,v,h=>by
  obtain⟨t,e⟩:=Value.isInt_shape (k:=i) (v:=v) h;exact .inl #[i,t,rfl,e]
 | .inr x,v,h=>by obtain⟨t,e⟩:=Value.isStrOf_shape (x:=x) (v:=v) h;exact .inr #[x,t,rfl,e]
def NE(i:Int)(t:Tok):zS (.inl i) (.int i t)=true:=by simp[zS,mW]
def NF(x:Str)(t:Tok):zS (.inr x) (.str x t)=true:=by simp[zS,Value.isStrOf]
def W5(a b:Int):decide ((iu a:Key)=iu b)=(a==b):=by
 by_cases e:a=b
 ·subst e;simp
 ·have h:¬(iu a:Key)=iu b:=λq=>e<|nO q;rw[ie h];exact(beq_eq_false_iff_ne.mpr e).symm
def W6(a b:Str):decide ((qw a:Key)=qw b)=decide (a=b):=by
 by_cases e:a=b
 ·subst e;simp
 ·have h:¬(qw a:Key)=qw b:=λq=>e<|Sum.inr.inj q;rw[ie h,ie e]
def W7(a:Int)(b:Str):decide ((iu a:Key)=qw b)=false:=ie<|λq=>nomatch q
def W8(a:Str)(b:Int):decide ((qw a:Key)=iu b)=false:=ie<|λq=>nomatch q
noncomputable def vA(prog:iB)(w:iR):PySem.KeyKind prog w Key where
 is:=zS
 hash:=a1t w
 inj:=λv a b ha hb=>by
  rcases wh ha with⟨i,t,rfl,rfl⟩|⟨x,t,rfl,rfl⟩
  ·rcases wh hb with⟨j,u,rfl,e⟩|⟨y,u,rfl,e⟩
   ·injection e with e1 _;rw[e1]
   ·exact nomatch e
  ·rcases wh hb with⟨j,u,rfl,e⟩|⟨y,u,rfl,e⟩
   ·exact nomatch e
   ·injection e with e1 _;rw[e1]
 byValue:=λk v h=>by rcases wh h with⟨i,t,rfl,rfl⟩|⟨x,t,rfl,rfl⟩<;>rfl
 pyHash:=λhv h=>by
  rcases wh hv with⟨i,t,rfl,rfl⟩|⟨x,t,rfl,rfl⟩
  ·exact wpAny_pyHash_int h
  ·exact wpAny_pyHash_str h
 eqBool:=λhu hv h=>by
  rcases wh hu with⟨i,t,rfl,rfl⟩|⟨x,t,rfl,rfl⟩
  ·rcases wh hv with⟨j,u,rfl,rfl⟩|⟨y,u,rfl,rfl⟩
   ·rw[W5]at h;exact rK h
   ·rw[W7]at h;exact rR i t y u _ _ _ _ h
  ·rcases wh hv with⟨j,u,rfl,rfl⟩|⟨y,u,rfl,rfl⟩
   ·rw[W8]at h;exact rS x t j u _ _ _ _ h
   ·rw[W6]at h;exact wpAny_eqBool_str h
 «strs»:=λk x t v h=>by
  rcases wh h with⟨i,u,rfl,e⟩|⟨y,u,rfl,e⟩
  ·exact nomatch e
  ·injection e with e1 _;subst e1;cases v<;>rfl
def IE(a:iB)(w:iR)(i:Int)(t:Tok):(vA a w).is (.inl i) (.int i t)=true:=NE i t
def IF(a:iB)(w:iR)(x:Str)(t:Tok):(vA a w).is (.inr x) (.str x t)=true:=NF x t
set_option genInjectivity true in
inductive V where
 | wF|bl (b:Bool)|int (i:Int)|str (x:Str)|Mu (b:Array UInt8)|W9 (b:UInt64)|ref (a:ci)|ty (n:String)
 deriving DecidableEq
def RelV:V->cr->Prop
 | .wF,u=>u=Value.none
 | .bl b,u=>u=rf b
 | .int i,u=>∃t,u=lN i t
 | .str x,u=>∃t,u=Value.str x t
 | .Mu b,u=>∃t,u=Value.bytes b t
 | .W9 b,u=>∃t,u=sJ b t
 | .ref a,u=>u=h8 a
 | .ty n,u=>u=j4 n
abbrev Vals:List V->List cr->Prop:=Paired RelV
def Vals.length{xs:List V}{us:List cr}(r:Vals xs us):xs.length=us.length:=Paired.length r
def Vals.get:∀{a:List V} {b:List cr} {i:Nat} {x:V},Vals a b->a[i]?=↑x->∃u,b[i]?=↑u/\RelV x u:=by
 intro _ _ i x z
 induction z generalizing i with
 |nil=>intro e;simp at e
 |cons r t c =>
  intro e
  cases i with
  |zero=>simp at e;subst e;exact#[_,rfl,r]
  |succ i=>exact e1a2 (c<|by simpa using e) λu d f=>#[u,by simpa using d,f]
def Vals.set(r:RelV x u):∀{a:List V} {b:List cr} (i:Nat),Vals a b->Vals (a.set i x) (b.set i u)
 |_,_,_,.nil=>.nil
 |_,_,0,.cons _ t=>.cons r t
 |_,_,i+1,.cons q t=>.cons q<|Vals.set r i t
def Vals.append:∀{a b:List V} {c d:List cr},Vals a c->Vals b d->Vals (a++b) (c++d):=by
 intro _ _ _ _ z s
 induction z with
 |nil=>exact s
 |cons h t e=>exact .cons h e
def Vals.take:∀{a:List V} {b:List cr} (n:Nat),Vals a b->Vals (a.take n) (b.take n)
 |_,_,0,_=>.nil
 |_,_,_+1,.nil=>.nil
 |_,_,n+1,.cons r t=>.cons r<|Vals.take n t
def Vals.drop:∀{a:List V} {b:List cr} (n:Nat),Vals a b->Vals (a.drop n) (b.drop n)
 |_,_,0,r=>r
 |_,_,_+1,.nil=>.nil
 |_,_,n+1,.cons _ t=>Vals.drop n t
def zk:Option V->Option cr->Prop
 |some v,some u=>RelV v u
 |none,none=>True
 |_,_=>False
def KV{a:Type}:List (a×V)->List (a×cr)->Prop:=Paired λ(p:a×V)(q:a×cr)=>p.1=q.1/\RelV p.2 q.2
noncomputable def kV:Key->V
 | .inl i=>.int i
 | .inr x=>.str x
inductive HO where
 | lst (xs:List V)
 | tup (xs:List V)
 | dK (xn:List (Key×V))|dT (xn:List (List Key×V))
 | set (S:Int->Bool) (n:Nat)
 | ins (C dx:ci) (fs:List (Str×V))
 | own (x:ci)
 | xd (fs:List (Str×V))
 | met (f x:ci)
 | yL (lo hi:Int)
 | J7 (o:Obj) (u:HO)
 | Fo (ps:Array cr)
 | ext (φ:iM->Prop)
abbrev Hp:=ci->Option HO
noncomputable def upd(H:Hp)(a:ci)(o:HO):Hp:=λb=>if b=a then some o else H b
def uV:upd H a o a=↑o:=by unfold upd;rw[gN rfl]
def uR(h:b≠a):upd H a o b=H b:=by unfold upd;rw[gM h]
def TU:upd (upd H a o) a u=upd H a u:=by funext b;unfold upd;split<;>rfl
def Zo{H:Hp}{a b:ci}{o u:HO}(h:H a=↑o)(c:H b=↑u)(d:o≠u):a≠b:=by intro e;subst e;rw[h]at c;exact d<|iX c
def vc{H:Hp}{a b:ci}{o:HO}(h:H a=↑o)(c:H b=none):a≠b:=by intro e;subst e;rw[h]at c;cases c
section
variable(P:iB)(w:iR)
def v4(H:Hp)(h:iM)(a:ci):HO->Prop
 | .lst xs=>xs.length<=gS/\∃(zQ:List cr)(n:Nat),Vals xs zQ/\h.get? a=some { cls:=.type "list",data:=.seq zQ.toArray n}
 | .tup xs=>xs.length<=gS/\∃zQ:List cr,Vals xs zQ/\IsTup h a zQ.toArray
 | .dK xn=>xn.length<=gS/\(a==kT)=false/\∃vs,KV xn vs/\h.DictOf (vA P w) a vs
 | .dT xn=>xn.length<=gS/\(a==kT)=false/\∃xs:List (List Key×ci×cr),
   Paired (λ(p:List Key×V)(q:List Key×ci×cr)=>p.1=q.1/\H q.2.1=↑(.tup<|p.1.map kV)/\RelV p.2 q.2.2) xn xs /\
   ∃o es ep,h.get? a=↑o/\o.ExactDict/\o.data=.dict es ep/\es.toList=xs.map (entryOfKey<|pc<|vA P w)/\(xs.map (·.1)).Nodup
 | .set S n=>h.SetOf (ky P w) a S n
 | .ins C dx fs=>H dx=↑(.own a)/\fs.length<=1000/\dx≠a/\h.get? a=↑(kD C dx) /\
   ∃mA,h.Ns1 dx mA/\(∀f,zk (fs.lookup f)<|mA f)/\sg mA (fs.map (·.1))
 | .own _=>∃o,h.get? a=↑o
 | .xd fs=>∃mA,h.Ns1 a mA/\∀f,zk (fs.lookup f)<|mA f
 | .yL lo hi=>∃t u v,h.get? a=some { cls:=.type "range",data:=.fields #v[.int lo t,.int hi u,.int 1 v]}
 | .J7 o u=>h.get? a=↑o/\v4 H h a u
 | .Fo ps=>h.get? a=some { cls:=.none,data:=.fields ps}
 | .met f x=>h.get? a=↑(mr (.ref f)<|.ref x)
 | .ext φ=>φ h/\(∃o,h.get? a=↑o)/\∀h1 h2:iM,φ h1->(∀o,h1.get? a=↑o->h2.get? a=↑o)->φ h2
def xV(H:Hp)(h:iM):Prop:=∀a o,H a=↑o->v4 P w H h a o
end
def v4.lt(x:v4 P w H h a o):a<h.objs.size:=by
 cases o with
 |lst c=>obtain⟨_,_,_,_,e⟩:=x;exact gX e
 |tup c=>obtain⟨_,_,_,p⟩:=x;exact p.lt
 |dK b=>obtain⟨_,_,_,_,o,_,_,e,_⟩:=x;exact gX e
 |dT b=>obtain⟨_,_,_,_,o,_,_,e,_⟩:=x;exact gX e
 |set S n=>obtain⟨o,_,_,_,e,_⟩:=x;exact gX e
 |ins C d fs=>obtain⟨_,_,_,e,_⟩:=x;exact gX e
 |own y=>obtain⟨_,e⟩:=x;exact gX e
 |xd fs=>obtain⟨_,⟨_,_,_,e,_⟩,_⟩:=x;exact gX e
 |yL lo g=>obtain⟨_,_,_,e⟩:=x;exact gX e
 |J7 i u=>obtain⟨e,_⟩:=x;exact gX e
 |Fo j=>exact gX<|show h.get? a=some _ from x
 |met f y=>exact gX<|show h.get? a=some _ from x
 |ext k=>obtain⟨_,⟨_,e⟩,_⟩:=x;exact gX e
def Paired.Xa:∀{c:List g} {d:List i},Paired F c d->(∀a b,F a b->G a b)->Paired G c d:=by
 intro _ _ z f
 induction z with
 |nil=>exact .nil
 |cons h t e=>exact .cons (f _ _ h) e
def v4.Do(x:v4 P w H h a o)(k:∀b u,(b=a\/H b=↑(.own a))->h.get? b=↑u->F.get? b=↑u)
 (G:∀b,H b=↑(.own a)->D b=↑(.own a))(I:∀b m,H b=↑(.tup m)->D b=↑(.tup m)):v4 P w D F a o:=by
  induction o with
  |lst m=>obtain⟨z,l,n,r,e⟩:=x;exact#[z,l,n,r,k _ _ (.inl rfl) e]
  |tup m=>obtain⟨z,l,r,g,e,c⟩:=x;exact#[z,l,r,g,k _ _ (.inl rfl) e,c]
  |dK s=>obtain⟨z,y,J,r,g,i,j,e,c⟩:=x;exact#[z,y,J,r,g,i,j,k _ _ (.inl rfl) e,c]
  |dT s =>
    obtain⟨z,y,m,r,g,i,j,e,c⟩:=x
    exact#[z,y,m,Paired.Xa r λp q z=>#[z.1,I _ _ z.2.1,z.2.2],g,i,j,k _ _ (.inl rfl) e,c]
  |set S n=>obtain⟨g,i,j,t,e,c⟩:=x;exact#[g,i,j,t,k _ _ (.inl rfl) e,c]
  |ins C Q fs =>
    obtain⟨d,z,L,e,A,⟨B,i,j,M,c⟩,r⟩:=x
    exact#[G _ d,z,L,k _ _ (.inl rfl) e,A,#[B,i,j,k _ _ (.inr d) M,c],r]
  |own y=>obtain⟨g,e⟩:=x;exact#[g,k _ _ (.inl rfl) e]
  |xd fs=>obtain⟨A,⟨B,i,j,e,c⟩,r⟩:=x;exact#[A,#[B,i,j,k _ _ (.inl rfl) e,c],r]
  |yL lo R=>obtain⟨t,u,v,e⟩:=x;exact#[t,u,v,k _ _ (.inl rfl) e]
  |J7 g u N=>obtain⟨e,q⟩:=x;exact#[k _ _ (.inl rfl) e,N q]
  |Fo O =>
    have e:h.get? a=some { cls:=.none,data:=.fields O}:=x
    exact k a _ (.inl rfl) e
  |met f y =>
    have e:h.get? a=↑(mr (.ref f)<|.ref y):=x
    exact k a _ (.inl rfl) e
  |ext T=>obtain⟨p,⟨o,e⟩,E⟩:=x;exact#[E _ _ p λo q=>k _ _ (.inl rfl) q,#[o,k _ _ (.inl rfl) e],E]
def xV.lt(x:xV P w H h)(e:H a=↑o):a<h.objs.size:=(x a o e).lt
def xV.fresh(x:xV P w H h)(e:h.objs.size<=a):H a=none:=by
 cases q:H a with
 |none=>rfl
 |some u=>exact hV (ic (x.lt q) e)<|jQ _
def xV.kept(x:xV P w H h)(k:∀b u,h.get? b=↑u->c.get? b=↑u):xV P w H c:=λa o e =>
 (x a o e).Do (λb u _ q=>k b u q) (λ_ q=>q) λ_ _ q=>q
def xV.laid(x:xV P w H h)(k:∀b u,h.get? b=↑u->h'.get? b=↑u)(i:h.objs.size<=a)(d:v4 P w (upd H a o) h' a o):xV P w (upd H a o) h':=λb u e=>by
 have f:=x.fresh i;by_cases g:b=a
 ·subst g;rw[uV]at e;cases e;exact d
 ·rw[uR g]at e;exact(x b u e).Do (λc v _ q=>k c v q) (λc q=>by rw[uR<|vc q f];exact q) λc j q=>by rw[uR<|vc q f];exact q
def Rd(H:Hp)(a:ci)(u:HO):Prop:=H a=↑u\/∃o,H a=↑(.J7 o u)
def Rd.of(h:H a=↑u):Rd H a u:=.inl h
def Rd.ok(r:Rd H a u)(x:xV P w H h):v4 P w H h a u:=by
 rcases r with r|⟨o,r⟩
 ·exact x a u r
 ·obtain⟨_,q⟩:=x a _ r;exact q
def Zp:Option HO->Prop
 |some (.lst _)=>True
 |some (.dK _)=>True
 |some (.dT _)=>True
 |some (.set _ _)=>True
 |some (.ins _ _ _)=>True
 |some (.ext _)=>True
 |_=>False
def xV.write(t:xV P w H h)(g:Zp (H x))(o:e=x\/H e=↑(.own x))(k:∀b u,b≠e->h.get? b=↑u->h'.get? b=↑u)(m:∃u,h'.get? e=↑u)
 (n:v4 P w (upd H x p) h' x p):xV P w (upd H x p) h':=λb u q=>by
  have d:∀c y,H c=↑(.own y)->c≠x:=λc y r z=>by subst z;rw[r]at g;exact g
  have f:∀c i,H c=↑(.tup i)->c≠x:=λc i r z=>by subst z;rw[r]at g;exact g
  by_cases j:b=x
  · subst j; rw[uV]at q; cases q; exact n
  · rw[uR j]at q
    by_cases a:b=e
    · have s : H b = some (.own x) := by
        rcases o with z|z
        · exact hV (a.trans z) j
        · rw[a]; exact z
      rw[q]at s;cases s
      obtain⟨v,A⟩:=m
      exact#[v,by rw[a];exact A]
    · refine(t b u q).Do (λc v l r => k c v ?_ r) (λc r => by rw[uR<|d c b r]; exact r) λc i r => by rw[uR<|f c i r]; exact r
      rcases l with rfl|l
      · exact a
      · rintro rfl
        rcases o with z|z
        · exact d c b l z
        · rw[l]at z; cases z; exact j rfl
structure Un(fs ex:List ci)(H H':Hp)(h h':iM):Prop where
 keep:∀b o,h.get? b=↑o->H b=none->b∉fs->b∉ex->h'.get? b=↑o
 slot:∀b o,h.get? b=↑o->H b=none->b∈fs->b∉ex->∃sl,h'.get? b=some { o with slots:=sl}
 free:∀b o,h.get? b=↑o->H b=none->b∉ex->H' b=none
 there:∀b o,h.get? b=↑o->b∉ex->∃o',h'.get? b=↑o'
 Bw:∀b xs,H b=↑(.tup xs)->H' b=↑(.tup xs)
 Bc:∀b o u,H b=↑(.J7 o u)->H' b=↑(.J7 o u)
 Be:∀b ps,H b=↑(.Fo ps)->∃more,H' b=↑(.Fo<|ps++more)
def Un.any(u:Un fs e H H1 h f)(q:h.get? b=↑a)(n:H b=none)(c:b∉e):∃g,f.get? b=some { a with slots:=g}:=by
 by_cases d:b∈fs
 ·exact u.slot b a q n d c
 ·exact#[a.slots,u.keep b a q n d c]
def Un.trans(a:Un fs ex H H1 h h1)(b:Un fs ex H1 H2 h1 h2):Un fs ex H H2 h h2 where
 keep:=λc ob q n hc hx=>b.keep c ob (a.keep c ob q n hc hx) (a.free c ob q n hx) hc hx
 slot:=λc ob q n hc hx=>by obtain⟨sl,e1⟩:=a.slot c ob q n hc hx;obtain⟨sl',e2⟩:=b.slot c _ e1 (a.free c ob q n hx) hc hx;exact#[sl',e2]
 free:=λc ob q n hx=>by obtain⟨o',e1⟩:=a.there c ob q hx;exact b.free c o' e1 (a.free c ob q n hx) hx
 there:=λc ob q hx=>by obtain⟨o',e1⟩:=a.there c ob q hx;exact b.there c o' e1 hx
 Bw:=λc xs q=>b.Bw c xs<|a.Bw c xs q
 Bc:=λc ob xs q=>b.Bc c ob xs<|a.Bc c ob xs q
 Be:=λc ps q=>by obtain⟨m1,e1⟩:=a.Be c ps q;obtain⟨m2,e2⟩:=b.Be c _ e1;exact#[m1++m2,by rw[e2,pY]]
def Un.kept(k:∀b u,h.get? b=↑u->c.get? b=↑u):Un fs d H H h c :=
 #[λb a q _ _ _=>k b a q,λb a q _ _ _=>#[a.slots,k b a q],λ_ _ _ n _=>n,λb a q _=>#[a,k b a q],λ_ _ q=>q,λ_ _ _ q=>q,λ_ e q=>#[#v[],by rw[q];simp]]
def Un.refl:Un fs a H H h h:=Un.kept λ_ _ q=>q
def Un.laid(k:∀b u,h.get? b=↑u->h'.get? b=↑u)(hp:h.objs.size<=a)(hn:H a=none):Un fs ex H (upd H a o) h h' where
 keep:=λb u q _ _ _=>k b u q
 slot:=λb u q _ _ _=>#[u.slots,k b u q]
 free:=λb u q n _=>by rw[uR<|hR<|ic (gX q) hp];exact n
 there:=λb u q _=>#[u,k b u q]
 Bw:=λb xs q=>by rw[uR<|vc q hn];exact q
 Bc:=λb u xs q=>by rw[uR<|vc q hn];exact q
 Be:=λb ps q=>#[#v[],by rw[uR<|vc q hn,q];simp]
def Un.write(c:Zp (H x))(j:e=x\/H e=↑(.own x))(k:∀b u,b≠e->h.get? b=↑u->h'.get? b=↑u)(d:∃u,h'.get? e=↑u):Un fs p H (upd H x o) h h':=by
 have g:∀b,H b=none->b≠x:=λb n z=>by subst z;rw[n]at c;exact c
 have i:∀b,H b=none->b≠e:=λb n z=>by
  subst z;rcases j with r|r
  ·exact g b n r
  ·rw[n]at r;cases r
 have f:∀b u,H b=↑u->¬Zp ↑u->b≠x:=λb u q l z=>by subst z;rw[q]at c;exact l c
 refine#[λb u q n _ _=>k b u (i b n) q,λb u q n _ _=>#[u.slots,k b u (i b n) q],λb u q n _=>by rw[uR (g b n)];exact n,λb u q _=>?_,
  λb m q=>by rw[uR (f b _ q λz=>z)];exact q,λb u m q=>by rw[uR (f b _ q λz=>z)];exact q,λb s q=>#[#v[],by rw[uR (f b _ q λz=>z),q];simp]]
 by_cases a:b=e
 ·subst a;exact d
 ·exact#[u,k b u a q]
noncomputable def trk(h:iM)(H:Hp):List ci:=(ik h.objs.size).filter λa=>(H a).isSome
noncomputable def IG(h:iM)(H:Hp):iM:=lY h<|trk h H
def NG(h:iM)(H:Hp):(IG h H).objs.size=h.objs.size:=PySem.W.hideAll_size _ _
def DS{h:iM}(e:h.get? b=↑o)(n:H b=none):(IG h H).get? b=↑o :=
 pf _ e λa=>by have q:(H b).isSome=true:=(List.mem_filter.mp a).2;rw[n]at q;simp at q
def TV(e:(IG h H).get? b=↑o):h.get? b=↑o/\H b=none:=by
 have a:h.get? b=↑o:=ny (trk h H) e;refine#[a,?_]
 cases q:H b with
 |none=>rfl
 |some x =>
  have c:b∈trk h H:=List.mem_filter.mpr #[List.mem_range.mpr<|gX a,by simp[q]];have z:(IG h H).get? b=none:=sh (trk h H) c;rw[z]at e;cases e
noncomputable def TX(g h:iM)(L:ci):List (ci×Obj):=(ik h.objs.size).filterMap λa=>if a=L\/(g.get? a).isSome=true then none else (h.get? a).map λo=>(a,o)
noncomputable def rest(g h:iM)(L d:ci):List (ci×Obj):=(TX g h L).filter λp=>decide<|p.1≠d
structure Mod(K:gO)(mg:Str->Option cr)(base:iM):Prop where
 Bv:K.In base
 glob:base.Ns hW mg
 blt:∃mb,base.Ns oy mb/\∀x:Str,x≠"__name__"->mb x=mX x
 nolimit:base.NoLimit
structure Cx where
 prog:iB
 w:iR
 K:gO
 mg:Str->Option cr
 base:iM
 A:jx
 N:List Str
 s₀:gW
 H₀:Hp
 env:Env
 outer:List Env
 stack:List Env
 ex:List ci
 fn:Str->Bool
 calm:Bool
 pn:List (ci×Obj)
 xe:cr->gW->Prop
noncomputable def zi(l:List Env):List ci:=l.filterMap (·.frame)
noncomputable abbrev Cx.fs(X:Cx):List ci:=zi X.outer
def Vis(a:l9)(x:Str):Prop:=a.names.lookup x=some .local\/a.names.lookup x=some .cell\/a.names.lookup x=some .free
def Loc(a:l9)(x:Str):Prop:=a.names.lookup x=some .local\/a.names.lookup x=some .cell
def Look(a:Env)(h:iM)(m:Str->Option cr)(x:Str)(u:cr):Prop :=
 (a.kindOf x=some .local/\m x=↑u)\/((a.kindOf x=some .cell\/a.kindOf x=some .free)/\∃c,a.cells.lookup x=↑c/\h.IsCell c ↑u)
structure Cx.Ok(X:Cx):Prop where
 mod:Mod X.K X.mg X.base
 kind:X.env.scope.kind=.function
 glob:X.env.globals=hW
 blt:X.env.builtins=oy
 above:X.s₀.heap.objs.size<=X.env.locals
 inj:∀x y c,X.env.cells.lookup x=↑c->X.env.cells.lookup y=↑c->x=y
 has:∀x,(X.env.kindOf x=some .cell\/X.env.kindOf x=some .free)->∃c,X.env.cells.lookup x=↑c
 Pc:∀x c,X.fn x=true->X.env.cells.lookup x=↑c->X.s₀.heap.objs.size<=c
 hd:X.calm=true->X.A.handled=none
 frames:X.A.frames=↑X.stack
 Co:X.stack=X.outer\/(X.stack=X.env::X.outer/\X.env.frame=↑X.env.locals)
 TY:∀b∈X.ex,b≠X.env.locals/\∀x c,X.env.cells.lookup x=↑c->c≠b
 bs:∀b o,X.base.get? b=↑o->X.s₀.heap.get? b=↑o/\X.H₀ b=none
 IH:X.base.objs.size<=X.s₀.heap.objs.size
 Dr:∀b o,X.base.get? b=↑o->b∉X.ex
 DT:∀b∈X.ex,b∉X.fs
 yE:X.s₀.heap.FunFrames X.base X.outer
 J1:∀b∈X.fs,X.H₀ b=none
structure Inv(X:Cx)(pins:List (ci×Obj))(σ:List (Option V))(H:Hp)(s:gW):Prop where
 ok:X.Ok
 os:s.os=X.s₀.os
 bare:nE s.gens
 base:Un X.fs X.ex X.H₀ H X.s₀.heap s.heap
 loc:∃m,s.heap.Ns X.env.locals m/\∀(i:Nat)(x:Str)(v:V),X.N[i]?=↑x->σ[i]?=↑(some v)->Vis X.env.scope x->∃u,RelV v u/\Look X.env s.heap m x u
 cell:∀x c,X.env.cells.lookup x=↑c->∃v,s.heap.IsCell c v
 free:H X.env.locals=none
 yj:∀x c,X.env.cells.lookup x=↑c->H c=none
 pin:∀p∈X.pn++pins,s.heap.get? p.1=↑p.2/\H p.1=none/\p.1≠X.env.locals/\p.1∉X.fs/\∀v,p.2.data≠.cell v
 vK:xV X.prog X.w H s.heap
 len:σ.length=X.N.length
section
variable{X:Cx}{pins:List (ci×Obj)}{σ:List (Option V)}{H H':Hp}{s:gW}
def Cx.Ok.a1w(a:X.Ok)(e:X.base.get? b=↑o):b∉X.fs:=λc=>by have:=(a.yE.mem c).1;rw[e]at this;cases this
def Inv.bs(I:Inv X pins σ H s):∀b o,X.base.get? b=↑o->s.heap.get? b=↑o/\H b=none:=λb o e =>
 #[I.base.keep b o (I.ok.bs b o e).1 (I.ok.bs b o e).2 (I.ok.a1w e)<|I.ok.Dr b o e,I.base.free b o (I.ok.bs b o e).1 (I.ok.bs b o e).2<|I.ok.Dr b o e]
def Inv.bk(I:Inv X pins σ H s):∀b o,X.base.get? b=↑o->s.heap.get? b=↑o:=λb o e=>(I.bs b o e).1
def Inv.mod(I:Inv X pins σ H s):Mod X.K X.mg X.base:=I.ok.mod
def Inv.yJ(I:Inv X pins σ H s):X.K.In s.heap:=I.ok.mod.Bv.keeps I.bk
def Inv.nolimit(I:Inv X pins σ H s):s.heap.NoLimit:=I.ok.mod.nolimit.keeps I.bk
def Inv.lt(I:Inv X pins σ H s):X.env.locals<⇑s:=e1a2 I.loc λ_ a _=> a.lt
def Inv.sz(I:Inv X pins σ H s):X.s₀.heap.objs.size<=⇑s:=iA I.ok.above<|lU I.lt
def Inv.a1x(I:Inv X pins σ H s)(h:⇑s<=a):a∉X.fs:=λb=>by obtain⟨_,o,c,_⟩:=I.ok.yE.mem b;exact hV (ic (gX c)<|iA I.sz h)<|jQ _
def Inv.cne(I:Inv X pins σ H s):∀x c,X.env.cells.lookup x=↑c->c≠X.env.locals:=λx c e z=>by refine e2a2 (I.cell x c e) λv o d f=>?_;obtain⟨m,⟨g,h,i,a,b,_⟩,_⟩:=I.loc;rw[z,a]at d;cases d;rw[b]at f;cases f
def Inv.yE(I:Inv X pins σ H s):s.heap.FunFrames X.base X.outer:=by
 have a:∀(l:List Env),(∀b∈zi l,b∈X.fs)->X.s₀.heap.FunFrames X.base l->s.heap.FunFrames X.base l:=by
  intro l
  induction l with
  |nil=>intro _ _;trivial
  |cons h r i =>
   intro g j;obtain⟨k,⟨L,o,c,m,n,p⟩,q⟩:=j;have d:L∈X.fs:=g L (by unfold zi;rw[kM,c];exact gR);obtain⟨t,e⟩:=I.base.slot L o n (I.ok.J1 L d) d λz=>I.ok.DT L z d;exact#[k,#[L,_,c,m,e,p],i (λb f=>g b<|by unfold zi;rw[kM,c];exact gU _ f) q]
 exact a X.outer (λ_ f=>f) I.ok.yE
def Inv.stack(I:Inv X pins σ H s):s.heap.FunFrames X.base X.stack:=by
 rcases I.ok.Co with e|⟨e,a⟩
 ·rw[e];exact I.yE
 ·rw[e];refine e1a2 I.loc λm b _=>?_;refine .cons (by rw[I.ok.kind];decide) a b ?_ I.yE;exact m9<|iA I.ok.IH I.ok.above
def Inv.DU(I:Inv X pins σ H s):∀b∈zi X.stack,b∈X.env.locals::X.fs:=λb a=>by
 rcases I.ok.Co with e|⟨e,c⟩
 ·rw[e]at a;exact gU _ a
 ·rw[e]at a;unfold zi at a;rw[kM,c]at a;exact a
def Inv.Mv(I:Inv X pins σ H s):∀b∈zi X.stack,H b=none:=λb a=>by
 rcases List.mem_cons.mp (I.DU b a) with e|a
 ·rw[e];exact I.free
 ·obtain⟨_,o,c,_⟩:=I.ok.yE.mem a;exact I.base.free b o c (I.ok.J1 b a) λz=>I.ok.DT b z a
def Inv.step{g':Array ph}{t':Nat}{ch:List ci}(I:Inv X pins σ H s)
 (g:∀b∈ch,(b∈X.ex\/X.s₀.heap.objs.size<=b)/\b≠X.env.locals/\(∀x c,X.env.cells.lookup x=↑c->c≠b)/\∀p∈X.pn++pins,p.1≠b)
 (h:∀b o,b≠X.env.locals->b∉X.fs->b∉ch->s.heap.get? b=↑o->H b=none->h'.get? b=↑o)
 (B:∀b o,b≠X.env.locals->b∈X.fs->b∉ch->s.heap.get? b=↑o->H b=none->∃R,h'.get? b=some { o with slots:=R}) (f:∀b o,b∉ch->s.heap.get? b=↑o->H b=none->H' b=none)
 (D:∀b o,b∉ch->s.heap.get? b=↑o->∃G,h'.get? b=↑G)
 (J:∀b C,H b=↑(.tup C)->H' b=↑(.tup C)) (L:∀b o u,H b=↑(.J7 o u)->H' b=↑(.J7 o u)) (M:∀b Q,H b=↑(.Fo Q)->∃N,H' b=↑(.Fo<|Q++N))
 (ns:∀m,s.heap.Ns X.env.locals m->h'.Ns X.env.locals m) (S:xV X.prog X.w H' h') (hg:nE g') :
    Inv X pins σ H' { s with heap:=h',gens:=g',drawn:=d',toks:=t'}:=by
  have O:∀b o,X.s₀.heap.get? b=↑o->b≠X.env.locals:=λb o e=>hR<|ic (gX e) I.ok.above
  have y:∀b o,X.s₀.heap.get? b=↑o->b∉X.ex->b∉ch:=λb o e a E=>by
    rcases(g b E).1 with z|z
    · exact a z
    · exact hV (ic (gX e) z)<|jQ _
  have j:∀x c,X.env.cells.lookup x=↑c->∀v,s.heap.IsCell c v->h'.IsCell c v:=λx c e v z9=>e1a2 z9 λo F T=>by
    have t:c∉ch:=λz=>(g c z).2.2.1 x c e rfl
    by_cases W:c∈X.fs
    · obtain⟨R, q⟩ := B c o (I.cne x c e) W t F (I.yj x c e)
      exact#[_,q,T]
    · exact#[o, h c o (I.cne x c e) W t F<|I.yj x c e, T]
  refine#[I.ok,I.os,hg,#[λb o e n E a=>?_,λb o e n E a=>?_,λb o e n a=>?_,λb o e a=>?_,λb C e=>J b C<|I.base.Bw b C e,λb o C e=>L b o C<|I.base.Bc b o C e,λb Q e=>?_],?_,λx c e=>?_,?_,λx c e=>?_,λp Y=>?_,S,I.len]
  · exact h b o (O b o e) E (y b o e a) (I.base.keep b o e n E a)<|I.base.free b o e n a
  · obtain⟨R, A⟩ := I.base.slot b o e n E a
    obtain⟨U,P⟩:=B b _ (O b o e) E (y b o e a) A<|I.base.free b o e n a
    exact#[U,P]
  · obtain⟨G, A⟩ := I.base.there b o e a
    exact f b G (y b o e a) A<|I.base.free b o e n a
  · obtain⟨G, A⟩ := I.base.there b o e a
    exact D b G (y b o e a) A
  · obtain⟨m1, A⟩ := I.base.Be b Q e
    obtain⟨m2,P⟩:=M b _ A
    exact#[m1++m2,by rw[P,pY]]
  · refine e1a2 I.loc λm hn hl => ?_
    refine#[m,ns m hn,λi x v A P e3=>?_]
    refine e1a2 (hl i x v A P e3) λu r l=>?_
    refine#[u,r,?_]
    rcases l with l|⟨k,c,e,z⟩
    · exact .inl l
    · exact .inr #[k, c, e, j x c e _ z]
  · obtain⟨v, z⟩ := I.cell x c e
    exact#[v,j x c e v z]
  · obtain⟨m, ⟨o, _, _, F, _⟩, _⟩ := I.loc
    exact f _ o (λz=>(g _ z).2.1 rfl) F I.free
  · refine e2a2 (I.cell x c e) λv o F T => ?_
    exact f c o (λz=>(g c z).2.2.1 x c e rfl) F<|I.yj x c e
  · obtain⟨e, n, Z, nf, d⟩ := I.pin p Y
    have t:p.1∉ch:=λz=>(g p.1 z).2.2.2 p Y rfl
    exact#[h p.1 p.2 Z nf t e n,f p.1 p.2 t e n,Z,nf,d]
def Inv.un{t':Nat}(I:Inv X pins σ H s)(u:Un X.fs [] H H' s.heap h')(c:xV X.prog X.w H' h'):Inv X pins σ H' { s with heap:=h',toks:=t'}:=by
 obtain⟨m,⟨o,l,p,h,r⟩,_⟩:=id I.loc;obtain⟨q,i⟩:=u.any h I.free q0o
 exact I.step (g':=s.gens) (d':=s.drawn) (ch:=[]) (λ_ z=>nomatch z) (λb o _ d _ e n=>u.keep b o e n d q0o) (λb o _ d _ e n=>u.slot b o e n d q0o) (λb o _ e n=>u.free b o e n q0o) (λb o _ e=>u.there b o e q0o) u.Bw u.Bc u.Be (λt j=>by
  refine e3a2 j λv f g a k=>?_;rw[h]at a;cases a
  exact#[_,f,g,i,k]) c I.bare
def Inv.call{g':Array ph}{t':Nat}{ch:List ci}(I:Inv X pins σ H s)(u:Un (zi X.stack) ch H H' s.heap h')(g:xV X.prog X.w H' h')(l:nE g')
 (d:∀b∈ch,(b∈X.ex\/X.s₀.heap.objs.size<=b)/\b≠X.env.locals/\(∀x c,X.env.cells.lookup x=↑c->c≠b)/\∀p∈X.pn++pins,p.1≠b) :
    Inv X pins σ H' { s with heap:=h',gens:=g',drawn:=d',toks:=t'}:=by
  obtain⟨m,⟨o,y,A,k,r⟩,_⟩:=id I.loc
  obtain⟨B,h⟩:=u.any k I.free λz=>(d _ z).2.1 rfl
  exact I.step (ch:=ch) d (λb o h q a e n=>u.keep b o e n (λz=>(List.mem_cons.mp (I.DU b z)).elim h q) a) (λb o _ _ a e n=>u.any e n a) (λb o a e n=>u.free b o e n a) (λb o a e=>u.there b o e a) u.Bw u.Bc u.Be (λC t=>by
    refine e3a2 t λD i j f v=>?_
    rw[k]at f;cases f
    exact#[_,i,j,h,v]) g l
def Inv.turned{t':Nat}(I:Inv X pins σ H s)(k:∀b o,b≠a->s.heap.get? b=↑o->h.get? b=↑o)(i:H a=none)(g:a≠X.env.locals)
 (j:a∈X.ex\/X.s₀.heap.objs.size<=a)(l:∀x c,X.env.cells.lookup x=↑c->c≠a)(t:∀p∈X.pn++pins,p.1≠a):Inv X pins σ H { s with heap:=h,toks:=t'}:=by
  have f:∀b u,H b=↑u->b≠a:=λb u e z=>by rw[z,i]at e;cases e
  refine I.step (g':=s.gens) (d':=s.drawn) (ch:=[a]) (λb w=>?_) (λb o _ _ d e _=>k b o (λz=>d<|by simp[z]) e) (λb o _ _ d e _=>#[o.slots,k b o (λz=>d<|by simp[z]) e]) (λ_ _ _ _ n=>n)
    (λb o d e=>#[o,k b o (λz=>d<|by simp[z]) e]) (λ_ _ e=>e) (λ_ _ _ e=>e) (λb D e=>#[#v[],by rw[e];simp]) (λm y=>?_) (λb u e=>?_) I.bare
  · have e : b = a := by simpa using w
    subst e
    exact#[j,g,l,t]
  · refine e3a2 y λo A B C r => ?_
    exact#[o,A,B,k _ o (Ne.symm g) C,r]
  · refine(I.vK b u e).Do (λc v d q => k c v ?_ q) (λ_ q => q) λ_ _ q => q
    rcases d with z|z
    · rw[z]; exact f b u e
    · exact f c _ z
def Inv.tok(I:Inv X pins σ H s)(t:Nat):Inv X pins σ H { s with toks:=t}:=I.un (h':=s.heap) (t':=t) Un.refl I.vK
def Inv.kept{t':Nat}(I:Inv X pins σ H s)(k:∀b u,s.heap.get? b=↑u->a.get? b=↑u):Inv X pins σ H { s with heap:=a,toks:=t'}:=I.un (Un.kept k)<|I.vK.kept k
def Inv.laid{t':Nat}(I:Inv X pins σ H s)(k:∀b u,s.heap.get? b=↑u->h'.get? b=↑u)(c:⇑s<=a)(d:v4 X.prog X.w (upd H a o) h' a o) :
  Inv X pins σ (upd H a o) { s with heap:=h',toks:=t'}:=I.un (Un.laid k c<|I.vK.fresh c)<|I.vK.laid k c d
def Inv.write{t':Nat}(I:Inv X pins σ H s)(d:Zp (H x))(f:e=x\/H e=↑(.own x))(k:∀b u,b≠e->s.heap.get? b=↑u->h'.get? b=↑u)(a:∃u,h'.get? e=↑u)
 (c:v4 X.prog X.w (upd H x o) h' x o):Inv X pins σ (upd H x o) { s with heap:=h',toks:=t'}:=I.un (Un.write d f k a)<|I.vK.write d f k a c
def Inv.zl(I:Inv X pins σ H s)(h:∀p∈pins',s.heap.get? p.1=↑p.2/\H p.1=none/\p.1≠X.env.locals/\p.1∉X.fs/\∀v,p.2.data≠.cell v):Inv X pins' σ H s :=
 #[I.ok,I.os,I.bare,I.base,I.loc,I.cell,I.free,I.yj,λp a=>(List.mem_append.mp a).elim (λz=>I.pin p<|i8 _ z)<|h p,I.vK,I.len]
def II{N:List Str}(c:N.Nodup){i j:Nat}(a:N[i]?=↑x)(b:N[j]?=↑x):i=j:=by obtain⟨f,d⟩:=List.getElem?_eq_some_iff.mp a;obtain⟨g,e⟩:=List.getElem?_eq_some_iff.mp b;exact(List.getElem_inj c).mp<|d.trans e.symm
def FQ{E:cr->gW->Prop}{i:Nat}{Q:Unit->gW->Prop}(I:Inv X pins σ H s)(hN:X.N.Nodup)(S:X.N[i]?=↑x)(B:Loc X.env.scope x)(r:RelV v u)
 (h:∀s',Inv X pins (σ.set i<|↑v) H s'->(∃a,i4 a s.heap s'.heap/\(a=X.env.locals\/X.env.cells.lookup x=↑a))->Q () s')(hf:X.fn x=true\/X.env.scope.names.lookup x=some .local:=by first|exact .inl rfl|exact .inr rfl|assumption):gZ M A (storeName X.env x u) Q E s:=by
  refine e1a2 (id I.loc) λm hn hl=>?_
  have T:(X.env.scope.kind==.class||(X.env.scope.kind==.module&&X.env.locals != X.env.globals))=false:=by rw[I.ok.kind];rfl
  have F:i<σ.length:=by rw[I.len];exact(List.getElem?_eq_some_iff.mp S).1
  have J:=I.cne
  have g:∀{a:ci} {R:iM},(∃o,s.heap.get? a=↑o/\H a=none)->i4 a s.heap R->xV X.prog X.w H R:=λ{a R} ha f b ob e=>by
    refine e1a2 ha λ_ _ C=>?_
    refine(I.vK b ob e).Do (λc w' t q=>(f.2 c ?_).trans q) (λ_ q=>q) λ_ _ q=>q
    rintro rfl
    rcases t with rfl|t
    · rw[C]at e; cases e
    · rw[C]at t; cases t
  rcases B with G|G
  · refine wpAny_storeName_local G hn (λR aa f => ?_) T
    refine e3a2 (id hn) λoL _ _ ab _=>?_
    refine h _ #[I.ok,I.os,I.bare,#[λb o e n L B=>?_,λb o e n L B=>?_,I.base.free,λb o e B=>?_,I.base.Bw,I.base.Bc,I.base.Be],#[_,aa,λj y v' l D e3=>?_],λy c e=>?_,I.free,I.yj,λp hp=>?_,g #[oL,ab,I.free] f,by simpa using I.len] #[_,f,.inl rfl]
    · exact(f.2 b<|hR<|ic (gX e) I.ok.above).trans<|I.base.keep b o e n L B
    · obtain⟨sl, l⟩ := I.base.slot b o e n L B
      exact#[sl,(f.2 b<|hR<|ic (gX e) I.ok.above).trans l]
    · obtain⟨o', l⟩ := I.base.there b o e B
      exact#[o',(f.2 b<|hR<|ic (gX e) I.ok.above).trans l]
    · by_cases O : j = i
      · subst O
        rw[S]at l;cases l
        rw[oS F]at D
        cases D
        exact#[u,r,.inl #[G,q0o]]
      · rw[nc<|Ne.symm O]at D
        refine e1a2 (hl j y v' l D e3) λu' r' q=>?_
        refine#[u',r',?_]
        rcases q with⟨k,e⟩|⟨k,c,e,z⟩
        · refine .inl #[k, ?_]
          have:y≠x:=λe=>O<|II hN l<|e▸S
          simp[this,e]
        · exact .inr #[k, c, e, z.sameBut f<|J y c e]
    · obtain⟨w', z⟩ := I.cell y c e
      exact#[w',z.sameBut f<|J y c e]
    · obtain⟨e, n, ne, nf, d⟩ := I.pin p hp
      exact#[(f.2 p.1 ne).trans e,n,ne,nf,d]
  · have P : X.fn x = true := by
      rcases hf with z|z
      · exact z
      · rw[z]at G; cases G
    obtain⟨c,t⟩:=I.ok.has x<|.inl G
    obtain⟨w',z⟩:=I.cell x c t
    refine wpAny_storeName_cell I.ok.kind G t z<|λR U f=>?_
    refine e1a2 (id z) λoc W Y=>?_
    refine h { s with heap:=R} #[I.ok,I.os,I.bare,#[λb o e n L B=>?_,λb o e n L B=>?_,I.base.free,λb o e B=>?_,I.base.Bw,I.base.Bc,I.base.Be],#[m,hn.sameBut f<|Ne.symm<|J x c t,λj y v' l D e3=>?_],λy c' e=>?_,I.free,I.yj,λp hp=>?_,g #[oc,W,I.yj x c t] f,by simpa using I.len] #[c,f,.inr t]
    · exact(f.2 b<|hR<|ic (gX e)<|I.ok.Pc x c P t).trans<|I.base.keep b o e n L B
    · obtain⟨sl, l⟩ := I.base.slot b o e n L B
      exact#[sl,(f.2 b<|hR<|ic (gX e)<|I.ok.Pc x c P t).trans l]
    · obtain⟨o', l⟩ := I.base.there b o e B
      exact#[o',(f.2 b<|hR<|ic (gX e)<|I.ok.Pc x c P t).trans l]
    · by_cases O : j = i
      · subst O
        rw[S]at l;cases l
        rw[oS F]at D
        cases D
        exact#[u,r,.inr #[.inl G,c,t,U]]
      · rw[nc<|Ne.symm O]at D
        refine e1a2 (hl j y v' l D e3) λu' r' q=>?_
        refine#[u',r',?_]
        rcases q with q|⟨k,c',e,z'⟩
        · exact .inl q
        · refine .inr #[k, c', e, z'.sameBut f ?_]
          rintro rfl
          exact O<|II hN l<|I.ok.inj _ _ _ e t▸S
    · by_cases Z : c' = c
      · subst Z; exact#[_, U]
      · obtain⟨w2, z2⟩ := I.cell y c' e
        exact#[w2,z2.sameBut f Z]
    · obtain⟨e, n, ne, nf, d⟩ := I.pin p hp
      refine#[(f.2 p.1 ?_).trans e,n,ne,nf,d]
      intro q
      rw[q,W]at e
      have q':oc=p.2:=iX e
      exact d w' (by rw[<- q'];exact Y)
def IJ{i:Nat}(I:Inv X pins σ H s)(b:X.N.Nodup)(c:X.N[i]?=↑x)(d:Loc X.env.scope x)(r:RelV v u)
 (h:∀a,Inv X pins (σ.set i<|↑v) H a->Q () a)(e:X.fn x=true\/X.env.scope.names.lookup x=some .local:=by first|exact .inl rfl|exact .inr rfl|assumption):gZ M A (storeName X.env x u) Q E s :=
  FQ I b c d r (λa f _=>h a f) e
def Inv.Ws{a:gW}(I:Inv X pins σ H s)(g:a.os=s.os)(u:Un (zi X.stack) ch H H' s.heap a.heap)(d:xV X.prog X.w H' a.heap)(h:nE a.gens)
 (f:∀b∈ch,(b∈X.ex\/X.s₀.heap.objs.size<=b)/\b≠X.env.locals/\(∀x c,X.env.cells.lookup x=↑c->c≠b)/\∀p∈X.pn++pins,p.1≠b):Inv X pins σ H' a:=by
  obtain⟨m,i,j,k,l⟩:=a
  have e:l=s.os:=g
  subst e
  exact I.call (g':=i) (t':=k) (d':=j) u d h f
end
abbrev XK:=cr->Option ci->Hp->Prop
abbrev St:=List<|Option V
abbrev VK:=V->Hp->Prop
abbrev TE:=St->Hp->VK->Prop
abbrev TT:=St->Hp->(Bool->Hp->Prop)->Prop
abbrev TA:=St->Hp->(List V->Hp->Prop)->Prop
structure Ends where
 nx:St->Hp->Prop
 rt:VK
 bk:St->Hp->Prop:=λ_ _=>False
 ct:St->Hp->Prop:=λ_ _=>False
abbrev TS:=Ends->St->Hp->Prop
def EP(X:Cx)(a:List (ci×Obj))(c:St)(Q:VK)(u:cr)(d:gW):Prop:=∃v b,Inv X a c b d/\RelV v u/\Q v b
def TP(X:Cx)(a:List (ci×Obj))(d:St)(Q:Bool->Hp->Prop)(b:Bool)(e:gW):Prop:=∃c,Inv X a d c e/\Q b c
def AP(X:Cx)(a:List (ci×Obj))(d:St)(Q:List V->Hp->Prop)(e:List cr)(f:gW):Prop:=∃b c,Inv X a d c f/\Vals b e/\Q b c
def SP(X:Cx)(b:List (ci×Obj))(D:Ends)(f:Flow)(d:gW):Prop :=
 match f with
 | .next=>∃a c,Inv X b a c d/\D.nx a c
 | .brk=>∃a c,Inv X b a c d/\D.bk a c
 | .cont=>∃a c,Inv X b a c d/\D.ct a c
 | .ret u=>∃v a c,Inv X b a c d/\RelV v u/\D.rt v c
def PE(X:Cx)(e:iL)(t:TE):Prop :=
 ∀(a:List (ci×Obj)) (s:gW) (b:St) (H:Hp) (Q:VK),Inv X a b H s->t b H Q->gZ 23 X.A (eval e X.env) (EP X a b Q) X.xe s
def PT(X:Cx)(e:iL)(t:TT):Prop :=
 ∀(a:List (ci×Obj)) (s:gW) (b:St) (H:Hp) (Q:Bool->Hp->Prop),Inv X a b H s->t b H Q->gZ 23 X.A (qN e X.env<|eval e X.env) (TP X a b Q) X.xe s
def PW(X:Cx)(e:iL)(t:TT):Prop :=
 ∀(b:Sem cr) (a:List (ci×Obj)) (s:gW) (c:St) (H:Hp) (Q:Bool->Hp->Prop),Inv X a c H s->t c H Q->gZ 23 X.A (qN e X.env b) (TP X a c Q) X.xe s
def PW.pt(h:PW X e t):PT X e t:=h _
def PA(X:Cx)(d:List iL)(t:TA):Prop :=
 ∀(b:Pos) (a:List (ci×Obj)) (s:gW) (c:St) (H:Hp) (Q:List V->Hp->Prop),Inv X a c H s->t c H Q->gZ 23 X.A (uq<|jm b<|gP d X.env) (AP X a c Q) X.xe s
def PS(X:Cx)(c:il)(t:TS):Prop :=
 ∀(a:List (ci×Obj)) (s:gW) (b:St) (H:Hp) (D:Ends),Inv X a b H s->t D b H->gZ 23 X.A (exec c X.env) (SP X a D) X.xe s
def Ft(X:Cx)(c:List il)(t:TS):Prop :=
 ∀(a:List (ci×Obj)) (s:gW) (b:St) (H:Hp) (D:Ends),Inv X a b H s->t D b H->gZ 23 X.A (execs c X.env) (SP X a D) X.xe s
def vI{b:Type}{t:Sem b}{Q c:b->gW->Prop}{M:Model}{A:jx}{E:cr->gW->Prop}{s:gW}(h:gZ M A t Q E s)(d:∀a s,Q a s->c a s):gZ M A t c E s:=jb h d λ_ _ x=>x
section
variable{X:Cx}
def vC(i:Nat):TE:=λa H Q=>∃v,a[i]?=↑(some v)/\Q v H
def tC(v:V):TE:=λ_ H Q=>Q v H
def J8{i:Nat}(n:X.N[i]?=↑x)(o:Vis X.env.scope x)(g:(x==("__debug__":Str))=false:=by decide)(j:(x==("__classdict__":Str))=false:=by decide):PE X (.Name x pos) (vC i):=by
 intro f s p H Q I h;refine e1a2 h λv e h=>?_;refine e1a2 I.loc λm q t=>?_;refine e1a2 (t i x v n e o) λu r l=>?_;have b:EP X f p Q u s:=#[v,H,I,r,h];rcases l with⟨d,w⟩|⟨d,c,k,a⟩
 ·exact pK (kN I.ok.kind d q w b) g
 ·rcases d with d|d
  ·exact pK (wpAny_loadName_cell I.ok.kind d k a b) g
  ·exact pK (qx I.ok.kind d k a b j) g
def vt{i j pos}:PE X (.Constant (.int i) j pos) (tC<|.int i):=λ_ _ _ H _ I h=>wpAny_Constant_int #[.int i,H,I.tok _,#[_,rfl],h]
def Zq{b j pos}:PE X (.Constant (.bool b) j pos) (tC<|.bl b):=λ_ _ _ H _ I h=>Constant_bool #[.bl b,H,I,rfl,h]
def J9{j pos}:PE X (.Constant .none j pos) (tC .wF):=λ_ _ _ H _ I h=>Constant_none #[.wF,H,I,rfl,h]
def Gy{x j pos}:PE X (.Constant (.str x) j pos) (tC<|.str x):=λ_ _ _ H _ I h=>Calls.Constant_str #[.str x,H,I.tok _,#[_,rfl],h]
def Gl(X:Cx)(x:Str):Prop:=X.env.kindOf x=some .globalImplicit
def zm(I:Inv X a e H s)(b:Gl X x)(c:X.mg x=↑u)(h:Q u s)
 (d:(x==("__debug__":Str))=false:=by decide):gZ 23 X.A (eval (.Name x pos) X.env) Q E s :=
  rg I.ok.kind b (Calls.loadGlobal_global (by rw[I.ok.glob];exact I.mod.glob.keeps I.bk) c h) d
def zn(I:Inv X a j H s)(b:Gl X x)(c:X.mg x=none)(d:mX x=↑u)(h:Q u s)
 (e:x≠"__name__":=by decide)(f:(x==("__debug__":Str))=false:=by decide):gZ 23 X.A (eval (.Name x pos) X.env) Q E s:=by
  refine e1a2 I.mod.blt λk g i=>?_
  exact rg I.ok.kind b (og (by rw[I.ok.glob];exact I.mod.glob.keeps I.bk) c (by rw[I.ok.blt];exact g.keeps I.bk) ((i x e).trans d) h) f
def TZ(a:Gl X x)(b:X.mg x=↑u)(r:RelV v u)(c:(x==("__debug__":Str))=false:=by decide):PE X (.Name x pos) (tC v) :=
 λ_ _ _ H _ I h=>zm I a b #[v,H,I,r,h] c
def AD(a:Gl X x)(b:X.mg x=none)(c:mX x=↑u)(r:RelV v u)(d:x≠"__name__":=by decide)(e:(x==("__debug__":Str))=false:=by decide):PE X (.Name x pos) (tC v) :=
 λ_ _ _ H _ I h=>zn I a b c #[v,H,I,r,h] d e
variable{a b:iL}{ta tb:TE}{pos:Pos}
def PC(X:Cx)(g:qJ)(a b:iL)(t:TE):Prop :=
 ∀(c:List (ci×Obj)) (s:gW) (f:St) (H:Hp) (Q:VK),Inv X c f H s->t f H Q ->
  gZ 23 X.A (eval a X.env) (λv d=>gZ 23 X.A (eval b X.env) (λu e=>gZ 23 X.A (jy g v u) (EP X c f Q) X.xe e) X.xe d) X.xe s
def IK(b:iL)(h:op≠.In)(c:op≠.NotIn):iV op b=false:=by
 have d:(op==CmpOp.In)=false:=by cases op<;>first|rfl|exact hV rfl h
 have e:(op==CmpOp.NotIn)=false:=by cases op<;>first|rfl|exact hV rfl c
 cases b<;>simp[iV,d,e]
def tB(t:TE):TT:=λd H Q=>t d H λx e=>∃c,x=.bl c/\Q c e
def Pk(h:PC X op a b t)(d:iV op b=false:=by first|exact IK _ q0q q0q|rfl):PE X (.Compare a [op] [b] pos) t:=λc s e H Q I f=>sK (h c s e H Q I f) d
def Ka{f:qJ}{t:TE}(h:PC X f a b t)(g:iV f b=false:=by first|exact IK _ q0q q0q|rfl):PT X (.Compare a [f] [b] pos) (tB t):=by intro e s i H Q I j;refine uF (vI (h e s i H _ I j) λv r g=>vI g λu w k=>vI k λc y l=>e2a3 l λx m n o p=>?_) g;obtain⟨d,rfl,q⟩:=p;cases o;exact kg #[m,n,q]
def Xb{e:iL}{t:TE}(h:PE X e t)(g:∀c,qN e X.env c=(do let v <- c;mY e.pos;kO [v] (ur v)):=by intro _;rfl):PT X e (tB t):=by intro f s i H Q I j;refine isTrue_plain (vI (h f s i H _ I j) λv p k=>e2a3 k λx l m n o=>?_)<|g _;obtain⟨d,rfl,q⟩:=o;cases n;exact kg #[l,m,q]
variable{tA tB':TT}{rest:List iL}
def a1z(t u:TT):TT:=λd H Q=>t d H λc e=>if c=true then u d e Q else Q false e
def tOr(t u:TT):TT:=λd H Q=>t d H λc e=>if c=true then Q true e else u d e Q
def a1A(t:TT):TT:=λd H Q=>t d H λc e=>Q (!c) e
def T0(f:PT X a tA):PW X (.BoolOp .And [a] pos) tA:=by
 intro i d s g H Q I h;refine isTrue_and<|vI (f d s g H Q I h) λc j e=>?_
 cases c with
 |true=>exact isTrue_and_nil e
 |false=>exact e
def Pl(f:PT X a tA):PW X (.BoolOp .Or [a] pos) tA:=by
 intro i d s g H Q I h;refine isTrue_or<|vI (f d s g H Q I h) λc j e=>?_
 cases c with
 |false=>exact isTrue_or_nil e
 |true=>exact e
def Xd(j:PT X a tA)(k:PW X (.BoolOp .And (b::rest) pos) tB'):PW X (.BoolOp .And (a::b::rest) pos) (a1z tA tB'):=by
 intro l d s e H Q I h;refine isTrue_and<|vI (j d s e H _ I h) λc m n=>e1a2 n λf g i=>?_
 cases c with
 |true=>exact k l d m e f Q g i
 |false=>exact#[f,g,i]
def Wt(j:PT X a tA)(k:PW X (.BoolOp .Or (b::rest) pos) tB'):PW X (.BoolOp .Or (a::b::rest) pos) (tOr tA tB'):=by
 intro l d s e H Q I h;refine isTrue_or<|vI (j d s e H _ I h) λc m n=>e1a2 n λf g i=>?_
 cases c with
 |true=>exact#[f,g,i]
 |false=>exact k l d m e f Q g i
def Xe(e:PT X a tA):PT X (.UnaryOp .Not a pos) (a1A tA):=by intro d s f H Q I h;exact isTrue_not<|e d s f H (λc g=>Q (!c) g) I h
def Zr(ta tb:TE):TE:=λd H Q=>ta d H λx e=>∃c,x=.bl c/\if c=true then tb d e Q else Q (.bl false) e
def a1B(ta tb:TE):TE:=λd H Q=>ta d H λx e=>∃c,x=.bl c/\if c=true then Q (.bl true) e else tb d e Q
def Zs(ta:TE):TE:=λd H Q=>ta d H λx e=>∃c,x=.bl c/\Q (.bl<|!c) e
def Xf{op}(h:PE X a t):PE X (.BoolOp op [a] pos) t:=λc s d H Q I e=>BoolOp_one<|h c s d H Q I e
def Xg(j:PE X a ta)(k:PE X (.BoolOp .And (b::rest) pos) tb):PE X (.BoolOp .And (a::b::rest) pos) (Zr ta tb):=by
 intro d s f H Q I h;refine BoolOp_and<|vI (j d s f H _ I h) λv l m=>e2a3 m λx g i n e=>?_;obtain⟨c,rfl,e⟩:=e;cases n;refine kg ?_
 cases c with
 |true=>exact k d l f g Q i e
 |false=>exact#[.bl false,g,i,rfl,e]
def Zt(j:PE X a ta)(k:PE X (.BoolOp .Or (b::rest) pos) tb):PE X (.BoolOp .Or (a::b::rest) pos) (a1B ta tb):=by
 intro d s f H Q I h;refine BoolOp_or<|vI (j d s f H _ I h) λv l m=>e2a3 m λx g i n e=>?_;obtain⟨c,rfl,e⟩:=e;cases n;refine kg ?_
 cases c with
 |false=>exact k d l f g Q i e
 |true=>exact#[.bl true,g,i,rfl,e]
def Xh(f:PE X a ta):PE X (.UnaryOp .Not a pos) (Zs ta):=by intro d s g H Q I h;refine UnaryOp_<|vI (f d s g H _ I h) λv m i=>e2a3 i λx j k l e=>?_;obtain⟨c,rfl,e⟩:=e;cases l;exact not_of<|kg #[.bl<|!c,j,k,rfl,e]
end
def wo(K:gO)(H:Hp)(a:ci)(c:List V):Prop :=
 Rd H a (.lst c) \/
  ∃(o:Obj)(b:Array cr)(n:Nat),K.lookup a=↑o/\o.cls=.type "list"/\o.dict=none/\o.data=.seq b n/\b.size<=gS/\Vals c b.toList
def yZ(K:gO)(H:Hp)(a:ci)(c:List V):Prop :=
 Rd H a (.tup c) \/
  ∃(o:Obj)(b:Array cr)(n:Nat),K.lookup a=↑o/\o.cls=.type "tuple"/\o.data=.seq b n/\b.size<=gS/\Vals c b.toList
noncomputable def a1C:cr->Option V
 | .none=>some .wF
 | .bool b=>some<|.bl b
 | .int i _=>some<|.int i
 | .str x _=>some<|.str x
 | .bytes b _=>some<|.Mu b
 | .float b _=>some<|.W9 b
 | .ref a=>some<|.ref a
 | .type n=>some<|.ty n
 |_=>none
def RelV.abs(r:RelV x u):a1C u=↑x:=by
 cases x with
 |wF=>cases r;rfl
 |bl _=>cases r;rfl
 |int _=>obtain⟨t,rfl⟩:=r;rfl
 |str _=>obtain⟨t,rfl⟩:=r;rfl
 |Mu _=>obtain⟨t,rfl⟩:=r;rfl
 |W9 _=>obtain⟨t,rfl⟩:=r;rfl
 |ref _=>cases r;rfl
 |ty _=>cases r;rfl
def RelV.inj(r:RelV x u)(q:RelV y u):x=y:=iX<|r.abs.symm.trans q.abs
def Vals.inj:∀{d c:List V} {e:List cr},Vals d e->Vals c e->d=c:=by
 intro _ c _ z
 induction z generalizing c with
 |nil=>intro q;cases q;rfl
 |cons h t f=>intro q;cases q with|cons a b=>rw[h.inj a,f b]
def wo.of{K:gO}(h:H a=↑(.lst b)):wo K H a b:=.inl<|.inl h
def yZ.of{K:gO}(h:H a=↑(.tup b)):yZ K H a b:=.inl<|.inl h
def Inv.list(I:Inv X c j H s)(h:wo X.K H a d):∃b:List cr,Vals d b/\PlainL s.heap a b.toArray/\d.length<=gS:=by
 rcases h with h|⟨o,b,n,f,g,hd,i,k,r⟩
 ·obtain⟨z,b,n,r,e⟩:=h.ok I.vK;exact#[b,r,#[_,n,e,rfl,rfl,rfl],z]
 ·refine#[b.toList,r,#[o,n,I.yJ a o f,g,hd,by simpa using i],?_];have e:=r.length;simp only[gY]at e
  lia
def Inv.tuple(I:Inv X c j H s)(h:yZ X.K H a d):∃b:List cr,Vals d b/\IsTup s.heap a b.toArray/\d.length<=gS:=by
 rcases h with h|⟨o,b,n,f,g,i,k,r⟩
 ·obtain⟨z,b,r,p⟩:=h.ok I.vK;exact#[b,r,p,z]
 ·refine#[b.toList,r,#[o,I.yJ a o f,g,n,by simpa using i],?_];have e:=r.length;simp only[gY]at e
  lia
def Inv.IL(I:Inv X f q H s)(h:wo X.K H a j)(k:wo X.K H a l):j=l:=by
 obtain⟨c,r,⟨o,n,e,_,_,d⟩,_⟩:=I.list h;obtain⟨b,m,⟨t,u,g,_,_,i⟩,_⟩:=I.list k;rw[e]at g;cases g;rw[d]at i;injection i with p _;have:c=b:=by simpa using congrArg si p
 subst this;exact r.inj m
def Inv.NH(I:Inv X f q H s)(h:yZ X.K H a j)(k:yZ X.K H a l):j=l:=by
 obtain⟨c,r,⟨o,e,_,n,d⟩,_⟩:=I.tuple h;obtain⟨b,m,⟨t,g,_,u,i⟩,_⟩:=I.tuple k;rw[e]at g;cases g;rw[d]at i;injection i with p _;have:c=b:=by simpa using congrArg si p
 subst this;exact r.inj m
noncomputable abbrev Cx.Fv(X:Cx)(E:cr->gW->Prop):Cx:={ X with xe:=E}
noncomputable abbrev Cx.nox(X:Cx):Cx:=X.Fv λ_ _=>False
def Cx.Ok.Fv{X:Cx}(a:X.Ok)(E:cr->gW->Prop):(X.Fv E).Ok :=
 #[a.mod,a.kind,a.glob,a.blt,a.above,a.inj,a.has,a.Pc,a.hd,a.frames,a.Co,a.TY,a.bs,a.IH,a.Dr,a.DT,a.yE,a.J1]
def Cx.Ok.zU{X:Cx}{E:cr->gW->Prop}(a:(X.Fv E).Ok):X.Ok :=
 #[a.mod,a.kind,a.glob,a.blt,a.above,a.inj,a.has,a.Pc,a.hd,a.frames,a.Co,a.TY,a.bs,a.IH,a.Dr,a.DT,a.yE,a.J1]
def Inv.Fv(I:Inv X a b H s)(E:cr->gW->Prop):Inv (X.Fv E) a b H s:=#[I.ok.Fv E,I.os,I.bare,I.base,I.loc,I.cell,I.free,I.yj,I.pin,I.vK,I.len]
def Inv.zU(I:Inv (X.Fv E) a b H s):Inv X a b H s:=#[I.ok.zU,I.os,I.bare,I.base,I.loc,I.cell,I.free,I.yj,I.pin,I.vK,I.len]
def SP.zU(h:SP (X.Fv E) c D f d):SP X c D f d:=by
 cases f with
 |next=>obtain⟨a,b,I,q⟩:=h;exact#[a,b,I.zU,q]
 |brk=>obtain⟨a,b,I,q⟩:=h;exact#[a,b,I.zU,q]
 |cont=>obtain⟨a,b,I,q⟩:=h;exact#[a,b,I.zU,q]
 |ret u=>obtain⟨v,a,b,I,r,q⟩:=h;exact#[v,a,b,I.zU,r,q]
def Ft.nox{b:List il}(h:Ft X.nox b t):Ft X b t:=λa s c H D I d =>
 jb (h a s c H D (I.Fv _) d) (λ_ _ q=>q.zU) λ_ _ z=>iC z
section
variable{X:Cx}{st:il}{rest:List il}{t u:TS}
def Wu:TS:=λD a H=>D.nx a H
def Kc(t u:TS):TS:=λD a H=>t { D with nx:=u D} a H
def zo:Ft X [] Wu:=λ_ _ a H _ I h=>nX #[a,H,I,h]
def wm(c:PS X st t)(d:Ft X rest u):Ft X (st::rest) (Kc t u):=by
 intro a s e H D I h;refine wpAny_execs_cons<|vI (c a s e H { D with nx:=u D} I h) λf g q=>?_
 cases f with
 |next =>
  refine e2a2 q λb i j q=>?_;exact d a g b i D j q
 |ret v=>exact q
 |brk=>exact q
 |cont=>exact q
def xS(b:PS X st t):Ft X [st] t:=by
 intro a s c H D I h;refine wpAny_execs_cons<|vI (b a s c H D I h) λf d q=>?_
 cases f with
 |next=>exact nX q
 |ret v=>exact q
 |brk=>exact q
 |cont=>exact q
def Inv.quiet(I:Inv X a b H s):interactive X.env=false:=by simp[interactive,I.ok.kind]
def IM(b:TE):TS:=λD a H=>b a H λ_ c=>D.nx a c
def Bx(c:PE X e d)(f:jW e none pos.line X.env=pure false:=by rfl):PS X (.Expr e pos) (IM d):=by intro a s b H D I h;exact wpAny_Expr_any (vI (c a s b H _ I h) λv l g=>e2a3 g λx i j m k=>#[b,i,j,k]) I.quiet f
def Xi(a:TE):TS:=λD b H=>a b H D.rt
def Ct(c:PE X e d):PS X (.Return ↑e pos) (Xi d):=by intro a s b H D I h;exact wpAny_Return_some<|vI (c a s b H _ I h) λv l f=>e2a3 f λx g i j k=>#[x,b,g,i,j,k]
def a1D(c:TT)(t u:TS):TS:=λD a H=>c a H λb d=>if b=true then t D a d else u D a d
def Mw{c:iL}{a b:List il}{g:TT}(m:PT X c g)(n:Ft X a t)(o:Ft X b u):PS X (.If c a b pos) (a1D g t u):=by
 intro e s f H D I h;refine wpAny_If<|vI (m e s f H _ I h) λd i p=>e1a2 p λj k l=>?_
 cases d with
 |true=>exact n e i f j D k l
 |false=>exact o e i f j D k l
def Xj:TS:=λ_ _ _=>False
def NI:Ft X a Xj:=λ_ _ _ _ _ _ h=>h.elim
end
abbrev TG:=V->St->Hp->(St->Hp->Prop)->Prop
abbrev Zb:=List V->St->Hp->(St->Hp->Prop)->Prop
def PG(X:Cx)(a:iL)(t:TG):Prop :=
 ∀(b:List (ci×Obj)) (s:gW) (d:St) (H:Hp) (v:V) (u:cr) (Q:St->Hp->Prop),Inv X b d H s->RelV v u->t v d H Q ->
  gZ 23 X.A (sL a X.env u) (λ_ f=>∃c e,Inv X b c e f/\Q c e) X.xe s
def PGs(X:Cx)(g:List iL)(t:Zb):Prop :=
 ∀(a:List (ci×Obj)) (s:gW) (c:St) (H:Hp) (d:List V) (e:List cr) (Q:St->Hp->Prop),Inv X a c H s->Vals d e->t d c H Q ->
  gZ 23 X.A (assignInOrder ((pL g X.env).map (·.2)) e) (λ_ h=>∃b f,Inv X a b f h/\Q b f) X.xe s
abbrev Pm:=V->V->V->Hp->(Hp->Prop)->Prop
def Xk(X:Cx)(t:Pm):Prop :=
 ∀(a:List (ci×Obj)) (s:gW) (b:St) (H:Hp) (o i v:V) (c d u:cr) (Q:Hp->Prop),Inv X a b H s->RelV o c->RelV i d->RelV v u->t o i v H Q ->
  gZ 23 X.A (sA c d u) (λ_ f=>∃e,Inv X a b e f/\Q e) X.xe s
abbrev TIp:=V->V->Hp->VK->Prop
def PIp(X:Cx)(c:Operator)(t:TIp):Prop :=
 ∀(a:List (ci×Obj)) (s:gW) (b:St) (H:Hp) (x y:V) (v u:cr) (Q:VK),Inv X a b H s->RelV x v->RelV y u->t x y H Q ->
  gZ 23 X.A (inplaceOp c v u) (EP X a b Q) X.xe s
def C6(i:Nat):TG:=λv a H Q=>Q (a.set i<|↑v) H
def vf{i:Nat}(b:X.N.Nodup)(c:X.N[i]?=↑x:=by rfl)(d:Loc X.env.scope x:=by exact k9 rfl)(e:X.fn x=true\/X.env.scope.names.lookup x=some .local:=by first|exact .inl rfl|exact .inr rfl|assumption):PG X (.Name x pos) (C6 i):=by intro a s g H v u Q I r h;exact wpAny_assign_Name<|IJ I b c d r (λj f=>#[_,H,f,h]) e
def Xl:Zb:=λa b H Q=>a=[]/\Q b H
def FR(t:TG)(u:Zb):Zb:=λb c H Q=>∃v r,b=v::r/\t v c H λa d=>u r a d Q
def AE:PGs X [] Xl:=by intro a s b H c d Q I r h;obtain⟨e,h⟩:=h;subst e;cases r;exact assignInOrder_nil #[b,H,I,h]
def wB{e:iL}{b:List iL}{t:TG}{u:Zb}(d:PG X e t)(f:PGs X b u)
  (g:(pL (e::b) X.env).map (·.2)=sL e X.env::(pL b X.env).map (·.2):=by rfl):PGs X (e::b) (FR t u):=by
 intro a s i H q w Q I r h;obtain⟨v,x,j,h⟩:=h;subst j
 cases r with
 |cons r k =>
  rw[g];refine assignInOrder_cons<|vI (d a s i H _ _ _ I r h) λ_ l m=>e2a2 m λc n o p=>?_;exact f a l c n _ _ Q o k p
def Xm(K:gO)(n:Nat)(t:Zb):TG:=λv c H Q=>∃a b,v=.ref a/\yZ K H a b/\b.length=n/\t b c H Q
def Cu{k:Nat}{n:Nat}(l:X.calm=true)(h:PGs X d t)
 (m:(pL d X.env).length=n:=by rfl)(f:(pL d X.env).findIdx? (·.1)=none:=by rfl):PG X (.Tuple d k pos) (Xm X.K n t):=by
  intro c s i H v u Q I r g
  obtain⟨a,p,q,w,x,g⟩:=g
  subst q
  cases r
  obtain⟨y,j,z,D⟩:=I.tuple w
  refine assign_Tuple_tuple (I.ok.hd l) z (by simp[m,<- x,j.length]) f λA B=>?_
  have C:Inv X c i H { s with heap:=A}:=I.kept (t':=s.toks) λb o e=>B b o (hR<|gX e) e
  exact h c _ i H p _ Q C (by simpa using j) g
def a1F(b c:TE)(t:Pm):TG:=λv a H Q=>b a H λo d=>c a d λi e=>t o i v e λf=>Q a f
def Pn{o i:iL}{f g:TE}{t:Pm}(j:PE X o f)(k:PE X i g)(l:Xk X t)
  (m:∀v,sL (.Subscript o i pos) X.env v=(do
   let b <- kO [v] (eval o X.env)
   let c <- kO [v,b] (eval i X.env)
   mY pos
   kO [v,b,c] (sA b c v)
   release [v,b,c] []):=by intro _;rfl):PG X (.Subscript o i pos) (a1F f g t):=by
 intro a s e H v u Q I r h;rw[m];refine am<|iD<|vI (j a s e H _ I h) λb n d=>e2a3 d λx p q w z=>?_;refine am<|iD<|vI (k a n e p _ q z) λc A d=>e2a3 d λy B C D E=>?_;refine am<|nI<|am<|iD<|vI (l a A e B x y v b c u _ C w D r E) λ_ L d=>e1a2 d λF G J=>?_;exact wpAny_release #[e,F,G,J]
def Xn(b:TE)(g:TG):TS:=λD a H=>b a H λx c=>g x a c D.nx
def Kd{b e:iL}{c:TE}{g:TG}(f:PE X e c)(i:PG X b g)(j:swapsWithSole [b] e pos.line X.env=pure false:=by rfl)(hw:swappedStores [b] e X.env=pure none:=by rfl)
  (k:(pL [b] X.env).map (·.2)=[sL b X.env]:=by rfl):PS X (.Assign [b] e pos) (Xn c g):=by
 intro a s d H D I h;refine wpAny_Assign_stores (vI (f a s d H _ I h) λv l m=>e2a3 m λx n o p r=>?_) j hw;rw[k];exact vI (i a l d n x v _ o p r) λ_ t q=>q
def zV{i:Nat}{x:Str}{e:iL}{c:TE}{a:Pos}(d:X.N.Nodup)(f:X.N[i]?=↑x)(g:Loc X.env.scope x)(j:PE X e c)(k:jW e (some<|.Name x a) pos.line X.env=pure false:=by rfl)(l:X.fn x=true\/X.env.scope.names.lookup x=some .local:=by first|exact .inl rfl|exact .inr rfl|assumption) :
  PS X (.Assign [.Name x a] e pos) (Xn c<|C6 i):=by
 intro b s m H D I h;refine wpAny_Assign_Name (vI (j b s m H _ I h) λv u n=>e2a3 n λy o p q r=>?_) k;exact IJ p d f g q (λw t=>#[_,o,t,r]) l
def Zu(e f g:TE)(a:V->V->Hp->VK->Prop)(d:TIp)(b:Pm):TS:=λD c H=>e c H λo h=>f c h λi j=>a o i j λx k=>g c k λy l=>d x y l λz m=>b o i z m λn=>D.nx c n
def Zv(X:Cx)(t:V->V->Hp->VK->Prop):Prop :=
 ∀(a:List (ci×Obj)) (s:gW) (b:St) (H:Hp) (o i:V) (c d:cr) (Q:VK),Inv X a b H s->RelV o c->RelV i d->t o i H Q ->
  gZ 23 X.A (oh c d) (EP X a b Q) X.xe s
def T1{o i e:iL}{p q r:TE}{d:V->V->Hp->VK->Prop}{l:TIp}{f:Pm}{t:Operator}{m:Pos}(z:PE X o p)(A:PE X i q)(B:Zv X d)(C:PE X e r)(E:PIp X t l)(F:Xk X f)
  (G:∀g j b,augStore i g j b=(do kO [b,g,j] (sA g j b);release [b,g,j] [];pure .next):=by intros;rfl):PS X (.AugAssign (.Subscript o i m) t e pos) (Zu p q r d l f):=by
 intro a s k H D I h;refine sj (vI (z a s k H _ I h) λg J c=>e2a3 c λu L M w N=>?_) G;refine vI (A a J k L _ M N) λj O c=>e2a3 c λx P Q y R=>?_;refine vI (B a O k P u x g j _ Q w y R) λn S c=>e2a3 c λT U W Y Z=>?_;refine vI (C a S k U _ W Z) λv s4 c=>e2a3 c λx4 H4 I4 r4 q4=>?_;refine vI (E a s4 k H4 T x4 n v _ I4 Y r4 q4) λb s5 c=>e2a3 c λx5 H5 I5 r5 q5=>?_;exact vI (F a s5 k H5 u x x5 g j b _ I5 w y r5 q5) λ_ s6 c=>e1a2 c λH6 I6 q6=>#[k,H6,I6,q6]
def ipI(f:Int->Int->Int):TIp:=λx y H Q=>∃i j,x=.int i/\y=.int j/\Q (.int<|f i j) H
def Po:PIp X .Add (ipI λi j=>i+j):=by intro a s f H x y v u Q I b c h;obtain⟨i,j,d,e,q⟩:=h;subst d;subst e;obtain⟨t,rfl⟩:=b;obtain⟨g,rfl⟩:=c;exact iadd_int #[.int _,H,I.tok _,#[_,rfl],q]
def Xo:PIp X .Sub (ipI λi j=>i-j):=by intro a s f H x y v u Q I b c h;obtain⟨i,j,d,e,q⟩:=h;subst d;subst e;obtain⟨t,rfl⟩:=b;obtain⟨g,rfl⟩:=c;exact isub_int #[.int _,H,I.tok _,#[_,rfl],q]
def Xp(c:TT)(h:TS):TS:=λD a H=>∃W:Nat->St->Hp->Prop,(∃m,W m a H)/\∀m a H,W m a H ->
 c a H λb e=>if b=true then ∃N:St->Hp->Prop,(∀d f,N d f->∃g,g<m/\W g d f)/\h { D with nx:=N,ct:=N,bk:=D.nx} a e else D.nx a e
def Pp{c:iL}{g:List il}{u:TT}{x:TS}(y:rL 23 X.A X.env X.xe)(F:PT X c u)(G:Ft X g x):PS X (.While c g [] pos) (Xp u x):=by
 intro a s J H D I h;obtain⟨W,⟨L,M⟩,i⟩:=h;refine wpAny_While<|codeAny_whileLoop (λn O=>∃j z,Inv X a j z O/\W n j z) ?_ L #[J,H,I,M];rintro n P ⟨e,H1,Q,R⟩;refine lJ y<|vI (F a P e H1 _ Q<|i n e H1 R) λb S T=>e1a2 T λB C l=>?_
 cases b with
 |true =>
  refine e1a2 l λN E l=>?_;rw[gN rfl];refine lJ y<|vI (G a S e B _ C l) λf U m=>?_
  cases f with
  |next =>
   refine e2a2 m λd k o p=>?_;refine e1a2 (E d k p) λq r t=>?_;exact#[q,r,d,k,o,t]
  |cont =>
   refine e2a2 m λd k o p=>?_;refine e1a2 (E d k p) λq r t=>?_;exact#[q,r,d,k,o,t]
  |brk=>exact m
  |ret v=>exact m
 |false =>
  rw[gM g9];exact nX #[e,B,C,l]
structure It where
 go:Nat->Hp->Prop
 Iy:Nat->Hp->V->Hp->Prop
 stop:Nat->Hp->Prop
def Bf(X:Cx)(a:List (ci×Obj))(H:Hp)(b:ci):Prop :=
 H b=none/\b≠X.env.locals/\b∉X.fs/\(b∈X.ex\/X.s₀.heap.objs.size<=b)/\(∀x c,X.env.cells.lookup x=↑c->c≠b)/\∀p∈X.pn++a,p.1≠b
def Inv.Gz(I:Inv X a i H s)(d:⇑s<=b)(f:g b=none):Bf X a g b:=by
 refine#[f,jj<|ic I.lt d,I.a1x d,.inr<|iA I.sz d,λx c e z=>?_,λp h z=>?_]
 ·obtain⟨v,q⟩:=I.cell x c e;exact hV (ic q.lt<|by rw[z];exact d)<|jQ _
 ·exact hV (ic (gX (I.pin p h).1)<|by rw[z];exact d)<|jQ _
structure Turn(P:iB)(w:iR)(K:gO)(tg:iL)(J:It)(fp:List ci)(it:ci)(tn:Nat->iM->Prop):Prop where
 mem:it∈fp
 obj:∀i h,tn i h->∀b∈fp,∃o,h.get? b=↑o/\∀v,o.data≠.cell v
 keep:∀i h h',tn i h->(∀b∈fp,∀o,h.get? b=↑o->h'.get? b=↑o)->tn i h'
 item:∀(X:Cx),X.prog=P->X.w=w->X.K=K->X.calm=true->∀(i:Nat) (pins:List (ci×Obj)) (s:gW) (σ:St) (H:Hp) (E:cr->gW->Prop),Inv X pins σ H s->(∀b∈fp,Bf X pins H b)->tn i s.heap->J.go i H ->
  gZ (g8 P w) X.A (pyNext (.ref it)) (λr s1=>∃u,r=↑u /\
   gZ (g8 P w) X.A (sk tg (.ref it) u) (λ_ s2=>∃x H',Inv X pins σ H' s2/\RelV x u/\J.Iy i H x H'/\tn (i+1) s2.heap/\∀b∈fp,H' b=none) E s1) E s
 done:∀(X:Cx),X.prog=P->X.w=w->X.K=K->X.calm=true->∀(i:Nat) (pins:List (ci×Obj)) (s:gW) (σ:St) (H:Hp) (E:cr->gW->Prop),Inv X pins σ H s->(∀b∈fp,Bf X pins H b)->tn i s.heap->J.stop i H ->
  gZ (g8 P w) X.A (pyNext<|.ref it) (λr s1=>r=none/\Inv X pins σ H s1) E s
 self:∀(A:jx)(i:Nat)(s:gW)(Q:cr->gW->Prop)(E:cr->gW->Prop),tn i s.heap->Q (.ref it) s->gZ (g8 P w) A (pyIter<|.ref it) Q E s
abbrev TI:=St->Hp->(It->Hp->Prop)->Prop
def PIE(X:Cx)(a:List (ci×Obj))(i:St)(j:iL)(R:It->Hp->Prop)(c:cr)(e:gW):Prop :=
 ∃(f:ci)(g:List ci)(h:Nat->iM->Prop)(J:It)(d:Hp),c=.ref f/\Inv X a i d e/\Turn X.prog X.w X.K j J g f h/\h 0 e.heap/\(∀b∈g,Bf X a d b)/\R J d
def PI(X:Cx)(d b:iL)(e:TI):Prop :=
 ∀(a:List (ci×Obj)) (s:gW) (c:St) (H:Hp) (R:It->Hp->Prop),Inv X a c H s->e c H R ->
  gZ 23 X.A (eval b X.env) (λv f=>gZ 23 X.A (pyIter v) (PIE X a c d R) X.xe f) X.xe s
def Pq{s:gW}(b:s.heap.get? c=↑o)(d:o.cls=.type n)(e:o.data=.fields f)
 (g:["enumerate","zip","dict_itemiterator","dict_reverseitemiterator","odict_iterator","itertools.zip_longest","itertools.pairwise"].contains n=false)(a:Q () s):gZ M A (sk i (.ref c) u) Q E s:=by
  cases i<;>first
    | exact ap a
    | (cases u<;>first
        | exact ap a
        | (refine am (qO b ?_)
           rw[d,e]
           show gZ M A (if (["enumerate","zip","dict_itemiterator","dict_reverseitemiterator","odict_iterator","itertools.zip_longest","itertools.pairwise"].contains n&&f[0]?==↑(lO _))=true then _ else _) Q E s
           rw[gM<|by intro h;rw[g,Bool.false_and]at h;cases h]
           exact ap a))
noncomputable def Zc(K:gO)(a:ci):It :=
 #[λi H=>∃b x,wo K H a b/\b[i]?=↑x,λi H x c=>c=H/\∀b,wo K H a b->b[i]?=↑x,λi H=>∃b,wo K H a b/\b.length<=i]
noncomputable def Itt(K:gO)(a:ci):It :=
 #[λi H=>∃b x,yZ K H a b/\b[i]?=↑x,λi H x c=>c=H/\∀b,yZ K H a b->b[i]?=↑x,λi H=>∃b,yZ K H a b/\b.length<=i]
noncomputable def Xq(a:Int)(n:Nat):It:=#[λi _=>i<n,λi H x b=>b=H/\x=.int (a+i),λi _=>n<=i]
def NJ{P:iB}{w:iR}{K:gO}{tg:iL}(a it:ci):Turn P w K tg (Zc K a) [it] it (λi h=>h.IsListIter it a i) where
 mem:=by simp
 obj:=λi h st b hb=>by
  have e:b=it:=by simpa using hb
  subst e;refine e1a3 st λo e c d=>?_;exact#[o,e,λv z=>by rw[d]at z;cases z]
 keep:=λi h h' st k=>st.at λo e=>k it q0o o e
 item:=by intro X hP hw hK hc i pins s σ H E I hf st hg;subst hP hw hK;refine e2a2 hg λxs x hq hx=>?_;refine e1a3 (I.list hq) λzQ rv p hz=>?_;refine e1a2 (rv.get hx) λu hu ru=>?_;refine e0a6 (hf it q0o) λf0 f1 f2 f3 f4 f5=>?_;refine wpAny_pyNext_list_item st p.isList (x:=u) (by simpa using hu) λh' Wv sb=>?_;have I1:Inv X pins σ H { s with heap:=h'}:=I.turned (t':=s.toks) (λb o hb e=>(sb.2 b hb).trans e) f0 f1 f3 f4 f5;refine e1a3 (id Wv) λo e c d=>?_;exact#[u,rfl,Pq (s:={ s with heap:=h'}) e c d q0q #[x,H,I1,ru,#[rfl,λys hy=>by rw[I.IL hy hq];exact hx],Wv,λb hb=>(hf b hb).1]]
 done:=by intro X hP hw hK hc i pins s σ H E I hf st hg;subst hP hw hK;refine e1a2 hg λxs hq hx=>?_;refine e1a3 (I.list hq) λzQ rv p hz=>?_;refine e0a6 (hf it q0o) λf0 f1 f2 f3 f4 f5=>?_;have hl:=rv.length;exact wpAny_pyNext_list_end (I.ok.hd hc) st p.isList (by simp;lia) λh' eb=>#[rfl,I.turned (t':=s.toks) (λb o hb e=>eb b o hb e) f0 f1 f3 f4 f5]
 self:=λ_ _ _ _ _ st h=>wpAny_pyIter_listiter st h
def Kf{P:iB}{w:iR}{K:gO}{tg:iL}(a it:ci):Turn P w K tg (Itt K a) [it] it (λi h=>h.IsTupleIter it a i) where
 mem:=by simp
 obj:=λi h st b hb=>by
  have e:b=it:=by simpa using hb
  subst e;refine e1a3 st λo e c d=>?_;exact#[o,e,λv z=>by rw[d]at z;cases z]
 keep:=λi h h' st k=>st.at λo e=>k it q0o o e
 item:=by intro X hP hw hK hc i pins s σ H E I hf st hg;subst hP hw hK;refine e2a2 hg λxs x hq hx=>?_;refine e1a3 (I.tuple hq) λzQ rv p hz=>?_;refine e1a2 (rv.get hx) λu hu ru=>?_;refine e0a6 (hf it q0o) λf0 f1 f2 f3 f4 f5=>?_;refine wpAny_pyNext_tuple_item st (show s.heap.IsTuple a zQ.toArray from p) (x:=u) (by simpa using hu) λh' Wv sb=>?_;have I1:Inv X pins σ H { s with heap:=h'}:=I.turned (t':=s.toks) (λb o hb e=>(sb.2 b hb).trans e) f0 f1 f3 f4 f5;refine e1a3 (id Wv) λo e c d=>?_;exact#[u,rfl,Pq (s:={ s with heap:=h'}) e c d q0q #[x,H,I1,ru,#[rfl,λys hy=>by rw[I.NH hy hq];exact hx],Wv,λb hb=>(hf b hb).1]]
 done:=by intro X hP hw hK hc i pins s σ H E I hf st hg;subst hP hw hK;refine e1a2 hg λxs hq hx=>?_;refine e1a3 (I.tuple hq) λzQ rv p hz=>?_;refine e0a6 (hf it q0o) λf0 f1 f2 f3 f4 f5=>?_;have hl:=rv.length;exact wpAny_pyNext_tuple_end (I.ok.hd hc) st (show s.heap.IsTuple a zQ.toArray from p) (by simp;lia) λh' eb=>#[rfl,I.turned (t':=s.toks) (λb o hb e=>eb b o hb e) f0 f1 f3 f4 f5]
 self:=λ_ _ _ _ _ st h=>wpAny_pyIter_tupleiter st h
def Kg{P:iB}{w:iR}{K:gO}{tg:iL}(it:ci)(lo:Int)(n:Nat):Turn P w K tg (Xq lo n) [it] it (λi h=>IsRangeIter h it (lo+(i:Nat)*1) ((n:Int)-(i:Nat)) 1) where
 mem:=by simp
 obj:=λi h st b hb=>by
  have e:b=it:=by simpa using hb
  subst e
  exact#[_,st,λv z=>by
   have z':tF _=Data.cell v:=z
   cases z']
 keep:=λi h h' st k=>k it q0o _ st
 item:=by intro X hP hw hK hc i pins s σ H E I hf st hg;subst hP hw hK;refine e0a6 (hf it q0o) λf0 f1 f2 f3 f4 f5=>?_;have W:=Walks.range (prog:=X.prog) (w:=X.w) (I.ok.hd hc) it lo 1 n;refine W.item i s _ _ hg st λv h' tk hv Wv kk=>?_;obtain⟨t,rfl⟩:=hv;have I1:Inv X pins σ H { s with heap:=h',toks:=tk}:=I.turned (λb o hb e=>kk b o (by simpa using hb) e) f0 f1 f3 f4 f5;refine#[_,rfl,Pq (s:={ s with heap:=h',toks:=tk}) (n:="range_iterator") Wv rfl rfl q0q #[.int<|lo+i,H,I1,⟨t,?_⟩,⟨rfl,rfl⟩,Wv,λb hb=>(hf b hb).1]];rw[Int.mul_one]
 done:=by intro X hP hw hK hc i pins s σ H E I hf st hg;refine e0a6 (hf it q0o) λf0 f1 f2 f3 f4 f5=>?_;exact wpAny_pyNext_range_end (I.ok.hd hc) st (by have:n<=i:=hg;lia) λh' eb=>#[rfl,I.turned (t':=s.toks) (λb o hb e=>eb b o hb e) f0 f1 f3 f4 f5]
 self:=λ_ _ _ _ _ st h=>wpAny_pyIter_rangeiter st h
def Zw(K:gO)(c:TE):TI:=λd H R=>c d H λx b=>∃a,x=.ref a/\(∃e,wo K b a e)/\R (Zc K a) b
def a1I(K:gO)(c:TE):TI:=λd H R=>c d H λx b=>∃a,x=.ref a/\(∃e,yZ K b a e)/\R (Itt K a) b
def GB{l:iL}{g:TE}(i:PE X l g):PI X y l (Zw X.K g):=by
 intro c s j H R I h;refine vI (i c s j H _ I h) λv d k=>e2a3 k λx m f n r=>?_;obtain⟨a,e,⟨z,t⟩,q⟩:=r;subst e;cases n;refine e1a3 (f.list t) λu A p B=>?_;refine wpAny_pyIter_list p.isList ?_;refine#[⇑d,[⇑d],_,_,m,rfl,f.kept (t':=d.toks) λb o e=>ce _ e,NJ a _,#[_,hI _ rfl,rfl,rfl],λb w=>?_,q];have e:b=⇑d:=by simpa using w
 subst e;exact f.Gz (gQ _)<|f.vK.fresh<|gQ _
def Xr{l:iL}{i:TE}(j:PE X l i):PI X y l (a1I X.K i):=by
 intro c s k H R I h;refine vI (j c s k H _ I h) λv d m=>e2a3 m λx n f r t=>?_;obtain⟨a,e,⟨z,u⟩,q⟩:=t;subst e;cases r;refine e1a3 (f.tuple u) λg A p B=>?_;refine qP (show d.heap.IsTuple a g.toArray from p) ?_;refine#[⇑d,[⇑d],_,_,n,rfl,f.kept (t':=d.toks) λb o e=>ce _ e,Kf a _,#[_,hI _ rfl,rfl,rfl],λb w=>?_,q];have e:b=⇑d:=by simpa using w
 subst e;exact f.Gz (gQ _)<|f.vK.fresh<|gQ _
def IN{a c:Int}{f:Nat}(I:Inv X d h H s)(i:-(2 ^ 62)<=a)(j:a<2 ^ 62)(k:-(2 ^ 62)<=c)(l:c<2 ^ 62)
 (q:R (Xq a (c-a).toNat) H):gZ 23 X.A (pyIter<|.ref ⇑s) (PIE X d h r R) E { s with heap:=s.heap.push { cls:=.type "range",data:=.fields #v[.int a t,.int c u,.int 1 v]},toks:=f}:=by
  refine wpAny_pyIter_range (IsRange.new ..) (small_one i j k l) ?_
  have g:Inv X d h H { s with heap:=s.heap.push { cls:=.type "range",data:=.fields #v[.int a t,.int c u,.int 1 v]},toks:=f}:=I.kept λb o e=>ce _ e
  refine#[(s.heap.push { cls:=.type "range",data:=.fields #v[.int a t,.int c u,.int 1 v]}).objs.size,[(s.heap.push { cls:=.type "range",data:=.fields #v[.int a t,.int c u,.int 1 v]}).objs.size],_,_,H,rfl,
    g.kept (t':=f) λb o e=>ce _ e,Kg _ a (c-a).toNat,?_,λb m=>?_,q]
  · have n : a+((0 : Nat) : Int)*1 = a := by simp
    have p:(((c-a).toNat:Nat):Int)-((0:Nat):Int)=Builtin.Range.rangeSize a c 1:=by rw[rangeSize_one];split<;>lia
    rw[n,p]
    exact hI _ rfl
  · have e : b = (s.heap.push { cls := .type "range", data := .fields #v[.int a t, .int c u, .int 1 v] }).objs.size := by simpa using m
    subst e
    exact g.Gz (gQ _)<|g.vK.fresh<|gQ _
def Zx(a:TA):TI:=λb H R=>a b H λc d=>∃j:Int,c=[.int j]/\-(2 ^ 62)<=j/\j<2 ^ 62/\R (Xq 0 j.toNat) d
def Ww(a:TA):TI:=λb H R=>a b H λc d=>∃i j:Int,c=[.int i,.int j]/\(-(2 ^ 62)<=i/\i<2 ^ 62/\-(2 ^ 62)<=j/\j<2 ^ 62)/\R (Xq i (j-i).toNat) d
def NK{a:iL}{f:TA}{p b:Pos}(g:Gl X "range")(i:X.mg "range"=none)(k:PA X [a] f)(l:gP [a] X.env=[(false,eval a X.env)]:=by rfl):PI X x (.Call (.Name "range" p) [a] [] b) (Zx f):=by
 intro c s m H R I h;refine Call_<|zn I g i boot_range<|jZ (vI (k b c s m H _ I h) λy z n=>e2a3 n λA B o u d=>?_) l rfl;obtain⟨j,e,d,v,q⟩:=d;subst e
 cases u with
 |cons r w =>
  cases w;obtain⟨t,rfl⟩:=r;exact call_range_1<|IN o q0a q0a d v (by simpa using q)
def NL{a b:iL}{l:TA}{p c:Pos}(m:Gl X "range")(n:X.mg "range"=none)(o:PA X [a,b] l)(u:gP [a,b] X.env=[(false,eval a X.env),(false,eval b X.env)]:=by rfl)(d:gP [b] X.env=[(false,eval b X.env)]:=by rfl) :
  PI X C (.Call (.Name "range" p) [a,b] [] c) (Ww l):=by
 intro f s v H R I h;refine Call_<|zn I m n boot_range<|jZ (vI (o c f s v H _ I h) λD E ⟨F,H1,w,x,g⟩=>?_) (by rw[u,d]) (by rw[d];rfl);obtain⟨i,j,e,⟨g,y,z,A⟩,q⟩:=g;subst e
 cases x with
 |cons r k =>
  cases k with
  |cons B k =>
   cases k;obtain⟨t,rfl⟩:=r;obtain⟨G,rfl⟩:=B;exact call_range_2<|IN w g y z A q
def a1J(f:TI)(g:TG)(h:TS):TS:=λD a H=>f a H λJ j=>∃W:Nat->Nat->St->Hp->Prop,(∃m,W 0 m a j)/\∀i m a H,W i m a H ->
 (J.stop i H/\D.nx a H)\/(J.go i H/\∃N:St->Hp->Prop,(∀b c,N b c->∃e,e<m/\W (i+1) e b c)/\∀x c,J.Iy i H x c->g x a c λd k=>h { D with nx:=N,ct:=N,bk:=D.nx} d k)
noncomputable def DV(a:List ci)(h:iM):List (ci×Obj):=a.filterMap λb=>(h.get? b).map λo=>(b,o)
def xE{h:iM}(a:b∈c)(e:h.get? b=↑o):(b,o)∈DV c h:=List.mem_filterMap.mpr #[b,a,by rw[e];rfl]
def NM(a:p∈DV c h):p.1∈c/\h.get? p.1=↑p.2:=by
 refine e1a2 (List.mem_filterMap.mp a) λb d e=>?_
 cases q:h.get? b with
 |none=>rw[q]at e;cases e
 |some o =>
  rw[q]at e;have f:(b,o)=p:=iX e;subst f;exact#[d,q]
def Inv.pinned(I:Inv X a g H s)(h:∀b∈fp,Bf X a H b)(i:∀b∈fp,∃o,s.heap.get? b=↑o/\∀v,o.data≠.cell v):Inv X (a++DV fp s.heap) g H s :=
 I.zl λp j=>(List.mem_append.mp j).elim (λz=>I.pin p<|ig _ z) λz=>by obtain⟨c,e⟩:=NM z;obtain⟨k,l,m,_⟩:=h p.1 c;refine e1a2 (i p.1 c) λo f d=>?_;rw[e]at f;cases f;exact#[e,k,l,m,d]
def Inv.zW(I:Inv X (a++d) b H s):Inv X a b H s:=I.zl λp c=>I.pin p<|ig _<|i8 _ c
def Pr{j:iL}{C:List il}{wi:TI}{g:TG}{tb:TS}{Y:Pos}(M:rL 23 X.A X.env X.xe)(hc:X.calm=true)(hi:PI X tg j wi)(hg:PG X tg g)(k:Ft X C tb)
  (hs:∀x,kh j X.env x=pure x:=by intro _;rfl):PS X (.For tg j C [] Y) (a1J wi g tb):=by
 intro a s σ H D I h;refine wpAny_For (vI (hi a s σ H _ I h) λv s1 h1=>vI h1 λai s2 h2=>?_) hs;obtain⟨it,O,tn,J,H2,e,I2,T,Z,f2,W,⟨m0,w0⟩,P⟩:=h2;subst e
 -- ag aa true of the E Q through the ah
 have l:∀{B:Hp},(∀b∈O,B b=none)->∀b∈O,Bf X a B b:=λhn b k=>#[hn b k,(f2 b k).2];refine codeAny_forLoop_any (λn s'=>∃i p B,Inv X a p B s'/\tn i s'.heap/\(∀b∈O,B b=none)/\W i n p B) ?_ m0 #[0,σ,H2,I2,Z,λb k=>(f2 b k).1,w0];rintro n s3 ⟨i,q,H3,I3,R,S,w3⟩;rcases P i n q H3 w3 with⟨stop,qn⟩|⟨go,N,hN,step⟩
 ·refine lJ M<|vI (T.done X rfl rfl rfl hc i a s3 q H3 X.xe I3 (l S) R stop) λr s4 G=>e0a2 G λhr I4=>?_;subst hr;exact nX #[q,H3,I4,qn]
 ·refine lJ M<|vI (T.item X rfl rfl rfl hc i a s3 q H3 X.xe I3 (l S) R go) λr s4 G=>e1a2 G λu hr h4=>?_;subst hr;refine lJ M<|vI h4 λ_ s5 G=>e2a5 G λx H5 I5 r5 y5 L ab=>?_;have ae:=I5.pinned (l ab)<|T.obj _ _ L;refine lJ M<|vI (hg _ s5 q H5 x u _ ae r5<|step x H5 y5) λ_ s6 G=>e2a2 G λaf H6 I6 q6=>?_;refine lJ M (vI (k _ s6 af H6 _ I6 q6) λf s7 F=>?_)
  have t:∀{c:St} {y:Hp},Inv X (a++DV O s5.heap) c y s7->N c y->∃m,m<n/\∃i p B,Inv X a p B s7/\tn i s7.heap/\(∀b∈O,B b=none)/\W i m p B:=λ{c y} z U=>by refine e1a2 (hN c y U) λm' hm w7=>?_;refine#[m',hm,i+1,c,y,z.zW,T.keep _ _ _ L λb k o e=>(z.pin (b,o)<|ig _<|ig _<|xE k e).1,λb k=>?_,w7];refine e1a2 (T.obj _ _ L b k) λo e d=>?_;exact(z.pin (b,o)<|ig _<|ig _<|xE k e).2.1
  cases f with
  |next=>obtain⟨c,y,z,U⟩:=F;exact t z U
  |cont=>obtain⟨c,y,z,U⟩:=F;exact t z U
  |brk=>obtain⟨c,y,z,F⟩:=F;exact#[c,y,z.zW,F]
  |ret v=>obtain⟨x7,c,y,z,r7,F⟩:=F;exact#[x7,c,y,z.zW,r7,F]
def Pu{K:gO}{a:ci}{xs:List V}{g:TG}{l:TS}{D:Ends}{b:St}{H:Hp}(c:Nat->St->Hp->Prop)(o:c 0 b H)(r:∀i b H,i<=xs.length->c i b H->wo K H a xs)
  (s:∀i x b H,xs[i]?=↑x->c i b H->g x b H λd k=>l { D with nx:=c<|i+1,ct:=c<|i+1,bk:=D.nx} d k) (t:∀b H,c xs.length b H->D.nx b H) :
  ∃W:Nat->Nat->St->Hp->Prop,(∃m,W 0 m b H)/\∀i m b H,W i m b H ->
   ((Zc K a).stop i H/\D.nx b H)\/((Zc K a).go i H/\∃N:St->Hp->Prop,(∀f h,N f h->∃n,n<m/\W (i+1) n f h)/\∀x h,(Zc K a).Iy i H x h->g x b h λd k=>l { D with nx:=N,ct:=N,bk:=D.nx} d k):=by
 refine#[λi m b H=>m=xs.length-i/\i<=xs.length/\c i b H,#[xs.length,q0o,i9 _,o],?_];rintro i m b H ⟨rfl,u,p⟩;have q:=r i b H u p;by_cases j:i<xs.length
 ·refine .inr #[#[xs,xs[i],q,by simp[j]],c<|i+1,λf h v=>#[xs.length-(i+1),q0d,rfl,j,v],λx h y=>?_];obtain⟨e,y⟩:=y;subst e;exact s i x b _ (y xs q) p
 ·have e:i=xs.length:=by omega
  subst e;exact .inl #[#[xs,q,gQ _],t b H p]
abbrev R2:=V->V->Hp->VK->Prop
def AV(X:Cx)(f:cr->cr->Sem cr)(r:R2):Prop :=
 ∀(a:List (ci×Obj)) (s:gW) (b:St) (H:Hp) (x y:V) (v u:cr) (Q:VK),Inv X a b H s->RelV x v->RelV y u->r x y H Q ->
  gZ 23 X.A (f v u) (EP X a b Q) X.xe s
def UnR(X:Cx)(f:cr->Sem cr)(r:V->Hp->VK->Prop):Prop :=
 ∀(a:List (ci×Obj)) (s:gW) (b:St) (H:Hp) (x:V) (v:cr) (Q:VK),Inv X a b H s->RelV x v->r x H Q ->
  gZ 23 X.A (f v) (EP X a b Q) X.xe s
def yM(X:Cx)(f:cr)(r:List V->Hp->VK->Prop):Prop :=
 ∀(a:List (ci×Obj)) (s:gW) (b:St) (H:Hp) (c:List V) (d:List cr) (Q:VK),Inv X a b H s->Vals c d->r c H Q ->
  gZ 23 X.A (call f d) (EP X a b Q) X.xe s
def a1L(X:Cx)(r:V->Hp->(Bool->Hp->Prop)->Prop):Prop :=
 ∀(a:List (ci×Obj)) (s:gW) (b:St) (H:Hp) (x:V) (v:cr) (Q:Bool->Hp->Prop),Inv X a b H s->RelV x v->r x H Q ->
  gZ 23 X.A (ur v) (TP X a b Q) X.xe s
def Zd(r:R2)(b c:TE):TE:=λa H Q=>b a H λx d=>c a d λy e=>r x y e Q
def tUn(r:V->Hp->VK->Prop)(a:TE):TE:=λb H Q=>a b H λx c=>r x c Q
def rI(C:Int->Int->Prop)(g:Int->Int->V):R2:=λx y H Q=>∃i j,x=.int i/\y=.int j/\C i j/\Q (g i j) H
def TJ(g:Int->Int->V):R2:=λx y H Q=>∃i j,x=.int i/\y=.int j/\Q (g i j) H
def rU(g:Int->V):V->Hp->VK->Prop:=λx H Q=>∃i,x=.int i/\Q (g i) H
def Xs(m:PE X a n)(o:PE X b p){c:List (ci×Obj)}{s:gW}{d:St}{H:Hp}{R:V->V->Hp->Prop}(I:Inv X c d H s)
  (h:n d H λx k=>p d k λy e=>R x y e) {Q:cr->gW->Prop} {f:cr->cr->Sem cr}
  (q:∀v u j x y e,Inv X c d e j->RelV x v->RelV y u->R x y e->gZ 23 X.A (f v u) Q X.xe j) :
  gZ 23 X.A (eval a X.env) (λv g=>gZ 23 X.A (eval b X.env) (λu i=>gZ 23 X.A (f v u) Q X.xe i) X.xe g) X.xe s:=by
 refine vI (m c s d H _ I h) λv r l=>e2a3 l λx k t z B=>?_;refine vI (o c r d k _ t B) λu j l=>e2a3 l λy e C D E=>?_;exact q v u j x y e C z D E
def wT(d:AV X (mz op) r)(e:PE X a f)(g:PE X b i):PE X (.BinOp a op b pos) (Zd r f i):=by intro c s j H Q I h;exact wpAny_BinOp<|Xs e g I h λv u k x y l m n o q=>d c k j l x y v u Q m n o q
def Wx{c:UnaryOp}{r:V->Hp->VK->Prop}(e:UnR X (unaryOp c) r)(f:PE X a g):PE X (.UnaryOp c a pos) (tUn r g):=by intro b s d H Q I h;exact UnaryOp_<|vI (f b s d H _ I h) λv i j=>e2a3 j λx k l m n=>e b i d k x v Q l m n
def opI{f:cr->cr->Sem cr}{C:Int->Int->Prop}{g:Int->Int->Int}
 (a:∀(i j:Int)(t u:Tok)(s:gW)(Q:cr->gW->Prop)(E:cr->gW->Prop),C i j->Q (.int (g i j) s.toks) { s with toks:=s.toks+1}->gZ 23 X.A (f (.int i t)<|.int j u) Q E s) :
    AV X f (rI C λi j=>.int<|g i j):=by
  intro b s l H x y v u Q I c d h
  obtain⟨i,j,rfl,rfl,e,q⟩:=h
  obtain⟨t,rfl⟩:=c
  obtain⟨k,rfl⟩:=d
  exact a i j t k s _ _ e #[.int<|g i j,H,I.tok _,#[_,rfl],q]
def Zy{f:cr->cr->Sem cr}{g:Int->Int->Int}
 (a:∀(i j:Int)(t u:Tok)(s:gW)(Q:cr->gW->Prop)(E:cr->gW->Prop),Q (.int (g i j) s.toks) { s with toks:=s.toks+1}->gZ 23 X.A (f (.int i t)<|.int j u) Q E s) :
    AV X f (TJ λi j=>.int<|g i j):=by
  intro b s k H x y v u Q I c d h
  obtain⟨i,j,rfl,rfl,q⟩:=h
  obtain⟨t,rfl⟩:=c
  obtain⟨e,rfl⟩:=d
  exact a i j t e s _ _ #[.int<|g i j,H,I.tok _,#[_,rfl],q]
def T2{f:cr->cr->Sem cr}{g:Int->Int->Bool}
 (a:∀(i j:Int)(t u:Tok)(s:gW)(Q:cr->gW->Prop)(E:cr->gW->Prop),Q (.bool<|g i j) s->gZ 23 X.A (f (.int i t)<|.int j u) Q E s) :
    AV X f (TJ λi j=>.bl<|g i j):=by
  intro b s k H x y v u Q I c d h
  obtain⟨i,j,rfl,rfl,q⟩:=h
  obtain⟨t,rfl⟩:=c
  obtain⟨e,rfl⟩:=d
  exact a i j t e s _ _ #[.bl<|g i j,H,I,rfl,q]
def a1M(i j:Int):Prop:=0<j/\j<1073741824
def a1N(i j:Int):Prop:=0<=j/\j<=1000000/\i.natAbs<2 ^ 64
def Xt(i j:Int):Prop:=(-(2 ^ 64)<i/\i<2 ^ 64)\/(-(2 ^ 64)<j/\j<2 ^ 64)
def Xt.ok{i j:Int}(h:Xt i j):IntMulOk i j:=by
 rcases h with⟨a,b⟩|⟨a,b⟩
 ·exact .of_left<|intBits_le_64 a b
 ·exact .of_right<|intBits_le_64 a b
def zX:AV X (mz .Add) (TJ λi j=>.int<|i+j):=Zy λ_ _ _ _ _ _ _ q=>add_int q
def Ki:AV X (mz .Sub) (TJ λi j=>.int<|i-j):=Zy λ_ _ _ _ _ _ _ q=>sub_int q
def Bh:AV X (mz .Mult) (rI Xt λi j=>.int<|i*j):=opI λ_ _ _ _ _ _ _ a q=>mul_int q a.ok
def My:AV X (mz .FloorDiv) (rI a1M λi j=>.int<|i / j):=opI λi j _ _ _ _ _ a q=>by have b:(0:Int)<j:=a.1;have c:j<1073741824:=a.2;exact floordiv_int q0d (by rw[Int.fdiv_eq_ediv_of_nonneg i q0d];exact q)<|.inl<|PyProof.noPylong_small q0d
def Cv:AV X (mz .Mod) (rI (λ_ j=>0<j) λi j=>.int<|i%j):=opI λi j _ _ _ _ _ a q=>by exact mod_int' q0a (by rw[Int.fmod_eq_emod_of_nonneg i q0a];exact q)
def Xu:AV X (mz .Pow) (rI a1N λi j=>.int<|i ^ j.toNat):=opI λ_ _ _ _ _ _ _ a q=>pow_int_small a.1 a.2.1 a.2.2 q
def unI{f:cr->Sem cr}{g:Int->Int}
 (a:∀(i:Int)(t:Tok)(s:gW)(Q:cr->gW->Prop)(E:cr->gW->Prop),Q (.int (g i) s.toks) { s with toks:=s.toks+1}->gZ 23 X.A (f<|.int i t) Q E s) :
    UnR X f (rU λi=>.int<|g i):=by
  intro b s d H x v Q I c h
  obtain⟨i,rfl,q⟩:=h
  obtain⟨t,rfl⟩:=c
  exact a i t s _ _ #[.int<|g i,H,I.tok _,#[_,rfl],q]
def Pw:UnR X (unaryOp .USub) (rU λi=>.int (-i)):=unI λ_ _ _ _ _ q=>neg_int q
noncomputable def Xv:V->V->Bool
 | .wF,.wF=>true|.wF,.int _=>true|.int _,.wF=>true|.wF,.bl _=>true|.bl _,.wF=>true|.wF,.str _=>true|.str _,.wF=>true
 | .int _,.int _=>true|.bl _,.bl _=>true|.str _,.str _=>true|.Mu _,.Mu _=>true
 | .int _,.str _=>true|.str _,.int _=>true|.bl _,.str _=>true|.str _,.bl _=>true
 |_,_=>false
def rEq:R2:=λx y H Q=>Xv x y=true/\Q (.bl<|decide<|x=y) H
def rNe:R2:=λx y H Q=>Xv x y=true/\Q (.bl<|!decide (x=y)) H
def Mz{i j:Int}:decide (V.int i=V.int j)=(i==j):=by rw[mi];simp
def Px{i j:Bool}:decide (V.bl i=V.bl j)=(i==j):=by rw[mi];simp
def MA:decide (V.str i=V.str j)=(i==j):=by rw[mi];simp
def MB:decide (V.Mu i=V.Mu j)=(i.toList==j.toList):=by rw[mi];cases i;cases j;simp
def vH{k b:Bool}(I:Inv X a c H s)(q:Q (.bl k) H)(e:k=b):EP X a c Q (.bool b) s:=by subst e;exact#[.bl k,H,I,rfl,q]
def Zz:AV X (jy .Eq) rEq:=by
 intro e s f H x y v u Q I d a h;obtain⟨c,q⟩:=h
 cases x with
 |wF =>
  cases d
  cases y with
  |wF=>cases a;exact PySem.EqNone.eq_none_none<|vH I q q0o
  |bl j=>cases a;exact PySem.EqNone.eq_none_bool<|vH I q q0o
  |int j=>obtain⟨b,rfl⟩:=a;exact PySem.EqNone.eq_none_int<|vH I q q0o
  |str j=>obtain⟨b,rfl⟩:=a;exact PySem.EqNone.eq_none_str<|vH I q q0o
  |_=>exact hV (show false=true from c) g9
 |bl i =>
  cases d
  cases y with
  |wF=>cases a;exact PySem.EqNone.eq_bool_none<|vH I q q0o
  |bl j=>cases a;exact eq_bool<|vH I q Px
  |str j=>obtain⟨b,rfl⟩:=a;exact PySem.EqMixed.eq_bool_str<|vH I q q0o
  |_=>exact hV (show false=true from c) g9
 |int i =>
  obtain⟨t,rfl⟩:=d
  cases y with
  |wF=>cases a;exact PySem.EqNone.eq_int_none<|vH I q q0o
  |int j=>obtain⟨b,rfl⟩:=a;exact eq_int<|vH I q Mz
  |str j=>obtain⟨b,rfl⟩:=a;exact PySem.EqMixed.eq_int_str<|vH I q q0o
  |_=>exact hV (show false=true from c) g9
 |str i =>
  obtain⟨t,rfl⟩:=d
  cases y with
  |wF=>cases a;exact PySem.EqNone.eq_str_none<|vH I q q0o
  |bl j=>cases a;exact PySem.EqMixed.eq_str_bool<|vH I q q0o
  |int j=>obtain⟨b,rfl⟩:=a;exact PySem.EqMixed.eq_str_int<|vH I q q0o
  |str j=>obtain⟨b,rfl⟩:=a;exact eq_str<|vH I q MA
  |_=>exact hV (show false=true from c) g9
 |Mu i =>
  obtain⟨t,rfl⟩:=d
  cases y with
  |Mu j=>obtain⟨b,rfl⟩:=a;exact PySem.W.eq_bytes<|vH I q MB
  |_=>exact hV (show false=true from c) g9
 |_=>cases y<;>exact hV (show false=true from c) g9
def ZA:AV X (jy .NotEq) rNe:=by
 intro e s f H x y v u Q I d a h;obtain⟨c,q⟩:=h
 cases x with
 |wF =>
  cases d
  cases y with
  |wF=>cases a;exact PySem.EqNone.ne_none_none<|vH I q q0o
  |bl j=>cases a;exact PySem.EqNone.ne_none_bool<|vH I q q0o
  |int j=>obtain⟨b,rfl⟩:=a;exact PySem.EqNone.ne_none_int<|vH I q q0o
  |str j=>obtain⟨b,rfl⟩:=a;exact PySem.EqNone.ne_none_str<|vH I q q0o
  |_=>exact hV (show false=true from c) g9
 |bl i =>
  cases d
  cases y with
  |wF=>cases a;exact PySem.EqNone.ne_bool_none<|vH I q q0o
  |bl j=>cases a;exact ne_bool<|vH I q<|congrArg not Px
  |str j=>obtain⟨b,rfl⟩:=a;exact PySem.EqMixed.ne_bool_str<|vH I q q0o
  |_=>exact hV (show false=true from c) g9
 |int i =>
  obtain⟨t,rfl⟩:=d
  cases y with
  |wF=>cases a;exact PySem.EqNone.ne_int_none<|vH I q q0o
  |int j=>obtain⟨b,rfl⟩:=a;exact ne_int<|vH I q<|congrArg not Mz
  |str j=>obtain⟨b,rfl⟩:=a;exact PySem.EqMixed.ne_int_str<|vH I q q0o
  |_=>exact hV (show false=true from c) g9
 |str i =>
  obtain⟨t,rfl⟩:=d
  cases y with
  |wF=>cases a;exact PySem.EqNone.ne_str_none<|vH I q q0o
  |bl j=>cases a;exact PySem.EqMixed.ne_str_bool<|vH I q q0o
  |int j=>obtain⟨b,rfl⟩:=a;exact PySem.EqMixed.ne_str_int<|vH I q q0o
  |str j=>obtain⟨b,rfl⟩:=a;exact ne_str<|vH I q<|congrArg not MA
  |_=>exact hV (show false=true from c) g9
 |Mu i =>
  obtain⟨t,rfl⟩:=d
  cases y with
  |Mu j=>obtain⟨b,rfl⟩:=a;exact PySem.W.ne_bytes<|vH I q<|congrArg not MB
  |_=>exact hV (show false=true from c) g9
 |_=>cases y<;>exact hV (show false=true from c) g9
def Wy:AV X (jy .Lt) (TJ λi j=>.bl<|decide<|i<j):=T2 λ_ _ _ _ _ _ _ q=>lt_int q
def Wz:AV X (jy .LtE) (TJ λi j=>.bl<|decide<|i<=j):=T2 λ_ _ _ _ _ _ _ q=>le_int q
def WA:AV X (jy .Gt) (TJ λi j=>.bl<|decide<|j<i):=T2 λ_ _ _ _ _ _ _ q=>gt_int q
def ZB:AV X (jy .GtE) (TJ λi j=>.bl<|decide<|j<=i):=T2 λ_ _ _ _ _ _ _ q=>ge_int q
def Xw:AV X (jy .Is) (λx y H Q=>y=.wF/\Q (.bl<|decide<|x=.wF) H):=by
 intro a s d H x y v u Q I b c h;obtain⟨rfl,q⟩:=h;cases c;refine is_none_gen<|vH I q ?_
 cases x<;>first
  | (cases b;rfl)
  | (obtain⟨t,rfl⟩:=b;rfl)
def T4:AV X (jy .IsNot) (λx y H Q=>y=.wF/\Q (.bl<|!decide (x=.wF)) H):=by
 intro a s d H x y v u Q I b c h;obtain⟨rfl,q⟩:=h;cases c;refine isnot_none_gen<|vH I q ?_
 cases x<;>first
  | (cases b;rfl)
  | (obtain⟨t,rfl⟩:=b;rfl)
def v9(b:iL)(h:op≠.In:=by decide)(a:op≠.NotIn:=by decide):iV op b=false:=by
 have c:(op==CmpOp.In)=false:=by cases op<;>first|rfl|exact hV rfl h
 have d:(op==CmpOp.NotIn)=false:=by cases op<;>first|rfl|exact hV rfl a
 cases b<;>simp[iV,c,d]
def GC(d:AV X (jy op) r)(e:PE X a f)(g:PE X b i)(j:iV op b=false):PE X (.Compare a [op] [b] pos) (Zd r f i):=by intro c s k H Q I h;exact sK (Xs e g I h λv u l x y m n o p q=>d c l k m x y v u Q n o p q) j
def ZC(t:TE):TT:=λa H Q=>t a H λx b=>∃k,x=.bl k/\Q k b
def xT{g:qJ}{r:R2}(l:AV X (jy g) r)(m:PE X a n)(o:PE X b p)(q:iV g b=false):PT X (.Compare a [g] [b] pos) (ZC<|Zd r n p):=by
 intro d s i H Q I h
 refine uF (vI (m d s i H _ I h) λv t f=>e2a3 f λx w A B C=>vI (o d t i w _ A C) λu D f=>e2a3 f λy E F G J =>
  vI (l d D i E x y v u _ F B G J) λc P f=>e2a3 f λz L M N j=>e1a2 j λk e O=>?_) q
 subst e;cases N;exact kg #[L,M,O]
def ZD(K:gO)(x:V)(H:Hp)(k:Bool):Prop :=
 match x with
 | .wF=>k=false
 | .bl b=>k=b
 | .int i=>k=(i != 0)
 | .str y=>y.length<=gS/\k=((y.length:Int) != 0)
 | .Mu y=>y.size<=gS/\k=((y.size:Int) != 0)
 | .ref p=>(∃a,wo K H p a/\k=!a.isEmpty)\/(∃a,yZ K H p a/\k=!a.isEmpty)\/∃c,H p=↑(.dK c)/\k=!c.isEmpty
 |_=>False
def Kj(r:KV a b):(!b.isEmpty)=!a.isEmpty:=by
 cases r<;>rfl
def DW(r:Vals b a):(!a.toArray.isEmpty)=!b.isEmpty:=by
 cases r<;>simp
def DX:(gS:Nat)<2 ^ 63:=by rw[iY];decide
def Xx:a1L X (λx H Q=>∃k,ZD X.K x H k/\Q k H):=by
 intro u s C H x v Q I g h;refine e1a2 h λk e q=>?_;have D:gS=16777216:=iY
 cases x with
 |wF =>
  cases g;have a:k=false:=e;subst a;exact truthy_none #[H,I,q]
 |bl b =>
  cases g;have a:k=b:=e;subst a;exact kg #[H,I,q]
 |int i =>
  obtain⟨t,rfl⟩:=g;have a:k=(i != 0):=e;subst a;exact PySem.P.truthy_int #[H,I,q]
 |str y =>
  obtain⟨t,rfl⟩:=g;obtain⟨A,a⟩:y.length<=gS/\k=((y.length:Int) != 0):=e;subst a;exact PySem.P.truthy_str q0a #[H,I.tok _,q]
 |Mu y =>
  obtain⟨t,rfl⟩:=g;obtain⟨A,a⟩:y.size<=gS/\k=((y.size:Int) != 0):=e;subst a;exact PySem.W.truthy_bytes q0a #[H,I.tok _,q]
 |ref p =>
  cases g;have a:(∃f,wo X.K H p f/\k=!f.isEmpty)\/(∃f,yZ X.K H p f/\k=!f.isEmpty)\/∃c,H p=↑(.dK c)/\k=!c.isEmpty:=e;rcases a with⟨f,j,a⟩|⟨f,j,a⟩|⟨c,j,a⟩
  ·subst a;refine e1a3 (I.list j) λn r o z=>?_;have d:=r.length;exact wpAny_truthy_list o.isList (by simp only[hJ];lia) #[H,I.tok _,by rw[DW r];exact q]
  ·subst a;refine e1a3 (I.tuple j) λn r o z=>?_;have d:=r.length;exact truthy_tuple o (by simp only[hJ];lia) #[H,I.tok _,by rw[DW r];exact q]
  ·subst a;obtain⟨z,B,l,r,m⟩:c.length<=gS/\(p==kT)=false/\∃l,KV c l/\s.heap.DictOf (vA X.prog X.w) p l:=I.vK p _ j;have d:c.length=l.length:=Paired.length r;exact wpAny_truthy_dict B m q0a #[H,I.tok _,by rw[Kj r];exact q]
 |_=>exact(show False from e).elim
def IP(f:PE X a g)(i:∀b,qN a X.env b=(do let v <- b;mY a.pos;kO [v] (ur v))) :
  PT X a (λd H Q=>g d H λx e=>∃k,ZD X.K x e k/\Q k e):=by
 intro c s d H Q I h;exact isTrue_plain (vI (f c s d H _ I h) λv j l=>e2a3 l λx m n o p=>Xx c j d m x v Q n o p)<|i _
def vals1(r:Vals [x] a):∃u,a=[u]/\RelV x u:=by
 cases r with
 |cons b c=>cases c;exact#[_,rfl,b]
def vals2(r:Vals [x,y] b):∃u a,b=[u,a]/\RelV x u/\RelV y a:=by
 cases r with
 |cons c d =>
  cases d with
  |cons e f=>cases f;exact#[_,_,rfl,c,e]
structure Kk(h:iM)(x dx C:ci)(mA:Str->Option cr):Prop where
 obj:h.get? x=↑(kD C dx)
 ns:h.Ns1 dx mA
 ne:dx≠x
set_option tactic.hygienic true in
def NN{h:iM}{c:ci}{d:Str->Option cr}(n:h.Ns1 c d):∃f,h.get? c=↑f/\∀name,oW name f=↑(d name):=by
 obtain⟨o,g,r,i,j,k,_,l⟩:=n;refine#[o,i,λname=>?_];have e:=l name;unfold nsFind findBy at e;rw[<- tO]at e;unfold oW;rw[j];dsimp only;split
 ·rename_i y q
  rw[q]at e;exact congrArg some e
 ·rename_i q
  rw[q]at e
  have a:g.toList.any (·.refKey)=false:=by rw[List.any_eq_false];intro y m;obtain⟨z,t,b⟩:=k y<|Array.mem_toList_iff.mp m;simp[DictEntry.refKey,b]
  have p:¬g.toList.any (·.refKey)=true:=by rw[a];exact g9
  rw[gM p];exact congrArg some e
def Kk.look(I:Kk h x b C c):∃a,PySem.W.InstAt h x (kD C b) C ↑a/\∀name,oW name a=↑(c name) :=
 e1a2 (NN I.ns) λa d e =>
 #[a,#[I.obj,rfl,rfl,d],e]
section
variable{prog:iB}{w:iR}{A:jx}{E:cr->gW->Prop}{s:gW}{K:gO}{x dx C f:ci}{mA:Str->Option cr}{name:Str}{v:cr}
def get_map{a:Bool}(X:K.In s.heap)(I:Kk s.heap x dx C mA)(c:mK K C name=true)(d:nP K C=true)
 (e:iv K (.ref C) name=↑none) (g:mA name=↑v) (b:tP v=true) (h:Q v { s with toks:=s.toks+1}) :
    gZ (g8 prog w) A (getAttr (.ref x) name a) Q E s:=by
  refine e1a2 I.look λj J i=>?_
  exact PySem.W.get_value X J (pi c).1 (PySem.W.findObj_own d e rfl<|by rw[i,g]) b h
def Py(X:K.In s.heap)(I:Kk s.heap x dx C mA)(a:mK K C name=true)
 (b:iv K (.ref C) name=↑(some<|.ref f)) (c:oz K (.ref f)=true) (d:mA name=none) (h:Q (.ref f,[.ref x]) s) :
    gZ (g8 prog w) A (mO (.ref x) name i) Q E s:=by
  refine e1a2 I.look λe J g=>?_
  exact PySem.W.method_fn X J (pi a).1 (pi a).2 b (beq_iff_eq.mp c) (by show (oW name e).map (·.isSome)=↑false;rw[g,d];rfl) h
def T5(X:K.In s.heap)(I:Kk s.heap x dx C mA)
 (l:iv K (.ref C) "__setattr__"=↑(some<|.builtin "object.__setattr__")) (m:pZ K C=true) (n:qy K C name=↑none) (o:nP K C=true)
 (hw:sg mA p) (q:p.length<=gS)
 (h:∀e,Kk e x dx C (λy=>if y=name then some v else mA y)->i4 dx s.heap e->Q () { s with heap:=e,toks:=s.toks+2}) :
    gZ (g8 prog w) A (setAttr (.ref x) name v) Q E s:=by
  refine e1a2 I.look λD J F=>?_
  refine PySem.W.set_plain X J l<|PySem.W.osa_open (s:={ s with toks:=s.toks+1}) (r:=none) X J m n λb=>?_
  refine e1a2 (PySem.W.any_some o) λG t g=>?_
  have u:s.heap.get? x=some #[.ref C,↑dx,.plain,#v[]]:=I.obj
  refine am<|ap<|am<|am<|wpAny_loadPart u<|am<|PySem.W.Looks.here (s:={ s with toks:=s.toks+1}) (pq X t) ?_
  rw[g]
  refine ap (a:=↑dx)<|am<|ap<|am ?_
  refine wpAny_nsSet1 (s:={ s with toks:=s.toks+1}) I.ns λe c d=>?_
  obtain⟨H,z,B,i,j,k⟩:=c.count<|PySem.Within.cons name v hw
  refine am<|wpAny_lookBehind i (by rw[j];exact pastItsLine_dict<|iA k<|by rw[ij];lia) ?_
  exact ap<|h _ #[(d.2 _<|Ne.symm I.ne).trans I.obj,c,I.ne] d
def Pz(X:K.In s.heap)(c:qz K C=true)
 (e:iv K (.ref C) "__init__"=↑(some<|.ref f)) (i:oX K (.ref f)=↑(.type "function"))
 (h:mE (g8 prog w) (A.under (.builtin "type.__call__" #[.ref C::a,b])) (.call (.ref f) #[.ref (⇑s+1)::a,b]) (PySem.W.InitBack (⇑s+1) R)
 { s with heap:=(s.heap.push jO).push (kD C ⇑s)}) :
    mE (g8 prog w) A (.call (.ref C) #[a,b]) R s:=by
  obtain⟨j,g,d,t,k⟩:=s
  exact PySem.W.make_core (PySem.W.makes_of X c) (oY X e) (λself=>PySem.W.bind_fn X self i) (.inl rfl) h
end
noncomputable def zY(f:Str)(v:V):List (Str×V)->List (Str×V)
 | []=>[(f,v)]
 | (g,x)::r=>if g=f then (g,v)::r else (g,x)::zY f v r
def IQ(f g:Str)(v:V):∀d:List (Str×V),(zY f v d).lookup g=if g=f then some v else d.lookup g:=by
 intro i
 induction i with
 |nil =>
  show ko g [(f,v)]=_;by_cases h:g=f
  ·have a:(g==f)=true:=beq_iff_eq.mpr h;simp only[ko,a,gN h]
  ·have a:(g==f)=false:=beq_eq_false_iff_ne.mpr h;simp only[ko,a,gM h]
 |cons j r c =>
  obtain⟨k,x⟩:=j;have l:=c;rw[show zY f v ((k,x)::r)=(if k=f then (k,v)::r else (k,x)::zY f v r) from rfl];by_cases b:k=f
  ·rw[gN b];by_cases h:g=k
   ·have a:(g==k)=true:=beq_iff_eq.mpr h;simp only[ko,a,gN<|h.trans b]
   ·have a:(g==k)=false:=beq_eq_false_iff_ne.mpr h;simp only[ko,a,gM (λe:g=f=>h<|e.trans b.symm)]
  ·rw[gM b];by_cases h:g=k
   ·have a:(g==k)=true:=beq_iff_eq.mpr h;simp only[ko,a,gM (λe:g=f=>b<|h.symm.trans e)]
   ·have a:(g==k)=false:=beq_eq_false_iff_ne.mpr h;simp only[ko,a];exact l
def FS(f:Str)(v:V):∀a:List (Str×V),f∈(zY f v a).map (·.1)/\∀g,g∈a.map (·.1)->g∈(zY f v a).map (·.1):=by
 intro d
 induction d with
 |nil=>exact#[by simp[zY],λg h=>by simp at h]
 |cons i r b =>
  obtain⟨k,x⟩:=i;obtain⟨j,l⟩:=b;rw[show zY f v ((k,x)::r)=(if k=f then (k,v)::r else (k,x)::zY f v r) from rfl];by_cases c:k=f
  ·rw[gN c];subst c;exact#[q0o,λg h=>by simpa using h]
  ·rw[gM c];refine#[?_,λg h=>?_]
   ·rw[im];exact gU _ j
   ·rw[im]at h ⊢;rcases List.mem_cons.mp h with e|e
    ·exact List.mem_cons.mpr<|.inl e
    ·exact gU _<|l g e
def C7(f:Str)(v:V):∀a:List (Str×V),(zY f v a).length<=a.length+1
 | []=>by simp[zY]
 | (k,x)::r=>by
  have c:=C7 f v r;rw[show zY f v ((k,x)::r)=(if k=f then (k,v)::r else (k,x)::zY f v r) from rfl];by_cases b:k=f
  ·rw[gN b,ij,ij];lia
  ·rw[gM b,ij,ij];lia
def zk.some_of(r:zk ↑v o):∃u,o=↑u/\RelV v u:=by
 cases o with
 |none=>exact(show False from r).elim
 |some u=>exact#[u,rfl,r]
def zk.none_of(r:zk none o):o=none:=by
 cases o with
 |none=>rfl
 |some u=>exact(show False from r).elim
def NO(r:RelV v u):tP u=true:=by
 cases v with
 |wF=>cases (show u=Value.none from r);rfl
 |bl b=>cases (show u=rf b from r);rfl
 |int i=>obtain⟨t,e⟩:=(show ∃t,u=lN i t from r);cases e;rfl
 |str x=>obtain⟨t,e⟩:=(show ∃t,u=Value.str x t from r);cases e;rfl
 |Mu b=>obtain⟨t,e⟩:=(show ∃t,u=Value.bytes b t from r);cases e;rfl
 |W9 b=>obtain⟨t,e⟩:=(show ∃t,u=sJ b t from r);cases e;rfl
 |ref a=>cases (show u=h8 a from r);rfl
 |ty n=>cases (show u=j4 n from r);rfl
def By(c:xV P w H h)(e:H a=↑(.ins C g fs)):∃b,Kk h a g C b/\(∀f,zk (fs.lookup f)<|b f)/\sg b (fs.map (·.1))/\fs.length<=1000/\H g=↑(.own a):=by obtain⟨d,z,i,j,b,n,r,q⟩:=(show v4 P w H h a (.ins C g fs) from c a _ e);exact#[b,#[j,n,i],r,q,z,d]
structure AW(K:gO)(C:ci):Prop where
 pg:mK K C Str.empty=true
 hd:nP K C=true
 po:pZ K C=true
 sa:iv K (.ref C) "__setattr__"=↑(some<|.builtin "object.__setattr__")
def AW.get{K:gO}{C:ci}(c:AW K C)(f:Str):mK K C f=true:=c.pg
def vR(K:gO)(C:ci)(f:Str):Prop:=iv K (.ref C) f=↑none
def vR.ZE{K:gO}{C:ci}{f:Str}(n:vR K C f):qy K C f=↑none:=by unfold qy;rw[show iv K (.ref C) f=some none from n];rfl
structure Meth(K:gO)(C:ci)(m:Str)(f:ci):Prop where
 at_:iv K (.ref C) m=↑(some<|.ref f)
 fn:oz K (.ref f)=true
 kp:jh K (.ref f)=true
def Kl{b:Bool}(I:Inv X d j H s)(e:H a=↑(.ins C p fs))(c:AW X.K C)(n:vR X.K C f)(l:fs.lookup f=↑v)
 (h:∀u g,Inv X d j H g->RelV v u->Q u g):gZ 23 A (getAttr (.ref a) f b) Q E s:=by
  obtain⟨k,O,r,_,_,_⟩:=By I.vK e
  obtain⟨u,m,i⟩:=zk.some_of (v:=v) (o:=k f) (by rw[<- l];exact r f)
  exact get_map I.yJ O (c.get f) c.hd n m (NO i)<|h u _ (I.tok _) i
def Bi(I:Inv X b i H s)(e:H a=↑(.ins C j fs))(c:AW X.K C)(k:Meth X.K C m g)(l:fs.lookup m=none)
 (h:Q (.ref g,[.ref a]) s):gZ 23 A (mO (.ref a) m n) Q E s:=by
  obtain⟨d,O,r,_,_,_⟩:=By I.vK e
  have f:d m=none:=zk.none_of (by rw[<- l];exact r m)
  exact Py I.yJ O (c.get m) k.at_ k.fn f h
def Km(I:Inv X d t H s)(e:H a=↑(.ins C i fs))(c:AW X.K C)(n:vR X.K C f)(N:fs.length<1000)(v:RelV y u)
 (h:∀k,Inv X d t (upd H a<|.ins C i<|zY f y fs) k->Q () k):gZ 23 A (setAttr (.ref a) f u) Q E s:=by
  obtain⟨l,O,r,m,_,p⟩:=By I.vK e
  have B:(fs.map (·.1)).length<=gS:=by rw[gV,iY];lia
  refine T5 I.yJ O c.sa c.po n.ZE c.hd m B λD j F=>h _ ?_
  have G:∃o,D.get? i=↑o:=e3a2 j.ns λo _ _ J _=> #[o,J]
  refine I.write (x:=a) (e:=i) (by rw[e];exact True.intro) (.inr p) (λb q L z=>(F.2 b L).trans z) G ?_
  refine#[by rw[uR O.ne];exact p,?_,O.ne,j.obj,_,j.ns,λg=>?_,λg M=>?_]
  · have := C7 f y fs; lia
  · show zk ((zY f y fs).lookup g) (if g = f then some u else l g)
    rw[IQ]
    by_cases q:g=f
    · rw[gN q, gN q]; exact v
    · rw[gM q, gM q]; exact r g
  · by_cases q : g = f
    · rw[q]; exact(FS f y fs).1
    · refine(FS f y fs).2 g (m g λz => M ?_)
      show (if g=f then some u else l g)=none
      rw[gM q];exact z
def Inv.made(I:Inv X c g H s):Inv X c g (upd (upd H ⇑s<|.own<|⇑s+1) (⇑s+1)<|.ins C ⇑s [])
  { s with heap:=(s.heap.push jO).push (kD C ⇑s)}:=by
 have d:(s.heap.push jO).get? ⇑s=↑jO:=hI s.heap rfl
 have h:((s.heap.push jO).push<|kD C ⇑s).get? (⇑s+1)=↑(kD C ⇑s):=by
  have:=hI (s.heap.push jO) (o:=kD C ⇑s) rfl
  rwa [jB]at this
 have i:(s.heap.push jO).Ns ⇑s (λ_=>none):=#[jO,#v[],_,d,rfl,(λe j=>hV j q0o),λ_=>rfl];have k:=I.laid (a:=⇑s) (o:=.own<|⇑s+1) (h':=s.heap.push jO) (t':=s.toks) (λb u q=>ce _ q) (gQ _) #[_,d];refine k.laid (a:=⇑s+1) (o:=.ins C ⇑s []) (t':=s.toks) (λb u q=>ce _ q) (qA<|jB _ _) ?_;have f:⇑s≠⇑s+1:=hR<|jw _;refine⟨by rw[uR f,uV],i9 _,f,h,λ_=>none,(sM i).at λo q=>ce _ q,λ_=>True.intro,λy l=>hV rfl l⟩
def T6(d:iG e f a (eval e a)=eval e a)
 (h:gZ (g8 b w) A (eval e a) (λo c=>gZ (g8 b w) A (getAttr o f true) Q E c) E s):gZ (g8 b w) A (eval (.Attribute e f pos) a) Q E s :=
  Attribute_any_ h (by rw[arm_eval_Attribute,d])
def Xy(K:gO)(d:TE)(f:Str):TE:=λe H Q=>d e H λx b=>∃a C g c v,x=.ref a/\b a=↑(.ins C g c)/\AW K C/\vR K C f/\c.lookup f=↑v/\Q v b
def NP(K:gO)(g h:TE)(f:Str):TS:=λD b H=>h b H λy i=>g b i λx d=>∃a C e c,x=.ref a/\d a=↑(.ins C e c)/\AW K C/\vR K C f/\c.length<1000 /\
 D.nx b (upd d a<|.ins C e<|zY f y c)
def ZF(X:Cx)(c:Operator)(d:V->V->Hp->VK->Prop):Prop :=
 ∀(a:List (ci×Obj)) (s:gW) (b:St) (H:Hp) (x y:V) (u v:cr) (Q:VK),Inv X a b H s->RelV x u->RelV y v->d x y H Q->gZ 23 X.A (inplaceOp c u v) (EP X a b Q) X.xe s
def wU(g:PE X e i)(j:iG e f X.env (eval e X.env)=eval e X.env):PE X (.Attribute e f pos) (Xy X.K i f):=by intro b s k H Q I h;refine T6 j<|vI (g b s k H _ I h) λu z m=>e2a3 m λx H1 o p d=>e5a6 d λa C A fs v r t c n l q=>?_;subst r;obtain rfl:u=h8 a:=p;exact Kl o t c n l λB D w y=>#[v,H1,w,y,q]
def Cw(j:PE X o k)(m:PE X value p)(r:jW value (some<|.Attribute o f d) pos.line X.env=pure false):PS X (.Assign [.Attribute o f d] value pos) (NP X.K k p f):=by intro b s g H D I h;refine rD (vI (m b s g H _ I h) λu t i=>e2a3 i λy H1 v w q=>vI (j b t g H1 _ v q) λz L i=>e2a3 i λx H2 A B e=>e4a6 e λa C M fs E F c n l G=>?_) r;subst E;obtain rfl:z=h8 a:=B;exact Km A F c n l w λN J=>#[g,_,J,G]
inductive zp(K:gO)(H:Hp):V->cr->Prop where
 | wF:zp K H .wF (.type "NoneType")
 | bl (x:Bool):zp K H (.bl x) (.type "bool")
 | int (i:Int):zp K H (.int i) (.type "int")
 | str (x:Str):zp K H (.str x) (.type "str")
 | W9 (x:UInt64):zp K H (.W9 x) (.type "float")
 | lst {a:ci} {xs:List V} (e:H a=↑(.lst xs)):zp K H (.ref a) (.type "list")
 | J7 {a:ci} {o:Obj} {xs:List V} (e:H a=↑(.J7 o<|.lst xs)):zp K H (.ref a) (.type "list")
 | tup {a:ci} {xs:List V} (e:H a=↑(.tup xs)):zp K H (.ref a) (.type "tuple")
 | dK {a:ci} {xn:List (Key×V)} (e:H a=↑(.dK xn)):zp K H (.ref a) (.type "dict")
 | dT {a:ci} {xn:List (List Key×V)} (e:H a=↑(.dT xn)):zp K H (.ref a) (.type "dict")
 | ins {a C dx:ci} {fs:List (Str×V)} (e:H a=↑(.ins C dx fs)) (cl:AW K C) (ha:iv K (.ref C) "__class__"=↑(some<|.builtin "object.__class__"))
   (hn:PySem.W.specialIn K (.builtin "object.__class__") "__get__"=↑(some<|.builtin "getset_descriptor.__get__")) (htk:PySem.W.takesIn K (.builtin "object.__class__")=↑true)
   (hm:kX K C (.type "object")=↑true):zp K H (.ref a) (.ref C)
def NQ(I:Inv X r R H s)(d:RelV x u)(B:zp X.K H x t)(e:qQ X.K t c=↑b)(h:∀D,Q (.bool b) { s with toks:=D}) :
  gZ 23 A (call (.builtin "isinstance") [u,c]) Q E s:=by
 cases B with
 |wF=>cases (show u=Value.none from d);exact jG PySem.W.kitx_none I.yJ True.intro e (λz=>nomatch z) h
 |bl y=>cases (show u=rf y from d);exact jG PySem.W.kitx_bool I.yJ True.intro e (λz=>nomatch z) h
 |int i=>obtain⟨t,q⟩:=(show ∃t,u=lN i t from d);cases q;exact jG PySem.W.kitx_int I.yJ True.intro e (λz=>nomatch z) h
 |str y=>obtain⟨t,q⟩:=(show ∃t,u=Value.str y t from d);cases q;exact jG PySem.W.kitx_str I.yJ True.intro e (λz=>nomatch z) h
 |W9 y=>obtain⟨t,q⟩:=(show ∃t,u=sJ y t from d);cases q;exact jG PySem.W.kitx_float I.yJ True.intro e (λz=>nomatch z) h
 | @lst a k f =>
  cases (show u=h8 a from d);obtain⟨_,_,n,_,g⟩:=(show v4 X.prog X.w H s.heap a (.lst k) from I.vK a _ f);exact jG tG I.yJ #[_,g,rfl] e (λz=>nomatch z) h
 | @J7 a F k f =>
  cases (show u=h8 a from d);obtain⟨_,_,_,n,_,g⟩:=(show v4 X.prog X.w H s.heap a (.J7 F<|.lst k) from I.vK a _ f);exact jG tG I.yJ ⟨_,g,rfl⟩ e (λz=>nomatch z) h
 | @tup a k f =>
  cases (show u=h8 a from d);obtain⟨_,_,_,p⟩:=(show v4 X.prog X.w H s.heap a (.tup k) from I.vK a _ f);refine e1a3 p λo g l _=>?_;exact jG PySem.W.kitx_tuple I.yJ #[o,g,l] e (λz=>nomatch z) h
 | @dK a j f =>
  cases (show u=h8 a from d);obtain⟨_,_,S,_,p⟩:=(show v4 X.prog X.w H s.heap a (.dK j) from I.vK a _ f);obtain⟨o,G,L,g,l,_⟩:=p;exact jG tH I.yJ #[o,g,l.1] e (λz=>nomatch z) h
 | @dT a j f =>
  cases (show u=h8 a from d);obtain⟨_,_,k,_,o,G,L,g,l,_⟩:=(show v4 X.prog X.w H s.heap a (.dT j) from I.vK a _ f);exact jG tH I.yJ #[o,g,l.1] e (λz=>nomatch z) h
 | @ins a C T fs f v M N m P =>
  cases (show u=h8 a from d);refine e1a2 (By I.vK f) λU O _=>?_;refine e1a2 O.look λY J _=>?_;exact jG (PySem.W.kitx_own (v.get _) v.hd M N m P) I.yJ J e (λz=>nomatch z) h
structure ww(k:Nat)(A:jx):Prop where
 hd:A.handled=none
 dp:A.depth+3*k+5<sN
 un:A.units+16*k+200<kG
def ww.mono{j k:Nat}(r:ww k A)(h:j<=k):ww j A:=#[r.hd,by have:=r.dp;lia,by have:=r.un;lia]
def ww.deeper{k:Nat}(r:ww (k+1) A)(a:Env):ww k (A.deeper a) :=
 #[r.hd,by have:=r.dp;show A.depth+1+3*k+5<_;lia,by have:=r.un;show A.units+3+16*k+200<_;lia]
def Ko{A:jx}{C:ci}{a:List cr}{b:List (Str×cr)}:(A.under<|.builtin "type.__call__" #[.ref C::a,b]).depth=A.depth+1:=by
 first|rfl|simp[rT,Code.weight,Code.isCreation,Code.isGuard,Code.isCaller,Code.frames,sC,guardIds]
def Kq{A:jx}{C:ci}{a:List cr}{b:List (Str×cr)}:(A.under<|.builtin "type.__call__" #[.ref C::a,b]).units=A.units+1:=by
 first|rfl|simp[rT,Code.cUnits,Code.frames,sC]
def ww.make{k:Nat}(r:ww (k+1) A)(C:ci)(a:List cr)(b:List (Str×cr)):ww k (A.under<|.builtin "type.__call__" #[.ref C::a,b]) :=
 #[r.hd,by have:=r.dp;rw[Ko];lia,by have:=r.un;rw[Kq];lia]
def ww.depth{k:Nat}(r:ww k A):A.depth<sN:=by have:=r.dp;lia
def ww.units{k:Nat}(r:ww k A):A.units+64<kG:=by have:=r.un;lia
def Bj:TA:=λ_ H Q=>Q [] H
def A1(b:TE)(c:TA):TA:=λa H Q=>b a H λx d=>c a d λe f=>Q (x::e) f
def vk:PA X [] Bj:=λ_ _ _ _ H Q I h=>lm #[[],H,I,.nil,h]
def uZ(g:PE X e i)(j:PA X b t)(k:gP (e::b) X.env=(false,eval e X.env)::gP b X.env:=by rfl):PA X (e::b) (A1 i t):=by intro c a s f H Q I h;rw[k];refine jX<|vI (g a s f H _ I h) λu l d=>e2a3 d λx m n o p=>?_;exact vI (j c a l f m _ n p) λz A d=>e2a3 d λq r v w y=>#[x::q,r,v,.cons o w,y]
def a1O(t:TA):TE:=λc H Q=>t c H λa b=>a.length<=gS/\∀p,b p=none->Q (.ref p) (upd b p<|.tup a)
def a1P(t:TA):TE:=λc H Q=>t c H λa b=>a.length<=gS/\∀p,b p=none->Q (.ref p) (upd b p<|.lst a)
def PB{g}(h:PA X i t):PE X (.Tuple i g pos) (a1O t):=by intro a s j H Q I k;refine wpAny_Tuple_spliced<|vI (h pos a s j H _ I k) λl c m=>e2a4 m λn d f r z q=>#[by rw[<- r.length];exact z,?_];have o:d ⇑c=none:=f.vK.fresh<|gQ _;refine⟨.ref ⇑c,upd d ⇑c<|.tup n,f.laid (t':=c.toks) (λb u e=>ce _ e) (gQ _) ?_,rfl,q _ o⟩;exact#[z,l,r,#[_,hI _ rfl,rfl,_,rfl]]
def PD(h:PA X g t):PE X (.List g pos) (a1P t):=by intro a s i H Q I j;refine wpAny_List_spliced<|vI (h pos a s i H _ I j) λk c l=>e2a4 l λm d f r z q=>#[by rw[<- r.length];exact z,?_];have n:d ⇑c=none:=f.vK.fresh<|gQ _;refine⟨.ref ⇑c,upd d ⇑c<|.lst m,f.laid (t':=c.toks) (λb u e=>ce _ e) (gQ _) ?_,rfl,q _ n⟩;exact#[z,k,0,r,hI _ rfl]
abbrev Sp:=List V->Hp->VK->XK->Prop
abbrev PF:=List Env->Hp->gW->XK->cr->gW->Prop
structure IR(P:iB)(w:iR)(K:gO)(mg:Str->Option cr)(base:iM)(A:jx)(outer:List Env)(s:gW)(H:Hp):Prop where
 frames:A.frames=↑outer
 mod:Mod K mg base
 bs:∀b o,base.get? b=↑o->s.heap.get? b=↑o/\H b=none
 IH:base.objs.size<=⇑s
 yE:s.heap.FunFrames base outer
 J1:∀b∈zi outer,H b=none
 vK:xV P w H s.heap
 bare:nE s.gens
def CE(a:List Env)(P:iB)(w:iR)(H:Hp)(s:gW)(Q:VK)(u:cr)(b:gW):Prop :=
 ∃v c,b.os=s.os/\nE b.gens/\Un (zi a) [] H c s.heap b.heap/\xV P w c b.heap/\RelV v u/\Q v c
def CR(c:PF)(a:List Env)(P:iB)(w:iR)(H:Hp)(s:gW)(Q:VK)(E:XK)(r:Result)(b:gW):Prop :=
 match r with
 | .ok (.ret u)=>CE a P w H s Q u b
 | .ok _=>False
 | .error e=>c a H s E e b
structure vD(P:iB)(w:iR)(K:gO)(mg:Str->Option cr)(base:iM)(CX:PF)(k:Nat)(f:ci)(fd:iH)(ps:List Str)(sp:Sp):Prop where
 len:∀vs H Q E,sp vs H Q E->vs.length=ps.length
 run:∀(A:jx)(outer:List Env)(s:gW)(H:Hp)(args:Args)(us:List cr)(vs:List V)(Q:VK)(E:XK),ww k A->IR P w K mg base A outer s H->sD s fd args (ps.zip us)->Vals vs us->sp vs H Q E ->
  mE (g8 P w) A (.call (.ref f) args) (CR CX outer P w H s Q E) s
def vD.mono{P:iB}{w:iR}{K:gO}{c:Str->Option cr}{a:iM}{d:PF}{j k:Nat}{f:ci}{e:iH}{g:List Str}{i:Sp}(F:vD P w K c a d j f e g i)(h:j<=k) :
  vD P w K c a d k f e g i:=#[F.len,λA b s H args l m Q E n=>F.run A b s H args l m Q E<|n.mono h]
def vD.imp{P:iB}{w:iR}{K:gO}{e:Str->Option cr}{a:iM}{g:PF}{k:Nat}{f:ci}{i:iH}{j:List Str}{l d:Sp}(F:vD P w K e a g k f i j l)
  (h:∀c H Q E,d c H Q E->l c H Q E):vD P w K e a g k f i j d :=
 #[λc H Q E q=>F.len c H Q E<|h _ _ _ _ q,λA b s H args m c Q E n o p r t=>F.run A b s H args m c Q E n o p r<|h _ _ _ _ t]
def IR.make{P:iB}{w:iR}{K:gO}{c:Str->Option cr}{b:iM}{A:jx}{a:List Env}{s:gW}{H:Hp}(e:IR P w K c b A a s H)(C:ci)(d:List cr)(f:List (Str×cr)) :
  IR P w K c b (A.under<|.builtin "type.__call__" #[.ref C::d,f]) a s H:=#[by first|exact e.frames|(simpa[rT,Code.envs,sC,pushEnvs] using e.frames),e.mod,e.bs,e.IH,e.yE,e.J1,e.vK,e.bare]
def Inv.IS(I:Inv X a b H s):IR X.prog X.w X.K X.mg X.base X.A X.stack s H :=
 #[I.ok.frames,I.ok.mod,I.bs,iA I.ok.IH I.sz,I.stack,I.Mv,I.vK,I.bare]
def Inv.after(I:Inv X a j H s)(h:CE X.stack X.prog X.w H s Q u i):EP X a j Q u i:=by obtain⟨v,k,l,c,m,e,r,q⟩:=h;obtain⟨n,g,d,t,f⟩:=i;obtain rfl:f=s.os:=l;exact#[v,k,I.call (h':=n) (g':=g) (d':=d) (t':=t) (ch:=[]) m e c<|λb z=>hV z q0o,r,q]
def ZG(b:Sp)(a:List V)(E:XK)(t:TA):TE:=λc H Q=>t c H λd e=>b (d++a) e Q E
def FT(C:ci)(m:Str)(f:Sp)(b:List V)(E:XK)(g:TE)(t:TA):TE:=λc H Q=>g c H λx d=>∃a h e,x=.ref a/\d a=↑(.ins C h e)/\e.lookup m=none /\
 t c d λi j=>f (x::(i++b)) j Q E
def ZH(C:ci)(d:Sp)(b:List V)(E:XK)(t:TA):TE:=λe H Q=>t e H λf c=>∀x a,c x=none->c a=none->a≠x ->
 d (.ref x::(f++b)) (upd (upd c a<|.own x) x<|.ins C a []) (λv g=>v=.wF/\Q (.ref x) g) E
def Binds(K:gO)(d:iH)(b:List Str)(c:List cr):Prop :=
 ∀(s:gW)(a:List cr),K.In s.heap->(a++c).length=b.length->sD s d #[a,[]] (b.zip<|a++c)
def Binds.all{K:gO}{b:List Str}(h:∀a:List cr,a.length=b.length->sO d #[a,[]]=pure (b.zip a)):Binds K d b []:=λs a _ c=>by rw[kH]at c ⊢;exact .of_eq<|h a c
def Passes(c:PF)(X:Cx)(E:XK):Prop:=∀(a:List (ci×Obj)) (d:St) (H:Hp) (s:gW) (e:cr) (b:gW),Inv X a d H s->c X.stack H s E e b->X.xe e b
def Ks(F:vD X.prog X.w X.K X.mg X.base l k f m g n)(o:ww k X.A)(p:Binds X.K m g d)(q:Vals b d)(t:Passes l X E)
 (I:Inv X a i H s)(r:Vals vs us)(h:n (vs++b) H Q E):gZ 23 X.A (call (.ref f) us) (EP X a i Q) X.xe s:=by
  have j:Vals (vs++b) (us++d):=r.append q
  have v:(us++d).length=g.length:=by rw[<- j.length];exact F.len _ _ _ _ h
  refine mM<|jT (F.run X.A X.stack s H ⟨us,[]⟩ (us++d) (vs++b) Q E o I.IS (p s us I.yJ v) j h) λr x c=>?_
  cases r with
  |error e=>exact t a i H s e x I c
  |ok fl =>
    cases fl with
    |ret u=>exact I.after c
    |next=>exact iC c
    |brk=>exact iC c
    |cont=>exact iC c
def T7(F:vD X.prog X.w X.K X.mg X.base j k f l m n)(o:ww k X.A)(u:Gl X x)(v:X.mg x=↑(.ref f))(y:jh X.K (.ref f)=true)(z:Binds X.K l m B)(C:Vals c B)(D:Passes j X E)
 (G:PA X (e::b) t) (d:(x==("__debug__":Str))=false:=by decide) (J:gP (e::b) X.env=(false,eval e X.env)::gP b X.env:=by rfl) (g:(jm pos<|gP b X.env).any (·.1)=false:=by rfl) :
    PE X (.Call (.Name x p) (e::b) [] pos) (ZG n c E t):=by
  intro a s L H Q I h
  refine kI<|zm I u v ?_ d
  refine pM (h₀:=X.base) I.ok.mod.Bv y (vI (G pos a s L H _ I h) λN O M=>e2a3 M λP R i r q=>#[i.yJ,?_]) J g
  exact Ks F o z C D i r q
def T8{v:Sem Bool}(J:PE X o L)(c:AW X.K C)(y:Meth X.K C m f)(F:vD X.prog X.w X.K X.mg X.base M k f N O P)(R:ww k X.A)(S:Binds X.K N O T)(hd:Vals i T)(U:Passes M X E)(Y:PA X (e::d) t)
  (j:gP (e::d) X.env=(false,eval e X.env)::gP d X.env:=by rfl) (n:(jm pos<|gP d X.env).any (·.1)=false:=by rfl)
  (ht:eval (.Call (.Attribute o m apos) (e::d) [] pos) X.env=(do
   let z <- eval o X.env
   mY apos.atName
   let (f,first) <- kO [z] (mO z m v)
   nJ pos f first (jm pos (gP (e::d) X.env)) (mZ pos (kP [] X.env))):=by rfl) :
  PE X (.Call (.Attribute o m apos) (e::d) [] pos) (FT C m P i E L t):=by
 intro b s B H Q I h;refine oK (pl:=v) (vI (J b s B H _ I h) λu Z p=>e2a3 p λx H1 D rx g=>e3a4 g λa dx fs ex ea l q=>?_) ht;subst ex;obtain rfl:u=h8 a:=rx;refine Bi D ea c y l ?_;refine pM (first:=[.ref a]) (h₀:=X.base) I.ok.mod.Bv y.kp (vI (Y pos b Z B H1 _ D q) λus s2 p=>e2a3 p λvs H2 G r q2=>#[G.yJ,?_]) j n
 exact Ks (us:=.ref a::us) (vs:=.ref a::vs) F R S hd U G (.cons rfl r) q2
def PH(n:PE X o p)(c:AW X.K C)(i:Meth X.K C m f)(F:vD X.prog X.w X.K X.mg X.base r k f t v y)(z:ww k X.A)(B:Binds X.K t v D)(hd:Vals e D)(G:Passes r X E)
 (ht:eval (.Call (.Attribute o m apos) [] [] pos) X.env=(do
 let j <- eval o X.env
 mY apos.atName
 let (f,first) <- kO [j] (mO j m J)
 nJ pos f first (jm pos (gP [] X.env)) (mZ pos (kP [] X.env))):=by rfl) :
    PE X (.Call (.Attribute o m apos) [] [] pos) (FT C m y e E p Bj):=by
  intro b s L H Q I h
  refine oK (pl:=J) (vI (n b s L H _ I h) λu R M=>e2a3 M λx H1 g N d=>e3a4 d λa S fs O P l q=>?_) ht
  subst O
  obtain rfl:u=h8 a:=N
  refine Bi g P c i l ?_
  exact sE (first:=[.ref a]) g.yJ i.kp<|Ks (us:=[.ref a]) (vs:=[.ref a]) F z B hd G g (.cons rfl .nil) q
structure Mk(K:gO)(C f:ci):Prop where
 makes:qz K C=true
 init:iv K (.ref C) "__init__"=↑(some<|.ref f)
 fn:oz K (.ref f)=true
 kp:jh K (.ref C)=true
def PJ(M:Mk X.K C f)(F:vD X.prog X.w X.K X.mg X.base p k f q j t)(y:ww (k+1) X.A)(z:Binds X.K q j d)(B:Vals c d)
 (D:Passes p X E) (I:Inv X b l H s) (r:Vals m us)
 (h:∀x g,H x=none->H g=none->g≠x->t (.ref x::(m++c)) (upd (upd H g<|.own x) x<|.ins C g []) (λv G=>v=.wF/\Q (.ref x) G) E) :
    gZ 23 X.A (call (.ref C) us) (EP X b l Q) X.xe s:=by
  have n:=h (⇑s+1) ⇑s (I.vK.fresh<|lP _) (I.vK.fresh<|gQ _)<|hR<|jw _
  have i:=Inv.made (C:=C) I
  have o:Vals (V.ref (⇑s+1)::(m++c)) (h8 (⇑s+1)::(us++d)):=.cons rfl<|r.append B
  have J:(h8 (⇑s+1)::us++d).length=j.length:=by
    have e:=o.length
    rw[F.len _ _ _ _ n]at e
    exact e.symm
  refine mM (Pz (f:=f) I.yJ M.makes M.init (beq_iff_eq.mp M.fn) (jT (F.run _ X.stack _ _ #[h8 (⇑s+1)::us,[]] (h8 (⇑s+1)::(us++d)) _ _ E (y.make C us [])
    (i.IS.make C us []) (z _ (h8 (⇑s+1)::us) i.yJ J) o n) λr L a=>?_))
  cases r with
  |error e=>exact D b l _ _ e L i a
  |ok fl =>
    cases fl with
    |ret u =>
      refine e2a4 (i.after a) λv N O P R S=>?_
      subst R
      exact#[P,#[V.ref<|⇑s+1,N,O,rfl,S]]
    |next=>exact iC a
    |brk=>exact iC a
    |cont=>exact iC a
def PL(M:Mk X.K C f)(F:vD X.prog X.w X.K X.mg X.base d k f e g i)(j:ww (k+1) X.A)(l:Gl X x)(m:X.mg x=↑(.ref C))(n:Binds X.K e g o)(q:Vals a o)(r:Passes d X E)
 (b:(x==("__debug__":Str))=false:=by decide):PE X (.Call (.Name x p) [] [] pos) (ZH C i a E Bj):=by
  intro c s t H Q I h
  refine kI<|zm I l m ?_ b
  exact sE I.yJ M.kp<|PJ (us:=[]) M F j n q r I .nil h
def PK(X:Cx)(b:List pN)(t:TA):Prop :=
 ∀(c:Pos) (a:List (ci×Obj)) (s:gW) (d:St) (H:Hp) (Q:List V->Hp->Prop),Inv X a d H s->t d H Q->gZ 23 X.A (evalAll ((mZ c<|kP b X.env).map (·.2))) (AP X a d Q) X.xe s
structure uY(N P:List Str)(sc:l9):Prop where
 kind:sc.kind=.function
 co:sc.isCoroutine=false
 gen:sc.isGenerator=false
 nd:N.Nodup
 pre:N.take P.length=P
 par:∀x∈P,sc.names.lookup x=some .local\/sc.names.lookup x=some .cell
 Xz:∀y∈sc.names,y.2≠.free
def FU{b:Str->Option NameKind}:∀{a:List (Str×cr)} {m:Str->Option cr},(∀v,(x,v)∉a)->bindL b a m x=m x
 | [],_,_=>rfl
 | (n,v)::r,m,h=>by
  unfold bindL;rw[FU λw c=>h w<|gU _ c];split
  ·have:x≠n:=by rintro rfl;exact h v gR
   simp[this]
  ·rfl
def FV{b:Str->Option NameKind}:∀{a:List (Str×cr)} {m:Str->Option cr},(∀v,(x,v)∉a)->bindC b a m x=m x
 | [],_,_=>rfl
 | (n,v)::r,m,h=>by
  unfold bindC;rw[FV λw c=>h w<|gU _ c];split
  ·rfl
  ·have:x≠n:=by rintro rfl;exact h v gR
   simp[this]
def NR{a:Str->Option NameKind}:∀{P:List Str} {b:List cr} {i:Nat} {m:Str->Option cr},P.Nodup->P[i]?=↑x->b[i]?=↑v->a x=some .local ->
  bindL a (P.zip b) m x=↑v:=by
 intro P
 induction P with
 |nil=>intro _ _ _ _ h;simp at h
 |cons p P g =>
  intro b i m e d c f
  cases b with
  |nil=>simp at c
  |cons w b =>
  cases i with
  |zero =>
   simp at d c;subst d;subst c;show bindL a ((p,w)::P.zip b) m p=_;unfold bindL;rw[FU λv j=>(List.nodup_cons.mp e).1 (oZ j).1,gN f];simp
  |succ i =>
   exact g (i:=i) (List.nodup_cons.mp e).2 (by simpa using d) (by simpa using c) f
def NS{a:Str->Option NameKind}:∀{P:List Str} {b:List cr} {i:Nat} {m:Str->Option cr},P.Nodup->P[i]?=↑x->b[i]?=↑v->a x≠some .local ->
  bindC a (P.zip b) m x=↑v:=by
 intro P
 induction P with
 |nil=>intro _ _ _ _ h;simp at h
 |cons p P g =>
  intro b i m e d c f
  cases b with
  |nil=>simp at c
  |cons w b =>
  cases i with
  |zero =>
   simp at d c;subst d;subst c;show bindC a ((p,w)::P.zip b) m p=_;unfold bindC;rw[FV λv j=>(List.nodup_cons.mp e).1 (oZ j).1,gM f];simp
  |succ i =>
   exact g (i:=i) (List.nodup_cons.mp e).2 (by simpa using d) (by simpa using c) f
noncomputable def start(N:List Str)(a:List V):St:=a.map some++kR (N.length-a.length) none
noncomputable def vP(CX:PF)(P:iB)(w:iR)(K:gO)(mg:Str->Option cr)(base:iM)(N:List Str)(qual:Str)(scope:l9)(f:ci)(cd:cr)(A:jx)(outer:List Env)(s:gW)(H:Hp)(E:XK):Cx where
 prog:=P
 w:=w
 K:=K
 mg:=mg
 base:=base
 A:=A.deeper<|oJ qual scope ⇑s f cd
 N:=N
 s₀:=s
 H₀:=H
 env:=oJ qual scope ⇑s f cd
 outer:=outer
 stack:=oJ qual scope ⇑s f cd::outer
 ex:=[]
 calm:=true
 fn:=λ_=>true
 pn:=[]
 xe:=λe s'=>gZ (g8 P w) (A.deeper<|oJ qual scope ⇑s f cd) (ut (oJ qual scope ⇑s f cd) e) (λ_ T9=>CX outer H s E e T9) (λe' T9=>CX outer H s E e' T9) s'
def IT{a:l9}{n:Nat}(h:a.names.lookup x=some .cell):∃c,(cellsFrom n a.names []).lookup x=↑c:=by have q:=rM a.names n []<|.inl h;exact Option.isSome_iff_exists.mp q
def NT{K:gO}{A:jx}{o:List V}
 (S:uY N C d) (R:A.handled=none) (m:IR P w K L base A j s H) (hl:o.length=C.length) (r:Vals o M)
 (x:InCallC s ⇑s (bindL (oJ l d ⇑s f J).kindOf (C.zip M) λ_=>none) (cellsFrom (⇑s+1) d.names []) (bindC (oJ l d ⇑s f J).kindOf (C.zip M) λ_=>none) T) :
    Inv (vP U P w K L base N l d f J A j s H E) [] (start N o) H T:=by
  have X:C.length<=N.length:=by have:=congrArg oi S.pre;rw[lR]at this;lia
  obtain⟨G,tk,rfl,O⟩:=x.done
  have t:∀b:ci,b∉(vP U P w K L base N l d f J A j s H E).ex:=λb z=>hV (show b∈([]:List ci) from z) q0o
  refine#[#[m.mod,S.kind,rfl,rfl,gQ _,λy z c G g=>?_,λy B=>?_,λy c _ h=>?_,λ_=>R,sF m.frames,.inr #[rfl,rfl],λb z=>hV z (t b),m.bs,m.IH,λb _ _=>t b,λb z=>hV z (t b),m.yE,m.J1],
    rfl,m.bare,Un.kept O,#[_,x.toInCall.ns,λi y v G g h3=>?_],λy c h=>#[_,x.cell y c h],m.vK.fresh (gQ _),λy c h=>?_,λp D=>hV (show p∈([]:List (ci×Obj)) from D) q0o,m.vK.kept O,?_]
  · exact name_of_addr x.apart (j9 G)<|j9 g
  · have B : d.names.lookup y = some .cell \/ d.names.lookup y = some .free := B
    rcases B with B|B
    · exact IT B
    · exact hV rfl<|S.Xz _<|j9 B
  · exact lU<|x.above y c<|j9 h
  · have I : i<o.length := by
      unfold start at g
      by_cases I:i<o.length
      · exact I
      · rw[jR<|by simpa using I]at g
        rw[sr]at g
        split at g<;>cases g
    have Y:o[i]?=↑v:=by
      unfold start at g
      rw[lV (by simpa using I),jE]at g
      cases e:o[i]? with
      |none=>rw[e]at g;cases g
      |some a=>rw[e]at g;cases g;rfl
    refine e1a2 (r.get Y) λu Q Z=>?_
    have D:C[i]?=↑y:=by
      rw[<- S.pre,rV q0a];exact G
    have F:C.Nodup:=by rw[<- S.pre];exact S.nd.sublist<|uu _ _
    refine#[u,Z,?_]
    rcases S.par y (jK D) with k|k
    · exact .inl #[k, NR F D Q k]
    · obtain⟨c, e⟩ := IT (n := ⇑s+1) k
      refine .inr #[.inl k,c,e,?_]
      have q:=x.cell y c e
      rw[NS F D Q<|by show d.names.lookup y≠_;rw[k];decide]at q
      exact q
  · exact m.vK.fresh<|lU<|x.above y c<|j9 h
  · unfold start
    show _=N.length
    rw[hO,gV,sP]
    lia
def IU{K:gO}{k:Nat}{Z:cr} 
 (lk:K.lookup f=some #[oc,od,.func<|jC name d h body a dV Z G pm an g ct,aa]) (L:jt K g d=true) (S:uY N M a)
 (B:∀i H Q E,sp i H Q E->i.length=M.length)
 (m:∀(A:jx)(c:List Env)(s:gW)(H:Hp)(i:List V)(Q:VK)(E:XK),ww k (A.deeper (oJ d a ⇑s f g))->sp i H Q E ->
 ∃t,Ft (vP O P w K R base N d a f g A c s H E) body t/\t { nx:=λ_ l=>Q .wF l,rt:=Q} (start N i) H) :
    vD P w K R base O (k+1) f (jC name d h body a dV Z G pm an g ct) M sp:=by
  refine#[B,λA c s H args us i Q E T C hb r D=>?_]
  have hl:=B _ _ _ _ D
  have KX:K.In s.heap:=C.mod.Bv.keeps λb o e=>(C.bs b o e).1
  have U:s.heap.NoLimit:=C.mod.nolimit.keeps λb o e=>(C.bs b o e).1
  have p:∀y∈M.zip us,a.names.lookup y.1=some .local\/(a.names.lookup y.1=some .cell/\((cellsFrom (⇑s+1) a.names []).lookup y.1).isSome=true):=λ⟨n,v⟩ hy=>by
    rcases S.par n (oZ hy).1 with q|q
    · exact .inl q
    · exact .inr #[q, rM _ _ _<|.inl q]
  refine codeAny_call_function T.depth (KX _ _ lk) rfl S.co S.gen rfl (sQ KX L)<|hb _ _ _ _ ?_
  refine wpAny_newFunctionEnv_cells S.kind p λab he s1 x=>?_
  subst he
  refine#[U.keeps x.toInCall.keep,codeAny_func ?_]
  refine e1a2 (m A c s H i Q E (T.deeper _) D) λt ht hq=>?_
  have I:Inv (vP O P w K R base N d a f g A c s H E) [] (start N i) H s1:=NT S T.hd C hl r x
  refine jb (ht [] s1 (start N i) H _ I hq) (λfl X z=>?_) λe X z=>z
  have F:∀{j:St} {l:Hp} {v:V} {u:cr},Inv (vP O P w K R base N d a f g A c s H E) [] j l X->RelV v u->Q v l->CE c P w H s Q u X :=
    λ{j l v u} J Y q=>#[v,l,J.os,J.bare,J.base,J.vK,Y,q]
  cases fl with
  |ret u =>
    obtain⟨v,j,l,J,Y,q⟩:=z
    exact F J Y q
  |next =>
    refine e2a2 z λj l J q=>?_
    exact F (v:=V.wF) (u:=Value.none) J rfl q
  |brk =>
    refine e2a2 z λ_ _ _ q=>?_
    exact iC q
  |cont =>
    refine e2a2 z λ_ _ _ q=>?_
    exact iC q
section
variable{X:Cx}{x:Str}{p pos:Pos}{e:iL}{es:List iL}{t:TA}{id T:String}{r:List V->Hp->VK->Prop}
def tCB(r:List V->Hp->VK->Prop)(t:TA):TE:=λa H Q=>t a H λb c=>r b c Q
def wJ(d:yM X (.builtin id) r)(f:Gl X x)(g:X.mg x=none)(i:mX x=↑(.builtin id))(j:PA X (e::es) t)(k:x≠"__name__":=by decide)(b:(x==("__debug__":Str))=false:=by decide)
 (he:gP (e::es) X.env=(false,eval e X.env)::gP es X.env:=by rfl) (hpl:(jm pos<|gP es X.env).any (·.1)=false:=by rfl):PE X (.Call (.Name x p) (e::es) [] pos) (tCB r t):=by
  intro a s c H Q I h
  refine kI<|zn I f g i ?_ k b
  exact pH (vI (j pos a s c H _ I h) λl m n=>e2a3 n λo q u v w=>d a m c q o l Q u v w) he hpl
def xF(f:yM X (.type T) r)(g:Gl X x)(i:X.mg x=none)(j:mX x=↑(.type T))(k:PA X (e::es) t)(l:x≠"__name__":=by decide)(b:(x==("__debug__":Str))=false:=by decide)
 (he:gP (e::es) X.env=(false,eval e X.env)::gP es X.env:=by rfl) (c:(jm pos<|gP es X.env).any (·.1)=false:=by rfl):PE X (.Call (.Name x p) (e::es) [] pos) (tCB r t):=by
  intro a s d H Q I h
  refine kI<|zn I g i j ?_ l b
  exact jZ (vI (k pos a s d H _ I h) λm n o=>e2a3 o λq u v w y=>f a n d u q m Q v w y) he c
def Kt(c:yM X (.type T) r)(d:Gl X x)(f:X.mg x=none)(g:mX x=↑(.type T))(i:x≠"__name__":=by decide)(b:(x==("__debug__":Str))=false:=by decide) :
  PE X (.Call (.Name x p) [] [] pos) (tCB r Bj):=by
 intro a s j H Q I h;refine kI<|zn I d f g ?_ i b;exact PyProof.Rows.callWith_type0<|c a s j H [] [] Q I .nil h
end
end L2
namespace HT
open PySem PyProof.Rows
noncomputable def w4(n d:Nat):Option Int->Nat
 |none=>d
 |some v=>if v<0 then (v+(n:Int)).toNat else min v.toNat n
def IV(n d:Nat):w4 n d none=d:=rfl
def MC(n d k:Nat):w4 n d ↑(k:Int)=min k n:=by show (if (k:Int)<0 then ((k:Int)+(n:Int)).toNat else min (k:Int).toNat n)=min k n;rw[gM q0a,lF]
def a1R(n d:Nat)(b:d<=n)(o:Option Int):w4 n d o<=n:=by
 cases o with
 |none=>exact b
 |some v =>
  show (if v<0 then (v+(n:Int)).toNat else min v.toNat n)<=n;by_cases a:v<0
  ·rw[gN a];lia
  ·rw[gM a];exact Nat.min_le_right _ _
def MD(v:Int)(n d:Nat):(if v<0 then max (v+(n:Int)) 0 else min v (n:Int))=((w4 n d ↑v:Nat):Int):=by
 show (if v<0 then max (v+(n:Int)) 0 else min v (n:Int))=(((if v<0 then (v+(n:Int)).toNat else min v.toNat n):Nat):Int);by_cases a:v<0
 ·simp only[gN a];lia
 ·simp only[gM a];lia
def Ku(lo a:Option Int)(n:Nat):qe lo a 1 (n:Int)=(((w4 n 0 lo:Nat):Int),((w4 n n a:Nat):Int)):=by
 refine Prod.ext ?_ ?_
 ·cases lo with
  |none=>rfl
  |some v=>exact MD v n 0
 ·cases a with
  |none=>rfl
  |some v=>exact MD v n n
def Kv(i j:Nat):lh (i:Int) (j:Int) 1=j-i:=by unfold lh;split<;>lia
def DY(p:qg v o)(h:Q o s):gZ (g8 a w) A (Builtin.Slice.slicePartIndex v) Q E s:=by
 cases p with
 |none=>exact slicePart_none h
 |int i t=>exact slicePart_int h
def y8{lo:Option Int}{n:Nat}(g:s.heap.IsSliceOf sl d e .none)(i:qg d lo)(j:qg e c)
 (h:Q (((w4 n 0 lo:Nat):Int),1,w4 n n c-w4 n 0 lo) s):gZ (g8 f w) A (Builtin.Slice.sliceApplied (.ref sl)<|pure (n:Int)) Q E s:=by
  refine e1a3 (id g) λos a k b=>?_
  refine am<|am<|jc a b (x:=d) rfl<|am<|jc a b (x:=e) rfl<|am<|jc a b (x:=.none) rfl<|ap ?_
  refine am<|slicePart_none ?_
  rw[gM q0q]
  refine am<|DY i<|am<|DY j<|am<|ap ?_
  show gZ _ _ (match qe lo c 1 (n:Int) with|(lo,c)=>pure (lo,(1:Int),lh lo c 1)) _ _ s
  rw[Ku lo c n]
  show gZ _ _ (pure (((w4 n 0 lo:Nat):Int),(1:Int),lh ((w4 n 0 lo:Nat):Int) ((w4 n n c:Nat):Int) 1)) _ _ s
  rw[Kv]
  exact ap h
def PM(a:Array cr)(i k:Nat):((ik k).filterMap λ(m:Nat)=>a[((i:Int)+(m:Int)*1).toNat]?).toArray=((a.toList.drop i).take k).toArray:=by
 have e:(λ(m:Nat)=>a[((i:Int)+(m:Int)*1).toNat]?)=λm=>a[i+m]?:=by
  funext m
  have:((i:Int)+(m:Int)*1).toNat=i+m:=by lia
  rw[this]
 rw[e];have:=pick_run a i k;rw[tZ]at this;have b:((λx=>a[x]?)∘λx=>i+x)=λm=>a[i+m]?:=rfl;rw[b]at this;rw[this]
def BA{t sl:ci}{items:Array cr}{vl vu:cr}{lo hi:Option Int}{Q:cr->gW->Prop}(ht:IsTup s.heap t items)(hs:s.heap.IsSliceOf sl vl vu .none)(pl:qg vl lo)(pu:qg vu hi)
  (hw:¬(w4 items.size 0 lo=0/\w4 items.size items.size hi=items.size))
  (h:Q (.ref ⇑s) { s with heap:=s.heap.push { cls:=.type "tuple",data:=.seq ((items.toList.drop<|w4 items.size 0 lo).take<|w4 items.size items.size hi-w4 items.size 0 lo).toArray}})
  (hsz:items.size<=gS):gZ (g8 prog w) A (oh (.ref t)<|.ref sl) Q E s:=by
 have ME:sizeOk (.seq ((items.toList.drop<|w4 items.size 0 lo).take<|w4 items.size items.size hi-w4 items.size 0 lo).toArray):=by show ((items.toList.drop<|w4 items.size 0 lo).take<|w4 items.size items.size hi-w4 items.size 0 lo).toArray.size<=gS;rw[hJ,lR,mV,gY];omega
 refine e1a3 (id hs) λos hos hcs hds=>?_;have hTs:s.TypeIs (.ref sl) "slice":=#[os,hos,hcs];unfold oh
 try with_reducible refine iD ?_
 first|refine am (ap ?_)|skip
 refine am<|wpAny_sequenceKey ht.typeIs q0q ?_
 refine am (wpAny_callSpecial?_slot (name:=lW "__getitem__") ht.typeIs kA
  (iT kA ht.typeIs entry_tuple_getitem ?_ (args_tuple_getitem _ _)))
 show gZ _ _ (qa (.ref t) >>= _) _ _ s;refine am<|tupleItemsOf_ ht ?_;refine am<|kQ hTs ?_;rw[gN q0q];refine am<|y8 hs pl pu ?_
 have hno:¬((((w4 items.size 0 lo:Nat):Int)==0&&(1:Int)==1&&(w4 items.size items.size hi-w4 items.size 0 lo)==items.size)=true):=by intro q;rw[iJ,iJ]at q;have q1:((w4 items.size 0 lo:Nat):Int)=0:=eq_of_beq q.1.1;have q2:w4 items.size items.size hi-w4 items.size 0 lo=items.size:=eq_of_beq q.2;exact hw #[q0d,q0d]
 show gZ _ _ (if (((w4 items.size 0 lo:Nat):Int)==0&&(1:Int)==1&&(w4 items.size items.size hi-w4 items.size 0 lo)==items.size)=true then _ else _) _ _ s;rw[gM hno,PM]
 first
  | exact am (m:=lv _)<|iK (ap #[_,rfl,ap h]) ME
  | exact am (m:=lv _)<|iK (am<|ap<|ap #[_,rfl,ap h]) ME
  | exact am<|am (m:=lv _)<|iK (ap<|ap #[_,rfl,ap h]) ME
  | exact am<|am (m:=lv _)<|iK (ap #[_,rfl,ap h]) ME
end HT
namespace L2
open PySem PySem.Spec PyProof.Rows
abbrev TO:=St->Hp->(Option Int->Hp->Prop)->Prop
def PO(X:Cx)(e:Option iL)(t:TO):Prop :=
 ∀(a:List (ci×Obj)) (s:gW) (b:St) (H:Hp) (Q:Option Int->Hp->Prop),Inv X a b H s->t b H Q ->
  gZ 23 X.A (evalPart e X.env) (λu d=>∃o c,Inv X a b c d/\qg u o/\Q o c) X.xe s
def Ua:TO:=λ_ H Q=>Q none H
def ZI(t:TE):TO:=λa H Q=>t a H λx b=>∃i,x=.int i/\Q ↑i b
def intsAre_of{a:List Int}:∀{b:List cr},Vals (a.map V.int) b->kY b a:=by
 induction a with
 |nil=>intro b r;rw[oT]at r;cases r;exact .nil
 |cons n a c =>
  intro b r;rw[im]at r
  cases r with
  |cons d f =>
   obtain⟨t,e⟩:=d;subst e;exact .cons n t<|c f
section
variable{X:Cx}{e:iL}{te:TE}{lo hi:Option iL}{tl th:TO}{pos p2:Pos}
def Dw:PO X none Ua:=by intro a s b H Q I h;rw[tQ];exact ap #[none,H,I,.none,h]
def Dx(h:PE X e te):PO X ↑e (ZI te):=by intro a s b H Q I c;rw[evalPart_some];refine vI (h a s b H _ I c) λu l d=>e2a3 d λx f g j k=>?_;obtain⟨i,rfl,q⟩:=k;obtain⟨t,rfl⟩:=j;exact#[↑i,f,g,.int i t,q]
def WB(X:Cx)(r:V->Option Int->Option Int->Hp->VK->Prop):Prop :=
 ∀(a:List (ci×Obj)) (s:gW) (b:St) (H:Hp) (x:V) (v c d:cr) (lo hi:Option Int) (f:ci) (Q:VK),Inv X a b H s->RelV x v->s.heap.IsSliceOf f c d .none->qg c lo->qg d hi->r x lo hi H Q ->
  ∃T g,nA (.type T) "__getitem__"=pure (some<|.builtin g)/\s.TypeIs v T/\gZ 23 X.A (oh v<|.ref f) (EP X a b Q) X.xe s
def WB.or(h:WB X r)(l:WB X m):WB X (λx lo hi H Q=>r x lo hi H Q\/m x lo hi H Q):=by
 intro a s b H x v c d lo hi f Q I g i j k q;rcases q with q|q
 ·exact h a s b H x v c d lo hi f Q I g i j k q
 ·exact l a s b H x v c d lo hi f Q I g i j k q
def tSl(r:V->Option Int->Option Int->Hp->VK->Prop)(te:TE)(tl th:TO):TE:=λa H Q=>te a H λx b=>tl a b λl c=>th a c λu d=>r x l u d Q
def zZ(k:WB X r)(m:PE X e te)(n:PO X lo tl)(o:PO X hi th):PE X (.Subscript e (.Slice lo hi none p2) pos) (tSl r te tl th):=by intro a s d H Q I h;refine sR<|vI (m a s d H _ I h) λv p f=>e2a3 f λx t w y z=>?_;refine wpAny_Slice<|vI (n a p d t _ w z) λg A f=>e2a3 f λl B C D E=>vI (o a A d B _ C E) λi c f=>e2a3 f λu j F G J=>?_;rw[tQ];refine ap ?_;have L:Inv X a d j { c with heap:=c.heap.push { cls:=.type "slice",data:=.fields #v[g,i,.none]}}:=F.kept (t':=c.toks) λb P q=>ce _ q;obtain⟨T,R,M,N,O⟩:=k a { c with heap:=c.heap.push { cls:=.type "slice",data:=.fields #v[g,i,.none]}} d j x v g i l u ⇑c Q L y (qX ..) D G J;exact tail_any (ops:=[.ref ⇑c,v]) N M O (by with_unfolding_all rfl)
noncomputable def DZ(a:List V)(lo hi:Option Int):List V:=(a.drop<|HT.w4 a.length 0 lo).take<|HT.w4 a.length a.length hi-HT.w4 a.length 0 lo
def C8(a:List V)(lo hi:Option Int):(DZ a lo hi).length<=a.length:=by unfold DZ;rw[lR,mV];omega
def a1S(K:gO):V->Option Int->Option Int->Hp->VK->Prop:=λx lo hi H Q=>∃a b,x=.ref a/\yZ K H a b /\
 ¬(HT.w4 b.length 0 lo=0/\HT.w4 b.length b.length hi=b.length)/\∀p,H p=none->Q (.ref p) (upd H p<|.tup<|DZ b lo hi)
def XA:WB X (a1S X.K):=by
 intro g s u H x v w y lo hi z Q I k l m n h;obtain⟨a,d,rfl,p,t,q⟩:=h;cases k;refine e1a3 (I.tuple p) λf r i j=>?_;have c:f.toArray.size=d.length:=by rw[hJ];exact r.length.symm
 refine#["tuple",_,PyProof.Rows.slot_tuple_getitem.lookup,i.typeIs,?_];refine HT.BA i l m n (by rw[c];exact t) ?_ (by rw[c];exact j);rw[c];refine#[.ref ⇑s,_,I.laid (t':=s.toks) (o:=.tup<|DZ d lo hi) (λb A q=>ce _ q) (gQ _) ?_,rfl,q _<|I.vK.fresh<|gQ _];exact#[iA (C8 d lo hi) j,_,(r.drop<|HT.w4 d.length 0 lo).take<|HT.w4 d.length d.length hi-HT.w4 d.length 0 lo,IsTup.new _ _]
end
noncomputable def WC(n:Nat)(i:Int):Option Nat:=if 0<=i then (if i<n then some i.toNat else none) else if -(n:Int)<=i then some (i+n).toNat else none
noncomputable def Fw{a:Type}(b:List a)(i:Int):Option a:=(WC b.length i).bind λj=>b[j]?
def MF{n:Nat}{i:Int}{j:Nat}(h:WC n i=↑j):seqIndex? i n=↑j/\j<n/\-(n:Int)<=i/\i<n:=by
 unfold WC at h;by_cases b:0<=i
 ·rw[gN b]at h;by_cases a:i<n
  ·rw[gN a]at h;have e:i.toNat=j:=iX h;exact#[by rw[seqIndex_of b a,e],q0a,q0a,a]
  ·rw[gM a]at h;cases h
 ·rw[gM b]at h;by_cases a:-(n:Int)<=i
  ·rw[gN a]at h;have e:(i+n).toNat=j:=iX h;exact#[by rw[uv q0a a,e],q0a,a,q0a]
  ·rw[gM a]at h;cases h
def MG{α:Type}{xs:List α}{i:Int}{v:α}(h:Fw xs i=↑v):∃j,seqIndex? i xs.length=↑j/\xs[j]?=↑v/\j<xs.length/\-(xs.length:Int)<=i/\i<xs.length:=by
 unfold Fw at h
 cases e:WC xs.length i with
 |none=>rw[e]at h;cases h
 |some j =>
  rw[e]at h;obtain⟨h1,h2,h3,h4⟩:=MF e;exact#[j,h1,h,h2,h3,h4]
def MH{α:Type}{xs:List α}{j:Nat}{v:α}(h:xs[j]?=↑v):Fw xs (j:Int)=↑v:=by
 have hj:j<xs.length:=(List.getElem?_eq_some_iff.mp h).1
 have e:WC xs.length (j:Int)=↑j:=by unfold WC;rw[gN q0a,gN q0a];simp
 unfold Fw;rw[e];exact h
def MI(b:iL):Prop:=∀o i,rW b false o i=operate [o,i] (oh o i)
def IxR(X:Cx)(r:R2):Prop :=
 ∀(c a:iL) (b:List (ci×Obj)) (s:gW) (d:St) (H:Hp) (x y:V) (v u:cr) (Q:VK),Inv X b d H s->RelV x v->RelV y u->r x y H Q ->
  rW a false v u=operate [v,u] (oh v u)->gZ 23 X.A (subscriptTail c a v u) (EP X b d Q) X.xe s
def MtR(X:Cx)(e:String)(r:V->List V->Hp->VK->Prop):Prop :=
 ∀(a:List (ci×Obj)) (s:gW) (b:St) (H:Hp) (x:V) (c:List V) (v:cr) (d:List cr) (Q:VK),Inv X a b H s->RelV x v->Vals c d->r x c H Q ->
  gZ 23 X.A (call (.builtin e) (v::d)) (EP X a b Q) X.xe s
section
variable{X:Cx}
def yk(d:IxR X r)(e:PE X a f)(g:PE X b i)(j:MI b):PE X (.Subscript a b pos) (Zd r f i):=by intro c s k H Q I h;exact sR<|Xs e g I h λv u l x y m n o p q=>d a b c l k m x y v u Q n o p q<|j _ _
def a1U(K:gO):R2:=λx y H Q=>∃p a i v,x=.ref p/\y=.int i/\wo K H p a/\Fw a i=↑v/\Q v H
def a1V(K:gO):R2:=λx y H Q=>∃p a i v,x=.ref p/\y=.int i/\yZ K H p a/\Fw a i=↑v/\Q v H
def wM:IxR X (a1U X.K):=by
 intro value slice a s g H x y v u Q I n o h k;obtain⟨p,J,i,z,rfl,rfl,A,B,q⟩:=h;cases n;obtain⟨t,rfl⟩:=o;refine e1a3 (I.list A) λc r d L=>?_;obtain⟨j,b,C,M,D,E⟩:=MG B;refine e1a2 (r.get C) λw l e=>?_;have F:=r.length;have N:=DX;have fin:EP X a g Q w s:=#[z,H,I,e,q];by_cases m:0<=i
 ·have f:i.toNat=j:=by rw[seqIndex_of m E]at b;exact iX b
  exact item_listR d.isList m q0a (by rw[f];simpa using l) fin k
 ·have f:(i+(c.toArray.size:Int)).toNat=j:=by rw[uv q0a D]at b;rw[hJ,<- F];exact iX b
  exact uw (x:=w) d.isList.typeIs slot_list_getitem.lookup
   (wpAny_getItem_list_neg (Q:=λr G=>r=w/\EP X a g Q r G) d.isList q0a (by rw[hJ]<;>lia) q0a (by rw[f];simpa using l) #[rfl,fin]) k
def PN:IxR X (a1V X.K):=by
 intro value slice a s c H x y v u Q I e f h g;obtain⟨p,D,i,z,rfl,rfl,k,l,q⟩:=h;cases e;obtain⟨t,rfl⟩:=f;refine e1a3 (I.tuple k) λm r d E=>?_;obtain⟨j,n,o,F,G,J⟩:=MG l;refine e1a2 (r.get o) λw A b=>?_;have B:=r.length;have L:=DX;have fin:EP X a c Q w s:=#[z,H,I,b,q]
 exact uw (x:=w) d.typeIs slot_tuple_getitem.lookup
  (getItem_tuple (j:=j) (Q:=λr C=>r=w/\EP X a c Q r C) d q0a q0a (by rw[hJ,<- B];exact n) (by simpa using A) #[rfl,fin]) g
def Kw(a:List cr)(n j:Nat)(u:cr):Obj.mapSeq (·.setIfInBounds j u) { cls:=.type "list",data:=.seq a.toArray n}={ cls:=.type "list",data:=.seq (a.set j u).toArray n}:=by simp[Obj.mapSeq]
def Inv.lst(I:Inv X b d H s)(h:H p=↑(.lst c)) :
  ∃(a:List cr)(n:Nat),Vals c a/\s.heap.get? p=some { cls:=.type "list",data:=.seq a.toArray n}/\c.length<=gS:=by
 obtain⟨z,a,n,r,e⟩:=I.vK p _ h;exact#[a,n,r,e,z]
def Inv.XD{c a:List cr}{n g:Nat}(I:Inv X d k H s)(h:H p=↑(.lst v))
 (l:s.heap.get? p=some { cls:=.type "list",data:=.seq c.toArray n}) (i:f { cls:=.type "list",data:=.seq c.toArray n}={ cls:=.type "list",data:=.seq a.toArray g}) (r:Vals j a) (m:j.length<=gS) (t:Nat) :
    Inv X d k (upd H p<|.lst j) { s with heap:=s.heap.update p f,toks:=t}:=by
  have e:(s.heap.update p f).get? p=some { cls:=.type "list",data:=.seq a.toArray g}:=by
    rw[iP f l (by rw[i]<;>rfl),i]
  refine I.write (x:=p) (e:=p) (by rw[h];trivial) (.inl rfl) (λb u o q=>(iE _ _<|Ne.symm o).trans q) #[_,e] ?_
  exact#[m,a,g,r,e]
def ZJ:V->V->V->Hp->(Hp->Prop)->Prop:=λo i v H Q=>∃p a k j,o=.ref p/\i=.int k/\H p=↑(.lst a)/\WC a.length k=↑j/\Q (upd H p<|.lst<|a.set j v)
def set_list:Xk X ZJ:=by
 intro a s y H o i v F G u Q I z A B h;obtain⟨p,C,k,j,rfl,rfl,g,D,q⟩:=h;cases z;obtain⟨t,rfl⟩:=A;obtain⟨b,n,r,d,E⟩:=I.lst g;obtain⟨c,J,l,m⟩:=MF D;have e:=r.length;have L:=DX
 have w:Inv X a y (upd H p<|.lst<|C.set j v) { s with heap:=s.heap.update p (Obj.mapSeq (·.setIfInBounds j u))} :=
  I.XD g d (Kw b n j u) (r.set B j) (by rw[mj];exact E) s.toks
 by_cases x:0<=k
 ·have f:k.toNat=j:=by rw[seqIndex_of x m]at c;exact iX c
  exact PySem.W.ki_setAt d x q0a (by rw[hJ,<- e];exact m) (by rw[f];exact#[_,w,q])
 ·have f:(k+(b.toArray.size:Int)).toNat=j:=by rw[uv q0a l]at c;rw[hJ,<- e];exact iX c
  exact PySem.W.ki_setBack d q0a (by rw[hJ,<- e];exact l) q0a (by rw[f];exact#[_,w,q])
def GD(a b:Option Int)(n:Nat):(nK a b none n).1=((HT.w4 n 0 a:Nat):Int)/\(nK a b none n).2.1=((HT.w4 n n b:Nat):Int)/\(nK a b none n).2.2=1:=by
 refine#[?_,?_,rfl]
 ·cases a with
  |none=>simp[nK,HT.w4]
  |some i =>
   simp only[nK,HT.w4,qq,show (1:Int)>0 by decide,if_true];by_cases h:i<0
   ·simp only[h,if_true]<;>lia
   ·simp only[h,pr]<;>lia
 ·cases b with
  |none=>simp[nK,HT.w4]
  |some i =>
   simp only[nK,HT.w4,qq,show (1:Int)>0 by decide,if_true];by_cases h:i<0
   ·simp only[h,if_true]<;>lia
   ·simp only[h,pr]<;>lia
def Fx(a:List cr)(b c:Option Int):slicePick a.toArray b c none=((a.drop<|HT.w4 a.length 0 b).take<|HT.w4 a.length a.length c-HT.w4 a.length 0 b).toArray:=by refine e0a3 (GD b c a.toArray.size) λd e f=>?_;unfold slicePick;rw[d,e,f];simp only[sliceRange_one,pick_run,hJ]<;>rfl
def a1W(K:gO):V->Option Int->Option Int->Hp->VK->Prop:=λx c d H Q=>∃a b,x=.ref a/\wo K H a b/\∀p,H p=none->Q (.ref p) (upd H p<|.lst<|DZ b c d)
def Dy:WB X (a1W X.K):=by intro g s u H x v w y e f z Q I j k l m h;obtain⟨a,c,rfl,n,q⟩:=h;cases j;refine e1a3 (I.list n) λp r i t=>?_;have d:=r.length;refine#["list",_,slot_list_getitem.lookup,i.isList.typeIs,?_];refine tR i.isList k l m .none q0o ?_ (by rw[hJ]<;>lia);rw[Fx,<- d];refine#[.ref ⇑s,_,I.laid (t':=s.toks) (o:=.lst<|DZ c e f) (λb A q=>ce _ q) (gQ _) ?_,rfl,q _<|I.vK.fresh<|gQ _];exact#[iA (C8 c e f) t,_,0,(r.drop<|HT.w4 c.length 0 e).take<|HT.w4 c.length c.length f-HT.w4 c.length 0 e,hI _ rfl]
noncomputable def BB:V->Bool
 | .wF=>true
 | .bl _=>true
 | .int _=>true
 | .str _=>true
 |_=>false
noncomputable def TK:V->V->Bool
 | .wF,.wF=>true
 | .bl a,.bl b=>a==b
 | .bl a,.int b=>(if a then 1 else 0)==b
 | .int a,.bl b=>a==(if b then 1 else 0)
 | .int a,.int b=>a==b
 | .str a,.str b=>a==b
 |_,_=>false
def XG(e:RelV y u)(c:RelV x v)(g:BB y=true)(f:BB x=true):SeqAt.EqAt A s u v (TK y x):=by
 cases y with
 |wF =>
  cases e
  cases x with
  |wF=>cases c;exact SeqAt.EqAt.same _
  |bl b=>cases c;exact SeqAt.EqAt.none_bool b
  |int b=>obtain⟨t,rfl⟩:=c;exact SeqAt.EqAt.none_int b t
  |str b=>obtain⟨t,rfl⟩:=c;exact SeqAt.EqAt.none_str b t
  |_=>exact hV (show false=true from f) g9
 |bl a =>
  cases e
  cases x with
  |wF=>cases c;exact SeqAt.EqAt.bool_none a
  |bl b=>cases c;exact SeqAt.EqAt.bool_bool a b
  |int b=>obtain⟨t,rfl⟩:=c;exact SeqAt.EqAt.bool_int a b t
  |str b=>obtain⟨t,rfl⟩:=c;exact SeqAt.EqAt.bool_str a b t
  |_=>exact hV (show false=true from f) g9
 |int a =>
  obtain⟨d,rfl⟩:=e
  cases x with
  |wF=>cases c;exact SeqAt.EqAt.int_none a d
  |bl b=>cases c;exact SeqAt.EqAt.int_bool a d b
  |int b=>obtain⟨t,rfl⟩:=c;exact SeqAt.EqAt.int_int a d b t
  |str b=>obtain⟨t,rfl⟩:=c;exact rR a d b t
  |_=>exact hV (show false=true from f) g9
 |str a =>
  obtain⟨d,rfl⟩:=e
  cases x with
  |wF=>cases c;exact SeqAt.EqAt.str_none a d
  |bl b=>cases c;exact SeqAt.EqAt.str_bool a d b
  |int b=>obtain⟨t,rfl⟩:=c;exact rS a d b t
  |str b=>obtain⟨t,rfl⟩:=c;exact SeqAt.EqAt.str_str a d b t
  |_=>exact hV (show false=true from f) g9
 |_=>exact hV (show false=true from g) g9
noncomputable def Kx(x:V)(u:cr):Bool:=match u with
 | .none=>TK .wF x
 | .bool b=>TK (.bl b) x
 | .int i _=>TK (.int i) x
 | .str z _=>TK (.str z) x
 |_=>false
def PP(r:RelV y u)(f:BB y=true):Kx x u=TK y x:=by
 cases y with
 |wF=>cases r;rfl
 |bl b=>cases r;rfl
 |int i=>obtain⟨t,rfl⟩:=r;rfl
 |str z=>obtain⟨t,rfl⟩:=r;rfl
 |_=>exact hV (show false=true from f) g9
def Dz:∀{a:List V} {b:List cr},Vals a b->a.all BB=true->b.any (Kx x)=a.any λy=>TK y x:=by
 intro _ _ z f
 induction z with
 |nil=>rfl
 |cons h t c =>
  rw[qb,iJ]at f;rw[oq,oq,PP h f.1,c f.2]
def z8(d:RelV x v)(e:BB x=true):∀{b:List V} {c:List cr},Vals b c->b.all BB=true->∀u∈c,SeqAt.EqAt A s u v (Kx x u)
 |_,_,.nil,_=>λu a=>by cases a
 |y::b,u::c,.cons r t,f=>λg a=>by
  rw[qb,iJ]at f;rcases List.mem_cons.mp a with rfl|a
  ·rw[PP r f.1];exact XG r d f.1 e
  ·exact z8 d e t f.2 g a
noncomputable def inV(x:V)(a:List V):Bool:=a.any λy=>TK y x
def rIn(K:gO)(b:Bool):R2:=λx y H Q=>∃p a,y=.ref p/\(wo K H p a\/yZ K H p a)/\BB x=true/\a.all BB=true/\Q (.bl<|if b then !inV x a else inV x a) H
def FW:AV X (jy .In) (rIn X.K false):=by
 intro f s l H x y v u Q I g j h;obtain⟨p,m,rfl,b,i,c,q⟩:=h;cases j;rcases b with b|b
 ·refine e1a3 (I.list b) λa r d k=>?_;refine SeqAt.in_listAt (Kx x) d.isList (λw e=>z8 g i r c w<|by simpa using e) #[.bl _,H,I,rfl,?_];rw[show a.toArray.any (Kx x)=a.any (Kx x) by simp,Dz r c];exact q
 ·refine e1a3 (I.tuple b) λa r d k=>?_;refine SeqAt.in_tupleAt (Kx x) d (λw e=>z8 g i r c w<|by simpa using e) #[.bl _,H,I,rfl,?_];rw[show a.toArray.any (Kx x)=a.any (Kx x) by simp,Dz r c];exact q
def BC:AV X (jy .NotIn) (rIn X.K true):=by
 intro f s l H x y v u Q I g j h;obtain⟨p,m,rfl,b,i,c,q⟩:=h;cases j;rcases b with b|b
 ·refine e1a3 (I.list b) λa r d k=>?_;refine SeqAt.notIn_listAt (Kx x) d.isList (λw e=>z8 g i r c w<|by simpa using e) #[.bl _,H,I,rfl,?_];rw[show a.toArray.any (Kx x)=a.any (Kx x) by simp,Dz r c];exact q
 ·refine e1a3 (I.tuple b) λa r d k=>?_;refine SeqAt.notIn_tupleAt (Kx x) d (λw e=>z8 g i r c w<|by simpa using e) #[.bl _,H,I,rfl,?_];rw[show a.toArray.any (Kx x)=a.any (Kx x) by simp,Dz r c];exact q
def xo:yM X (.builtin "len") (λg H Q=>∃p b,g=[.ref p]/\(wo X.K H p b\/yZ X.K H p b)/\Q (.int b.length) H):=by
 intro i s l H g m Q I r h;obtain⟨p,b,rfl,c,q⟩:=h;obtain⟨u,rfl,j⟩:=vals1 r;cases j;have n:=DX;rcases c with c|c
 ·refine e1a3 (I.list c) λd e f k=>?_;have a:=e.length;exact Calls.call_len_list f.isList (by simp only[hJ]<;>lia) #[.int b.length,H,I.tok _,#[s.toks+1,by rw[hJ,a]],q]
 ·refine e1a3 (I.tuple c) λd e f k=>?_;have a:=e.length;exact len_tuple f (by simp only[hJ]<;>lia) #[.int b.length,H,I.tok _,#[s.toks+1,by rw[hJ,a]],q]
def yp:yM X (.type "list") (λB H Q=>∃p d,B=[.ref p]/\(wo X.K H p d\/yZ X.K H p d)/\∀l,H l=none->Q (.ref l) (upd H l<|.lst d)):=by
 intro i s D H B F Q I r h;obtain⟨p,d,rfl,j,q⟩:=h;obtain⟨u,rfl,E⟩:=vals1 r;cases E
 have k:∀(a:List cr),Vals d a->d.length<=gS->∀(c:iM)(f:Nat),(∀b C,s.heap.get? b=↑C->c.get? b=↑C) ->
   c.get? ⇑s=some { cls:=.type "list",dict:=none,data:=.seq a.toArray f,slots:=#v[]}->EP X i D Q (.ref ⇑s) { s with heap:=c}:=λa g m c f t e =>
  #[.ref ⇑s,_,I.laid (t':=s.toks) t (gQ _)<|show v4 X.prog X.w _ c _ (.lst d) from#[m,a,f,g,e],rfl,q _<|I.vK.fresh<|gQ _]
 rcases j with j|j
 ·refine e1a3 (I.list j) λa g x m=>?_;have v:=g.length;obtain⟨o,y,z,n,A⟩:=x.isList;exact call_list_seq p (.inl rfl) y z A (λc f t e=>k a g m c f t e) (by simp only[hJ]<;>lia)
 ·refine e1a3 (I.tuple j) λa g x m=>?_;have v:=g.length;obtain⟨o,y,z,n,A⟩:=x;exact call_list_seq p (.inr rfl) y z A (λc f t e=>k a g m c f t e) (by simp only[hJ]<;>lia)
def Fy:yM X (.type "tuple") (λk H Q=>∃p d,k=[.ref p]/\((wo X.K H p d/\∀l,H l=none->Q (.ref l) (upd H l<|.tup d))\/(yZ X.K H p d/\Q (.ref p) H))):=by
 intro a s m H k A Q I r h;obtain⟨p,d,rfl,h⟩:=h;obtain⟨u,rfl,x⟩:=vals1 r;cases x;rcases h with⟨g,q⟩|⟨g,q⟩
 ·refine e1a3 (I.list g) λc i j n=>?_;have t:=i.length;refine call_tuple_list j.isList (λf y=>?_) (by simp only[hJ]<;>lia);have v:Inv X a m H { s with heap:=f}:=I.kept (t':=s.toks) y
  have z:Inv X a m (upd H f.objs.size<|.tup d) { s with heap:=f.push { cls:=.type "tuple",data:=.seq c.toArray}} :=
   v.laid (t':=s.toks) (λb o e=>ce _ e) (gQ _) (show v4 X.prog X.w _ _ _ (.tup d) from#[n,c,i,IsTup.new _ _])
  exact#[.ref f.objs.size,_,z,rfl,q _<|v.vK.fresh<|gQ _]
 ·refine e1a3 (I.tuple g) λc i j n=>?_;exact call_tuple_same j #[.ref p,H,I,rfl,q]
def tyV(K:gO)(T:String)(x:V)(H:Hp):Prop:=match x with
 | .str _=>T="str"
 | .int _=>T="int"
 | .ref p=>(T="list"/\∃xs,wo K H p xs)\/(T="tuple"/\∃o,K.lookup p=↑o/\o.cls=.type "tuple"/\o.dict=none) \/
   (T="dict"/\((∃xn,H p=↑(.dK xn))\/∃xn,H p=↑(.dT xn)))\/(T="set"/\∃S n,H p=↑(.set S n))
 |_=>False
def PQ(I:Inv X k y H s)(r:RelV x v)(f:tyV X.K T x H) :
  s.TypeIs v T/\∀a,v=.ref a->∃l,s.heap.get? a=↑l/\l.dict=none:=by
 cases x with
 |str z =>
  obtain⟨t,rfl⟩:=r;cases (show T="str" from f);exact#[typeIs_str s z t,λ_ e=>nomatch e]
 |int i =>
  obtain⟨t,rfl⟩:=r;cases (show T="int" from f);exact#[typeIs_int s i t,λ_ e=>nomatch e]
 |ref p =>
  cases r;rcases f with⟨rfl,A,q⟩|⟨rfl,o,b,u,g⟩|⟨rfl,b⟩|⟨rfl,S,n,b⟩
  ·refine e1a3 (I.list q) λw _ m _=>?_;refine#[m.isList.typeIs,λa e=>?_];cases e;refine e2a4 m λo n e c g _=>?_;exact#[o,e,g]
  ·refine#[#[o,I.yJ p o b,u],λa e=>?_];cases e;exact#[o,I.yJ _ o b,g]
  ·have z:∃o,s.heap.get? p=↑o/\o.ExactDict:=by
    rcases b with⟨h,b⟩|⟨h,b⟩
    ·obtain⟨_,_,_,_,o,_,_,e,d,_⟩:=I.vK p _ b;exact#[o,e,d]
    ·obtain⟨_,_,_,_,o,_,_,e,d,_⟩:=I.vK p _ b;exact#[o,e,d]
   refine e1a2 z λo e d=>?_;refine#[#[o,e,d.1],λa j=>?_];cases j;exact#[o,e,d.2.1]
  ·obtain⟨o,_,_,_,e,d,_⟩:=I.vK p _ b;refine#[#[o,e,d.1],λa j=>?_];cases j;exact#[o,e,d.2.1]
 |_=>exact iC f
def ZK(K:gO)(T:String)(r:V->List V->Hp->VK->Prop)(b:TE):TE:=λc H Q=>b c H λx a=>tyV K T x a/\r x [] a Q
def tBM(K:gO)(T:String)(r:V->List V->Hp->VK->Prop)(c:TE)(t:TA):TE:=λa H Q=>c a H λx b=>tyV K T x b/\t a b λd e=>r x d e Q
variable{o e:iL}{es:List iL}{to:TE}{t:TA}{name:Str}{apos cpos:Pos}{T id:String}{r:V->List V->Hp->VK->Prop}
def PR(k:PlainAttrs T)(d:Slot T name id)(f:typeOf (.builtin id)=pure (.type "method_descriptor"))(l:MtR X id r)(m:PE X o to)
 (b:iG o name X.env (eval o X.env)=eval o X.env:=by rfl)(c:(apos.endLine==cpos.line)=true:=by rfl):PE X (.Call (.Attribute o name apos) [] [] cpos) (ZK X.K T r to):=by
  intro a s g H Q I h
  refine wpAny_Call_method0_late b c<|vI (m a s g H _ I h) λv n p=>e2a4 p λx q i j u w=>?_
  obtain⟨y,z⟩:=PQ i j u
  exact#[T,id,k,d,f,y,z,kf rfl<|PySem.evalArgs_none<|l a n g q x [] v [] Q i j .nil w]
def WD(p:PlainAttrs T)(f:Slot T name id)(i:typeOf (.builtin id)=pure (.type "method_descriptor"))(q:MtR X id r)(u:PE X o to)(w:PA X (e::es) t)
 (c:iG o name X.env (eval o X.env)=eval o X.env:=by rfl)
 (g:((jm cpos (gP (e::es) X.env)).all (λx=>!x.1)&&(mZ cpos (kP [] X.env)).all (λx=>x.1.isSome)
&&decide ((e::es).length+([]:List pN).length+(if ([]:List pN).isEmpty then 0 else 1)<30))=true:=by rfl)
 (d:(apos.endLine==cpos.line)=true:=by rfl) (y:gP (e::es) X.env=(false,eval e X.env)::gP es X.env:=by rfl) (b:(jm cpos<|gP es X.env).any (·.1)=false:=by rfl) :
    PE X (.Call (.Attribute o name apos) (e::es) [] cpos) (tBM X.K T r to t):=by
  intro a s j H Q I h
  refine ux c g d rfl<|vI (u a s j H _ I h) λv z k=>e2a4 k λx A l m B C=>?_
  obtain⟨D,E⟩:=PQ l m B
  refine#[T,id,p,f,i,D,E,?_]
  have n:=w cpos a z j A _ l C
  rw[y]at n ⊢
  refine kf (by show (false||(jm cpos<|gP es X.env).any (·.1))=false;rw[b]<;>rfl)<|jA ?_
  exact vI n λF G k=>e2a3 k λJ L M N O=>q a G j L x J v F Q M m N O
end
def Ze(X:Cx)(e:String)(r:V->List V->Hp->VK->Prop):Prop :=
 ∀(a:List (ci×Obj)) (s:gW) (b:St) (H:Hp) (x:V) (c:List V) (v:cr) (d:List cr) (Q:VK),Inv X a b H s->RelV x v->Vals c d->r x c H Q ->
  gZ 23 X.A (call (.builtin e) (v::d)) (EP X a b Q) X.xe s
def Vals.one:∀{x:V} {a:List cr},Vals [x] a->∃u,a=[u]/\RelV x u:=by intro _ _ z;cases z with|cons h t=>cases t;exact#[_,rfl,h]
def Vals.zero:∀{a:List cr},Vals [] a->a=[]
 |_,.nil=>rfl
def Vals.dropLast(h:Vals a b):Vals a.dropLast b.dropLast:=by
 induction h with
 |nil=>exact .nil
 |cons r t c =>
  cases t with
  |nil=>exact .nil
  |cons q d=>exact .cons r c
def Vals.eraseIdx:∀{a:List V} {b:List cr} (i:Nat),Vals a b->Vals (a.eraseIdx i) (b.eraseIdx i)
 |_,_,_,.nil=>.nil
 |_,_,0,.cons _ t=>t
 |_,_,i+1,.cons r t=>.cons r<|Vals.eraseIdx i t
def Vals.reverse(h:Vals a b):Vals a.reverse b.reverse:=by
 induction h with
 |nil=>exact .nil
 |cons r t c=>rw[oj,oj];exact Vals.append c<|.cons r .nil
def Ky(l:List d):l.eraseIdx (l.length-1)=l.dropLast:=by
 induction l with
 |nil=>rfl
 |cons a r c =>
  cases r with
  |nil=>rfl
  |cons b r =>
   have e:(a::b::r).length-1=((b::r).length-1)+1:=by
    have f:(a::b::r).length=r.length+2:=rfl;have g:(b::r).length=r.length+1:=rfl
    lia
   rw[e,oC,c]
   all_goals rfl
def FX:∀(l:List a)(i:Nat),(l.eraseIdx i).length<=l.length
 | [],_=>gQ _
 |_::_,0=>lP _
 |_::r,i+1=>Nat.succ_le_succ<|FX r i
def Inv.XH{a its':List cr}{n:Nat}{d:Nat}(I:Inv X b g H s)(h:H l=↑(.lst p))
 (e:s.heap.get? l=some { cls:=.type "list",data:=.seq a.toArray n}) (i:f a.toArray=its'.toArray) (j:Vals c its') (k:c.length<=gS) :
    Inv X b g (upd H l<|.lst c) { s with heap:=s.heap.update l<|Obj.mapSeq f,toks:=d}:=by
  have q:=PySem.IsL.update e f
  rw[i]at q
  refine I.write (x:=l) (e:=l) (by rw[h];exact trivial) (.inl rfl) (λr u m o=>(iE s.heap (Obj.mapSeq f)<|Ne.symm m).trans o) #[_,q] ?_
  exact#[k,its',_,j,q]
def Inv.a1Z{t':Nat}(I:Inv X a d H s)(e:Vals c b)(f:c.length<=gS) :
  Inv X a d (upd H ⇑s<|.lst c) { s with heap:=s.heap.push { cls:=.type "list",data:=.seq b.toArray},toks:=t'} :=
 I.laid (λ_ _ q=>ce _ q) (gQ _) #[f,b,0,e,hI _ rfl]
def Inv.fresh(I:Inv X a b H s):H ⇑s=none:=I.vK.fresh<|gQ _
def Inv.PU(I:Inv X c f H s)(d:H l=↑(.lst b)):b.length<=gS/\∃(a:List cr)(n:Nat),Vals b a/\b.length=a.length/\s.heap.get? l=some { cls:=.type "list",data:=.seq a.toArray n}:=by obtain⟨z,a,n,r,e⟩:=I.vK l _ d;exact#[z,a,n,r,r.length,e]
def MJ:V->List V->Hp->VK->Prop:=λx b H Q=>∃l a y,x=.ref l/\b=[y]/\H l=↑(.lst a)/\a.length<gS/\Q .wF (upd H l<|.lst<|a++[y])
def NU:Ze X "list.append" MJ:=by
 intro b s i H x j v k Q I d f h;obtain⟨l,m,y,rfl,rfl,c,o,q⟩:=h;cases d;obtain⟨u,rfl,g⟩:=f.one;obtain⟨z,a,n,r,p,e⟩:=I.PU c;refine call_meets F.slot_list_append #[_,e,rfl] F.entry_list_append (F.args_list_append_2 _ _) (PySem.list_append l a.toArray n u<|by rw[hJ];lia) #[e,?_];refine#[.wF,_,I.XH (its':=a++[u]) c e q0o (r.append<|.cons g .nil) ?_,rfl,q];rw[hO,ii]
 lia
def ZL:V->List V->Hp->VK->Prop:=λx b H Q=>∃l a y,x=.ref l/\b=[]/\H l=↑(.lst a)/\a[a.length-1]?=↑y/\Q y (upd H l<|.lst a.dropLast)
def PV:Ze X "list.pop" ZL:=by
 intro d s p H x t v w Q I g i h;obtain⟨l,A,y,rfl,rfl,f,j,q⟩:=h;cases g;have b:=i.zero;subst b;obtain⟨z,a,n,r,k,e⟩:=I.PU f;refine e1a2 (r.get j) λu m o=>?_
 have c:a.toArray[a.toArray.size-1]?=↑u:=by show a.toArray[a.length-1]?=↑u;rw[<- iI,<- k];exact m
 refine call_meets oQ #[_,e,rfl] F.entry_list_pop (F.args_list_pop_1 _) (MeetsSeq.list_pop_last l a.toArray n u c<|by rw[hJ];omega) #[e,?_];refine#[y,_,I.XH (its':=a.dropLast) f e ?_ r.dropLast ?_,o,q]
 ·show a.toArray.eraseIdxIfInBounds (a.toArray.size-1)=a.dropLast.toArray;rw[hJ,qC,Ky]
 ·rw[List.length_dropLast];omega
def PX:V->List V->Hp->VK->Prop:=λx b H Q=>∃l a i k y,x=.ref l/\b=[.int i]/\H l=↑(.lst a)/\-(2 ^ 63)<=i/\i<2 ^ 63/\seqIndex? i a.length=↑k/\a[k]?=↑y/\Q y (upd H l<|.lst<|a.eraseIdx k)
def PY:Ze X "list.pop" PX:=by
 intro c s E H x G v J Q I f g h;obtain⟨l,j,i,k,y,rfl,rfl,d,m,o,p,A,q⟩:=h;cases f;obtain⟨u,rfl,B⟩:=g.one;obtain⟨t,rfl⟩:=B;obtain⟨z,a,n,r,C,e⟩:=I.PU d;refine e1a2 (r.get A) λw D b=>?_
 refine call_meets oQ #[_,e,rfl] F.entry_list_pop (F.args_list_pop_2 _ _)
  (MeetsSeq.list_pop_at l a.toArray n i t k w (fitsIndex_both m o) (by rw[hJ,<- C];exact p) (by rw[<- iI];exact D)<|by rw[hJ];lia) #[e,?_]
 refine#[y,_,I.XH (its':=a.eraseIdx k) d e ?_ (r.eraseIdx k) ?_,b,q]
 ·show a.toArray.eraseIdxIfInBounds k=(a.eraseIdx k).toArray;rw[qC]
 ·have:=FX j k
  lia
def a10:R2:=λx y H Q=>∃l b a c,x=.ref l/\y=.ref b/\H l=↑(.lst a)/\H b=↑(.lst c)/\a.length+c.length<=gS/\∀p,H p=none->Q (.ref p) (upd H p<|.lst<|a++c)
def XI:AV X (mz .Add) a10:=by
 intro d s t H x y v u Q I f g h;obtain⟨l,b,w,A,rfl,rfl,i,j,B,q⟩:=h;cases f;cases g;obtain⟨z,c,n,r,C,e⟩:=I.PU i;obtain⟨D,a,E,k,m,o⟩:=I.PU j;refine PySem.P.add_list e o ?_ (by rw[hJ,hJ];lia);have p:c.toArray++a.toArray=(c++a).toArray:=by simp
 rw[p];exact#[.ref _,_,I.a1Z (t':=s.toks) (r.append k) (by rw[hO];lia),rfl,q _ I.fresh]
section
variable{κ:Type}[DecidableEq κ]
noncomputable def yq(xn:List (κ×V))(k:κ):Option V:=(xn.find? λkv=>decide<|kv.1=k).map (·.2)
noncomputable def putK(xn:List (κ×V))(k:κ)(v:V):List (κ×V) :=
 if (xn.any λkv=>decide<|kv.1=k)=true then xn.map (λkv=>if kv.1=k then (kv.1,v) else kv) else xn++[(k,v)]
noncomputable def Aa(a:List (κ×V))(k:κ):List (κ×V):=a.filter λb=>decide<|b.1≠k
def y9{p:κ×V}{r:List (κ×V)}(e:p.1=k):yq (p::r) k=↑p.2:=by simp[yq,iQ,e]
def za{p:κ×V}{r:List (κ×V)}(e:¬p.1=k):yq (p::r) k=yq r k:=by simp[yq,iQ,e]
def Ab(k:κ):∀a:List (κ×V),(a.any λb=>decide<|b.1=k)=(yq a k).isSome
 | []=>rfl
 |p::r=>by
  rw[oq];by_cases e:p.1=k
  ·simp only[y9 e,decide_eq_true e,Bool.true_or,Option.isSome_some]
  ·rw[za e,ie e,Bool.false_or];exact Ab k r
def Ac(a:List (κ×V))(k:κ)(v:V):(putK a k v).length<=a.length+1:=by
 unfold putK;split
 ·rw[gV];lia
 ·rw[hO,ij,nj];lia
def PZ{a:List (κ×V)}(v:V)(h:yq a k=none):putK a k v=a++[(k,v)]:=by unfold putK;rw[Ab,h];exact gM q0q
def zk.yz(r:zk o u):o.isSome=u.isSome:=by
 cases o with
 |none=>cases u with
  |none=>rfl
  |some _=>exact(show False from r).elim
 |some _=>cases u with
  |none=>exact(show False from r).elim
  |some _=>rfl
def zk.getD(r:zk o u)(a:RelV d b):RelV (o.getD d) (u.getD b):=by
 cases o with
 |none=>cases u with
  |none=>exact a
  |some _=>exact(show False from r).elim
 |some _=>cases u with
  |none=>exact(show False from r).elim
  |some _=>exact r
def KV.val(r:KV a g)(k:κ):zk (yq a k) (qr g k):=by
 induction r with
 |nil=>exact True.intro
 | @cons p q l c h t i =>
  obtain⟨f,j⟩:=h;by_cases e:p.1=k
  ·have d:q.1=k:=f.symm.trans e;have b:qr (q::c) k=↑q.2:=by simp[qr,iQ,d]
   rw[y9 e,b];exact j
  ·have d:¬q.1=k:=λz=>e<|f.trans z;have b:qr (q::c) k=qr c k:=by simp[qr,iQ,d]
   rw[za e,b];exact i
def KV.any(r:KV a c)(k:κ):(a.any λb=>decide<|b.1=k)=c.any λb=>decide (b.1=k):=by
 induction r with
 |nil=>rfl
 |cons h t d=>rw[oq,oq,d,h.1]
def KV.XJ(r:KV c d)(k:κ)(f:RelV y u) :
  KV (c.map λa=>if a.1=k then (a.1,y) else a) (d.map λa=>if a.1=k then (a.1,u) else a):=by
 induction r with
 |nil=>exact .nil
 | @cons p q j l h t g =>
  rw[im,im];refine .cons ?_ g;obtain⟨b,i⟩:=h;by_cases e:p.1=k
  ·rw[gN e,gN<|b.symm.trans e];exact#[b,f]
  ·rw[gM e,gM<|λz=>e<|b.trans z];exact#[b,i]
def KV.put(r:KV a b)(k:κ)(c:RelV y u):KV (putK a k y) (stored b k u):=by
 unfold putK stored;rw[r.any k];by_cases e:(b.any λd=>decide<|d.1=k)=true
 ·rw[gN e,gN e];exact r.XJ k c
 ·rw[gM e,gM e];exact Paired.snoc r #[rfl,c]
def KV.drop(r:KV c g)(k:κ):KV (Aa c k) (without g k):=by
 unfold Aa without
 induction r with
 |nil=>exact .nil
 | @cons p q l m h t f =>
  obtain⟨d,i⟩:=h;rw[ju,ju];by_cases e:p.1=k
  ·have a:¬decide (p.1≠k)=true:=by simp[e]
   have b:¬decide (q.1≠k)=true:=by simp[d.symm.trans e]
   rw[gM a,gM b];exact f
  ·have j:¬q.1=k:=λz=>e<|d.trans z;have a:decide (p.1≠k)=true:=by simp[e]
   have b:decide (q.1≠k)=true:=by simp[j]
   rw[gN a,gN b];exact .cons #[d,i] f
def KV.length{xn:List (κ×V)}{vs:List (κ×cr)}(r:KV xn vs):xn.length=vs.length:=Paired.length r
def IY(a:List (κ×V))(k:κ):(Aa a k).length<=a.length:=iq _ _
end
def A4(r:RelV (kV k) u):(vA P w).is k u=true:=by
 cases k with
 |inl i=>obtain⟨t,e⟩:=(show ∃t,u=lN i t from r);subst e;exact IE P w i t
 |inr x=>obtain⟨t,e⟩:=(show ∃t,u=Value.str x t from r);subst e;exact IF P w x t
def NW:∀{a:List Key} {c:List cr},Vals (a.map kV) c->ItemsAre (vA P w) a c:=by
 intro d
 induction d with
 |nil=>intro _ r;rw[oT]at r;cases r;exact .nil
 |cons k a b =>
  intro _ r;rw[im]at r
  cases r with
  |cons h t=>exact .cons (A4 h)<|b t
abbrev KT(H:Hp):List (List Key×V)->List (List Key×ci×cr)->Prop:=Paired λp q=>p.1=q.1/\H q.2.1=↑(.tup<|p.1.map kV)/\RelV p.2 q.2.2
def KT.val(r:KT H a g)(k:List Key):zk (yq a k) ((sS g k).map (·.2)):=by
 induction r with
 |nil=>exact True.intro
 | @cons p q l c h t i =>
  refine e0a3 h λf _ j=>?_;by_cases e:p.1=k
  ·have d:q.1=k:=f.symm.trans e;have b:sS (q::c) k=↑q.2:=by simp[sS,iQ,d]
   rw[y9 e,b];exact j
  ·have d:¬q.1=k:=λz=>e<|f.trans z;have b:sS (q::c) k=sS c k:=by simp[sS,iQ,d]
   rw[za e,b];exact i
def KT.XJ(r:KT H b f)(k:List Key)(g:RelV y u) :
  KT H (b.map λc=>if c.1=k then (c.1,y) else c) (f.map<|putAt k u):=by
 induction r with
 |nil=>exact .nil
 | @cons p q l m h t i =>
  rw[im,im];refine .cons ?_ i;refine e0a3 h λa d j=>?_;unfold putAt;by_cases e:p.1=k
  ·rw[gN e,gN<|a.symm.trans e];exact#[a,d,g]
  ·rw[gM e,gM<|λz=>e<|a.trans z];exact#[a,d,j]
def KT.put(r:KT H a c)(k:List Key)(f:H b=↑(.tup<|k.map kV))(d:RelV y u) :
  KT H (putK a k y) (storedH c k b u):=by
 have e:(a.any λg=>decide<|g.1=k)=(sS c k).isSome:=by rw[Ab,(r.val k).yz,iN]
 unfold putK storedH;rw[e];by_cases q:(sS c k).isSome=true
 ·rw[gN q,gN q];exact r.XJ k d
 ·rw[gM q,gM q];exact Paired.snoc r #[rfl,f,d]
def KT.keeps(r:KT H a d)(e:∀b c,H b=↑(.tup c)->f b=↑(.tup c)):KT f a d :=
 Paired.Xa r λ_ _ z=>#[z.1,e _ _ z.2.1,z.2.2]
def WE(b:xV P w H h)(e:Rd H a u):v4 P w H h a u:=e.ok b
def BD(d:xV P w H h)(e:Rd H a (.dK b)):b.length<=gS/\(a==kT)=false/\∃c,KV b c/\h.DictOf (vA P w) a c :=
 show v4 P w H h a (.dK b) from WE d e
def MK(d:xV P w H h)(e:H a=↑(.dK b)):b.length<=gS/\(a==kT)=false/\∃c,KV b c/\h.DictOf (vA P w) a c:=BD d<|.inl e
def Bk{b:List Key}(d:xV P w H h)(e:H a=↑(.tup<|b.map kV)):(pc<|vA P w).is h b a:=by obtain⟨_,c,r,o,f,g,n,i⟩:=(show v4 P w H h a (.tup<|b.map kV) from d a _ e);exact#[o,c.toArray,n,f,g,i,by simpa using NW r]
def C9(g:xV P w H h)(e:Rd H a (.dT b)):b.length<=gS/\(a==kT)=false /\
  ∃d,KT H b d/\h.DictOfH (pc<|vA P w) a d:=by
 obtain⟨z,y,d,r,o,j,k,n,s,u,v,A⟩:=(show v4 P w H h a (.dT b) from WE g e);refine#[z,y,d,r,o,j,k,n,s,u,v,λx c=>?_,A]
 have f:∀{l:List (List Key×V)} {m:List (List Key×ci×cr)},KT H l m->∀x∈m,(pc<|vA P w).is h x.1 x.2.1:=by
  intro l m q
  induction q with
  |nil=>intro x c;exact nomatch c
  | @cons p q C D i t B =>
   intro x c;rcases List.mem_cons.mp c with e|c
   ·subst e;exact Bk g (by rw[<- i.1];exact i.2.1)
   ·exact B x c
 exact f r x c
def ZM(d:xV P w H h)(e:H a=↑(.dT b)):b.length<=gS/\(a==kT)=false /\
  ∃c,KT H b c/\h.DictOfH (pc<|vA P w) a c:=C9 d<|.inl e
def yf(H:Hp)(a:ci)(y:V)(r:Option V):Prop :=
 (∃xn k,Rd H a (.dK xn)/\y=kV k/\r=yq xn k)\/∃xn k b,Rd H a (.dT xn)/\y=.ref b/\H b=↑(.tup<|k.map kV)/\r=yq xn k
def GF(H:Hp)(a:ci)(y v:V)(H':Hp):Prop :=
 (∃xn k,H a=↑(.dK xn)/\y=kV k/\xn.length<gS/\H'=upd H a (.dK<|putK xn k v)) \/
 ∃xn k b,H a=↑(.dT xn)/\y=.ref b/\H b=↑(.tup<|k.map kV)/\xn.length<gS/\H'=upd H a (.dT<|putK xn k v)
def yf.k{H:Hp}{a:ci}{xn:List (Key×V)}{k:Key}(e:H a=↑(.dK xn)):yf H a (kV k) (yq xn k):=.inl #[xn,k,.inl e,rfl,rfl]
def GF.k{H:Hp}{a:ci}{xn:List (Key×V)}{k:Key}{v:V}(e:H a=↑(.dK xn))(hl:xn.length<gS):GF H a (kV k) v (upd H a<|.dK<|putK xn k v):=.inl #[xn,k,e,rfl,hl,rfl]
def Inv.big(I:Inv X a b H s):kT<⇑s:=by have h:hW<⇑s:=(I.mod.glob.keeps I.bk).lt;exact nL q0q h
def FY(B:A.units+1<kG)(I:Inv X i C H s)(g:yf H a y ↑v)(t:RelV y u)(h:∀f x,Inv X i C H x->RelV v f->Q f x) :
  gZ 23 A (oh (.ref a) u) Q E s:=by
 rcases g with⟨j,k,e,m,l⟩|⟨j,k,b,e,m,eb,l⟩
 ·subst m;obtain⟨z,D,F,c,n⟩:=BD I.vK e;obtain⟨f,q,d⟩:=zk.some_of (v:=v) (o:=qr F k) (by rw[l];exact c.val k);exact wpAny_getItem_of (A4 t) n.mapOf q<|h f _ (I.tok _) d
 ·subst m;cases (show u=h8 b from t);obtain⟨z,D,G,c,n⟩:=C9 I.vK e;obtain⟨f,q,d⟩:=zk.some_of (v:=v) (o:=(sS G k).map (·.2)) (by rw[l];exact c.val k);refine e1a2 (Option.map_eq_some_iff.mp q) λp J r=>?_;refine wpAny_getItem_heap (lw B) (Bk I.vK eb) n J ?_;rw[r];exact h f _ (I.tok _) d
def a11(r:A.units+1<kG)(I:Inv X d t H s)(g:yf H a y o)(n:RelV y u)(h:∀p,Inv X d t H p->Q (.bool o.isSome) p) :
  gZ 23 A (jy .In u<|.ref a) Q E s:=by
 rcases g with⟨f,k,e,i,l⟩|⟨f,k,b,e,i,eb,l⟩
 ·subst i;obtain⟨z,j,v,c,m⟩:=BD I.vK e;refine wpAny_in_of (A4 n) j m.mapOf ?_;rw[<- (c.val k).yz,<- l];exact h _<|I.tok _
 ·subst i;cases (show u=h8 b from n);obtain⟨z,j,x,c,m⟩:=C9 I.vK e;refine wpAny_in_heap (lw r) (Bk I.vK eb) j m ?_;have q:=(c.val k).yz;rw[iN]at q;rw[<- q,<- l];exact h _<|I.tok _
def Ub(r:A.units+1<kG)(I:Inv X d t H s)(g:yf H a y o)(n:RelV y u)(h:∀p,Inv X d t H p->Q (.bool<|!o.isSome) p) :
  gZ 23 A (jy .NotIn u<|.ref a) Q E s:=by
 rcases g with⟨f,k,e,i,l⟩|⟨f,k,b,e,i,eb,l⟩
 ·subst i;obtain⟨z,j,v,c,m⟩:=BD I.vK e;refine wpAny_notIn_of (A4 n) j m.mapOf ?_;rw[<- (c.val k).yz,<- l];exact h _<|I.tok _
 ·subst i;cases (show u=h8 b from n);obtain⟨z,j,x,c,m⟩:=C9 I.vK e;refine wpAny_notIn_heap (lw r) (Bk I.vK eb) j m ?_;have q:=(c.val k).yz;rw[iN]at q;rw[<- q,<- l];exact h _<|I.tok _
def BE{h:Nat}(I:Inv X c i H s)(j:Zp (H a))(k:i4 a s.heap d)(l:∃q,d.get? a=↑q)(f:v4 X.prog X.w (upd H a g) d a g) :
  Inv X c i (upd H a g) { s with heap:=d,toks:=h} :=
 I.write (x:=a) (e:=a) j (.inl rfl) (λb q m z=>(k.2 b m).trans z) l f
def D6{d:iM}{b:List (Key×V)}(z:b.length<=gS)(f:(a==kT)=false)(c:KV b e)(g:d.DictOf (vA P w) a e) :
  v4 P w h d a (.dK b):=#[z,f,e,c,g]
def FZ(M:A.units+1<kG)(I:Inv X j N H s)(g:GF H a y v O)(D:RelV y u)(F:RelV v r)(h:∀G,Inv X j N O G->Q () G) :
  gZ 23 A (sA (.ref a) u r) Q E s:=by
 rcases g with⟨d,k,e,n,l,o⟩|⟨d,k,b,e,n,eb,l,o⟩
 ·subst n o;obtain⟨z,p,P,f,t⟩:=MK I.vK e;have x:P.length<=gS:=by rw[<- f.length];exact z
  have B:(putK d k v).length<=gS:=by have:=Ac d k v;lia
  refine wpAny_setItem_pairs (hsz:=x) (A4 D) t λJ i C=>h _ ?_;have R:∃q,J.get? a=↑q:=e3a2 i λq _ _ m _=> #[q,m];exact BE I (by rw[e];exact True.intro) C R<|D6 B p (f.put k F) i
 ·subst n o;cases (show u=h8 b from D);obtain⟨z,p,S,f,t⟩:=ZM I.vK e;have x:S.length<=gS:=by rw[<- Paired.length f];exact z
  have B:(putK d k v).length<=gS:=by have:=Ac d k v;lia
  refine wpAny_setItem_heap (hsz:=x) (lw M) (Bk I.vK eb) t λJ i C=>h _ ?_;obtain⟨q,T,U,m,W,Y,Z,_,h5⟩:=i;refine BE I (by rw[e];exact True.intro) C #[q,m] #[B,p,_,(f.put k eb F).keeps λc ys L=>?_,q,T,U,m,W,Y,Z,h5];rw[uR<|Zo L e<|λz=>nomatch z];exact L
def NX(I:Inv X d j H s)(e:H a=↑(.dK b))(m:RelV (kV k) u)(l:(yq b k).isSome=true)(h:∀i,Inv X d j (upd H a<|.dK<|Aa b k) i->Q () i) :
  gZ 23 A (delItem (.ref a) u) Q E s:=by
 obtain⟨z,n,o,c,g⟩:=MK I.vK e
 refine wpAny_delItem_slot g.typeIs q0q qY
  (ol qY g.typeIs PySem.F.entry_dict_delitem (PySem.F.args_dict_delitem_2 _ _) (meets_dict_delitem_pairs (vA X.prog X.w) a<|A4 m) ⟨o,g,by rw[<- c.length];exact z,by rw[<- (c.val k).yz];exact l,λp f r=>h _ ?_⟩)
 have t:∃q,p.get? a=↑q:=e3a2 f λq _ _ v _=> #[q,v];exact BE I (by rw[e];exact True.intro) r t<|D6 (iA (IY b k) z) n (c.drop k) f
def ZN(I:Inv X d B H s)(e:H a=↑(.dK b))(j:RelV (kV k) u)(l:yq b k=↑v)(n:more=[]\/∃x,more=[x])
 (h:∀f p,Inv X d B (upd H a<|.dK<|Aa b k) p->RelV v f->Q f p):gZ 23 A (call (.builtin "dict.pop") (.ref a::u::more)) Q E s:=by
  obtain⟨z,C,r,c,y⟩:=MK I.vK e
  obtain⟨f,D,m⟩:=zk.some_of (v:=v) (o:=qr r k) (by rw[<- l];exact c.val k)
  have G:(keyPart u).isSome=true:=by
    cases k with
    |inl i=>obtain⟨t,q⟩:=(show ∃t,u=lN i t from j);subst q;rfl
    |inr x=>obtain⟨t,q⟩:=(show ∃t,u=Value.str x t from j);subst q;rfl
  have J:rN "dict.pop" #[.ref a::u::more,[]]:=by
    rcases n with q|⟨x,q⟩
    · subst q; exact PySem.F.args_dict_pop_2 _ _
    · subst q; exact PySem.F.args_dict_pop_3 _ _ _
  refine ol rX y.typeIs PySem.F.entry_dict_pop J (meets_dict_pop_there (vA X.prog X.w) a (A4 j) more n G)
    #[r,f,y,by rw[<- c.length];exact z,D,λL g M=>h f _ ?_ m]
  have N:∃q,L.get? a=↑q:=e3a2 g λq _ _ O _=> #[q,O]
  exact BE I (by rw[e];exact True.intro) M N<|D6 (iA (IY b k) z) C (c.drop k) g
def ZO(I:Inv X b g H s)(e:Rd H a (.dK d))(h:∀t f,Inv X b g H f->Q (.int d.length t) f):gZ 23 A (call (.builtin "len") [.ref a]) Q E s:=by obtain⟨z,i,k,c,j⟩:=BD I.vK e;refine call_len_dict i j (by rw[<- c.length];rw[iY]at z;lia) ?_;rw[<- c.length];exact h _ _<|I.tok _
def P0(i:iL):Prop:=∀a b,rW i false a b=operate [a,b] (oh a b)
def Uc{m:String} 
 (n:nA (.type T) "__getitem__"=pure (some<|.builtin m)) (p:P0 slice)
 (h:gZ (g8 a w) A (eval value g) (λo d=>gZ (g8 a w) A (eval slice g) (λi b=>b.TypeIs o T/\gZ (g8 a w) A (oh o i) Q E b) E d) E s) :
    gZ (g8 a w) A (eval (.Subscript value slice pos) g) Q E s:=by
  refine sR<|jb h (λo d j=>jb j (λi b c=>?_) λ_ _ x=>x) λ_ _ x=>x
  obtain⟨l,c⟩:=c
  refine am ?_
  rw[getitemInPython_of_ne l.not_modules]
  refine am<|pT l n ?_
  have f:gZ (g8 a w) A (rW slice false o i) (λr e=>gZ (g8 a w) A (letTemporaryGo value o r >>= λ_=>pure r) Q E e) E b:=by
    rw[p o i]
    exact wpAny_operating<|jb c (λr e k=>am<|wpAny_letTemporaryGo<|ap k) λ_ _ x=>x
  first
    | exact ap<|am f
    | exact am<|ap<|am f
    | exact am f
def IZ(I:Inv X f h H s)(g:yf H a y o):s.TypeIs (.ref a) "dict":=by
 rcases g with⟨c,k,e,_,_⟩|⟨c,k,b,e,_,_,_⟩
 ·obtain⟨_,_,i,_,d⟩:=BD I.vK e;exact d.typeIs
 ·obtain⟨_,_,j,_,d⟩:=C9 I.vK e;exact d.typeIs
def ZP(d e:TE):TE:=λb H Q=>d b H λx f=>e b f λy c=>∃a v,x=.ref a/\yf c a y ↑v/\Q v c
def a12(d e:TE):TE:=λb H Q=>d b H λy f=>e b f λx c=>∃a o,x=.ref a/\yf c a y o/\Q (.bl o.isSome) c
def Ud(d e:TE):TE:=λb H Q=>d b H λy f=>e b f λx c=>∃a o,x=.ref a/\yf c a y o/\Q (.bl<|!o.isSome) c
def ZQ(d e f:TE):TS:=λD b H=>f b H λv g=>d b g λx h=>e b h λy i=>∃a c,x=.ref a/\GF i a y v c/\D.nx b c
def ZR(e f g:TE)(h:V->V->Hp->VK->Prop):TS:=λD b H=>e b H λx i=>f b i λy c=>∃a v,x=.ref a/\yf c a y ↑v /\
 g b c λj k=>h v j k λz l=>∃d,GF l a y z d/\D.nx b d
def P1(e f:TE):TS:=λD c H=>e c H λx g=>f c g λy d=>∃a b k,x=.ref a/\d a=↑(.dK b)/\y=kV k/\(yq b k).isSome=true/\D.nx c (upd d a<|.dK<|Aa b k)
def GG(k:X.A.units+1<kG)(l:PE X o m)(n:PE X i ty)(p:P0 i):PE X (.Subscript o i pos) (ZP m ty):=by intro b s f H Q I h;refine Uc PySem.F.slot_dict_getitem.lookup p<|vI (l b s f H _ I h) λu q c=>e2a3 c λx H1 r t w=>vI (n b q f H1 _ r w) λE G c=>e2a3 c λy H2 j z d=>e2a3 d λa v B g C=>?_;subst B;obtain rfl:u=h8 a:=t;exact#[IZ j g,FY k j g z λJ L D e=>#[v,H2,D,e,C]]
def P2(f:X.A.units+1<kG)(j:PE X i ty)(k:PE X o l):PC X .In i o (a12 ty l):=by intro b s e H Q I h;refine vI (j b s e H _ I h) λC m c=>e2a3 c λy H1 n p q=>vI (k b m e H1 _ n q) λu D c=>e2a3 c λx H2 r t d=>e2a3 d λa v w g z=>?_;subst w;obtain rfl:u=h8 a:=t;exact a11 f r g p λE B=>#[.bl v.isSome,H2,B,rfl,z]
def Cy(f:X.A.units+1<kG)(j:PE X i ty)(k:PE X o l):PC X .NotIn i o (Ud ty l):=by intro b s e H Q I h;refine vI (j b s e H _ I h) λC m c=>e2a3 c λy H1 n p q=>vI (k b m e H1 _ n q) λu D c=>e2a3 c λx H2 r t d=>e2a3 d λa v w g z=>?_;subst w;obtain rfl:u=h8 a:=t;exact Ub f r g p λE B=>#[.bl<|!v.isSome,H2,B,rfl,z]
def GH(j:X.A.units+1<kG)(k:PE X o l)(m:PE X i ty)(n:PE X value p)(q:jW value (some<|.Subscript o i c) pos.line X.env=pure false) :
  PS X (.Assign [.Subscript o i c] value pos) (ZQ l ty p):=by
 intro b s e H D I h;refine wpAny_Assign_Subscript (vI (n b s e H _ I h) λr t d=>e2a3 d λv H1 w z B=>vI (k b t e H1 _ w B) λu C d=>e2a3 d λx H2 E F G=>vI (m b C e H2 _ E G) λP Q d=>e2a3 d λy H3 J L f=>e2a3 f λa H4 M g N=>?_) q;subst M;obtain rfl:u=h8 a:=F;exact FZ j J g L z λR O=>#[e,H4,O,N]
def Ue(p:X.A.units+1<kG)(t:PE X o w)(B:PE X i ty)(C:PE X value E)(j:ZF X op F)
 (G:∀f d new,augStore i f d new=(do kO [new,f,d] (sA f d new);release [new,f,d] [];pure .next)):PS X (.AugAssign (.Subscript o i q) op value pos) (ZR w ty E F):=by
  intro b s e H D I h
  refine sj (vI (t b s e H _ I h) λu J c=>e2a3 c λx H1 L M N=>vI (B b J e H1 _ L N) λd s2 c=>e2a3 c λy H2 O r k=>e2a3 k λa v P g Q=>?_) G
  subst P
  obtain rfl:u=h8 a:=M
  refine FY p O g r λR S T l=>vI (C b S e H2 _ T Q) λU W c=>e2a3 c λY H3 Z m q3=>vI (j b W e H3 v Y R U _ Z l m q3) λw3 s5 c=>e2a3 c λz H4 I5 rz n=>e1a2 n λH5 g5 q4=>?_
  exact FZ p I5 g5 r rz λs6 I6=>#[e,H5,I6,q4]
def GI(j:PE X o m)(n:PE X i ty):PS X (.Delete [.Subscript o i g] pos) (P1 m ty):=by intro b s d H D I h;refine wpAny_Delete<|wpAny_deleteEach_cons<|wpAny_delete_Subscript<|vI (j b s d H _ I h) λu p f=>e2a3 f λx H1 q r t=>vI (n b p d H1 _ q t) λF G f=>e2a3 f λy H2 v w c=>e3a5 c λa z k A e B l C=>?_;subst A B;obtain rfl:u=h8 a:=r;exact NX v e w l λJ E=>wpAny_deleteEach_nil #[d,_,E,C]
def I0(h:iM)(a:kT<h.objs.size):v4 P w H (h.push { cls:=.type "dict",data:=.dict #v[]}) h.objs.size (.dK []) :=
 #[i9 _,beq_eq_false_iff_ne.mpr<|Ne.symm<|hR a,[],.nil,sG h]
def D7:TE:=λ_ H Q=>∀p,H p=none->Q (.ref p) (upd H p<|.dK [])
def BF:PE X (.Dict [] [] pos) D7:=λb s c H Q I h =>
 wpAny_Dict_empty #[.ref ⇑s,_,I.laid (a:=⇑s) (o:=.dK []) (t':=s.toks) (λ_ _ q=>ce _ q) (gQ _)<|I0 s.heap I.big,rfl,h _<|I.vK.fresh<|gQ _]
def Kz:List (TE×TE)->St->Hp->(List (V×V)->Hp->Prop)->Prop
 | [],_,H,Q=>Q [] H
 | (tk,tv)::r,σ,H,Q=>tk σ H λx H1=>tv σ H1 λy H2=>Kz r σ H2 λps H3=>Q ((x,y)::ps) H3
abbrev VV:List (V×V)->List (cr×cr)->Prop:=Paired λp q=>RelV p.1 q.1/\RelV p.2 q.2
def PPs(X:Cx)(d:Pos)(c:List (Option iL))(a:List iL)(e:List (TE×TE)):Prop :=
 ∀(b:List (ci×Obj)) (s:gW) (f:St) (H:Hp) (Q:List (V×V)->Hp->Prop),Inv X b f H s->Kz e f H Q ->
  gZ 23 X.A (evalPairs<|pairTrees c a X.env d) (λi j=>∃g h,Inv X b f h j/\VV g i/\Q g h) X.xe s
def Uf:PPs X pos [] [] []:=λa s b H Q I h=>pairTrees_nil_walk #[[],H,I,.nil,h]
def P4(e:PE X k f)(g:PE X v i)(j:PPs X pos l m c) :
  PPs X pos (↑k::l) (v::m) ((f,i)::c):=λa s d H Q I h =>
 pairTrees_cons_walk (vI (e a s d H _ I h) λu n b=>e2a3 b λx H1 o p q=>vI (g a n d H1 _ o q) λD r b=>e2a3 b λy H2 t w z =>
  vI (j a r d H2 _ t z) λE F b=>e2a3 b λA H3 B rel C=>#[(x,y)::A,H3,B,.cons #[p,w] rel,C])
noncomputable def D8(b a:List (Key×V)):List (Key×V):=a.foldl (λc d=>putK c d.1 d.2) b
def KV.merge:∀{a:List (Key×V)} {d:List (Key×cr)} {b:List (Key×V)} {c:List (Key×cr)},KV a d->KV b c->KV (D8 b a) (merged c d):=by
 intro a d b c r
 induction r generalizing b c with
 |nil=>intro q;exact q
 | @cons p q i j h t f =>
  intro g
  have e:KV (putK b p.1 p.2) (stored c q.1 q.2):=by have:=g.put p.1 h.2;rw[<- h.1];exact this
  exact f e
def A5:∀(b a:List (Key×V)),(D8 a b).length<=a.length+b.length
 | [],a=>by show a.length<=a.length+0;lia
 |p::r,a=>by have c:=A5 r<|putK a p.1 p.2;have d:=Ac a p.1 p.2;show (D8 (putK a p.1 p.2) r).length<=_;rw[ij];lia
def KA:∀{d:List (Key×V)} {g:List (cr×cr)},VV (d.map λi=>(kV i.1,i.2)) g->∃e,Carries (vA P w) g e/\KV d e:=by
 intro j
 induction j with
 |nil=>intro _ r;rw[oT]at r;cases r;exact#[[],True.intro,.nil]
 |cons p d f =>
  intro _ r;rw[im]at r
  cases r with
  | @cons a b as bs h t =>
   refine e1a2 (f t) λe c q=>?_;obtain⟨l,k⟩:=b;exact#[(p.1,k)::e,#[A4 h.1,rfl,c],.cons #[rfl,h.2] q]
def ZS(b:List (TE×TE)):TE:=λe H Q=>∀p,H p=none->Kz b e (upd H p<|.dK []) λf c=>c p=↑(.dK [])/\∃a:List (Key×V),f=a.map (λd=>(kV d.1,d.2))/\a.length<=15/\Q (.ref p) (upd c p<|.dK<|D8 [] a)
def Ug(h:PPs X pos keys values i)(b:keys.all (·.isSome)=true)(n:keys.length=values.length)(p:keys≠[])
 (j:keys.length<=15):PE X (.Dict keys values pos) (ZS i):=by
  intro d s r H Q I q
  have t:=I.vK.fresh<|gQ ⇑s
  have u:=I.laid (a:=⇑s) (o:=.dK []) (h':=s.heap.push { cls:=.type "dict",data:=.dict #v[]}) (t':=s.toks) (λ_ _ q=>ce _ q) (gQ _)<|I0 s.heap I.big
  refine wpAny_Dict_walk (knd:=vA X.prog X.w) b n p j<|vI (h d _ r _ _ u<|q _ t) λR S v=>e2a4 v λT U m k e l=>e1a3 l λf x lk y=>?_
  subst x
  refine e1a2 (KA (P:=X.prog) (w:=X.w) k) λA c B=>?_
  obtain⟨z,C,D,E,F⟩:=MK m.vK e
  cases E
  refine#[A,c,F,λG g J=>#[.ref ⇑s,_,?_,rfl,y]]
  have L:(D8 [] f).length<=gS:=by
    have M:=A5 f []
    rw[nj]at M
    rw[iY];lia
  have N:∃q,G.get? ⇑s=↑q:=e3a2 g λq _ _ O _=> #[q,O]
  exact BE m (by rw[e];exact True.intro) J N<|D6 L C (B.merge .nil) g
structure M1(X:Cx)(o:iL)(m:Str)(apos:Pos)(e:iL)(cpos:Pos):Prop where
 base:iG o m X.env (eval o X.env)=eval o X.env
 few:((jm cpos (gP [e] X.env)).all (λx=>!x.1)&&(mZ cpos (kP [] X.env)).all (λx=>x.1.isSome)
  && decide (([e]:List iL).length+([]:List pN).length+(if ([]:List pN).isEmpty then 0 else 1)<30))=true
 line:(apos.endLine==cpos.line)=true
 trees:jm cpos (gP [e] X.env)=[(false,eval e X.env)]
structure M2(X:Cx)(o:iL)(m:Str)(apos:Pos)(e f:iL)(cpos:Pos):Prop where
 base:iG o m X.env (eval o X.env)=eval o X.env
 few:((jm cpos (gP [e,f] X.env)).all (λx=>!x.1)&&(mZ cpos (kP [] X.env)).all (λx=>x.1.isSome)
  && decide (([e,f]:List iL).length+([]:List pN).length+(if ([]:List pN).isEmpty then 0 else 1)<30))=true
 line:(apos.endLine==cpos.line)=true
 trees:jm cpos (gP [e,f] X.env)=[(false,eval e X.env),(false,eval f X.env)]
def IsD(H:Hp)(a:ci):Prop:=(∃b,Rd H a<|.dK b)\/∃b,Rd H a<|.dT b
def KC(I:Inv X k l H s)(d:IsD H a) :
  s.TypeIs (.ref a) "dict"/\(∀b,h8 a=.ref b->∃c,s.heap.get? b=↑c/\c.dict=none)/\(a==kT)=false:=by
 rcases d with⟨g,e⟩|⟨g,e⟩
 ·obtain⟨_,h,m,_,f⟩:=BD I.vK e;refine#[f.typeIs,λb q=>?_,h];cases q;obtain⟨c,_,_,i,j,_⟩:=f;exact#[c,i,j.2.1]
 ·obtain⟨_,h,n,_,f⟩:=C9 I.vK e;refine#[f.typeIs,λb q=>?_,h];cases q;obtain⟨c,_,_,i,j,_⟩:=f;exact#[c,i,j.2.1]
def XM(r:A.units+1<kG)(I:Inv X d t H s)(g:yf H a y o)(n:RelV y u)(h:∀p q,Inv X d t H q->RelV (o.getD .wF) p->Q p q) :
  gZ 23 A (call (.builtin "dict.get") [.ref a,u]) Q E s:=by
 rcases g with⟨i,k,e,j,l⟩|⟨i,k,b,e,j,eb,l⟩
 ·subst j;obtain⟨z,m,x,c,f⟩:=BD I.vK e;refine ol kq f.typeIs mu (rE _ _) (meets_dict_get (vA X.prog X.w) a (A4 n) m) #[_,f.mapOf,h _ _ (I.tok _) ?_];rw[l];exact(c.val k).getD rfl
 ·subst j;cases (show u=h8 b from n);obtain⟨z,m,v,c,f⟩:=C9 I.vK e;refine ol kq f.typeIs mu (rE _ _) (meetsH_dict_get (pc<|vA X.prog X.w) a b m) #[lw r,k,v,Bk I.vK eb,f,h _ _ (I.tok _) ?_];rw[l];exact(c.val k).getD rfl
def XQ(x:A.units+1<kG)(I:Inv X f B H s)(g:yf H a y o)(p:RelV y u)(q:RelV d r)(h:∀t v,Inv X f B H v->RelV (o.getD d) t->Q t v) :
  gZ 23 A (call (.builtin "dict.get") [.ref a,u,r]) Q E s:=by
 rcases g with⟨j,k,e,m,l⟩|⟨j,k,b,e,m,eb,l⟩
 ·subst m;obtain⟨z,n,D,c,i⟩:=BD I.vK e;refine ol kq i.typeIs mu (rF _ _ _) (meets_dict_get_default (vA X.prog X.w) a (A4 p) n r) #[_,i.mapOf,h _ _ (I.tok _) ?_];rw[l];exact(c.val k).getD q
 ·subst m;cases (show u=h8 b from p);obtain⟨z,n,C,c,i⟩:=C9 I.vK e;refine ol kq i.typeIs mu (rF _ _ _) (meetsH_dict_get_default (pc<|vA X.prog X.w) a b n r) #[lw x,k,C,Bk I.vK eb,i,h _ _ (I.tok _) ?_];rw[l];exact(c.val k).getD q
def XU(e f:TE):TE:=λb H Q=>e b H λx c=>∃a,x=.ref a/\IsD c a/\f b c λy d=>∃o,yf d a y o/\Q (o.getD .wF) d
def XW(e f g:TE):TE:=λb H Q=>e b H λx c=>∃a,x=.ref a/\IsD c a/\f b c λy h=>g b h λz d=>∃o,yf d a y o/\Q (o.getD z) d
def XX(f g:TE):TE:=λc H Q=>f c H λx d=>∃a,x=.ref a/\IsD d a/\g c d λy e=>∃b k v,e a=↑(.dK b)/\y=kV k/\yq b k=↑v/\Q v (upd e a<|.dK<|Aa b k)
def P5(p:X.A.units+1<kG)(q:PE X o r)(t:PE X e ty)(m:M1 X o "get" apos e c):PE X (.Call (.Attribute o "get" apos) [e] [] c) (XU r ty):=by intro b s l H Q I h;refine rh m.base m.few m.line om kq rY<|vI (q b s l H _ I h) λu v f=>e2a3 f λx H1 n w i=>e1a3 i λa z d B=>?_;subst z;obtain rfl:u=h8 a:=w;refine e0a3 (KC n d) λC D _=>?_;refine#[C,D,?_];rw[m.trees];refine kf rfl<|jA<|jX<|vI (t b v l H1 _ n B) λM N f=>e2a3 f λy H2 E G j=>e1a2 j λO g J=>lm ?_;exact XM p E g G λP R L k=>#[_,H2,L,k,J]
def P6(q:X.A.units+1<kG)(r:PE X o t)(v:PE X e ty)(w:PE X f B)(m:M2 X o "get" apos e f c):PE X (.Call (.Attribute o "get" apos) [e,f] [] c) (XW t ty B):=by
 intro b s j H Q I h;refine rh m.base m.few m.line om kq rY<|vI (r b s j H _ I h) λu C i=>e2a3 i λx H1 p D k=>e1a3 k λa E d G=>?_;subst E;obtain rfl:u=h8 a:=D;refine e0a3 (KC p d) λJ L _=>?_;refine#[J,L,?_];rw[m.trees]
 refine kf rfl (jA (jX (vI (v b C j H1 _ p G) λW M i=>e2a3 i λy H2 N O P =>
  jX (vI (w b M j H2 _ N P) λY Z i=>e2a3 i λz H3 R S l=>e1a2 l λov g T=>lm ?_))))
 exact XQ q R g O S λw' s4 U n=>#[_,H3,U,n,T]
def P7(q:PE X o r)(t:PE X e ty)(m:M1 X o "pop" apos e c):PE X (.Call (.Attribute o "pop" apos) [e] [] c) (XX r ty):=by intro b s n H Q I h;refine rh m.base m.few m.line om rX PySem.F.type_dict_pop<|vI (q b s n H _ I h) λu w g=>e2a3 g λx H1 p z i=>e1a3 i λa A d B=>?_;subst A;obtain rfl:u=h8 a:=z;refine e0a3 (KC p d) λC D _=>?_;refine#[C,D,?_];rw[m.trees];refine kf rfl<|jA<|jX<|vI (t b w n H1 _ p B) λP R g=>e2a3 g λy H2 E G f=>e3a4 f λJ k v L M l N=>lm ?_;subst M;exact ZN E L G l (.inl rfl) λS T O j=>#[v,_,O,j,N]
end L2
namespace Att
open PySem PySem.W PySem.Calls PyProof.Rows
def Ds:∀(c:List Int)(d:List cr),WellAll P h d (c.map WData.int)->kY d c:=by
 intro c
 induction c with
 |nil =>
  intro d w;rw[oT]at w;cases w;exact .nil
 |cons n c e =>
  intro d w;rw[im]at w
  cases w with
  |cons a b =>
   cases a;exact .cons _ _<|e _ b
def NY{l:qE}{n:Nat}(o:l.most=↑n) 
 (b:l.row.toRowW.claim.pre args=true) (j:WellAll P h vals args) :
    ∃a m c,vals=[h8 a]/\args=[WData.list<|c.map WData.int]/\h.get? a=some { cls:=.type "list",data:=.seq m.toArray}/\kY m c/\c.length<=n:=by
  have k:WShape.hasAll [] args [.list .int]=true:=(pre_splitW b).1
  have p:l.pre.holds [] { args:=args}=true:=(pre_splitW b).2
  obtain⟨d,r,rfl,s,t⟩:=hasAllW_cons k
  obtain rfl:=hasAllW_nil t
  obtain⟨y,rfl,u⟩:=hasW_list s
  obtain⟨c,rfl⟩:=items_int u
  have e:c.length<=n:=by
    have g:(WTm.not<|.lt (.lit<|.int (n:Int))<|.len<|.arg 0).holds [] { args:=[.list<|c.map .int]}=true:=by
      have g:=(holds_andW p).1
      rw[o]at g
      exact g
    have i:=condW_of g<|w_not<|w_lt w_lit<|w_len_list<|w_arg rfl
    rw[gV]at i
    refine qR λq=>?_
    first
      | (rw[decide_eq_true z]at i;exact hV i q0q)
      | (simp at i;omega)
  cases j with
  |cons v w =>
    cases w
    cases v with
    |list x f=>exact#[_,_,c,rfl,rfl,x,Ds c _ f,e]
def NZ(l:qE)(args:List WData):l.row.toRowW.claim.post args (.bool true) args=true :=
 postW_of (r:=l.row.toRowW) (X:=(true==true))
  (show WShape.has [] (.bool true) .bool=true by first|rfl|decide|simp[WShape.has,WShape.arms,WShape.armsAll])
  (show (WTm.eq .res<|.lit<|.bool true).value [] { args:=args,res:=some<|.bool true,after:=args}=some (.bool<|true==true) from w_eq_bool (w_res rfl) w_lit) rfl
def Ja{l:qE}{n:Nat}{d:DefRec}
 (E:l.most=↑n) (x:d.params.defaults=[])
 (call:∀(w:iR)(c b:gW)(s y:Str->Option cr)(j:ci)(o:Obj)(pm t e:cr)(a:ci)(i:List cr)(u:List Int),
 Ground q g [] F w c s y b.heap->H w b.heap ->
 b.heap.get? j=↑o->o.data=.func (docDef d.name d.params d.body d.scope pm t e)->b.heap.CodeRec t d.name->s d.name=↑(.ref j) ->
 b.heap.get? a=some { cls:=.type "list",data:=.seq i.toArray}->kY i u->u.length<=n->b.gens=#v[] ->
 mE (g8 l.prog w) rj (.call (.ref j) #[[.ref a],[]]) (λr v=>r=.ok (.ret (.bool true))/\OldK b.heap v.heap/\v.os=b.os/\nE v.gens) b) :
    uK q g F H l.row.toRowW d [] (λf i=>tS f i):=by
  intro w c b s y G Y j o pm t e I kV J hd z C A L args vals as k D M B N
  obtain rfl:I=.none:=Dflts.none C x
  obtain rfl:kV=.none:=Dflts.noKw C
  obtain⟨a,i,u,rfl,rfl,m,h,p⟩:=NY E k B
  refine enter_call<|jT (call w c b s y j o pm t e a i u G Y J (fd_plain hd) z A m h p L) λr v O=>?_
  obtain⟨rfl,P,Q,R⟩:=O
  exact#[.inl #[.bool true,.bool true,[],rfl,λ_=>rfl,.bool true,NZ l _,λ_=>#[iw,λ_ S=>(nomatch S)]],P,Q,R]
end Att
namespace L2
open PySem PySem.Spec PyProof.Rows
def F7:∀{a:List cr} {b:List Int},kY a b->Vals (b.map V.int) a:=by
 intro _ _ z
 induction z with
 |nil=>exact .nil
 |cons n t h c=>exact .cons #[t,rfl] c
noncomputable def vX(s:il):Arguments:=match s with
 | .FunctionDef _ a _ _ _ _ _ _ _ _=>a
 |_=>{ posonlyargs:=[],args:=[],vararg:=none,kwonlyargs:=[],kw_defaults:=[],kwarg:=none,defaults:=[]}
noncomputable def vB(s:il):List il:=match s with
 | .FunctionDef _ _ b _ _ _ _ _ _ _=>b
 |_=>[]
noncomputable def uQ(s:il):l9:=match s with
 | .FunctionDef _ _ _ _ _ _ sc _ _ _=>sc
 |_=>{ kind:=.function,names:=[],isGenerator:=false,isCoroutine:=false}
abbrev P8:PF:=λ_ _ _ _ _ _=>False
abbrev E0:XK:=λ_ _ _=>False
structure yN(K:gO)(x qual:Str)(st:il)(f:ci)(fd:iH):Prop where
 ex:∃(oc:cr)(od:Option ci)(kV doc pm:cr)(an:Option ci)(TL ct:cr) (N0:Array (Option cr)),
  fd=jC x qual (vX st) (vB st) (uQ st) .none kV doc pm an TL ct/\K.lookup f=some #[oc,od,.func fd,N0]/\jt K TL qual=true
 kp:jh K (.ref f)=true
section
variable{P:iB}{w:iR}{K:gO}{mg:Str->Option cr}{base:iM}
def yN.ok{g:il}{k:Nat}(F:yN K x c g f o)(S:uY N m (uQ g))(i:∀d H Q E,n d H Q E->d.length=m.length)
 (e:∀(b:cr)(A:jx)(a:List Env)(s:gW)(H:Hp)(d:List V)(Q:VK)(E:XK),ww k (A.deeper (oJ c (uQ g) ⇑s f b))->n d H Q E ->
 ∃t,Ft (vP P8 P w K mg base N c (uQ g) f b A a s H E).nox (vB g) t/\t { nx:=λ_ p=>Q .wF p,rt:=Q} (start N d) H):vD P w K mg base P8 (k+1) f o m n:=by
  obtain⟨y,z,B,r,C,D,b,G,u,rfl,lk,j⟩:=F.ex
  refine IU lk j S i λA a s H d Q E v l=>?_
  refine e1a2 (e b A a s H d Q E v l) λt h q=>?_
  exact#[t,h.nox,q]
def yN.binds{d:il}{ps:List Str}(F:yN K x c d f l)
 (h:∀(e a g:cr)(i:Option ci)(b j:cr)(k:List cr),k.length=ps.length->sO (jC x c (vX d) (vB d) (uQ d) .none e a g i b j) #[k,[]]=pure (ps.zip k)):Binds K l ps []:=by
  obtain⟨o,p,e,a,g,i,b,j,m,rfl,lk,n⟩:=F.ex
  exact .all<|h e a g i b j
def D9{st:il}{e:cr}(l:K.lookup f=some #[j,m,.func<|jC x a (vX st) (vB st) (uQ st) .none e d pm h b i,g])
 (c:jt K b a=true)(k:jh K (.ref f)=true):yN K x a st f (jC x a (vX st) (vB st) (uQ st) .none e d pm h b i):=#[#[j,m,e,d,pm,h,b,i,g,rfl,l,c],k]
end
def N3{n:Nat}(h:n<=1000):n<gS:=jk h q0q
def pv(i:Nat)(b:X.N[i]?=↑x:=by rfl)(c:Vis X.env.scope x:=by first|exact k9 rfl|exact uG (k9 rfl)|exact uG<|uG rfl)(d:(x==("__debug__":Str))=false:=by decide)
 (a:(x==("__classdict__":Str))=false:=by decide):PE X (.Name x pos) (vC i):=J8 b c d a
def N4:yM X (.builtin "len") (λc H Q=>∃a b,c=[V.ref a]/\H a=↑(.dK b)/\Q (.int b.length) H):=by intro d s i H c j Q I r h;obtain⟨a,b,rfl,e,q⟩:=h;obtain⟨u,rfl,f⟩:=vals1 r;cases f;exact ZO I (.inl e) λt k g=>#[.int b.length,H,g,#[t,rfl],q]
def a13{A B:Prop}(h:A):if true=true then A else B:=by rw[gN rfl];exact h
def Uh{c A B:Prop}[Decidable c](a:c->A)(b:¬c->B):if c then A else B:=by
 by_cases h:c
 ·rw[gN h];exact a h
 ·rw[gM h];exact b h
def Dt(H a:Hp):Prop:=∀b o,H b=↑o->a b=↑o
def Dt.trans{d e:Hp}(a:Dt H d)(b:Dt d e):Dt H e:=λc o h=>b c o<|a c o h
def Dt.free(e:Dt H a)(h:a l=Option.none):H l=Option.none:=by
 cases q:H l with
 |none=>rfl
 |some o =>
  rw[e l o q]at h;cases h
def Dt.seq{K:gO}(e:Dt H b)(h:wo K H a c):wo K b a c:=by
 rcases h with(h|⟨o,h⟩)|h
 ·exact .inl<|.inl<|e _ _ h
 ·exact .inl<|.inr #[o,e _ _ h]
 ·exact .inr h
end L2
namespace SX
open PySem
def zP(a:Array Nat):Prop:=a.toList.Pairwise (· < ·)
def DA(r:zP c){i j a b:Nat}(d:c.toList[i]?=↑a)(e:c.toList[j]?=↑b)(h:i<j):a<b:=by obtain⟨f,g⟩:=List.getElem?_eq_some_iff.mp d;obtain⟨k,l⟩:=List.getElem?_eq_some_iff.mp e;have:=List.pairwise_iff_getElem.mp r i j f k h;rw[g,l]at this;exact this
def Ui(f:Array Nat)(j:Nat)(r:zP f):∀(b d c:Nat),d<=c->c<=f.size->c-d<=b ->
  (∀i a,i<d->f.toList[i]?=↑a->a<j)->(∀i a,c<=i->f.toList[i]?=↑a->j<=a) ->
  m4 f j b d c<=f.size/\(∀i a,i<m4 f j b d c->f.toList[i]?=↑a->a<j) /\
   (∀i a,m4 f j b d c<=i->f.toList[i]?=↑a->j<=a):=by
 intro b
 induction b with
 |zero =>
  intro d c t k u l m;have e:d=c:=by omega
  subst e;exact#[k,l,m]
 |succ b s =>
  intro d c t k u l m;unfold m4;by_cases h:d<c
  ·rw[gN h];have n:(d+c) / 2<f.size:=by omega
   have g:f.toList[(d+c) / 2]?=↑(f.getD ((d+c) / 2) j):=by rw[iI,lp];rw[jr n];rfl
   by_cases o:f.getD ((d+c) / 2) j<j
   ·rw[gN o];refine s _ _ q0d k q0d (λi a p e=>?_) m;by_cases q:i=(d+c) / 2
    ·subst q;rw[g]at e;cases e;exact o
    ·have:=DA r e g q0d;omega
   ·rw[gM o];refine s _ _ q0d q0d q0d l<|λi a p e=>?_;by_cases q:i=(d+c) / 2
    ·subst q;rw[g]at e;cases e;omega
    ·have:=DA r g e q0d;omega
  ·rw[gM h];have e:d=c:=by omega
   subst e;exact#[k,l,m]
def zq(r:zP b)(j:Nat):hX b j<=b.size/\(∀i a,i<hX b j->b.toList[i]?=↑a->a<j) /\
  (∀i a,hX b j<=i->b.toList[i]?=↑a->j<=a):=by
 refine Ui b j r b.size 0 b.size (i9 _) (gQ _) q0a (λi a h=>by lia)<|λi a h e=>?_;have:=(List.getElem?_eq_some_iff.mp e).1;rw[gY]at this
 lia
def below_at(r:zP b){i j:Nat}(h:b.toList[i]?=↑j):hX b j=i:=by
 obtain⟨f,c,d⟩:=zq r j;rcases uH (hX b j) i with q|q|q
 ·cases e:b.toList[hX b j]? with
  |none =>
   have:=List.getElem?_eq_none_iff.mp e;have:=(List.getElem?_eq_some_iff.mp h).1
   lia
  |some a =>
   have:=DA r e h q;have:=d _ a (gQ _) e
   lia
 ·exact q
 ·have:=c i j q h
  lia
def KD(r:zP b){i j:Nat}(h:b.toList[i]?=↑j):hX b (j+1)=i+1:=by
 obtain⟨f,c,d⟩:=zq r<|j+1;rcases uH (hX b<|j+1) (i+1) with q|q|q
 ·have:=d i j q0a h
  lia
 ·exact q
 ·cases e:b.toList[i+1]? with
  |none =>
   have:=List.getElem?_eq_none_iff.mp e;rw[gY]at this
   lia
  |some a =>
   have:=DA r h e q0a;have:=c (i+1) a q e
   lia
def KG(r:zP b):hX b 0=0:=by
 obtain⟨f,d,g⟩:=zq r 0
 cases e:hX b 0 with
 |zero=>rfl
 |succ k =>
  cases c:b.toList[0]? with
  |none =>
   have:=List.getElem?_eq_none_iff.mp c;rw[gY]at this
   lia
  |some a =>
   have:=d 0 a q0a c
   lia
def toList_erase(a:Array b)(p:Nat):(i7 a p).toList=a.toList.take p++a.toList.drop (p+1):=by unfold i7;rw[pO,m6,m6];simp[js]
def Ea(a:Array b)(p:Nat)(x:b):(jg a p x).toList=a.toList.take p++x::a.toList.drop p:=by unfold jg;rw[pO,qh,m6,m6];simp[js]
def KH(r:zP a)(p:Nat):zP (i7 a p):=by
 unfold zP;rw[toList_erase];refine List.Pairwise.sublist ?_ r
 conv=>rhs;rw[<- sT p a.toList]
 exact List.Sublist.append (List.Sublist.refl _)<|List.drop_sublist_drop_left _<|lP p
def P9(r:zP c){j:Nat}(f:j∉c.toList):zP (jg c (hX c j) j):=by
 obtain⟨t,g,h⟩:=zq r j;unfold zP;rw[Ea];have k:(c.toList.take (hX c j)++c.toList.drop (hX c j)).Pairwise (· < ·):=by rw[sT];exact r
 obtain⟨l,m,n⟩:=List.pairwise_append.mp k
 have o:∀a∈c.toList.take (hX c j),a<j:=λa d=>by
  obtain⟨i,e⟩:=lK d;rw[t6]at e;split at e
  ·exact g i a (by assumption) e
  ·cases e
 have p:∀a∈c.toList.drop (hX c j),j<a:=λa d=>by
  obtain⟨i,e⟩:=lK d;rw[t7]at e;have:=h _ a (oM _ i) e;have:j≠a:=λq=>f (by rw[q];exact List.mem_of_mem_drop d)
  lia
 refine List.pairwise_append.mpr #[l,List.pairwise_cons.mpr #[p,m],λa d b s=>?_];rcases List.mem_cons.mp s with q|q
 ·rw[q];exact o a d
 ·exact n a d b q
def N5{t:jH}(r:zP t.place){j:Nat}(h:∀i,t.slot j≠.live i):j∉t.place.toList:=λa=>by obtain⟨i,e⟩:=lK a;have b:=below_at r e;refine h (hX t.place j) ?_;unfold qZ;rw[gN];rw[b,<- iI,e];simp
def KI{t:jH}{h:Int}:∀(b:Nat)(p:lq),(∀d,p.dummy=↑d->∀i,t.slot d≠.live i) ->
  ∀j c,jI t o h b p=↑(.empty j c)->∀i,t.slot (c.getD j)≠.live i:=by
 intro b
 induction b with
 |zero=>intro p _ j c e;cases e
 |succ b f =>
  intro p g j c e;unfold jI at e
  cases q:t.slot p.j with
  |empty =>
   rw[q]at e;injection e with e;injection e with l m;subst l m
   cases n:p.dummy with
   |none=>intro i z;rw[qq,q]at z;cases z
   |some d=>exact g d n
  |dummy =>
   rw[q]at e;refine f _ (λd a i z=>?_) j c e
   have:d=p.j:=by
    unfold lG at a;split at a
    ·injection a with a;exact a.symm
    ·injection a with a;exact a.symm
   rw[this,q]at z;cases z
  |live k =>
   rw[q]at e;dsimp only at e;split at e
   ·cases e
   ·refine f _ (λd a=>?_) j c e
    have:p.dummy=↑d:=by unfold lG at a;split at a<;>exact a
    exact g d this
set_option tactic.hygienic true in
def Jb{t:jH}{h:Int}{j:Nat}{b:Bool}(r:zP t.place)(e:t.freeSlot h=↑(j,b)):j∉t.place.toList:=by
 refine N5 r ?_;unfold pU qK at e;split at e
 ·rename_i a c f
  injection e with e;injection e with g i;subst g;exact KI _ _ (λd q=>by cases q) a c f
 ·cases e
def Cz{c k l:Nat}{d i:Bool}(e:nQ c k l d i m=↑(t,n)) :
  zP t.place/\t.led=d/\t.plain=i/\t.mask=c/\t.dummies=#v[]/\t.place.size=n.size:=by
 unfold nQ at e
 cases q:pV c m with
 |none=>rw[q]at e;cases e
 |some j =>
  rw[q]at e;injection e with e;injection e with o p;subst o p;refine#[?_,rfl,rfl,rfl,rfl,q0o];unfold zP;rw[t9];rw[List.pairwise_filterMap];refine o4 ?_ sH;intro a b f x r y s
  have g:x=a:=by revert r;cases (j.getD a none)<;>simp;intro z;exact z.symm
  have h:y=b:=by revert s;cases (j.getD b none)<;>simp;intro z;exact z.symm
  subst g h;exact f
noncomputable def Pd(m i:Nat):Nat:=(i*5+1)%(m+1)
noncomputable def Qa(m:Nat):Nat->Nat->Nat
 | 0,i=>i
 |n+1,i=>Qa m n<|Pd m i
noncomputable def orb(m:Nat):Nat->Nat->List Nat
 | 0,_=>[]
 |n+1,i=>i::orb m n (Pd m i)
def GJ(m a b i:Nat):Qa m (a+b) i=Qa m b (Qa m a i):=by
 induction a generalizing i with
 |zero=>rw[sU];rfl
 |succ a c=>rw[Nat.succ_add];exact c _
def Uj(m:Nat):∀(n i k:Nat),k∈orb m n i->∃a,a<n/\Qa m a i=k:=by
 intro n
 induction n with
 |zero=>intro i k h;cases h
 |succ n b =>
  intro i k h;rcases List.mem_cons.mp h with q|q
  ·exact#[0,q0a,q.symm]
  ·obtain⟨a,c,e⟩:=b _ _ q;exact#[a+1,q0a,e]
noncomputable def GK(m:Nat):Bool:=Qa m (m+1) 0==0&&(ik<|m+1).all λk=>(orb m (m+1) 0).contains k
def F8{m:Nat}(h:GK m=true):∀i k,i<=m->k<=m->∃n,n<=m/\Qa m n i=k:=by
 obtain⟨d,j⟩:=Bool.and_eq_true_iff.mp h;have d:Qa m (m+1) 0=0:=by simpa using d
 have c:∀k,k<=m->∃a,a<m+1/\Qa m a 0=k:=λk e=>by have:=List.all_eq_true.mp j k<|List.mem_range.mpr q0d;exact Uj m _ _ _ (by simpa using this)
 intro i k l e;obtain⟨a,p,f⟩:=c i l;obtain⟨b,q,g⟩:=c k e;by_cases o:a<=b
 ·refine#[b-a,q0d,?_];rw[<- f,<- GJ,show a+(b-a)=b by omega,g]
 ·refine#[m+1-a+b,q0d,?_];rw[<- f,<- GJ,show a+(m+1-a+b)=(m+1)+b by omega,GJ,d,g]
def F9{m i:Nat}(h:i<=m):jf m i<=m/\i<=jf m i:=by unfold jf;split<;>lia
set_option tactic.hygienic true in
def Uk{m:Nat}:∀(a i p:Nat),i<=m->∀j,jd m c a i p=↑j->j<=m/\c.getD j ↑0=none:=by
 intro a
 induction a with
 |zero=>intro i p _ j e;cases e
 |succ a d =>
  intro i p f j e;unfold jd at e;split at e
  ·rename_i k b
   injection e with e;subst e;have g:=List.find?_some b;have h:=List.mem_range.mp<|List.mem_of_find?_eq_some b;have:=F9 f;refine#[q0d,?_];simpa[Option.isNone_iff_eq_none] using g
  ·dsimp only at e;refine d _ _ ?_ j e;have:=nY (i*5+1+p / 32)<|nM m;exact j5 this
set_option tactic.hygienic true in
def KJ{m:Nat}{b:Array (Option Nat)}{k:Nat}(d:b.getD k ↑0=none):∀(n a i:Nat),i<=m->n<a->Qa m n i=k->∃j,jd m b a i 0=↑j:=by
 intro n
 induction n with
 |zero =>
  intro a i c g e;obtain⟨a,rfl⟩:∃f,a=f+1:=#[a-1,q0a];have e:i=k:=e;subst e;unfold jd;split
  ·exact#[_,rfl]
  ·rename_i q
   have:=List.find?_eq_none.mp q 0<|List.mem_range.mpr (by have:=(F9 c).2;lia);rw[Nat.add_zero,d]at this;exact hV rfl this
 |succ n h =>
  intro a i c g e;obtain⟨a,rfl⟩:∃f,a=f+1:=#[a-1,q0a];unfold jd;split
  ·exact#[_,rfl]
  ·dsimp only
   have l:kd m i 0=(Pd m i,0):=by unfold kd Pd;simp
   rw[l];exact h a (Pd m i) (j5<|nY _<|nM m) q0a e
def N6{m:Nat}{h:Array (Option Nat)}(l:GK m=true){k:Nat}(d:k<=m)(o:h.getD k ↑0=none):∀(c a i p:Nat),i<=m->p<32 ^ c->c+m+1<=a->∃j,jd m h a i p=↑j:=by
 intro c
 induction c with
 |zero =>
  intro a i p g b q;have:p=0:=by rw[Nat.pow_zero]at b;lia
  subst this;obtain⟨n,s,e⟩:=F8 l i k g d;exact KJ o n a i g q0a e
 |succ c r =>
  intro a i p g b q;obtain⟨a,rfl⟩:∃f,a=f+1:=#[a-1,q0a];unfold jd;split
  ·exact#[_,rfl]
  ·dsimp only;refine r a _ (p / 32) (j5<|nY _<|nM m) ?_ q0a;rw[Nat.pow_succ]at b;exact tT (by rw[Nat.mul_comm];exact b)
def Qb(x:Nat):∀(l:List (Option Nat)) (j:Nat),l[j]?=↑none->((l.set j<|↑x).filterMap id).Perm (x::l.filterMap id):=by
 intro l
 induction l with
 |nil=>intro j h;simp at h
 |cons a l b =>
  intro j h
  cases j with
  |zero =>
   have:a=none:=by simpa using h
   subst this;simp
  |succ j =>
   have c:l[j]?=↑none:=by simpa using h
   cases a with
   |none=>simpa using b j c
   |some y =>
    have:=b j c;exact(oN y this).trans<|List.Perm.swap x y _
def has_none:∀(l:List (Option Nat)),(l.filterMap id).length<l.length->∃j:Nat,l[j]?=↑none:=by
 intro l
 induction l with
 |nil=>intro h;simp at h
 |cons a l b =>
  intro h
  cases a with
  |none=>exact#[0,rfl]
  |some y =>
   obtain⟨j,e⟩:=b (by simpa using h);exact#[j+1,by simpa using e]
def ML(h:Int):ji h<32 ^ 13:=by
 have a:(h%(2 ^ 64:Int)).toNat<2 ^ 64:=by lia
 exact ic a q0q
def Qc{m:Nat}(w:GK m=true):∀(c:List Int) (a:Array (Option Nat)) (k:Nat),a.size=m+1->(a.toList.filterMap id).Perm (ik k)->k+c.length<=m ->
  ∃b,(c.foldl (init:=↑(a,k)) λi h=>do
   let (owner,k) <- i
   let j <- jd m owner (kJ m) (ji h%(m+1)) (ji h)
   pure (owner.setIfInBounds j ↑k,k+1))=↑(b,k+c.length)/\b.size=m+1/\(b.toList.filterMap id).Perm (ik (k+c.length)):=by
 intro c
 induction c with
 |nil=>intro a k d g r;exact#[a,rfl,d,g]
 |cons h c x =>
  intro a k d g r
  have e:(a.toList.filterMap id).length<a.toList.length:=by
   rw[g.length_eq,lx,gY,d]
   lia
  obtain⟨s,t⟩:=has_none _ e
  have l:s<m+1:=by have:=(List.getElem?_eq_some_iff.mp t).1;rw[gY,d]at this;exact this
  have n:a.getD s ↑0=none:=by rw[lp,<- iI,t];rfl
  have u:ji h%(m+1)<=m:=j5<|nY _<|nM m;obtain⟨j,v⟩:=N6 w (j5 l) n 13 (kJ m) (ji h%(m+1)) (ji h) u (ML h) (by unfold kJ;lia);obtain⟨y,f⟩:=Uk _ _ _ u j v
  have o:a.toList[j]?=↑none:=by
   rw[lp]at f;rw[iI]
   cases q:a[j]? with
   |none=>rw[q]at f;cases f
   |some z=>rw[q]at f;have p:z=none:=f;rw[p]
  obtain⟨b,A,B,C⟩:=x (a.setIfInBounds j ↑k) (k+1) (by rw[Array.size_setIfInBounds];exact d) (by
   rw[Array.toList_setIfInBounds];refine(Qb k _ _ o).trans<|(oN k g).trans ?_;rw[List.range_succ]
   exact(mS (l₁:=[k]) (l₂:=ik k))) (by simp at r;lia)
  refine#[b,?_,B,?_]
  ·rw[ml]
   have:(do
     let (owner,k) <- some (a,k)
     let j <- jd m owner (kJ m) (ji h%(m+1)) (ji h)
     pure (owner.setIfInBounds j ↑k,k+1))=↑(a.setIfInBounds j (some k),k+1):=by
    show (jd m a (kJ m) (ji h%(m+1))<|ji h).bind _=_;rw[v];rfl
   rw[this,A];simp only[ij];congr 2
   lia
  ·rw[ij,show k+(c.length+1)=k+1+c.length by lia];exact C
def N7(l:List (Option Nat)):(ik l.length).map (λj=>l.getD j none)=l:=by
 apply qt;intro i;by_cases h:i<l.length
 ·simp[jp,h]
 ·rw[List.getElem?_eq_none_iff.mpr (by simpa using qR h),List.getElem?_eq_none_iff.mpr<|qR h]
def CA{m fg mv:Nat}{led pl:Bool}{hs:Array Int}(c:GK m=true)(d:hs.size<=m):∃t b,nQ m fg mv led pl hs=↑(t,b)/\b.toList.Perm (ik hs.size):=by
 obtain⟨a,e,s,p⟩:=Qc c hs.toList (Array.replicate (m+1) none) 0 q0o q0o (by simpa using d)
 have f:pV m hs=↑a:=by unfold pV;rw[<- Array.foldl_toList];exact congrArg (tJ Prod.fst) e
 refine#[_,_,by unfold nQ;rw[f];rfl,?_];rw[t9]
 have q:(ik<|m+1).filterMap (λj=>tJ (λx:Nat×Nat=>x.2)<|tJ (λx=>(j,x))<|a.getD j none)=a.toList.filterMap id:=by
  conv=>rhs;rw[<- N7 a.toList]
  rw[tZ,gY,s];congr 1
  funext j
  simp only[uy,id,Option.map_map];rw[lp,jp,iI];cases (a[j]?.getD none)<;>rfl
 refine List.Perm.trans (tK q) ?_;simpa using p
def picked{es:Array (Int×cr)}{a:Array Nat}(h:a.toList.Perm (ik es.size)):(a.filterMap (es[·]?)).toList.Perm es.toList:=by
 rw[Array.toList_filterMap];refine(List.Perm.filterMap _ h).trans<|tK ?_;apply qt;intro i
 have:(ik es.size).filterMap (λx=>es[x]?)=es.toList:=by
  have e:(ik es.size).filterMap (λx=>es[x]?)=(ik es.toList.length).filterMap (λx=>es.toList[x]?):=by simp
  rw[e];exact List.filterMap_getElem?_range_length es.toList
 rw[this]
def a15:GK 7=true:=by decide +kernel
def ZU:GK 15=true:=by decide +kernel
def ZV:GK 31=true:=by decide +kernel
def ZW:GK 63=true:=by decide +kernel
def XY:GK 127=true:=by decide +kernel
def XZ:GK 255=true:=by decide +kernel
def X0:GK 511=true:=by decide +kernel
def TM(t:jH)(h:Int)(a:Nat)(p:lq):Prop:=∃j d,jI t (λ_=>h+1) h a p=↑(.empty j d)
noncomputable def begin_(m i a:Nat)(b:Option Nat):lq:={ j:=i,more:=jf m i-i,i:=i,perturb:=a,dummy:=b}
def MM{h:Int}:∀(k a:Nat)(p:lq),p.more=k->(∀b,TM t h a<|begin_ t.mask (kd t.mask p.i p.perturb).1 (kd t.mask p.i p.perturb).2 b)->TM t h (a+k+1) p:=by
 intro k
 induction k with
 |zero =>
  intro a p g d
  have c:∀b,t.advance { p with dummy:=b}=begin_ t.mask (kd t.mask p.i p.perturb).1 (kd t.mask p.i p.perturb).2 b:=λb=>by unfold lG;rw[gM<|by show ¬p.more>0;lia];rfl
  unfold TM jI
  cases q:t.slot p.j with
  |empty=>exact#[_,_,rfl]
  |dummy=>dsimp only;rw[c];exact d _
  |live i =>
   dsimp only;rw[gM<|by simp;lia];have:=c p.dummy;have e:({ p with dummy:=p.dummy}:lq)=p:=rfl;rw[e]at this;rw[this];exact d _
 |succ k l =>
  intro a p g d
  have f:∀b,TM t h (a+k+1) (t.advance { p with dummy:=b}):=λb=>by
   have e:t.advance { p with dummy:=b}={ p with j:=p.j+1,more:=p.more-1,dummy:=b}:=by unfold lG;rw[gN<|by show p.more>0;lia]
   rw[e];exact l a _ (by show p.more-1=k;lia) d
  unfold TM jI
  cases q:t.slot p.j with
  |empty=>exact#[_,_,rfl]
  |dummy=>exact f _
  |live i =>
   dsimp only;rw[gM<|by simp;lia];exact f p.dummy
def Ul{t:jH}{h:Int}{p:lq}(e:t.slot p.j=.empty)(a:Nat):TM t h (a+1) p:=by unfold TM jI;rw[e];exact#[_,_,rfl]
def MN(m i:Nat):jf m i-i<=9:=by unfold jf;split<;>lia
def a16{t:jH}{h:Int}{k:Nat}(d:t.slot k=.empty):∀(n i a:Nat),Qa t.mask n i=k->10*(n+1)<=a->∀c,TM t h a (begin_ t.mask i 0 c):=by
 intro n
 induction n with
 |zero =>
  intro i a e g c;obtain⟨f,rfl⟩:∃f,a=f+1:=#[a-1,q0a];subst e;exact Ul d f
 |succ n j =>
  intro i a e g c;have m:=MN t.mask i
  have z:=MM (t:=t) (h:=h) (jf t.mask i-i) (a-(jf t.mask i-i)-1) (begin_ t.mask i 0 c) rfl (λb=>by
   have l:kd t.mask i 0=(Pd t.mask i,0):=by unfold kd Pd;simp
   show TM t h _ (begin_ t.mask (kd t.mask i 0).1 (kd t.mask i 0).2 b);rw[l]
   exact j (Pd t.mask i) _ e q0a b)
  rw[show a-(jf t.mask i-i)-1+(jf t.mask i-i)+1=a by lia]at z;exact z
def a17{t:jH}{h:Int}{k:Nat}(m:GK t.mask=true)(g:k<=t.mask)(o:t.slot k=.empty):∀(c i b a:Nat),i<=t.mask->b<32 ^ c->10*(c+t.mask+1)<=a->∀d,TM t h a (begin_ t.mask i b d):=by
 intro c
 induction c with
 |zero =>
  intro i b a l f p d;have:b=0:=by rw[Nat.pow_zero]at f;lia
  subst this;obtain⟨n,r,e⟩:=F8 m i k l g;exact a16 o n i a e q0a d
 |succ c q =>
  intro i b a l f p d;have s:=MN t.mask i
  have z:=MM (t:=t) (h:=h) (jf t.mask i-i) (a-(jf t.mask i-i)-1) (begin_ t.mask i b d) rfl (λj=>by
   refine q _ _ _ (j5<|nY _<|nM _) ?_ q0a j;rw[Nat.pow_succ]at f
   exact tT (by rw[Nat.mul_comm];exact f))
  rw[show a-(jf t.mask i-i)-1+(jf t.mask i-i)+1=a by lia]at z;exact z
def zb[DecidableEq d]:∀(l m:List d),l.Nodup->(∀x∈l,x∈m)->l.length<=m.length:=by
 intro l
 induction l with
 |nil=>intro m _ _;exact i9 _
 |cons x r e =>
  intro m f b;obtain⟨g,h⟩:=List.nodup_cons.mp f;have a:=b x gR;have i:=e (m.erase x) h λy c=>(List.mem_erase_of_ne<|λ(z:y=x)=>g<|by rw[<- z];exact c).mpr<|b y<|gU _ c;rw[List.length_erase_of_mem a]at i;have:0<m.length:=List.length_pos_of_mem a;rw[ij];omega
def Jc(l:List Nat)(m:Nat)(h:l.length<=m):∃j,j<=m/\j∉l:=by
 refine qL λb=>?_;have a:∀j,j<=m->j∈l:=λj c=>qL λq=>b #[j,c,q];have:=zb (ik<|m+1) l List.nodup_range λx d=>a x<|j5<|List.mem_range.mp d;rw[lx]at this
 lia
def KL{t:jH}{n:Nat}(e:t.fits n=true):∃j,j<=t.mask/\t.slot j=.empty:=by
 have c:t.place.size+t.dummies.size<=t.mask:=by simp only[uz,iJ,iU]at e;exact e.2
 obtain⟨j,f,d⟩:=Jc (t.place.toList++t.dummies.toList) t.mask (by simpa using c);refine#[j,f,?_];rw[lj,pP]at d
 have b:∀(a:Array Nat),j∉a.toList->(a[hX a j]?==↑j)=false:=λa g=>by
  cases q:a[hX a j]? with
  |none=>rfl
  |some x =>
   have h:x∈a.toList:=by rw[<- iI]at q;exact jK q
   have:x≠j:=λz=>g<|z▸h;simp[this]
 unfold qZ;dsimp only;rw[b _ d.1];unfold kE;rw[b _ d.2];rfl
def Fz{t:jH}{n:Nat}(c:GK t.mask=true)(f:t.fits n=true)(h:Int):∃j b,t.freeSlot h=↑(j,b):=by obtain⟨k,a,g⟩:=KL f;obtain⟨j,d,e⟩:=a17 (h:=h) c a g 13 (ji h%(t.mask+1)) (ji h) (10*kJ t.mask) (j5<|nY _<|nM _) (ML h) (by unfold kJ;lia) none;refine⟨d.getD j,d.isSome,?_⟩;unfold pU qK SetTable.probeStart;have l:jI t (λ_=>h+1) h (10*kJ t.mask) { j:=ji h%(t.mask+1),more:=jf t.mask (ji h%(t.mask+1))-ji h%(t.mask+1),i:=ji h%(t.mask+1),perturb:=ji h,dummy:=none}=↑(.empty j d):=e;rw[l]
def Jd{t:jH}{h:Int}:∀(b:Nat)(p:lq),(∀d,p.dummy=↑d->kE t.dummies d=true) ->
  ∀j d,jI t l h b p=↑(.empty j<|some d)->kE t.dummies d=true:=by
 intro b
 induction b with
 |zero=>intro p _ j d e;cases e
 |succ b f =>
  intro p g j d e;unfold jI at e
  cases q:t.slot p.j with
  |empty =>
   rw[q]at e;injection e with e;injection e with m i;exact g d i
  |dummy =>
   rw[q]at e;refine f _ (λc a=>?_) j d e
   have:c=p.j:=by
    unfold lG at a;split at a
    ·injection a with a;exact a.symm
    ·injection a with a;exact a.symm
   rw[this];unfold qZ at q;dsimp only at q;split at q
   ·cases q
   ·split at q
    ·assumption
    ·cases q
  |live k =>
   rw[q]at e;dsimp only at e;split at e
   ·cases e
   ·refine f _ (λc a=>?_) j d e
    have:p.dummy=↑c:=by unfold lG at a;split at a<;>exact a
    exact g c this
set_option tactic.hygienic true in
def Eb{t:jH}{h:Int}{j:Nat}(e:t.freeSlot h=↑(j,true)):kE t.dummies j=true:=by
 unfold pU qK at e;split at e
 ·rename_i a b c
  injection e with e;injection e with f g
  cases b with
  |none=>cases g
  |some d =>
   subst f;exact Jd _ _ (λd q=>by cases q) a d c
 ·cases e
def Qd{j:Nat}(h:kE a j=true):hX a j<a.size:=by
 unfold kE at h;have b:a[hX a j]?=↑j:=by simpa using h
 exact(Array.getElem?_eq_some_iff.mp b).1
def Bl(a:Array b)(p:Nat)(h:p<a.size):(i7 a p).size=a.size-1:=by
 rw[<- gY,toList_erase,hO,lR,mV,gY]
 lia
def zc(a:Array b)(p:Nat)(x:b):(jg a p x).size=a.size+1:=by rw[<- gY,Ea,hO,ij,lR,mV,gY];omega
def xW{t:jH}{n:Nat}:t.fits n=true↔t.place.size=n/\t.place.size+t.dummies.size<=t.mask:=by unfold uz kW;simp
def Good(m:Nat):Prop:=m=7\/m=15\/m=31\/m=63\/m=127\/m=255\/m=511
def Good.GK{m:Nat}(h:Good m):GK m=true:=by
 rcases h with q|q|q|q|q|q|q<;>rw[q]
 ·exact a15
 ·exact ZU
 ·exact ZV
 ·exact ZW
 ·exact XY
 ·exact XZ
 ·exact X0
def Ec{n:Nat}(h:n<=511):Good (iO n-1)/\n<iO n:=by
 have q:((ik 512).all λn=>[8,16,32,64,128,256,512].contains (iO n)&&decide (n<iO n))=true:=by decide +kernel
 have q:=List.all_eq_true.mp q n<|List.mem_range.mpr q0a;obtain⟨q1,q2⟩:=Bool.and_eq_true_iff.mp q;refine#[?_,by simpa using q2];have q1:iO n=8\/iO n=16\/iO n=32\/iO n=64\/iO n=128\/iO n=256\/iO n=512:=by simpa using q1
 rcases q1 with e|e|e|e|e|e|e<;>rw[e]<;>unfold Good<;>decide
structure ZX(t:jH)(n:Nat):Prop where
 fits:t.fits n=true
 rise:zP t.place
 plain:t.plain=true
 good:Good t.mask
 room:t.fill*5<t.mask*3
set_option tactic.hygienic true in
def Um{t:jH}{c:Array (Int×cr)}{h:Int}{x:cr}(k:ZX t c.size)(q:c.size<=126) :
  ∃d g,layNew t c h x=(jg c (hX t.place ((t.freeSlot h).getD (0,false)).1) (h,x),d,g,false)/\d.led=t.led/\d.plain=true/\d.fits (c.size+1)=true/\zP d.place/\Good d.mask/\(g=true->d.fill*5<d.mask*3):=by
 obtain⟨j,b,e⟩:=Fz k.good.GK k.fits h;obtain⟨n,r⟩:=xW.mp k.fits;have f:=k.room;unfold kW at f
 have l:(if kE t.dummies j=true then i7 t.dummies (hX t.dummies j) else t.dummies).size<=t.dummies.size/\(b=true->(if kE t.dummies j=true then i7 t.dummies (hX t.dummies j) else t.dummies).size+1<=t.dummies.size):=by
  split
  ·rename_i i
   rw[Bl _ _<|Qd i];have:=Qd i;exact⟨q0a,λ_=>by lia⟩
  ·rename_i i
   refine#[gQ _,λm=>?_];subst m;exact hV (Eb e) i
 have a:(t.put j).1.fits (c.size+1)=true:=by
  refine xW.mpr #[?_,?_]
  ·show (jg t.place (hX t.place j) j).size=_;rw[zc,n]
  ·show (jg t.place (hX t.place j) j).size+(if kE t.dummies j=true then i7 t.dummies (hX t.dummies j) else t.dummies).size<=t.mask;rw[zc]
   lia
 refine#[(t.put j).1,b,?_,rfl,k.plain,a,P9 k.rise<|Jb k.rise e,k.good,λm=>?_]
 ·unfold layNew;rw[e];dsimp only;have o:(t.put j).2=hX t.place j:=rfl;have p:(jg c (hX t.place j) (h,x)).size=c.size+1:=zc _ _ _;rw[o,p];unfold SetTable.orStandIn;rw[gN a,a];rfl
 ·have:=l.2 m;show ((jg t.place (hX t.place j) j).size+(if kE t.dummies j=true then i7 t.dummies (hX t.dummies j) else t.dummies).size)*5<t.mask*3;rw[zc]
  lia
def N8{t:jH}{es:Array (Int×cr)}(v:1<=es.size)(h:es.size<=127)(m:t.plain=true):∃a c,sV t es (mo es.size)=(a,c,false)/\a.toList.Perm es.toList/\ZX c a.size/\c.led=t.led:=by
 have o:mo es.size=es.size*4:=by unfold mo;rw[gM q0a]
 obtain⟨j,w⟩:=Ec (n:=es.size*4) q0a;obtain⟨c,f,e,p⟩:=CA (fg:=t.finger) (mv:=t.movedTo<|iO (es.size*4)-1) (led:=t.led) (pl:=t.plain) (hs:=es.map (·.1)) j.GK (by rw[mB];lia);obtain⟨q,r,s,g,k,i⟩:=Cz e;rw[mB]at p;have l:=picked p;have u:(f.filterMap (es[·]?)).size=es.size:=by rw[<- gY,l.length_eq,gY]
 have b:f.size=es.size:=by rw[<- gY,p.length_eq,lx]
 have d:c.fits (f.filterMap (es[·]?)).size=true:=by
  refine xW.mpr #[by rw[i,u,b],?_];rw[i,k,b,g];show es.size+0<=_
  lia
 refine#[f.filterMap (es[·]?),c,?_,l,#[d,q,s.trans m,by rw[g];exact j,?_],r]
 ·unfold sV;rw[o];unfold SetTable.relaid;rw[e];dsimp only;rw[gN];rw[d,Bool.and_true];exact List.isPerm_iff.mpr p
 ·unfold kW;rw[i,k,b,g];show (es.size+0)*5<_
  lia
open PyProof.Rows
def yO(e:Int×cr)(k:Int):Prop:=e.1=nC k/\∃t,e.2=lN k t
noncomputable abbrev xq(a:Array (Int×cr))(b:Nat)(t:jH):Obj:={ cls:=.type "set",dict:=none,data:=.set a b t,slots:=#v[]}
structure WF(w:iR)(es:Array (Int×cr))(t:jH)(ks:List Int):Prop where
 ent:Paired yO es.toList ks
 nd:ks.Nodup
 small:es.size<=127
 tab:ZX t es.size
 led:w.params.followText "set-order"=true\/t.led=true
def zr{n:Nat}(h:n<=127):n<scanBound:=by have e:scanBound=4096:=rfl;rw[e];lia
def yF{n:Nat}(h:n<=127):n<=gS:=fits_of_scanBound<|zr h
def vS(w:iR)(a:ci)(c:List Int)(h:iM):Prop:=∃b d t,h.get? a=↑(xq b d t)/\WF w b t c
def xX{k n:Type}{F:k->n->Prop}{l o:List k}(p:l.Perm o):∀{m:List n},Paired F l m->∃e,m.Perm e/\Paired F o e:=by
 induction p with
 |nil=>intro m h;exact#[m,.refl _,h]
 |cons x _ q =>
  intro m h
  cases h with
  |cons a b =>
   refine e1a2 (q b) λe f g=>?_;exact#[_,.cons _ f,.cons a g]
 |swap x y l =>
  intro m h
  cases h with
  |cons a b =>
   cases b with
   |cons c d=>exact#[_,.swap _ _ _,.cons c<|.cons a d]
 |trans _ _ i j =>
  intro m h;refine e1a2 (i h) λu f g=>?_;refine e1a2 (j g) λr s t=>?_;exact#[r,f.trans s,t]
def GL:∀{g:List (Int×cr)} {h:List Int},Paired yO g h->∀k,(k∈h↔∃e∈g,mW k e.2=true):=by
 intro o p l
 induction l with
 |nil=>intro k;simp
 | @cons e j _ _ m r b =>
  intro k;have n:=b k;obtain⟨_,t,c⟩:=m
  have i:mW k e.2=true↔k=j:=by rw[c];simp[mW];exact eq_comm
  rw[io,n];constructor
  ·rintro(z|⟨d,f,a⟩)
   ·exact#[e,gR,i.mpr z]
   ·exact#[d,gU _ f,a]
  ·rintro⟨d,f,a⟩;rcases List.mem_cons.mp f with z|z
   ·rw[z]at a;exact .inl<|i.mp a
   ·exact .inr #[d,z,a]
def CB{a:iB}{w:iR}:∀{d:List (Int×cr)} {g:List Int},Paired yO d g->ElemsOf (ky a w) d:=by
 intro l m h
 induction h with
 |nil=>exact λe b=>by cases b
 | @cons x j _ _ i r c =>
  intro e b;rcases List.mem_cons.mp b with z|z
  ·subst z;obtain⟨k,t,f⟩:=i;refine#[#[j,?_,k],?_]
   ·rw[f];exact pQ _ _ _ _
   ·rw[f];rfl
  ·exact c e z
def MO(h:Paired yO a b):a.length=b.length:=Paired.length h
def WF.size{w:iR}{a:Array (Int×cr)}{t:jH}{b:List Int}(h:WF w a t b):a.size=b.length:=by rw[<- gY];exact MO h.ent
def vS.nodup(x:vS w a b h):b.Nodup:=by refine e3a2 x λc d t e k=>?_;exact k.nd
def vS.of{b:iB}{w:iR}{a:ci}{c:List Int}{h:iM}(x:vS w a c h):h.SetOf (ky b w) a (λk=>decide<|k∈c) c.length:=by refine e3a2 x λd f t e k=>?_;exact#[_,d,f,t,e,#[rfl,rfl,rfl],rfl,CB k.ent,λj=>by rw[iU];exact GL k.ent j,zr k.small,k.tab.fits,k.size]
def vS.keep{b:iM}(x:vS w a c h)(k:∀o,h.get? a=↑o->b.get? a=↑o):vS w a c b:=by refine e3a2 x λd f t e r=>?_;exact#[d,f,t,k _ e,r]
def vS.lt(x:vS w a b h):a<h.objs.size:=by refine e3a2 x λc d t e r=>?_;exact gX e
def vS.typeIs{w:iR}{a:ci}{b:List Int}{s:gW}(x:vS w a b s.heap):s.TypeIs (.ref a) "set":=by refine e3a2 x λc d t e r=>?_;exact#[_,e,rfl]
def Uo{h:iM}{a:ci}{f b:Array (Int×cr)}{d:Nat}{t c:jH}(e:h.get? a=↑(xq f d t)):(h.update a<|Obj.putSet b c).get? a=↑(xq b (d+1) c):=by have z:=iP (Obj.putSet b c) e (by rw[putSet_of b c rfl];rfl);rw[putSet_of b c rfl]at z;exact z
def AF{i b:Array (Int×cr)}{d:Nat}{t f:jH}{Q:Unit->gW->Prop}(e:s.heap.get? a=↑(xq i d t))(j:b.size<=gS)
  (h:∀c,i4 a s.heap c->c.get? a=↑(xq b (d+1) f)->Q () { s with heap:=c}):gZ (g8 g w) A (sW a b f) Q E s :=
 wpAny_storeSet_of e rfl (h _ (oE ..)<|Uo e) j
set_option tactic.hygienic true in
def WG{k:Int}{u:Tok}{Q:Bool->gW->Prop}(S:vS w a i s.heap)(room:i.length+1<=127)
  (h:∀l C,i4 a s.heap l->vS w a C l->C.Perm (if k∈i then i else k::i)->Q (!decide (k∈i)) { s with heap:=l}) :
  gZ (g8 b w) A (setAddHashed a (.int k u)<|nC k) Q E s:=by
 refine e3a2 S λm ep t e K=>?_;have el:ElemsOf (ky b w) m.toList:=CB K.ent;have hk:(ky b w).is k (.int k u)=true:=pQ _ _ _ _;have D:(ky b w).hash k=nC k:=rfl;refine iD<|am<|je e rfl K.tab.fits ?_;dsimp only;rw[byScan_of (knd:=ky b w) rfl (zr K.small) el,gN rfl];refine am<|am<|md<|am ?_;rw[<- D];refine wpAny_setScan_of (knd:=ky b w) hk e rfl K.tab.fits el ?_;have F:=GL K.ent k
 cases hr:rZ (λe=>(ky b w).is k e.2) m.toList with
 |some j =>
  refine e1a2 (List.findIdx?_eq_some_iff_getElem.mp hr) λhj hp _=>?_;have G:k∈i:=F.mpr #[_,uI hj,hp];have z:=h s.heap i (lZ a s.heap) #[m,ep,t,e,K] (by rw[gN G]);rw[decide_eq_true G]at z;exact ap<|ap z
 |none =>
  have f:k∉i:=λq=>by refine e1a2 (F.mp q) λx hx P=>?_;have:=List.findIdx?_eq_none_iff.mp hr x hx;rw[show (ky b w).is k x.2=true from P]at this;cases this
  have R:m.size<=126:=by rw[K.size];lia
  obtain⟨o,H,le,ll,I,lf,lr,lg,ld⟩:=Um (h:=nC k) (x:=.int k u) K.tab R;have J:=layNew_perm t m (nC k)<|.int k u;rw[D];rw[le]at J ⊢;generalize jg m (hX t.place ((t.freeSlot<|nC k).getD (0,false)).1) (nC k,lN k u)=c at J ⊢;rw[qh]at J;have p1:Paired yO ((nC k,lN k u)::m.toList) (k::i):=.cons ⟨rfl,u,rfl⟩ K.ent;refine e1a2 (xX (J.trans mS).symm p1) λT pk pe=>?_;have U:c.size=m.size+1:=by rw[<- gY,J.length_eq];simp
  rw[<- U]at lf;have p:c.size<=127:=by lia
  have W:T.Nodup:=pk.nodup_iff.mp<|List.nodup_cons.mpr #[f,K.nd];have g:c.size<=gS:=yF p
  -- ab the end wants,for any uc of X entries
  have L:∀(l:iM) (d:Array (Int×cr)) (v:Nat) (B:jH),i4 a s.heap l->l.get? a=↑(xq d v B)->d.toList.Perm c.toList->ZX B d.size->B.led=t.led->Q true { s with heap:=l}:=by
   intro l d v B sb Y pp f2 l2;refine e1a2 (xX pp.symm pe) λZ q1 q2=>?_;have hs:d.size=c.size:=by rw[<- gY,pp.length_eq,gY]
   have z:=h l Z sb #[d,v,B,Y,q2,q1.nodup_iff.mp W,by rw[hs];exact p,f2,by rw[l2];exact K.led] (by rw[gM f];exact q1.symm.trans pk.symm);rw[ie f]at z;exact z
  refine am<|ap ?_
  have n:gZ (g8 b w) A (do
    sW a c o
    if (!H&&o.tooFull)=true then do
      (match (sV o c<|mo c.size).2.2 with|true=>rule "set.scan.the-table-gave-way" |false=>pure ())
      sW a (sV o c<|mo c.size).1 (sV o c<|mo c.size).2.1
      pure ↑true
     else pure ↑true) (λr M=>gZ (g8 b w) A (match r with|some y=>pure y|none=>setAddHashedIn a (.int k u) (nC k) 99999) Q E M) E s:=by
   refine am<|AF e g λh1 N o1=>?_;split
   ·refine e2a4 (N8 (t:=o) (es:=c) q0a p I) λd B re rp rt rl=>?_;rw[re];refine am<|ap<|am<|AF (s:={ s with heap:=h1}) o1 ?_ λh2 aa Y=>ap<|ap<|L h2 _ _ _ (N.trans aa) Y rp rt<|rl.trans ll;have:d.size=c.size:=by rw[<- gY,rp.length_eq,gY]
    rw[this];exact g
   ·rename_i O
    refine ap<|ap<|L h1 _ _ _ N o1 (.refl _) #[lf,lr,I,lg,?_] ll
    cases H with
    |true=>exact ld rfl
    |false =>
     have:o.tooFull=false:=by simpa using O
     unfold SetTable.tooFull at this;simpa using this
  split
  ·rw[hashByValue_scannable 8 rfl];exact am<|ap n
  ·exact am<|ap n
def WH{k:Int}(S:vS w a c s.heap)(room:c.length+1<=127)
 (h:∀d b f,i4 a s.heap d->vS w a b d->b.Perm (if k∈c then c else k::c)->s.toks<=f->Q (!decide (k∈c)) { s with heap:=d,toks:=f}) :
    gZ (g8 e w) A (setAdd a<|.int k u) Q E s:=by
  refine iD<|am<|(ky e w).pyHash (k:=k) (pQ _ _ _ _) ?_
  exact WG (s:={ s with toks:=s.toks+1}) S room λd b g i p=>h d b _ g i p<|lP _
def Qe{a:Array (Int×cr)}{k:Int}:∀{b:List Int},Paired yO a.toList b->b.Nodup->∀{j:Nat},rZ (λe=>(ky prog w).is k e.2) a.toList=↑j->b[j]?=↑k:=by
 intro b P _ j f;refine e1a2 (List.findIdx?_eq_some_iff_getElem.mp f) λg h _=>?_
 have:∀{a:List (Int×cr)} {b:List Int},Paired yO a b->∀(j:Nat)(e:Int×cr),a[j]?=↑e->∃d,b[j]?=↑d/\yO e d:=by
  intro a b P
  induction P with
  |nil=>intro j e z;simp at z
  |cons x _ i =>
   intro j e z
   cases j with
   |zero =>
    have l:=iX z;subst l;exact#[_,rfl,x]
   |succ j=>exact i j e (by simpa using z)
 obtain⟨d,m,_,u,n⟩:=this P j a.toList[j] (by simp[g]);have c:mW k a.toList[j].2=true:=h;rw[n]at c;have:d=k:=by simpa[mW] using c
 rw[<- this];exact m
def zt:∀{l:List b} {m:List c},Paired F l m->∀i,Paired F (l.take i++l.drop (i+1)) (m.take i++m.drop (i+1)):=by
 intro _ _ z
 induction z with
 |nil=>intro i;simpa using Paired.nil
 |cons x r a =>
  intro i
  cases i with
  |zero=>simpa using r
  |succ i=>simpa using Paired.cons x (a i)
def xG{k:Int}:∀{ks:List Int} {j:Nat},ks[j]?=↑k->ks.Perm (k::(ks.take j++ks.drop (j+1)))
 | [],j,e=>by simp at e
 |x::r,0,e=>by
  have:x=k:=by simpa using e
  subst this;simp
 |x::r,j+1,e=>by have:=xG (ks:=r) (j:=j) (by simpa using e);simpa using(oN x this).trans (List.Perm.swap k x _)
def Ga{k:Int}{Q:Bool->gW->Prop}(S:vS w a c s.heap)
 (h:∀p g,i4 a s.heap p->vS w a g p->(if k∈c then c.Perm (k::g) else g=c)->Q (decide<|k∈c) { s with heap:=p}) :
    gZ (g8 b w) A (setDiscardHashed a (.int k u)<|nC k) Q E s:=by
  refine e3a2 S λd J t e K=>?_
  have F:ElemsOf (ky b w) d.toList:=CB K.ent
  have L:(ky b w).is k (.int k u)=true:=pQ _ _ _ _
  refine am<|am<|je e rfl K.tab.fits ?_
  dsimp only
  rw[byScan_of (knd:=ky b w) rfl (zr K.small) F,gN rfl]
  refine am<|md<|am ?_
  rw[show nC k=(ky b w).hash k from rfl]
  refine wpAny_setScan_of (knd:=ky b w) L e rfl K.tab.fits F ?_
  have r:=GL K.ent k
  cases v:rZ (λe=>(ky b w).is k e.2) d.toList with
  |none =>
    have f:k∉c:=λq=>by
      refine e1a2 (r.mp q) λx M y=>?_
      have:=List.findIdx?_eq_none_iff.mp v x M
      rw[show (ky b w).is k x.2=true from y]at this
      cases this
    have z:=h s.heap c (lZ a s.heap) #[d,J,t,e,K] (by rw[gM f])
    rw[ie f]at z
    exact ap<|ap z
  |some j =>
    dsimp only
    have i:=Qe (prog:=b) (w:=w) K.ent K.nd v
    have n:k∈c:=jK i
    have B:j<d.size:=by
      have:=(List.findIdx?_eq_some_iff_getElem.mp v).1
      rwa [gY]at this
    rw[sU]
    refine ap<|am<|je e rfl K.tab.fits ?_
    have G:=xW.mp K.tab.fits
    have C:t.place[j]?=↑t.place[j]!:=by
      rw[jr q0a,getElem!_pos]
    have H:t.drop j={ t with place:=i7 t.place j,dummies:=jg t.dummies (hX t.dummies t.place[j]!) t.place[j]!}:=by
      unfold SetTable.drop
      rw[C]
    have o:(i7 d j).size=d.size-1:=Bl _ _ B
    have l:(i7 t.place j).size=d.size-1:=by rw[Bl _ _ q0a];lia
    have I:WF w (i7 d j) (t.drop j) (c.take j++c.drop (j+1)):=by
      refine#[by rw[toList_erase];exact zt K.ent j,?_,by rw[o];have:=K.small;lia,?_,?_]
      · have := (xG i).nodup_iff.mp K.nd
        exact(List.nodup_cons.mp this).2
      · have m := K.tab.room
        unfold kW at m
        rw[H]
        refine#[xW.mpr #[?_,?_],KH K.tab.rise j,K.tab.plain,K.tab.good,?_]
        · show (i7 t.place j).size = _
          rw[l,o]
        · show (i7 t.place j).size+(jg t.dummies _ _).size <= t.mask
          rw[l,zc]
          lia
        · show ((i7 t.place j).size+(jg t.dummies _ _).size)*5<t.mask*3
          rw[l,zc]
          lia
      · rw[H]; exact K.led
    refine am<|AF e (yF I.small) λN D O=>?_
    refine am<|wpAny_point ?_
    have z:=h N _ D #[_,_,_,O,I] (by rw[gN n];exact xG i)
    rw[decide_eq_true n]at z
    exact ap z
def Ed:∀(l:List a)(i:Nat)(x:a),l[i]?=↑x->(x::l.eraseIdx i).Perm l
 | [],i,x,e=>by simp at e
 |y::r,0,x,e=>by
  have:y=x:=by simpa using e
  subst this;simp
 |y::r,i+1,x,e=>by have:=Ed r i x (by simpa using e);rw[oC];exact(List.Perm.swap y x _).trans<|oN y this
set_option tactic.hygienic true in
def Up(c:Nat->Nat):∀(a k:Nat)(left:List d)(b:Array d),left.length<=a->(ro c a k left b).toList.Perm (b.toList++left):=by
 intro a
 induction a with
 |zero =>
  intro k left b h;have:left=[]:=List.length_eq_zero_iff.mp q0a;subst this;simp[ro]
 |succ a f =>
  intro k left b h;unfold ro;split
  ·rename_i x e
   have g:=(List.getElem?_eq_some_iff.mp e).1;refine(f _ _ _<|by rw[List.length_eraseIdx];split<;>lia).trans ?_;rw[qh,lA];refine oA _ ?_;exact Ed _ _ _ e
  ·rename_i e
   cases left with
   |nil=>simp
   |cons y r =>
    have:=List.getElem?_eq_none_iff.mp e;have i:=nY (c k) (show 0<(y::r).length by simp)
    lia
def CC(b:Nat->Nat)(a:Array c):(ud b a).toList.Perm a.toList:=by unfold ud;have:=Up b a.size 0 a.toList #v[] q0o;simpa using this
set_option tactic.hygienic true in
def X1(S:vS w a f s.heap)(h:∀(c:Array (Int×cr)) (b:List Int),Paired yO c.toList b->b.Perm f->Q c s):gZ (g8 g w) A (setWalk a) Q E s:=by
 refine e3a2 S λd k t e K=>?_;refine am<|je e rfl K.tab.fits<|am<|am<|jF<|ap ?_;split
 ·refine am<|jF<|ap ?_;obtain⟨b,p,q⟩:=xX (CC _ d).symm K.ent;exact h _ b q p.symm
 ·rename_i i
  rw[gM<|by show ¬((!t.plain&&decide (d.size>1))=true);rw[K.tab.plain];simp]
  have j:t.led=true:=by
   rcases K.led with z|z
   ·exact hV z i
   ·exact z
  refine am<|show gZ _ A (if (!t.led&&decide (d.size>1))=true then lu "set:maker-not-led" else pure ()) _ _ _ from ?_;rw[j,gM q0o];exact ap<|ap<|h d f K.ent<|.refl _
def Qf(S:vS w a i s.heap)(h:∀(b:Array (Int×cr)) (c:List Int),Paired yO b.toList c->c.Perm i->Q b s) :
  gZ (g8 d w) A (setWalkUnseen a f g) Q E s:=by
 refine e3a2 (id S) λk l t e K=>?_;refine am<|je e rfl K.tab.fits<|am<|am<|jF<|ap ?_
 rw[gN (by
  rcases K.led with z|z
  ·have j:(g8 d w).w.params.followText "set-order"=true:=z;rw[j];simp
  ·rw[z,K.tab.plain];simp)]
 exact X1 S h
def DB{b:Nat}{n:Nat}(e:s.heap.get? a=↑(xq d b t))(k:t.fits d.size=true)(h:Q b s):gZ (g8 c w) A (setEpoch a) Q E s :=
 wpAny_setEpoch_of e rfl k h
def WI{es:Array (Int×cr)}{b:Array Nat}{Q:Array (Int×cr)×jH->gW->Prop}(p:b.toList.Perm (ik es.size))(h:Q (b.filterMap (es[·]?),d) s) :
  gZ (g8 c w) A (do
   let some (t,order):=↑(d,b)|lu "internal:set-table-without-room"
   let a:=order.filterMap (es[·]?)
   if a.size != es.size then lu "internal:set-table-lost-an-element"
   pure (a,t)) Q E s:=by
 have e:(b.filterMap (es[·]?)).size=es.size:=by rw[<- gY,(picked p).length_eq,gY]
 dsimp only;rw[gM<|by rw[e];simp];exact ap h
def Dd(w:iR)(r:ci)(h:iM):Prop:=∃b a,h.get? r=↑(xq #v[] b<|ki 0 0 a)/\(w.params.followText "set-order"=true\/a=true)
def CD(a:Bool):ZX (ki 0 0 a) 0:=#[rfl,iw,rfl,.inl rfl,by show 0*5<7*3;decide]
def Dd.set(x:Dd w r h):vS w r [] h:=by refine e2a2 x λb a e l=>?_;exact#[#v[],b,_,e,.nil,mG,q0q,CD a,l]
set_option tactic.hygienic true in
def Uq{m:Sem Unit}{Q:Unit->gW->Prop}(F:Dd w r s.heap)(S:vS w a X s.heap)(ne:r≠a)
 (h:∀Y l,i4 r s.heap Y->vS w r l Y->l.Perm X->Q () { s with heap:=Y}):gZ (g8 I w) A (setMerge r a m) Q E s:=by
  refine e2a2 (id F) λZ c P lr=>?_
  refine e3a2 (id S) λb ep t e K=>?_
  unfold setMerge
  rw[gM<|by simpa using ne]
  refine am<|je e rfl K.tab.fits ?_
  dsimp only
  by_cases R:b.isEmpty=true
  · rw[gN R]
    have aa:b=#v[]:=by simpa using R
    subst aa
    have:X=[]:=by
      have:=K.ent
      cases this
      rfl
    subst this
    exact ap<|h s.heap [] (lZ _ _) F.set<|.refl _
  · rw[gM R]
    have af:1<=b.size:=by
      have:b.size≠0:=λz=>R (by simpa using Array.size_eq_zero_iff.mp z)
      lia
    have T:=K.small
    -- the room
    have go:∀(o:iM)(J:Nat)(d:jH),i4 r s.heap o->o.get? r=↑(xq #v[] J d)->d.place=#v[]->d.dummies=#v[]->d.plain=true->d.led=c->Good d.mask->b.size*5<d.mask*3 ->
        gZ (g8 I w) A (setState r >>= λx=>match x with
          | (_,_,k)=>match k.road t with
            | .slotForSlot=>sW r b { t with finger:=k.finger,led:=k.led&&t.led,moves:=k.moves,plain:=k.plain&&t.plain}
            | .clean=>do
              let (b,t) <- (do
                let some (t,order):=(nQ k.mask k.finger k.moves (led:=k.led&&t.led) (plain:=k.plain&&t.plain) (b.map (·.1)))|lu "internal:set-table-without-room"
                let L:=order.filterMap (b[·]?)
                if L.size != b.size then lu "internal:set-table-lost-an-element"
                pure (L,t))
              sW r b t
            | .oneByOne=>do
              for (h,x) in <- setWalkUnseen a [r] ↑r do
                let _ <- kO [x] (setAddHashed r x h)
                m
                if (<- setState a).2.1 != ep then lu "set.changed-during-merge") Q E { s with heap:=o}:=by
      intro o J d sb o1 p1 d1 M l1 C rm
      have f1:d.fits (#v[]:Array (Int×cr)).size=true:=xW.mpr #[by rw[p1];rfl,by rw[p1,d1];exact i9 _]
      refine am<|je (s:={ s with heap:=o}) o1 rfl f1 ?_
      dsimp only
      have u:w.params.followText "set-order"=true\/(d.led&&t.led)=true:=by
        rcases lr with z|z
        · exact .inl z
        · rcases K.led with y|y
          · exact .inl y
          · exact .inr (by rw[l1, z, y]; rfl)
      have v:d.road t=.slotForSlot\/d.road t=.clean:=by
        unfold uA kW
        rw[p1,d1]
        simp only[hJ,nj,Nat.add_zero,rq,kZ,pr]
        split
        · exact .inl rfl
        · exact .inr rfl
      have ab:d.road t=.slotForSlot->t.dummies.isEmpty=true:=λz=>by
        unfold uA at z
        split at z
        · cases z
        · split at z
          · rename_i q
            exact(Bool.and_eq_true_iff.mp q).2
          · cases z
      have up:∀f,i4 r o f->i4 r s.heap f:=λf q=>sb.trans q
      rcases v with z|z
      · have hd := ab z
        rw[z]
        refine AF (s:={ s with heap:=o}) o1 (yF T) λf g D=>?_
        refine h f X (up f g) #[b,_,_,D,K.ent,K.nd,T,#[K.tab.fits,K.tab.rise,?_,K.tab.good,K.tab.room],u]<|.refl _
        rw[M,K.tab.plain];rfl
      · rw[z]
        have i:b.size<=d.mask:=by lia
        obtain⟨t2,B,N,p⟩:=CA (fg:=d.finger) (mv:=d.moves) (led:=d.led&&t.led) (pl:=d.plain&&t.plain) (hs:=b.map (·.1)) C.GK (by rw[mB];exact i)
        refine e0a6 (Cz N) λr1 r2 r3 G U O=>?_
        rw[N]
        rw[mB]at p
        have W:=picked p
        have H:(B.filterMap (b[·]?)).size=b.size:=by rw[<- gY,W.length_eq,gY]
        have j:B.size=b.size:=by rw[<- gY,p.length_eq,lx]
        refine am<|WI p ?_
        refine AF (s:={ s with heap:=o}) o1 (by rw[H];exact yF T) λf g D=>?_
        refine e1a2 (xX W.symm K.ent) λl q1 q2=>?_
        refine h f l (up f g) #[_,_,_,D,q2,q1.nodup_iff.mp K.nd,by rw[H];exact T,#[xW.mpr #[by rw[O,H,j],?_],r1,?_,by rw[G];exact C,?_],by rw[r2];exact u] q1.symm
        · rw[O, U, j, G]; exact i
        · rw[r3, M, K.tab.plain]; rfl
        · unfold kW
          rw[O,U,j,G]
          exact rm
    refine am<|am<|je P rfl (CD c).fits ?_
    by_cases hr:b.size*5>=7*3
    · have e1 : (ki 0 0 c).roomFor b.size = some (b.size*2) := by
        unfold tL kW ki
        rw[gN<|by simpa using hr]
        simp
      rw[e1]
      obtain⟨C,g2⟩:=Ec (n:=b.size*2) q0a
      obtain⟨t2,B,N,p⟩:=CA (fg:=0) (mv:=(ki 0 0 c).movedTo<|iO (b.size*2)-1) (led:=c) (pl:=true) (hs:=(#v[]:Array (Int×cr)).map (·.1)) C.GK (by rw[mB];exact i9 _)
      refine e0a6 (Cz N) λr1 r2 r3 G U O=>?_
      have ae:(ki 0 0 c).relaid ((#v[]:Array (Int×cr)).map (·.1)) (b.size*2)=↑(t2,B):=N
      refine am<|je P rfl (CD c).fits ?_
      dsimp only
      rw[gM (by
        have:iO (b.size*2)<=512:=by rcases C with q|q|q|q|q|q|q<;>lia
        have e3:(512:Nat)<=gS:=by rw[iY];decide
        lia),ae]
      rw[mB]at p
      have W:=picked (es:=#v[]) p
      have H:(B.filterMap ((#v[]:Array (Int×cr))[·]?)).size=0:=by rw[<- gY,W.length_eq];rfl
      have j:B.size=0:=by rw[<- gY,p.length_eq];rfl
      refine am<|WI (es:=#v[]) p ?_
      refine AF P (by rw[H];exact i9 _) λf g D=>?_
      have o3:B.filterMap ((#v[]:Array (Int×cr))[·]?)=#v[]:=Array.size_eq_zero_iff.mp H
      rw[o3]at D
      refine go f _ t2 g D (Array.size_eq_zero_iff.mp<|by rw[O,j]) U r3 r2 (by rw[G];exact C) (by rw[G];lia)
    · have e1 : (ki 0 0 c).roomFor b.size = none := by
        unfold tL kW ki
        rw[gM<|by simpa using hr]
      rw[e1]
      refine ap ?_
      exact go s.heap Z (ki 0 0 c) (lZ _ _) P rfl rfl rfl rfl (.inl rfl) (by show b.size*5<7*3;lia)
def N9:sX uc "set.__xor__"=↑Builtin.«frozenset.__xor__» :=
 sY (id':="frozenset.__xor__") (by kernel_rfl) (by first|rfl|decide +kernel|(unfold q7;simp +decide [qf])) q0s (by kernel_rfl)
def Qg(h:∀a,Dd w ⇑s a->(∀c o,s.heap.get? c=↑o->a.get? c=↑o)->Q (.ref ⇑s) { s with heap:=a}):gZ (g8 b w) A (newSet<|.type "set") Q E s:=by
 refine am<|am<|jF<|ap ?_;refine am<|wpAny_alloc<|ap<|h _ ⟨0,_,hI _ rfl,?_⟩ λc o e=>ce _ e
 cases q:w.params.followText "set-order" with
 |true=>exact .inl rfl
 |false=>exact .inr (by show (!(w.params.followText "set-order"))=true;rw[q];rfl)
def BG(S:vS w a c s.heap)(h:Q true s):gZ (g8 b w) A (Builtin.Frozenset.isAnySet<|.ref a) Q E s:=by refine am<|mn S.typeIs pR<|ap ?_;exact h
def Oa{m:String}{Q:cr->gW->Prop}(S:vS w a j s.heap)
  (h:∀f b,vS w ⇑s b f->b.Perm j->(∀c o,s.heap.get? c=↑o->f.get? c=↑o)->Q (.ref ⇑s) { s with heap:=f}) :
  gZ (g8 k w) A (Builtin.Frozenset.newFrom m (.type "set")<|.ref a) Q E s:=by
 refine am<|Qg λd r l=>?_;have g:vS w a j d:=S.keep λo e=>l a o e;have u:⇑s≠a:=jj S.lt;refine am<|ap<|am<|iD ?_;refine am<|BG (s:={ s with heap:=d}) g ?_;rw[gN rfl];refine am<|ap ?_;have i:=g;refine e3a2 i λz B t e K=>?_;refine am<|DB (n:=0) (s:={ s with heap:=d}) e K.tab.fits ?_;refine Uq (s:={ s with heap:=d}) r g u λv b x y p=>?_;exact ap<|h v b y p λc o q=>x.extBut c o (hR<|gX q)<|l c o q
set_option tactic.hygienic true in
def ZY{Q:cr->gW->Prop}(Sa:vS w a ka s.heap)(Sb:vS w b kb s.heap)(hl:ka.length+kb.length<=126)
  (h:∀h' ks,vS w ⇑s ks h'->(∀k,k∈ks↔((k∈kb/\k∉ka)\/(k∉kb/\k∈ka)))->(∀c o,s.heap.get? c=↑o->h'.get? c=↑o)->Q (.ref ⇑s) { s with heap:=h'}) :
  gZ (g8 prog w) A (mz .BitXor (.ref a)<|.ref b) Q E s:=by
 refine wpAny_binaryOp_same (op:=.BitXor) (T:="set") Sa.typeIs Sb.typeIs F.fills_set_xor F.slot_set_xor ?_;refine iT F.slot_set_xor Sa.typeIs N9 ?_<|F.args_set_xor_2 _ _;refine am<|am<|ap<|ap ?_;dsimp only;rw[gM g9];refine am<|am<|BG Sa<|BG Sb ?_;rw[gM q0o];refine am<|ap<|am ?_
 wp_delta
 refine am<|am<|mn Sa.typeIs pR<|ap ?_;rw[gN rfl];refine am<|Oa Sb λh1 Ur S1 p1 k1=>?_;have Sa1:vS w a ka h1:=Sa.keep λo e=>k1 a o e;have ne:⇑s≠a:=jj Sa.lt;refine am<|ap<|am<|iD ?_;unfold Builtin.Frozenset.symmetricDifferenceUpdate;rw[gM<|by simpa using Ne.symm ne];dsimp only;refine am<|kQ (s:={ s with heap:=h1}) (vS.typeIs (s:={ s with heap:=h1}) Sa1) ?_;rw[gM q0q];refine am<|BG (s:={ s with heap:=h1}) Sa1 ?_;rw[gN rfl];refine am<|ap<|am<|ap ?_;have a18:=Sa1;refine e3a2 a18 λes ep t e K=>?_;refine am<|DB (n:=0) (s:={ s with heap:=h1}) e K.tab.fits ?_;refine iD<|am<|Qf (s:={ s with heap:=h1}) Sa1 λes' ZZ P' p'=>?_;have nd':ZZ.Nodup:=p'.nodup_iff.mpr Sa.nodup;have a3D:=p'.length_eq;have a3E:=p1.length_eq
 refine am (wpAny_forIn_array' _ (λrest _ s2=>∃dn kr h2 k2,ZZ=dn++kr/\Paired yO rest kr/\s2={ s with heap:=h2}/\i4 ⇑s h1 h2/\vS w ⇑s k2 h2/\k2.length<=Ur.length+dn.length /\
   ∀k,k∈k2↔((k∈Ur/\k∉dn)\/(k∉Ur/\k∈dn))) _ ?turn ?fin es' _ #[[],ZZ,h1,Ur,rfl,P',rfl,lZ _ _,S1,gQ _,λk=>by simp])
 case fin =>
  rintro _ s2 ⟨dn,kr,h2,k2,e0,P,rfl,sb,S2,_,m⟩;cases P;rw[kH]at e0;subst e0;refine ap<|ap<|ap ⟨_,rfl,q0o,?_⟩;refine h h2 k2 S2 (λk=>?_) λc o q=>sb.extBut c o (hR<|gX q)<|k1 c o q;rw[m k,p1.mem_iff,p'.mem_iff]
 case turn =>
  rintro x rest _ s2 ⟨dn,kr,h2,k2,e0,P,rfl,sb,S2,l2,m⟩
  cases P with
  |cons hx hr =>
   rename_i k kr
   obtain⟨hx1,u,hx2⟩:=hx;rw[hx1,hx2];have nd2:=nd';rw[e0]at nd2
   have hkd:k∉dn:=λq=>by have:=(List.nodup_append.mp nd2).2.2 k q k gR;exact this rfl
   have a3I:dn.length+(kr.length+1)=ZZ.length:=by rw[e0,hO,ij]
   have ea:∀h3,i4 ⇑s h2 h3->h3.get? a=↑(xq es ep t):=λh3 q=>q.extBut a _ (Ne.symm ne)<|sb.extBut a _ (Ne.symm ne) e
   have WJ:∀(R:ForInStep PUnit->gW->Prop) h3 k3,i4 ⇑s h2 h3->vS w ⇑s k3 h3->k3.length<=k2.length+1->(∀j,j∈k3↔((j∈k2/\j≠k)\/(j∉k2/\j=k))) ->
     (∀s':gW,(∃dn kr h2 k2,ZZ=dn++kr/\Paired yO rest kr/\s'={ s with heap:=h2}/\i4 ⇑s h1 h2/\vS w ⇑s k2 h2/\k2.length<=Ur.length+dn.length/\∀k,k∈k2↔((k∈Ur/\k∉dn)\/(k∉Ur/\k∈dn)))->R (.yield #[]) s') ->
     gZ (g8 prog w) A.in1 (Builtin.Frozenset.unchanged (toString "frozenset."++toString "__xor__") a ep >>= λ_=>pure<|mU PUnit.unit) R E { s with heap:=h3}:=by
    intro R h3 k3 Z0 S3 l3 m3 fin;refine am<|am<|DB (n:=0) (s:={ s with heap:=h3}) (ea h3 Z0) K.tab.fits ?_;rw[gM q0o];refine ap<|ap<|fin _ ⟨dn++[k],kr,h3,k3,by rw[e0];simp,hr,rfl,sb.trans Z0,S3,by rw[hO];simp;lia,λj=>?_⟩;rw[m3 j,m j,lj,mq];by_cases q2:j=k
    ·subst q2;by_cases q1:j∈Ur<;>simp[q1,hkd]
    ·by_cases q1:j∈Ur<;>by_cases q3:j∈dn<;>simp[q1,q2,q3]
   refine am<|iD<|am ?_;refine Ga (s:={ s with heap:=h2}) S2 λh3 k3 Z0 S3 p3=>?_;by_cases Zf:k∈k2
   ·rw[decide_eq_true Zf,gM q0o];rw[gN Zf]at p3;have nd3:=p3.nodup_iff.mp S2.nodup;refine ap<|WJ _ h3 k3 Z0 S3 (by have:=p3.length_eq;rw[ij]at this;lia) (λj=>?_) λ_ z=>z;have q:=p3.mem_iff (a:=j);rw[io]at q;rw[q];have hk1:=(List.nodup_cons.mp nd3).1;by_cases q2:j=k
    ·subst q2;simp[hk1]
    ·simp[q2]
   ·rw[ie Zf,gN q0o];rw[gM Zf]at p3;subst p3;refine am<|WG (s:={ s with heap:=h3}) S3 q0a λh4 k4 sb4 S4 p4=>?_;rw[gM Zf]at p4;refine ap<|WJ _ h4 k4 (Z0.trans sb4) S4 (by have:=p4.length_eq;rw[ij]at this;lia) (λj=>?_) λ_ z=>z;rw[p4.mem_iff,io];by_cases q2:j=k
    ·subst q2;simp[Zf]
    ·simp[q2]
section
variable{prog:iB}{w:iR}{A:jx}{R:Result->gW->Prop}{I:ci}{fp wr:List ci}{G:Array ph->Array ph->Prop}{n:Nat}{P:Nat->cr->Prop}{St:Nat->gW->Prop}
set_option tactic.hygienic true in
def X2(W:WalksS prog w A.in1 I fp wr G n P St)(r:ci)(O:r∉fp)(a:Nat->Int)(g:∀i v,P i v->∃t,v=.int (a i) t)(hb:n<=126) :
  ∀(m i:Nat)(s:gW)(b:List Int),i+m=n->St i s->vS w r b s.heap->(∀k,k∈b↔∃j,j<i/\a j=k)->b.length<=i ->
   (∀h l,Moved (r::wr) G s h->vS w r l h.heap->(∀k,k∈l↔∃j,j<n/\a j=k)->R (.ok<|.ret .none) h) ->
   mE (g8 prog w) A (.builtin "set.update.loop" #[[.ref r,.ref I],[]]) R s:=by
 have Q:r∉wr:=λq=>O<|W.sub _ q;have x:∀c∈wr,c∈r::wr:=λc B=>gU _ B;intro m
 induction m with
 |zero =>
  intro i s b X H S d Y f;obtain rfl:i=n:=by lia
  refine jM tM ?_;rw[jz o5 _];refine am<|W.done s _ _ H λh C=>?_;exact ap<|f h b (C.mono x) (S.keep λo e=>C.heap r o Q e) d
 |succ m Z =>
  intro i s b X H S d Y f;refine jM tM ?_;rw[jz o5 _];refine am<|W.item i s _ _ q0a H λv T hP J C=>?_;obtain⟨u,rfl⟩:=g i v hP;have S1:vS w r b T.heap:=S.keep λo e=>C.heap r o Q e;refine am<|iD<|WH S1 q0a λh2 D tk U S2 p E=>?_
  have l2:D.length<=i+1:=by
   have:=p.length_eq;split at this
   ·lia
   ·rw[ij]at this;lia
  refine ap #[kU o5 _,Z (i+1) _ D q0a (W.frame _ T _ _ J E λc B o e=>?_) S2 (λk=>?_) l2 λs3 L M S3 m3=>?_]
  ·rw[U.2 c (λz:c=r=>O<|by rw[<- z];exact B)];exact e
  ·rw[p.mem_iff]
   have q:(k∈if a i∈b then b else a i::b)↔(k=a i\/k∈b):=by
    split
    ·rename_i z
     constructor
     ·exact .inr
     ·rintro(y|y)
      ·rw[y];exact z
      ·exact y
    ·exact io
   rw[q,d k];constructor
   ·rintro(z|⟨j,hj,e⟩)
    ·exact#[i,q0a,z.symm]
    ·exact#[j,q0a,e]
   ·rintro⟨j,hj,e⟩;by_cases N:j=i
    ·subst N;exact .inl e.symm
    ·exact .inr #[j,q0a,e]
  ·refine f s3 L (Moved.trans W.gtrans ((C.mono x).then_heap E λc o B e=>?_) M) S3 m3;rw[U.2 c (λz:c=r=>B<|by rw[z];exact gR)];exact e
end
def Ob(x:cr)(h:∀a,Dd w ⇑s a->(∀c o,s.heap.get? c=↑o->a.get? c=↑o)->Q (.ref ⇑s) { s with heap:=a}) :
  mE (g8 b w) A (.call (.builtin "set.__new__") #[[.type "set",x],[]]) (wants Q E) s:=by
 refine mH ?_;refine am<|mP (F.newCall_set_1 x)<|ap #[kU pI _,jM F.entry_set_new ?_];rw[jz pI _];unfold Builtin.«set.__new__» pw;have g:=pR;obtain⟨i,j,k,l,m⟩:=s;dsimp only;generalize d:newSet=n
 wp_walk
 subst d;refine Qg λa e f=>?_;exact ap<|h a e f
def KN(hh:A.handled=none)(hl:s.heap.IsList l b)(hi:kY b.toList x)(hb:b.size<=126)
 (h:∀f G g,vS w ⇑s g f->(∀k,k∈g↔k∈x)->(∀c o,s.heap.get? c=↑o->f.get? c=↑o)->Q (.ref ⇑s) { s with heap:=f,toks:=G}) :
    gZ (g8 aa w) A (call (.type "set") [.ref l]) Q E s:=by
  obtain⟨c0,tl,ab⟩:=F.called_set.mro
  have J:=F.called_set.made
  have ae:=F.called_set.sub
  refine mM<|mH ?_
  refine ap #[nS _ q0s,jM F.entry_type_call ?_]
  rw[tN (uJ "set" [.ref l] []) rfl]
  have ag:=F.called_set.notType
  have ah:=F.called_set.canCreate
  have ai:=F.typeCall_set_1<|.ref l
  repeat (any_goals (first|assumption|wp_step))
  refine jT (Ob (.ref l) (E:=E) (Q:=λy z=>y=.ref ⇑s/\∃a,z={ s with heap:=a}/\Dd w ⇑s a/\∀c o,s.heap.get? c=↑o->a.get? c=↑o) λa H u=>#[rfl,a,rfl,H,u]) λr1 s1 m=>?_
  cases r1 with
  |error e=>exact m
  |ok f1 =>
    cases f1 with
    |ret y =>
      obtain⟨rfl,a,rfl,H,u⟩:=m
      have L:vS w ⇑s [] a:=H.set
      have hT:l6 { s with heap:=a} (.ref ⇑s) "set":=vS.typeIs (s:={ s with heap:=a}) L
      have aj:=F.called_set.init.lookup
      have ak:=F.called_set.init.bind<|.ref ⇑s
      repeat (any_goals (first|assumption|wp_step))
      refine jT (nN (R:=wants (λr B=>r=.none/\∃f G g,B={ s with heap:=f,toks:=G}/\vS w ⇑s g f/\(∀k,k∈g↔k∈x)/\∀c o,s.heap.get? c=↑o->f.get? c=↑o) E) F.called_set.init.plain F.entry_set_init<|check_set_init_1 hT ?_) λr2 s2 n=>?_
      · obtain⟨M, p, N, nl, O⟩ := id hl
        have q:a.IsList l b:=#[M,u l M p,N,nl,O]
        have al:l6 { s with heap:=a} (.ref l) "list":=q.typeIs
        have q1:=F.sub_list_set
        have q2:=F.sub_list_frozenset
        have q3:(j4 "list" == j4 "dict")=false:=by decide
        refine e2a2 (id H) λan af e1 l1=>?_
        unfold Builtin.«set.__init__» noKeywords Builtin.Frozenset.updateFrom
        generalize P:pyIter=PI
        wp_walk
        subst P
        refine wpAny_pyIter_list q<|am<|sZ ?_
        have S:l<a.objs.size:=gX<|u l M p
        have T:⇑s<a.objs.size:=L.lt
        have U:A.in1.in1.in1.handled=none:=by simp[hh]
        have nr:⇑s∉[a.objs.size,l]:=by
          simp only[io,ja,mf,pP]
          exact#[hR T,jj<|gX p]
        have C:∀(i:Nat)(v:cr),b[i]?=↑v->∃t,v=.int ((λi=>x.getD i 0) i) t:=λi v hv=>qS hi i v (by rw[iI];exact hv)
        have d:∀c o,a.get? c=↑o->(a.push { cls:=.type "list_iterator",data:=.fields #v[.ref l,.int 0 0]}).get? c=↑o:=λc o e=>ce _ e
        have D:=qT hi
        rw[gY]at D
        refine X2 ((Walks.list U _ l (hR S) b).toS) ⇑s nr (λi=>x.getD i 0) C hb b.size 0 _ [] q0a #[#[_,hI _ rfl,rfl,rfl],q.push _] (L.keep λo e=>d _ o e) (λk=>by simp) (i9 _) λs2 W I S2 m2=>?_
        obtain⟨h2,g2,d2,X,Y⟩:=s2
        have eg:g2=s.gens:=I.gens
        have ed:d2=s.drawn:=I.drawn
        have eo:Y=s.os:=I.os
        subst eg ed eo
        refine ap<|ap ⟨rfl,h2,X,W,rfl,S2,λk=>?_,λc o e=>?_⟩
        · rw[m2 k]
          constructor
          · rintro⟨j, Z, e⟩
            rw[<- e]
            have:j<x.length:=by lia
            simp[jp,this]
          · intro hk
            obtain⟨j,Z⟩:=lK hk
            refine#[j,by have:=(List.getElem?_eq_some_iff.mp Z).1;lia,?_]
            simp[jp,Z]
        · refine I.heap c o ?_ (d c o<|u c o e)
          simp only[io,ja,mf,pP]
          exact#[hR<|gX e,hR<|gX<|u c o e]
      · cases r2 with
        |error e=>exact n
        |ok f2 =>
          cases f2 with
          |ret r =>
            obtain⟨rfl,f,G,g,rfl,S',m',k'⟩:=n
            repeat (any_goals (first|assumption|wp_step))
            exact h _ _ g S' m' k'
          |_=>exact n.elim
    |_=>exact m.elim
def wX:Slot "set_iterator" "__next__" "set_iterator.__next__" :=
 .of (owner:="set_iterator") (n:="__next__") (by rw[nZ,lQ];kernel_rfl) q0s q0s q0s (by first|exact .inl q0s|exact .inr q0s) (by rw[td];kernel_rfl)
def Qh:Manifest.owners.lookup (String.ofList ['r','o','t','a','r','e','t','i','_','t','e','s'].reverse)=↑Manifest.sig_set_iterator:=by kernel_rfl
def BH(a:cr):rN "set_iterator.__next__" #[[a],[]]:=by unfold rN;rw[signature?_of (id:="set_iterator.__next__") (n:=['_','_','t','x','e','n','_','_']) (o:=['r','o','t','a','r','e','t','i','_','t','e','s']) (by kernel_rfl) Qh];kernel_rfl
def A6:sX uc "set_iterator.__next__"=↑Builtin.«set_iterator.__next__»:=entryFor_of_tree (by kernel_rfl)
def BI:Slot "set_iterator" "__iter__" "set_iterator.__iter__" :=
 .of (owner:="set_iterator") (n:="__iter__") (by rw[nZ,lQ];kernel_rfl) q0s q0s q0s (by first|exact .inl q0s|exact .inr q0s) (by rw[td];kernel_rfl)
def GN(a:cr):rN "set_iterator.__iter__" #[[a],[]]:=by unfold rN;rw[signature?_of (id:="set_iterator.__iter__") (n:=['_','_','r','e','t','i','_','_']) (o:=['r','o','t','a','r','e','t','i','_','t','e','s']) (by kernel_rfl) Qh];kernel_rfl
def FA:sX uc "set_iterator.__iter__"=↑Builtin.«dict_keyiterator.__iter__» :=
 sY (id':="dict_keyiterator.__iter__") (by kernel_rfl) (by first|rfl|decide +kernel|(unfold q7;simp +decide [qf])) q0s (by kernel_rfl)
def Ee:sX uc "set.__iter__"=↑Builtin.«frozenset.__iter__» :=
 sY (id':="frozenset.__iter__") (by kernel_rfl) (by first|rfl|decide +kernel|(unfold q7;simp +decide [qf])) q0s (by kernel_rfl)
noncomputable abbrev Z1(b i n c:Nat)(a:ci):Obj:={ cls:=.type "set_iterator",dict:=none,data:=.fields #v[lO b,lO i,.ref a,lO n,lO c],slots:=#v[]}
noncomputable def KO(w:iR)(a:ci)(b:Array (Int×cr))(c:Nat):Array (Int×cr):=if w.params.followText "set-order"=true then ud (w.params.setOrder a c) b else b
def CF(w:iR)(a:ci)(b:Array (Int×cr))(c:Nat):(KO w a b c).toList.Perm b.toList:=by
 unfold KO;split
 ·exact CC _ b
 ·exact .refl _
def SIt(w:iR)(e a:ci)(c:Array (Int×cr))(d:Nat)(t:jH)(i:Nat)(h:iM):Prop :=
 ∃b,(w.params.followText "set-order"=false->hX t.place b=i)/\h.get? e=↑(Z1 b i c.size d a)/\h.get? a=↑(xq c d t)
def Je(e:s.heap.get? b=some { cls:=cls,dict:=none,data:=.fields c,slots:=#v[]})(h:Q c s):gZ (g8 a w) A (fieldsOf<|.ref b) Q E s:=by exact am<|qO e<|ap h
set_option tactic.hygienic true in
def Oc{c i:Nat}(e:s.heap.get? a=↑(xq g k t))(K:WF w g t p)(n:w.params.followText "set-order"=false->hX t.place c=i)
 (d:(KO w a g k)[i]?=↑x)(h:∀l,(w.params.followText "set-order"=false->hX t.place l=i+1)->Q ↑(x.2,l) s):gZ (g8 f w) A (setNext a c i k) Q E s:=by
  have q:=xW.mp K.tab.fits
  refine am<|je e rfl K.tab.fits<|am<|am<|jF<|ap ?_
  dsimp only
  unfold KO at d
  split
  · rename_i j
    have b:w.params.followText "set-order"=true:=j
    rw[gN b]at d
    rw[gM q0o]
    refine am<|am<|je e rfl K.tab.fits<|am<|am<|jF<|ap ?_
    rw[gN j]
    refine am<|jF<|ap<|ap ?_
    rw[show (g8 f w).w=w from rfl,d]
    exact h c λz=>by rw[b]at z;cases z
  · rename_i j
    have b:w.params.followText "set-order"=false:=Bool.eq_false_iff.mpr j
    rw[gM<|by rw[b];simp]at d
    rw[gM<|by show ¬((!t.plain&&decide (g.size>1))=true);rw[K.tab.plain];simp]
    have o:t.led=true:=by
      rcases K.led with z|z
      · rw[b]at z; cases z
      · exact z
    refine am<|show gZ _ A (if (!t.led&&!g.isEmpty)=true then lu "set:maker-not-led" else pure ()) _ _ _ from ?_
    rw[o,gM q0o]
    have r:=(Array.getElem?_eq_some_iff.mp d).1
    rw[n b,d]
    have m:t.place[i]?=↑t.place[i]!:=by rw[jr q0a,getElem!_pos]
    rw[m]
    refine ap<|ap<|h _ λ_=>?_
    exact KD K.tab.rise (by rw[iI];exact m)
set_option tactic.hygienic true in
def Od{c:Nat}(e:s.heap.get? a=↑(xq b i t))(K:WF w b t l)(j:w.params.followText "set-order"=false->hX t.place c=b.size)(h:Q none s):gZ (g8 d w) A (setNext a c b.size i) Q E s:=by
 refine am<|je e rfl K.tab.fits<|am<|am<|jF<|ap ?_;dsimp only;split
 ·rename_i g
  rw[gM q0o];refine am<|am<|je e rfl K.tab.fits<|am<|am<|jF<|ap ?_;rw[gN g];refine am<|jF<|ap<|ap ?_
  have:(ud ((g8 d w).w.params.setOrder a i) b)[b.size]?=none:=by rw[Array.getElem?_eq_none_iff,<- gY,(CC _ b).length_eq,gY];exact gQ _
  rw[this];exact h
 ·rename_i g
  have f:w.params.followText "set-order"=false:=Bool.eq_false_iff.mpr g;rw[gM<|by show ¬((!t.plain&&decide (b.size>1))=true);rw[K.tab.plain];simp]
  have k:t.led=true:=by
   rcases K.led with z|z
   ·rw[f]at z;cases z
   ·exact z
  refine am<|show gZ _ A (if (!t.led&&!b.isEmpty)=true then lu "set:maker-not-led" else pure ()) _ _ _ from ?_;rw[k,gM q0o,j f];rw[show b[b.size]?=none from by simp];exact ap<|ap h
def Oe(hh:A.handled=none)(K:WF w es t ks)(ne:a≠it):Walks prog w A it [it,a] [it] es.size (λi v=>∃x,(KO w a es ep)[i]?=↑x/\v=x.2) (SIt w it a es ep t) where
 sub:=λb hb=>by simp at hb;simp[hb]
 frame:=λi h h' z9=>e1a3 z9 λsl z e1 e2 k=>#[sl,z,k it q0o _ e1,k a q0o _ e2]
 item:=by
  rintro i s Q E hi ⟨sl,z,e1,e2⟩ hQ;have hT:s.TypeIs (.ref it) "set_iterator":=#[_,e1,rfl];refine am<|o6<|wpAny_callSpecial?_slot (name:=lW "__next__") hT wX<|iT wX hT A6 ?_<|BH _;refine am<|ap<|am<|Je e1 ?_;refine am<|qD e2 rfl K.tab.fits ?_;rw[gM q0o]
  obtain⟨x,hx⟩:∃x,(KO w a es ep)[i]?=some x:=by
   have hl:i<(KO w a es ep).size:=by rw[<- gY,(CF w a es ep).length_eq,gY];exact hi
   exact#[_,jr hl]
  refine am<|Oc e2 K z hx λsl' z'=>?_;refine am<|jP e1 q0o λh1 o1 sb1=>am<|jP (s:={ s with heap:=h1}) o1 q0o λh2 o2 sb2=>ap #[_,rfl,ap ?_];have sb:=sb1.trans sb2;exact hQ _ h2 _ #[x,hx,rfl] #[sl',z',o2,sb.extBut a _ ne e2] λb o hb q=>sb.extBut b o (by simpa using hb) q
 done:=by
  rintro s Q E ⟨sl,z,e1,e2⟩ hQ;have hT:s.TypeIs (.ref it) "set_iterator":=#[_,e1,rfl];refine am<|o6<|wpAny_callSpecial?_slot (name:=lW "__next__") hT wX<|iT wX hT A6 ?_<|BH _;refine am<|ap<|am<|Je e1 ?_;refine am<|qD e2 rfl K.tab.fits ?_;rw[gM q0o];refine am<|Od e2 K z ?_;refine am<|jP e1 q0o λh1 o1 sb1=>am ?_;refine am<|iK ?_ (by size_fits);refine am (m:=qi _ _)<|mP (a:=Value.none) (by first|rfl|(simp only[qi];rfl))<|iK ?_ (by size_fits)
  refine wpAny_raiseNew_none hh<|am<|mn (T:="StopIteration") (b:=true) ⟨_,hI _ rfl,rfl⟩ isSubtype_stop<|ap ?_;exact hQ _ _ λb o hb q=>ce _<|ce _<|sb1.extBut b o (by simpa using hb) q
 self:=by rintro i s Q E ⟨sl,z,e1,e2⟩ hQ;have hT:s.TypeIs (.ref it) "set_iterator":=#[_,e1,rfl];refine wpAny_pyIter_slot hT BI<|iT BI hT FA ?_<|GN _;exact ap #[_,rfl,"set_iterator",_,hT,wX.lookup,hQ]
def X3(e:s.heap.get? a=↑(xq f i t))(K:WF w f t j)
 (h:∀d,SIt w ⇑s a f i t 0 d->(∀c o,s.heap.get? c=↑o->d.get? c=↑o)->d.objs.size=⇑s+1->Q (.ref ⇑s) { s with heap:=d}):gZ (g8 b w) A (pyIter<|.ref a) Q E s:=by
  have g:s.TypeIs (.ref a) "set":=#[_,e,rfl]
  refine wpAny_pyIter_slot g F.slot_set_iter<|iT F.slot_set_iter g Ee ?_<|F.args_set_iter_1 _
  refine am<|am<|ap<|ap<|am<|am<|qD e rfl K.tab.fits<|ap ?_
  refine am<|am<|je e rfl K.tab.fits<|am<|am<|jF<|ap<|ap ?_
  rw[gM<|by show ¬((!(g8 b w).w.params.followText "set-order"&&(!t.plain&&decide (f.size>1)))=true);rw[K.tab.plain];simp]
  refine am<|ap<|am<|DB (n:=0) e K.tab.fits ?_
  refine am<|iK ?_ (by size_fits)
  refine ap #[_,rfl,"set_iterator",_,#[_,hI _ rfl,rfl],wX.lookup,?_]
  exact h _ #[0,λ_=>KG K.tab.rise,hI _ rfl,ce _ e] (λc o q=>ce _ q)<|jB _ _
def GO:nA (.type "set") "__len__"=pure (some<|.builtin "set.__len__"):=by rw[nZ,lQ];kernel_rfl
def Us(P:Paired yO a b):∀(j:Nat)(e:Int×cr),a[j]?=↑e->∃k,b[j]?=↑k/\yO e k:=by
 induction P with
 |nil=>intro j e z;simp at z
 |cons x _ c =>
  intro j e z
  cases j with
  |zero =>
   have d:=iX z;subst d;exact#[_,rfl,x]
  |succ j=>exact c j e (by simpa using z)
def Ad:∀{a:List cr} {b:List Int},a.length=b.length->(∀(i:Nat)(v:cr),a[i]?=↑v->∃k u,b[i]?=↑k/\v=lN k u)->kY a b
 | [],[],_,_=>.nil
 | [],_::_,h,_=>by simp at h
 |_::_,[],h,_=>by simp at h
 |v::a,n::b,h,k=>by
  refine e2a2 (k 0 v rfl) λc u d f=>?_;have:n=c:=by simpa using d
  subst this;subst f
  exact .cons _ _ (Ad (by simpa using h) λi g e=>by
   refine e2a2 (k (i+1) g<|by simpa using e) λj l m o=>?_
   exact#[j,l,by simpa using m,o])
def Of(hh:A.handled=none)(S:vS w a ks s.heap)
 (h:∀N tk vs H,kY vs H->H.Perm ks->(∀c o,s.heap.get? c=↑o->N.get? c=↑o)->⇑s<=N.objs.size->Q vs { s with heap:=N,toks:=tk}):gZ (g8 r w) A (collect<|.ref a) Q E s:=by
  refine e3a2 (id S) λI J t e K=>?_
  have d:a<⇑s:=gX e
  refine am<|sZ<|jM ue ?_
  rw[jz uf _]
  refine am (m:=newList [])<|iK<|ap #[kU oF _,jM F.entry_list_iadd ?_]
  rw[jz oF _]
  have l:∀c o,s.heap.get? c=↑o->(s.heap.push 57).get? c=↑o:=λc o q=>ce _ q
  have oL:(s.heap.push 57).get? ⇑s=some 57:=hI _ rfl
  have f:(s.heap.push 57).objs.size=⇑s+1:=jB _ _
  generalize s.heap.push 57=n at l oL f ⊢
  show gZ _ A.in1 (qc (.ref ⇑s) (.ref a)<|.ref ⇑s) _ _ { s with heap:=n}
  have hT:l6 { s with heap:=n} (.ref a) "set":=#[_,l a _ e,rfl]
  refine am<|kQ hT ?_
  have n1:lH (.ref ⇑s) (.ref a)=false:=by simp[lH,jj d]
  have n2:(j4 "set" == j4 "list")=false:=by decide
  have n3:(j4 "set" == j4 "tuple")=false:=by decide
  simp only[n1,n2,n3,r8,kZ,pr]
  refine am<|X3 (s:={ s with heap:=n}) (l a _ e) K λp I2 O ae=>?_
  have j:l6 { s with heap:=p} (.ref a) "set":=#[_,O a _<|l a _ e,rfl]
  refine am<|iD ?_
  refine am<|pT j GO ?_
  generalize y:("set.__len__":String)=P
  dsimp only
  rw[show splitId P=some ("set","__len__") from by subst y;decide +kernel]
  subst y
  refine am<|mn (b:=true) j pR ?_
  rw[gM q0o]
  rw[gN q0s]
  refine am<|kQ j<|ap ?_
  rw[gN q0s]
  refine am<|md<|am ?_
  have B:=O _ _ oL
  have R:A.in1.handled=none:=by simp[hh]
  have ne:a≠n.objs.size:=hR<|nL d (by rw[f];exact jw _)
  have W:=(Oe (prog:=r) (A:=A.in1) (ep:=J) R K ne).toS
  refine am<|pW B rfl ?_
  have C:=iP (Obj.mapSeq (·.push Value.none)) B rfl
  refine pW C rfl ?_
  have D:=iP (Obj.mapSeq (·.pop)) C rfl
  have L:∀c o,c≠⇑s->p.get? c=↑o->((p.update ⇑s (Obj.mapSeq (·.push Value.none))).update ⇑s (Obj.mapSeq (·.pop))).get? c=↑o :=
    λc o hc q=>(iE _ _<|Ne.symm hc).trans<|(iE _ _<|Ne.symm hc).trans q
  have T:((p.update ⇑s (Obj.mapSeq (·.push Value.none))).update ⇑s (Obj.mapSeq (·.pop))).objs.size=p.objs.size:=by rw[oG,oG]
  have U:⇑s∉[n.objs.size,a]:=by
    simp only[io,ja,mf,pP]
    exact#[by rw[f];exact hR<|jw _,jj d]
  generalize (p.update ⇑s (Obj.mapSeq (·.push Value.none))).update ⇑s (Obj.mapSeq (·.pop))=h4 at D L T ⊢
  refine e1a3 I2 λsl z i1 i2=>?_
  have I4:SIt w n.objs.size a I J t 0 h4:=#[sl,z,L _ _ (by rw[f];exact jj<|jw _) i1,L _ _ (hR d) i2]
  refine ap #[kU qj _,codeAny_extend_loopS W (yF K.small) _ U _ I.size 0 _ _ _ rfl (i9 _) I4 D (ItemsOf.nil _) λs5 X c5 M G g=>?_]
  refine am<|qO G<|ap ?_
  obtain⟨h5,g5,d5,Y,Z⟩:=s5
  have eg:g5=s.gens:=M.gens
  have ed:d5=s.drawn:=M.drawn
  have eo:Z=s.os:=M.os
  subst eg ed eo
  -- aa ab
  refine e1a2 (xX (CF w a I J).symm K.ent) λH pp pe=>?_
  have k5:∀c o,s.heap.get? c=↑o->h5.get? c=↑o:=λc o q=>M.heap c o (by
    simp only[io,ja,mf,pP]
    exact#[hR (gX q),hR (gX (l c o q))]) (L c o (hR (gX q)) (O c o (l c o q)))
  refine h h5 Y X.toList H (Ad ?_ λi v hv=>?_) pp.symm k5<|lU<|gX G
  · rw[gY, g.1, <- MO pe, gY, <- gY, <- gY, (CF w a I J).length_eq]
  · obtain⟨x, hx, rfl⟩ := g.2 i v (by rw[<- iI]; exact hv)
    obtain⟨k,hk,_,u,hu⟩:=Us pe i x (by rw[iI];exact hx)
    exact#[k,u,hk,hu]
def CG 
 (C:∀(u:List cr->gW->Prop),(∀b e a d,kY a d->d.Perm x->(∀c o,s.heap.get? c=↑o->b.get? c=↑o)->⇑s<=b.objs.size->u a { s with heap:=b,toks:=e})->gZ (g8 f w) A.in1 (collect v) u E s)
 (k:x.length<64) (h:∀b e r a d,⇑s<=r->kY a d->d.Perm x->d.Pairwise (·<=·)->(∃n,b.get? r=some { cls:=.type "list",data:=.seq a.toArray n})->(∀c o,s.heap.get? c=↑o->b.get? c=↑o)->Q (.ref r) { s with heap:=b,toks:=e}) :
    gZ (g8 f w) A (call (.builtin "sorted") [v]) Q E s:=by
  refine rG kind_sorted plain_sorted entry_sorted (args_sorted1 _) ?_
  refine am (m:=checkCount "sorted" 1 1 _)<|ap ?_
  refine am<|C _ λl e a d y z B D=>?_
  have g:a.length<64:=by rw[qT y,z.length_eq];exact k
  refine am<|tU ?_
  have p:(l.push<|mw "list" a.toArray 0).get? l.objs.size=↑(mw "list" a.toArray 0):=hI _ rfl
  refine am<|iD<|iT slot_list_sort ⟨_,p,rfl⟩ entry_list_sort (list_sort_tree p y g λi t F G H=>#[_,rfl,?_])<|args_list_sort _
  obtain⟨I,J⟩:=sortedHeap_at (out:=i) p
  refine ap #[_,rfl,h _ e l.objs.size i.toList t D F (G.trans z) H #[I,by simpa using J] λc o q=>?_]
  have j:=gX<|B c o q
  rw[sortedHeap_old (hR j)<|by rw[tj];exact ot j]
  exact ce _<|B c o q
def GP(j:A.handled=none)(S:vS w a f s.heap)(b:f.length<64)
 (h:∀d l r g e,⇑s<=r->kY g e->e.Perm f->e.Pairwise (·<=·)->(∃n,d.get? r=some { cls:=.type "list",data:=.seq g.toArray n})->(∀c o,s.heap.get? c=↑o->d.get? c=↑o)->Q (.ref r) { s with heap:=d,toks:=l}) :
    gZ (g8 i w) A (call (.builtin "sorted") [.ref a]) Q E s :=
  CG (λ_ k=>Of (by simp[j]) S k) b h
def FC{a:List cr}(p:s.heap.IsList l a.toArray)(b:kY a i)(d:i.length<64)
 (h:∀f t r j g,⇑s<=r->kY j g->g.Perm i->g.Pairwise (·<=·)->(∃n,f.get? r=some { cls:=.type "list",data:=.seq j.toArray n})->(∀c o,s.heap.get? c=↑o->f.get? c=↑o)->Q (.ref r) { s with heap:=f,toks:=t}) :
    gZ (g8 m w) A (call (.builtin "sorted") [.ref l]) Q E s :=
  CG (λ_ k=>collect_list p (k _ s.toks _ _ b (.refl _) (λc o q=>(iE _ _ (jj (gX q))).trans (ce _ q)) (by rw[oG,tj];exact lP _)) (by
    have:=qT b
    have e:(64:Nat)<=gS:=by rw[iY];decide
    lia)) d h
end SX
namespace L2
open PySem PySem.Spec PyProof.Rows SX
def AG{a:List Int}(h:Vals (a.map V.int) b):kY b a:=intsAre_of h
def Ut(h:kY a b):Vals (b.map V.int) a:=F7 h
noncomputable def xi(w:iR)(p:ci)(a:List Int):HO:=.ext<|vS w p a
def zu(I:Inv X a c H s)(h:H p=↑(xi X.w p b)):vS X.w p b s.heap:=(I.vK p _ h).1
def GQ(x:vS w p a h):v4 P w H h p (xi w p a) :=
 #[x,(e3a2 x λ_ _ _ e _=> #[_,e]),λ_ _ q k=>q.keep k]
def Jf(i:X.calm=true):yM X (.type "set") (λe H Q=>∃(a:ci)(c:List Int),e=[.ref a]/\wo X.K H a (c.map V.int)/\c.length<=126/\∀(p:ci)(b:List Int),H p=none->b.Nodup->b.length<=c.length->(∀k,k∈b↔k∈c)->Q (.ref p) (upd H p<|xi X.w p b)):=by intro f s z H e A Q I r h;obtain⟨a,c,rfl,j,B,q⟩:=h;obtain⟨u,rfl,l⟩:=vals1 r;cases l;refine e1a3 (I.list j) λn g o C=>?_;have t:=AG g;have d:=g.length;rw[gV]at d;refine KN (I.ok.hd i) o.isList (by simpa using t) (by rw[hJ];lia) λD v b S m k=>?_;refine#[.ref ⇑s,_,I.laid (t':=v) k (gQ _)<|GQ S,rfl,q _ b (I.vK.fresh<|gQ _) S.nodup (zb _ _ S.nodup λx y=>(m x).mp y) m]
def Uu:AV X (mz .BitXor) (λx y H Q=>∃(a b:ci)(c d:List Int),x=.ref a/\y=.ref b/\H a=↑(xi X.w a c)/\H b=↑(xi X.w b d)/\c.length+d.length<=126 /\
  ∀(p:ci)(e:List Int),H p=none->e.Nodup->(∀k,k∈e↔((k∈d/\k∉c)\/(k∉d/\k∈c)))->Q (.ref p) (upd H p (xi X.w p e))):=by
 intro f s o H x y v u Q I g i h;obtain⟨a,b,c,d,rfl,rfl,j,l,n,q⟩:=h;cases g;cases i;refine ZY (zu I j) (zu I l) n λr e S m k=>?_;exact#[.ref ⇑s,_,I.laid (t':=s.toks) k (gQ _)<|GQ S,rfl,q _ e (I.vK.fresh<|gQ _) S.nodup m]
def Bm{g:List Int}(I:Inv X b k H s)(l:g.length<64)(q:∀(p:ci)(a:List Int),H p=none->a.Perm g->a.Pairwise (·<=·)->Q (.ref p) (upd H p<|.lst<|a.map V.int)) :
  ∀(d:iM)(h:Nat)(r:ci)(f:List cr)(a:List Int),⇑s<=r->kY f a->a.Perm g->a.Pairwise (·<=·)->(∃n,d.get? r=some { cls:=.type "list",data:=.seq f.toArray n})->(∀c o,s.heap.get? c=↑o->d.get? c=↑o)->EP X b k Q (.ref r) { s with heap:=d,toks:=h}:=by
 intro d h r f a i m j t u v;obtain⟨n,e⟩:=u;have w:(64:Nat)<=gS:=by rw[iY];decide
 exact#[.ref r,_,I.laid (t':=h) (o:=.lst<|a.map V.int) v i #[by rw[gV,j.length_eq];lia,f,n,Ut m,e],rfl,q r a (I.vK.fresh i) j t]
def BJ(g:X.calm=true):yM X (.builtin "sorted") (λe H Q=>∃(a:ci)(c:List Int),e=[.ref a]/\H a=↑(xi X.w a c)/\c.length<64/\∀(p:ci)(d:List Int),H p=none->d.Perm c->d.Pairwise (·<=·)->Q (.ref p) (upd H p<|.lst<|d.map V.int)):=by intro f s k H e l Q I r h;obtain⟨a,c,rfl,i,b,q⟩:=h;obtain⟨u,rfl,j⟩:=vals1 r;cases j;exact GP (I.ok.hd g) (zu I i) b<|Bm I b q
def GR:yM X (.builtin "sorted") (λe H Q=>∃(a:ci)(c:List Int),e=[.ref a]/\wo X.K H a (c.map V.int)/\c.length<64/\∀(p:ci)(d:List Int),H p=none->d.Perm c->d.Pairwise (·<=·)->Q (.ref p) (upd H p<|.lst<|d.map V.int)):=by intro f s m H e n Q I r h;obtain⟨a,c,rfl,g,b,q⟩:=h;obtain⟨u,rfl,i⟩:=vals1 r;cases i;refine e1a3 (I.list g) λj k l o=>?_;exact FC l.isList (AG k) b<|Bm I b q
def Gb(X:Cx)(H:Hp)(x:V)(d:PyData):Prop:=∀(a:List (ci×Obj)) (b:St) (s:gW) (u:cr),Inv X a b H s->RelV x u->∃c,Reads s.heap u d c
def Gb.int(i:Int):Gb X H (.int i) (.int i):=λ_ _ _ _ _ r=>by obtain⟨t,rfl⟩:=r;exact#[_,Reads.int i t]
def Gc(I:Inv X a e H s):∀{c:List V} {d:List cr} {b:List PyData},Vals c d->Paired (Gb X H) c b->∃f,ReadsAll s.heap d b f:=by
 intro _ _ b z
 induction z generalizing b with
 |nil=>intro w;cases w;exact#[_,.nil]
 |cons r t g=>intro w;cases w with|cons q p =>
  obtain⟨j,h⟩:=q a e s _ I r;obtain⟨k,i⟩:=g p;exact#[_,.cons h i]
def Gb.lst(h:wo X.K H a c)(p:Paired (Gb X H) c d):Gb X H (.ref a) (.list d):=λb m s u I r=>by
 cases r;refine e1a3 (I.list h) λe f g _=>?_;obtain⟨q,i⟩:=Gc I f p;obtain⟨o,j,k,n,l⟩:=g.isList;exact#[_,Reads.list j k l<|by simpa using i]
def Z2(X:Cx)(a:Bool):R2:=λx y H Q=>∃d e,Gb X H x d/\Gb X H y e/\su d=true/\su e=true/\pA d e=true/\Q (.bl<|if a then !PySem.Spec.same d e else kS d e) H
def X4(c:X.A.units+64<kG):AV X (jy .Eq) (Z2 X false):=by intro a s b H x y v u Q I f g h;obtain⟨d,e,i,j,k,l,m,q⟩:=h;obtain⟨p,n⟩:=i a b s v I f;obtain⟨r,o⟩:=j a b s u I g;exact eq_dataH_same n o k l c m #[.bl _,H,I,rfl,q]
def Qi(c:X.A.units+64<kG):AV X (jy .NotEq) (Z2 X true):=by intro a s b H x y v u Q I f g h;obtain⟨d,e,i,j,k,l,m,q⟩:=h;obtain⟨p,n⟩:=i a b s v I f;obtain⟨r,o⟩:=j a b s u I g;exact ne_dataH_same n o k l c m #[.bl _,H,I,rfl,q]
def Jg:yM X (.builtin "isinstance") (λa H Q=>∃(x:V)(T:String)(t:cr)(b:Bool),a=[x,.ty T]/\zp X.K H x t/\qQ X.K t (.type T)=↑b/\Q (.bl b) H):=by intro c s j H a k Q I r h;obtain⟨x,T,t,b,rfl,d,e,q⟩:=h;obtain⟨u,v,rfl,f,g⟩:=vals2 r;cases g;exact NQ I f d e λi=>#[.bl b,H,I.tok i,rfl,q]
def Z3:V->V->Hp->VK->Prop:=λo i H Q=>∃(p:ci)(a:List V)(k:Int)(v:V),o=.ref p/\i=.int k/\H p=↑(.lst a)/\0<=k/\a[k.toNat]?=↑v/\Q v H
def Qj:Zv X Z3:=by intro a s w H o i x y Q I c d h;obtain⟨p,z,k,v,rfl,rfl,e,f,b,q⟩:=h;cases c;obtain⟨t,rfl⟩:=d;refine e1a3 (I.list<|wo.of (K:=X.K) e) λg r j A=>?_;refine e1a2 (r.get b) λu l m=>?_;have B:=DX;have n:=(List.getElem?_eq_some_iff.mp b).1;exact wpAny_getItem_list j.isList f q0a (by simpa using l) #[v,H,I,m,q]
noncomputable abbrev Fp(X:Cx)(a:l9)(d:List (Str×ci))(e:List Str)(b:gW)(c:Hp)(C:ci)(f:List ci)(g:List (ci×Obj)):Cx :=
 { X with N:=e,s₀:=b,H₀:=c,env:=tm a d C X.env,outer:=X.stack,stack:=X.stack,ex:=f,fn:=λ_=>false,pn:=g,xe:=λ_ _=>False}
structure yW(X:Cx)(scope:l9)(cl:List (Str×ci))(T Fr:List Str)(idx:List Nat):Prop where
 kind:scope.kind=.function
 Z4:oB scope X.env=pure cl
 Bo:∀y∈scope.names,y.2≠.cell
 names:∀y∈scope.names,y.2=.local->scope.names.lookup y.1=some .local
 sub:∀x c,cl.lookup x=↑c->X.env.cells.lookup x=↑c
 frl:∀y∈scope.names,y.2=.free->∃c,cl.lookup y.1=↑c
 fr:∀(j:Nat)(x:Str),Fr[j]?=↑x->∃i c,idx[j]?=↑i/\X.N[i]?=↑x/\(X.env.kindOf x=some .cell\/X.env.kindOf x=some .free)/\cl.lookup x=↑c/\((oU scope X.env).names.lookup x=some .cell\/(oU scope X.env).names.lookup x=some .free)
 len:idx.length=Fr.length
noncomputable def xt(T:List Str)(a:List Nat)(b:St):St:=T.map (λ_=>none)++a.map λi=>b[i]?.join
def lookup_mem{β:Type}:∀{l:List (Str×β)} {x:Str} {v:β},l.lookup x=↑v->(x,v)∈l:=by
 intro l
 induction l with
 |nil=>intro _ _ h;cases h
 |cons p r ih =>
  intro x v h;obtain⟨y,z⟩:=p;rw[iF]at h
  cases q:x==y with
  |true =>
   rw[q]at h;cases h;rw[eq_of_beq q];exact gR
  |false =>
   rw[q]at h;exact gU _<|ih h
def yW.has{l:List Str}(B:yW X a m T l idx)(h:(oU a X.env).names.lookup x=some .cell\/(oU a X.env).names.lookup x=some .free):∃c,m.lookup x=↑c:=by
 have d:∃k,(x,k)∈(oU a X.env).names/\(k=.cell\/k=.free):=by
  rcases h with h|h
  ·exact#[_,lookup_mem h,.inl rfl]
  ·exact#[_,lookup_mem h,.inr rfl]
 obtain⟨k,d,o⟩:=d;obtain⟨⟨n,f⟩,i,e⟩:=List.mem_map.mp d;dsimp only at e
 have:n=x/\f=.free:=by
  by_cases b:(f==NameKind.free&&X.env.scope.kind==ScopeKind.function&&X.env.kindOf n==↑NameKind.cell)=true
  ·rw[gN b]at e;have g:n=x:=congrArg Prod.fst e;simp only[iJ,beq_iff_eq]at b;exact#[g,b.1.1]
  ·rw[gM b]at e;have g:n=x:=congrArg Prod.fst e;have j:f=k:=congrArg Prod.snd e;rcases o with q|q
   ·exact hV (j.trans q)<|B.Bo _ i
   ·exact#[g,j.trans q]
 obtain⟨rfl,rfl⟩:=this;exact B.frl _ i rfl
def xV.WK(x:xV P w H h)(f:H a=none)(d:v4 P w (upd H a o) h a o):xV P w (upd H a o) h:=λb u e=>by
 by_cases g:b=a
 ·subst g;rw[uV]at e;cases e;exact d
 ·rw[uR g]at e;exact(x b u e).Do (λ_ _ _ q=>q) (λc q=>by rw[uR<|vc q f];exact q) λc i q=>by rw[uR<|vc q f];exact q
section
variable{X:Cx}{elt iter tg:iL}{scope:l9}{cl:List (Str×ci)}{T Fr:List Str}{idx:List Nat}{wi:TI}{g:TG}{tt:TT}{te:TE}{pos:Pos}{ifs:List iL}
def X5(X:Cx)(ifs:List iL)(tt:TT):Prop:=∀(a:List (ci×Obj)) (s:gW) (b:St) (H:Hp) (Q:Bool->Hp->Prop),Inv X a b H s->tt b H Q ->
 gZ 23 X.A (forIn ifs true λc r=>if r=true then do let ok <- qN c X.env (eval c X.env);pure (mU ok) else pure (mU r)) (TP X a b Q) X.xe s
def Uv:X5 X [] (λ_ H Q=>Q true H):=λ_ _ _ H _ I h=>sv #[H,I,h]
def Uw(h:PT X c b):X5 X [c] b:=λa s d H Q I q=>wpAny_tests_one<|h a s d H Q I q
def Qk(u:Nat->gW->Prop)
 (y:∀n s,u n s->gZ (g8 a w) A (pyNext H) (λr b=>match r with
 |none=>R (.ok .next) b
 |some v=>gZ (g8 a w) A (sk target H v) (λ_ f=>gZ (g8 a w) A (sL target e v) (λ_ i =>
 gZ (g8 a w) A (forIn ifs true λc r=>if r=true then do let z <- qN c e (eval c e);pure (mU z) else pure (mU r)) (λz d =>
 if z=true then gZ (g8 a w) A (eval elt e) (λx j=>gZ (g8 a w) A (call (.builtin "list.append") [G,x]) (λ_ k=>∃m,m<n/\u m k) (λ_ _=>False) j) (λ_ _=>False) d
 else ∃m,m<n/\u m d) (λ_ _=>False) i) (λ_ _=>False) f) (λ_ _=>False) b) (λ_ _=>False) s)
 (n:Nat) (h:u n s):mE (g8 a w) A (.compLoop (.ListComp elt [#[target,iter,ifs,0]] scope pos) 0 H G e) R s:=by
  refine codeAny_loop rfl u (λn s J=>?_) n h
  refine wpAny_noted ?_
  rw[compTurn_list]
  have l:∀{I:Type} {t:Sem I} {Q:I->gW->Prop} {E:cr->gW->Prop} {s:gW},gZ (g8 a w) A t Q (λ_ _=>False) s->gZ (g8 a w) A t Q E s:=λh=>jb h (λ_ _ q=>q) λ_ _ q=>q.elim
  refine am<|nI<|am<|l<|vI (y n s J) λr b o=>?_
  cases r with
  |none=>exact l<|ap o
  |some v =>
    refine am<|l<|vI o λ_ f B=>am<|l<|vI B λ_ i C=>am<|l<|vI C λz d p=>?_
    cases z with
    |false=>exact l<|ap #[rfl,p]
    |true=>exact am<|am<|l<|vI p λx j D=>am<|l<|vI D λ_ k F=>ap<|ap #[rfl,F]
end
structure X6(X:Cx)(c P:ci):Prop where
 code:X.env.code=.ref c
 hd:qU X.base c P
 blt:∃bm ob,X.mg "__builtins__"=↑(.ref bm)/\bm≠oy/\X.base.get? bm=↑ob/\ob.cls=.type "module"/\ob.dict=↑oy/\ob.data=.plain
def TabAt(H:Hp)(P:ci):Prop:=∃a,H P=↑(.Fo a)/\ug a.toList
def BK{a b:Int}:∀(l:List cr),ug l->ug (l++[.int a 0,.int b 0,c])
 | [],_=>trivial
 | .int _ _::.int _ _::_::r,h=>BK r h
noncomputable def zv(a b:List Int):Bool:=(a.zip b).all λp=>decide<|p.1<p.2
def Ux(a b:List Int):(ik<|min a.length b.length).all (λj=>decide<|a.getD j 0<b.getD j 0)=zv a b:=by
 unfold zv;rw[mi,oH,oH];constructor
 ·intro h p f;obtain⟨j,c⟩:=lK f;obtain⟨d,e⟩:=List.getElem?_zip_eq_some.mp c;have l:=(List.getElem?_eq_some_iff.mp d).1;have m:=(List.getElem?_eq_some_iff.mp e).1;have:=h j<|List.mem_range.mpr q0a;rw[jp,jp,d,e]at this;exact this
 ·intro h j c;have c:=List.mem_range.mp c;have g:a[j]?=↑(a.getD j 0):=by rw[jp,jv q0a];rfl
  have i:b[j]?=↑(b.getD j 0):=by rw[jp,jv q0a];rfl
  have k:(a.zip b)[j]?=↑(a.getD j 0,b.getD j 0):=List.getElem?_zip_eq_some.mpr #[g,i];exact h _<|jK k
def KP(S:Hp->ci->List V->Prop)(P:ci)(g:TA):TE:=λh H Q=>g h H λi c=>∃(a b:ci)(e f:List Int),i=[.ref a,.ref b]/\S c a (e.map V.int)/\S c b (f.map V.int)/\TabAt c P /\
 ∀d,(∀b o,b≠P->c b=↑o->d b=↑o)->(∀b,b≠P->c b=none->d b=none)->TabAt d P->Q (.bl<|zv e f) d
abbrev Z5(K:gO)(P:ci)(a:TA):TE:=KP (wo K) P a
abbrev X7(K:gO)(P:ci)(a:TA):TE:=KP (yZ K) P a
structure Ql(X:Cx)(S:Hp->ci->List V->Prop)(P:ci):Prop where
 go:∀{pins:List (ci×Obj)} {σ:St} {H1:Hp} {s1:gW} {a b:ci} {us vs:List V} {ps:Array cr},Inv X pins σ H1 s1->X.A.handled=none->S H1 a us->S H1 b vs->H1 P=↑(.Fo ps) ->
  ∃ia ib:List cr,Vals us ia/\Vals vs ib/\a<⇑s1/\b<⇑s1/\a≠P/\b≠P/\∀(Q:cr->gW->Prop)(E:cr->gW->Prop),
   (∀h2 St Mid,(∀A':jx,A'.handled=none->WalksU X.prog X.w A' (⇑s1+4) [⇑s1+4,⇑s1+2,⇑s1+3,⇑s1,⇑s1+1,a,b] [⇑s1+4,⇑s1+3,⇑s1,⇑s1+1] (min ia.toArray.size ib.toArray.size) (λi vals=>∃x y,ia.toArray[i]?=↑x/\ib.toArray[i]?=↑y/\vals=#v[x,y]) St Mid) ->
    St 0 h2->h2.objs.size=⇑s1+5->(∀c o,s1.heap.get? c=↑o->h2.get? c=↑o)->Q (.ref (⇑s1+4)) { s1 with heap:=h2})->gZ 23 X.A (call (.type "zip") [.ref a,.ref b]) Q E s1
def Inv.tabled{s':gW}(I:Inv X d l H s)(h:H P=↑(.Fo j))(m:s'.os=s.os)(p:nE s'.gens)
 (k:∀b o,b≠P->s.heap.get? b=↑o->s'.heap.get? b=↑o)(e:s'.heap.get? P=some { cls:=.none,data:=.fields (j++more)}):Inv X d l (upd H P<|.Fo<|j++more) s':=by
  have i:∀b,H b=none->b≠P:=λb n z=>by rw[z,h]at n;cases n
  have g:∀b u,H b=↑u->(∀q,u≠.Fo q)->b≠P:=λb u n f z=>by rw[z,h]at n;cases n;exact f _ rfl
  refine I.Ws (ch:=[]) m #[λb o q n _ _=>k b o (i b n) q,λb o q n _ _=>#[o.slots,k b o (i b n) q],λb o q n _=>by rw[uR<|i b n];exact n,λb o q _=>?_,λb r q=>by rw[uR<|g b _ q<|λ_ z=>nomatch z];exact q,λb o u q=>by rw[uR<|g b _ q<|λ_ z=>nomatch z];exact q,λb w q=>?_] (λb u q=>?_) p λb a=>by cases a
  · by_cases a : b = P
    · rw[a]; exact#[_, e]
    · exact#[o, k b o a q]
  · by_cases a : b = P
    · subst a
      rw[h]at q
      cases q
      exact#[more,uV]
    · exact#[#v[], by rw[uR a, q]; simp]
  · by_cases a : b = P
    · subst a
      rw[uV]at q
      cases q
      exact e
    · rw[uR a]at q
      refine(I.vK b u q).Do (λc v t z=>k c v ?_ z) (λc z=>by rw[uR<|g c _ z<|λ_ y=>nomatch y];exact z) λc r z=>by rw[uR<|g c _ z<|λ_ y=>nomatch y];exact z
      rcases t with y|y
      · rw[y]; exact a
      · exact g c _ y<|λ_ x => nomatch x
def Qm{s:gW}{a:Env}{i j:Int}(d:a.scope.kind=.function)(g:a.kindOf b=some .local)(k:a.kindOf c=some .local)(e:s.heap.Ns a.locals m)
 (l:m b=↑(.int i t))(n:m c=↑(.int j u))(o:(b==("__debug__":Str))=false)(p:(c==("__debug__":Str))=false)(h:Q (.bool<|decide<|i<j) s):gZ (g8 f w) A (eval (.Compare (.Name b q) [.Lt] [.Name c r] v) a) Q E s:=by
  refine sK (pK (kN d g e l<|pK (kN d k e n<|lt_int h) p) o)<|v9 _
def Jh(Z:Ql X S P)(aC:X.calm=true)(G:X6 X c P)(ae:X.A.depth<sN)(aD:Gl X "all")(aj:X.mg "all"=none)(aE:Gl X "zip")(aF:X.mg "zip"=none)(af:PA X [e1,e2] ta)
 (hk:n.kind=.function) (aG:n.isCoroutine=false) (ag:oB n X.env=pure []) (ah:∀y∈n.names,y.2≠.cell) (h0:n.names.lookup (".0":Str)=↑NameKind.local) (ao:n.names.lookup xa=some .local) (aq:n.names.lookup xb=some .local) (aH:xa≠xb)
 (da:(xa==("__debug__":Str))=false) (db:(xb==("__debug__":Str))=false)
 (aI:gP [e1,e2] X.env=(false,eval e1 X.env)::gP [e2] X.env:=by rfl) (aJ:(jm p3<|gP [e2] X.env).any (·.1)=false:=by rfl) :
    PE X (.Call (.Name "all" p1) [.GeneratorExp (.Compare (.Name xa q1) [.Lt] [.Name xb q2] q3) [#[.Tuple [.Name xa pa,.Name xb pb] kt pt,.Call (.Name "zip" p2) [e1,e2] [] p3,[],0]] n E] [] p4) (KP S P ta):=by
  intro p s σ H Q I h
  have hh:X.A.handled=none:=I.ok.hd aC
  refine kI<|zn I aD aj boot_all<|pH ?_ rfl rfl
  refine jX<|wpAny_GeneratorExp_walksQTD hh aG ag ah h0 ao aq aH hk ae (kI<|zn I aE aF boot_zip<|jZ (vI (af p3 p s σ H _ I h) λus m z9=>e2a3 z9 λvs H1 I1 r1 q1=>?_) aI aJ)<|λ_=>rfl
  obtain⟨a,b,ns,ms,rfl,ha,f,⟨U,hP,tr⟩,q⟩:=q1
  obtain⟨ua,ub,rfl,ra,rb⟩:=vals2 r1
  cases ra
  cases rb
  obtain⟨ia,ib,va,vb,aK,aL,aP,bP,aM⟩:=Z.go I1 hh ha f hP
  have B:m.heap.get? P=↑(qV U):=I1.vK P _ hP
  have ar:P<⇑m:=gX B
  refine aM _ _ λh2 St au W av aN k2=>?_
  refine(W X.A hh).self 0 { m with heap:=h2} _ _ av ?_
  have I2:Inv X p σ H1 { m with heap:=h2}:=I1.kept (t':=m.toks) k2
  refine#[I2.nolimit,?_]
  have aw:qU h2 c P:=G.hd.keeps λb o e=>I2.bk b o e
  have ax:=aw.code (k2 P _ B) tr
  have aO:=aw.tab<|k2 P _ B
  obtain⟨bm,ob,b1,b2,b3,b4,b5,b6⟩:=G.blt
  -- an the J: the uc is U++l,all else is kept
  have Y:∀(J:cr)(D:iM)(R:Nat)(l:Array cr),(∀b o,b≠P->h2.get? b=↑o->D.get? b=↑o)->h2.objs.size<=D.objs.size->D.get? P=some { cls:=.none,data:=.fields (U++l)}->ug (U++l).toList ->
      gZ 23 X.A (builtinsFor X.env.globals X.env.builtins) (λbi d=>∃I fp wr r Pt L au pz F,h8 (⇑m+4)=.ref I/\(∀A':jx,A'.handled=none->WalksU X.prog X.w A' I fp wr r Pt L au)/\(∀i M,Pt i M->∃va vb,M=#v[va,vb])/\L 0 d.heap/\(∀b∈fp,b<⇑d)/\d.heap.NoLimit/\rr∉wr /\
          (∀N:iM,(∀b o,d.heap.get? b=↑o->N.get? b=↑o) ->
            QuietGenTD X.prog X.w (genEnv n [] ⇑d J bi X.env) xa xb [] (.Compare (.Name xa q1) [.Lt] [.Name xb q2] q3) (ik ⇑d) wr Pt pz F N (X.A.depth+1) (X.A.units+8)) /\
          (∀a C R gs,gs.bare=true->⇑d<a->C.objs.size=a+1->(∀b o,d.heap.get? b=↑o->C.get? b=↑o) ->
            WalksS X.prog X.w X.A.in4 a (a::⇑d::ik ⇑d) (⇑d::wr) (GenOnlyQ d.gens.size) (passing pz r 0).length
              (λj y=>∃i,(passing pz r 0)[j]?=↑i/\F i y) (GenAt X.prog X.w X.A.in4 a d.gens.size ⇑d (ik ⇑d) wr pz r F) ->
            GenAt X.prog X.w X.A.in4 a d.gens.size ⇑d (ik ⇑d) wr pz r F 0 { d with gens:=d.gens.push gs,toks:=R,heap:=C} ->
            gZ 23 X.A (uq []) (λus ak=>gZ 23 X.A (call (.builtin "all") (.ref a::us)) (EP X p σ Q) X.xe ak) X.xe { d with gens:=d.gens.push gs,toks:=R,heap:=C})) X.xe { m with heap:=D,toks:=R}:=by
    intro J D R l k3 aQ e3 aR
    have I3:Inv X p σ (upd H1 P<|.Fo<|U++l) { m with heap:=D,toks:=R}:=Inv.tabled (s:={ m with heap:=h2}) (s':={ m with heap:=D,toks:=R}) I2 hP rfl I2.bare k3 e3
    have ay:=I3.bk
    refine wpAny_builtinsFor (by rw[I3.ok.glob];exact I3.mod.glob.keeps ay) b1 b2 (ay _ _ b3) b4 b5 b6 ?_
    have nz:∀k,⇑m+k≠P:=λk=>jj<|ic ar<|oM _ _
    have aS:rr<⇑m:=by obtain⟨mc,hn,_⟩:=I1.nolimit;exact hn.lt
    have aa:=va.length
    have ab:=vb.length
    rw[gV]at aa ab
    have aT:∀(i:Nat)(x:cr),ia.toArray[i]?=↑x->∃t,x=.int (ns.getD i 0) t:=λi x hx=>qS (AG va) i x (by simpa using hx)
    have aU:∀(i:Nat)(x:cr),ib.toArray[i]?=↑x->∃t,x=.int (ms.getD i 0) t:=λi x hx=>qS (AG vb) i x (by simpa using hx)
    have u:∀k,k<5->⇑m+k<D.objs.size:=λk hk=>ic (Nat.add_lt_add_left hk _)<|iA (qA aN.symm) aQ
    refine#[_,_,_,_,_,_,_,(λ_=>true),(λi y=>y=.bool (decide<|ns.getD i 0<ms.getD i 0)),rfl,W,λi M z9=>e2a3 z9 λx y _ _ e=>#[x,y,e],(W X.A hh).frame _ _ _ av λb f o e=>k3 b o ?_ e,λb f=>?_,I3.nolimit,?_,λN a1=>?_,λg h5 aV gs gb g1 g2 k5 WS GA=>?_]
    · simp only[io, ja, mf]at f
      rcases f with z|z|z|z|z|z|z<;>rw[z]
      · exact nz 4
      · exact nz 2
      · exact nz 3
      · exact nz 0
      · exact nz 1
      · exact aP
      · exact bP
    · simp only[io, ja, mf]at f
      rcases f with z|z|z|z|z|z|z<;>rw[z]
      · exact u 4 q0q
      · exact u 2 q0q
      · exact u 3 q0q
      · exact u 0 q0q
      · exact u 1 q0q
      · exact nL aK<|u 0 q0q
      · exact nL aL<|u 0 q0q
    · intro f
      simp only[io,ja,mf]at f
      have T:∀k,rr≠⇑m+k:=λk=>hR<|ic aS<|oM _ _
      rcases f with z|z|z|z
      · exact T 4 z
      · exact T 3 z
      · exact T 0 z
      · exact T 1 z
    · refine#[λA' E' i az aA s2 m2 _ _ _ _ _ _ _ _ => sv #[rfl, s2.heap, s2.toks, rfl, λ_ _ e => e], λA' E' i az aA s2 m2 hA _ _ aW _ hn aj aX _ => ?_]
      obtain⟨x,y,hx,hy,e⟩:=aW
      obtain⟨ex,ey⟩:az=x/\aA=y:=by simpa using congrArg si e
      subst ex ey
      obtain⟨t1,rfl⟩:=aT i _ hx
      obtain⟨t2,rfl⟩:=aU i _ hy
      exact Qm hk ao aq hn aj aX da db #[rfl,s2.heap,s2.toks,rfl,λ_ _ e=>e]
    · have ai : passing (λ_ => true) (min ia.toArray.size ib.toArray.size) 0 = ik (min ia.toArray.size ib.toArray.size) := by
        unfold passing
        simp
      rw[ai]at WS
      have W1:=WS.in4_1
      refine lm<|call_all_walkS<|W1.self 0 _ _ _ GA ⟨g,_,_,_,_,_,_,(λj=>decide<|ns.getD j 0<ms.getD j 0),rfl,W1,GA,λj v s7 Q' E' hv hq=>?_,λs7 mv=>?_⟩
      · obtain⟨i, hi, rfl⟩ := hv
        have:i=j:=by
          obtain⟨hl,he⟩:=List.getElem?_eq_some_iff.mp hi
          rw[List.getElem_range]at he
          exact he.symm
        subst this
        exact kg hq
      · have k7 : ∀b o, b<D.objs.size -> (∀k, b ≠ ⇑m+k) -> D.get? b = some o -> s7.heap.get? b = some o := λb o f hn e => mv.heap b o (by
          simp only[io,ja,mf,pP]
          exact#[hR f,hn 4,hn 3,hn 0,hn 1]) (k5 b o e)
        have O:∀b,b<⇑m->∀k,b≠⇑m+k:=λb f k=>hR<|ic f<|oM _ _
        have e7:s7.heap.get? P=some { cls:=.none,data:=.fields (U++l)}:=k7 P _ (gX e3) (O P ar) e3
        have I7:Inv X p σ (upd H1 P<|.Fo<|U++l) s7:=Inv.tabled I1 hP mv.os (AllBare.movedS (s:={ m with heap:=h5,gens:=m.gens.push gs,toks:=aV}) (I1.bare.push gb) mv) (λb o f e=>k7 b o (gX<|k3 b o f<|k2 b o e) (O b<|gX e)<|k3 b o f<|k2 b o e) e7
        refine#[.bl _,_,I7,rfl,?_]
        have al:(ik (ik<|min ia.toArray.size ib.toArray.size).length).all (λj=>decide<|ns.getD j 0<ms.getD j 0)=zv ns ms:=by
          rw[lx,hJ,hJ,<- aa,<- ab]
          exact Ux ns ms
        rw[al]
        exact q _ (λb o f e=>by rw[uR f];exact e) (λb f e=>by rw[uR f];exact e) #[_,uV,aR]
  cases aB:codeAmong E U.toList with
  |none =>
    refine wpAny_genexprCodeX G.code ax aO aB λc' D R hx aY aZ _ _ a0 _=>?_
    refine Y (.ref c') D R #v[lO E.line,lO E.col,.ref c'] (λb o f e=>hx b o f e) (iA aY<|lU aZ) a0.2 ?_
    rw[pO]
    exact BK _ tr
  |some cv =>
    refine wpAny_genexprCode_hit G.code ax aB ?_
    have:=Y cv h2 m.toks #v[] (λb o _ e=>e) (gQ _) (by simpa using k2 P _ B) (by simpa using tr)
    exact this
def a2b:Ql X (wo X.K) P:=#[λ{v M H1 j a b N O A} m R B C D=>by
 refine e1a3 (m.list B) λx F d S=>?_;refine e1a3 (m.list C) λy G f T=>?_;have i:j.heap.get? P=↑(qV A):=m.vK P _ D
 have h:∀(l:ci)(g:Array cr),j.heap.IsList l g->l≠P:=λl g n=>e1a3 n λo e c _ z=>by rw[z,i]at e;cases e;cases c
 have k:∀(l:ci)(g:Array cr),j.heap.IsList l g->l<⇑j:=λl g n=>e1a2 n λo e _=>gX e;refine#[x,y,F,G,k _ _ d.isList,k _ _ f.isList,h _ _ d.isList,h _ _ f.isList,λQ E H=>call_zip_2 d.isList f.isList λI J p q r s t u=>?_]
 exact H I _ _ (λU L=>(WalksT.zip2 (prog:=X.prog) (w:=X.w) L _ _ _ _ _ _ _ (zipApart_new (k _ _ d.isList) (k _ _ f.isList)) x.toArray y.toArray).toU) #[J,p,#[_,_,q],r,s,d.isList.at λo e=>u _ o e,f.isList.at λo e=>u _ o e] t u]
def Og{K:gO}{k:Nat}{f:gW}{C:List cr} 
 (KX:K.In f.heap) (I:f.heap.Ns hW U) (hb:f.heap.Ns oy mb) (ab:∀x:Str,x≠"__name__"->mb x=mX x) (J:f.heap.NoLimit) (hg:f.gens=#v[])
 (D:f.heap.get? a=some { cls:=.type "list",data:=.seq C.toArray}) (hi:kY C X) (hl:X.length<=gS) (hr:ww k rj)
 (hT:f.heap.TableAt c tab #v[]) (ae:K.lookup tab=none)
 (F:∀base:iM,K.In base->base.Ns hW U->(∀b o,f.heap.get? b=↑o->o.cls≠.type "list"->o.cls≠.none->base.get? b=↑o)->vD P w K U base CX k fa fd [x] sp) (E:∀(s:gW)(u:cr),sD s fd #[[u],[]] [(x,u)])
 (af:∀H:Hp,wo K H a (X.map V.int)->H tab=↑(.Fo #v[])->sp [.ref a] H (λv _=>v=.bl true) λ_ _ _=>False)
 (ag:∀H e j,CX [] H f (λ_ _ _=>False) e j->False) :
    mE (g8 P w) rj (.call (.ref fa) #[[.ref a],[]]) (λr j=>r=.ok (.ret<|.bool true)/\OldK f.heap j.heap/\j.os=f.os/\nE j.gens) f:=by
  have rv:=F7 hi
  have L:=hi.length
  have l:f.heap.get? tab=some { cls:=.none,data:=.fields #v[]}:=hT.2
  have nat:a≠tab:=λz=>by rw[z,l]at D;cases D
  -- from an abstract ah in aa nothing ai the Y and the uc aj be M
  have core:∀H:Hp,(∀b,H b=none\/(b=a/\∃o xs,H b=↑(.J7 o<|.lst xs))\/(b=tab/\H b=↑(.Fo #v[])))->wo K H a (X.map V.int)->H tab=↑(.Fo #v[])->xV P w H f.heap->(H a≠none->K.lookup a=none) ->
      mE (g8 P w) rj (.call (.ref fa) #[[.ref a],[]]) (λr j=>r=.ok (.ret<|.bool true)/\OldK f.heap j.heap/\j.os=f.os/\nE j.gens) f:=by
    intro H Z hS N O hK
    have freeOf:∀{b:ci} {o:Obj},f.heap.get? b=↑o->o.cls≠.type "list"->o.cls≠.none->H b=none:=λ{b o} e c1 c2=>by
      rcases Z b with z|⟨z,_⟩|⟨z,_⟩
      · exact z
      · rw[z, D]at e; cases e; exact hV rfl c1
      · rw[z, l]at e; cases e; exact hV rfl c2
    have y:∀{b:ci} {m:Str->Option cr},f.heap.Ns b m->(IG f.heap H).Ns b m:=λ{b m} z9=>e3a3 z9 λo es ep e d r=>by
      refine#[o,es,ep,DS e ?_,d,r]
      rcases Z b with z|⟨z,_⟩|⟨z,_⟩
      · exact z
      · rw[z, D]at e; cases e; have d' : Data.seq C.toArray _ = Data.dict es ep := d; cases d'
      · rw[z, l]at e; cases e; have d' : tF #v[] = Data.dict es ep := d; cases d'
    have Q:K.In (IG f.heap H):=λb o e=>DS (KX b o e) (by
      rcases Z b with z|⟨z,_,_,z2⟩|⟨z,_⟩
      · exact z
      · rw[z]at e z2; rw[hK<|by rw[z2]; simp]at e; cases e
      · rw[z, ae]at e; cases e)
    have hM:Mod K U (IG f.heap H):=#[Q,y I,#[mb,y hb,ab],e1a2 J λmc h1 h2=> #[mc,y h1,h2]]
    have e0:IR P w K U (IG f.heap H) rj [] f H:=#[rfl,hM,λb o e=>TV e,qA<|NG _ _,trivial,λb hb=>hV (show b∈([]:List ci) from hb) q0o,O,.of_eq hg]
    refine jT ((F _ Q (y I) λb o e c1 c2=>DS e<|freeOf e c1 c2).run rj [] f H ⟨[.ref a],[]⟩ [.ref a] [.ref a] _ _ hr e0 (E f<|.ref a) (.cons rfl .nil)<|af H hS N) λr j h=>?_
    cases r with
    |error e=>exact(ag H e j h).elim
    |ok fl =>
      cases fl with
      |next=>exact iC h
      |brk=>exact iC h
      |cont=>exact iC h
      |ret u =>
        obtain⟨v,H',os,R,un,B,r',q⟩:=h
        have q':v=.bl true:=q
        subst q'
        obtain rfl:u=rf true:=r'
        have G:∀b o,f.heap.get? b=↑o->H b=none->j.heap.get? b=↑o:=λb o e n=>un.keep b o e n (by intro z;exact hV (show b∈([]:List ci) from z) q0o) q0o
        obtain⟨more,hm⟩:=un.Be tab _ N
        have S:j.heap.get? tab=some { cls:=.none,data:=.fields (#v[]++more)}:=B tab _ hm
        have p:∀b o,f.heap.get? b=↑o->b≠tab->j.heap.get? b=↑o:=λb o e n=>by
          rcases Z b with z|⟨_,ob,xs,z⟩|⟨z,_⟩
          · exact G b o e z
          · have z2 := un.Bc b ob _ z
            obtain⟨e1,_⟩:=O b _ z
            obtain⟨e2,_⟩:=B b _ z2
            rw[e]at e1;cases e1
            exact e2
          · exact hV z n
        refine#[rfl,#[λb o e=>?_,λb o e=>?_],os,R]
        · by_cases t : b = tab
          · subst t
            rw[l]at e
            cases e
            exact .inr<|.inl #[hT.isCodeTable,rfl,#v[],more,rfl,S]
          · exact .inl<|p b o e t
        · by_cases t : b = tab
          · rw[t]; exact#[_, S]
          · exact#[o, p b o e t]
  have T:∀H:Hp,v4 P w H f.heap tab (.Fo #v[]):=λH=>l
  cases hk:K.lookup a with
  |some o =>
    have e:=KX a o hk
    rw[D]at e
    cases e
    refine core (λb=>if b=tab then some (.Fo #v[]) else none) (λb=>?_) (.inr #[_,C.toArray,_,hk,rfl,rfl,rfl,by rw[hJ,L];exact hl,by simpa using rv]) (gN rfl) (λb u z=>?_) λz=>hV (gM nat) z
    · by_cases g : b = tab
      · exact .inr<|.inr #[g, gN g]
      · exact .inl<|gM g
    · by_cases g : b = tab
      · have A := (gN g).symm.trans z
        cases A
        rw[g]
        exact T _
      · have A := (gM g).symm.trans z
        cases A
  |none =>
    refine core (λb=>if b=tab then some (.Fo #v[]) else if b=a then some (.J7 { cls:=.type "list",data:=.seq C.toArray} (.lst<|X.map V.int)) else none) (λb=>?_) (.inl<|.inr ⟨{ cls:=.type "list",data:=.seq C.toArray},(gM nat).trans<|gN rfl⟩) (gN rfl) (λb u z=>?_) λ_=>hk
    · by_cases g : b = tab
      · exact .inr<|.inr #[g, gN g]
      · by_cases i : b = a
        · exact .inr<|.inl #[i, _, _, (gM g).trans<|gN i]
        · exact .inl<|(gM g).trans<|gM i
    · by_cases g : b = tab
      · have A := (gN g).symm.trans z
        cases A
        rw[g]
        exact T _
      · by_cases i : b = a
        · have A := ((gM g).trans<|gN i).symm.trans z
          cases A
          subst i
          exact#[D,by rw[gV];exact hl,C,_,rv,D]
        · have A := ((gM g).trans<|gM i).symm.trans z
          cases A
structure Ji(mg:Str->Option cr)(base:iM)(c tab:ci):Prop where
 hd:qU base c tab
 blt:∃bm ob,mg "__builtins__"=↑(.ref bm)/\bm≠oy/\base.get? bm=↑ob/\ob.cls=.type "module"/\ob.dict=↑oy/\ob.data=.plain
def Qn{l:qE}{n k:Nat}{p:List Str}{XP:(Str->Option cr)->iM->Prop}{YP:iR->iM->Prop}{d:DefRec}{K:Params->gO}{sp:iR->gO->ci->Sp} 
 (hn:l.most=↑n) (L:n<=gS) (M:d.params.defaults=[]) (hr:ww k rj)
 (hY:∀(w:iR)(h:iM),YP w h->(K w.params).In h) (z:(recsOf q).find? (λe=>e.name==tx)=↑dx)
 (F:∀(w:iR)(r:Str->Option cr)(I:ci)(h:iM),(K w.params).In h->h.Ns hW r->r d.name=↑(.ref I) ->
 ∃(c j:ci)(N:iH),n6 (K w.params) tx=↑(c,j)/\(K w.params).lookup j=none/\(∀(s:gW)(u:cr),sD s N #[[u],[]] [(x,u)]) /\
 ∀i:iM,(K w.params).In i->i.Ns hW r->Ji r i c j->vD l.prog w (K w.params) r i CX k I N [x] (sp w (K w.params) j))
 (O:∀(w:iR)(K:gO)(H:Hp)(a j:ci)(J:List Int),J.length<=n->wo K H a (J.map V.int)->H j=↑(.Fo #v[])->sp w K j [.ref a] H (λv _=>v=.bl true) λ_ _ _=>False)
 (P:∀(H:Hp)(s:gW)(e:cr)(Q:gW),CX [] H s (λ_ _ _=>False) e Q->False) :
    uK q p XP YP l.row.toRowW d [] (λf vs=>tS f vs):=by
  refine Att.Ja hn M λw ab A r mb I o pm cd ae a vs J G Y ho hd af R B t m hg=>?_
  have S:=hY w _ Y
  obtain⟨c,j,N,ht,U,hb,hF⟩:=F w r I _ S G.T.g R
  obtain⟨C,hP⟩:=PySem.W.tab_of G.T S z ht
  obtain⟨bm,ob,b1,b2,b3,X,b5,b6⟩:=G.T.bmain
  refine Og S G.T.g G.T.b G.T.builtins G.T.nolimit hg B t (iA m L) hr (C.tab hP) U (λi kb nb bk=>hF i kb nb #[?_,bm,ob,b1,b2,bk _ _ b3 (by rw[X];simp) (by rw[X];simp),X,b5,b6]) hb (λH hS hH=>O w _ H a j J m hS hH) λH e Q=>P H A e Q
  obtain⟨o,Z,D,tf,y,tg,aa,E,tt,e1,r1,r2⟩:=C
  exact#[o,Z,D,tf,y,tg,aa,E,tt,bk _ _ e1 (by rw[r1];simp) (by rw[r1];simp),r1,r2]
end L2
namespace SX
open PySem PyProof.Rows
def a2c{k:Int}(S:vS w a c s.heap)(h:Q (.bool<|decide<|k∈c) { s with toks:=s.toks+1}):gZ (g8 b w) A (jy .In (.int k u)<|.ref a) Q E s :=
 wpAny_inSet_of (knd:=ky b w) (k:=k) (pQ _ _ _ _) rfl S.of h
def X8{k:Int}(S:vS w a d s.heap)(room:d.length+1<=127)
 (h:∀c b e,i4 a s.heap c->vS w a b c->b.Perm (if k∈d then d else k::d)->Q .none { s with heap:=c,toks:=e}) :
    gZ (g8 f w) A (call (.builtin "set.add") [.ref a,.int k u]) Q E s:=by
  refine iT F.slot_set_add S.typeIs F.entry_set_add ?_<|F.args_set_add_2 _ _
  show gZ _ _ (pB "add" #[[.ref a,.int k u],[]] >>= _) _ _ _
  refine am<|am<|ap<|ap<|am ?_
  refine WH S room λc b e g i p _=>ap #[_,rfl,h c b e g i p]
def Uy{k:Int}(S:vS w a e s.heap)
 (h:∀c b f,i4 a s.heap c->vS w a b c->(if k∈e then e.Perm (k::b) else b=e)->Q .none { s with heap:=c,toks:=f}) :
    gZ (g8 d w) A (call (.builtin "set.discard") [.ref a,.int k u]) Q E s:=by
  refine iT F.slot_set_discard S.typeIs F.entry_set_discard ?_<|F.args_set_discard_2 _ _
  show gZ _ _ (pB "discard" #[[.ref a,.int k u],[]] >>= _) _ _ _
  refine am<|am<|ap<|ap<|am ?_
  unfold Builtin.Frozenset.withSetAsKey setDiscard
  refine wpAny_tryCatch ?_
  refine iD<|am<|(ky d w).pyHash (k:=k) (pQ _ _ _ _) ?_
  exact Ga (s:={ s with toks:=s.toks+1}) S λc b g i p=>ap #[_,rfl,h c b _ g i p]
def KQ(h:∀a,Dd w ⇑s a->(∀c o,s.heap.get? c=↑o->a.get? c=↑o)->Q (.ref ⇑s) { s with heap:=a}) :
  mE (g8 b w) A (.call (.builtin "set.__new__") #[[.type "set"],[]]) (wants Q E) s:=by
 refine mH<|am<|mP F.newCall_set_0<|ap #[kU pI _,jM F.entry_set_new ?_];rw[jz pI _];unfold Builtin.«set.__new__» pw;have g:=pR;obtain⟨i,j,k,l,m⟩:=s;dsimp only;generalize d:newSet=n
 wp_walk
 subst d;refine Qg λa e f=>?_;exact ap<|h a e f
def Jj(h:∀k,vS w ⇑s [] k->(∀c o,s.heap.get? c=↑o->k.get? c=↑o)->Q (.ref ⇑s) { s with heap:=k}):gZ (g8 n w) A (call (.type "set") []) Q E s:=by
 obtain⟨I,J,p⟩:=F.called_set.mro;have l:=F.called_set.made;have q:=F.called_set.sub;refine mM<|mH<|ap #[nS _ q0s,jM F.entry_type_call ?_];rw[tN (uJ "set" [] []) rfl];have v:=F.called_set.notType;have x:=F.called_set.canCreate;have y:=F.typeCall_set_0
 repeat (any_goals (first|assumption|wp_step))
 refine jT (KQ (E:=E) (Q:=λf g=>f=.ref ⇑s/\∃a,g={ s with heap:=a}/\Dd w ⇑s a/\∀c o,s.heap.get? c=↑o->a.get? c=↑o) λa j m=>#[rfl,a,rfl,j,m]) λz L b=>?_
 cases z with
 |error e=>exact b
 |ok f1 =>
  cases f1 with
  |ret f =>
   obtain⟨rfl,a,rfl,j,m⟩:=b;have t:vS w ⇑s [] a:=j.set;have B:l6 { s with heap:=a} (.ref ⇑s) "set":=vS.typeIs (s:={ s with heap:=a}) t;have C:=F.called_set.init.lookup;have D:=F.called_set.init.bind<|.ref ⇑s
   repeat (any_goals (first|assumption|wp_step))
   refine jT (nN (R:=wants (λr i=>r=.none/\i={ s with heap:=a}) E) F.called_set.init.plain F.entry_set_init<|check_set_init B ?_) λG M d=>?_
   ·obtain⟨H,u,N,O⟩:=id j;unfold Builtin.«set.__init__» noKeywords
    wp_walk
    exact#[rfl,rfl]
   ·cases G with
    |error e=>exact d
    |ok f2 =>
     cases f2 with
     |ret r =>
      obtain⟨rfl,rfl⟩:=d
      repeat (any_goals (first|assumption|wp_step))
      exact h _ t m
     |_=>exact d.elim
  |_=>exact b.elim
end SX
namespace L2
open PySem PySem.Spec PyProof.Rows SX
section
variable{X:Cx}
def Oh:yM X (.type "set") (λa H Q=>a=[]/\∀p:ci,H p=none->Q (.ref p) (upd H p<|xi X.w p [])):=by intro b s c H a d Q I r h;obtain⟨rfl,q⟩:=h;cases r;exact Jj λe S k=>#[.ref ⇑s,_,I.laid (t':=s.toks) k (gQ _)<|GQ S,rfl,q _<|I.vK.fresh<|gQ _]
def a2d(w:iR):R2:=λx y H Q=>∃(k:Int)(a:ci)(b:List Int),x=.int k/\y=.ref a/\H a=↑(xi w a b)/\Q (.bl<|decide<|k∈b) H
def X9:AV X (jy .In) (a2d X.w):=by intro b s f H x y v u Q I c d h;obtain⟨k,a,g,rfl,rfl,e,q⟩:=h;obtain⟨t,rfl⟩:=c;cases d;exact a2c (zu I e) #[.bl _,H,I.tok _,rfl,q]
def Inv.sset{f:Nat}(I:Inv X c h H s)(i:H a=↑(xi X.w a k))(j:i4 a s.heap g)(S:vS X.w a d g) :
  Inv X c h (upd H a<|xi X.w a d) { s with heap:=g,toks:=f} :=
 I.write (t':=f) (by rw[i];trivial) (.inl rfl) (λb u n e=>j.extBut b u n e) (e3a2 S λ_ _ _ e _=> #[_,e]) (GQ S)
def Uz:Ze X "set.add" (λx d H Q=>∃(a:ci)(c:List Int)(k:Int),x=.ref a/\d=[.int k]/\H a=↑(xi X.w a c)/\c.length+1<=127/\∀b:List Int,b.Nodup->b.Perm (if k∈c then c else k::c)->Q .wF (upd H a<|xi X.w a b)):=by intro e s m H x d v n Q I g i h;obtain⟨a,c,k,rfl,rfl,f,j,q⟩:=h;cases g;obtain⟨u,rfl,t,rfl⟩:=i.one;exact X8 (zu I f) j λo b r l S p=>#[.wF,_,I.sset f l S,rfl,q b S.nodup p]
def Qo:Ze X "set.discard" (λx d H Q=>∃(a:ci)(c:List Int)(k:Int),x=.ref a/\d=[.int k]/\H a=↑(xi X.w a c)/\∀b:List Int,b.Nodup->(if k∈c then c.Perm (k::b) else b=c)->Q .wF (upd H a<|xi X.w a b)):=by intro e s l H x d v m Q I g i h;obtain⟨a,c,k,rfl,rfl,f,q⟩:=h;cases g;obtain⟨u,rfl,t,rfl⟩:=i.one;exact Uy (zu I f) λn b o j S p=>#[.wF,_,I.sset f j S,rfl,q b S.nodup p]
def Ya(w:iR)(r:V->List V->Hp->VK->Prop)(d:TE)(t:TA):TE:=λb H Q=>d b H λx c=>(∃(a:ci)(e:List Int),x=.ref a/\c a=↑(xi w a e))/\t b c λf g=>r x f g Q
variable{o e:iL}{es:List iL}{to:TE}{t:TA}{name:Str}{apos cpos:Pos}{id:String}{r:V->List V->Hp->VK->Prop}
def Qp(i:Slot "set" name id)(k:typeOf (.builtin id)=pure (.type "method_descriptor"))(q:Ze X id r)(u:PE X o to)(y:PA X (e::es) t)
 (f:iG o name X.env (eval o X.env)=eval o X.env:=by rfl)
 (j:((jm cpos<|gP (e::es) X.env).all (λx=>!x.1)&&(mZ cpos<|kP [] X.env).all (λx=>x.1.isSome)&&decide ((e::es).length+([]:List pN).length+(if ([]:List pN).isEmpty then 0 else 1)<30))=true:=by rfl)
 (g:(apos.endLine==cpos.line)=true:=by rfl) (z:gP (e::es) X.env=(false,eval e X.env)::gP es X.env:=by rfl) (d:(jm cpos<|gP es X.env).any (·.1)=false:=by rfl) :
    PE X (.Call (.Attribute o name apos) (e::es) [] cpos) (Ya X.w r to t):=by
  intro c s l H Q I h
  refine ux f j g rfl<|vI (u c s l H _ I h) λv A m=>e2a4 m λx B n C D E=>?_
  obtain⟨a,W,rfl,G⟩:=D
  cases C
  have S:=zu n G
  refine#["set",id,F.plainAttrs_set,i,k,S.typeIs,λb J=>?_,?_]
  · cases J
    refine e3a2 S λ_ _ _ L _=>?_
    exact#[_,L,rfl]
  have p:=y cpos c A l B _ n E
  rw[z]at p ⊢
  refine kf (by show (false||(jm cpos<|gP es X.env).any (·.1))=false;rw[d]<;>rfl)<|jA ?_
  exact vI p λM N m=>e2a3 m λO P R T U=>q c N l P (.ref a) O (.ref a) M Q R rfl T U
end
def DK(e:ci)(d:Option ci)(h:iM):Prop:=∃o,h.get? e=↑o/\o.dict=d
def UA(o:Obj)(f:Array cr->Array cr):(o.mapFields f).dict=o.dict:=by obtain⟨c,d,a,b⟩:=o;cases a<;>rfl
section
variable{M:Model}{A:jx}{E:cr->gW->Prop}{s:gW}{base:iM}{env:Env}{outer:List Env}{L e:ci}{oe:Obj}{vs:Array cr}{a0 cls:cr}{d:Option ci}
def WM{c:Bool}(m:A.frames=↑(env::outer))(k:s.heap.FunFrames base (env::outer))(I:env.frame=↑L)(n:s.heap.get? e=↑oe)(p:base.StaysIn s.heap)(r:base.get? e=none)(g:oe.data=.fields vs)(i:1<vs.size)(J:vs[0]?=↑a0)
 (h:∀t,Heap.NotedW base (env::outer) e oe.cls a0 (lO L) s.heap t->DK e oe.dict t->Q () { s with heap:=t}) :
    gZ M A (do setField (.ref e) 1 (<- EntryCells.newEntry head (<- frameOf env) .none (lO L) .none (<- entryPlaceOf L c))) Q E s:=by
  have N:e∉(env::outer).filterMap (·.frame):=λz=>by
    obtain⟨_,o,w,O⟩:=k.mem z
    rw[n]at w;cases w;exact O _ g
  refine am<|wpAny_frameOf_fun m k I λa l=>am<|wpAny_entryPlaceOf λx j=>?_
  have B:a.get? e=↑oe:=(l.2.1 e N).trans n
  have C:base.StaysIn a:=λb o q=>(l.2.1 b λz=>by rw[(k.mem z).1]at q;cases q).trans<|p b o q
  refine am<|iK ?_<|j.sizeOk5 _ _ _ _ _
  have P:∃f:Array cr,(([head,.ref L,.none,lO L,.none]++(if x.isEmpty then kR 6 Value.none else x)).toArray=f)/\f[3]?=↑(lO L):=#[_,rfl,by first|(simp;done)|(rcases j with rfl|⟨_,_,_,_,_,_,_,rfl⟩<;>simp)]
  obtain⟨f,R,S⟩:=P
  rw[R]
  have u:=ce (h:=a) { cls:=.type "traceback",dict:=none,data:=.fields f} B
  have D:a.objs.size≠e:=jj<|gX B
  refine m7 u g i<|h _ ?_ ?_
  · have F := Obj.data_mapFields g (·.setIfInBounds 1 (h8 a.objs.size))
    have T:=iP (Obj.mapFields (·.setIfInBounds 1 (h8 a.objs.size))) u<|Obj.isFreed_of_fields F
    have U:=(iE (a.push { cls:=.type "traceback",dict:=none,data:=.fields f}) (Obj.mapFields (·.setIfInBounds 1 (h8 a.objs.size)))<|Ne.symm D).trans<|hI a rfl
    have v:∀b o,b≠e->a.get? b=↑o->((a.push { cls:=.type "traceback",dict:=none,data:=.fields f}).update e (Obj.mapFields (·.setIfInBounds 1 (h8 a.objs.size)))).get? b=↑o:=λb o z q =>
      (iE _ _<|Ne.symm z).trans (ce _ q)
    have G:∀b o,s.heap.get? b=↑o->(∀vs,o.data≠.fields vs)->b≠e:=λb o q z y=>by rw[y,n]at q;cases q;exact z _ g
    refine#[λb o q=>v b o (λz=>by rw[z,r]at q;cases q)<|C b o q,k.of_keeps λb o q z=>?_,?_,λb o q z=>?_]
    · obtain⟨H, y⟩ := l.2.2 b o q
      exact#[_,v b _ (G b o q z) y,rfl]
    · exact#[_, _, a.objs.size, _, _, T, #[Obj.cls_mapFields _ _, by rw[Array.getElem?_setIfInBounds_ne q0q]; exact J], F, by simp[i], C.fresh, D, U, rfl, S]
    · obtain⟨H, y⟩ := l.2.2 b o q
      exact#[H,v b _ (G b o q z) y]
  · exact#[_, iP _ u<|Obj.isFreed_of_fields<|Obj.data_mapFields g _, UA _ _]
def UB(c:A.frames=↑(env::outer))(l:s.heap.FunFrames base (env::outer))(g:env.frame=↑L)(i:s.heap.get? e=↑oe)(f:base.StaysIn s.heap)(b:base.get? e=none)(j:oe.data=.fields vs)(k:vs[1]?=some .none)(m:vs[0]?=↑a0)
 (h:∀a,Heap.HeldW base (env::outer) e oe.cls a0 L a->s.heap.UpToSlots a->DK e oe.dict a->Q () { s with heap:=a}):gZ M A (uh (.ref e) env) Q E s:=by
  unfold uh
  simp only[g]
  refine am<|jc i j k ?_
  rw[gM q0q]
  exact WM c l g i f b j (Array.getElem?_eq_some_iff.mp k).1 m λa n=>e0a4 n λo p q r y=>h a #[o,b,p,q] r y
def UC(h:A.frames=↑(env::outer))(p:env.frame=↑L)(i:lS base (env::outer) e cls a0 s.heap)(x:DK e d s.heap)
 (B:∀f,Heap.HeldW base (env::outer) e cls a0 L f->s.heap.UpToSlots f->DK e d f->Q () { s with heap:=f}):gZ M A (uh (.ref e) env) Q E s:=by
  obtain⟨j,g,C,oe,vs,T,N,O,k,⟨rfl,D⟩,r,t,l,m,n,c,u⟩:=i
  obtain⟨P,v,rfl⟩:=x
  rw[k]at v;cases v
  unfold uh
  simp only[p]
  refine am<|jc k r t ?_
  rw[gN<|show (h8 T != Value.none)=true from by simp]
  refine am<|jc n c u ?_
  rw[gM<|show ¬((Value.none==lO L)=true) from by simp[lO]]
  refine am<|m7 n c (Array.getElem?_eq_some_iff.mp u).1 ?_
  have a:∀b,b≠T->(s.heap.update T (Obj.mapFields (·.setIfInBounds 3 Value.none))).get? b=s.heap.get? b:=λb z=>iE _ _<|Ne.symm z
  have w:∀b o,s.heap.get? b=↑o->(∀vs,o.data≠.fields vs)->b≠T:=λb o q z y=>by rw[y,n]at q;cases q;exact z _ c
  refine WM h (C.of_keeps λb o q z=>#[o,(a b<|w b o q z).trans q,rfl]) p ((a e<|Ne.symm m).trans k) (λb o q=>(a b λz=>by rw[z,l]at q;cases q).trans<|j b o q) g r (Array.getElem?_eq_some_iff.mp t).1 D
    λf F=>e0a4 F λG H I J y=>B f #[G,g,H,I] (λb o q z=>J b o ((a b<|w b o q z).trans q) z) y
def Z6(n:base.StaysIn s.heap)(p:base.get? e=none)(C:s.heap.FunFrames base l)(D:s.heap.TracedAtW base e cls a0 fl)(F:DK e d s.heap)
 (h:∀m,lS base l e cls a0 m->s.heap.UpToSlots m->DK e d m->Q () { s with heap:=m}):gZ M A (setFlight (.ref e) none) Q E s:=by
  obtain⟨oe,vs,T,H,I,r,g,u,v,i,j,t,a,G⟩:=D
  obtain⟨J,w,rfl⟩:=F
  rw[r]at w;cases w
  have k:=(Array.getElem?_eq_some_iff.mp G).1
  have c:∀b,b≠T->(s.heap.update T (Obj.mapFields (·.setIfInBounds 3 ((none:Option ci).elim Value.none λf=>lO f)))).get? b=s.heap.get? b:=λb z=>iE _ _<|Ne.symm z
  have x:∀b o,s.heap.get? b=↑o->(∀vs,o.data≠.fields vs)->b≠T:=λb o q z y=>by rw[y,t]at q;cases q;exact z _ a
  have B:=(c e<|Ne.symm j).trans r
  refine am<|jc r u v ?_
  rw[gN<|show (h8 T != Value.none)=true from by simp]
  refine m7 t a k<|h _ ⟨λb o q=>(c b λz=>by rw[z,i]at q;cases q).trans<|n b o q,p,C.of_keeps λb o q z=>#[o,(c b<|x b o q z).trans q,rfl],?_⟩ (λb o q z=>#[o.slots,(c b<|x b o q z).trans q]) #[_,B,rfl]
  exact#[oe,vs,T,_,_,B,g,u,v,i,j,iP _ t<|Obj.isFreed_of_fields<|Obj.data_mapFields a _,Obj.data_mapFields a _,by simp[k]]
def A7(b:A.frames=↑(env::outer))(k:s.heap.FunFrames base (env::outer))(l:env.frame=↑L)(m:s.heap.get? e=↑oe)(c:base.StaysIn s.heap)(f:base.get? e=none)(n:oe.data=.fields vs)(o:vs[1]?=some .none)(p:vs[0]?=↑a0)
 (h:∀a,lS base outer e oe.cls a0 a->s.heap.UpToSlots a->DK e oe.dict a->Q () { s with heap:=a}):gZ M A (ut env<|.ref e) Q E s:=by
  refine am<|UB b k l m c f n o p λq g=>e0a4 g λr t u v w x=>Z6 (s:={ s with heap:=q}) r t u v x λy g=>e0a4 g λz B ⟨_,_,C⟩ D i j=>?_
  exact h y #[z,B,C,D] (w.trans i) j
def Qq(b:A.frames=↑(env::outer))(j:env.frame=↑L)(c:lS base (env::outer) e cls a0 s.heap)(k:DK e d s.heap)
 (l:∀a,lS base outer e cls a0 a->s.heap.UpToSlots a->DK e d a->Q () { s with heap:=a}):gZ M A (ut env<|.ref e) Q E s:=by
  refine am<|UC b j c k λm f=>e0a4 f λn o p q r g=>Z6 (s:={ s with heap:=m}) n o p q g λt f=>e0a4 f λu v ⟨_,_,w⟩ x h i=>?_
  exact l t #[u,v,w,x] (r.trans h) i
end
class GX where
 g:ci->Option ci->Hp->Prop
variable[GX]
structure Ef(P:iB)(w:iR)(outer:List Env)(H:Hp)(s:gW)(H':Hp)(C x:ci)(s':gW):Prop where
 os:s'.os=s.os
 bare:nE s'.gens
 un:Un (zi outer) [] H H' s.heap s'.heap
 vK:xV P w H' s'.heap
 dct:∃d,DK x d s'.heap/\GX.g C d H'
 fly:∃(B:iM)(a0:cr),lS B outer x (.ref C) a0 s'.heap/\∀b o,s'.heap.get? b=↑o->(H' b≠none\/∃o0,s.heap.get? b=↑o0)->b∉zi outer->B.get? b=↑o
def vL(P:iB)(w:iR):PF:=λa H s E e c=>∃(C x:ci)(b:Hp),e=.ref x/\Ef P w a H s b C x c/\E (.ref C) ↑x b
def AH(x:xV P w H h)(e:H a=↑o):∃u,h.get? a=↑u:=by
 have d:∀o:HO,v4 P w H h a o->∃u,h.get? a=↑u:=by
  intro o q
  cases o with
  |lst i=>obtain⟨_,_,_,_,z⟩:=q;exact#[_,z]
  |tup i=>obtain⟨_,_,_,c,z,_⟩:=q;exact#[_,z]
  |dK g=>obtain⟨_,_,_,_,c,_,_,z,_⟩:=q;exact#[_,z]
  |dT g=>obtain⟨_,_,_,_,c,_,_,z,_⟩:=q;exact#[_,z]
  |set S n=>obtain⟨c,_,_,_,z,_⟩:=q;exact#[_,z]
  |ins C j fs=>obtain⟨_,_,_,z,_⟩:=q;exact#[_,z]
  |own b=>exact q
  |xd fs=>obtain⟨k,⟨c,_,_,z,_⟩,_⟩:=q;exact#[_,z]
  |yL lo l=>obtain⟨_,_,_,z⟩:=q;exact#[_,z]
  |J7 c u=>exact#[_,q.1]
  |Fo m=>exact#[_,q]
  |met f y=>exact#[_,q]
  |ext p=>exact q.2.1
 exact d o<|x a o e
section
variable{P:iB}{w:iR}{l:List Env}{H H':Hp}{s s2:gW}{B h':iM}
def Qr(u:Un (zi l) [] H H' s.heap s2.heap)(m:xV P w H' s2.heap)(g:∀b o,s2.heap.get? b=↑o->(H' b≠none\/∃D,s.heap.get? b=↑D)->b∉zi l->B.get? b=↑o)
 (i:∀b∈zi l,H' b=none/\∃o,s2.heap.get? b=↑o/\∀E,o.data≠.fields E)(p:B.StaysIn h')(F:s2.heap.UpToSlots h'):Un (zi l) [] H H' s.heap h'/\xV P w H' h':=by
  have d:∀b o,s2.heap.get? b=↑o->b∈zi l->∃r,h'.get? b=some { o with slots:=r}:=λb o e G=>by
    obtain⟨_,t,C,n⟩:=i b G
    rw[e]at C
    cases C
    exact F b o e n
  refine#[#[λb o e n f h=>?_,λb o e n f h=>?_,λb o e n h=>u.free b o e n h,λb o e h=>?_,u.Bw,u.Bc,u.Be],λa o e=>?_]
  · exact p b o<|g b o (u.keep b o e n f h) (.inr #[o, e]) f
  · obtain⟨r, k⟩ := u.slot b o e n f h
    obtain⟨x,y⟩:=d b _ k f
    exact#[x,y]
  · obtain⟨t, k⟩ := u.there b o e h
    by_cases f:b∈zi l
    · obtain⟨r, y⟩ := d b _ k f
      exact#[_,y]
    · exact#[_, p b t<|g b t k (.inr #[o, e]) f]
  · have I : ∀c, H' c ≠ none -> c ∉ zi l := λc A f => A (i c f).1
    refine(m a o e).Do (λc v A q=>?_) (λ_ q=>q) λ_ _ q=>q
    have j:H' c≠none:=by
      rcases A with z|z
      · rw[z, e]; simp
      · rw[z]; simp
    exact p c v<|g c v q (.inl j)<|I c j
end
section
variable{X:Cx}{pins:List (ci×Obj)}{σ:St}{H1 H':Hp}{s1 s2:gW}{C x:ci}{B h':iM}{a0:cr}
def xY(I:Inv X pins σ H1 s1)(a:X.stack=X.env::X.outer):X.env.frame=↑X.env.locals:=by
 rcases I.ok.Co with z|z
 ·rw[a]at z;have:=congrArg oi z;simp at this
 ·exact z.2
def Oi(I:Inv X pins σ H1 s1)(a:X.stack=X.env::X.outer):zi X.stack=X.env.locals::zi X.outer:=by rw[a];unfold zi;rw[kM,xY I a]
def KR(I:Inv X pins σ H1 s1)(D:X.stack=X.env::X.outer)(hex:X.ex=[])(os:s2.os=s1.os)(m:nE s2.gens)(u:Un (zi X.stack) [] H1 H' s1.heap s2.heap)(p:xV X.prog X.w H' s2.heap)
 (r:∀b o,s2.heap.get? b=↑o->(H' b≠none\/∃k,s1.heap.get? b=↑k)->b∉zi X.stack->B.get? b=↑o) (Z7:∀b∈zi X.stack,H' b=none/\∃o,s2.heap.get? b=↑o/\∀Q,o.data≠.fields Q)
 (up:s2.heap.UpToSlots h')(fl:lS B X.outer x (.ref C) a0 h')(E:∃d,DK x d h'/\GX.g C d H'):Ef X.prog X.w X.outer X.H₀ X.s₀ H' C x { s2 with heap:=h'}:=by
  obtain⟨i,s⟩:=Qr u p r Z7 fl.1 up
  have t:=Oi I D
  have base:Un (zi X.outer) [] X.H₀ H1 X.s₀.heap s1.heap:=by have:=I.base;rw[hex]at this;exact this
  have J:∀b:ci,b∉([]:List ci):=λb z=>by cases z
  have old:∀b o,X.s₀.heap.get? b=↑o->b≠X.env.locals:=λb o e z=>by
    have R:=gX e
    have L:=I.ok.above
    rw[<- z]at L
    exact hV (ic R L)<|jQ _
  have y:∀b o,X.s₀.heap.get? b=↑o->b∉zi X.outer->b∉zi X.stack:=λb o e n z=>by
    rw[t]at z
    rcases List.mem_cons.mp z with q|q
    · exact old b o e q
    · exact n q
  refine#[os.trans I.os,m,#[λb o e n j a=>?_,λb o e n j a=>?_,λb o e n a=>?_,λb o e a=>?_,λb M e=>?_,λb o v e=>?_,λb S e=>?_],s,E,B,a0,fl,λb o e A j=>?_]
  · exact i.keep b o (base.keep b o e n j a) (base.free b o e n a) (y b o e j) a
  · obtain⟨sl, c⟩ := base.slot b o e n j a
    obtain⟨F,f⟩:=i.slot b _ c (base.free b o e n a) (by rw[t];exact gU _ j) a
    exact#[F,f]
  · obtain⟨l, c⟩ := base.there b o e a
    exact i.free b l c (base.free b o e n a) a
  · obtain⟨l, c⟩ := base.there b o e a
    exact i.there b l c a
  · exact i.Bw b M<|base.Bw b M e
  · exact i.Bc b o v<|base.Bc b o v e
  · obtain⟨T, c⟩ := base.Be b S e
    obtain⟨U,f⟩:=i.Be b _ c
    exact#[T++U,by rw[f,pY]]
  · have fin : ∀h, s2.heap.get? b = some h -> (H' b ≠ none \/ ∃k, s1.heap.get? b = some k) -> b ∉ zi X.stack -> B.get? b = some o := λh f G H => by
      have q:=r b h f G H
      have N:=fl.1 b h q
      have W:h'.get? b=↑o:=e
      rw[W]at N
      cases N
      exact q
    rcases A with A|⟨k,O⟩
    · obtain⟨P, Y⟩ : ∃P, H' b = some P := by
        cases z:H' b with
        |none=>exact hV z A
        |some v=>exact#[v,rfl]
      obtain⟨h,f⟩:=AH p Y
      exact fin h f (.inl A) λz=>A (Z7 b z).1
    · obtain⟨l, c⟩ := base.there b k O (J b)
      obtain⟨h,f⟩:=u.there b l c<|J b
      exact fin h f (.inr #[l,c])<|y b k O j
def Ef.Z7(F:Ef P w l H s H' C x s2)(c:∀b∈zi l,H b=none/\∃o,s.heap.get? b=↑o):∀b∈zi l,H' b=none/\∃o,s2.heap.get? b=↑o/\∀d,o.data≠.fields d:=λb a=>by refine e2a2 F.fly λB a0 f _=>?_;obtain⟨n,o,e⟩:=c b a;exact#[F.un.free b o e n q0o,(f.2.2.1.mem a).2]
def Inv.frn(I:Inv X pins σ H1 s1):∀b∈zi X.stack,H1 b=none/\∃o,s1.heap.get? b=↑o:=λb a=>by have c:=I.IS;exact#[c.J1 b a,e1a2 ((c.yE.mem a).2) λo e _=> #[o,e]]
def Qs(I:Inv X pins σ H1 s1)(a:X.stack=X.env::X.outer)(b:X.ex=[])(F:Ef X.prog X.w X.stack H1 s1 H' C x s2) :
  gZ 23 X.A (ut X.env<|.ref x) (λ_ c=>Ef X.prog X.w X.outer X.H₀ X.s₀ H' C x c) E s2:=by
 have i:=F.Z7 I.frn;refine e2a2 F.fly λB a0 h e=>?_;rw[a]at h;refine e1a2 F.dct λd j k=>?_;refine Qq (by rw[I.ok.frames,a]) (xY I a) h j λh' f l g=>?_;exact KR I a b F.os F.bare F.un F.vK e i l f #[d,g,k]
end
section
variable{P:iB}{w:iR}{K:gO}{mg:Str->Option cr}{base:iM}{N:List Str}{qual:Str}{scope:l9}{f:ci}{cd:cr}{A:jx}{outer:List Env}{s:gW}{H:Hp}{E:XK}
def A8:Passes (vL P w) 19 E:=by intro a i j k e l I h;obtain⟨C,x,b,rfl,F,c⟩:=h;exact jb (Qs I rfl rfl F) (λ_ d g=>#[C,x,b,rfl,g,c]) λ_ _ z=>z
def yK:rL (g8 P w) (19).A (19).env (19).xe:=PassesOwn.leaving
end
variable[L2.GX]
set_option tactic.hygienic true in
def UD{K:gO}(Z:K.In h)(y:jq K C d b=true) :
  ∃j N t q u c v e w f x z A B E F k,h.get? C=↑(jD t q C N u j c v e w f x z A B E F b)/\h.Ns N k/\k "__init__"=none/\sI h d j:=by
 unfold jq at y;split at y
 ·rename_i G H l a
  split at y
  ·rename_i D I m n o p g r J L
   simp only[iJ,beq_iff_eq,uB]at y;obtain⟨⟨⟨⟨⟨M,O⟩,P⟩,Q⟩,s⟩,R⟩:=y;subst M;subst O;obtain⟨S,T,u3,U,X,Y,u7,u8,u9,i,aa⟩:=H;subst J;subst P
   have e3:l=#v[m,n,o,p,some<|.builtin g,r]:=by obtain⟨li⟩:=l;exact congrArg Array.mk L
   rw[e3]at a;exact#[I,U,S,X,T,Y,u7,u8,u9,i,G,m,n,o,p,r,_,Z _ _ a,.of_isNs<|pS Z s,PySem.W.nsMap_none_of_in Z s R,tq Z Q]
  ·cases y
 ·cases y
def Qt(C:ci)(E:XK)(a:TA):TS:=λ_ b H=>a b H λc d=>c.length<=gS/\∀x:ci,E (.ref C) ↑x d
section
variable{P:iB}{w:iR}{K:gO}{mg:Str->Option cr}{base:iM}{N:List Str}{qual:Str}{scope:l9}{f:ci}{cd:cr}{A:jx}{outer:List Env}{s:gW}{H:Hp}{E:XK}
def Eg(hg:Gl 19 x)(hm:mg x=↑(.ref C))(O:jq K C v i=true)
 (Y:kB B i n v) (g0:∀H',GX.g C none H') (ha:PA 19 (y::p) ta) (F:(x==("__debug__":Str))=false:=by decide)
 (r:gP (y::p) (19).env=(false,eval y (19).env)::gP p (19).env:=by rfl)
 (G:(jm d<|gP p (19).env).any (·.1)=false:=by rfl) :
    PS 19 (.Raise (some<|.Call (.Name x np) (y::p) [] d) none pos) (Qt C E ta):=by
  intro k s1 σ H1 D I h
  obtain⟨bm,N',nm,q,bs,l,sn,J,ab,L,dd,k0,k1,k2,k3,k5,mN,hC,hN,M,T⟩:=UD I.mod.Bv O
  have Z:=ha d k s1 σ H1 _ I h
  refine wpAny_Raise_call_subT (prog:=P) (w:=w) (C:=C) (nm:=nm) (q:=q) (N:=N') (bs:=bs) (bm:=bm) (hdct:=l) (sn:=sn) (sub:=J) (ab:=ab) (col:=L) (dd:=dd) (k0:=k0) (k1:=k1) (k2:=k2) (k3:=k3) (k5:=k5)
    Y (mN:=mN) (T.hasType Y.hasBase) (I.ok.hd rfl) (by rw[r];exact(Bool.false_or _).trans G) M (zm I hg hm #[rfl,?_] F)
  rw[r]at Z ⊢
  refine jA<|jb Z (λus u q2=>?_) λ_ _ z=>z
  refine e2a4 q2 λvs H2 c r2 hl hE=>?_
  refine#[rfl,by show us.length<=gS;rw[<- r2.length];exact hl,c.bk _ _ hC,hN.keeps c.bk,T.keeps c.bk,λh' e a=>?_]
  have m:(19).stack=(19).env::(19).outer:=rfl
  have fu:=c.IS.yE
  refine e1a3 a.there λt R _ _=>?_
  have S:(lY u.heap<|zi (19).stack).get? e=none:=by
    cases q:(lY u.heap<|zi (19).stack).get? e with
    |none=>rfl
    |some o=>have z:=ny _ q;rw[a.new]at z;cases z
  refine jb (A7 (base:=lY u.heap (zi (19).stack)) (a0:=.ref t) c.ok.frames
    ((rO fu λU r b j=>List.mem_filterMap.mpr #[U,r,j]).of_keeps λb o j _=>#[o,a.keeps b o j,rfl]) (xY c m) R (λb o z=>a.keeps b o (ny _ z)) S rfl rfl rfl (Q:=λ_ X=>vL P w outer H s E (.ref e) X) λaa fl up dk=>?_) (λ_ _ z=>z) λ_ _ z=>z
  refine#[C,e,H2,rfl,?_,hE e]
  refine KR (s2:=u) c m rfl rfl c.bare Un.refl c.vK (λb o z _ nf=>pf _ z nf) (λb j=>?_) ((qk a.keeps).trans up) fl #[_,dk,g0 _]
  exact#[(c.frn b j).1,(fu.mem j).2]
end
noncomputable abbrev hand(X:Cx)(x:ci):Cx:={ X with A:=X.A.mark<|some<|.ref x,calm:=false,xe:=λ_ _=>False}
def Inv.a2f(I:Inv { X with pn:=X.pn++a} b c H s):Inv X a c H s :=
 #[56,I.os,I.bare,I.base,I.loc,I.cell,I.free,I.yj,λp d=>I.pin p<|i8 _ d,I.vK,I.len]
def Inv.Qu(I:Inv X a b H s):Inv (hand X x) a b H s :=
 #[#[I.ok.mod,I.ok.kind,I.ok.glob,I.ok.blt,I.ok.above,I.ok.inj,I.ok.has,I.ok.Pc,(λz=>by cases z),I.ok.frames,I.ok.Co,I.ok.TY,I.ok.bs,I.ok.IH,I.ok.Dr,I.ok.DT,I.ok.yE,I.ok.J1],I.os,I.bare,I.base,I.loc,I.cell,I.free,I.yj,I.pin,I.vK,I.len]
def Inv.GS(b:X.calm=true->X.A.handled=none)(I:Inv (hand X x) a c H s):Inv X a c H s :=
 #[#[I.ok.mod,I.ok.kind,I.ok.glob,I.ok.blt,I.ok.above,I.ok.inj,I.ok.has,I.ok.Pc,b,I.ok.frames,I.ok.Co,I.ok.TY,I.ok.bs,I.ok.IH,I.ok.Dr,I.ok.DT,I.ok.yE,I.ok.J1],I.os,I.bare,I.base,I.loc,I.cell,I.free,I.yj,I.pin,I.vK,I.len]
end L2
namespace SX
open PySem PyProof.Rows
def Jk:nA (.type "dict") "__len__"=pure (some<|.builtin "dict.__len__"):=by rw[nZ,lQ];kernel_rfl
section
variable{prog:iB}{w:iR}{K:Type}[DecidableEq K]{knd:KeyKind prog w K}{A:jx}{E:cr->gW->Prop}{s:gW}{a:ci}{ks:List Int}{xn:List (K×cr)}{ep:Nat}
def Oj(hh:A.handled=none)(G:(a==kT)=false)(D:s.heap.DictAt knd a xn ep)(hl:xn.length<=gS)(S:xn.length=ks.length)
 (hk:∀(i:Nat)(k:K)(x:cr)(v:cr),xn[i]?=↑(k,x)->knd.is k v=true->∃j u,ks[i]?=↑j/\v=.int j u)
 (h:∀T tk vs,kY vs ks->(∀c o,s.heap.get? c=↑o->T.get? c=↑o)->⇑s<=T.objs.size->Q vs { s with heap:=T,toks:=tk}):gZ (g8 prog w) A (collect<|.ref a) Q E s:=by
  have f:a<⇑s:=D.lt_size
  obtain⟨o0,aj,H,l,ak,al⟩:=id D
  refine am<|sZ<|jM ue ?_
  rw[jz uf _]
  refine am (m:=newList [])<|iK<|ap #[kU oF _,jM F.entry_list_iadd ?_]
  rw[jz oF _]
  have z:∀c o,s.heap.get? c=↑o->(s.heap.push 57).get? c=↑o:=λc o q=>ce _ q
  have oL:(s.heap.push 57).get? ⇑s=some 57:=hI _ rfl
  have g:(s.heap.push 57).objs.size=⇑s+1:=jB _ _
  generalize s.heap.push 57=d at z oL g ⊢
  have D1:d.DictAt knd a xn ep:=D.at' λo q=>z a o q
  show gZ _ A.in1 (qc (.ref ⇑s) (.ref a)<|.ref ⇑s) _ _ { s with heap:=d}
  have hT:l6 { s with heap:=d} (.ref a) "dict":=#[_,z a _ H,l.1]
  refine am<|kQ hT ?_
  have n1:lH (.ref ⇑s) (.ref a)=false:=by simp[lH,jj f]
  have n2:(j4 "dict" == j4 "list")=false:=by decide
  have n3:(j4 "dict" == j4 "tuple")=false:=by decide
  simp only[n1,n2,n3,r8,kZ,pr]
  refine am<|wpAny_pyIter_dict (s:={ s with heap:=d}) G D1 ?_
  have I:∀c o,d.get? c=↑o->(d.push { cls:=.type "dict_keyiterator",data:=.fields #v[.ref a,.int 0 0,.int xn.length 0,.int ep 0]}).get? c=↑o:=λc o q=>ce _ q
  have i2:(d.push { cls:=.type "dict_keyiterator",data:=.fields #v[.ref a,.int 0 0,.int xn.length 0,.int ep 0]}).get? d.objs.size=some { cls:=.type "dict_keyiterator",data:=.fields #v[.ref a,.int 0 0,.int xn.length 0,.int ep 0]}:=hI _ rfl
  generalize d.push { cls:=.type "dict_keyiterator",data:=.fields #v[.ref a,.int 0 0,.int xn.length 0,.int ep 0]}=U at I i2 ⊢
  have p:l6 { s with heap:=U} (.ref a) "dict":=#[_,I a _<|z a _ H,l.1]
  refine am<|iD ?_
  refine am<|pT p Jk ?_
  generalize J:("dict.__len__":String)=X
  dsimp only
  rw[show splitId X=some ("dict","__len__") from by subst J;decide +kernel]
  subst J
  refine am<|mn (b:=true) p F.sub_dict_dict ?_
  rw[gM q0o]
  rw[gN q0s]
  refine am<|kQ p<|ap ?_
  have Y:A.in1.handled=none:=by simp[hh]
  have ne:a≠d.objs.size:=hR<|nL f (by rw[g];exact jw _)
  have W:=(Walks.dictKeys (knd:=knd) (A:=A.in1) Y d.objs.size a ne xn ep).toS
  have Z:⇑s∉[d.objs.size,a]:=by
    simp only[io,ja,mf,pP]
    exact#[by rw[g];exact hR<|jw _,jj f]
  have t:=I _ _ oL
  -- the ai,B an L aa of it
  have M:∀(C:iM)(N:Nat),C.get? ⇑s=some { cls:=.type "list",data:=.seq ([]:List cr).toArray N}->(∀c o,c≠⇑s->U.get? c=↑o->C.get? c=↑o) ->
      mE (g8 prog w) A (.builtin "list.extend.loop" #[[.ref ⇑s,.ref d.objs.size,.ref ⇑s],[]]) (λr s'=>match r with
        | .ok (.ret v)=>gZ (g8 prog w) A (match v with
          | .ref a=>do
            let o <- load a
            match o.data with
              | .seq xs ab=>pure xs.toList
              |x=>lu "internal:collect"
          |x=>lu "internal:collect") Q E s'
        | .ok _=>False
        | .error e=>E e s') { s with heap:=C}:=by
    intro C N y k4
    have I4:C.IsKeyIter d.objs.size a 0 xn.length ep/\C.DictAt knd a xn ep:=#[#[_,k4 _ _ (by rw[g];exact jj<|jw _) i2,rfl,rfl],D1.at' λo q=>k4 _ _ (hR f)<|I _ _ q]
    refine codeAny_extend_loopS W hl _ Z _ xn.length 0 _ _ _ rfl (i9 _) I4 y (ItemsOf.nil _) λs5 ae c5 R O n=>?_
    refine am<|qO O<|ap ?_
    obtain⟨h5,g5,d5,af,ag⟩:=s5
    have eg:g5=s.gens:=R.gens
    have ed:d5=s.drawn:=R.drawn
    have eo:ag=s.os:=R.os
    subst eg ed eo
    refine h h5 af ae.toList (Ad ?_ λi v hv=>?_) (λc o q=>R.heap c o (by
      simp only[io,ja,mf,pP]
      exact#[hR (gX q),hR (gX (z c o q))]) (k4 c o (hR (gX q)) (I c o (z c o q)))) (lU (gX O))
    · rw[gY, n.1, S]
    · obtain⟨k, x, hx, ah⟩ := n.2 i v (by rw[<- iI]; exact hv)
      exact hk i k x v hx ah
  first
    | (rw[gM q0s];exact ap ⟨kU qj _,M U 0 t λ_ _ _ q=>q⟩)
    | (rw[gN q0s]
       refine am<|md<|am ?_
       refine am<|pW t rfl ?_
       have P:=iP (Obj.mapSeq (·.push Value.none)) t rfl
       refine pW P rfl ?_
       have y:=iP (Obj.mapSeq (·.pop)) P rfl
       refine ap #[kU qj _,M _ _ y λc o hc q=>(iE _ _ (Ne.symm hc)).trans ((iE _ _ (Ne.symm hc)).trans q)])
end
end SX
namespace L2
open PySem PySem.Spec PyProof.Rows SX
def UE{k:Int}(h:zS (.inl k) v=true):∃u,v=.int k u:=by
 rcases wh h with⟨i,t,e,rfl⟩|⟨x,t,e,_⟩
 ·cases e;exact#[t,rfl]
 ·cases e
def Yb:∀{b:List (Key×V)} {c:List (Key×cr)} (_:KV b c) (i:Nat) {k:Key} {x:cr},c[i]?=↑(k,x)->∃y,b[i]?=↑(k,y):=by
 intro _ _ z
 induction z with
 |nil=>intro i _ _ h;cases h
 |cons a t d =>
  intro i k x h
  cases i with
  |zero=>cases h;exact#[_,congrArg some<|Prod.ext a.1 rfl]
  |succ i=>exact e1a1 (d i<|by simpa using h) λy q=>#[y,by simpa using q]
def GU(J:X.calm=true):yM X (.builtin "sorted") (λC H Q=>∃(a:ci) (b:List (Key×V)) (c:List Int),C=[.ref a]/\H a=↑(.dK b)/\b.map (·.1)=c.map iu/\c.length<64/\∀(p:ci)(t:List Int),H p=none->t.Perm c->t.Pairwise (·<=·)->Q (.ref p) (upd H p<|.lst<|t.map V.int)):=by
 intro E s σ H C us Q I r h;obtain⟨a,b,c,rfl,L,f,g,q⟩:=h;obtain⟨u,rfl,M⟩:=vals1 r;cases M;obtain⟨hz,l,F,G,N⟩:=I.vK a _ L;obtain⟨o,O,P,R,z,m,d⟩:=N;have D:s.heap.DictAt (vA X.prog X.w) a F P:=#[o,O,R,z,m,d];have S:b.length=F.length:=Paired.length G;have T:b.length=c.length:=by have:=congrArg oi f;simpa using this
 refine CG (λQ' k=>Oj (by simp[I.ok.hd J]) l D q0a q0a (λi U x v W A=>?_) λY Z B hi k1 sz=>k Y Z B c hi (.refl _) k1 sz) g<|Bm I g q;obtain⟨y,hy⟩:=Yb G i W;have n:(b.map (·.1))[i]?=↑U:=by rw[jE,hy];rfl
 rw[f,jE]at n
 cases e:c[i]? with
 |none=>rw[e]at n;cases n
 |some j =>
  rw[e]at n;cases n;obtain⟨u,hu⟩:=UE A;exact#[j,u,rfl,hu]
end L2
namespace WL
open PySem L2
abbrev Wf(A τ PO:Type):=A->(τ->PO->Prop)->(ci->PO->Prop)->Prop
abbrev Rg:=ci->Prop
structure Ext(G R:Rg)(H:Hp)(R':Rg)(H':Hp):Prop where
 keep:∀b o,¬G b->H b=↑o->H' b=↑o
 new:∀a,R' a->R a\/H a=none
def Ext.wide(e:Ext G R H c d)(s:∀a,G a->R a):Ext R R H c d:=#[λb o n h=>e.keep b o (λg=>n<|s b g) h,e.new]
def Ext.not(e:Ext G R H b c)(n:¬R a)(h:H a=↑o):¬b a:=λz=>by
 rcases e.new a z with q|q
 ·exact n q
 ·rw[h]at q;cases q
class Rep(α:Type) where
 rp:Rg->Hp->α->V->Prop
 st:∀{R:Rg} {H:Hp} {R':Rg} {H':Hp} {x:α} {v:V},rp R H x v->Ext R R H R' H'->rp R' H' x v
open Rep (rp)
instance:Rep Int:=#[λ_ _ i v=>v=.int i,λh _=>h]
instance:Rep Bool:=#[λ_ _ i v=>v=.bl i,λh _=>h]
instance:Rep Unit:=#[λ_ _ _ v=>v=.wF,λh _=>h]
instance{α:Type}[Rep α]:Rep (Option α):=#[λR H x v=>match x with|none=>v=.wF|some y=>v≠.wF/\rp R H y v,λ{R H R' H' x v} h e=>by
 cases x with
 |none=>exact h
 |some y=>exact#[h.1,Rep.st h.2 e]]
def wl{α:Type}[Rep α]{R R':Rg}{H H':Hp}(e:Ext R R H R' H'):∀{xs:List α} {vs:List V},Paired (rp R H) xs vs->Paired (rp R' H') xs vs:=by
 intro _ _ z
 induction z with
 |nil=>exact .nil
 |cons h t ih=>exact .cons (Rep.st h e) ih
instance{α:Type}[Rep α]:Rep (List α):=#[λR H xs v=>∃a vs,v=.ref a/\¬R a/\H a=↑(.lst vs)/\Paired (rp R H) xs vs,λ{R H R' H' x v} h e=>by
 refine e2a4 h λa vs h1 h2 h3 h4=>?_
 exact#[a,vs,h1,e.not h2 h3,e.keep a _ h2 h3,wl e h4]]
instance{α β:Type}[Rep α][Rep β]:Rep (α×β):=#[λR H x v=>∃a u w,v=.ref a/\¬R a/\H a=↑(.tup [u,w])/\rp R H x.1 u/\rp R H x.2 w,λ{R H R' H' x v} h e=>by
 obtain⟨a,u,w,h1,h2,h3,h4,h5⟩:=h
 exact#[a,u,w,h1,e.not h2 h3,e.keep a _ h2 h3,Rep.st h4 e,Rep.st h5 e]]
structure Tp(α:Type) where
 l:List α
instance{α:Type}[Rep α]:Rep (Tp α):=#[λR H xs v=>∃a vs,v=.ref a/\¬R a/\H a=↑(.tup vs)/\Paired (rp R H) xs.l vs,λ{R H R' H' x v} h e=>by
 refine e2a4 h λa vs h1 h2 h3 h4=>?_
 exact#[a,vs,h1,e.not h2 h3,e.keep a _ h2 h3,wl e h4]]
class Ow(τ:Type) where
 sl:Rg->Rg->Hp->τ->Option V->Prop
 st:∀{F G R:Rg} {H:Hp} {R':Rg} {H':Hp} {x:τ} {v:Option V},sl F R H x v->Ext G R H R' H'->(∀a,G a->R a)->(∀a,F a->¬G a)->sl F R' H' x v
 fq:∀{F F' R:Rg} {H:Hp} {x:τ} {v:Option V},sl F R H x v->(∀a,F a↔F' a)->sl F' R H x v
open Ow (sl)
structure Un where
instance:Ow Un:=#[λF _ _ _ _=>∀a,¬F a,λh _ _ _=>h,λh e a z=>h a ((e a).mpr z)]
noncomputable instance a22{α:Type}[Rep α]:Ow α:=#[λF R H x v=>(∀a,¬F a)/\∃u,v=↑u/\rp R H x u,λh e s _=>#[h.1,e1a2 h.2 λu h1 h2=> #[u,h1,Rep.st h2<|e.wide s]],λh e=>#[λa z=>h.1 a<|(e a).mpr z,h.2]]
structure OL(α:Type) where
 l:List α
instance{α:Type}[Rep α]:Ow (OL α):=#[λF R H x v=>∃a vs,v=↑(.ref a)/\(∀b,F b↔b=a)/\H a=↑(.lst vs)/\Paired (rp R H) x.l vs,
 λh e s n=>by
  refine e2a4 h λa vs h1 h2 h3 h4=>?_
  exact#[a,vs,h1,h2,e.keep a _ (n a<|(h2 a).mpr rfl) h3,wl (e.wide s) h4],
 λh e=>by
  refine e2a4 h λa vs h1 h2 h3 h4=>?_
  exact#[a,vs,h1,λb=>(e b).symm.trans (h2 b),h3,h4]]
class Sls(D:Type) where
 rel:Rg->Rg->Hp->D->St->Prop
 st:∀{F G R:Rg} {H:Hp} {R':Rg} {H':Hp} {d:D} {σ:St},rel F R H d σ->Ext G R H R' H'->(∀a,G a->R a)->(∀a,F a->¬G a)->rel F R' H' d σ
 fq:∀{F F' R:Rg} {H:Hp} {d:D} {σ:St},rel F R H d σ->(∀a,F a↔F' a)->rel F' R H d σ
open Sls (rel)
instance:Sls Unit:=#[λF _ _ _ σ=>σ=[]/\∀a,¬F a,λh _ _ _=>h,λh e=>#[h.1,λa z=>h.2 a ((e a).mpr z)]]
structure Du(F F1 F2:Rg):Prop where
 all:∀a,F a↔F1 a\/F2 a
 ym:∀a,F1 a->F2 a->False
instance{τ D:Type}[Ow τ][Sls D]:Sls (τ×D):=#[λF R H d σ=>∃v σ' F1 F2,σ=v::σ'/\Du F F1 F2/\sl F1 R H d.1 v/\rel F2 R H d.2 σ',
 λh e s n=>by
  refine e4a4 h λv σ' F1 F2 h1 h2 h3 h4=>?_
  exact#[v,σ',F1,F2,h1,h2,Ow.st h3 e s<|λa z=>n a<|(h2.all a).mpr<|.inl z,Sls.st h4 e s<|λa z=>n a<|(h2.all a).mpr<|.inr z],
 λh e=>by
  refine e4a4 h λv σ' F1 F2 h1 h2 h3 h4=>?_
  exact#[v,σ',F1,F2,h1,#[λa=>(e a).symm.trans (h2.all a),h2.ym],h3,h4]]
class At(i:Nat)(B:Type)[Sls B](τ:outParam Type)[Ow τ](B':outParam Type)[Sls B'] where
 get:B->τ
 hole:B->B'
 take:∀{F R:Rg} {H:Hp} {b:B} {σ:St},rel F R H b σ->∃v F1 F2,σ[i]?=↑v/\Du F F1 F2/\sl F1 R H (get b) v/\rel F2 R H (hole b) σ
class Pt(i:Nat)(B':Type)[Sls B'](τ:Type)[Ow τ](B:outParam Type)[Sls B] where
 put:B'->τ->B
 back:∀{F F1 F2 R:Rg} {H:Hp} {b:B'} {x:τ} {v:Option V} {σ:St},rel F2 R H b σ->Du F F1 F2->sl F1 R H x v->rel F R H (put b x) (σ.set i v)
def set_same:∀{l:List b} {i:Nat} {v:b},l[i]?=↑v->l.set i v=l
 | [],_,_,h=>by simp at h
 |_::_,0,_,h=>by simp at h;subst h;rfl
 |a::r,i+1,v,h=>by show a::r.set i v=a::r;rw[set_same<|by simpa using h]
def Pt.same{i:Nat}{B' τ B:Type}[Sls B'][Ow τ][Sls B][A:Pt i B' τ B]{F F1 F2 R:Rg}{H:Hp}{b:B'}{x:τ}{v:Option V}{σ:St}(h:rel F2 R H b σ)(e:σ[i]?=↑v)(t:Du F F1 F2)(s:sl F1 R H x v):rel F R H (A.put b x) σ:=by have:=A.back h t s;rw[set_same e]at this;exact this
noncomputable instance at0{τ D:Type}[Ow τ][Sls D]:At 0 (τ×D) τ (Un×D) where
 get b:=b.1
 hole b:=(#[],b.2)
 take:=λh=>by refine e4a4 h λv σ' F1 F2 h1 h2 h3 h4=>?_;exact#[v,F1,F2,by rw[h1];rfl,h2,h3,v,σ',λ_=>False,F2,h1,#[λa=>#[.inr,λz=>z.elim (λq=>q.elim) id],λ_ z _=>z],λ_ z=>z,h4]
noncomputable instance pt0{τ D:Type}[Ow τ][Sls D]:Pt 0 (Un×D) τ (τ×D) where
 put b x:=(x,b.2)
 back:=λ{F F1 F2 R H b x v σ} h t s=>by refine e4a4 h λv' σ' G1 G2 h1 h2 h3 h4=>?_;have e2:∀a,G2 a↔F2 a:=λa=>#[λz=>(h2.all a).mpr<|.inr z,λz=>((h2.all a).mp z).elim (λq=>hV q<|h3 a) id];exact#[_,σ',F1,F2,by rw[h1];rfl,t,s,Sls.fq h4 e2]
noncomputable instance atS{i:Nat}{ρ τ D D':Type}[Ow ρ][Ow τ][Sls D][Sls D'][A:At i D τ D']:At (i+1) (ρ×D) τ (ρ×D') where
 get b:=A.get b.2
 hole b:=(b.1,A.hole b.2)
 take:=λh=>by
  refine e4a4 h λv σ' F1 F2 h1 h2 h3 h4=>?_;refine e3a4 (A.take h4) λu G1 G2 k1 k2 k3 k4=>?_;refine#[u,G1,λa=>F1 a\/G2 a,by rw[h1];simpa using k1,#[λa=>?_,λa z q=>?_],k3,v,σ',F1,G2,h1,#[λa=>Iff.rfl,λa z q=>h2.ym a z<|(k2.all a).mpr<|.inr q],h3,k4]
  ·rw[h2.all,k2.all];exact#[λz=>z.elim (λq=>.inr<|.inl q) λz=>z.elim .inl λq=>.inr<|.inr q,λz=>z.elim (λq=>.inr<|.inl q) λz=>z.elim .inl λq=>.inr<|.inr q]
  ·rcases q with q|q
   ·exact h2.ym a q<|(k2.all a).mpr<|.inl z
   ·exact k2.ym a z q
noncomputable instance ptS{i:Nat}{ρ τ D D':Type}[Ow ρ][Ow τ][Sls D][Sls D'][A:Pt i D' τ D]:Pt (i+1) (ρ×D') τ (ρ×D) where
 put b x:=(b.1,A.put b.2 x)
 back:=λ{F F1 F2 R H b x v σ} h t s=>by
  refine e4a4 h λv' σ' G1 G2 h1 h2 h3 h4=>?_;have t':Du (λa=>F1 a\/G2 a) F1 G2:=#[λa=>Iff.rfl,λa z q=>t.ym a z<|(h2.all a).mpr<|.inr q];refine⟨v',σ'.set i v,G1,λa=>F1 a\/G2 a,by rw[h1];rfl,#[λa=>?_,λa z q=>?_],h3,A.back h4 t' s⟩
  ·rw[t.all,h2.all];exact#[λz=>z.elim (λq=>.inr<|.inl q) λz=>z.elim .inl λq=>.inr<|.inr q,λz=>z.elim (λq=>.inr<|.inl q) λz=>z.elim .inl λq=>.inr<|.inr q]
  ·rcases q with q|q
   ·exact t.ym a q<|(h2.all a).mpr<|.inl z
   ·exact h2.ym a z q
class Fg(D:Type)[Sls D](D':Type)[Sls D'] where
 fg:D->D'
 le:∀{F R:Rg} {H:Hp} {d:D} {σ:St},rel F R H d σ->∃F',(∀a,F' a->F a)/\rel F' R H (fg d) σ
noncomputable instance fgId{D:Type}[Sls D]:Fg D D:=#[id,λh=>#[_,λ_ z=>z,h]]
def two_le{F d e b c:Rg}(t:Du F d e)(f:∀a,b a->d a)(g:∀a,c a->e a):Du (λa=>b a\/c a) b c:=#[λ_=>Iff.rfl,λa x y=>t.ym a (f a x)<|g a y]
instance(priority:=low) fgUn {τ D D':Type}[Ow τ][Sls D][Sls D'][A:Fg D D']:Fg (τ×D) (Un×D'):=#[λd=>(#[],A.fg d.2),λh=>by
 obtain⟨v,σ',F1,F2,h1,h2,h3,h4⟩:=h;obtain⟨F',k1,k2⟩:=A.le h4
 exact#[_,λa z=>(h2.all a).mpr (.inr (k1 a (z.elim (λq=>q.elim) id))),v,σ',λ_=>False,F',h1,#[λa=>Iff.rfl,λ_ z _=>z],λ_ z=>z,k2]]
noncomputable instance fgCons{τ D D':Type}[Ow τ][Sls D][Sls D'][A:Fg D D']:Fg (τ×D) (τ×D'):=#[λd=>(d.1,A.fg d.2),λh=>by
 refine e4a4 h λv σ' F1 F2 h1 h2 h3 h4=>?_;refine e1a2 (A.le h4) λF' k1 k2=>?_
 exact#[_,λa z=>(h2.all a).mpr (z.elim .inl λq=>.inr (k1 a q)),v,σ',F1,F',h1,two_le h2 (λ_ z=>z) k1,h3,k2]]
class Pj(D:Type)[Sls D](P:Type)[Sls P](n:outParam Nat) where
 pj:D->P
 le:∀{F R:Rg} {H:Hp} {d:D} {σ:St},rel F R H d σ->∃F',(∀a,F' a->F a)/\rel F' R H (pj d) (σ.take n)
noncomputable instance pjNil{D:Type}[Sls D]:Pj D Unit 0:=#[λ_=>(),λh=>#[λ_=>False,λ_ z=>z.elim,rfl,λ_ z=>z]]
instance(priority:=low) pjUn {τ D P:Type}{n:Nat}[Ow τ][Sls D][Sls P][A:Pj D P n]:Pj (τ×D) (Un×P) (n+1):=#[λd=>(#[],A.pj d.2),λh=>by
 obtain⟨v,σ',F1,F2,h1,h2,h3,h4⟩:=h;obtain⟨F',k1,k2⟩:=A.le h4
 exact#[_,λa z=>(h2.all a).mpr (.inr (k1 a (z.elim (λq=>q.elim) id))),v,σ'.take n,λ_=>False,F',by rw[h1];rfl,#[λa=>Iff.rfl,λ_ z _=>z],λ_ z=>z,k2]]
noncomputable instance pjCons{τ D P:Type}{n:Nat}[Ow τ][Sls D][Sls P][A:Pj D P n]:Pj (τ×D) (τ×P) (n+1):=#[λd=>(d.1,A.pj d.2),λh=>by
 refine e4a4 h λv σ' F1 F2 h1 h2 h3 h4=>?_;refine e1a2 (A.le h4) λF' k1 k2=>?_
 exact#[_,λa z=>(h2.all a).mpr (z.elim .inl λq=>.inr (k1 a q)),v,σ'.take n,F1,F',by rw[h1];rfl,two_le h2 (λ_ z=>z) k1,h3,k2]]
class Sel(is:List Nat)(D:Type)[Sls D](S:outParam Type)[Sls S](D0:outParam Type)[Sls D0] where
 sel:D->S
 rest:D->D0
 mrg:D0->S->D
 cut:∀{F R:Rg} {H:Hp} {d:D} {σ:St},rel F R H d σ->∃F1 F2,Du F F1 F2/\rel F1 R H (sel d) (is.map λi=>σ[i]?.join)/\rel F2 R H (rest d) σ/\∀i∈is,i<σ.length
 join:∀{F F1 F2 R:Rg} {H:Hp} {d:D0} {s:S} {σ:St},Du F F1 F2->rel F1 R H s (is.map λi=>σ[i]?.join)->rel F2 R H d σ->(∀i∈is,i<σ.length)->rel F R H (mrg d s) σ
noncomputable instance selNil{D:Type}[Sls D]:Sel [] D Unit D where
 sel _:=()
 rest d:=d
 mrg d _:=d
 cut:=λ{F R H d σ} h=>#[λ_=>False,F,#[λa=>#[.inr,λz=>z.elim (λq=>q.elim) id],λ_ z _=>z],#[rfl,λ_ z=>z],h,λ_ z=>by cases z]
 join:=λ{F F1 F2 R H d s σ} t h1 h2 _=>Sls.fq h2 λa=>#[λz=>(t.all a).mpr<|.inr z,λz=>((t.all a).mp z).elim (λq=>hV q<|h1.2 a) id]
noncomputable instance selCons{i:Nat}{is:List Nat}{D τ D1 S D0:Type}[Sls D][Ow τ][Sls D1][Sls S][Sls D0][A:At i D τ D1][P:Pt i D1 τ D][B:Sel is D1 S D0]:Sel (i::is) D (τ×S) D0 where
 sel d:=(A.get d,B.sel<|A.hole d)
 rest d:=B.rest<|A.hole d
 mrg d s:=P.put (B.mrg d s.2) s.1
 cut:=λ{F R H d σ} h=>by
  refine e3a4 (A.take h) λv F1 F2 h1 h2 h3 h4=>?_;refine e2a4 (B.cut h4) λG1 G2 k1 k2 k3 k4=>?_;have hv:σ[i]?.join=v:=by rw[h1];rfl
  refine#[λa=>F1 a\/G1 a,G2,#[λa=>?_,λa z q=>?_],#[v,_,F1,G1,by rw[im,hv],#[λ_=>Iff.rfl,λa z q=>h2.ym a z<|(k1.all a).mpr<|.inl q],h3,k2],k3,λj hj=>?_]
  ·rw[h2.all,k1.all];exact#[λz=>z.elim (λq=>.inl<|.inl q) λz=>z.elim (λq=>.inl<|.inr q) .inr,λz=>z.elim (λz=>z.elim .inl λq=>.inr<|.inl q) λq=>.inr<|.inr q]
  ·rcases z with z|z
   ·exact h2.ym a z<|(k1.all a).mpr<|.inr q
   ·exact k1.ym a z q
  ·rcases List.mem_cons.mp hj with e|e
   ·rw[e];exact(List.getElem?_eq_some_iff.mp h1).1
   ·exact k4 j e
 join:=λ{F F1 F2 R H d s σ} t h1 h2 hl=>by
  refine e4a4 h1 λv σ' G1 G2 k1 k2 k3 k4=>?_;rw[im]at k1;injection k1 with e1 e2;subst e2;have hi:i<σ.length:=hl i gR
  have ev:σ[i]?=↑v:=by rw[jv hi]at e1 ⊢;exact congrArg some e1
  have t2:Du (λa=>G2 a\/F2 a) G2 F2:=#[λ_=>Iff.rfl,λa z q=>t.ym a ((k2.all a).mpr<|.inr z) q];refine Pt.same (B.join t2 k4 h2 λj hj=>hl j<|gU _ hj) ev ⟨λa=>?_,λa z q=>?_⟩ k3
  ·rw[t.all,k2.all];exact#[λz=>z.elim (λz=>z.elim .inl λq=>.inr<|.inl q) λq=>.inr<|.inr q,λz=>z.elim (λq=>.inl<|.inl q) λz=>z.elim (λq=>.inl<|.inr q) .inr]
  ·rcases q with q|q
   ·exact k2.ym a z q
   ·exact t.ym a ((k2.all a).mpr<|.inl z) q
structure v6(T:ci){D:Type}[Sls D](F R:Rg)(H:Hp)(d:D)(σ:St):Prop where
 rel:rel F R H d σ
 sub:∀a,F a->R a
 xk:∀a,R a->H a≠none
 tab:TabAt H T
 vN:R T
 vE:¬F T
def zd(t:TabAt H T):H T≠none:=by refine e1a2 t λa e _=>?_;rw[e];simp
structure Ch(T:ci)(F R:Rg)(H:Hp)(F' R':Rg)(H':Hp):Prop where
 keep:∀b o,¬F b->b≠T->H b=↑o->H' b=↑o
 Ae:∀a,R' a->R a\/H a=none
 yr:∀a,F' a->F a\/H a=none
 left:∀a,R a->¬F a->R' a
def Ch.refl(T:ci)(F R:Rg)(H:Hp):Ch T F R H F R H:=#[λ_ _ _ _ h=>h,λ_ h=>.inl h,λ_ h=>.inl h,λ_ h _=>h]
def Ch.trans{T:ci}{D:Type}[Sls D]{d:D}{u:St}{F R k l m p:Rg}{H j r:Hp}(s:v6 T F R H d u)(v:TabAt j T)(a:Ch T F R H k l j)(b:Ch T k l j m p r):Ch T F R H m p r:=by
 have g:∀c,¬F c->H c≠none->¬k c:=λc n h z=>by
  rcases a.yr c z with q|q
  ·exact n q
  ·exact h q
 have f:∀c,j c=none->¬(F c)->H c=none:=λc h n=>by
  cases e:H c with
  |none=>rfl
  |some o =>
   have w:c≠T:=λz=>by rw[z]at h;exact zd v h
   rw[a.keep c o n w e]at h;cases h
 refine#[λc o n t h=>b.keep c o (g c n<|by rw[h];simp) t<|a.keep c o n t h,λc h=>?_,λc h=>?_,λc h n=>b.left c (a.left c h n)<|g c n<|s.xk c h]
 ·rcases b.Ae c h with q|q
  ·exact a.Ae c q
  ·by_cases i:F c
   ·exact .inl<|s.sub c i
   ·exact .inr<|f c q i
 ·rcases b.yr c h with q|q
  ·exact a.yr c q
  ·by_cases i:F c
   ·exact .inl i
   ·exact .inr<|f c q i
def Ch.ext(c:Ch T F R H f d e):Ext (λa=>F a\/a=T) R H d e:=#[λb o n h=>c.keep b o (λz=>n<|.inl z) (λz=>n<|.inr z) h,c.Ae]
def v6.val{T:ci}{D:Type}[Sls D]{d:D}{σ:St}{F R F' R':Rg}{H H':Hp}(s:v6 T F R H d σ)(c:Ch T F R H F' R' H'){α:Type}[Rep α]{x:α}{v:V}(h:rp R H x v):rp R' H' x v :=
 Rep.st h (c.ext.wide λa z=>z.elim (s.sub a) λq=>by rw[q];exact s.vN)
def v6.new{T:ci}{D:Type}[Sls D]{d:D}{c:St}{F R:Rg}{H:Hp}(s:v6 T F R H d c){p:ci}(o:HO)(f:H p=none):v6 T F R (upd H p o) d c/\Ch T F R H F R (upd H p o)/\¬R p:=by
 have g:¬R p:=λz=>s.xk p z f;have k:∀b u,H b=↑u->upd H p o b=↑u:=λb u e=>by rw[uR<|vc e f];exact e
 refine#[#[Sls.st s.rel (G:=λ_=>False) #[λb u _ e=>k b u e,λa h=>.inl h] (λ_ z=>z.elim)<|λ_ _ z=>z,s.sub,λa z=>?_,?_,s.vN,s.vE],#[λb u _ _ e=>k b u e,λa h=>.inl h,λa h=>.inl h,λa h _=>h],g]
 ·cases e:H a with
  |none=>exact hV e<|s.xk a z
  |some u=>rw[k a u e];simp
 ·refine e1a2 s.tab λi e t=>?_;exact#[i,k _ _ e,t]
def EW(X:Cx)(E:XK)(T:ci)(e:iL){D α:Type}[Sls D][Rep α](w:Wf D α D):Prop :=
 ∃t,PE X e t/\∀(d:D)(F R:Rg)(σ:St)(H:Hp)(Kn:α->D->Prop)(Ke:ci->D->Prop)(Q:VK),v6 T F R H d σ->w d Kn Ke ->
  (∀x d' v F' R' H',Kn x d'->Ch T F R H F' R' H'->v6 T F' R' H' d' σ->rp R' H' x v->Q v H') ->
  (∀C y d' F' R' H',Ke C d'->Ch T F R H F' R' H'->v6 T F' R' H' d' σ->E (.ref C) ↑y H')->t σ H Q
structure Nw(T:ci){τ:Type}[Ow τ](F1 F2 R:Rg)(H:Hp)(x:τ)(v:V):Prop where
 is:sl F1 R H x ↑v
 sub:∀a,F1 a->R a
 ym:∀a,F1 a->F2 a->False
 tab:¬F1 T
def EO(X:Cx)(E:XK)(T:ci)(e:iL){D h:Type}[Sls D][Ow h](w:Wf D h D):Prop :=
 ∃t,PE X e t/\∀(d:D)(F R:Rg)(g:St)(H:Hp)(j:h->D->Prop)(k:ci->D->Prop)(Q:VK),v6 T F R H d g->w d j k ->
  (∀x f v l i c b,j x f->Ch T F R H (λa=>l a\/i a) c b->v6 T i c b f g->Nw T l i c b x v->Q v b) ->
  (∀C y f m c b,k C f->Ch T F R H m c b->v6 T m c b f g->E (.ref C) ↑y b)->t g H Q
def TW(X:Cx)(E:XK)(T:ci)(e:iL){D:Type}[Sls D](w:Wf D Bool D):Prop :=
 ∃t,PT X e t/\∀(d:D)(F R:Rg)(g:St)(H:Hp)(h:Bool->D->Prop)(i:ci->D->Prop)(Q:Bool->Hp->Prop),v6 T F R H d g->w d h i ->
  (∀x b c f a,h x b->Ch T F R H c f a->v6 T c f a b g->Q x a) ->
  (∀C y b c f a,i C b->Ch T F R H c f a->v6 T c f a b g->E (.ref C) ↑y a)->t g H Q
section
variable{D:Type}[Sls D]
def Yc{F R F1 F2 R':Rg}{H H':Hp}{d d':D}{σ:St}{α:Type}[Rep α]{x:OL α}{v:V}(s:v6 T F R H d σ)(c:Ch T F R H (λa=>F1 a\/F2 a) R' H')(s':v6 T F2 R' H' d' σ)(n:Nw T F1 F2 R' H' x v) :
  ∃J2,Ch T F R H F2 J2 H'/\v6 T F2 J2 H' d' σ/\rp J2 H' x.l v:=by
 have ex:Ext (λ_=>False) R' H' (λa=>R' a/\¬F1 a) H':=#[λ_ _ _ h=>h,λa h=>.inl h.1];refine#[λa=>R' a/\¬F1 a,#[c.keep,λa h=>c.Ae a h.1,λa h=>c.yr a<|.inr h,λa h k=>#[c.left a h k,λz=>?_]],#[Sls.st s'.rel ex (λ_ z=>z.elim)<|λ_ _ z=>z,λa h=>#[s'.sub a h,λz=>n.ym a z h],λa h=>s'.xk a h.1,s'.tab,#[s'.vN,n.tab],s'.vE],?_]
 ·rcases c.yr a (.inl z) with q|q
  ·exact k q
  ·exact s.xk a h q
 ·refine e2a4 n.is λa vs h1 h2 h3 h4=>?_;cases h1;exact#[a,vs,rfl,λz=>z.2<|(h2 a).mpr rfl,h3,wl (ex.wide λ_ z=>z.elim) h4]
def vy{α:Type}[Rep α]{w:Wf D (OL α) D}(h:EO X E T e w):EW X E T e (λd Kn Ke=>w d (λx d'=>Kn x.l d') Ke):=by refine e1a2 h λt h1 h2=>?_;refine#[t,h1,λd F R σ H Kn Ke Q s hw kn ke=>h2 d F R σ H _ Ke Q s hw (λx d' v F1 F2 R' H' q c s' n=>?_) ke];refine e1a3 (Yc s c s' n) λJ2 c2 s2 r=>?_;exact kn x.l d' v F2 J2 H' q c2 s2 r
def xH{F R:Rg}{H:Hp}{d:D}{σ:St}{α:Type}[Rep α]{xs:List α}{vs:List V}{p:ci}(s:v6 T F R H d σ)(hp:H p=none)(h:Paired (rp R H) xs vs) :
  ∃R',Ch T F R H (λa=>a=p\/F a) R' (upd H p<|.lst vs)/\v6 T F R' (upd H p<|.lst vs) d σ/\Nw T (λa=>a=p) F R' (upd H p<|.lst vs) (OL.mk xs) (.ref p):=by
 refine e0a3 (s.new (.lst vs) hp) λs1 c1 n1=>?_;have nF:¬F p:=λz=>n1<|s.sub p z;have ex:Ext (λ_=>False) R H (λa=>R a\/a=p) (upd H p<|.lst vs):=⟨λb o _ h=>by rw[uR<|vc h hp];exact h,λa h=>h.elim .inl λq=>.inr<|by rw[q];exact hp⟩;refine⟨λa=>R a\/a=p,#[c1.keep,ex.new,λa h=>h.elim (λq=>.inr<|by rw[q];exact hp) .inl,λa h _=>.inl h],#[Sls.st s.rel ex (λ_ z=>z.elim)<|λ_ _ z=>z,λa h=>.inl<|s.sub a h,λa h=>?_,s1.tab,.inl s.vN,s.vE],#[#[p,vs,rfl,λb=>Iff.rfl,uV,wl (ex.wide λ_ z=>z.elim) h],λa h=>.inr h,λa h k=>nF (by rw[<- h];exact k),λh=>n1<|by rw[<- h];exact s.vN]⟩;rcases h with h|h
 ·exact s1.xk a h
 ·rw[h,uV];simp
def UF{i:Nat}{τ D':Type}[Ow τ][Sls D'][A:At i D τ D']{F R:Rg}{H:Hp}{d:D}{σ:St}(s:v6 T F R H d σ):∃v F1 F2,σ[i]?=↑v/\Du F F1 F2/\sl F1 R H (A.get d) v/\rel F2 R H (A.hole d) σ:=A.take s.rel
def ss[Rep a][Sls c](i:Nat)[A:At i D a c](e:PE X (.Name x pos) (vC i):=by exact pv _):EW X E T (.Name x pos) (λ(d:D)(b:a->D->Prop) _=>b (A.get d) d):=by refine#[_,e,λd F R k H b l Q s f g _=>?_];obtain⟨v,m,n,h,o,⟨_,u,rfl,j⟩,_⟩:=A.take s.rel;exact#[u,h,g _ d u F R H f 61 s j]
def uW{n:Int}{k:Nat}:EW X E T (.Constant (.int n) k pos) (λ(d:D)(a:Int->D->Prop) _=>a n d) :=
 #[_,vt,λd F R e H a f Q s b c _=>c n d _ F R H b 61 s rfl]
def yG{b:Bool}{k:Nat}:EW X E T (.Constant (.bool b) k pos) (λ(d:D)(a:Bool->D->Prop) _=>a b d) :=
 #[_,Zq,λd F R f H a g Q s c e _=>e b d _ F R H c 61 s rfl]
def KS{k:Nat}:EW X E T (.Constant .none k pos) (λ(d:D)(a:Unit->D->Prop) _=>a () d) :=
 #[_,J9,λd F R e H a f Q s b c _=>c () d _ F R H b 61 s rfl]
def Qv{α β γ:Type}[Rep α][Rep β][Rep γ]{wa:Wf D α D}{wb:Wf D β D}{c:α->β->Prop}{g:α->β->γ}
 (ha:EW X E T a wa) (hb:EW X E T b wb) (he:∀ta tb,PE X a ta->PE X b tb->PE X e (Zd r ta tb))
 (hr:∀{R:Rg} {H:Hp} {x:α} {y:β} {u v:V} {Q:VK},rp R H x u->rp R H y v->c x y->(∀z,rp R H (g x y) z->Q z H)->r u v H Q) :
    EW X E T e (λd Kn Ke=>wa d (λx d1=>wb d1 (λy d2=>c x y/\Kn (g x y) d2) Ke) Ke):=by
  refine e1a2 ha λta a1 a2=>?_
  refine e1a2 hb λtb b1 b2=>?_
  refine#[_,he ta tb a1 b1,λd F R σ H Kn Ke Q s hw kn ke=>?_]
  refine a2 d F R σ H _ Ke _ s hw (λx d1 u F1 R1 H1 q1 c1 s1 r1=>?_) ke
  refine b2 d1 F1 R1 σ H1 _ Ke _ s1 q1 (λy d2 v F2 R2 H2 q2 c2 s2 r2=>?_) λC y d' F' R' H' k c s'=>ke C y d' F' R' H' k (Ch.trans s s1.tab c1 c) s'
  exact hr (s1.val c2 r1) r2 q2.1 λz rz=>kn _ d2 z F2 R2 H2 q2.2 (Ch.trans s s1.tab c1 c2) s2 rz
def Yd{α γ:Type}[Rep α][Rep γ]{r:V->Hp->VK->Prop}{wa:Wf D α D}{c:α->Prop}{g:α->γ}
 (ha:EW X E T a wa) (he:∀ta,PE X a ta->PE X e (tUn r ta)) (hr:∀{R:Rg} {H:Hp} {x:α} {u:V} {Q:VK},rp R H x u->c x->(∀z,rp R H (g x) z->Q z H)->r u H Q) :
    EW X E T e (λd Kn Ke=>wa d (λx d1=>c x/\Kn (g x) d1) Ke):=by
  refine e1a2 ha λta a1 a2=>?_
  refine#[_,he ta a1,λd F R σ H Kn Ke Q s hw kn ke=>?_]
  refine a2 d F R σ H _ Ke _ s hw (λx d1 u F1 R1 H1 q1 c1 s1 r1=>?_) ke
  exact hr r1 q1.1 λz rz=>kn _ d1 z F1 R1 H1 q1.2 c1 s1 rz
def Qw{c:Int->Int->Prop}{g:Int->Int->Int}{h l:Wf D Int D}(n:AV X (mz op) (rI c λi j=>.int<|g i j))(o:EW X E T a h)(p:EW X E T b l) :
  EW X E T (.BinOp a op b pos) (λd q m=>h d (λx r=>l r (λy s=>c x y/\q (g x y) s) m) m) :=
 Qv (γ:=Int) o p (λu v e f=>wT n e f) λe f t k=>#[_,_,e,f,t,k _ rfl]
def AI{g:Int->Int->Int}{wa wb:Wf D Int D}(ho:AV X (mz op) (TJ λi j=>.int<|g i j))(ha:EW X E T a wa)(hb:EW X E T b wb) :
  EW X E T (.BinOp a op b pos) (λd Kn Ke=>wa d (λx d1=>wb d1 (λy d2=>Kn (g x y) d2) Ke) Ke):=by
 have h:=Qv (c:=λ_ _=>True) (γ:=Int) (g:=g) (e:=.BinOp a op b pos) ha hb (λta tb h1 h2=>wT ho h1 h2) λh1 h2 _ k=>#[_,_,h1,h2,k _ rfl];simp only[true_and]at h;exact h
class Jl(α:Type)[Rep α][DecidableEq α] where
 sc:∀{R:Rg} {H:Hp} {x y:α} {u v:V},rp R H x u->rp R H y v->Xv u v=true/\decide (u=v)=decide (x=y)
instance:Jl Int:=#[λ{R H x y u v} h1 h2=>by
 subst h1;subst h2;refine#[rfl,?_];by_cases e:x=y
 ·rw[e];simp
 ·rw[ie e,ie (λz=>e (by cases z;rfl))]]
instance:Jl Bool:=#[λ{R H x y u v} h1 h2=>by
 subst h1;subst h2;refine#[rfl,?_]
 cases x<;>cases y<;>rfl]
def MP{α:Type}[Rep α]{x:Option α}(h:rp R H x u):decide (u=.wF)=x.isNone:=by
 cases x with
 |none=>have h:u=.wF:=h;rw[h];rfl
 |some y=>exact ie h.1
end
variable[L2.GX]
section
variable{D:Type}[Sls D]
def vd{b:Type}[Rep b]{w:Wf D b D}(h:EO X E T e w):EW X E T e w:=by refine e1a2 h λt f g=>?_;refine#[t,f,λd F R i H B j Q s k l m=>g d F R i H _ j Q s k (λx o v C p r y q c z n=>?_) m];obtain⟨G,u,e,A⟩:=n.is;cases e;exact l x o v p r y q #[c.keep,c.Ae,λa h=>c.yr a<|.inr h,c.left] z A
def vq{b:Type}[Rep b]{w:Wf D b D}(h:EW X E T e w):EO X E T e w:=by refine e1a2 h λt f g=>?_;refine#[t,f,λd F R i H A j Q s k l m=>g d F R i H _ j Q s k (λx n v o p u q c y r=>?_) m];exact l x n v (λ_=>False) o p u q #[c.keep,c.Ae,λa h=>c.yr a<|h.elim (λz=>z.elim) id,c.left] y #[#[λ_ z=>z,v,rfl,r],λ_ z=>z.elim,λ_ z=>z.elim,λz=>z]
end
class Hs(τ:Type)[Ow τ]:Prop where
 has:∀{F R:Rg} {H:Hp} {x:τ} {v:Option V},sl F R H x v->∃u,v=↑u
instance{α:Type}[Rep α]:Hs (OL α):=#[λz9=>e2a2 z9 λa _ h _=>#[_,h]]
instance{α:Type}[Rep α]:Hs α:=#[λz9=>e0a2 z9 λ_ z39=>e1a2 z39 λu h _=>#[u,h]]
structure Std(T:ci)(F R:Rg)(H:Hp):Prop where
 sub:∀a,F a->R a
 xk:∀a,R a->H a≠none
 tab:TabAt H T
 vN:R T
 vE:¬F T
def v6.Iz{T:ci}{D:Type}[Sls D]{F R:Rg}{H:Hp}{d:D}{a:St}(s:v6 T F R H d a):Std T F R H:=#[s.sub,s.xk,s.tab,s.vN,s.vE]
def Std.stt{T:ci}{D:Type}[Sls D]{F R:Rg}{H:Hp}{d:D}{a:St}(s:Std T F R H)(h:rel F R H d a):v6 T F R H d a:=#[h,s.sub,s.xk,s.tab,s.vN,s.vE]
section
variable{D:Type}[Sls D]
def two_nil(F:Rg):Du F (λ_=>False) F:=#[λ_=>#[.inr,λz=>z.elim (λq=>q.elim) id],λ_ z _=>z]
def two_eq(t:Du F b c)(n:∀a,¬b a):∀a,c a↔F a:=λa=>#[λz=>(t.all a).mpr<|.inr z,λz=>((t.all a).mp z).elim (λq=>hV q<|n a) id]
end
def yu(T:ci){P d f:Type}[Sls P][Sls d][Ow f](w:Wf P f d):Sp:=λg H Q E=>∃(F R:Rg)(p:P)(i:f->d->Prop)(j:ci->d->Prop),v6 T F R H p (g.map some)/\w p i j /\
 (∀x e v k h c b,i x e->Ch T F R H (λa=>k a\/h a) c b->v6 T h c b e (g.map some)->Nw T k h c b x v->Q v b) /\
 (∀C y e l c b,j C e->Ch T F R H l c b->v6 T l c b e (g.map some)->E (.ref C) ↑y b)
def Ag(c:List Nat)(b a:St):Prop:=a.length=b.length/\∀i∈c,a[i]?=b[i]?
def Ag.refl(b:List Nat)(a:St):Ag b a a:=#[rfl,λ_ _=>rfl]
def Ag.trans(a:Ag e f c)(b:Ag e c d):Ag e f d:=#[b.1.trans a.1,λi h=>(b.2 i h).trans<|a.2 i h]
def Ag.set{i:Nat}(h:i∉a):Ag a b (b.set i v):=#[mj,λj c=>nc λe=>h<|by rw[e];exact c]
structure TN(P:Type)[Sls P](ms:List Nat)(n:Nat):Prop where
 dp:∀{F R:Rg} {H:Hp} {p:P} {σ σ':St},Ag ms σ σ'->rel F R H p (σ'.take n)->rel F R H p (σ.take n)
class Dp(P:Type)[Sls P](n:outParam Nat)(l:outParam (List Nat)):Prop where
 dp:TN P l n
instance dp0:Dp Unit 0 []:=#[#[λ{F R H p σ σ'} _ h=>#[rfl,h.2]]]
instance(priority:=high) dpU {P:Type}{n:Nat}{l:List Nat}[Sls P][A:Dp P n l]:Dp (Un×P) (n+1) (l.map (· + 1)):=#[#[λ{F R H p σ σ'} a r=>by
 refine e4a4 r λv σ1 F1 F2 h1 h2 h3 h4=>?_
 cases σ' with
 |nil=>cases h1
 |cons v' r' =>
  cases σ with
  |nil=>have:=a.1;simp at this
  |cons u r =>
   injection h1 with e1 e2;subst e2;refine#[u,r.take n,F1,F2,rfl,h2,h3,A.dp.dp (σ':=r') #[by have:=a.1;simpa using this,λi hi=>?_] h4];have:=a.2 (i+1)<|List.mem_map.mpr #[i,hi,rfl]
   simpa using this]]
instance dpO{τ P:Type}{n:Nat}{l:List Nat}[Ow τ][Sls P][A:Dp P n l]:Dp (τ×P) (n+1) (0::l.map (· + 1)):=#[#[λ{F R H p σ σ'} a r=>by
 refine e4a4 r λv σ1 F1 F2 h1 h2 h3 h4=>?_
 cases σ' with
 |nil=>cases h1
 |cons v' r' =>
  cases σ with
  |nil=>have:=a.1;simp at this
  |cons u r =>
   injection h1 with e1 e2;subst e2
   have e0:v'=u:=by have:=a.2 0 gR;simpa using this
   subst e0;subst e1;refine#[v',r.take n,F1,F2,rfl,h2,h3,A.dp.dp (σ':=r') #[by have:=a.1;simpa using this,λi hi=>?_] h4];have:=a.2 (i+1)<|gU _<|List.mem_map.mpr #[i,hi,rfl]
   simpa using this]]
def vz[Sls P]{n:Nat}[A:Dp P n l](h:∀i∈l,i∈b):TN P b n:=#[λa r=>A.dp.dp #[a.1,λi c=>a.2 i<|h i c] r]
def WN(E:XK)(T:ci)(u:List Nat)(n:Nat)(t:TS){D j f k:Type}[Sls D][Sls j][Sls f][Ow k](w:D->(j->Prop)->(k->f->Prop)->(ci->f->Prop)->Prop):Prop :=
 ∀(d:D)(F R:Rg)(g:St)(H:Hp)(o:j->Prop)(p:k->f->Prop)(q:ci->f->Prop)(l:Ends),v6 T F R H d g->w d o p q ->
  (∀r h c b e,o r->Ch T F R H h c b->v6 T h c b r e->Ag u g e->l.nx e b) ->
  (∀x i v s m c b,p x i->Ch T F R H (λa=>s a\/m a) c b->v6 T m c b i (g.take n)->Nw T s m c b x v->l.rt v b) ->
  (∀C y i h c b,q C i->Ch T F R H h c b->v6 T h c b i (g.take n)->E (.ref C) ↑y b)->t l g H
def S1(X:Cx)(E:XK)(T:ci)(d:List Nat)(n:Nat)(e:il){D b a c:Type}[Sls D][Sls b][Sls a][Ow c](w:D->(b->Prop)->(c->a->Prop)->(ci->a->Prop)->Prop):Prop:=∃t,PS X e t/\WN E T d n t w
def SW(X:Cx)(E:XK)(T:ci)(e:List Nat)(n:Nat)(a:List il){D c b d:Type}[Sls D][Sls c][Sls b][Ow d](w:D->(c->Prop)->(d->b->Prop)->(ci->b->Prop)->Prop):Prop:=∃t,Ft X a t/\WN E T e n t w
section
variable{D D' D1 PO τ:Type}[Sls D][Sls D'][Sls D1][Sls PO][Ow τ]
def vv:SW X E T f n [] (λ(d:D)(a:D->Prop)(_:τ->PO->Prop) _=>a d) :=
 #[_,zo,λd F R b H a g h i s c e _ _=>e d F R H b c 61 s<|Ag.refl _ _]
def Qx:SW X E T e n a (λ(d:D)(b:D'->Prop)(_:τ->PO->Prop) _=>False) :=
 #[_,NI,λd F R f H b g h i s c j _ _=>c.elim]
def a2g[A:Fg D1 D'](k:WN E T l n t w):WN E T l n t (λ(d:D)(j:D'->Prop)(e:τ->PO->Prop) f=>w d (λm=>j<|A.fg m) e f):=by refine λd F R o H j e f p s r u v x=>k d F R o H _ e f p s r (λC I y z g q c b a=>?_) v x;refine e1a2 (A.le b.rel) λG i B=>?_;exact u _ G y z g q #[c.keep,c.Ae,λa h=>c.yr a<|i a h,c.left] ⟨B,λa h=>b.sub a<|i a h,b.xk,b.tab,b.vN,λh=>b.vE<|i _ h⟩ a
def MQ[A:Fg D1 D'](h:SW X E T b n a w):SW X E T b n a (λ(d:D)(c:D'->Prop)(e:τ->PO->Prop) f=>w d (λg=>c<|A.fg g) e f) :=
 e1a2 h λt i j=> #[t,i,a2g j]
def WO{A:D->(D1->Prop)->(τ->PO->Prop)->(ci->PO->Prop)->Prop}{B:D1->(D'->Prop)->(τ->PO->Prop)->(ci->PO->Prop)->Prop}(G:TN PO k n)(L:WN E T k n M A)(N:WN E T k n O B) :
  WN E T k n (Kc M O) (λd l b e=>A d (λo=>B o l b e) b e):=by
 refine λd F R P H l b e Q s S U I J=>L d F R P H _ b e _ s S (λo W X Y p q r j t=>?_) I J;refine N o W X p Y l b e Q j q (λZ u f h w i c a g=>U Z u f h w i (Ch.trans s j.tab r c) a<|t.trans g) (λx z v M1 M2 f h i c a m=>?_) λC y z u f h i c a=>?_
 ·exact I x z v M1 M2 f h i (Ch.trans s j.tab r c) #[G.dp t a.rel,a.sub,a.xk,a.tab,a.vN,a.vE] m
 ·exact J C y z u f h i (Ch.trans s j.tab r c) #[G.dp t a.rel,a.sub,a.xk,a.tab,a.vN,a.vE]
def DC{c:il}{a:List il}{w1:D->(D1->Prop)->(τ->PO->Prop)->(ci->PO->Prop)->Prop}{w2:D1->(D'->Prop)->(τ->PO->Prop)->(ci->PO->Prop)->Prop}(g:TN PO b n)(h:S1 X E T b n c w1)(i:SW X E T b n a w2) :
  SW X E T b n (c::a) (λd j e f=>w1 d (λk=>w2 k j e f) e f) :=
 e1a2 h λq l m=> e1a2 i λr o p=> #[_,wm l o,WO g m p]
def uT{a:il}{b:D->(D'->Prop)->(τ->PO->Prop)->(ci->PO->Prop)->Prop}(c:S1 X E T d n a b):SW X E T d n [a] b :=
 e1a2 c λg e f=> #[_,xS e,f]
def wH[A:Pj D PO n](s:v6 T c e f d g):∃G,(∀a,G a->c a)/\v6 T G e f (A.pj d) (g.take n):=by refine e1a2 (A.le s.rel) λG b i=>?_;exact#[G,b,i,λa h=>s.sub a<|b a h,s.xk,s.tab,s.vN,λh=>s.vE<|b _ h]
def Ch.less(c:Ch T F R H b d e)(g:∀a,G a->b a):Ch T F R H G d e:=#[c.keep,c.Ae,λa h=>c.yr a<|g a h,c.left]
def vi[A:Pj D PO n](h:EO X E T e r):S1 X E T N n (.Return ↑e pos) (λ(d:D)(_:D'->Prop)(o:τ->PO->Prop) p=>r d (λx b=>o x<|A.pj b) λC b=>p C<|A.pj b):=by
 refine e1a2 h λt u w=>?_;refine#[_,Ct u,λd F R B H O o p P s I Q J L=>w d F R B H _ _ _ s I (λx b v M S g i q c j m=>?_) λC y b U g i q c j=>?_]
 ·refine e1a2 (wH (PO:=PO) j) λG f l=>?_;exact J x _ v M G g i q (c.less λa h=>h.elim .inl λz=>.inr<|f a z) l ⟨m.is,m.sub,λa h k=>m.ym a h<|f a k,m.tab⟩
 ·refine e1a2 (wH (PO:=PO) j) λG f l=>?_;exact L C y _ G g i q (c.less f) l
def vT{i:Type}[Rep i][A:Pj D PO n]{j:Wf D i D}(h:EW X E T e j)(r:jW e none pos.line X.env=pure false:=by rfl) :
  S1 X E T N n (.Expr e pos) (λ(d:D)(k:D->Prop)(u:τ->PO->Prop) l=>j d (λ_ a=>k a) λC a=>l C<|A.pj a):=by
 refine e1a2 h λt w z=>?_;refine#[_,Bx w r,λd F R o H k u l O s B I P J=>z d F R o H _ _ _ s B (λx a v p b f q c g m=>I a p b f o q c g<|Ag.refl _ _) λC y a p b f q c g=>?_];refine e1a2 (wH (PO:=PO) g) λG L M=>?_;exact J C y _ G b f q (c.less L) M
def vF{a b:List il}[A:Pj D PO n]{M:Wf D Bool D}{N O:D->(D'->Prop)->(τ->PO->Prop)->(ci->PO->Prop)->Prop}(hc:TW X E T c M)(ha:SW X E T P n a N)(hb:SW X E T P n b O) :
  S1 X E T P n (.If c a b pos) (λ(d:D)(u:D'->Prop)(w:τ->PO->Prop) r=>M d (λb z=>if b=true then N z u w r else O z u w r) λC t=>r C<|A.pj t):=by
 refine e1a2 hc λtc c1 c2=>?_;refine e1a2 ha λta a1 a2=>?_;refine e1a2 hb λtb b1 b2=>?_;refine#[_,Mw c1 a1 b1,λd F R B H u w r Q s hw S U I=>c2 d F R B H _ _ _ s hw (λx z W Y Z q c k=>?_) λC y t l e f q c h=>?_]
 ·cases x with
  |true=>exact a2 z W Y B Z u w r Q k q (λt l e f o i j h g=>S t l e f o i (Ch.trans s k.tab c j) h g) (λx p v J L e f i j h m=>U x p v J L e f i (Ch.trans s k.tab c j) h m) λC y p l e f i j h=>I C y p l e f i (Ch.trans s k.tab c j) h
  |false=>exact b2 z W Y B Z u w r Q k q (λt l e f o i j h g=>S t l e f o i (Ch.trans s k.tab c j) h g) (λx p v J L e f i j h m=>U x p v J L e f i (Ch.trans s k.tab c j) h m) λC y p l e f i j h=>I C y p l e f i (Ch.trans s k.tab c j) h
 ·refine e1a2 (wH (PO:=PO) h) λG g1 g2=>?_;exact I C y _ G e f q (c.less g1) g2
def Gd{i:Nat}[Ow c][Ow e][Sls f][Sls j][A:At i D c f][U:Pt i f e j](s:v6 T g R H d k)(m:Nw T F1 g R H x v) :
  ∃G,(∀a,G a->F1 a\/g a)/\v6 T G R H (U.put (A.hole d) x) (k.set i<|↑v):=by
 refine e3a4 (A.take s.rel) λo p l r b t n=>?_;refine#[λa=>F1 a\/l a,λa h=>h.elim .inl λz=>.inr<|(b.all a).mpr<|.inr z,U.back n ⟨λ_=>Iff.rfl,λa z q=>m.ym a z<|(b.all a).mpr<|.inr q⟩ m.is,λa h=>h.elim (m.sub a) λz=>s.sub a<|(b.all a).mpr<|.inr z,s.xk,s.tab,s.vN,λh=>h.elim m.tab λz=>s.vE<|(b.all T).mpr<|.inr z]
def vj(i:Nat)[Ow f][Ow g][Sls r][Sls u][A:At i D f r][U:Pt i r g u][J:Pj D PO n](B:X.N.Nodup)(h:EO X E T e I)(L:X.N[i]?=↑x:=by rfl)(hx:Loc X.env.scope x:=by exact k9 rfl)(M:i∉O:=by decide)
 (P:jW e (some<|.Name x a) pos.line X.env=pure false:=by rfl) (Q:X.fn x=true\/X.env.scope.names.lookup x=some .local:=by first|exact .inl rfl|exact .inr rfl) :
    S1 X E T O n (.Assign [.Name x a] e pos) (λ(d:D)(w:u->Prop)(S:τ->PO->Prop) z=>I d (λx b=>w<|U.put (A.hole b) x) λC b=>z C<|J.pj b):=by
  refine e1a2 h λt W Y=>?_
  refine#[_,zV B L hx W P Q,λd F R Z H w S z En s hw kn kr ke=>Y d F R Z H _ _ _ s hw (λx b v F1 F2 j k q c l m=>?_) λC y b F' j k q c l=>?_]
  · refine e1a2 (Gd (i := i) l m) λG o p => ?_
    exact kn _ G j k _ q (c.less o) p<|Ag.set M
  · refine e1a2 (wH (PO := PO) l) λG o p => ?_
    exact ke C y _ G j k q (c.less o) p
end
class Ent(P:Type)[Sls P](k:Nat)(D:outParam Type)[Sls D] where
 ent:P->D
 ok:∀{F R:Rg} {H:Hp} {p:P} {σ:St},rel F R H p σ->rel F R H (ent p) (σ++kR k none)
noncomputable instance ent0:Ent Unit 0 Unit:=#[id,λh=>by obtain⟨rfl,h⟩:=h;exact#[rfl,h]]
noncomputable instance entS{k:Nat}{D:Type}[Sls D][A:Ent Unit k D]:Ent Unit (k+1) (Un×D):=#[λp=>(#[],A.ent p),λ{F R H p σ} h=>by
 obtain⟨rfl,h⟩:=h
 exact#[none,kR k none,λ_=>False,F,by rw[nq];rfl,two_nil F,λ_ z=>z,by simpa using A.ok (σ:=[]) (p:=p) (F:=F) (R:=R) (H:=H) #[rfl,h]]]
noncomputable instance entC{k:Nat}{τ P D:Type}[Ow τ][Sls P][Sls D][A:Ent P k D]:Ent (τ×P) k (τ×D):=#[λp=>(p.1,A.ent p.2),λ{F R H p σ} h=>by
 obtain⟨v,σ',F1,F2,rfl,h2,h3,h4⟩:=h
 exact#[v,σ'++kR k none,F1,F2,rfl,h2,h3,A.ok h4]]
class Ln(P:Type)[Sls P](n:outParam Nat):Prop where
 ln:∀{F R:Rg} {H:Hp} {p:P} {σ:St},rel F R H p σ->σ.length=n
instance ln0:Ln Unit 0:=#[λh=>by rw[h.1];rfl]
instance lnS{τ P:Type}{n:Nat}[Ow τ][Sls P][A:Ln P n]:Ln (τ×P) (n+1):=#[λh=>by
 obtain⟨v,σ',F1,F2,rfl,_,_,h4⟩:=h
 rw[ij,A.ln h4]]
def wq{r:il}{N M:List Str}{k j n:Nat}{ms:List Nat}{A PO τ D D':Type}[Sls A][Sls PO][Ow τ][Sls D][Sls D'][L:Ln A n][J:Ent A j D]{O:D->(D'->Prop)->(τ->PO->Prop)->(ci->PO->Prop)->Prop}
 (F:yN K x d r f fd) (S:uY N M (uQ r)) (hn:M.length=n) (hj:N.length-n=j)
 (i:∀(b:cr)(A:jx)(a:List Env)(s:gW)(H:Hp)(E:XK),ww k (A.deeper<|oJ d (uQ r) ⇑s f b)->SW (vP (vL P w) P w K mg base N d (uQ r) f b A a s H E) E T ms n (vB r) O) :
    vD P w K mg base (vL P w) (k+1) f fd M (yu T λ(p:A)(U:τ->PO->Prop) l=>O (J.ent p) (λ_=>False) U l):=by
  have e:∀{g:List V} {H:Hp} {Q:VK} {E:XK},yu T (λ(p:A)(U:τ->PO->Prop) l=>O (J.ent p) (λ_=>False) U l) g H Q E->g.length=n:=λh=>by
    obtain⟨F,R,p,Kn,l,s,_⟩:=h
    have:=L.ln s.rel
    rwa [gV]at this
  obtain⟨oc,od,kV,aa,pm,an,b,ct,ab,rfl,lk,W⟩:=F.ex
  refine IU lk W S (λg H Q E h=>(e h).trans hn.symm) λAr a s H g Q E hr u=>?_
  refine e1a2 (i b Ar a s H E hr) λt h1 h2=>?_
  refine#[t,h1,?_]
  have X:=e u
  obtain⟨F,R,p,Kn,l,o,hw,kn,ke⟩:=u
  have B:start N g=g.map some++kR j none:=by unfold L2.start;rw[X,hj]
  have G:(start N g).take n=g.map some:=by rw[B,ng (by rw[gV,X];exact gQ _),js<|by rw[gV,X];exact gQ _]
  refine h2 (J.ent p) F R _ H _ Kn l _ #[by rw[B];exact J.ok o.rel,o.sub,o.xk,o.tab,o.vN,o.vE] hw (λ_ _ _ _ _ z=>z.elim) (λx Y v F1 F2 Z H' q c I m=>?_) λC y Y F' Z H' q c I=>?_
  · rw[G]at I
    exact kn x Y v F1 F2 Z H' q c I m
  · rw[G]at I
    exact ke C y Y F' Z H' q c I
def WP{o:il}{N J:List Str}{k j n:Nat}{ms:List Nat}{A PO τ D D':Type}[Sls A][Sls PO][Ow τ][Sls D][Sls D'][L:Ln A n][I:Ent A j D]{M:D->(D'->Prop)->(τ->PO->Prop)->(ci->PO->Prop)->Prop}
 (F:yN K x b o f O) (S:uY N J (uQ o)) (hn:J.length=n) (hj:N.length-n=j)
 (g:∀(A:jx)(a:List Env)(s:gW)(H:Hp)(E:XK),ww k (A.deeper<|oJ b (uQ o) ⇑s f O.code)->SW (vP (vL P w) P w K mg base N b (uQ o) f O.code A a s H E) E T ms n (vB o) M) :
    vD P w K mg base (vL P w) (k+1) f O J (yu T λ(p:A)(U:τ->PO->Prop) i=>M (I.ent p) (λ_=>False) U i):=by
  have d:∀{e:List V} {H:Hp} {Q:VK} {E:XK},yu T (λ(p:A)(U:τ->PO->Prop) i=>M (I.ent p) (λ_=>False) U i) e H Q E->e.length=n:=λh=>by
    obtain⟨F,R,p,Kn,i,s,_⟩:=h
    have:=L.ln s.rel
    rwa [gV]at this
  obtain⟨oc,od,kV,aa,pm,an,ab,ct,ae,rfl,lk,W⟩:=F.ex
  refine IU lk W S (λe H Q E h=>(d h).trans hn.symm) λAr a s H e Q E hr r=>?_
  refine e1a2 (g Ar a s H E hr) λt h1 h2=>?_
  refine#[t,h1,?_]
  have X:=d r
  obtain⟨F,R,p,Kn,i,l,hw,kn,ke⟩:=r
  have u:start N e=e.map some++kR j none:=by unfold L2.start;rw[X,hj]
  have B:(start N e).take n=e.map some:=by rw[u,ng (by rw[gV,X];exact gQ _),js<|by rw[gV,X];exact gQ _]
  refine h2 (I.ent p) F R _ H _ Kn i _ #[by rw[u];exact I.ok l.rel,l.sub,l.xk,l.tab,l.vN,l.vE] hw (λ_ _ _ _ _ z=>z.elim) (λx Y v F1 F2 Z H' q c G m=>?_) λC y Y F' Z H' q c G=>?_
  · rw[B]at G
    exact kn x Y v F1 F2 Z H' q c G m
  · rw[B]at G
    exact ke C y Y F' Z H' q c G
def Eh{O:il}{N ps:List Str}{k j n:Nat}{ms:List Nat}{A PO D D':Type}[Sls A][Sls PO][Sls D][Sls D'][L:Ln A n][En:Ent A j D][J:Pj D' PO n](dp:TN PO ms n){w0:D->(D'->Prop)->(Unit->PO->Prop)->(ci->PO->Prop)->Prop}
 (F:yN K x e O f fd) (S:uY N ps (uQ O)) (hn:ps.length=n) (hj:N.length-n=j)
 (o:∀(d:cr)(A:jx)(b:List Env)(s:gW)(H:Hp)(E:XK),ww k (A.deeper<|oJ e (uQ O) ⇑s f d)->SW (vP (vL P w) P w K mg base N e (uQ O) f d A b s H E) E T ms n (vB O) w0) :
    vD P w K mg base (vL P w) (k+1) f fd ps (yu T λ(p:A)(U:Unit->PO->Prop) B=>w0 (En.ent p) (λd'=>U ()<|J.pj d') U B):=by
  have i:∀{l:List V} {H:Hp} {Q:VK} {E:XK},yu T (λ(p:A)(U:Unit->PO->Prop) B=>w0 (En.ent p) (λd'=>U ()<|J.pj d') U B) l H Q E->l.length=n:=λh=>by
    obtain⟨F,R,p,Kn,B,s,_⟩:=h
    have:=L.ln s.rel
    rwa [gV]at this
  obtain⟨oc,od,kV,ab,pm,an,d,ct,ae,rfl,lk,aa⟩:=F.ex
  refine IU lk aa S (λl H Q E h=>(i h).trans hn.symm) λAr b s H l Q E hr W=>?_
  refine e1a2 (o d Ar b s H E hr) λt h1 h2=>?_
  refine#[t,h1,?_]
  have hl:=i W
  obtain⟨F,R,p,Kn,B,I,hw,kn,ke⟩:=W
  have X:start N l=l.map some++kR j none:=by unfold L2.start;rw[hl,hj]
  have r:(start N l).take n=l.map some:=by rw[X,ng (by rw[gV,hl];exact gQ _),js<|by rw[gV,hl];exact gQ _]
  refine h2 (En.ent p) F R _ H _ Kn B _ #[by rw[X];exact En.ok I.rel,I.sub,I.xk,I.tab,I.vN,I.vE] hw (λd' F' Y Z af q c u g=>?_) (λx p' v F1 F2 Y Z q c u m=>?_) λC y p' F' Y Z q c u=>?_
  · refine e1a2 (wH (PO := PO) u) λG g1 M => ?_
    have g3:=dp.dp g M.rel
    rw[r]at g3
    exact kn () _ .wF (λ_=>False) G Y Z q (c.less λa h=>h.elim (λz=>z.elim)<|g1 a) ⟨g3,M.sub,M.xk,M.tab,M.vN,M.vE⟩ ⟨⟨λ_ z=>z,.wF,rfl,rfl⟩,λ_ z=>z.elim,λ_ z=>z.elim,λz=>z⟩
  · rw[r]at u
    exact kn x p' v F1 F2 Y Z q c u m
  · rw[r]at u
    exact ke C y p' F' Y Z q c u
end WL
namespace WL
open PySem L2
open Rep (rp)
open Ow (sl)
open Sls (rel)
class Dat(α:Type)[Rep α][DecidableEq α] where
 dat:α->PyData
 dp:Nat
 rd:∀{X:Cx} {R:Rg} {H:Hp} {x:α} {v:V},rp R H x v->Gb X H v (dat x)
 lay:∀x,(dat x).canLay0=true
 dep:∀x,(dat x).depth<=dp
 nm:∀x y,pA (dat x) (dat y)=true
 sm:∀x y,kS (dat x) (dat y)=decide (x=y)
instance:Dat Int where
 dat:=.int
 dp:=0
 rd h:=by have h:_=_:=h;subst h;exact Gb.int _
 lay _:=by simp[o9]
 dep _:=by simp[r9]
 nm _ _:=by simp[pA]
 sm x y:=by rw[kS];by_cases h:x=y<;>simp[h]
section
variable{α β:Type}[Rep α][DecidableEq α][Dat α][Rep β][DecidableEq β][Dat β]
def BL{X:Cx}{R:Rg}{H:Hp}:∀{xs:List α} {vs:List V},Paired (rp R H) xs vs->Paired (Gb X H) vs (xs.map Dat.dat):=by
 intro _ _ z
 induction z with
 |nil=>exact .nil
 |cons h t ih=>exact .cons (Dat.rd h) ih
def MR:∀a:List α,n8 (a.map Dat.dat)=true
 | []=>by simp[n8]
 |x::a=>by simp only[im,n8,Dat.lay x,MR a,qd]
def MS:∀a:List α,oO (a.map Dat.dat)<=Dat.dp α
 | []=>by simp[oO]
 |x::a=>by
  have b:=MS a;have c:=Dat.dep x;simp only[im,oO]
  lia
def Qy:∀a b:List α,mC (a.map Dat.dat) (b.map Dat.dat)=true
 | [],[]=>by simp[mC]
 | [],_::_=>by simp[mC]
 |_::_,[]=>by simp[mC]
 |x::a,y::b=>by simp only[im,mC,Dat.nm x y,Qy a b,qd]
def Qz:∀xs ys:List α,kK (xs.map Dat.dat) (ys.map Dat.dat)=decide (xs=ys)
 | [],[]=>by simp[kK]
 | [],_::_=>by simp[kK]
 |_::_,[]=>by simp[kK]
 |x::xs,y::ys=>by simp only[im,kK,Dat.sm x y,Qz xs ys];by_cases h:x=y<;>simp[h]
instance:Dat (List α) where
 dat xs:=.list<|xs.map Dat.dat
 dp:=Dat.dp α+1
 rd h:=by obtain⟨a,vs,rfl,_,h3,h4⟩:=h;exact Gb.lst (wo.of h3)<|BL h4
 lay xs:=by simp only[o9];exact MR xs
 dep xs:=by simp only[r9];have:=MS xs;omega
 nm xs ys:=by simp only[pA];exact Qy xs ys
 sm xs ys:=by simp only[kS];exact Qz xs ys
def Gb.tup{X:Cx}(h:yZ X.K H a c)(p:Paired (Gb X H) c d):Gb X H (.ref a) (.tuple d):=λb m s u I r=>by
 cases r;refine e1a3 (I.tuple h) λe f g _=>?_;obtain⟨q,i⟩:=Gc I f p;obtain⟨o,j,k,n,l⟩:=g;exact#[_,Reads.tuple j k l<|by simpa using i]
instance:Dat (α×β) where
 dat x:=.tuple [Dat.dat x.1,Dat.dat x.2]
 dp:=max (Dat.dp α) (Dat.dp β)+1
 rd h:=by obtain⟨a,u,w,rfl,_,h3,h4,h5⟩:=h;exact Gb.tup (yZ.of h3)<|.cons (Dat.rd h4)<|.cons (Dat.rd h5) .nil
 lay x:=by simp only[o9,n8,Dat.lay,qd]
 dep x:=by have h1:=Dat.dep x.1;have h2:=Dat.dep x.2;simp only[r9,oO];omega
 nm x y:=by simp only[pA,mC,Dat.nm,qd]
 sm x y:=by simp only[kS,kK,Dat.sm];obtain⟨a,b⟩:=x;obtain⟨c,d⟩:=y;by_cases h1:a=c<;>by_cases h2:b=d<;>simp[h1,h2]
end
def RdL{α:Type}[Rep α]{D:Type}[Sls D](T:ci)(F R:Rg)(H:Hp)(σ:St)(g:D->List α)(v:V):Prop :=
 ∀(d'':D)(WQ J2:Rg)(QA:Hp),Ch T F R H WQ J2 QA->v6 T WQ J2 QA d'' σ->∃a vs,v=.ref a/\QA a=↑(.lst vs)/\Paired (rp J2 QA) (g d'') vs
def ER(X:Cx)(E:XK)(T:ci)(e:iL){D i:Type}[Sls D][Rep i](w:Wf D (D->List i) D):Prop :=
 ∃t,PE X e t/\∀(d:D)(F R:Rg)(f:St)(H:Hp) (j:(D->List i)->D->Prop) (k:ci->D->Prop) (Q:VK),v6 T F R H d f->w d j k ->
  (∀g h v b c a,j g h->Ch T F R H b c a->v6 T b c a h f->RdL T b c a f g v->Q v a) ->
  (∀C y h b c a,k C h->Ch T F R H b c a->v6 T b c a h f->E (.ref C) ↑y a)->t f H Q
section
variable{D:Type}[Sls D]{α β γ:Type}[Rep α][Rep β][Rep γ]
def vQ(h:EW X E T e w):ER X E T e (λ(d:D) (g:(D->List α)->D->Prop) b=>w d (λx f=>g (λ_=>x) f) b):=by refine e1a2 h λt j k=>?_;refine#[t,j,λd F R l H g b Q s m n o=>k d F R l H _ b Q s m (λx f v p u y q c i r=>n _ f v p u y q c i λz A B C G I=>?_) o];refine e2a4 (i.val G r) λa J L O M N=>?_;exact#[a,J,L,M,N]
def wj(i:Nat)[Sls h][A:At i D (OL α) h](j:PE X (.Name x pos) (vC i):=by exact pv _):ER X E T (.Name x pos) (λ(d:D) (e:(D->List α)->D->Prop) _=>e (λd=>(A.get d).l) d):=by refine#[_,j,λd F R w H e y Q s k m _=>?_];obtain⟨v,z,B,f,C,⟨a,G,rfl,I⟩,_⟩:=A.take s.rel;refine#[_,f,m _ d _ F R H k 61 s λn o p q J b=>?_];obtain⟨L,M,N,g,O,⟨P,c,r,S,t,u⟩,_⟩:=A.take b.rel;rw[f]at g;cases g;cases r;exact#[_,c,rfl,t,u]
def Ye{wa:Wf D (D->List α) D}{wb:Wf D β D}{c:List α->β->γ->Prop}
 (ha:ER X E T a wa) (hb:EW X E T b wb) (he:∀ta tb,PE X a ta->PE X b tb->PE X e (Zd r ta tb))
 (hr:∀{R:Rg} {H:Hp} {xs:List α} {y:β} {z:γ} {p:ci} {us:List V} {v:V} {Q:VK},H p=↑(.lst us)->Paired (rp R H) xs us->rp R H y v->c xs y z->(∀w,rp R H z w->Q w H)->r (.ref p) v H Q) :
    EW X E T e (λd Kn Ke=>wa d (λg d1=>wb d1 (λy d2=>∃z,c (g d2) y z/\Kn z d2) Ke) Ke):=by
  refine e1a2 ha λta a1 a2=>?_
  refine e1a2 hb λtb b1 b2=>?_
  refine#[_,he ta tb a1 b1,λd F R σ H Kn Ke Q s hw kn ke=>?_]
  refine a2 d F R σ H _ Ke _ s hw (λg d1 u F1 R1 H1 q1 c1 s1 r1=>?_) ke
  refine b2 d1 F1 R1 σ H1 _ Ke _ s1 q1 (λy d2 v F2 R2 H2 q2 c2 s2 r2=>?_) λC y d' F' R' H' k c s'=>ke C y d' F' R' H' k (Ch.trans s s1.tab c1 c) s'
  refine e1a2 q2 λz z1 z2=>?_
  obtain⟨p,us,rfl,h1,h2⟩:=r1 d2 F2 R2 H2 c2 s2
  exact hr h1 h2 r2 z1 λw rw=>kn _ d2 w F2 R2 H2 z2 (Ch.trans s s1.tab c1 c2) s2 rw
def wV{R:Rg}{H:Hp}:∀{xs:List α} {vs:List V} {i:Nat} {x:α},Paired (rp R H) xs vs->xs[i]?=↑x->∃v,vs[i]?=↑v/\rp R H x v:=by
 intro _ _ i x z
 induction z generalizing i with
 |nil=>intro e;simp at e
 |cons r t ih =>
  intro e
  cases i with
  |zero=>simp at e;subst e;exact#[_,rfl,r]
  |succ i=>exact e1a2 (ih<|by simpa using e) λu h1 h2=>#[u,by simpa using h1,h2]
def AJ{xs:List α}{vs:List V}{i:Int}(h:Paired (rp R H) xs vs)(e:Fw xs i=↑x):∃v,Fw vs i=↑v/\rp R H x v:=by
 unfold Fw at e ⊢;rw[<- Paired.length h]
 cases q:WC xs.length i with
 |none=>rw[q]at e;cases e
 |some j =>
  rw[q]at e;exact wV h e
def xl{j:Wf D (D->List α) D}{l:Wf D Int D}(q:ER X E T a j)(s:EW X E T b l)(t:MI b:=by intro _ _;rfl) :
  EW X E T (.Subscript a b pos) (λ(d:D)(u:α->D->Prop) m=>j d (λg A=>l A (λi n=>∃x,Fw (g n) i=↑x/\u x n) m) m) :=
 Ye (c:=λo i x=>Fw o i=↑x) q s (λF G f h=>yk wM f h t) λ{R H o y z p I v Q} f h B C k=>by subst B;refine e1a2 (AJ h C) λw e r=>?_;exact#[_,_,_,_,rfl,rfl,wo.of f,e,k _ r]
def Ei{k:Nat}{e:Wf D (α×β) D}(g:EW X E T a e):EW X E T (.Subscript a (.Constant (.int 0) k p) pos) (λ(d:D)(f:α->D->Prop) b=>e d (λx c=>f x.1 c) b):=by refine e1a2 g λI h i=>?_;refine#[_,yk PN h vt<|λ_ _=>rfl,λd F R j H f b Q s l m n=>i d F R j H _ b _ s l (λx c u o r t y z A B=>?_) n];obtain⟨q,v,w,rfl,_,C,G,J⟩:=B;exact#[_,_,_,v,rfl,rfl,yZ.of C,rfl,m _ c v o r t y z A G]
def Bp{k:Nat}{e:Wf D (α×β) D}(g:EW X E T a e):EW X E T (.Subscript a (.Constant (.int 1) k p) pos) (λ(d:D)(f:β->D->Prop) b=>e d (λx c=>f x.2 c) b):=by refine e1a2 g λI h i=>?_;refine#[_,yk PN h vt<|λ_ _=>rfl,λd F R j H f b Q s l m n=>i d F R j H _ b _ s l (λx c u o r t y z A B=>?_) n];obtain⟨q,v,w,rfl,_,C,J,G⟩:=B;exact#[_,_,_,w,rfl,rfl,yZ.of C,rfl,m _ c w o r t y z A G]
def ze(f:EW X E T a g):EW X E T a (λ(d:D)(e:α->D->Prop) b=>g d (λx c=>∃y,x=↑y/\e y c) b):=by refine e1a2 f λz h i=>?_;refine#[_,h,λd F R j H e b Q s k l m=>i d F R j H _ b _ s k (λx c u n o p r t v w=>?_) m];obtain⟨y,rfl,q⟩:=r;exact l y c u n o p q t v w.2
class NV(α:Type)[Rep α]:Prop where
 nv:∀{R:Rg} {H:Hp} {x:α} {v:V},rp R H x v->v≠.wF
instance:NV Int:=#[λh z=>by have h:_=_:=h;rw[h]at z;cases z]
instance:NV (α×β):=#[λh z=>by obtain⟨a,u,w,e,_⟩:=h;rw[e]at z;cases z]
def zw[NV α](g:EW X E T a h):EW X E T a (λ(d:D)(e:Option α->D->Prop) b=>h d (λx c=>e ↑x c) b):=by refine e1a2 g λw i j=>?_;exact#[_,i,λd F R k H e b Q s l m n=>j d F R k H _ b _ s l (λx c u o p q r t v f=>m ↑x c u o p q r t v #[NV.nv f,f]) n]
def UG{k:Nat}:EW X E T (.Constant .none k pos) (λ(d:D)(a:Option α->D->Prop) _=>a none d) :=
 #[_,J9,λd F R e H a f Q s b c _=>c none d _ F R H b 61 s rfl]
def w6{a:iL}{p:Pos}{wa:Wf D (D->List α) D}(hg:Gl X "len")(hm:X.mg "len"=none)(ha:ER X E T a wa)(hs:gP [a] X.env=(false,eval a X.env)::gP [] X.env:=by rfl) :
  EW X E T (.Call (.Name "len" p) [a] [] pos) (λ(d:D)(Kn:Int->D->Prop) Ke=>wa d (λg d1=>Kn ((g d1).length:Int) d1) Ke):=by
 refine e1a2 ha λta a1 a2=>?_;refine#[_,wJ xo hg hm mD (uZ a1 vk hs) (he:=hs),λd F R σ H Kn Ke Q s hw kn ke=>a2 d F R σ H _ Ke _ s hw (λg d1 u F1 R1 H1 q1 c1 s1 r1=>?_) ke];obtain⟨q,us,rfl,h1,h2⟩:=r1 d1 F1 R1 H1 61 s1;refine#[_,_,rfl,.inl<|wo.of h1,kn _ d1 _ F1 R1 H1 q1 c1 s1 ?_];show V.int _=V.int _;rw[Paired.length h2]
end
def AL(X:Cx)(E:XK)(T:ci)(es:List iL){D α:Type}[Sls D][Rep α](w:Wf D (List α) D):Prop :=
 ∃t,PA X es t/\∀(d:D)(F R:Rg)(σ:St)(H:Hp)(Kn:List α->D->Prop)(Ke:ci->D->Prop)(Q:List V->Hp->Prop),v6 T F R H d σ->w d Kn Ke ->
  (∀x d' vs F' R' H',Kn x d'->Ch T F R H F' R' H'->v6 T F' R' H' d' σ->Paired (rp R' H') x vs->vs.length=es.length->Q vs H') ->
  (∀C y d' F' R' H',Ke C d'->Ch T F R H F' R' H'->v6 T F' R' H' d' σ->E (.ref C) ↑y H')->t σ H Q
def v6.vals{T:ci}{D:Type}[Sls D]{d:D}{σ:St}{F R F' R':Rg}{H H':Hp}(s:v6 T F R H d σ)(c:Ch T F R H F' R' H'){α:Type}[Rep α]{x:List α}{v:List V}(h:Paired (rp R H) x v):Paired (rp R' H') x v :=
 wl (c.ext.wide λa z=>z.elim (s.sub a) λq=>by rw[q];exact s.vN) h
section
variable{D:Type}[Sls D]{α β γ:Type}[Rep α][Rep β][Rep γ]
def vo:AL X E T [] (λ(d:D)(a:List α->D->Prop) _=>a [] d) :=
 #[_,vk,λd F R e H a f Q s b c _=>c [] d [] F R H b 61 s .nil rfl]
def uX{b:List iL}{i:Wf D α D}{j:Wf D (List α) D}(r:EW X E T e i)(t:AL X E T b j)(v:gP (e::b) X.env=(false,eval e X.env)::gP b X.env:=by rfl) :
  AL X E T (e::b) (λd l a=>i d (λx g=>j g (λm h=>l (x::m) h) a) a):=by
 refine e1a2 r λta w z=>?_;refine e1a2 t λtr A B=>?_;refine#[_,uZ w A v,λd F R n H l a Q s G I o=>?_];refine z d F R n H _ a _ s G (λx g u J L M N p f O=>?_) o;refine B g J L n M _ a _ f N (λm h P S U W Y q Z r2 l2=>?_) λC y d' F' R' H' k c s'=>o C y d' F' R' H' k (Ch.trans s f.tab p c) s';exact I _ h (u::P) S U W Y (Ch.trans s f.tab p q) Z (.cons (f.val q O) r2) (by rw[ij,ij,l2])
def vp(h:AL X E T b w)(g:b.length<=gS:=by decide):EO X E T (.List b pos) (λ(d:D)(c:OL α->D->Prop) a=>w d (λe i=>c #[e] i) a):=by refine e1a2 h λt j k=>?_;refine#[_,PD j,λd F R l H c a Q s m n o=>k d F R l H _ a _ s m (λe q I r J L u v f x y=>#[by rw[y];exact g,λp z=>?_]) o];refine e1a3 (xH f z x) λA B C G=>?_;exact n _ q _ _ r A _ u (Ch.trans s f.tab v B) C G
def wN{r}(t:EW X E T a w)(z:EW X E T b A)
 (B:gP [a,b] X.env=(false,eval a X.env)::gP [b] X.env:=by rfl) (G:gP [b] X.env=(false,eval b X.env)::gP [] X.env:=by rfl) :
    EW X E T (.Tuple [a,b] r pos) (λ(d:D)(l:α×β->D->Prop) e=>w d (λx h=>A h (λy i=>l (x,y) i) e) e):=by
  refine e1a2 t λta I J=>?_
  refine e1a2 z λtb L M=>?_
  refine#[_,PB<|uZ I (uZ L vk G) B,λd F R m H l e Q s N O n=>?_]
  refine J d F R m H _ e _ s N (λx h u P S U W o f Y=>?_) n
  refine M h P S m U _ e _ f W (λy i v Z R2 H2 q2 q g r2=>#[(by show 2<=gS;decide),λp hp=>?_]) λC y d' F' R' H' k c s'=>n C y d' F' R' H' k (Ch.trans s f.tab o c) s'
  refine e0a3 (g.new (.tup [u,v]) hp) λs3 j n3=>?_
  exact O _ i _ Z R2 _ q2 (Ch.trans s f.tab o<|Ch.trans f g.tab q j) s3 #[p,u,v,rfl,n3,uV,g.val j<|f.val q Y,g.val j r2]
def xU{R:Rg}{H:Hp}:∀{xs ys:List α} {us vs:List V},Paired (rp R H) xs us->Paired (rp R H) ys vs->Paired (rp R H) (xs++ys) (us++vs):=by
 intro _ _ _ _ z s
 induction z with
 |nil=>exact s
 |cons h t ih=>exact .cons h ih
def Bq(J:ER X E T a L)(M:ER X E T b N) :
  EO X E T (.BinOp a .Add b pos) (λ(d:D)(n:OL α->D->Prop) f=>L d (λg j=>N j (λk e=>(g e).length+(k e).length<=gS/\n #[g e++k e] e) f) f):=by
 refine e1a2 J λta O P=>?_;refine e1a2 M λtb S U=>?_;refine#[_,wT XI O S,λd F R o H n f Q s W Y t=>?_];refine P d F R o H _ f _ s W (λg j u Z R1 H1 q1 w h r1=>?_) t;refine U j Z R1 o H1 _ f _ h q1 (λk e v l x z A B i r2=>?_) λC y d' F' m H' k c s'=>t C y d' F' m H' k (Ch.trans s h.tab w c) s';obtain⟨p,us,rfl,h1,G⟩:=r1 e l x z B i;obtain⟨q,vs,rfl,k1,I⟩:=r2 e l x z 61 i;refine#[p,q,us,vs,rfl,rfl,h1,k1,by rw[<- Paired.length G,<- Paired.length I];exact A.1,λr hr=>?_];refine e1a3 (xH i hr<|xU G I) λm c3 s3 n3=>?_;exact Y _ e _ _ l m _ A.2 (Ch.trans s h.tab w<|Ch.trans h i.tab B c3) s3 n3
def GV(j:Gl X "list")(k:X.mg "list"=none)(m:ER X E T a n)(f:gP [a] X.env=(false,eval a X.env)::gP [] X.env:=by rfl) :
  EO X E T (.Call (.Name "list" p) [a] [] pos) (λ(d:D)(h:OL α->D->Prop) c=>n d (λg b=>h #[g b] b) c):=by
 refine e1a2 m λP o r=>?_;refine#[_,xF yp j k j0 (uZ o vk f) (he:=f),λd F R t H h c Q s v w x=>r d F R t H _ c _ s v (λg b u i y z A B e C=>?_) x];obtain⟨q,S,rfl,G,I⟩:=C b i y z 61 e;refine#[_,_,rfl,.inl<|wo.of G,λl J=>?_];refine e1a3 (xH e J I) λL M N O=>?_;exact w _ b _ _ i L _ A (Ch.trans s e.tab B M) N O
noncomputable def ins(x:Int):List Int->List Int
 | []=>[x]
 |y::r=>if x<=y then x::y::r else y::ins x r
noncomputable def Af:List Int->List Int
 | []=>[]
 |x::r=>ins x<|Af r
def Ah(x:Int):∀r:List Int,(ins x r).Perm (x::r)
 | []=>oP _
 |y::r=>by
  unfold ins;split
  ·exact oP _
  ·exact((Ah x r).cons y).trans<|List.Perm.swap x y r
def wx:∀r:List Int,(Af r).Perm r
 | []=>oP _
 |x::r=>(Ah x<|Af r).trans<|(wx r).cons x
set_option tactic.hygienic true in
def GY(x:Int):∀r:List Int,r.Pairwise (·<=·)->(ins x r).Pairwise (·<=·)
 | [],_=>jL _ _
 |y::r,h=>by
  unfold ins;have b:=List.pairwise_cons.mp h;split
  ·rename_i a
   refine List.pairwise_cons.mpr #[λz c=>?_,h];rcases List.mem_cons.mp c with e|e
   ·rw[e];exact a
   ·exact Int.le_trans a<|b.1 z e
  ·rename_i a
   refine List.pairwise_cons.mpr #[λz c=>?_,GY x r b.2];rcases List.mem_cons.mp ((Ah x r).mem_iff.mp c) with e|e
   ·rw[e];lia
   ·exact b.1 z e
def AK:∀r:List Int,(Af r).Pairwise (·<=·)
 | []=>iw
 |x::r=>GY x _<|AK r
def zf:∀{a b:List Int},a.Perm b->a.Pairwise (·<=·)->b.Pairwise (·<=·)->a=b
 | [],b,p,_,_=>(List.Perm.nil_eq p)
 |x::a,[],p,_,_=>hV p.length_eq q0o
 |x::a,y::b,p,c,d=>by
  have e:x=y:=by
   have f:x∈y::b:=p.mem_iff.mp gR;have g:y∈x::a:=p.mem_iff.mpr gR;rcases List.mem_cons.mp f with q|q
   ·exact q
   ·rcases List.mem_cons.mp g with z|z
    ·exact z.symm
    ·have:=(List.pairwise_cons.mp d).1 x q;have:=(List.pairwise_cons.mp c).1 y z
     lia
  subst e;rw[zf p.cons_inv (List.pairwise_cons.mp c).2 (List.pairwise_cons.mp d).2]
def Ej{a:List Int}(p:a.Perm b)(h:a.Pairwise (·<=·)):a=Af b:=zf (p.trans (wx b).symm) h<|AK b
def paired_ints{R:Rg}{H:Hp}:∀{xs:List Int} {vs:List V},Paired (rp R H) xs vs->vs=xs.map V.int:=by
 intro _ _ z
 induction z with
 |nil=>rfl
 |cons h t ih=>rw[show _=V.int _ from h,ih];rfl
def xZ{R:Rg}{H:Hp}:∀xs:List Int,Paired (rp R H) xs (xs.map V.int)
 | []=>.nil
 |x::r=>.cons (rfl:rp R H x (V.int x))<|xZ r
def CH{a:iL}{p:Pos}{wa:Wf D (D->List Int) D}(hg:Gl X "sorted")(hm:X.mg "sorted"=none)(ha:ER X E T a wa)(hs:gP [a] X.env=(false,eval a X.env)::gP [] X.env:=by rfl) :
  EO X E T (.Call (.Name "sorted" p) [a] [] pos) (λ(d:D)(Kn:OL Int->D->Prop) Ke=>wa d (λg d1=>(g d1).length<64/\Kn #[Af<|g d1] d1) Ke):=by
 refine e1a2 ha λta a1 a2=>?_;refine#[_,wJ GR hg hm ku (uZ a1 vk hs) (he:=hs),λd F R σ H Kn Ke Q s hw kn ke=>a2 d F R σ H _ Ke _ s hw (λg d1 u F1 R1 H1 q1 c1 s1 r1=>?_) ke];obtain⟨q,us,rfl,h1,h2⟩:=r1 d1 F1 R1 H1 61 s1;refine#[_,g d1,rfl,wo.of (by rw[h1,paired_ints h2]),q1.1,λl ns hl pn sn=>?_];rw[Ej pn sn];refine e1a3 (xH s1 hl<|xZ (R:=R1) (H:=H1)<|Af<|g d1) λR' c3 s3 n3=>?_;exact kn _ d1 _ _ F1 R' _ q1.2 (Ch.trans s s1.tab c1 c3) s3 n3
noncomputable def FD{α:Type}(a:List α)(b c:Option Int):List α:=(a.drop<|HT.w4 a.length 0 b).take<|HT.w4 a.length a.length c-HT.w4 a.length 0 b
def Jm{R:Rg}{H:Hp}:∀{xs:List α} {vs:List V} (n:Nat),Paired (rp R H) xs vs->Paired (rp R H) (xs.drop n) (vs.drop n):=by
 intro _ _ n z
 induction z generalizing n with
 |nil=>cases n<;>exact .nil
 |cons h t ih=>cases n with
  |zero=>exact .cons h t
  |succ k=>exact ih k
def De{R:Rg}{H:Hp}:∀{xs:List α} {vs:List V} (n:Nat),Paired (rp R H) xs vs->Paired (rp R H) (xs.take n) (vs.take n)
 |_,_,0,_=>.nil
 |_,_,_+1,.nil=>.nil
 |_,_,n+1,.cons r t=>.cons r<|De n t
def Ek{R:Rg}{H:Hp}{xs:List α}{vs:List V}(h:Paired (rp R H) xs vs)(lo hi:Option Int):Paired (rp R H) (FD xs lo hi) (DZ vs lo hi):=by unfold FD DZ;rw[<- Paired.length h];exact De _<|Jm _ h
def OW(X:Cx)(E:XK)(T:ci)(e:Option iL){D:Type}[Sls D](w:Wf D (Option Int) D):Prop :=
 ∃t,PO X e t/\∀(d:D)(F R:Rg)(g:St)(H:Hp)(h:Option Int->D->Prop)(i:ci->D->Prop)(Q:Option Int->Hp->Prop),v6 T F R H d g->w d h i ->
  (∀x b c f a,h x b->Ch T F R H c f a->v6 T c f a b g->Q x a) ->
  (∀C y b c f a,i C b->Ch T F R H c f a->v6 T c f a b g->E (.ref C) ↑y a)->t g H Q
def GZ:OW X E T none (λ(d:D) a _=>a none d):=#[_,Dw,λd F R e H a f Q s b c _=>c none d F R H b 61 s]
def G0(h:EW X E T e w):OW X E T ↑e (λ(d:D) b a=>w d (λi c=>b ↑i c) a):=by refine e1a2 h λt f g=>?_;exact#[_,Dx f,λd F R j H b a Q s k l m=>g d F R j H _ a _ s k (λx n u o p q r v y z=>#[x,z,l _ n o p q r v y]) m]
def Jn{G:Option iL}(M:ER X E T a N)(O:OW X E T G P)(S:OW X E T U W) :
  EO X E T (.Subscript a (.Slice G U none p2) pos) (λ(d:D)(I:OL α->D->Prop) b=>N d (λg m=>P m (λl n=>W n (λh f=>I #[FD (g f) l h] f) b) b) b):=by
 refine e1a2 M λta Y Z=>?_;refine e1a2 O λtl l1 l2=>?_;refine e1a2 S λth h1 h2=>?_;refine#[_,zZ Dy Y l1 h1,λd F R o H I b Q s hw kn r=>?_];refine Z d F R o H _ b _ s hw (λg m u F1 R1 H1 q1 t e r1=>?_) r;refine l2 m F1 R1 o H1 _ b _ e q1 (λl n F2 R2 H2 q2 v i=>?_) λC y w x j z k c A=>r C y w x j z k (Ch.trans s e.tab t c) A;refine h2 n F2 R2 o H2 _ b _ i q2 (λh f J R3 H3 q3 L B=>?_) λC y w x j z k c A=>r C y w x j z k (Ch.trans s e.tab t<|Ch.trans e i.tab v c) A;obtain⟨q,us,rfl,k1,k2⟩:=r1 f J R3 H3 (Ch.trans e i.tab v L) B;refine⟨q,us,rfl,wo.of k1,λp hp=>?_⟩;refine e1a3 (xH B hp<|Ek k2 l h) λj c4 s4 n4=>?_;exact kn _ f _ _ J j _ q3 (Ch.trans s e.tab t<|Ch.trans e i.tab v<|Ch.trans i B.tab L c4) s4 n4
def Cm(X:Cx)(op:qJ)(g:α->β->Bool):Prop:=∃r,AV X (jy op) r/\∀{R:Rg} {H:Hp} {x:α} {y:β} {u v:V} {Q:VK},rp R H x u->rp R H y v->Q (.bl<|g x y) H->r u v H Q
def CmL(X:Cx)(op:qJ)(g:List α->List β->Bool):Prop:=∃r,AV X (jy op) r/\∀{R:Rg} {H:Hp} {x:List α} {y:List β} {p q:ci} {us vs:List V} {Q:VK},H p=↑(.lst us)->Paired (rp R H) x us->H q=↑(.lst vs)->Paired (rp R H) y vs->Q (.bl<|g x y) H->r (.ref p) (.ref q) H Q
def CmI(X:Cx)(op:qJ)(g:α->List β->Bool):Prop:=∃r,AV X (jy op) r/\∀{R:Rg} {H:Hp} {x:α} {y:List β} {q:ci} {u:V} {vs:List V} {Q:VK},rp R H x u->H q=↑(.lst vs)->Paired (rp R H) y vs->Q (.bl<|g x y) H->r u (.ref q) H Q
def Yf(a:AV X (jy op) (TJ λi j=>.bl<|g i j)):Cm X op g:=⟨_,a,λb c k=>#[_,_,b,c,k]⟩
def QB:Cm X .Lt (λi j:Int=>decide<|i<j):=Yf Wy
def WR:Cm X .Gt (λi j:Int=>decide<|j<i):=Yf WA
def WT:Cm X .GtE (λi j:Int=>decide<|j<=i):=Yf ZB
def Ai[DecidableEq α][Jl α]:Cm X .Eq (λx y:α=>decide<|x=y):=⟨_,Zz,λa b k=>#[(Jl.sc a b).1,by rw[(Jl.sc a b).2];exact k]⟩
def El[DecidableEq α][Jl α]:Cm X .NotEq (λx y:α=>!decide (x=y)):=#[_,ZA,λa b k=>#[(Jl.sc a b).1,by rw[(Jl.sc a b).2];exact k]]
def Yg:Cm X .Is (λ(x:Option α)(_:Unit)=>x.isNone):=#[_,Xw,λa b k=>#[b,by rw[MP a];exact k]]
def MT:Cm X .IsNot (λ(x:Option α)(_:Unit)=>!x.isNone):=#[_,T4,λa b k=>#[b,by rw[MP a];exact k]]
def xI[DecidableEq α][Dat α](a:Dat.dp α<=64)(x:α):su (Dat.dat x)=true:=by show (o9 (Dat.dat x)&&decide ((Dat.dat x).depth<=64))=true;rw[iJ];exact#[Dat.lay x,decide_eq_true<|iA (Dat.dep x) a]
def Yh[DecidableEq α][Dat α](b:X.A.units+64<kG)(a:Dat.dp α<=64:=by decide):Cm X .NotEq (λx y:α=>!decide (x=y)):=#[_,Qi b,λ{R H x y u v Q} c d k=>#[_,_,Dat.rd c,Dat.rd d,xI a x,xI a y,Dat.nm x y,by rw[Dat.sm];exact k]]
def KU[DecidableEq α][Dat α](b:X.A.units+64<kG)(a:Dat.dp (List α)<=64:=by decide):CmL X .Eq (λx y:List α=>decide (x=y)):=#[_,X4 b,λ{R H x y p q g h Q} c d e f k=>#[_,_,Gb.lst (wo.of c) (BL d),Gb.lst (wo.of e) (BL f),xI a x,xI a y,Dat.nm x y,by
 have:=Dat.sm x y
 rw[show kS (.list (x.map Dat.dat)) (.list (y.map Dat.dat))=decide (x=y) from this];exact k]]
def CI[DecidableEq α][Dat α](b:X.A.units+64<kG)(a:Dat.dp (List α)<=64:=by decide):CmL X .NotEq (λx y:List α=>!decide (x=y)):=#[_,Qi b,λ{R H x y p q g h Q} c d e f k=>#[_,_,Gb.lst (wo.of c) (BL d),Gb.lst (wo.of e) (BL f),xI a x,xI a y,Dat.nm x y,by
 have:=Dat.sm x y
 rw[show kS (.list (x.map Dat.dat)) (.list (y.map Dat.dat))=decide (x=y) from this];exact k]]
def BM(k:Int)(a:List Int):inV (.int k) (a.map V.int)=decide (k∈a):=by
 unfold inV;rw[List.any_map,mi,uL,iU];constructor
 ·rintro⟨y,b,e⟩;have:y=k:=by simpa[TK] using e
  rw[<- this];exact b
 ·intro h;exact#[k,h,by simp[TK]]
def AM(a:List Int):(a.map V.int).all BB=true:=by rw[List.all_map,oH];intro x _;rfl
def QC:CmI X .In (λ(x:Int)(ys:List Int)=>decide (x∈ys)):=#[_,FW,λ{R H x y q u vs Q} h1 h2 h3 k=>by
 subst h1;refine#[q,vs,rfl,.inl<|wo.of h2,rfl,by rw[paired_ints h3];exact AM y,?_];rw[paired_ints h3,BM]
 exact k]
def Em:CmI X .NotIn (λ(x:Int)(ys:List Int)=>!decide (x∈ys)):=#[_,BC,λ{R H x y q u vs Q} h1 h2 h3 k=>by
 subst h1;refine#[q,vs,rfl,.inl<|wo.of h2,rfl,by rw[paired_ints h3];exact AM y,?_];rw[paired_ints h3,BM]
 exact k]
def tw_cm{a b:iL}{op:qJ}{g:α->β->Bool}{wa:Wf D α D}{wb:Wf D β D}(C:Cm X op g)(ha:EW X E T a wa)(hb:EW X E T b wb)(hm:iV op b=false:=by exact v9 _) :
  TW X E T (.Compare a [op] [b] pos) (λ(d:D) Kn Ke=>wa d (λx d1=>wb d1 (λy d2=>Kn (g x y) d2) Ke) Ke):=by
 refine e1a2 C λr o1 o2=>?_;refine e1a2 ha λta a1 a2=>?_;refine e1a2 hb λtb b1 b2=>?_;refine#[_,xT o1 a1 b1 hm,λd F R σ H Kn Ke Q s hw kn ke=>?_];refine a2 d F R σ H _ Ke _ s hw (λx d1 u F1 R1 H1 q1 c1 s1 r1=>?_) ke;refine b2 d1 F1 R1 σ H1 _ Ke _ s1 q1 (λy d2 v F2 R2 H2 q2 c2 s2 r2=>?_) λC y d' F' R' H' k c s'=>ke C y d' F' R' H' k (Ch.trans s s1.tab c1 c) s';exact o2 (s1.val c2 r1) r2 #[_,rfl,kn _ d2 F2 R2 H2 q2 (Ch.trans s s1.tab c1 c2) s2]
def Z8{a b:iL}{op:qJ}{g:α->β->Bool}{j:Wf D α D}{l:Wf D β D}(C:Cm X op g)(t:EW X E T a j)(w:EW X E T b l)(z:iV op b=false:=by exact v9 _) :
  EW X E T (.Compare a [op] [b] pos) (λ(d:D)(m:Bool->D->Prop) e=>j d (λx h=>l h (λy i=>m (g x y) i) e) e):=by
 obtain⟨r,A,B⟩:=C;obtain⟨ta,G,I⟩:=t;obtain⟨tb,J,L⟩:=w;refine#[_,GC A G J z,λd F R n H m e Q s M N o=>?_];refine I d F R n H _ e _ s M (λx h u O P H1 S p f U=>?_) o;refine L h O P n H1 _ e _ f S (λy i v W R2 H2 Y q Z r2=>?_) λC y d' F' R' H' k c s'=>o C y d' F' R' H' k (Ch.trans s f.tab p c) s';exact B (f.val q U) r2<|N _ i _ W R2 H2 Y (Ch.trans s f.tab p q) Z rfl
def tw_cmL{a b:iL}{op:qJ}{g:List α->List β->Bool}{wa:Wf D (D->List α) D}{wb:Wf D (D->List β) D}(C:CmL X op g)(ha:ER X E T a wa)(hb:ER X E T b wb)(hm:iV op b=false:=by exact v9 _) :
  TW X E T (.Compare a [op] [b] pos) (λ(d:D) Kn Ke=>wa d (λx d1=>wb d1 (λy d2=>Kn (g (x d2)<|y d2) d2) Ke) Ke):=by
 refine e1a2 C λr o1 o2=>?_;refine e1a2 ha λta a1 a2=>?_;refine e1a2 hb λtb b1 b2=>?_;refine#[_,xT o1 a1 b1 hm,λd F R σ H Kn Ke Q s hw kn ke=>?_];refine a2 d F R σ H _ Ke _ s hw (λx d1 u F1 R1 H1 q1 c1 s1 r1=>?_) ke;refine b2 d1 F1 R1 σ H1 _ Ke _ s1 q1 (λy d2 v F2 R2 H2 q2 c2 s2 r2=>?_) λC y d' F' R' H' k c s'=>ke C y d' F' R' H' k (Ch.trans s s1.tab c1 c) s';obtain⟨p,us,rfl,h1,h2⟩:=r1 d2 F2 R2 H2 c2 s2;obtain⟨q,vs,rfl,k1,k2⟩:=r2 d2 F2 R2 H2 61 s2;exact o2 h1 h2 k1 k2 #[_,rfl,kn _ d2 F2 R2 H2 q2 (Ch.trans s s1.tab c1 c2) s2]
def Yi{a b:iL}{op:qJ}{g:List α->List β->Bool}{wa:Wf D (D->List α) D}{wb:Wf D (D->List β) D}(C:CmL X op g)(ha:ER X E T a wa)(hb:ER X E T b wb)(hm:iV op b=false:=by exact v9 _) :
  EW X E T (.Compare a [op] [b] pos) (λ(d:D)(Kn:Bool->D->Prop) Ke=>wa d (λx d1=>wb d1 (λy d2=>Kn (g (x d2)<|y d2) d2) Ke) Ke):=by
 refine e1a2 C λr o1 o2=>?_;refine e1a2 ha λta a1 a2=>?_;refine e1a2 hb λtb b1 b2=>?_;refine#[_,GC o1 a1 b1 hm,λd F R σ H Kn Ke Q s hw kn ke=>?_];refine a2 d F R σ H _ Ke _ s hw (λx d1 u F1 R1 H1 q1 c1 s1 r1=>?_) ke;refine b2 d1 F1 R1 σ H1 _ Ke _ s1 q1 (λy d2 v F2 R2 H2 q2 c2 s2 r2=>?_) λC y d' F' R' H' k c s'=>ke C y d' F' R' H' k (Ch.trans s s1.tab c1 c) s';obtain⟨p,us,rfl,h1,h2⟩:=r1 d2 F2 R2 H2 c2 s2;obtain⟨q,vs,rfl,k1,k2⟩:=r2 d2 F2 R2 H2 61 s2;exact o2 h1 h2 k1 k2<|kn _ d2 _ F2 R2 H2 q2 (Ch.trans s s1.tab c1 c2) s2 rfl
def tw_cmI{a b:iL}{op:qJ}{g:α->List β->Bool}{wa:Wf D α D}{wb:Wf D (D->List β) D}(C:CmI X op g)(ha:EW X E T a wa)(hb:ER X E T b wb)(hm:iV op b=false:=by exact v9 _) :
  TW X E T (.Compare a [op] [b] pos) (λ(d:D) Kn Ke=>wa d (λx d1=>wb d1 (λy d2=>Kn (g x<|y d2) d2) Ke) Ke):=by
 refine e1a2 C λr o1 o2=>?_;refine e1a2 ha λta a1 a2=>?_;refine e1a2 hb λtb b1 b2=>?_;refine#[_,xT o1 a1 b1 hm,λd F R σ H Kn Ke Q s hw kn ke=>?_];refine a2 d F R σ H _ Ke _ s hw (λx d1 u F1 R1 H1 q1 c1 s1 r1=>?_) ke;refine b2 d1 F1 R1 σ H1 _ Ke _ s1 q1 (λy d2 v F2 R2 H2 q2 c2 s2 r2=>?_) λC y d' F' R' H' k c s'=>ke C y d' F' R' H' k (Ch.trans s s1.tab c1 c) s';obtain⟨q,vs,rfl,k1,k2⟩:=r2 d2 F2 R2 H2 61 s2;exact o2 (s1.val c2 r1) k1 k2 #[_,rfl,kn _ d2 F2 R2 H2 q2 (Ch.trans s s1.tab c1 c2) s2]
def Yj{a b:iL}{op:qJ}{g:α->List β->Bool}{j:Wf D α D}{l:Wf D (D->List β) D}(C:CmI X op g)(A:EW X E T a j)(B:ER X E T b l)(G:iV op b=false) :
  EW X E T (.Compare a [op] [b] pos) (λ(d:D)(m:Bool->D->Prop) e=>j d (λx i=>l i (λy f=>m (g x<|y f) f) e) e):=by
 obtain⟨r,I,J⟩:=C;obtain⟨ta,L,M⟩:=A;obtain⟨tb,N,O⟩:=B;refine#[_,GC I L N G,λd F R n H m e Q s P S o=>?_];refine M d F R n H _ e _ s P (λx i u U W H1 Y p h Z=>?_) o;refine O i U W n H1 _ e _ h Y (λy f v t R2 H2 q2 w z r2=>?_) λC y d' F' R' H' k c s'=>o C y d' F' R' H' k (Ch.trans s h.tab p c) s';obtain⟨q,vs,rfl,k1,k2⟩:=r2 f t R2 H2 61 z;exact J (h.val w Z) k1 k2<|S _ f _ t R2 H2 q2 (Ch.trans s h.tab p w) z rfl
def tw_val{w:Wf D Bool D}(h:EW X E T e w)(b:∀a,qN e X.env a=(do let v <- a;mY e.pos;kO [v] (ur v)):=by intro _;rfl):TW X E T e w:=by refine e1a2 h λt c f=>?_;exact#[_,Xb c b,λd F R g H A i Q s j k l=>f d F R g H _ i _ s j (λx m u n o p q r y z=>#[x,z,k _ m n o p q r y]) l]
def tw_not{w:Wf D Bool D}(h:TW X E T e w):TW X E T (.UnaryOp .Not e pos) (λd f a=>w d (λb c=>f (!b) c) a):=by refine e1a2 h λt g i=>?_;exact#[_,Xe g,λd F R j H f a Q s k l m=>i d F R j H _ a _ s k (λx c n o p q r u=>l _ c n o p q r u) m]
def WW(X:Cx)(E:XK)(T:ci)(e:iL){D:Type}[Sls D](w:Wf D Bool D):Prop :=
 ∃t,PW X e t/\∀(d:D)(F R:Rg)(g:St)(H:Hp)(h:Bool->D->Prop)(i:ci->D->Prop)(Q:Bool->Hp->Prop),v6 T F R H d g->w d h i ->
  (∀x b c f a,h x b->Ch T F R H c f a->v6 T c f a b g->Q x a) ->
  (∀C y b c f a,i C b->Ch T F R H c f a->v6 T c f a b g->E (.ref C) ↑y a)->t g H Q
def tw_w{w:Wf D Bool D}(h:WW X E T e w):TW X E T e w:=e1a2 h λt a b=> #[t,a.pt,b]
def G4{w:Wf D Bool D}(h:TW X E T a w):WW X E T (.BoolOp .And [a] pos) w:=e1a2 h λt b c=> #[_,T0 b,c]
def zx{w:Wf D Bool D}(h:TW X E T a w):WW X E T (.BoolOp .Or [a] pos) w:=e1a2 h λt b c=> #[_,Pl b,c]
def KW{e:List iL}{l m:Wf D Bool D}(v:TW X E T a l)(w:WW X E T (.BoolOp .And (b::e) pos) m):WW X E T (.BoolOp .And (a::b::e) pos) (λd i f=>l d (λx g=>if x=true then m g i f else i false g) f):=by
 refine e1a2 v λta z A=>?_;refine e1a2 w λtb B G=>?_;refine#[_,Xd z B,λd F R n H i f Q s I o p=>?_];refine A d F R n H _ f _ s I (λx g q r t u j h=>?_) p
 cases x with
 |true=>exact G g q r n t _ f _ h u (λy J L M N O P S=>o _ J L M N O (Ch.trans s h.tab j P) S) λC y U W Y Z k c s'=>p C y U W Y Z k (Ch.trans s h.tab j c) s'
 |false=>exact o _ g q r t u j h
def A9{e:List iL}{l m:Wf D Bool D}(v:TW X E T a l)(w:WW X E T (.BoolOp .Or (b::e) pos) m):WW X E T (.BoolOp .Or (a::b::e) pos) (λd i f=>l d (λx g=>if x=true then i true g else m g i f) f):=by
 refine e1a2 v λta z A=>?_;refine e1a2 w λtb B G=>?_;refine#[_,Wt z B,λd F R n H i f Q s I o p=>?_];refine A d F R n H _ f _ s I (λx g q r t u j h=>?_) p
 cases x with
 |false=>exact G g q r n t _ f _ h u (λy J L M N O P S=>o _ J L M N O (Ch.trans s h.tab j P) S) λC y U W Y Z k c s'=>p C y U W Y Z k (Ch.trans s h.tab j c) s'
 |true=>exact o _ g q r t u j h
def AN{op}{w:Wf D Bool D}(h:EW X E T a w):EW X E T (.BoolOp op [a] pos) w:=e1a2 h λt b c=> #[_,Xf b,c]
def Eo{e:List iL}(t:EW X E T a w)(z:EW X E T (.BoolOp .And (b::e) pos) A):EW X E T (.BoolOp .And (a::b::e) pos) (λ(d:D)(i:Bool->D->Prop) f=>w d (λx g=>if x=true then A g i f else i false g) f):=by
 refine e1a2 t λta B G=>?_;refine e1a2 z λtb I J=>?_;refine#[_,Xg B I,λd F R l H i f Q s L m n=>?_];refine G d F R l H _ f _ s L (λx g u o p q r j h M=>#[x,M,?_]) n
 cases x with
 |true=>exact J g o p l q _ f _ h r (λy N v O P S U W Y Z=>m _ N v O P S U (Ch.trans s h.tab j W) Y Z) λC y d' F' R' H' k c s'=>n C y d' F' R' H' k (Ch.trans s h.tab j c) s'
 |false=>exact m _ g _ o p q r j h rfl
def Z9{e:List iL}(t:EW X E T a w)(z:EW X E T (.BoolOp .Or (b::e) pos) A):EW X E T (.BoolOp .Or (a::b::e) pos) (λ(d:D)(i:Bool->D->Prop) f=>w d (λx g=>if x=true then i true g else A g i f) f):=by
 refine e1a2 t λta B G=>?_;refine e1a2 z λtb I J=>?_;refine#[_,Zt B I,λd F R l H i f Q s L m n=>?_];refine G d F R l H _ f _ s L (λx g u o p q r j h M=>#[x,M,?_]) n
 cases x with
 |false=>exact J g o p l q _ f _ h r (λy N v O P S U W Y Z=>m _ N v O P S U (Ch.trans s h.tab j W) Y Z) λC y d' F' R' H' k c s'=>n C y d' F' R' H' k (Ch.trans s h.tab j c) s'
 |true=>exact m _ g _ o p q r j h rfl
def Yk(h:EW X E T a w):EW X E T (.UnaryOp .Not a pos) (λ(d:D)(f:Bool->D->Prop) c=>w d (λb e=>f (!b) e) c):=by refine e1a2 h λt g i=>?_;exact#[_,Xh g,λd F R j H f c Q s k l m=>i d F R j H _ c _ s k (λx e u n o p q r v y=>#[x,y,l _ e _ n o p q r v rfl]) m]
end
variable[L2.GX]
class UH(τ:Type)[Ow τ]:Prop where
 fr:∀{F R L:Rg} {H:Hp} {x:τ} {v:Option V},sl F R H x v->(∀a,L a->∃us,H a=↑(.lst us))->sl F (λa=>R a\/L a) H x v
class KY(α:Type)[Rep α]:Prop where
 no:∀{R L:Rg} {H:Hp} {x:α} {v:V},rp R H x v->(∀a,L a->∃us,H a=↑(.lst us))->rp (λa=>R a\/L a) H x v
instance:KY Int:=#[λh _=>h]
instance:KY Bool:=#[λh _=>h]
instance{α β:Type}[Rep α][Rep β][KY α][KY β]:KY (α×β):=#[λ{R L H x v} h k=>by
 obtain⟨a,u,w,h1,h2,h3,h4,h5⟩:=h
 exact#[a,u,w,h1,λz=>z.elim h2 λq=>(by obtain⟨us,e⟩:=k a q;rw[h3]at e;cases e),h3,KY.no h4 k,KY.no h5 k]]
def MU{α:Type}[Rep α][KY α]{R L:Rg}{H:Hp}(k:∀a,L a->∃us,H a=↑(.lst us)):∀{xs:List α} {vs:List V},Paired (rp R H) xs vs->Paired (rp (λa=>R a\/L a) H) xs vs:=by
 intro _ _ z
 induction z with
 |nil=>exact .nil
 |cons h t ih=>exact .cons (KY.no h k) ih
instance{α:Type}[Rep α][KY α]:KY (Tp α):=#[λ{R L H x v} h k=>by
 refine e2a4 h λa vs h1 h2 h3 h4=>?_
 exact#[a,vs,h1,λz=>z.elim h2 λq=>(by obtain⟨us,e⟩:=k a q;rw[h3]at e;cases e),h3,MU k h4]]
instance{α:Type}[Rep α][KY α]:UH α:=#[λ{F R L H x v} h k=>by
 obtain⟨h1,u,e,h2⟩:=h
 exact#[h1,u,e,KY.no h2 k]]
instance{α:Type}[Rep α][KY α]:UH (OL α):=#[λ{F R L H x v} h k=>by
 refine e2a4 h λa vs h1 h2 h3 h4=>?_
 exact#[a,vs,h1,h2,h3,MU k h4]]
instance:UH Un:=#[λh _=>h]
class Zg(P:Type)[Sls P]:Prop where
 fr:∀{F R L:Rg} {H:Hp} {x:P} {v:St},rel F R H x v->(∀a,L a->∃us,H a=↑(.lst us))->rel F (λa=>R a\/L a) H x v
instance:Zg Unit:=#[λh _=>h]
instance{τ P:Type}[Ow τ][Sls P][UH τ][Zg P]:Zg (τ×P):=#[λh k=>by
 refine e4a4 h λv σ' F1 F2 h1 h2 h3 h4=>?_
 exact#[v,σ',F1,F2,h1,h2,UH.fr h3 k,Zg.fr h4 k]]
class Yl(P:Type)[Sls P]:Prop where
 ls:∀{F R:Rg} {H:Hp} {x:P} {v:St},rel F R H x v->∀a,F a->∃us,H a=↑(.lst us)
instance:Yl Unit:=#[λh a z=>hV z (h.2 a)]
instance{α P:Type}[Rep α][Sls P][Yl P]:Yl (OL α×P):=#[λ{F R H x v} h a z=>by
 obtain⟨v,σ',F1,F2,h1,h2,⟨b,vs,k1,k2,k3,k4⟩,h4⟩:=h;rcases(h2.all a).mp z with q|q
 ·rw[(k2 a).mp q];exact#[vs,k3]
 ·exact Yl.ls h4 a q]
abbrev Wo(R L:Rg):Rg:=λa=>R a/\¬L a
def CJ(R L:Rg)(H:Hp):Ext (λ_=>False) R H (Wo R L) H:=#[λ_ _ _ h=>h,λa h=>.inl h.1]
def UI(h:∀a,L a->b a):Ext (λ_=>False) (Wo R L) H (Wo R b) H:=#[λ_ _ _ h=>h,λa z=>.inl #[z.1,λq=>z.2<|h a q]]
def Sls.wk{D:Type}[Sls D]{F R R':Rg}{H:Hp}{d:D}{σ:St}(h:rel F R H d σ)(e:Ext (λ_=>False) R H R' H):rel F R' H d σ:=Sls.st h e (λ_ z=>z.elim)<|λ_ _ z=>z
def Ow.wk{τ:Type}[Ow τ]{F R R':Rg}{H:Hp}{d:τ}{σ:Option V}(h:sl F R H d σ)(e:Ext (λ_=>False) R H R' H):sl F R' H d σ:=Ow.st h e (λ_ z=>z.elim)<|λ_ _ z=>z
class Lb(Lc τ PO:Type)[Sls Lc][Ow τ][Sls PO]:Prop where
 fr:∀{F R L R0:Rg} {H:Hp} {x:τ} {v:Option V} {l:Lc} {us:St},rel L R0 H l us->sl F R H x v->sl F (λa=>R a\/L a) H x v
 fs:∀{F R L R0:Rg} {H:Hp} {x:PO} {v:St} {l:Lc} {us:St},rel L R0 H l us->rel F R H x v->rel F (λa=>R a\/L a) H x v
instance{Lc τ PO:Type}[Sls Lc][Ow τ][Sls PO][UH τ][Zg PO][Yl Lc]:Lb Lc τ PO:=#[λh k=>UH.fr k (Yl.ls h),λh k=>Zg.fr k (Yl.ls h)]
def QD{R L:Rg}{H:Hp}(h:∀a,¬L a):Ext (λ_=>False) R H (λa=>R a\/L a) H:=#[λ_ _ _ h=>h,λa z=>z.elim .inl λq=>hV q<|h a]
instance(priority:=high){τ PO:Type}[Ow τ][Sls PO]:Lb Unit τ PO:=#[λh k=>Ow.wk k (QD h.2),λh k=>Sls.wk k (QD h.2)]
structure Ep(F F1 F2 F3:Rg):Prop where
 all:∀a,F a↔F1 a\/F2 a\/F3 a
 IA:∀a,F1 a->F2 a->False
 J3:∀a,F1 a->F3 a->False
 J4:∀a,F2 a->F3 a->False
def KZ(X:Cx)(E:XK)(T:ci)(M:List iL){D P n B j:Type}[Sls D][Sls P][Sls n][Sls B][Sls j](k:B->j->n->D)(w:D->(P->B->j->Prop)->(ci->D->Prop)->Prop):Prop :=
 ∃t,PA X M t/\∀(d:D)(F R:Rg)(g:St)(H:Hp)(o:P->B->j->Prop)(q:ci->D->Prop)(Q:List V->Hp->Prop),v6 T F R H d g->w d o q ->
  (∀p b l m r s u L h f a,o p b l->Ch T F R H h f a->Std T h f a->Ep h s u L->rel s (Wo f L) a p (m.map some)->rel u f a b g->rel L f a l r ->
   (∀v x z A G i c e I,rel z c e I (m.map some)->rel A c e v g->rel G c e x r->Ep i z A G->rel i c e (k v x I) g)->Q m a) ->
  (∀C y J h f a,q C J->Ch T F R H h f a->v6 T h f a J g->E (.ref C) ↑y a)->t g H Q
section
variable{D:Type}[Sls D]
def uS:KZ X E T [] (λ(b:D)(_:Unit)(_:Unit)=>b) (λ(d:D)(c:Unit->D->Unit->Prop) _=>c () d ()):=by refine#[_,vk,λd F R m H c n Q s e f _=>?_];exact f () d () [] [] (λ_=>False) F (λ_=>False) F R H e 61 s.Iz #[λa=>#[λz=>.inr<|.inl z,λz=>z.elim (λq=>q.elim) λz=>z.elim id λq=>q.elim],λ_ z=>z.elim,λ_ z=>z.elim,λ_ _ z=>z] #[rfl,λ_ z=>z] s.rel #[rfl,λ_ z=>z] λo p r u v g h i w j k l t=>Sls.fq k λa=>#[λz=>(t.all a).mpr<|.inr<|.inl z,λz=>((t.all a).mp z).elim (λq=>hV q<|j.2 a) λz=>z.elim id λq=>hV q<|l.2 a]
def uU{h:List iL}{n P o B a:Type}[Rep n][Sls P][Sls o][Sls B][Sls a]{f:B->a->o->D}{I:Wf D n D}{J:D->(P->B->a->Prop)->(ci->D->Prop)->Prop}
 (Y:EW X E T e I) (Z:KZ X E T h f J) (hs:gP (e::h) X.env=(false,eval e X.env)::gP h X.env:=by rfl) :
    KZ X E T (e::h) (λ(b:B)(l:a)(p:Un×o)=>f b l p.2) (λ(d:D)(M:n×P->B->a->Prop) g=>I d (λx q=>J q (λp b l=>M (x,p) b l) g) g):=by
  refine e1a2 Y λta a1 a2=>?_
  refine e1a2 Z λtr b1 b2=>?_
  refine#[_,uZ a1 b1 hs,λd F R N H M g Q s hw kn O=>?_]
  refine a2 d F R N H _ g _ s hw (λx q u F1 R1 H1 q1 S i r1=>?_) O
  refine b2 q F1 R1 N H1 _ g _ i q1 (λp b l U us r G2 L v j m q2 W s2 t2 h1 h2 hl k=>?_) λC y d' v j m k c s'=>O C y d' v j m k (Ch.trans s i.tab S c) s'
  refine kn (x,p) b l (u::U) us r G2 L v j m q2 (Ch.trans s i.tab S W) s2 t2 #[↑u,U.map some,λ_=>False,r,rfl,two_nil r,#[λ_ z=>z,u,rfl,Rep.st (i.val W r1)<|(CJ j L m).wide λ_ z=>z.elim],h1] h2 hl λb' l' L1 L2 L3 w A G p' h3 h4 h5 t=>?_
  refine e4a4 h3 λv' aa M1 M2 z1 z2 z3 z4=>?_
  injection z1 with _ z5
  subst z5
  exact k b' l' L1 L2 L3 w A G p'.2 (Sls.fq z4<|two_eq z2 z3) h4 h5 t
def vw{o:List iL}(i:Nat){c S P w B g h:Type}[Ow c][Hs c][Sls S][Sls P][Sls w][Sls B][Sls g][Sls h]{j:B->h->w->D}{W:D->(P->B->h->Prop)->(ci->D->Prop)->Prop}
 [A0:At i D c S] [A:At i B c g] [U:Pt i g c B] (hr:KZ X E T o j W) (he:PE X (.Name x pos) (vC i):=by exact pv _) (hs:gP (.Name x pos::o) X.env=(false,eval (.Name x pos) X.env)::gP o X.env:=by rfl) :
    KZ X E T (.Name x pos::o) (λ(b:g)(l:h)(p:c×w)=>j (U.put b p.1) l p.2) (λ(d:D)(Y:c×P->g->h->Prop) y=>W d (λp b l=>Y (A.get b,p) (A.hole b) l) y):=by
  refine e1a2 hr λtr b1 b2=>?_
  refine#[_,uZ he b1 hs,λd F R σ H Y y Q s hw kn ke=>?_]
  refine e3a4 (A0.take s.rel) λv _ _ C _ G _=>?_
  obtain⟨u,rfl⟩:=Hs.has G
  refine#[u,C,b2 d F R σ H _ y _ s hw (λp b l Z us G1 G2 L F' R' H' q2 c2 s2 e h1 h2 hl k=>?_) ke]
  refine e3a4 (A.take h2) λv' I M2 z1 r z3 z4=>?_
  rw[C]at z1
  cases z1
  have m1:∀a,I a->G2 a:=λa m=>(r.all a).mpr<|.inl m
  have m2:∀a,M2 a->G2 a:=λa m=>(r.all a).mpr<|.inr m
  refine kn (A.get b,p) (A.hole b) l (u::Z) us (λa=>I a\/G1 a) M2 L F' R' H' q2 c2 s2 #[λa=>?_,λa m n=>?_,λa m n=>?_,λa m n=>e.J4 a (m2 a m) n] #[↑u,Z.map some,I,G1,rfl,#[λ_=>Iff.rfl,λa m n=>e.IA a n<|m1 a m],Ow.wk z3<|CJ R' L H',h1] z4 hl λb' l' L1 L2 L3 J M N p' h3 h4 h5 t=>?_
  · rw[e.all, r.all]
    exact#[λz=>z.elim (λq=>.inl<|.inr q) λz=>z.elim (λz=>z.elim (λq=>.inl<|.inl q) λq=>.inr<|.inl q) λq=>.inr<|.inr q,λz=>z.elim (λz=>z.elim (λq=>.inr<|.inl<|.inl q) .inl) λz=>z.elim (λq=>.inr<|.inl<|.inr q) λq=>.inr<|.inr q]
  · rcases m with m|m
    · exact r.ym a m n
    · exact e.IA a m<|m2 a n
  · rcases m with m|m
    · exact e.J4 a (m1 a m) n
    · exact e.J3 a m n
  · refine e4a4 h3 λv' aa O N2 y1 f y3 y4 => ?_
    injection y1 with y5 y6
    subst y5;subst y6
    have tt:Du (λa=>O a\/L2 a) O L2:=#[λ_=>Iff.rfl,λa m n=>t.IA a ((f.all a).mpr<|.inl m) n]
    refine k _ l' N2 (λa=>O a\/L2 a) L3 J M N p'.2 y4 (Pt.same (A:=U) h4 C tt y3) h5 #[λa=>?_,λa m n=>?_,λa m n=>t.J3 a ((f.all a).mpr<|.inr m) n,λa m n=>?_]
    · rw[t.all, f.all]
      exact#[λz=>z.elim (λz=>z.elim (λq=>.inr<|.inl<|.inl q) .inl) λz=>z.elim (λq=>.inr<|.inl<|.inr q) λq=>.inr<|.inr q,λz=>z.elim (λq=>.inl<|.inr q) λz=>z.elim (λz=>z.elim (λq=>.inl<|.inl q) λq=>.inr<|.inl q) λq=>.inr<|.inr q]
    · rcases n with n|n
      · exact f.ym a n m
      · exact t.IA a ((f.all a).mpr<|.inr m) n
    · rcases m with m|m
      · exact t.J3 a ((f.all a).mpr<|.inl m) n
      · exact t.J4 a m n
def vn{u:List iL}(i:Nat){e W P y B h j:Type}[Rep e][Sls W][Sls P][Sls y][Sls B][Sls h][Sls j]{o:B->j->y->D}{Y:D->(P->B->j->Prop)->(ci->D->Prop)->Prop}
 [A0:At i D (OL e) W] [A:At i B (OL e) h] [U:Pt i h (OL e) B] (hr:KZ X E T u o Y) (he:PE X (.Name x pos) (vC i):=by exact pv _) (hs:gP (.Name x pos::u) X.env=(false,eval (.Name x pos) X.env)::gP u X.env:=by rfl) :
    KZ X E T (.Name x pos::u) (λ(b:h)(l:OL e×j)(p:Un×y)=>o (U.put b l.1) l.2 p.2) (λ(d:D)(Z:List e×P->h->OL e×j->Prop) C=>Y d (λp b l=>Z ((A.get b).l,p) (A.hole b) (A.get b,l)) C):=by
  refine e1a2 hr λtr b1 b2=>?_
  refine#[_,uZ he b1 hs,λd F R σ H Z C Q s hw kn ke=>?_]
  obtain⟨v,_,_,G,_,⟨r,_,rfl,_⟩,_⟩:=A0.take s.rel
  refine#[_,G,b2 d F R σ H _ C _ s hw (λp b l vs us I G2 L F' R' H' q2 c2 s2 f h1 h2 hl k=>?_) ke]
  refine e3a4 (A.take h2) λv' J M2 z1 w z3 z4=>?_
  rw[G]at z1
  cases z1
  refine e2a4 (id z3) λa ws e1 e2 e3 e4=>?_
  cases e1
  have m1:∀a,J a->G2 a:=λa m=>(w.all a).mpr<|.inl m
  have m2:∀a,M2 a->G2 a:=λa m=>(w.all a).mpr<|.inr m
  refine kn ((A.get b).l,p) (A.hole b) (A.get b,l) (.ref r::vs) (↑(.ref r)::us) I M2 (λc=>J c\/L c) F' R' H' q2 c2 s2 #[λa=>?_,λa m n=>f.IA a m<|m2 a n,λa m n=>?_,λa m n=>?_] #[some<|.ref r,vs.map some,λ_=>False,I,rfl,two_nil I,#[λ_ z=>z,_,rfl,r,ws,rfl,λz=>z.2<|.inl<|(e2 r).mpr rfl,e3,wl ((CJ R' _ H').wide λ_ z=>z.elim) e4],Sls.wk h1<|UI λ_ z=>.inr z] z4 #[_,us,J,L,rfl,#[λ_=>Iff.rfl,λa m n=>f.J4 a (m1 a m) n],z3,hl] λb' l' L1 L2 L3 M N O p' h3 h4 h5 t=>?_
  · rw[f.all, w.all]
    exact#[λz=>z.elim .inl λz=>z.elim (λz=>z.elim (λq=>.inr<|.inr<|.inl q) λq=>.inr<|.inl q) λq=>.inr<|.inr<|.inr q,λz=>z.elim .inl λz=>z.elim (λq=>.inr<|.inl<|.inr q) λz=>z.elim (λq=>.inr<|.inl<|.inl q) λq=>.inr<|.inr q]
  · rcases n with n|n
    · exact f.IA a m<|m1 a n
    · exact f.J3 a m n
  · rcases n with n|n
    · exact w.ym a n m
    · exact f.J4 a (m2 a m) n
  · refine e4a4 h3 λv' aa N1 N2 y1 y2 y3 y4 => ?_
    injection y1 with _ y6
    subst y6
    refine e4a4 h5 λv2 ab S K2 x1 g x3 x4=>?_
    injection x1 with x5 x6
    subst x5;subst x6
    have tt:Du (λa=>S a\/L2 a) S L2:=#[λ_=>Iff.rfl,λa m n=>t.J4 a n<|(g.all a).mpr<|.inl m]
    refine k _ l'.2 L1 (λa=>S a\/L2 a) K2 M N O p'.2 (Sls.fq y4<|two_eq y2 y3) (Pt.same (A:=U) h4 G tt x3) x4 ⟨λa=>?_,λa m n=>?_,λa m n=>t.J3 a m<|(g.all a).mpr<|.inr n,λa m n=>?_⟩
    · rw[t.all, g.all]
      exact#[λz=>z.elim .inl λz=>z.elim (λq=>.inr<|.inl<|.inr q) λz=>z.elim (λq=>.inr<|.inl<|.inl q) λq=>.inr<|.inr q,λz=>z.elim .inl λz=>z.elim (λz=>z.elim (λq=>.inr<|.inr<|.inl q) λq=>.inr<|.inl q) λq=>.inr<|.inr<|.inr q]
    · rcases n with n|n
      · exact t.J3 a m<|(g.all a).mpr<|.inl n
      · exact t.IA a m n
    · rcases m with m|m
      · exact g.ym a m n
      · exact t.J4 a m<|(g.all a).mpr<|.inr n
def Er{P J B Lc M:Type}[Sls P][Sls J][Sls B][Sls Lc][Ow M][Lb Lc M J]{mrg:B->Lc->J->D}{wf:Wf P M J}{F R F1 F2 L:Rg}{H:Hp}{b:B}{l:Lc}{p:P}{σ:St}{vs:List V}{us:St}{Kn:M->D->Prop}{Ke:ci->D->Prop}{Q:VK}
  (s:Std T F R H) (t:Ep F F1 F2 L) (hp:rel F1 (Wo R L) H p (vs.map some)) (hb:rel F2 R H b σ) (hl:rel L R H l us) (km:∀b' l' G1 G2 G3 W u w r,rel G1 u w r (vs.map some)->rel G2 u w b' σ->rel G3 u w l' us->Ep W G1 G2 G3->rel W u w (mrg b' l' r) σ)
  (hw:wf p (λx r=>Kn x<|mrg b l r) (λC r=>Ke C<|mrg b l r))
  (kn:∀x X v M1 N i d,Kn x X->Ch T F R H (λa=>M1 a\/N a) i d->v6 T N i d X σ->Nw T M1 N i d x v->Q v d)
  (ke:∀C y X Y i d,Ke C X->Ch T F R H Y i d->v6 T Y i d X σ->E (.ref C) ↑y d):yu T wf vs H Q E:=by
 have O:∀a,F1 a->F a:=λa h=>(t.all a).mpr<|.inl h;have S:∀a,F2 a->F a:=λa h=>(t.all a).mpr<|.inr<|.inl h;have k:∀a,L a->F a:=λa h=>(t.all a).mpr<|.inr<|.inr h;have s1:v6 T F1 (Wo R L) H p (vs.map some):=⟨hp,λa h=>#[s.sub a<|O a h,λz=>t.J3 a h z],λa h=>s.xk a h.1,s.tab,#[s.vN,λz=>s.vE<|k T z],λh=>s.vE<|O T h⟩
 -- the region aa it: Z the ab left and Z ah ag
 have ex:∀{G i:Rg} {d:Hp},Ch T F1 (Wo R L) H G i d->Ext (λa=>F1 a\/a=T) R H (λa=>i a\/L a) d:=λc=>#[λb o n h=>c.keep b o (λz=>n<|.inl z) (λz=>n<|.inr z) h,λa h=>h.elim (λz=>(c.Ae a z).elim (λq=>.inl q.1) .inr) λz=>.inl<|s.sub a<|k a z];have gs:∀a,(F1 a\/a=T)->R a:=λa h=>h.elim (λz=>s.sub a<|O a z) λq=>by rw[q];exact s.vN
 have fr:∀{G i:Rg} {d:Hp},Ch T F1 (Wo R L) H G i d->rel F2 (λa=>i a\/L a) d b σ:=λc=>Sls.st hb (ex c) gs λa h z=>z.elim (λq=>t.IA a q h) λq=>s.vE (by rw[<- q];exact S a h);have A:∀{G i:Rg} {d:Hp},Ch T F1 (Wo R L) H G i d->rel L (λa=>i a\/L a) d l us:=λc=>Sls.st hl (ex c) gs λa h z=>z.elim (λq=>t.J3 a q h) λq=>s.vE (by rw[<- q];exact k a h)
 have nF:∀{G i:Rg} {d:Hp},Ch T F1 (Wo R L) H G i d->∀a,G a->F2 a\/L a->False:=λc a g f=>by
  rcases c.yr a g with q|q
  ·exact f.elim (t.IA a q)<|t.J3 a q
  ·exact s.xk a (s.sub a<|f.elim (S a)<|k a) q
 have nR:∀{G i:Rg} {d:Hp},Ch T F1 (Wo R L) H G i d->∀a,L a->¬i a:=λc a h z=>by
  rcases c.Ae a z with q|q
  ·exact q.2 h
  ·exact s.xk a (s.sub a<|k a h) q
 have ch:∀{G i:Rg} {d:Hp},Ch T F1 (Wo R L) H G i d->Ch T F R H (λa=>G a\/F2 a\/L a) (λa=>i a\/L a) d:=λc=>#[λb o n m h=>c.keep b o (λz=>n<|O b z) m h,(ex c).new,λa h=>h.elim (λq=>(c.yr a q).elim (λz=>.inl<|O a z) .inr) λq=>.inl<|q.elim (S a)<|k a,λa h n=>.inl<|c.left a ⟨h,λz=>n<|k a z⟩ λz=>n<|O a z];have ae:∀{G i:Rg} {d:Hp},Ch T F1 (Wo R L) H G i d->∀a,F2 a->i a:=λc a f=>c.left a #[s.sub a<|S a f,λz=>t.J4 a f z] λz=>t.IA a z f
 have af:∀{G i:Rg} {d:Hp},Ch T F1 (Wo R L) H G i d->(∀a,i a->d a≠none)->∀a,i a\/L a->d a≠none:=λc h a z=>z.elim (h a) λq=>by
  cases e:H a with
  |none=>exact hV e<|s.xk a<|s.sub a<|k a q
  |some o=>rw[c.keep a o (λz=>t.J3 a z q) (λz=>s.vE<|by rw[<- z];exact k a q) e];simp
 refine#[F1,Wo R L,p,_,_,s1,hw,λx r v M1 N i d q c j n=>?_,λC y r Y i d q c j=>?_]
 ·have U:=nF c;have kl:=A c;have I:=ch c;refine kn x _ v M1 (λa=>N a\/F2 a\/L a) (λa=>i a\/L a) d q #[I.keep,I.Ae,λa h=>I.yr a<|h.elim (λz=>.inl<|.inl z) λz=>z.elim (λq=>.inl<|.inr q) .inr,I.left] ⟨km b l N F2 L _ _ d r (Lb.fs M kl j.rel) (fr c) (A c) ⟨λ_=>Iff.rfl,λa m f=>U a (.inr m)<|.inl f,λa m f=>U a (.inr m)<|.inr f,t.J4⟩,λa h=>h.elim (λz=>.inl<|j.sub a z) λz=>z.elim (λq=>.inl<|ae c a q) .inr,af c j.xk,j.tab,.inl j.vN,λh=>h.elim j.vE λz=>z.elim (λq=>s.vE<|S T q) λq=>s.vE<|k T q⟩ ⟨Lb.fr J kl n.is,λa m=>.inl<|n.sub a m,λa m z=>z.elim (n.ym a m) λz=>U a (.inl m) z,n.tab⟩
 ·have U:=nF c;have kl:=A c;exact ke C y _ (λa=>Y a\/F2 a\/L a) (λa=>i a\/L a) d q (ch c) #[km b l Y F2 L _ _ d r (Lb.fs M kl j.rel) (fr c) (A c) #[λ_=>Iff.rfl,λa m f=>U a m<|.inl f,λa m f=>U a m<|.inr f,t.J4],λa h=>h.elim (λz=>.inl<|j.sub a z) λz=>z.elim (λq=>.inl<|ae c a q) .inr,af c j.xk,j.tab,.inl j.vN,λh=>h.elim j.vE λz=>z.elim (λq=>s.vE<|S T q) λq=>s.vE<|k T q]
def QE{P j B o:Type}[Sls P][Sls j][Sls B][Ow o]{mrg:B->j->D}{wf:Wf P o j}{F R F1 F2:Rg}{H:Hp}{b:B}{p:P}{σ:St}{r:List V}{Kn:o->D->Prop}{Ke:ci->D->Prop}{Q:VK}
  (s:Std T F R H) (t:Du F F1 F2) (I:rel F1 R H p (r.map some)) (J:rel F2 R H b σ) (M:∀k m n e c d f,rel m c d f (r.map some)->rel n c d k σ->Du e m n->rel e c d (mrg k f) σ)
  (hw:wf p (λx f=>Kn x<|mrg b f) (λC f=>Ke C<|mrg b f))
  (N:∀x i v w u h g,Kn x i->Ch T F R H (λa=>w a\/u a) h g->v6 T u h g i σ->Nw T w u h g x v->Q v g)
  (O:∀C y i A h g,Ke C i->Ch T F R H A h g->v6 T A h g i σ->E (.ref C) ↑y g):yu T wf r H Q E :=
 Er (Lc:=Unit) (L:=λ_=>False) (l:=()) (us:=[]) (mrg:=λb _ p=>mrg b p) s #[λa=>(t.all a).trans #[λz=>z.elim .inl λq=>.inr<|.inl q,λz=>z.elim .inl λq=>q.elim .inr iC],t.ym,λ_ _ z=>z,λ_ _ z=>z] (Sls.wk I<|CJ _ _ _) J ⟨rfl,λ_ z=>z⟩
  (λk _ m n X e c d f S U W G=>M k m n e c d f S U #[λa=>(G.all a).trans #[λz=>z.elim .inl λq=>q.elim .inr λq=>hV q<|W.2 a,λz=>z.elim .inl λq=>.inr<|.inl q],G.IA]) hw N O
def BN{P j B o r:Type}[Sls P][Sls j][Sls B][Sls o][Ow r][Lb o r j]{a:B->o->j->D}{Y:Wf P r j}{Z:D->(P->B->o->Prop)->(ci->D->Prop)->Prop}{k:Nat}{ps:List Str}{m:List iL}
 (F:vD X.prog X.w X.K X.mg X.base (vL X.prog X.w) k f fd ps (yu T Y)) (hr:ww k X.A) (hg:Gl X x) (hm:X.mg x=↑(.ref f)) (hk:jh X.K (.ref f)=true) (hb:Binds X.K fd ps []) (hx:Passes (vL X.prog X.w) X E)
 (ha:KZ X E T (e::m) a Z) (z:(x==("__debug__":Str))=false:=by decide) (he:gP (e::m) X.env=(false,eval e X.env)::gP m X.env:=by rfl) (I:(jm pos<|gP m X.env).any (·.1)=false:=by rfl) :
    EO X E T (.Call (.Name x p) (e::m) [] pos) (λ(d:D)(Kn:r->D->Prop) u=>Z d (λp b l=>Y p (λx J=>Kn x<|a b l J)<|λC J=>u C<|a b l J) u):=by
  refine e1a2 ha λt a1 a2=>?_
  refine#[_,T7 F hr hg hm hk hb .nil hx a1 z he I,λd F' R σ H Kn u Q s hw kn ke=>?_]
  refine a2 d F' R σ H _ u _ s hw (λp b l vs us F1 F2 L G R' H' q c M tw h1 h2 h3 km=>?_) ke
  rw[kH]
  exact Er M tw h1 h2 h3 km q (λx N v M1 M2 g h O S i n=>kn x N v M1 M2 g h O (Ch.trans s M.tab c S) i n) λC y N U g h O S i=>ke C y N U g h O (Ch.trans s M.tab c S) i
class Obj(τ:Type)[Ow τ](K:gO)(C:ci)(m:Str):Prop where
 ob:∀{F R:Rg} {H:Hp} {x:τ} {v:V},sl F R H x ↑v->∃a dx fs,v=.ref a/\H a=↑(.ins C dx fs)/\fs.lookup m=none
end
section
variable{D PO τ:Type}[Sls D][Sls PO][Ow τ]{α:Type}[Rep α]
def zy{F:Rg}:Ext (λc=>c=a) R H R (upd H a o):=#[λb u n h=>by rw[uR n];exact h,λ_ h=>.inl h]
def BO{i:Nat}{D0:Type}[Sls D0][A:At i D (OL α) D0][U:Pt i D0 (OL α) D]{F R:Rg}{H:Hp}{d:D}{σ:St}(s:v6 T F R H d σ):∃a vs,σ[i]?=↑(some<|.ref a)/\H a=↑(.lst vs)/\Paired (rp R H) (A.get d).l vs /\
  ∀(ys:List α)(us:List V),Paired (rp R H) ys us->Ch T F R H F R (upd H a<|.lst us)/\v6 T F R (upd H a<|.lst us) (U.put (A.hole d) #[ys]) σ:=by
 obtain⟨v,F1,F2,h1,h2,⟨a,vs,rfl,h4,h5,h6⟩,h7⟩:=A.take s.rel;have aF:F a:=(h2.all a).mpr<|.inl<|(h4 a).mpr rfl;have aT:a≠T:=λz=>s.vE (by rw[<- z];exact aF);refine#[a,vs,h1,h5,h6,λys us hp=>?_];have ex:=zy (F:=F) (R:=R) (H:=H) (a:=a) (o:=.lst us);have gs:∀c,c=a->R c:=λc z=>by rw[z];exact s.sub a aF
 have k:∀b u,b≠a->H b=↑u->upd H a (.lst us) b=↑u:=λb u z e=>by rw[uR z];exact e
 refine#[#[λb o n _ e=>k b o (λz=>n<|by rw[z];exact aF) e,λ_ h=>.inl h,λ_ h=>.inl h,λ_ h _=>h],Pt.same (A:=U) (Sls.st h7 ex gs λc z q=>h2.ym c ((h4 c).mpr q) z) h1 h2 #[a,us,rfl,h4,uV,wl (ex.wide gs) hp],s.sub,λc z=>?_,?_,s.vN,s.vE]
 ·by_cases e:c=a
  ·rw[e,uV];simp
  ·rw[uR e];exact s.xk c z
 ·refine e1a2 s.tab λps e t=>?_;exact#[ps,k _ _ (λz=>aT z.symm) e,t]
def wu{x:Str}{e:iL}(i:Nat){p1 p2 p3:Pos}{D0:Type}[Sls D0][A:At i D (OL α) D0][U:Pt i D0 (OL α) D][J:Pj D PO n]{we:Wf D α D}(h:EW X E T e we)
  (hb:∀{t:TA},PA X [e] t->PS X (.Expr (.Call (.Attribute (.Name x p1) "append" p2) [e] [] p3) pos) (IM<|tBM X.K "list" MJ (vC i) t):=by exact λh=>Bx<|WD mh PySem.F.slot_list_append PySem.F.type_list_append NU (pv _) h) (hs:gP [e] X.env=(false,eval e X.env)::gP [] X.env:=by rfl) :
  S1 X E T ms n (.Expr (.Call (.Attribute (.Name x p1) "append" p2) [e] [] p3) pos) (λ(d:D)(Kn:D->Prop)(Kr:τ->PO->Prop) Ke=>we d (λy d'=>(A.get d').l.length<gS/\Kn (U.put (A.hole d') #[(A.get d').l++[y]])) λC d'=>Ke C<|J.pj d'):=by
 refine e1a2 h λt h1 h2=>?_;refine#[_,hb<|uZ h1 vk hs,λd F R σ H Kn Kr Ke En s hw kn kr ke=>?_];refine e2a4 (BO (i:=i) s) λa vs g1 g2 g3 _=>?_;refine#[_,g1,.inl #[rfl,vs,wo.of g2],h2 d F R σ H _ _ _ s hw (λy d' v F' R' H' q c s' r=>?_) λC y d' F' R' H' q c s'=>?_]
 ·refine e2a4 (BO (i:=i) s') λa' UJ k1 k2 k3 k4=>?_;rw[g1]at k1;cases k1;obtain⟨c2,s2⟩:=k4 _ _<|xU k3<|.cons r .nil;exact#[a,UJ,v,rfl,rfl,k2,by rw[<- Paired.length k3];exact q.1,kn _ F' R' _ σ q.2 (Ch.trans s s'.tab c c2) s2<|Ag.refl _ _]
 ·refine e1a2 (wH (PO:=PO) s') λG g1 g2=>?_;exact ke C y _ G R' H' q (c.less g1) g2
end
def GW(X:Cx)(T:ci)(ms:List Nat)(tg:iL){D D1 α:Type}[Sls D][Sls D1][Rep α](g:D->α->D1):Prop :=
 ∃t,PG X tg t/\∀(d:D)(F R:Rg)(σ:St)(H:Hp)(x:α)(v:V)(Q:St->Hp->Prop),v6 T F R H d σ->rp R H x v->(∀F' σ',(∀a,F' a->F a)->v6 T F' R H (g d x) σ'->Ag ms σ σ'->Q σ' H)->t v σ H Q
section
variable{D:Type}[Sls D]{α β:Type}[Rep α][Rep β]
def K3{i:Nat}{τ0 D0 D1:Type}[Ow τ0][Sls D0][Sls D1][A:At i D τ0 D0][U:Pt i D0 α D1]{F R:Rg}{H:Hp}{d:D}{σ:St}{x:α}{v:V}(s:v6 T F R H d σ)(r:rp R H x v) :
  ∃F',(∀a,F' a->F a)/\v6 T F' R H (U.put (A.hole d) x) (σ.set i<|↑v):=by
 have m:Nw T (λ_=>False) F R H x v:=#[#[λ_ z=>z,v,rfl,r],λ_ z=>z.elim,λ_ z=>z.elim,λz=>z];refine e1a2 (Gd (i:=i) s m) λG g1 g2=>?_;exact#[G,λa h=>(g1 a h).elim (λz=>z.elim) id,g2]
def vr{x:Str}(i:Nat){τ0 D0 D1:Type}[Ow τ0][Sls D0][Sls D1][A:At i D τ0 D0][U:Pt i D0 α D1](hp:PG X (.Name x pos) (C6 i))(hm:i∉ms:=by decide):GW X T ms (.Name x pos) (λ(d:D)(x:α)=>U.put (A.hole d) x) :=
 #[_,hp,λd F R σ H x v Q s r k=>by
  refine e1a2 (K3 (i:=i) s r) λF' f1 f2=>?_
  exact k F' _ f1 f2 (Ag.set hm)]
def BP(i j:Nat)[Ow b][Ow c][Sls e][Sls f][Sls g][Sls m][A:At i D b e][U:Pt i e α f][n:At j f c g][o:Pt j g β m](p:PG X q (Xm X.K 2<|FR (C6 i)<|FR (C6 j) Xl))(t:i∉l)(y:j∉l) :
  GW X T l q (λ(d:D)(x:α×β)=>o.put (n.hole<|U.put (A.hole d) x.1) x.2) :=
 #[_,p,λd F R M H x v Q s r k=>by
  obtain⟨a,u,w,rfl,_,z,B,C⟩:=r;refine e1a2 (K3 (i:=i) s B) λN E G=>?_;refine e1a2 (K3 (i:=j) G C) λI J L=>?_
  exact#[a,[u,w],rfl,yZ.of z,rfl,u,[w],rfl,w,[],rfl,rfl,k I _ (λa h=>E a (J a h)) L ((Ag.set t).trans (Ag.set y))]]
end
structure Zh{α:Type}[Rep α](J:It)(xs:List α)(Ps:Rg->Hp->Prop):Prop where
 go:∀{R:Rg} {H:Hp} {i:Nat},Ps R H->i<xs.length->J.go i H
 Iy:∀{R:Rg} {H:Hp} {i:Nat} {v:V} {H':Hp},Ps R H->(∀a,R a->H a≠none)->i<xs.length->J.Iy i H v H'->(H'=H\/∃p o,H p=none/\H'=upd H p o)/\∃x,xs[i]?=↑x/\rp R H' x v
 stop:∀{R:Rg} {H:Hp},Ps R H->J.stop xs.length H
def IW(X:Cx)(E:XK)(T:ci)(O:List Nat)(P e:iL){D B o:Type}[Sls D][Sls B][Rep o](k:B->List o->D)(w:D->(List o->B->Prop)->(ci->D->Prop)->Prop):Prop :=
 ∃t,PI X P e t/\∀(d:D)(F R:Rg)(l:St)(H:Hp)(s:List o->B->Prop)(u:ci->D->Prop)(v:It->Hp->Prop),v6 T F R H d l->w d s u ->
  (∀p b J m j q x f c,s p b->Ch T F R H j f c->Std T j f c->Du j q x->rel x f c b l->Zh J p m->m f c ->
   (∀{G r z:Rg} {A I:Hp},m r A->(∀a,G a->r a)->(∀a,q a->¬G a)->Ext G r A z I->m z I) ->
   (∀L M n g h i,m g h->rel M g h L i->Ag O l i->Du n q M->rel n g h (k L p) i)->v J c) ->
  (∀C y N j f c,u C N->Ch T F R H j f c->v6 T j f c N l->E (.ref C) ↑y c)->t l H v
section
variable{D:Type}[Sls D]{α β:Type}[Rep α][Rep β]
def BQ{K:gO}{xs:List α}{vs:List V}:Zh (Zc K a) xs (λR H=>H a=↑(.lst vs)/\Paired (rp R H) xs vs) where
 go:=λ{R H i} p h=>by refine e1a2 (wV (i:=i) (x:=xs[i]) p.2<|by simp[h]) λv e _=>?_;exact#[vs,v,wo.of p.1,e]
 Iy:=λ{R H i v H'} p _ hi y=>by obtain⟨e,y⟩:=y;subst e;have y':=y vs<|wo.of p.1;refine e1a2 (wV (i:=i) (x:=xs[i]) p.2<|by simp[hi]) λu e r=>?_;rw[y']at e;cases e;exact#[.inl rfl,_,by simp[hi],r]
 stop:=λ{R H} p=>#[vs,wo.of p.1,by rw[Paired.length p.2];exact gQ _]
def wd{w:Wf D (List α) D}(h:EW X E T e w):IW X E T is tg e (λ(b:D)(_:List α)=>b) w:=by refine e1a2 h λt h1 h2=>?_;refine#[_,GB h1,λd F R σ H Kn Ke Rk s hw kn ke=>h2 d F R σ H _ _ _ s hw (λxs d' v F' R' H' q c s' r=>?_) ke];obtain⟨a,vs,rfl,r1,r2,r3⟩:=r;refine#[a,rfl,#[vs,wo.of r2],kn xs d' _ (λR H=>(H a=↑(.lst vs)/\Paired (rp R H) xs vs)/\¬R a) F' (λ_=>False) F' R' H' q c s'.Iz (two_nil F') s'.rel #[λp=>BQ.go p.1,λp=>BQ.Iy p.1,λp=>BQ.stop p.1] #[#[r2,r3],r1] (λp gs nf ex=>?_) λb' G2 WQ J2 QA σ' p h g t=>Sls.fq h<|two_eq t λ_ z=>z];have na:¬_:=λz=>p.2<|gs a z;exact#[#[ex.keep a _ na p.1.1,wl (ex.wide gs) p.1.2],ex.not p.2 p.1.1]
def K4{x:Str}(i:Nat){B:Type}[Sls B][A:At i D (OL α) B][U:Pt i B (OL α) D](hn:PE X (.Name x pos) (vC i))(hi:i∈is):IW X E T is tg (.Name x pos) (λ(b:B)(xs:List α)=>U.put b #[xs]) (λ(d:D)(Kn:List α->B->Prop) _=>Kn (A.get d).l<|A.hole d):=by refine⟨_,GB hn,λd F R σ H Kn Ke Rk s hw kn ke=>?_⟩;obtain⟨v,F1,F2,h1,h2,⟨a,vs,rfl,h4,h5,h6⟩,h7⟩:=A.take s.rel;refine#[_,h1,a,rfl,#[vs,wo.of h5],kn _ _ _ (λR H=>H a=↑(.lst vs)/\Paired (rp R H) (A.get d).l vs) F F1 F2 R H hw 61 s.Iz h2 h7 BQ #[h5,h6] (λp gs nf ex=>#[ex.keep a _ (nf a<|(h4 a).mpr rfl) p.1,wl (ex.wide gs) p.2]) λb' G2 WQ J2 QA σ' p h g t=>?_];exact Pt.same (A:=U) h (by rw[g.2 i hi];exact h1) t #[a,vs,rfl,h4,p.1,p.2]
noncomputable def yL(a b:Int):List Int:=(ik (b-a).toNat).map λ(i:Nat)=>a+(i:Int)
def wO(a b:Int):(yL a b).length=(b-a).toNat:=by unfold yL;rw[gV,lx]
def UK{a b:Int}{i:Nat}(h:i<(b-a).toNat):(yL a b)[i]?=↑(a+(i:Int)):=by unfold yL;rw[jE,tV h];rfl
def Ge{lo hi:Int}:Zh (Xq lo (hi-lo).toNat) (yL lo hi) (λ_ _=>True) where
 go:=λ{R H i} _ h=>by rw[wO]at h;exact h
 Iy:=λ{R H i v H'} _ _ hi y=>by obtain⟨e,y⟩:=y;subst e y;rw[wO]at hi;exact#[.inl rfl,_,UK hi,rfl]
 stop:=λ{R H} _=>by rw[wO];exact gQ _
def xm(n:Gl X "range")(o:X.mg "range"=none)(u:EW X E T a w)(x:gP [a] X.env=(false,eval a X.env)::gP [] X.env:=by rfl)(e:gP [a] X.env=[(false,eval a X.env)]:=by rfl) :
  IW X E T is Q (.Call (.Name "range" p) [a] [] pos) (λ(b:D)(_:List Int)=>b) (λ(d:D) k l=>w d (λj f=>(-(2 ^ 62)<=j/\j<2 ^ 62)/\k (yL 0 j) f) l):=by
 refine e1a2 u λt y A=>?_;refine#[_,NK n o (uZ y vk x) e,λd F R B H k l S s C G I=>A d F R B H _ _ _ s C (λj f v i J L q c m r=>?_) I];subst r;refine#[j,rfl,q.1.1,q.1.2,?_];have:=G (yL 0 j) f (Xq 0 (j-0).toNat) (λ_ _=>True) i (λ_=>False) i J L q.2 c m.Iz (two_nil i) m.rel Ge trivial (λ_ _ _ _=>trivial) λU W M N O P p h g t=>Sls.fq h<|two_eq t λ_ z=>z;rw[Int.sub_zero]at this;exact this
def Ol(hg:Gl X "range")(hm:X.mg "range"=none)(N:EW X E T a O)(P:EW X E T b Q)(m:∀{G:TA},PA X [a,b] G->PI X S (.Call (.Name "range" p) [a,b] [] pos) (Ww G))
 (U:gP [a,b] X.env=(false,eval a X.env)::gP [b] X.env:=by rfl) (n:gP [b] X.env=(false,eval b X.env)::gP [] X.env:=by rfl) :
    IW X E T is S (.Call (.Name "range" p) [a,b] [] pos) (λ(b:D)(_:List Int)=>b) (λ(d:D) I o=>O d (λi w=>Q w (λj e=>(-(2 ^ 62)<=i/\i<2 ^ 62/\-(2 ^ 62)<=j/\j<2 ^ 62)/\I (yL i j) e) o) o):=by
  obtain⟨t,W,Y⟩:=N
  obtain⟨tb,Z,b2⟩:=P
  refine#[_,m<|uZ W (uZ Z vk n) U,λd F R J H I o Rk s hw kn L=>Y d F R J H _ _ _ s hw (λi w u F1 R1 H1 q1 M x r1=>?_) L]
  refine b2 w F1 R1 J H1 _ _ _ x q1 (λj e v f A B q c l r=>?_) λC y e f A B k c l=>L C y e f A B k (Ch.trans s x.tab M c) l
  subst r;subst r1
  exact#[i,j,rfl,q.1,kn (yL i j) e (Xq i (j-i).toNat) (λ_ _=>True) f (λ_=>False) f A B q.2 (Ch.trans s x.tab M c) l.Iz (two_nil f) l.rel Ge trivial (λ_ _ _ _=>trivial) λb' G2 aa ab ae af p h g t=>Sls.fq h<|two_eq t λ_ z=>z]
end
def G6{α B PO τ:Type}(b:α->B->(B->Prop)->(τ->PO->Prop)->(ci->PO->Prop)->Prop):List α->B->(B->Prop)->(τ->PO->Prop)->(ci->PO->Prop)->Prop
 | [],d,Kn,_,_=>Kn d
 |x::xs,d,Kn,Kr,Ke=>b x d (λd'=>G6 b xs d' Kn Kr Ke) Kr Ke
section
variable{D B D1 D2 PO τ α:Type}[Sls D][Sls B][Sls D1][Sls D2][Sls PO][Ow τ][Rep α]
def Ch.big(c:Ch T F R H d e f)(g:∀a,F a->G a):Ch T G R H d e f:=#[λb o n m h=>c.keep b o (λz=>n<|g b z) m h,c.Ae,λa h=>(c.yr a h).elim (λz=>.inl<|g a z) .inr,λa h n=>c.left a h λz=>n<|g a z]
def Ch.QF(t:Du F F1 d)(c:Ch T d R H e f g):Ch T F R H (λa=>F1 a\/e a) f g:=#[λb o n m h=>c.keep b o (λz=>n<|(t.all b).mpr<|.inr z) m h,c.Ae,λa h=>h.elim (λz=>.inl<|(t.all a).mpr<|.inl z) λz=>(c.yr a z).elim (λz=>.inl<|(t.all a).mpr<|.inr z) .inr,λa h n=>c.left a h λz=>n<|(t.all a).mpr<|.inr z]
def Ch.trans'{j:Rg}{i k:Hp}(s:Std T F R H)(m:TabAt i T)(a:Ch T F R H l p i)(b:Ch T l p i r j k):Ch T F R H r j k:=by
 have f:∀c,¬F c->H c≠none->¬l c:=λc n h z=>by
  rcases a.yr c z with q|q
  ·exact n q
  ·exact h q
 have d:∀c,i c=none->¬(F c)->H c=none:=λc h n=>by
  cases e:H c with
  |none=>rfl
  |some o =>
   have u:c≠T:=λz=>by rw[z]at h;exact zd m h
   rw[a.keep c o n u e]at h;cases h
 refine#[λc o n t h=>b.keep c o (f c n<|by rw[h];simp) t<|a.keep c o n t h,λc h=>?_,λc h=>?_,λc h n=>b.left c (a.left c h n)<|f c n<|s.xk c h]
 ·rcases b.Ae c h with q|q
  ·exact a.Ae c q
  ·by_cases g:F c
   ·exact .inl<|s.sub c g
   ·exact .inr<|d c q g
 ·rcases b.yr c h with q|q
  ·exact a.yr c q
  ·by_cases g:F c
   ·exact .inl g
   ·exact .inr<|d c q g
def drop_cons{α:Type}{a:List α}{i:Nat}{x:α}(h:a[i]?=↑x):a.drop i=x::a.drop (i+1):=by have b:=(List.getElem?_eq_some_iff.mp h);rw[n9 b.1,b.2]
def Ag.sub(a:Ag c d b)(h:∀i∈e,i∈c):Ag e d b:=#[a.1,λi f=>a.2 i<|h i f]
def wI{I:B->List α->D}{wi:D->(List α->B->Prop)->(ci->D->Prop)->Prop}{g:B->α->D1}{wb:D1->(D2->Prop)->(τ->PO->Prop)->(ci->PO->Prop)->Prop}[Gf:Fg D2 B][J:Pj D PO n](dp:TN PO ms n)(hp:rL 23 X.A X.env X.xe)(hc:X.calm=true)
 (hi:IW X E T is tg iter I wi) (hg:GW X T mb tg g) (hb:SW X E T mb n body wb) (h1:∀i∈ms,i∈mb) (h2:∀i∈is,i∈mb) (hs:∀x,kh iter X.env x=pure x:=by intro _;rfl) :
    S1 X E T ms n (.For tg iter body [] pos) (λ(d:D)(Kn:D->Prop)(S:τ->PO->Prop) P=>wi d (λQ b=>G6 (λx b U S P=>wb (g b x) (λd2=>U<|Gf.fg d2) S P) Q b (λb'=>Kn<|I b' Q) S P) λC d'=>P C<|J.pj d'):=by
  refine e1a2 hi λti i1 i2=>?_
  refine e1a2 hg λar g1 g2=>?_
  refine e1a2 hb λtb Y b2=>?_
  refine#[_,Pr hp hc i1 g1 Y hs,λd F R σ H Kn S P En s hw kn kr ke=>?_]
  refine i2 d F R σ H _ _ _ s hw (λQ b Jt Ps F' Z F2 R' H' q c s' tw hr ip ps pk pb=>?_) λC y d' F' R' H' q c s'=>?_
  · -- the ao
    refine#[λi m l N=>m=Q.length-i/\i<=Q.length/\∃Y G r j,Ch T F' R' H' G j N/\Std T G j N/\Du G Z r/\rel r j N Y l/\Ps j N/\Ag mb σ l/\G6 (λx b U S P=>wb (g b x) (λd2=>U (Gf.fg d2)) S P) (Q.drop i) Y (λb'=>Kn (I b' Q)) S P,
      #[_,rfl,i9 _,b,F',F2,R',Ch.refl _ _ _ _,s',tw,hr,ps,Ag.refl _ _,q],?_]
    rintro i m l N ⟨rfl,hi,Y,G,r,j,c1,O,t1,r1,p1,a1,w1⟩
    have cc:=Ch.trans s s'.tab c c1
    by_cases ae:i<Q.length
    · refine .inr #[ip.go p1 ae, λaf L => ∃b2 G2 ah R2, Ch T F' R' H' G2 R2 L /\ Std T G2 R2 L /\ Du G2 Z ah /\ rel ah R2 L b2 af /\ Ps R2 L /\ Ag mb σ af /\ G6 (λx b U S P => wb (g b x) (λd2 => U<|Gf.fg d2) S P) (Q.drop<|i+1) b2 (λb' => Kn<|I b' Q) S P, λaf L p => #[Q.length-(i+1), by omega, rfl, ae, p], λx L y => ?_]
      obtain⟨hH,x',ex,rx⟩:=ip.Iy p1 O.xk ae y
      -- the aq ag the aa step
      have aj:Ch T G j N G j L/\Std T G j L/\rel r j L Y l/\Ps j L:=by
        rcases hH with e|⟨p,o,hp,e⟩
        · subst e; exact#[Ch.refl _ _ _ _, O, r1, p1]
        · subst e
          have k:∀b u,N b=↑u->upd N p o b=↑u:=λb u e=>by rw[uR<|vc e hp];exact e
          have ex:Ext (λ_=>False) j N j (upd N p o):=#[λb u _ e=>k b u e,λa h=>.inl h]
          refine#[#[λb u _ _ e=>k b u e,λa h=>.inl h,λa h=>.inl h,λa h _=>h],#[O.sub,λa z=>?_,?_,O.vN,O.vE],Sls.st r1 ex (λ_ z=>z.elim)<|λ_ _ z=>z,pk p1 (λ_ z=>z.elim) (λ_ _ z=>z) ex]
          · cases e : N a with
            |none=>exact hV e<|O.xk a z
            |some u=>rw[k a u e];simp
          · refine e1a2 O.tab λqs e t => ?_
            exact#[qs,k _ _ e,t]
      obtain⟨c2,M,r2,p2⟩:=aj
      have W:∀a,r a->G a:=λa h=>(t1.all a).mpr<|.inr h
      have S2:v6 T r j L Y l:=#[r2,λa h=>M.sub a<|W a h,M.xk,M.tab,M.vN,λh=>M.vE<|W T h]
      rw[drop_cons ex]at w1
      refine g2 Y r j l L x' x _ S2 rx λF3 ak f3 S3 a3=>?_
      have ai:=Ch.trans' s' O.tab c1 c2
      have ab:=Ch.trans s s'.tab c ai
      have t3:∀a,Z a->F3 a->False:=λa h k=>t1.ym a h<|f3 a k
      refine b2 _ F3 j ak L _ S P _ S3 w1 (λd2 F4 R4 H4 au q4 c4 f a4=>?_) (λx p' v M1 M2 R4 H4 q4 c4 f n4=>?_) λC y p' F4 R4 H4 q4 c4 f=>?_
      · refine e1a2 (Gf.le f.rel) λF5 f5 r5 => ?_
        have t4:∀a,Z a->F4 a->False:=λa h k=>by
          rcases c4.yr a k with z|z
          · exact t3 a h z
          · exact M.xk a (M.sub a<|(t1.all a).mpr<|.inl h) z
        have al:Ch T G j L (λa=>Z a\/F5 a) R4 H4:=(Ch.QF (F1:=Z) (F:=λa=>Z a\/F3 a) #[λ_=>Iff.rfl,t3]<|c4.less f5).big λa h=>h.elim (λz=>(t1.all a).mpr<|.inl z) λz=>W a<|f3 a z
        have an:∀a,Z a->R4 a:=λa h=>c4.left a (M.sub a<|(t1.all a).mpr<|.inl h) λz=>t3 a h z
        refine#[Gf.fg d2,λa=>Z a\/F5 a,F5,R4,Ch.trans' s' M.tab ai al,#[λa h=>h.elim (an a) λz=>f.sub a<|f5 a z,f.xk,f.tab,f.vN,λh=>h.elim (λz=>M.vE<|(t1.all T).mpr<|.inl z) λz=>f.vE<|f5 T z],⟨λ_=>Iff.rfl,λa h k=>t4 a h<|f5 a k⟩,r5,?_,(a1.trans a3).trans a4,q4]
        exact pk p2 (G:=λa=>F3 a\/a=T) (λa h=>h.elim (S3.sub a) λz=>by rw[z];exact M.vN) (λa h z=>z.elim (t3 a h) λz=>M.vE<|(t1.all T).mpr<|.inl<|by rw[<- z];exact h) c4.ext
      · refine kr x p' v M1 M2 R4 H4 q4 (Ch.trans s M.tab ab<|c4.big λa h => W a<|f3 a h) #[dp.dp ((a1.trans a3).sub h1) f.rel, f.sub, f.xk, f.tab, f.vN, f.vE] n4
      · exact ke C y p' F4 R4 H4 q4 (Ch.trans s M.tab ab<|c4.big λa h => W a<|f3 a h) #[dp.dp ((a1.trans a3).sub h1) f.rel, f.sub, f.xk, f.tab, f.vN, f.vE]
    · have e : i = Q.length := by omega
      subst e
      rw[uM]at w1
      exact .inl #[ip.stop p1,kn _ G j N l w1 cc #[pb Y r G j N l p1 r1 (a1.sub h2) t1,O.sub,O.xk,O.tab,O.vN,O.vE]<|a1.sub h1]
  · refine e1a2 (wH (PO := PO) s') λG g1 g2 => ?_
    exact ke C y _ G R' H' q (c.less g1) g2
end
end WL
namespace L2
open PySem PySem.Spec PyProof.Rows
section
variable{X:Cx}{elt iter tg:iL}{scope:l9}{cl:List (Str×ci)}{T Fr:List Str}{idx:List Nat}{wi:TI}{pos:Pos}{ifs:List iL}
def Df{pins:List (ci×Obj)}{σ:St}{s2:gW}{H2:Hp}{J:It}{fp:List ci}{it:ci}{tn:Nat->iM->Prop}{E:cr->gW->Prop}{RR:cr->ci->Result->gW->Prop}{P:List V->Hp->Prop}(hcm:X.calm=true)
  (B:yW X scope cl T Fr idx) 
  (I2:Inv X pins σ H2 s2) (Tn:Turn X.prog X.w X.K tg J fp it tn) (st2:tn 0 s2.heap) (f2:∀b∈fp,Bf X pins H2 b)
  (hb:∀s₀ H₀ C ex pn,∃(g:TG)(tt:TT)(te:TE),(PG (Fp X scope cl (T++Fr) s₀ H₀ C ex pn) tg g/\X5 (Fp X scope cl (T++Fr) s₀ H₀ C ex pn) ifs tt/\PE (Fp X scope cl (T++Fr) s₀ H₀ C ex pn) elt te)/\∃W:Nat->Nat->List V->St->Hp->Prop,(∃m,W 0 m [] (xt T idx σ) H2)/\∀i m ys σ' H,W i m ys σ' H->(J.stop i H/\P ys H)\/(J.go i H/\ys.length<gS/\∀x H',J.Iy i H x H'->g x σ' H' λYm H2=>tt Ym H2 λb H3=>if b=true then te Ym H3 λy H4=>∃m',m'<m/\W (i+1) m' (ys++[y]) Ym H4 else ∃m',m'<m/\W (i+1) m' ys Ym H3))
  (hRR:∀(D C:ci)(s':gW)(H':Hp)(ys:List V),H' D=none->P ys H'->Inv X pins σ (upd H' D<|.lst ys) s'->(∃m,s'.heap.Ns C m)->(upd H' D<|.lst ys) C=none->C≠X.env.locals->X.s₀.heap.objs.size<=C->(∀x c,X.env.cells.lookup x=↑c->c≠C)->(∀p∈X.pn++pins,p.1≠C)->RR (.ref D) C (.ok .next) s') :
  gZ 23 X.A (newList []) (λacc a2h=>gZ 23 X.A (newFunctionEnv scope X.env.globals cl [] X.env.qual none .none ↑X.env) (λcenv a2i =>
   mE 23 X.A (.compStart (.ListComp elt [#[tg,iter,ifs,0]] scope pos) 0 (.ref it) acc { cenv with scope:=oU scope X.env}) (RR acc cenv.locals) a2i) E a2h) E s2:=by
 refine iK<|wpAny_newFunctionEnv B.Bo (by intro y hy;simp at hy) (λh4 ns4 sb4=>?_) B.kind;have hk3:∀b o,s2.heap.get? b=↑o->(s2.heap.push { cls:=.type "list",dict:=none,data:=.seq ([]:List cr).toArray}).get? b=↑o:=λb o e=>ce _ e;have oD3:(s2.heap.push { cls:=.type "list",dict:=none,data:=.seq ([]:List cr).toArray}).get? ⇑s2=some { cls:=.type "list",dict:=none,data:=.seq ([]:List cr).toArray}:=hI _ rfl;have sz3:(s2.heap.push { cls:=.type "list",dict:=none,data:=.seq ([]:List cr).toArray}).objs.size=⇑s2+1:=jB _ _;generalize s2.heap.push { cls:=.type "list",dict:=none,data:=.seq ([]:List cr).toArray}=h3 at ns4 sb4 hk3 oD3 sz3 ⊢;have I3:Inv X pins σ H2 { s2 with heap:=h3}:=I2.kept (t':=s2.toks) hk3;have QG:H2 ⇑s2=none:=I2.vK.fresh<|gQ _;have Yn:∀b o,h3.get? b=some o->h4.get? b=some o:=λb o e=>sb4.extBut b o (hR<|gX e)<|ce _ e;have QH:H2 h3.objs.size=none:=I3.vK.fresh<|gQ _;have a0b:⇑s2≠h3.objs.size:=by rw[sz3];exact hR<|jw _
 -- facts about D,C,fp in X
 have fD:Bf X pins H2 ⇑s2:=I2.Gz (gQ _) QG;have fC:Bf X pins H2 h3.objs.size:=I3.Gz (gQ _) QH
 have Jo:∀b∈⇑s2::fp,Bf X pins H2 b/\b≠h3.objs.size:=λb zg=>by
  rcases List.mem_cons.mp zg with e|e
  ·subst e;exact#[fD,a0b]
  ·refine#[f2 b e,?_];obtain⟨o,ho,_⟩:=Tn.obj 0 _ st2 b e;exact hR<|gX<|hk3 b o ho
 -- the a1n context
 generalize G7:Fp X scope cl (T++Fr) { s2 with heap:=h3} H2 h3.objs.size (⇑s2::fp) (X.pn++pins)=X';obtain⟨g,tt,te,⟨hG,hT,hE⟩,W,w0,turn⟩:=hb { s2 with heap:=h3} H2 h3.objs.size (⇑s2::fp) (X.pn++pins);rw[G7]at hG hT hE
 have ok':X'.Ok:=by
  subst G7
  exact {
   mod:=I3.ok.mod
   kind:=B.kind
   glob:=I3.ok.glob
   blt:=I3.ok.blt
   above:=gQ _
   inj:=λx y c e1 e2=>I3.ok.inj x y c (B.sub x c e1)<|B.sub y c e2
   has:=λx h=>B.has h
   Pc:=λx c h=>by cases h
   hd:=I3.ok.hd
   frames:=I3.ok.frames
   Co:=.inl rfl
   TY:=λb zg=>#[(Jo b zg).2,λx c e=>(Jo b zg).1.2.2.2.2.1 x c<|B.sub x c e]
   bs:=λb o e=>I3.bs b o e
   IH:=iA I3.ok.IH I3.sz
   Dr:=λb o e zg=>by
    rcases(Jo b zg).1.2.2.2.1 with z|z
    ·exact I3.ok.Dr b o e z
    ·exact hV (ic (gX e)<|iA I3.ok.IH z)<|jQ _
   DT:=λb zg hf=>by
    rcases List.mem_cons.mp (I3.DU b hf) with z|z
    ·exact(Jo b zg).1.2.1 z
    ·exact(Jo b zg).1.2.2.1 z
   yE:=I3.stack
   J1:=λb zg=>I3.Mv b zg}
 have xA:X'.A=X.A:=by subst G7;rfl
 have xp:X'.prog=X.prog:=by subst G7;rfl
 have xw:X'.w=X.w:=by subst G7;rfl
 have xK:X'.K=X.K:=by subst G7;rfl
 have xc:X'.calm=true:=by subst G7;exact hcm
 have xe:X'.env=tm scope cl h3.objs.size X.env:=by subst G7;rfl
 have I4:Inv X' [] (xt T idx σ) H2 { s2 with heap:=h4}:=by
  have hN:X'.N=T++Fr:=by subst G7;rfl
  refine#[ok',by subst G7;rfl,I3.bare,by subst G7;exact Un.kept Yn,?_,?_,by subst G7;exact QH,?_,?_,?_,?_]
  ·obtain⟨m,hn,hl⟩:=I3.loc;refine#[_,by rw[xe];exact ns4,λi x v e1 e2 e3=>?_];rw[hN]at e1;unfold xt at e2;by_cases hi:i<T.length
   ·rw[lV (by rw[gV];exact hi),jE,jv hi]at e2;cases e2
   ·rw[jR q0a]at e1;rw[jR (by rw[gV];lia),gV,jE]at e2;obtain⟨i0,c,q1,q2,q3,q4,q5⟩:=B.fr _ x e1;rw[q1]at e2;have e2':(σ[i0]?).join=↑v:=iX e2
    have a2j:σ[i0]?=↑(some v):=by
     cases z:σ[i0]? with
     |none=>rw[z]at e2';cases e2'
     |some y=>rw[z]at e2';have:y=↑v:=e2';rw[this]
    obtain⟨u,r,l⟩:=hl i0 x v q2 a2j (by
     rcases q3 with z|z
     ·exact .inr<|.inl z
     ·exact .inr (.inr z))
    refine#[u,r,?_];rcases l with⟨k,_⟩|⟨k,c',e,z⟩
    ·rcases q3 with y|y<;>(rw[y]at k;cases k)
    ·have:=B.sub x c q4;rw[e]at this;cases this;refine .inr #[by rw[xe];exact q5,_,by rw[xe];exact q4,?_];obtain⟨o,ho,hd⟩:=z;exact#[o,Yn _ _ ho,hd]
  ·intro x c e;rw[xe]at e;obtain⟨v,o,ho,hd⟩:=I3.cell x c<|B.sub x c e;exact#[v,o,Yn _ _ ho,hd]
  ·intro x c e;rw[xe]at e;exact I3.yj x c<|B.sub x c e
  ·intro p hp;have hp':p∈X.pn++pins:=by subst G7;simpa using hp
   obtain⟨a1,a2,a3,a4,a5⟩:=I3.pin p hp';refine#[Yn _ _ a1,a2,?_,?_,a5]
   ·rw[xe];exact hR<|gX a1
   ·subst G7;intro hf;rcases List.mem_cons.mp (I3.DU _ hf) with z|z
    ·exact a3 z
    ·exact a4 z
  ·subst G7;exact I3.vK.kept Yn
  ·rw[hN];unfold xt;rw[hO,hO,gV,gV,B.len]
 have oD4:=Yn _ _ oD3;have st4:tn 0 h4:=Tn.keep _ _ _ st2 λb _ o e=>Yn b o<|hk3 b o e
 -- a2l stays true of the Yo objects and of D
 have a0c:∀{H':Hp} {pins':List (ci×Obj)},(∀p∈pins',p.1∉⇑s2::fp)->(∀b∈⇑s2::fp,H' b=none)->∀b∈⇑s2::fp,Bf X' pins' H' b:=by
  intro H' pins' hp hn b zg;subst G7;obtain⟨⟨z1,z2,z3,z4,z5,z6⟩,z7⟩:=Jo b zg;refine#[hn b zg,z7,?_,.inl zg,λx c e=>z5 x c<|B.sub x c e,λp hp'=>?_]
  ·intro hf;rcases List.mem_cons.mp (I3.DU b hf) with z|z
   ·exact z2 z
   ·exact z3 z
  ·rcases List.mem_append.mp hp' with q|q
   ·exact z6 p q
   ·intro e;exact hp p q (by rw[e];exact zg)
 -- the end
 have fin:∀(s5:gW)(Pe:St)(H5:Hp)(ys:List V)(zQ:List cr)(nD:Nat),Inv X' [] Pe H5 s5->(∀b∈⇑s2::fp,H5 b=none)->s5.heap.get? ⇑s2=some { cls:=.type "list",dict:=none,data:=.seq zQ.toArray nD}->Vals ys zQ->ys.length<=gS->P ys H5->RR (.ref ⇑s2) h3.objs.size (.ok .next) s5:=by
  intro s5 Pe H5 ys zQ nD I5 n5 oD5 v5 l5 q5;have D5:=n5 _ gR;have Yp:Un (zi X.stack) (⇑s2::fp) H2 H5 h3 s5.heap:=by have z:=I5.base;subst G7;exact z
  have C5:H5 h3.objs.size=none:=by have z:=I5.free;rw[xe]at z;exact z
  have a2m:xV X.prog X.w (upd H5 ⇑s2<|.lst ys) s5.heap:=xV.WK (by have z:=I5.vK;rw[xp,xw]at z;exact z) D5 #[l5,zQ,nD,v5,oD5]
  have u5:Un (zi X.stack) (⇑s2::fp) H2 (upd H5 ⇑s2<|.lst ys) h3 s5.heap:=by have nD':∀b u,H2 b=some u->b≠⇑s2:=λb u e=>vc e QG;exact#[Yp.keep,Yp.slot,λb o e n hx=>by rw[uR<|λz=>hx<|by rw[z];exact gR];exact Yp.free b o e n hx,Yp.there,λb xs e=>by rw[uR<|nD' b _ e];exact Yp.Bw b xs e,λb o u e=>by rw[uR<|nD' b _ e];exact Yp.Bc b o u e,λb ps e=>by rw[uR<|nD' b _ e];exact Yp.Be b ps e]
  have os5:s5.os=s2.os:=by have z:=I5.os;subst G7;exact z
  have IX:Inv X pins σ (upd H5 ⇑s2<|.lst ys) s5:=Inv.Ws (s:={ s2 with heap:=h3}) I3 os5 u5 a2m I5.bare λb zg=>by obtain⟨⟨z1,z2,z3,z4,z5,z6⟩,z7⟩:=Jo b zg;exact#[z4,z2,z5,z6]
  obtain⟨m5,ns5,_⟩:=I5.loc;rw[xe]at ns5;refine hRR ⇑s2 h3.objs.size s5 H5 ys D5 q5 IX #[m5,ns5] (by rw[uR<|Ne.symm a0b];exact C5) fC.2.1 (iA I3.sz<|gQ _) fC.2.2.2.2.1 fC.2.2.2.2.2
 obtain⟨m0,w0⟩:=w0
 have loop:mE 23 X.A (.compLoop (.ListComp elt [#[tg,iter,ifs,0]] scope pos) 0 (.ref it) (.ref ⇑s2)<|tm scope cl h3.objs.size X.env) (RR (.ref ⇑s2) h3.objs.size) { s2 with heap:=h4}:=by
  refine Qk (λn s5=>∃i ys zQ nD Pe H5,Inv X' [] Pe H5 s5/\tn i s5.heap/\(∀b∈⇑s2::fp,H5 b=none)/\s5.heap.get? ⇑s2=some { cls:=.type "list",dict:=none,data:=.seq zQ.toArray nD}/\Vals ys zQ/\ys.length<=gS/\W i n ys Pe H5) ?_ m0
   #[0,[],[],0,xt T idx σ,H2,I4,st4,λb zg=>(Jo b zg).1.1,oD4,.nil,i9 _,w0]
  rintro n s5 ⟨i,ys,zQ,nD,Pe,H5,I5,Pd,n5,oD5,v5,l5,w5⟩;have f5:=a0c (pins':=[]) (λp hp=>by cases hp) n5;rcases turn i n ys Pe H5 w5 with⟨stop,q⟩|⟨go,ll,step⟩
  ·have z:=Tn.done X' xp xw xK xc i [] s5 Pe H5 (λ_ _=>False) I5 (λb zg=>f5 b<|gU _ zg) Pd stop;rw[xA]at z
   -- D is not touched by the end
   have z2:=Tn.done X' xp xw xK xc i [(⇑s2,{ cls:=.type "list",dict:=none,data:=.seq zQ.toArray nD})] s5 Pe H5 (λ_ _=>False) (I5.zl λp hp=>by
    obtain rfl:=List.mem_singleton.mp hp;have Yq:=f5 _ gR
    exact#[oD5,Yq.1,Yq.2.1,Yq.2.2.1,λv z=>nomatch z]) (λb zg=>by
     obtain⟨a1,a2,a3,a4,a5,a6⟩:=f5 b<|gU _ zg;refine⟨a1,a2,a3,a4,a5,λp hp=>?_⟩;rcases List.mem_append.mp hp with y|y
     ·exact a6 p<|i8 _ y
     ·obtain rfl:=List.mem_singleton.mp y;intro e;obtain⟨o,ho,_⟩:=Tn.obj 0 _ st2 b zg
      exact jQ _ (ic (gX ho) (qA (show ⇑s2=b from e)))) Pd stop
   rw[xA]at z2;refine vI z2 λr s6 z9=>e0a2 z9 λhr I6=>?_;subst hr;have p6:=I6.pin _<|ig _<|List.mem_singleton.mpr rfl;exact fin s6 Pe H5 ys zQ nD (I6.zl λp hp=>by cases hp) n5 p6.1 v5 l5 q
  ·have Yq:=f5 _ gR
   have I5p:=I5.zl (pins':=[(⇑s2,{ cls:=.type "list",dict:=none,data:=.seq zQ.toArray nD})]) λp hp=>by obtain rfl:=List.mem_singleton.mp hp;exact#[oD5,Yq.1,Yq.2.1,Yq.2.2.1,λv z=>nomatch z]
   have fpD:∀b∈fp,b≠⇑s2:=λb zg=>by obtain⟨o,ho,_⟩:=Tn.obj 0 _ st2 b zg;exact hR<|gX ho
   have fpP:∀{H':Hp},(∀b∈fp,H' b=none)->∀b∈fp,Bf X' [(⇑s2,{ cls:=.type "list",dict:=none,data:=.seq zQ.toArray nD})] H' b:=by
    intro H' hn b zg;obtain⟨a1,a2,a3,a4,a5,a6⟩:=f5 b<|gU _ zg;refine⟨hn b zg,a2,a3,a4,a5,λp hp=>?_⟩;rcases List.mem_append.mp hp with y|y
    ·exact a6 p<|i8 _ y
    ·obtain rfl:=List.mem_singleton.mp y;exact Ne.symm<|fpD b zg
   have z:=Tn.item X' xp xw xK xc i _ s5 Pe H5 (λ_ _=>False) I5p (fpP λb zg=>n5 b<|gU _ zg) Pd go;rw[xA]at z;refine vI z λr s6 z9=>e1a2 z9 λu hr h6=>?_;subst hr;refine vI h6 λ_ s7 z9=>e2a5 z9 λx H7 I7 r7 y7 st7 n7=>?_;have I7':=I7.pinned (fpP n7)<|Tn.obj _ _ st7;have xx:X'.xe=λ_ _=>False:=by subst G7;rfl
   have zG:=hG _ s7 Pe H7 x u _ I7' r7<|step x H7 y7;rw[xp,xw,xA,xe,xx]at zG;refine vI zG λ_ s8 z9=>e2a2 z9 λYr H8 I8 q8=>?_;have zT:=hT _ s8 Yr H8 _ I8 q8;rw[xp,xw,xA,xe,xx]at zT;refine vI zT λok s9 z9=>e1a2 z9 λH9 I9 q9=>?_
   -- a2l holds behind the turn
   have behind:∀{H':Hp} {s':gW},Inv X' ([(⇑s2,{ cls:=.type "list",dict:=none,data:=.seq zQ.toArray nD})]++DV fp s7.heap) Yr H' s'->s'.heap.get? ⇑s2=some { cls:=.type "list",dict:=none,data:=.seq zQ.toArray nD}/\tn (i+1) s'.heap/\∀b∈⇑s2::fp,H' b=none:=by
    intro H' s' I';have pD:=I'.pin _<|ig _<|i8 _<|List.mem_singleton.mpr rfl;refine⟨pD.1,Tn.keep _ _ _ st7 λb zg o e=>(I'.pin (b,o)<|ig _<|ig _<|xE zg e).1,λb zg=>?_⟩;rcases List.mem_cons.mp zg with e|e
    ·rw[e];exact pD.2.1
    ·obtain⟨o,e',_⟩:=Tn.obj _ _ st7 b e;exact(I'.pin (b,o)<|ig _<|ig _<|xE e e').2.1
   cases ok with
   |false =>
    rw[gM g9]at q9 ⊢;obtain⟨m',hm,w'⟩:=q9;obtain⟨b1,b2,b3⟩:=behind I9;exact#[m',hm,i+1,ys,zQ,nD,Yr,H9,I9.zl (λp hp=>by cases hp),b2,b3,b1,v5,l5,w']
   |true =>
    rw[gN rfl]at q9 ⊢;have zE:=hE _ s9 Yr H9 _ I9 q9;rw[xp,xw,xA,xe,xx]at zE;refine vI zE λy s10 z9=>e2a3 z9 λyv H10 I10 r10 z69=>e1a2 z69 λm' hm w'=>?_;obtain⟨b1,b2,b3⟩:=behind I10;have hlen:=v5.length;refine wpAny_list_append_plain (items:=zQ.toArray) #[nD,b1] (λh11 a2q a0e=>?_) (by rw[hJ];lia);obtain⟨nD',o11⟩:=a2q;have a2r:Inv X' [] Yr H10 s10:=I10.zl λp hp=>by cases hp
    obtain⟨a1,a2,a3,a4,a5,a6⟩:=a0c (pins':=[]) (λp hp=>by cases hp) b3 _ gR;have I11:Inv X' [] Yr H10 { s10 with heap:=h11}:=a2r.turned (t':=s10.toks) (λb o zg e=>(a0e.2 b zg).trans e) a1 a2 a4 a5 a6;refine#[m',hm,i+1,ys++[yv],zQ++[y],nD',Yr,H10,I11,Tn.keep _ _ _ b2 λb zg o e=>(a0e.2 b<|fpD b zg).trans e,b3,by simpa using o11,v5.append<|.cons r10 .nil,by rw[hO,ii];lia,w']
 exact codeAny_compStart_list loop<|Tn.self _ 0 _ _ _ st4 loop
def Ys(X:Cx)(elt tg:iL)(ifs:List iL)(scope:l9)(cl:List (Str×ci))(T Fr:List Str)(idx:List Nat)(wi:TI):TE:=λl H Q=>wi l H λJ s=>∀a c C j k,∃(g:TG)(n:TT)(o:TE),(PG (Fp X scope cl (T++Fr) a c C j k) tg g/\X5 (Fp X scope cl (T++Fr) a c C j k) ifs n/\PE (Fp X scope cl (T++Fr) a c C j k) elt o)/\∃W:Nat->Nat->List V->St->Hp->Prop,(∃m,W 0 m [] (xt T idx l) s)/\∀i m e f H,W i m e f H ->
 (J.stop i H/\∀p,H p=none->Q (.ref p) (upd H p<|.lst e))\/(J.go i H/\e.length<gS/\∀x q,J.Iy i H x q->g x f q λd t=>n d t λb r=>if b=true then o d r λy u=>∃h,h<m/\W (i+1) h (e++[y]) d u else ∃h,h<m/\W (i+1) h e d r)
def QI(c:X.calm=true)(k:PI X tg iter wi)(B:yW X scope cl T Fr idx) 
 (l:∀x,kh iter X.env x=pure x:=by intro _;rfl):PE X (.ListComp elt [#[tg,iter,ifs,0]] scope pos) (Ys X elt tg ifs scope cl T Fr idx wi):=by
  intro a s i H Q I h
  rw[eval_ListComp]
  refine o7 (use:=none) rfl l B.Z4 B.kind B.names<|vI (k a s i H _ I h) λv Y n=>vI n λr Z t=>?_
  obtain⟨it,fp,tn,J,H2,e,u,y,d,z,E⟩:=t
  subst e
  refine Df (RR:=λf C=>compPost 23 X.A X.xe none (EP X a i Q) f C) (P:=λj H=>∀p,H p=none->Q (.ref p) (upd H p<|.lst j)) c B u y d z E ?_
  intro D C F H' j G q L ⟨m,M⟩ N O R S U
  exact#[m,M,λh' W=>#[.ref D,_,L.turned (t':=F.toks) (λb o g e=>(W.2 b g).trans e) N O (.inr R) S U,rfl,q D G]]
def UL(X:Cx)(elt tg:iL)(ifs:List iL)(scope:l9)(cl:List (Str×ci))(T Fr:List Str)(idx:List Nat)(wi:TI)(j:Nat):TS:=λD k H=>wi k H λJ t=>∀a c C l n,∃(g:TG)(o:TT)(q:TE),(PG (Fp X scope cl (T++Fr) a c C l n) tg g/\X5 (Fp X scope cl (T++Fr) a c C l n) ifs o/\PE (Fp X scope cl (T++Fr) a c C l n) elt q)/\∃W:Nat->Nat->List V->St->Hp->Prop,(∃m,W 0 m [] (xt T idx k) t)/\∀i m e f H,W i m e f H ->
 (J.stop i H/\∀p,H p=none->D.nx (k.set j<|some<|.ref p) (upd H p<|.lst e))\/(J.go i H/\e.length<gS/\∀x r,J.Iy i H x r->g x f r λd u=>o d u λb s=>if b=true then q d s λy v=>∃h,h<m/\W (i+1) h (e++[y]) d v else ∃h,h<m/\W (i+1) h e d s)
set_option tactic.hygienic true in
def QJ{j:Nat}{d:Pos}(O:X.N.Nodup)(R:X.N[j]?=↑y)(u:X.env.scope.names.lookup y=some .local)(g:jW (.ListComp elt [#[tg,iter,ifs,0]] scope pos) (some<|.Name y py) d.line X.env=pure true)
 (i:X.calm=true) (S:PI X tg iter wi) (B:yW X scope cl T Fr idx) 
 (U:∀x,kh iter X.env x=pure x:=by intro _;rfl):PS X (.Assign [.Name y py] (.ListComp elt [#[tg,iter,ifs,0]] scope pos) d) (UL X elt tg ifs scope cl T Fr idx wi j):=by
  intro c s E H D I h
  rw[exec_Assign_Name_used _ _ _ _ g]
  refine am<|nI<|am ?_
  refine am<|vI (o7 (use:=some<|sL (.Name y py) X.env) (Q:=λ_ f=>SP X c D .next f) rfl U B.Z4 B.kind B.names<|vI (S c s E H _ I h) λv s1 W=>vI W λY s2 Z=>?_) λ_ f hq=>ap<|ap hq
  obtain⟨it,fp,tn,J,H2,e,I2,Tn,k,f2,hb⟩:=Z
  subst e
  refine Df (RR:=λl C=>compPost 23 X.A X.xe (some<|sL (.Name y py) X.env) (λ_ f=>SP X c D .next f) l C) (P:=λF H=>∀p,H p=none->D.nx (E.set j<|some<|.ref p) (upd H p<|.lst F)) i B I2 Tn k f2 hb ?_
  intro G C f H' F hD q IX ⟨m,ns⟩ hC L c2 M c4
  refine wpAny_assign_Name<|FQ IX O R (.inl u) (v:=.ref G) rfl (λs3 I3 z9=>e1a2 z9 λa n ha=>?_)<|.inr u
  have r:C≠a:=by
    rcases ha with z|z
    · rw[z]; exact L
    · exact Ne.symm<|M _ _ z
  exact#[m,ns.sameBut n r,λh' sb=>#[_,_,I3.turned (t':=s3.toks) (λb o t e=>(sb.2 b t).trans e) hC L (.inr c2) M c4,q G hD]]
end
end L2
namespace WL
variable[L2.GX]
open PySem L2
open Rep (rp)
open Ow (sl)
open Sls (rel)
class Pre(k:Nat)(S:Type)[Sls S](Db:outParam Type)[Sls Db] where
 pre:S->Db
 suf:Db->S
 ok:∀{F R:Rg} {H:Hp} {s:S} {σ:St} (τ:St),τ.length=k->rel F R H s σ->rel F R H (pre s) (τ++σ)
 un:∀{F R:Rg} {H:Hp} {d:Db} {σ:St},rel F R H d σ->rel F R H (suf d) (σ.drop k)
 eta:∀d,pre (suf d)=d
 a0f:∀s,suf (pre s)=s
noncomputable instance pre0{S:Type}[Sls S]:Pre 0 S S:=#[id,id,λτ h r=>by rw[List.length_eq_zero_iff.mp h];exact r,λr=>r,λ_=>rfl,λ_=>rfl]
noncomputable instance preS{k:Nat}{S Db:Type}[Sls S][Sls Db][A:Pre k S Db]:Pre (k+1) S (Un×Db):=#[λs=>(#[],A.pre s),λd=>A.suf d.2,λ{F R H s σ} τ h r=>by
  cases τ with
  |nil=>cases h
  |cons v τ'=>exact#[v,τ'++σ,λ_=>False,F,rfl,two_nil F,λ_ z=>z,A.ok τ' (by simpa using h) r],
 λ{F R H d σ} r=>by
  obtain⟨v,σ',F1,F2,rfl,h2,h3,h4⟩:=r
  exact A.un<|Sls.fq h4<|two_eq h2 h3,
 λd=>by
  obtain⟨⟨⟩,d⟩:=d
  rw[A.eta],
 λs=>A.a0f s]
def BR{α γ S:Type}(b:α->S->(Option γ->S->Prop)->Prop):List α->S->(List γ->S->Prop)->Prop
 | [],s,K=>K [] s
 |x::xs,s,K=>b x s λo s'=>BR b xs s' λys T9=>K (o.toList++ys) T9
def TWs(X:Cx)(T:ci)(a:List iL){D:Type}[Sls D](w:Wf D Bool D):Prop :=
 ∃t,X5 X a t/\∀(d:D)(F R:Rg)(b:St)(H:Hp)(e:Bool->D->Prop)(Q:Bool->Hp->Prop),v6 T F R H d b->w d e (λ_ _=>False) ->
  (∀x f g h c,e x f->Ch T F R H g h c->v6 T g h c f b->Q x c)->t b H Q
abbrev XF:XK:=λ_ _ _=>False
def tws_nil[Sls D]:TWs X T [] (λ(d:D) a _=>a true d):=#[_,Uv,λd F R e H a Q s b c=>c true d F R H b 61 s]
def tws_one{D:Type}[Sls D]{w:Wf D Bool D}(h:TW X XF T c w):TWs X T [c] w:=e1a2 h λt a b=> #[t,Uw a,λd F R e H f Q s g i=>b d F R e H f _ Q s g i λ_ _ _ _ _ _ z=>z.elim]
section
variable{D B S B0 Db D1 PO τ α γ:Type}[Sls D][Sls B][Sls S][Sls B0][Sls Db][Sls D1][Sls PO][Ow τ][Rep α][Rep γ]
abbrev stepC(P:Pre k S Db)(a:Fg D1 Db)(g:Db->α->D1)(c:Wf D1 Bool D1)(d:Wf D1 γ D1):α->S->(Option γ->S->Prop)->Prop :=
 λx s K=>c (g (P.pre s) x) (λt b=>if t=true then d b (λy e=>K ↑y<|P.suf<|a.fg e) (λ_ _=>False) else K none (P.suf<|a.fg b)) λ_ _=>False
def Gg[P:Pre k S Db][Gf:Fg D1 Db]{g:Db->α->D1}{wt:Wf D1 Bool D1}{we:Wf D1 γ D1}{J:It}{Ps:Rg->Hp->Prop}{L:List α}{F1 Fs Z:Rg}{Q:Hp}{σ:St}{s0:S}{K:List γ->S->Prop}{ag:List V->Hp->Prop}
  (hk:R.length=k) (ao:∀i,k<=i->i<k+idx.length->i∈mb)
  (hG:∀d f C I M,GW (Fp X n cl (R++Fr) d f C I M) T mb tg g) (hT:∀d f C I M,TWs (Fp X n cl (R++Fr) d f C I M) T aq wt) (hE:∀d f C I M,EW (Fp X n cl (R++Fr) d f C I M) XF T ar we)
  (hz:L.length<=gS) (ip:Zh J L Ps) (ps:Ps Z Q) (pk:∀{G Ra Rb:Rg} {Ha Hb:Hp},Ps Ra Ha->(∀a,G a->Ra a)->(∀a,F1 a->¬G a)->Ext G Ra Ha Rb Hb->Ps Rb Hb)
  (s':Std T Fs Z Q) (U:∀a,F1 a->Z a/\¬Fs a/\a≠T) (au:rel Fs Z Q s0 (idx.map λi=>σ[i]?.join)) (hw:BR (stepC P Gf g wt we) L s0 K)
  (av:∀E N F l r O,K E N->Ch T Fs Z Q F l r->Std T F l r->rel F l r N (idx.map λi=>σ[i]?.join)->Ps l r->Paired (rp l r) E O->ag O r) :
  ∀d f C I M,∃(g:TG)(tt:TT)(te:TE),(PG (Fp X n cl (R++Fr) d f C I M) tg g/\X5 (Fp X n cl (R++Fr) d f C I M) aq tt/\PE (Fp X n cl (R++Fr) d f C I M) ar te)/\∃W:Nat->Nat->List V->St->Hp->Prop,(∃m,W 0 m [] (xt R idx σ) Q)/\∀i m O ah H,W i m O ah H ->
   (J.stop i H/\ag O H)\/(J.go i H/\O.length<gS/\∀x Q,J.Iy i H x Q->g x ah Q λs Y=>tt s Y λb H3=>if b=true then te s H3 λy H4=>∃m',m'<m/\W (i+1) m' (O++[y]) s H4 else ∃m',m'<m/\W (i+1) m' O s H3):=by
 intro d f C I M;refine e1a2 (hG d f C I M) λaw g1 g2=>?_;refine e1a2 (hT d f C I M) λtt t1 t2=>?_;refine e1a2 (hE d f C I M) λte e1 e2=>?_;have aE:(xt R idx σ).length=k+idx.length:=by unfold xt;rw[hO,gV,gV,hk]
 have aa:∀{w:St},Ag mb (xt R idx σ) w->w.drop k=idx.map λi=>σ[i]?.join:=λ{w} a=>by
  apply qt;intro j;rw[t7];by_cases hj:j<idx.length
  ·rw[a.2 (k+j)<|ao _ q0a q0a];unfold xt;rw[jR (by rw[gV,hk];lia),gV,hk,Nat.add_sub_cancel_left]
  ·rw[kC (by have:=a.1;lia),kC<|by rw[gV];lia]
 refine#[aw,tt,te,#[g1,t1,e1],λi m O w r=>m=L.length-i/\i<=L.length/\∃N F l E,Ch T Fs Z Q F l r/\Std T F l r/\rel F l r (P.pre N) w/\Ps l r/\Ag mb (xt R idx σ) w/\Paired (rp l r) E O/\E.length<=i/\BR (stepC P Gf g wt we) (L.drop i) N (λws s'=>K (E++ws) s'),
  #[_,rfl,i9 _,s0,Fs,Z,[],Ch.refl _ _ _ _,s',P.ok _ (by rw[gV,hk]) au,ps,Ag.refl _ _,.nil,i9 _,by simpa using hw],?_]
 rintro i m O w r ⟨rfl,hi,N,F,l,E,c1,A,r1,p1,a1,pz,lz,w1⟩;have aG:=Paired.length pz;by_cases ab:i<L.length
 ·refine .inr #[ip.go p1 ab,q0a,λx Y y=>?_];obtain⟨hH,x',ax,rx⟩:=ip.Iy p1 A.xk ab y;have ay:∀{G l:Rg} {r:Hp},Ch T Fs Z Q G l r->∀a,F1 a->l a/\¬G a:=λc a h=>#[c.left a (U a h).1 (U a h).2.1,λz=>(c.yr a z).elim (U a h).2.1 λq=>s'.xk a (U a h).1 q]
  have az:Ch T F l r F l Y/\Std T F l Y/\rel F l Y (P.pre N) w/\Ps l Y/\Paired (rp l Y) E O:=by
   rcases hH with e|⟨p,o,hp,e⟩
   ·subst e;exact#[Ch.refl _ _ _ _,A,r1,p1,pz]
   ·subst e;have kk:∀b u,r b=↑u->upd r p o b=↑u:=λb u e=>by rw[uR<|vc e hp];exact e
    have I:Ext (λ_=>False) l r l (upd r p o):=#[λb u _ e=>kk b u e,λa h=>.inl h];refine#[#[λb u _ _ e=>kk b u e,λa h=>.inl h,λa h=>.inl h,λa h _=>h],#[A.sub,λa z=>?_,?_,A.vN,A.vE],Sls.st r1 I (λ_ z=>z.elim)<|λ_ _ z=>z,pk p1 (λ_ z=>z.elim) (λ_ _ z=>z) I,wl (I.wide λ_ z=>z.elim) pz]
    ·cases e:r a with
     |none=>exact hV e<|A.xk a z
     |some u=>rw[kk a u e];simp
    ·refine e1a2 A.tab λqs e t=>?_;exact#[qs,kk _ _ e,t]
  obtain⟨c2,S2,r2,p2,ai⟩:=az;have aA:=Ch.trans' s' A.tab c1 c2;rw[drop_cons ax]at w1;refine g2 (P.pre N) F l w Y x' x _ (S2.stt r2) rx λF3 s f3 S3 a3=>?_;have c3:Ch T Fs Z Q F3 l Y:=aA.less f3
  -- aH the block aF on af an item
  have on:∀{d2:D1} {F5 R5:Rg} {H5:Hp} {o:Option γ} {ae:List V},BR (stepC P Gf g wt we) (L.drop<|i+1) (P.suf<|Gf.fg d2) (λws s'=>K (E++(o.toList++ws)) s')->Ch T F3 l Y F5 R5 H5->v6 T F5 R5 H5 d2 s->Paired (rp R5 H5) (E++o.toList) ae->(E++o.toList).length<=i+1 ->
    ∃m',m'<L.length-i/\m'=L.length-(i+1)/\i+1<=L.length/\∃N F l E,Ch T Fs Z Q F l H5/\Std T F l H5/\rel F l H5 (P.pre N) s/\Ps l H5/\Ag mb (xt R idx σ) s/\Paired (rp l H5) E ae/\E.length<=i+1/\BR (stepC P Gf g wt we) (L.drop<|i+1) N (λws s'=>K (E++ws) s'):=λ{d2 F5 R5 H5 o ae} hw c5 S5 aB aC=>by
   refine e1a2 (Gf.le S5.rel) λF6 f6 r6=>?_;have aD:=Ch.trans' s' S2.tab c3 c5;refine#[L.length-(i+1),q0a,rfl,ab,P.suf<|Gf.fg d2,F6,R5,E++o.toList,aD.less f6,⟨λa h=>S5.sub a<|f6 a h,S5.xk,S5.tab,S5.vN,λh=>S5.vE<|f6 T h⟩,by rw[P.eta];exact r6,?_,a1.trans a3,aB,aC,?_]
   ·refine pk p2 (G:=λa=>F3 a\/a=T) (λa h=>h.elim (S3.sub a) λz=>by rw[z];exact S2.vN) (λa h z=>?_) c5.ext;rcases z with z|z
    ·exact(ay c3 a h).2 z
    ·exact(U a h).2.2 z
   ·simp only[lA];exact hw
  refine t2 _ F3 l s Y _ _ S3 w1 λb d1 F4 R4 H4 q4 c4 S4=>?_
  cases b with
  |false =>
   rw[gM g9];exact on (o:=none) q4 c4 S4 (by simpa using S3.vals c4 ai) (by simp;lia)
  |true =>
   rw[gN rfl];refine e2 _ F4 R4 s H4 _ _ _ S4 q4 (λy d2 v F5 R5 H5 q5 c5 S5 r5=>?_) λ_ _ _ _ _ _ z=>z.elim;have aj:=Ch.trans S3 S4.tab c4 c5;exact on (o:=↑y) q5 aj S5 (xU (S3.vals aj ai)<|.cons r5 .nil) (by simp;lia)
 ·have e:i=L.length:=by lia
  subst e;rw[uM]at w1;have ak:K (E++[]) N:=w1;rw[kH]at ak;have al:=P.un r1;rw[aa a1,P.a0f]at al;refine .inl #[ip.stop p1,av E N F l r O ak c1 A al p1 pz]
def Es[Se:Sel idx B S B0]{back:B->List α->D}{xs:List α}{Ps:Rg->Hp->Prop}(s':Std T F' R' H')(tw:Du F' F1 F2)(hr:rel F2 R' H' b σ)
 (pb:∀b' G2 WQ J2 QA σ',Ps J2 QA->rel G2 J2 QA b' σ'->Ag is σ σ'->Du WQ F1 G2->rel WQ J2 QA (back b' xs) σ') :
    ∃Fs,Std T Fs R' H'/\(∀a,F1 a->R' a/\¬Fs a/\a≠T)/\rel Fs R' H' (Se.sel b) (idx.map λi=>σ[i]?.join) /\
      ∀{s1:S} {Gs R1:Rg} {H1:Hp},Ch T Fs R' H' Gs R1 H1->Std T Gs R1 H1->rel Gs R1 H1 s1 (idx.map λi=>σ[i]?.join)->Ps R1 H1->∃G,Ch T F' R' H' G R1 H1/\v6 T G R1 H1 (back (Se.mrg (Se.rest b) s1) xs) σ:=by
  refine e2a4 (Se.cut hr) λFs F0 t0 h1 h2 hl=>?_
  have iS:∀a,Fs a->F' a:=λa h=>(tw.all a).mpr<|.inr<|(t0.all a).mpr<|.inl h
  have i0:∀a,F0 a->F' a:=λa h=>(tw.all a).mpr<|.inr<|(t0.all a).mpr<|.inr h
  have i1:∀a,F1 a->F' a:=λa h=>(tw.all a).mpr<|.inl h
  have d1S:∀a,F1 a->Fs a->False:=λa h k=>tw.ym a h<|(t0.all a).mpr<|.inl k
  have d10:∀a,F1 a->F0 a->False:=λa h k=>tw.ym a h<|(t0.all a).mpr<|.inr k
  refine#[Fs,#[λa h=>s'.sub a<|iS a h,s'.xk,s'.tab,s'.vN,λh=>s'.vE<|iS T h],λa h=>#[s'.sub a<|i1 a h,d1S a h,λz=>s'.vE<|by rw[<- z];exact i1 a h],h1,λ{s1 Gs R1 H1} c S1 r1 p1=>?_]
  have f0:rel F0 R1 H1 (Se.rest b) σ:=Sls.st h2 c.ext (λa h=>h.elim (λz=>s'.sub a<|iS a z) λz=>by rw[z];exact s'.vN) λa h z=>z.elim (λq=>t0.ym a q h) λq=>s'.vE (by rw[<- q];exact i0 a h)
  have nG:∀a,Gs a->F1 a\/F0 a->False:=λa g f=>by
    rcases c.yr a g with q|q
    · exact f.elim (λz => d1S a z q) λz => t0.ym a q z
    · exact s'.xk a (s'.sub a<|f.elim (i1 a)<|i0 a) q
  have out:∀a,F1 a\/F0 a->R1 a:=λa f=>c.left a (s'.sub a<|f.elim (i1 a)<|i0 a) λz=>f.elim (λq=>d1S a q z) λq=>t0.ym a z q
  refine#[λa=>F1 a\/Gs a\/F0 a,#[λb o n m h=>c.keep b o (λz=>n<|iS b z) m h,c.Ae,λa h=>h.elim (λz=>.inl<|i1 a z) λz=>z.elim (λq=>(c.yr a q).elim (λz=>.inl<|iS a z) .inr) λq=>.inl<|i0 a q,λa h n=>c.left a h λz=>n<|iS a z],pb _ (λa=>Gs a\/F0 a) _ R1 H1 σ p1 (Se.join #[λ_=>Iff.rfl,λa m f=>nG a m<|.inr f] r1 f0 hl) (Ag.refl _ _) ⟨λ_=>Iff.rfl,λa h z=>z.elim (λq=>nG a q<|.inl h) λq=>d10 a h q⟩,λa h=>h.elim (λz=>out a<|.inl z) λz=>z.elim (S1.sub a) λq=>out a<|.inr q,S1.xk,S1.tab,S1.vN,λh=>h.elim (λz=>s'.vE<|i1 T z) λz=>z.elim S1.vE λq=>s'.vE<|i0 T q]
def wP[P:Pre k S Db][O:Fg D1 Db][m:Sel idx B S B0]{h:B->List α->D}{v:D->(List α->B->Prop)->(ci->D->Prop)->Prop}{g:Db->α->D1}{w:Wf D1 Bool D1}{y:Wf D1 γ D1}
 (o:X.calm=true) (U:IW X E T is z iter h v) (W:yW X a cl Ts Fr idx) (Y:Ts.length=k) (r:∀i,k<=i->i<k+idx.length->i∈mb)
 (Z:∀e f C j l,GW (Fp X a cl (Ts++Fr) e f C j l) T mb z g) (hT:∀e f C j l,TWs (Fp X a cl (Ts++Fr) e f C j l) T t w) (hE:∀e f C j l,EW (Fp X a cl (Ts++Fr) e f C j l) XF T u y)
 (hs:∀x,kh iter X.env x=pure x:=by intro _;rfl) :
    EO X E T (.ListComp u [#[z,iter,t,0]] a pos) (λ(d:D)(A:OL γ->D->Prop) I=>v d (λn b=>n.length<=gS/\BR (stepC P O g w y) n (m.sel b) λJ L=>A #[J]<|h (m.mrg (m.rest b) L) n) I):=by
  refine e1a2 U λti i1 i2=>?_
  refine#[_,QI o i1 W hs,λd F R σ H A I Q s hw kn ke=>?_]
  refine i2 d F R σ H _ _ _ s hw (λn b Jt Ps F' F1 F2 R' H' q c M tw hr ip ps pk pb=>?_) ke
  refine e1a4 (Es (idx:=idx) (Se:=m) M tw hr pb) λFs S0 n0 r0 on=>?_
  refine Gg Y r Z hT hE q.1 ip ps pk S0 n0 r0 q.2 λzs L Gs R1 H1 J kz c1 S1 r1 p1 pz p hp=>?_
  refine e1a2 (on c1 S1 r1 p1) λG c2 N=>?_
  refine e1a3 (xH N hp pz) λR2 c3 S3 n3=>?_
  exact kn _ _ _ _ G R2 _ kz (Ch.trans s N.tab (Ch.trans s M.tab c c2) c3) S3 n3
def AO[P:Pre k S Db][Gf:Fg D1 Db][v:Sel idx B S B0](j:Nat){m I J:Type}[Ow m][Sls I][Sls J][A:At j D m I][U:Pt j I (OL γ) J][Jp:Pj D PO n]{h:Pos}{l:B->List α->D}{W:D->(List α->B->Prop)->(ci->D->Prop)->Prop}{g:Db->α->D1}{Y:Wf D1 Bool D1}{Z:Wf D1 γ D1}
 (hN:X.N.Nodup) (hj:X.N[j]?=↑y) (hy:X.env.scope.names.lookup y=some .local) (L:jW (.ListComp o [#[M,iter,r,0]] a pos) (some<|.Name y py) h.line X.env=pure true) (hm:j∉ms)
 (O:X.calm=true) (hi:IW X E T is M iter l W) (Bs:yW X a cl Ts Fr idx) (hk:Ts.length=k) (Q:∀i,k<=i->i<k+idx.length->i∈mb)
 (hG:∀e f C t u,GW (Fp X a cl (Ts++Fr) e f C t u) T mb M g) (hT:∀e f C t u,TWs (Fp X a cl (Ts++Fr) e f C t u) T r Y) (hE:∀e f C t u,EW (Fp X a cl (Ts++Fr) e f C t u) XF T o Z)
 (hs:∀x,kh iter X.env x=pure x:=by intro _;rfl) :
    S1 X E T ms n (.Assign [.Name y py] (.ListComp o [#[M,iter,r,0]] a pos) h) (λ(d:D)(Kn:J->Prop)(Kr:τ->PO->Prop) Ke=>W d (λw b=>w.length<=gS/\BR (stepC P Gf g Y Z) w (v.sel b) λys s1=>Kn<|U.put (A.hole<|l (v.mrg (v.rest b) s1) w) ⟨ys⟩) λC d'=>Ke C<|Jp.pj d'):=by
  refine e1a2 hi λti i1 i2=>?_
  refine#[_,QJ hN hj hy L O i1 Bs hs,λd F R σ H Kn Kr Ke En s hw kn kr ke=>?_]
  refine i2 d F R σ H _ _ _ s hw (λw b Jt Ps F' F1 F2 R' H' q c z tw hr ip ps pk pb=>?_) λC y d' F' R' H' q c z=>?_
  · refine e1a4 (Es (idx := idx) (Se := v) z tw hr pb) λFs S0 n0 r0 on => ?_
    refine Gg hk Q hG hT hE q.1 ip ps pk S0 n0 r0 q.2 λzs s1 Gs R1 H1 ys kz c1 S1 r1 p1 pz p hp=>?_
    refine e1a2 (on c1 S1 r1 p1) λG c2 S2=>?_
    refine e1a3 (xH S2 hp pz) λR2 c3 S3 n3=>?_
    refine e1a2 (Gd (i:=j) S3 n3) λG2 g2 S4=>?_
    exact kn _ G2 R2 _ _ kz ((Ch.trans s S2.tab (Ch.trans s z.tab c c2) c3).less g2) S4<|Ag.set hm
  · refine e1a2 (wH (PO := PO) z) λG g1 g2 => ?_
    exact ke C y _ G R' H' q (c.less g1) g2
end
def Kp(g:ci)(H a:Hp):Prop:=∀b o,b≠g->H b=↑o->a b=↑o
def Kp.refl(g:ci)(H:Hp):Kp g H H:=λ_ _ _ h=>h
def Kp.trans{d e:Hp}(a:Kp g H d)(b:Kp g d e):Kp g H e:=λc o n h=>b c o n<|a c o n h
def Kp.at:Kp g H (upd H g o):=λb u n e=>by rw[uR n];exact e
def Aj(h:H p=none):Dt H (upd H p o):=λb u e=>by rw[uR<|vc e h];exact e
noncomputable def FE(q:ci)(i z s:Int):List V:=[.ref q,.int i,.int z,.int s]
structure Dg(H:Hp)(g q:ci)(ns:List Int)(i z s:Int):Prop where
 ob:H g=↑(.lst<|FE q i z s)
 sc:H q=↑(.lst<|ns.map V.int)
 i0:0<=i
 ne:q≠g
def Dg.put{i z s:Int}(B:Dg H g q b i z s){a z':Int}(h:0<=a):Dg (upd H g<|.lst<|FE q a z' s) g q b a z' s:=#[uV,by rw[uR B.ne];exact B.sc,h,B.ne]
def Yt(q:ci)(i z s:Int):Fw (FE q i z s) 0=↑(.ref q):=rfl
def QK(q:ci)(i z s:Int):Fw (FE q i z s) 1=↑(.int i):=rfl
def QL(q:ci)(i z s:Int):Fw (FE q i z s) 2=↑(.int z):=rfl
def a2t(q:ci)(i z s:Int):Fw (FE q i z s) 3=↑(.int s):=rfl
def a0h(x:Int):-(2 ^ 64)<x%2147483647/\x%2147483647<2 ^ 64:=by lia
def UM{ns:List Int}{i:Int}(b:0<=i)(c:i<(ns.length:Int)):∃n,Fw (ns.map V.int) i=↑(.int n):=by
 have a:i.toNat<ns.length:=by omega
 have e:(ns.map V.int)[i.toNat]?=↑(.int ns[i.toNat]):=by rw[jE,jv a];rfl
 have:=MH e;rw[show ((i.toNat:Nat):Int)=i by omega]at this;exact#[_,this]
structure Bg where
instance:Ow Bg:=#[λF _ H _ v=>∃g q ns i z s,v=↑(.ref g)/\(∀b,F b↔b=g\/b=q)/\Dg H g q ns i z s,
 λ{F G R H R' H' x v} h e s n=>by
  obtain⟨g,q,ns,i,z,s',h1,h2,h3⟩:=h
  exact#[g,q,ns,i,z,s',h1,h2,#[e.keep g _ (n g<|(h2 g).mpr<|.inl rfl) h3.ob,e.keep q _ (n q<|(h2 q).mpr<|.inr rfl) h3.sc,h3.i0,h3.ne]],
 λh e=>by
  obtain⟨g,q,ns,i,z,s',h1,h2,h3⟩:=h
  exact#[g,q,ns,i,z,s',h1,λb=>(e b).symm.trans (h2 b),h3]]
instance:Hs Bg:=#[λz9=>e6a2 z9 λ_ _ _ _ _ _ h _=>#[_,h]]
instance:UH Bg:=#[λh _=>h]
def QM:Sp:=λd H Q _=>∃(g q:ci)(c:List Int)(i z s a:Int),d=[.ref g,.int a]/\Dg H g q c i z s/\0<a/\a<1073741824 /\
 ∀b e f r,Kp g H b->Dg b g q c e f s->0<=r->r<a->Q (.int r) b
abbrev WU:Bg×Int×Unit->(Int->Bg×Un×Unit->Prop)->(ci->Bg×Un×Unit->Prop)->Prop:=λp a _=>0<p.2.1/\p.2.1<1073741824/\∀r,0<=r->r<p.2.1->a r (#[],#[],())
def WV{K:gO}{k:Nat}(F:vD P w K b base P8 k f c d g):vD P w K b base (vL P w) k f c d g :=
 #[F.len,λA a s H args i j Q E l m n o p=>jT (F.run A a s H args i j Q E l m n o p) λr q h=>by
  cases r with
  |error e=>exact iC h
  |ok fl =>
   cases fl with
   |ret u=>exact h
   |next=>exact iC h
   |brk=>exact iC h
   |cont=>exact iC h]
def a2u:∀{c:List V},List.map some c=[↑a,↑b]->c=[a,b]:=by
 intro c e
 cases c with
 |nil=>cases e
 |cons p r=>cases r with
  |nil=>cases e
  |cons q s=>cases s with
   |nil=>cases e;rfl
   |cons _ _=>cases e
def Yu{K:gO}{k:Nat}(F:vD P w K I base P8 k f J c QM):vD P w K I base (vL P w) k f J c (yu T WU):=by
 refine(WV F).imp λL H Q E h=>?_;obtain⟨m,R,p,Kn,Ke,s,⟨M,N,O⟩,S,_⟩:=h;obtain⟨v1,U,X,Y,Z,v,⟨g,q,x,i,z,y,rfl,A,hb⟩,d⟩:=s.rel;obtain⟨v2,aa,F3,F4,e2,t2,⟨n3,u,rfl,r2⟩,e3,n4⟩:=d;subst r2;subst e2 e3
 have ev:L=[.ref g,.int p.2.1]:=by exact a2u Z
 subst ev;have B:m g:=(v.all g).mpr<|.inl<|(A g).mpr<|.inl rfl;have gT:g≠T:=λe=>s.vE (by rw[<- e];exact B);refine#[g,q,x,i,z,y,p.2.1,rfl,hb,M,N,λC i' z' r j D r0 d=>?_]
 have l:∀a,R a->C a≠none:=λa h=>by
  by_cases e:a=g
  ·rw[e,D.ob];simp
  ·cases G:H a with
   |none=>exact hV G<|s.xk a h
   |some o=>rw[j a o e G];simp
 refine S r (#[],#[],()) _ (λ_=>False) m R C (O r r0 d) #[λb o n _ h=>j b o (λe=>n<|by rw[e];exact B) h,λ_ h=>.inl h,λa h=>h.elim (λz=>z.elim) .inl,λ_ h _=>h]
  #[#[_,_,X,Y,rfl,v,#[g,q,x,i',z',y,rfl,A,D],_,_,F3,F4,rfl,t2,n3,rfl,n4],s.sub,l,?_,s.vN,s.vE] #[#[λ_ z=>z,_,rfl,rfl],λ_ z=>z.elim,λ_ z=>z.elim,λz=>z]
 refine e1a2 s.tab λc e t=>?_;exact#[c,j T _ (λe=>gT e.symm) e,t]
structure Fn(K:gO)(mg:Str->Option cr)(x:Str)(st:il)(ps:List Str)(f:ci)(fd:iH):Prop where
 fn:yN K x x st f fd
 at_:mg x=↑(.ref f)
 bd:Binds K fd ps []
def a2v{a b c d e:Type}{P:a×b×c×d×e->Prop}(h:∀f g i j k,P (f,g,i,j,k)):∀x,P x:=λx=>h x.1 x.2.1 x.2.2.1 x.2.2.2.1 x.2.2.2.2
def a0i{a b c d e f g:Type}{P:a×b×c×d×e×f×g->Prop}(h:∀i j k l m n o,P (i,j,k,l,m,n,o)):∀x,P x:=λx=>h x.1 x.2.1 x.2.2.1 x.2.2.2.1 x.2.2.2.2.1 x.2.2.2.2.2.1 x.2.2.2.2.2.2
def a0j{a b c d e f g i:Type}{P:a×b×c×d×e×f×g×i->Prop}(h:∀j k l m n o p q,P (j,k,l,m,n,o,p,q)):∀x,P x:=λx=>h x.1 x.2.1 x.2.2.1 x.2.2.2.1 x.2.2.2.2.1 x.2.2.2.2.2.1 x.2.2.2.2.2.2.1 x.2.2.2.2.2.2.2
def FF{a b c d e f g i j:Type}{P:a×b×c×d×e×f×g×i×j->Prop}(h:∀k l m n o p q r s,P (k,l,m,n,o,p,q,r,s)):∀x,P x:=λx=>h x.1 x.2.1 x.2.2.1 x.2.2.2.1 x.2.2.2.2.1 x.2.2.2.2.2.1 x.2.2.2.2.2.2.1 x.2.2.2.2.2.2.2.1 x.2.2.2.2.2.2.2.2
def a3d{b c d e f g i j k l a:Type}{P:b×c×d×e×f×g×i×j×k×l×a->Prop}(h:∀n o p q r s t u v w m,P (n,o,p,q,r,s,t,u,v,w,m)):∀x,P x:=λx=>h x.1 x.2.1 x.2.2.1 x.2.2.2.1 x.2.2.2.2.1 x.2.2.2.2.2.1 x.2.2.2.2.2.2.1 x.2.2.2.2.2.2.2.1 x.2.2.2.2.2.2.2.2.1 x.2.2.2.2.2.2.2.2.2.1 x.2.2.2.2.2.2.2.2.2.2
def u4{K:gO}{d:Str->Option cr}{k:Nat}{e:List Str}{A c g:Type}[Sls A][Sls c][Ow g]{i j:Wf A g c}(F:vD P w K d base (vL P w) k f l e (yu T i))(h:∀p a b,j p a b->i p a b):vD P w K d base (vL P w) k f l e (yu T j) :=
 F.imp λo H Q E m=>e5a3 m λF R p a b s n r=>#[F,R,p,a,b,s,h p a b n,r]
def a0k:Passes (vL P w) X XF:=λa b H s e c I h=>by obtain⟨_,_,_,_,_,z⟩:=h;exact z.elim
def lkc{β:Type}{n x:Str}{c c':β}{r:List (Str×β)}(h:ko x ((n,c)::r)=↑c'):(x=n/\c'=c)\/ko x r=↑c':=by
 rw[iF]at h
 cases q:x==n with
 |true=>rw[q]at h;exact .inl #[eq_of_beq q,(iX h).symm]
 |false=>rw[q]at h;exact .inr h
def fc{b:Type}{p:b->Prop}{a:b}{l:List b}(h:p a)(t:∀y∈l,p y):∀y∈a::l,p y:=λy c=>by
 rcases List.mem_cons.mp c with e|e
 ·rw[e];exact h
 ·exact t y e
def wC{k m:Nat}(h:a=(ik m).map (k + ·)):∀i,k<=i->i<k+m->i∈a:=λi b c=>by rw[h];exact List.mem_map.mpr #[i-k,List.mem_range.mpr q0d,q0d]
def a35{a:Type}{p:a->Prop}:∀y∈([]:List a),p y:=λ_ h=>by cases h
section
variable{D PO τ:Type}[Sls D][Sls PO][Ow τ]{α:Type}[Rep α]
def QN(f:EW X E T a i):EW X E T (.UnaryOp .USub a pos) (λ(d:D)(j:Int->D->Prop) l=>i d (λx m=>j (-x) m) l):=by have h:=Yd (c:=λ_=>True) (γ:=Int) (g:=λx:Int=>-x) (e:=.UnaryOp .USub a pos) f (λn b=>Wx Pw b) λb _ k=>#[_,b,k _ rfl];simp only[true_and]at h;exact h
def yP(i:Nat)[Sls l][Sls g][Hs τ][A:At i D τ g][J:Pj g PO n](m:PE X (.Name x p) (vC i)):S1 X E T I n (.Return (some<|.Name x p) pos) (λ(d:D)(_:l->Prop)(j:τ->PO->Prop) _=>j (A.get d)<|J.pj<|A.hole d):=by refine⟨_,Ct m,λd F R L H M j N O s q P r Q=>?_⟩;refine e3a4 (A.take s.rel) λv t w y c k B=>?_;obtain⟨u,rfl⟩:=Hs.has k;have f:∀a,w a->F a:=λa h=>(c.all a).mpr<|.inr h;refine e1a2 (J.le B) λG e C=>?_;exact#[u,y,r _ _ u t G R H q #[λb o _ _ h=>h,λ_ h=>.inl h,λa h=>.inl<|h.elim (λz=>(c.all a).mpr<|.inl z) λz=>f a<|e a z,λ_ h _=>h] #[C,λa h=>s.sub a<|f a<|e a h,s.xk,s.tab,s.vN,λh=>s.vE<|f T<|e T h] ⟨k,λa h=>s.sub a<|(c.all a).mpr<|.inl h,λa h z=>c.ym a h<|e a z,λh=>s.vE<|(c.all T).mpr<|.inl h⟩]
def UN{O:List iL}{i P PO B A:Type}[Ow i][Sls P][Sls PO][Sls B][Sls A]{G:B->A->PO->D}{we:Wf D i D}{wr:D->(P->B->A->Prop)->(ci->D->Prop)->Prop}
 (ha:EO X E T e we) (hr:KZ X E T O G wr) (hs:gP (e::O) X.env=(false,eval e X.env)::gP O X.env:=by rfl) :
    KZ X E T (e::O) (λ(b:B)(l:A)(p:Un×PO)=>G b l p.2) (λ(d:D)(Kn:i×P->B->A->Prop) I=>we d (λx W=>wr W (λp b l=>Kn (x,p) b l) I) I):=by
  refine e1a2 ha λta a1 a2=>?_
  refine e1a2 hr λtr b1 b2=>?_
  refine#[_,uZ a1 b1 hs,λd F R σ H Kn I Q s hw kn ke=>?_]
  refine a2 d F R σ H _ I _ s hw (λx W u j F1 R1 H1 q1 c1 v g=>?_) ke
  have J:Ch T F R H F1 R1 H1:=c1.less λ_ z=>.inr z
  refine b2 W F1 R1 σ H1 _ I _ v q1 (λp b l vs us Y G2 L o w M q2 S N r h1 h2 hl k=>?_) λC y d' o w M k c s'=>ke C y d' o w M k (Ch.trans s v.tab J c) s'
  -- the new Z QF
  have mF:∀a,j a->o a->False:=λa m f=>by
    rcases S.yr a f with q|q
    · exact g.ym a m q
    · exact v.xk a (g.sub a m) q
  have mT:∀a,j a->a≠T:=λa m z=>g.tab (by rw[<- z];exact m)
  have mx:sl j w M x ↑u:=Ow.st g.is S.ext (λa h=>h.elim (v.sub a) λq=>by rw[q];exact v.vN) λa m z=>z.elim (g.ym a m)<|mT a m
  have mR:∀a,j a->w a:=λa m=>S.left a (g.sub a m) λz=>g.ym a m z
  have g1:∀a,Y a->o a:=λa h=>(r.all a).mpr<|.inl h
  have g2:∀a,G2 a->o a:=λa h=>(r.all a).mpr<|.inr<|.inl h
  have g3:∀a,L a->o a:=λa h=>(r.all a).mpr<|.inr<|.inr h
  have U:=Ch.trans s v.tab J S
  refine kn (x,p) b l (u::vs) us (λa=>j a\/Y a) G2 L (λa=>j a\/o a) w M q2 #[U.keep,U.Ae,λa h=>h.elim (λz=>c1.yr a<|.inl z)<|U.yr a,U.left] ⟨λa h=>h.elim (mR a)<|N.sub a,N.xk,N.tab,N.vN,λh=>h.elim g.tab N.vE⟩
    #[λa=>?_,λa m n=>m.elim (λz=>mF a z<|g2 a n) λz=>r.IA a z n,λa m n=>m.elim (λz=>mF a z<|g3 a n) λz=>r.J3 a z n,r.J4] #[↑u,vs.map some,j,Y,rfl,#[λ_=>Iff.rfl,λa m n=>mF a m<|g1 a n],Ow.wk mx<|CJ w L M,h1] h2 hl λb' l' L1 L2 L3 aa ab ae p' h3 h4 h5 t=>?_
  · rw[r.all]
    exact#[λz=>z.elim (λq=>.inl<|.inl q) λz=>z.elim (λq=>.inl<|.inr q) .inr,λz=>z.elim (λz=>z.elim .inl λq=>.inr<|.inl q) λz=>.inr<|.inr z]
  · refine e4a4 h3 λv' af N1 N2 z1 z2 z3 z4 => ?_
    injection z1 with _ z5
    subst z5
    exact k b' l' L1 L2 L3 aa ab ae p'.2 (Sls.fq z4<|two_eq z2 z3) h4 h5 t
class Yv(α:Type)[Rep α](ty:String)(b:outParam Bool):Prop where
 ist:∀{K:gO} {R:Rg} {H:Hp} {x:α} {v:V},rp R H x v->∃t,zp K H v t/\qQ K t (.type ty)=↑b
instance:Yv Int "int" true:=#[λ{K R H x v} h=>by
 subst h
 exact#[_,zp.int x,by rfl]]
instance:Yv Int "bool" false:=#[λ{K R H x v} h=>by
 subst h
 exact#[_,zp.int x,by rfl]]
instance:Yv (List α) "list" true:=#[λ{K R H x v} h=>by
 obtain⟨a,vs,rfl,_,h3,_⟩:=h
 exact#[_,zp.lst h3,by rfl]]
def yA{b:Bool}[Yv α ty b]{i:Wf D α D}(l:Gl X "isinstance")(m:X.mg "isinstance"=none)(c:PE X (.Name x q) (tC<|.ty ty))(n:EW X E T a i)
 (j:gP [a,.Name x q] X.env=(false,eval a X.env)::gP [.Name x q] X.env:=by rfl) (e:gP [.Name x q] X.env=(false,eval (.Name x q) X.env)::gP [] X.env:=by rfl) (f:(jm pos<|gP [.Name x q] X.env).any (·.1)=false:=by rfl) :
    EW X E T (.Call (.Name "isinstance" p) [a,.Name x q] [] pos) (λ(d:D)(k:Bool->D->Prop) g=>i d (λ_ h=>k b h) g):=by
  refine e1a2 n λP o r=>?_
  refine#[_,wJ Jg l m PyProof.Rows.boot_isinstance (uZ o (uZ c vk e) j) (he:=j) (hpl:=f),λd F R v H k g Q s w z A=>r d F R v H _ g _ s w (λy h u B C G I J L M=>?_) A]
  refine e1a2 (Yv.ist (ty:=ty) (K:=X.K) M) λt N O=>?_
  exact#[u,ty,t,b,rfl,N,O,z _ h _ B C G I J L rfl]
end
end WL
namespace ZT
open PySem PySem.Spec PyProof.Rows
def Et{i:Nat}(a:s.heap.IsTupleIter b t i)(h:s.heap.IsTuple t j)(k:j[i]?=↑x)
 (l:∀e,e.IsTupleIter b t (i+1)->i4 b s.heap e->Q x { s with heap:=e}):gZ (g8 g w) A (jl<|.ref b) Q E s:=by
  obtain⟨o,d,n,c⟩:=id a;obtain⟨p,q,_,m,r⟩:=h;unfold jl
  refine am<|wpAny_callSpecial?_slot (name:=lW "__next__") a.typeIs lX<|iT lX a.typeIs sd ?_<|rP _
  show gZ _ _ (ui (.ref b) 0 >>= _) _ _ s;refine am<|jc d c (x:=.ref t) rfl ?_
  show gZ _ _ (ui (.ref b) 1 >>= _) _ _ s;refine am<|jc d c (x:=.int i 0) rfl ?_
  show gZ _ _ (seqItems? (.ref t) >>= _) _ _ s;refine am<|k8 q r ?_;simp only[lF,k]
  have f:Heap.IsTupleIter (s.heap.update b λu=>u.mapFields (·.setIfInBounds 1 (lO<|(i:Int)+1))) b t (i+1):=#[_,iP _ d<|Obj.isFreed_of_fields<|Obj.data_mapFields c _,(Obj.cls_mapFields ..).trans n,by rw[Obj.data_mapFields c];simp[lO]]
  exact am<|m7 d c q0o<|ap #[x,rfl,ap<|l _ f<|oE ..]
def MV{i:Nat}(h:A.handled=none)(b:s.heap.IsTupleIter c t i)(k:s.heap.IsTuple t l)(n:l[i]?=none)
 (q:∀d e,Heap.ExtBut c s.heap d->(∃o,d.get? e=↑o/\o.cls=.type "StopIteration")->E (.ref e) { s with heap:=d}):gZ (g8 j w) A (jl<|.ref c) Q E s:=by
  obtain⟨o,f,v,g⟩:=id b;obtain⟨p,r,_,m,u⟩:=k;unfold jl
  refine am<|wpAny_callSpecial?_slot (name:=lW "__next__") b.typeIs lX<|iT lX b.typeIs sd ?_<|rP _
  show gZ _ _ (ui (.ref c) 0 >>= _) _ _ s;refine am<|jc f g (x:=.ref t) rfl ?_
  show gZ _ _ (ui (.ref c) 1 >>= _) _ _ s;refine am<|jc f g (x:=.int i 0) rfl ?_
  show gZ _ _ (seqItems? (.ref t) >>= _) _ _ s;refine am<|k8 r u ?_;simp only[lF,n]
  refine am<|md<|am<|m7 f g q0o ?_;show gZ _ _ (newExc (.type "StopIteration") [] >>= _) _ _ _
  refine am ?_;simp only[newExc,newTuple];refine am<|iK ?_ (by size_fits)
  refine am (m:=qi _ _)<|mP (a:=Value.none) (by first|rfl|(simp only[qi];rfl))<|iK ?_ (by size_fits)
  simp only[raiseNew];refine am<|wpAny_handled ?_;first|rw[show A.in1.handled=none from h]|rw[h]
  exact am<|ap<|wpAny_throw<|q _ _ (((oE ..).extBut.push _).push _) #[_,hI _ rfl,rfl]
abbrev ZSt(h:iM)(z c d e g i j:ci)(f:cr)(k:Nat)(l m:Array cr):Prop :=
 se h z c d f/\qm h c (.ref e) (.ref g)/\(∃a b,qm h d a b)/\h.IsTupleIter e i k/\h.IsTupleIter g j k/\h.IsTuple i l/\h.IsTuple j m
def UO{g d:ci}{k:Nat}{Q:cr->gW->Prop}(D:ZipApart z g d l m H I)(st:ZSt s.heap z g d l m H I .none k xs ys)(hx:xs[k]?=↑x)(hy:ys[k]?=↑y)
 (hQ:∀h,se h z g d (lO ⇑s)->qm h d x y->h.IsTupleIter l H (k+1)->h.IsTupleIter m I (k+1)->qm h ⇑s x y ->
 (∀c o,c≠z->c≠d->c≠l->c≠m->s.heap.get? c=↑o->h.get? c=↑o)->Q (.ref ⇑s) { s with heap:=h}) :
    gZ (g8 W w) A (Builtin.«zip.__next__» #[[.ref z],[]]) (λJ s'=>∃v,J=.done (.ret v)/\Q v s') E s:=by
  obtain⟨q,L,⟨a,b,M⟩,h1,h2,N,O⟩:=st
  show gZ _ _ (ui (.ref z) 2 >>= _) _ _ _;refine am<|jc q rfl (x:=.bool false) rfl ?_
  show gZ _ _ (ui (.ref z) 3 >>= _) _ _ _;refine am<|jc q rfl (x:=.ref g) rfl<|am<|k8 L rfl ?_
  show gZ _ _ (jY (.ref z) >>= _) _ _ _;refine am ?_;unfold jY
  refine am<|jc q rfl (x:=.none) rfl<|ap ?_;simp only[if_true]
  refine am<|md<|am<|jc q rfl (x:=.ref d) rfl<|am<|jP q q0o λg1 P i=>?_
  replace P:se g1 z g d .ellipsis:=P;refine am ?_;simp only[uN,List.zipIdx_nil,List.forIn_cons,List.forIn_nil]
  refine am<|am<|o8 ?_;show gZ _ _ (jl (.ref l) >>= _) _ _ _
  refine am<|Et (h1.extBut i.extBut D.i1z) (N.extBut i.extBut D.l1z) hx λg2 a2 n=>ap ?_
  have X:qm g2 d a b:=n.extBut _ _ D.TOi1<|i.extBut _ _ D.TOz M
  refine am<|k8 X rfl<|am<|qo X λg3 R p=>am<|sf<|ap ?_
  replace R:qm g3 d x b:=R
  refine am<|am<|o8 ?_;show gZ _ _ (jl (.ref m) >>= _) _ _ _
  refine am<|Et (((h2.extBut i.extBut D.i2z).extBut n.extBut D.i12.symm).extBut p.extBut D.TOi2.symm) (((O.extBut i.extBut D.l2z).extBut n.extBut D.l2i1).extBut p.extBut D.l2TO) hy λg4 a4 r=>ap ?_
  have Y:qm g4 d x b:=r.extBut _ _ D.TOi2 R
  refine am<|k8 Y rfl<|am<|qo Y λf u t=>am<|sf<|ap<|ap ?_
  replace u:qm f d x y:=u
  refine am<|k8 u rfl<|am<|wpAny_newTuple ?_
  have Z:f.objs.size=⇑s:=by rw[t.1,r.1,p.1,n.1,i.1]
  have z5:se f z g d .ellipsis:=t.extBut _ _ D.TOz.symm<|r.extBut _ _ D.i2z.symm<|p.extBut _ _ D.TOz.symm<|n.extBut _ _ D.i1z.symm P
  have k5:∀c o,c≠z->c≠d->c≠l->c≠m->s.heap.get? c=↑o->f.get? c=↑o:=λc o j B S T e=>t.extBut _ _ B<|r.extBut _ _ T<|p.extBut _ _ B<|n.extBut _ _ S<|i.extBut _ _ j e
  have q1:f.IsTupleIter l H (k+1):=((a2.extBut p.extBut D.TOi1.symm).extBut r.extBut D.i12).extBut t.extBut D.TOi1.symm
  have q2:f.IsTupleIter m I (k+1):=a4.extBut t.extBut D.TOi2.symm
  have lz:z<f.objs.size:=gX z5
  show gZ _ _ (nV (.ref z) (.ref f.objs.size) >>= _) _ _ _;refine am ?_;unfold nV
  have z6:se (f.push { cls:=.type "tuple",data:=.seq #v[x,y]}) z g d .ellipsis:=ce _ z5
  refine am<|jP z6 q0o λg7 U e7=>?_;replace U:se g7 z g d (lO f.objs.size):=U
  refine jP U q0o λC F e8=>?_;replace F:se C z g d (lO f.objs.size):=F
  have G:∀c o,c≠z->f.get? c=↑o->C.get? c=↑o:=λc o j e=>e8.extBut _ _ j<|e7.extBut _ _ j<|ce _ e
  have t8:qm C f.objs.size x y:=e8.extBut _ _ (jj lz)<|e7.extBut _ _ (jj lz)<|hI _ rfl
  rw[Z]at F t8;refine ap #[_,rfl,?_];show Q (.ref f.objs.size) _;rw[Z]
  exact hQ C F (G _ _ D.TOz u) (q1.at λo e=>G _ o D.i1z e) (q2.at λo e=>G _ o D.i2z e) t8 λc o j B S T e=>G c o j<|k5 c o j B S T e
def Yw{l f:ci}{k:Nat}(O:A.handled=none)(D:ZipApart z l f v y l1 l2)(st:ZSt s.heap z l f v y l1 l2 .none k P R)(m:P[k]?=none\/R[k]?=none)
 (S:∀B e,(∀c o,c≠z->c≠f->c≠v->c≠y->s.heap.get? c=↑o->B.get? c=↑o)->(∃o,B.get? e=↑o/\o.cls=.type "StopIteration")->E (.ref e) { s with heap:=B}) :
    gZ (g8 T w) A (Builtin.«zip.__next__» #[[.ref z],[]]) Q E s:=by
  obtain⟨n,C,⟨a,b,F⟩,U,h2,p,G⟩:=st
  show gZ _ _ (ui (.ref z) 2 >>= _) _ _ _;refine am<|jc n rfl (x:=.bool false) rfl ?_
  show gZ _ _ (ui (.ref z) 3 >>= _) _ _ _;refine am<|jc n rfl (x:=.ref l) rfl<|am<|k8 C rfl ?_
  show gZ _ _ (jY (.ref z) >>= _) _ _ _;refine am ?_;unfold jY
  refine am<|jc n rfl (x:=.none) rfl<|ap ?_;simp only[if_true]
  refine am<|md<|am<|jc n rfl (x:=.ref f) rfl<|am<|jP n q0o λg1 u d=>?_
  replace u:se g1 z l f .ellipsis:=u;refine am ?_;simp only[uN,List.zipIdx_nil,List.forIn_cons,List.forIn_nil]
  refine am<|am<|o8 ?_;show gZ _ _ (jl (.ref v) >>= _) _ _ _
  cases H:P[k]? with
  |none =>
    refine am<|MV O (U.extBut d.extBut D.i1z) (p.extBut d.extBut D.l1z) H λI e g J=>?_;obtain⟨L,i,r⟩:=J
    have W:se I z l f .ellipsis:=g _ _ D.i1z.symm u
    have M:e≠z:=λq=>by subst q;rw[W]at i;cases i;simp at r
    exact jP W q0o λX _ j=>S X e (λc o t _ N _ q=>j.extBut _ _ t<|g _ _ N<|d.extBut _ _ t q) #[L,j.extBut _ _ M i,r]
  |some x =>
    have hy:R[k]?=none:=by rcases m with h|h;rw[H]at h;cases h;exact h
    refine am<|Et (U.extBut d.extBut D.i1z) (p.extBut d.extBut D.l1z) H λI a2 g=>ap ?_
    have Y:qm I f a b:=g.extBut _ _ D.TOi1<|d.extBut _ _ D.TOz F
    refine am<|k8 Y rfl<|am<|qo Y λX p3 j=>am<|sf<|ap ?_
    refine am<|am<|o8 ?_;show gZ _ _ (jl (.ref y) >>= _) _ _ _
    refine am<|MV O (((h2.extBut d.extBut D.i2z).extBut g.extBut D.i12.symm).extBut j.extBut D.TOi2.symm) (((G.extBut d.extBut D.l2z).extBut g.extBut D.l2i1).extBut j.extBut D.l2TO) hy λg4 e Z J=>?_
    obtain⟨L,i,r⟩:=J
    have z4:se g4 z l f .ellipsis:=Z _ _ D.i2z.symm<|j.extBut _ _ D.TOz.symm<|g.extBut _ _ D.i1z.symm u
    have M:e≠z:=λq=>by subst q;rw[z4]at i;cases i;simp at r
    exact jP z4 q0o λg5 _ e5=>S g5 e (λc o t c2 N c4 q=>e5.extBut _ _ t<|Z _ _ c4<|j.extBut _ _ c2<|g.extBut _ _ N<|d.extBut _ _ t q) #[L,e5.extBut _ _ M i,r]
noncomputable abbrev tI(l:ci):Obj:={ cls:=.type "tuple_iterator",data:=.fields #v[.ref l,.int 0 0]}
noncomputable abbrev H1(h:iM)(a:ci):iM:=h.push<|tI a
noncomputable abbrev H2(h:iM)(a b:ci):iM:=(H1 h a).push<|tI b
noncomputable abbrev H3(h:iM)(a b:ci):iM:=(H2 h a b).push { cls:=.type "tuple",data:=.seq #v[.ref h.objs.size,.ref (H1 h a).objs.size]}
noncomputable abbrev H4(h:iM)(a b:ci):iM:=(H3 h a b).push { cls:=.type "tuple",data:=.seq #v[.none,.none]}
noncomputable abbrev H5(h:iM)(a b:ci):iM:=(H4 h a b).push { cls:=.type "zip",data:=.fields #v[.none,.bool false,.bool false,.ref (H2 h a b).objs.size,.ref (H3 h a b).objs.size]}
def made(a b:ci)(c e:Array cr):Meets (Builtin.«zip.__new__» #[[.type "zip",.ref a,.ref b],[]]) (λ_ R s=>s.heap.IsTuple a c/\s.heap.IsTuple b e/\R (.ok<|.ret<|.ref (H4 s.heap a b).objs.size) { s with heap:=H5 s.heap a b}) :=
 .of_wp λf w A R s h=>by
  obtain⟨i,g,d,j,k⟩:=s;obtain⟨m,n,h⟩:=h;have l:=sub_zip;have o:qu (Shared.heap #[i,g,d,j,k]) a c:=m;have p:qu (Shared.heap #[i.push<|tI a,g,d,j,k]) b e:=Heap.IsTuple.push n _
  wp_walk using qP o,qP p
  exact#[_,rfl,h]
def QO(n:s.heap.IsTuple a p)(q:s.heap.IsTuple b r)
 (h:∀d,ZSt d (⇑s+4) (⇑s+2) (⇑s+3) ⇑s (⇑s+1) a b .none 0 p r->d.objs.size=⇑s+5->(∀c o,s.heap.get? c=↑o->d.get? c=↑o)->Q (.ref<|⇑s+4) { s with heap:=d}) :
    gZ (g8 t w) A (call (.type "zip") [.ref a,.ref b]) Q E s:=by
  refine callType_new F.called_zip q0q (F.typeCall_zip_2 _ _) (F.newCall_zip_2 _ _) (λf=>F.args_object_init_3 f _ _) F.entry_zip_new (made a b p r) #[n,q,?_]
  have g:(H1 s.heap a).objs.size=⇑s+1:=jB ..
  have i:(H2 s.heap a b).objs.size=⇑s+2:=by rw[jB,g]
  have j:(H3 s.heap a b).objs.size=⇑s+3:=by rw[jB,i]
  have k:(H4 s.heap a b).objs.size=⇑s+4:=by rw[jB,j]
  have z:(H5 s.heap a b).objs.size=⇑s+5:=by rw[jB,k]
  have l:(H5 s.heap a b).get? (H4 s.heap a b).objs.size=↑_:=hI _ rfl
  have u:(H5 s.heap a b).get? (H3 s.heap a b).objs.size=↑_:=ce _<|hI _ rfl
  have v:(H5 s.heap a b).get? (H2 s.heap a b).objs.size=↑_:=ce _<|ce _<|hI _ rfl
  have y:(H5 s.heap a b).get? (H1 s.heap a).objs.size=↑_:=ce _<|ce _<|ce _<|hI _ rfl
  have B:(H5 s.heap a b).get? ⇑s=↑_:=ce _<|ce _<|ce _<|ce _<|hI _ rfl
  have m:∀c o,s.heap.get? c=↑o->(H5 s.heap a b).get? c=↑o:=λc o x=>ce _<|ce _<|ce _<|ce _<|ce _ x
  rw[i,j,k]at l;rw[g,i]at v;rw[j]at u;rw[g]at y;rw[k]
  exact#[#[_,l,rfl],h _ #[l,v,#[_,_,u],#[_,B,rfl,rfl],#[_,y,rfl,rfl],n.at λo e=>m _ o e,q.at λo e=>m _ o e] z m]
def walk(hh:A.handled=none)(z TI TO i1 i2 l1 l2:ci)(D:ZipApart z TI TO i1 i2 l1 l2)(xs ys:Array cr):WalksT prog w A z [z,TI,TO,i1,i2,l1,l2] [z,TO,i1,i2] (min xs.size ys.size)
   (λi vals=>∃x y,xs[i]?=↑x/\ys[i]?=↑y/\vals=#v[x,y]) (λi h=>ZSt h z TI TO i1 i2 l1 l2 .none i xs ys)
   (λi T h=>ZSt h z TI TO i1 i2 l1 l2 (lO T) (i+1) xs ys/\T≠z/\T≠TO/\T≠i1/\T≠i2) where
 sub:=λc hc=>by simp only[io,ja,mf]at hc ⊢;rcases hc with q|q|q|q<;>simp[q]
 frame:=λi h h' st k=>by obtain⟨hz,hTI,⟨a,b,hTO⟩,h1,h2,hl1,hl2⟩:=st;exact#[k z q0o _ hz,k TI q0o _ hTI,#[a,b,k TO q0o _ hTO],h1.at λo e=>k i1 q0o o e,h2.at λo e=>k i2 q0o o e,hl1.at λo e=>k l1 q0o o e,hl2.at λo e=>k l2 q0o o e]
 item:=λi s Q E hi st hQ=>by have ix:i<xs.size:=ic hi<|Nat.min_le_left ..;have iy:i<ys.size:=ic hi<|Nat.min_le_right ..;have hT:s.TypeIs (.ref z) "zip":=⟨_,st.1,rfl⟩;unfold pyNext;refine am<|o6<|wpAny_callSpecial?_slot (name:=lW "__next__") hT pJ<|iT pJ hT F.entry_zip_next (UO D st (jr ix) (jr iy) λh' a1 a2 a3 a4 a5 k=>ap ?_)<|F.args_zip_next_1 _;obtain⟨hz,hTI,⟨a,b,hTO⟩,h1,h2,hl1,hl2⟩:=st;have lt:∀{c o},s.heap.get? c=some o->⇑s≠c:=λe=>jj<|gX e;refine hQ ⇑s #v[xs[i],ys[i]] h' s.toks ⟨_,_,jr ix,jr iy,rfl⟩ (gQ _) ⟨_,a5,rfl,_,rfl⟩ ⟨⟨a1,k _ _ D.TIz D.TITO D.TIi1 D.TIi2 hTI,⟨_,_,a2⟩,a3,a4,hl1.at λo e=>k _ o D.l1z D.l1TO D.l1i1 D.l1i2 e,hl2.at λo e=>k _ o D.l2z D.l2TO D.l2i1 D.l2i2 e⟩,lt hz,lt hTO,by obtain⟨_,e,_⟩:=h1;exact lt e,by obtain⟨_,e,_⟩:=h2;exact lt e⟩ ?_;exact λc o hc e=>k c o (λx=>hc<|by simp[x]) (λx=>hc<|by simp[x]) (λx=>hc<|by simp[x]) (λx=>hc<|by simp[x]) e
 go:=λelts k pos i T s Q E hm hQ=>by obtain⟨⟨hz,hTI,⟨a,b,hTO⟩,h1,h2,hl1,hl2⟩,_⟩:=hm;refine wpAny_letOwnedTupleGo_zip hz λh' hz' e=>hQ h' #[hz',e.extBut _ _ D.TIz hTI,#[a,b,e.extBut _ _ D.TOz hTO],h1.extBut e.extBut D.i1z,h2.extBut e.extBut D.i2z,hl1.extBut e.extBut D.l1z,hl2.extBut e.extBut D.l2z] λc o hc q=>e.extBut _ _ (λx=>hc<|by simp[x]) q
 apart:=λi T h hm hT=>by obtain⟨_,t1,t2,t3,t4⟩:=hm;simp only[io,ja,mf]at hT;rcases hT with q|q|q|q;exact t1 q;exact t2 q;exact t3 q;exact t4 q
 done:=λs Q E st hQ=>by
  have a2x:xs[min xs.size ys.size]?=none\/ys[min xs.size ys.size]?=none:=by
   rcases Nat.le_total xs.size ys.size with h|h
   ·rw[Nat.min_eq_left h];exact .inl<|sw<|gQ _
   ·rw[Nat.min_eq_right h];exact .inr<|sw<|gQ _
  have hT:s.TypeIs (.ref z) "zip":=#[_,st.1,rfl];unfold pyNext;refine am<|o6<|wpAny_callSpecial?_slot (name:=lW "__next__") hT pJ<|iT pJ hT F.entry_zip_next (Yw hh D st a2x λh' e k he=>?_)<|F.args_zip_next_1 _;obtain⟨o,ho,hc⟩:=he;exact am<|mn (T:="StopIteration") (b:=true) ⟨o,ho,hc⟩ isSubtype_stop<|ap<|hQ _ s.toks λc o hc e=>k c o (λx=>hc<|by simp[x]) (λx=>hc<|by simp[x]) (λx=>hc<|by simp[x]) (λx=>hc<|by simp[x]) e
 self:=λi s Q E st hQ=>wpAny_pyIter_zip st.1 hQ
end ZT
namespace L2
open PySem PySem.Spec PyProof.Rows
def a2y:Ql X (yZ X.K) P:=#[λ{v J H1 g a b L M x} m N y A B=>by
 obtain⟨n,C,p,O⟩:=m.tuple y;obtain⟨q,D,r,R⟩:=m.tuple A;have h:g.heap.get? P=↑(qV x):=m.vK P _ B;have i:qu g.heap a n.toArray:=p;have j:qu g.heap b q.toArray:=r
 have f:∀(l:ci)(d:Array cr),g.heap.IsTuple l d->l≠P:=λl d s=>e1a3 s λo e c _ z=>by rw[z,h]at e;cases e;cases c
 have k:∀(l:ci)(d:Array cr),g.heap.IsTuple l d->l<⇑g:=λl d s=>e1a2 s λo e _=>gX e;refine#[n,q,C,D,k _ _ i,k _ _ j,f _ _ i,f _ _ j,λQ E F=>ZT.QO i j λG t u H=>?_]
 exact F G _ _ (λS I=>(ZT.walk (prog:=X.prog) (w:=X.w) I _ _ _ _ _ _ _ (zipApart_new (k _ _ i) (k _ _ j)) n.toArray q.toArray).toU) t u H]
end L2
namespace HT
variable[L2.GX]
open PySem PySem.Spec PyProof.Rows
def AX{a:Option Int}(b:IsTup s.heap t items)(i:s.heap.IsSliceOf sl k l .none)(m:qg k a)(n:qg l c)
 (hw:w4 items.size 0 a=0/\w4 items.size items.size c=items.size)(h:Q (.ref t) s):gZ (g8 j w) A (oh (.ref t)<|.ref sl) Q E s:=by
  refine e1a3 (id i) λo d e p=>?_
  have f:s.TypeIs (.ref sl) "slice":=#[o,d,e]
  unfold oh
  try with_reducible refine iD ?_
  first|refine am (ap ?_)|skip
  refine am<|wpAny_sequenceKey b.typeIs q0q ?_
  refine am (wpAny_callSpecial?_slot (name:=lW "__getitem__") b.typeIs kA
    (iT kA b.typeIs entry_tuple_getitem ?_ (args_tuple_getitem _ _)))
  show gZ _ _ (qa (.ref t) >>= _) _ _ s
  refine am<|tupleItemsOf_ b ?_
  refine am<|kQ f ?_
  rw[gN q0q]
  refine am<|y8 i m n ?_
  have g:(((w4 items.size 0 a:Nat):Int)==0&&(1:Int)==1&&(w4 items.size items.size c-w4 items.size 0 a)==items.size)=true:=by
    rw[hw.1,hw.2]
    simp
  show gZ _ _ (if (((w4 items.size 0 a:Nat):Int)==0&&(1:Int)==1&&(w4 items.size items.size c-w4 items.size 0 a)==items.size)=true then _ else _) _ _ s
  rw[gN g]
  refine am<|am<|kQ b.typeIs<|ap ?_
  rw[gN q0q]
  first
    | exact am<|md<|ap #[_,rfl,ap h]
    | exact am<|md<|am<|ap<|ap #[_,rfl,ap h]
    | exact am<|am<|md<|ap<|ap #[_,rfl,ap h]
end HT
namespace L2
variable[L2.GX]
open PySem PySem.Spec PyProof.Rows
def a0q(K:gO):V->Option Int->Option Int->Hp->VK->Prop:=λx c d H Q=>∃a b,x=.ref a/\yZ K H a b/\(HT.w4 b.length 0 c=0/\HT.w4 b.length b.length d=b.length)/\Q (.ref a) H
def UP:WB X (a0q X.K):=by
 intro d s n H x v o p t u w Q I f g i j h;obtain⟨a,k,rfl,l,m,q⟩:=h;cases f;refine e1a3 (I.tuple l) λc r e y=>?_;have b:c.toArray.size=k.length:=by rw[hJ];exact r.length.symm
 refine#["tuple",_,PyProof.Rows.slot_tuple_getitem.lookup,e.typeIs,?_];exact HT.AX e g i j (by rw[b];exact m) #[.ref a,H,I,rfl,q]
end L2
namespace WL
variable[L2.GX]
open PySem L2
open Rep (rp)
open Ow (sl)
open Sls (rel)
section
variable{D:Type}[Sls D]
def v6.QP{F R:Rg}{H c:Hp}{d:D}{f:St}(s:v6 T F R H d f)(k:∀b o,b≠T->H b=↑o->c b=↑o)(t:TabAt c T):Ch T F R H F R c/\v6 T F R c d f:=by
 refine#[#[λb o _ n h=>k b o n h,λ_ h=>.inl h,λ_ h=>.inl h,λ_ h _=>h],Sls.st s.rel (G:=λa=>a=T) #[λb o n h=>k b o n h,λ_ h=>.inl h] (λa h=>by rw[h];exact s.vN)<|λa h z=>s.vE (by rw[<- z];exact h),s.sub,λa h=>?_,t,s.vN,s.vE];by_cases e:a=T
 ·rw[e];exact zd t
 ·cases q:H a with
  |none=>exact hV q<|s.xk a h
  |some o=>rw[k a o e q];simp
def Eu{x:Tp Int}(h:rp R H x v):∃a,v=.ref a/\H a=↑(.tup<|x.l.map V.int):=by refine e2a4 h λa vs e _ h3 h4=>?_;exact#[a,e,by rw[h3,paired_ints h4]]
def Ev{x:List Int}(h:rp R H x v):∃a,v=.ref a/\H a=↑(.lst<|x.map V.int):=by refine e2a4 h λa vs e _ h3 h4=>?_;exact#[a,e,by rw[h3,paired_ints h4]]
def QQ(B:EW X E T i G)(I:EW X E T f J)(L:∀{j:TA},PA X [i,f] j->PE X e (Z5 X.K T j))
 (M:gP [i,f] X.env=(false,eval i X.env)::gP [f] X.env:=by rfl) (l:gP [f] X.env=(false,eval f X.env)::gP [] X.env:=by rfl) :
    EW X E T e (λ(d:D)(q:Bool->D->Prop) g=>G d (λN m=>J m (λO n=>q (zv N O) n) g) g):=by
  refine e1a2 B λj P S=>?_
  refine e1a2 I λtb U W=>?_
  refine#[_,L<|uZ P (uZ U vk l) M,λd F R r H q g Q s Y Z w=>?_]
  refine S d F R r H _ g _ s Y (λx m u F1 R1 H1 q1 z h r1=>?_) w
  refine W m F1 R1 r H1 _ g _ h q1 (λy n v F2 R2 H2 q2 A o r2=>?_) λC y d' F' R' p k c s'=>w C y d' F' R' p k (Ch.trans s h.tab z c) s'
  obtain⟨a,rfl,ha⟩:=Ev<|h.val A r1
  obtain⟨b,rfl,hb⟩:=Ev r2
  refine#[a,b,x,y,rfl,wo.of ha,wo.of hb,o.tab,λp k _ t=>?_]
  obtain⟨c3,s3⟩:=o.QP k t
  exact Z _ n _ F2 R2 p q2 (Ch.trans s h.tab z<|Ch.trans h o.tab A c3) s3 rfl
def QR{r w:Wf D (Tp Int) D}(J:EW X E T i r)(L:EW X E T f w)(M:∀{j:TA},PA X [i,f] j->PE X e (X7 X.K T j))
 (N:gP [i,f] X.env=(false,eval i X.env)::gP [f] X.env:=by rfl) (m:gP [f] X.env=(false,eval f X.env)::gP [] X.env:=by rfl) :
    EW X E T e (λ(d:D)(z:Bool->D->Prop) g=>r d (λO n=>w n (λP o=>z (zv O.l P.l) o) g) g):=by
  refine e1a2 J λj S U=>?_
  refine e1a2 L λtb W Y=>?_
  refine#[_,M<|uZ S (uZ W vk m) N,λd F R A H z g Q s Z kn B=>?_]
  refine U d F R A H _ g _ s Z (λx n u F1 R1 H1 q1 G h r1=>?_) B
  refine Y n F1 R1 A H1 _ g _ h q1 (λy o v F2 R2 H2 q2 I p r2=>?_) λC y d' F' R' q k c s'=>B C y d' F' R' q k (Ch.trans s h.tab G c) s'
  obtain⟨a,rfl,ha⟩:=Eu<|h.val I r1
  obtain⟨b,rfl,hb⟩:=Eu r2
  refine#[a,b,x.l,y.l,rfl,yZ.of ha,yZ.of hb,p.tab,λq k _ t=>?_]
  obtain⟨c3,s3⟩:=p.QP k t
  exact kn _ o _ F2 R2 q q2 (Ch.trans s h.tab G<|Ch.trans h p.tab I c3) s3 rfl
def Om{N O:Option iL}{P:Wf D (Tp Int) D}{S U:Wf D (Option Int) D}(ha:EW X E T a P)(hl:OW X E T N S)(hh:OW X E T O U) :
  EW X E T (.Subscript a (.Slice N O none p2) pos) (λ(d:D)(W:Tp Int->D->Prop) f=>P d (λg r=>S r (λl t=>U t (λh n=>W #[FD g.l l h] n) f) f) f):=by
 refine e1a2 ha λta a1 a2=>?_;refine e1a2 hl λtl l1 l2=>?_;refine e1a2 hh λth h1 h2=>?_;refine#[_,zZ (XA.or UP) a1 l1 h1,λd F R v H W f Q s j Y w=>?_];refine a2 d F R v H _ f _ s j (λg r u F1 R1 H1 q1 x i r1=>?_) w;refine l2 r F1 R1 v H1 _ f _ i q1 (λl t F2 R2 H2 q2 Z z=>?_) λC y A B G I k c J=>w C y A B G I k (Ch.trans s i.tab x c) J;refine h2 t F2 R2 v H2 _ f _ z q2 (λh n F3 R3 H3 q3 c3 o=>?_) λC y A B G I k c J=>w C y A B G I k (Ch.trans s i.tab x<|Ch.trans i z.tab Z c) J;have m:=Ch.trans i z.tab Z c3;have r3:=i.val m r1;obtain⟨q,b,rfl,k1,L,M⟩:=id r3;have cc:=Ch.trans s i.tab x m;have le:=Paired.length M;by_cases j:HT.w4 b.length 0 l=0/\HT.w4 b.length b.length h=b.length
 ·refine .inr #[q,b,rfl,yZ.of L,j,?_];refine Y _ n _ F3 R3 H3 q3 cc o #[q,b,rfl,k1,L,?_]
  have e:FD g.l l h=g.l:=by unfold FD;rw[le,j.1,j.2,List.drop_zero,Nat.sub_zero,<- le,uO]
  rw[e];exact M
 ·refine .inl #[q,b,rfl,yZ.of L,j,λp hp=>?_];refine e0a3 (o.new (.tup<|DZ b l h) hp) λs4 c4 n4=>?_;exact Y _ n _ F3 R3 _ q3 (Ch.trans s o.tab cc c4) s4 #[p,_,rfl,n4,uV,o.vals c4<|Ek M l h]
end
structure SI(w:iR) where
 l:List Int
instance(w:iR):Ow (SI w):=#[λF _ H x v=>∃a ks,v=↑(.ref a)/\(∀b,F b↔b=a)/\H a=↑(xi w a ks)/\ks.Nodup/\(∀k,k∈ks↔k∈x.l)/\x.l.Pairwise (· < ·),
 λh e s n=>by
  refine e2a4 h λa ks h1 h2 h3 h4=>?_
  exact#[a,ks,h1,h2,e.keep a _ (n a<|(h2 a).mpr rfl) h3,h4],
 λh e=>by
  refine e2a4 h λa ks h1 h2 h3 h4=>?_
  exact#[a,ks,h1,λb=>(e b).symm.trans (h2 b),h3,h4]]
noncomputable def FG(k:Int)(l:List Int):List Int:=if k∈l then l else ins k l
noncomputable def K5(k:Int)(l:List Int):List Int:=l.filter λx=>decide<|x≠k
def wn{a b:List Int}(c:a.Nodup)(d:b.Nodup)(h:∀k,k∈a↔k∈b):a.Perm b:=(List.perm_ext_iff_of_nodup c d).mpr h
def ve{l:List Int}(h:l.Pairwise (· < ·)):l.Nodup:=h.imp λq=>Int.ne_of_lt q
def MW{l:List Int}(h:l.Pairwise (· < ·)):l.Pairwise (·<=·):=h.imp λq=>Int.le_of_lt q
def QS{l:List Int}(h:l.Pairwise (·<=·))(n:l.Nodup):l.Pairwise (· < ·):=List.Pairwise.imp₂ (λa b (q:a<=b) (n:a≠b)=>by lia) h n
def yw{k:Int}:k∈Af l↔k∈l:=(wx l).mem_iff
def Ew{a:List Int}(n:a.Nodup)(h:∀k,k∈a↔k∈l)(r:l.Pairwise (· < ·)):Af a=l:=zf ((wx a).trans<|wn n (ve r) h) (AK a)<|MW r
set_option tactic.hygienic true in
def BS{k x:Int}:x∈FG k l↔x=k\/x∈l:=by
 unfold FG;split
 ·rename_i h
  exact#[.inr,λz=>z.elim (λe=>by rw[e];exact h) id]
 ·rw[(Ah k l).mem_iff,io]
set_option tactic.hygienic true in
def DD{k:Int}{l:List Int}(r:l.Pairwise (· < ·)):(FG k l).Pairwise (· < ·):=by
 unfold FG;split
 ·exact r
 ·rename_i h
  exact QS (GY k l<|MW r)<|(Ah k l).nodup_iff.mpr<|List.nodup_cons.mpr #[h,ve r]
def Ak{k x:Int}:x∈K5 k l↔x∈l/\x≠k:=by unfold K5;rw[jo];simp
section
variable{D PO τ:Type}[Sls D][Sls PO][Ow τ]{α:Type}[Rep α]
def UQ(j:X.w=w)(l:Gl X "set")(m:X.mg "set"=none):EO X E T (.Call (.Name "set" p) [] [] pos) (λ(d:D)(e:SI w->D->Prop) _=>e #[[]] d):=by
 subst j;refine#[_,Kt Oh l m oa,λd F R v H e x Q s n r y=>#[rfl,λp c=>?_]];refine e0a3 (s.new (xi X.w p []) c) λf t g=>?_;have u:¬F p:=λz=>g<|s.sub p z;have i:Ext (λ_=>False) R H (λa=>R a\/a=p) (upd H p<|xi X.w p []):=⟨λb o _ h=>by rw[uR<|vc h c];exact h,λa h=>h.elim .inl λq=>.inr<|by rw[q];exact c⟩;refine r ⟨[]⟩ d _ (λa=>a=p) F (λa=>R a\/a=p) _ n #[t.keep,i.new,λa h=>h.elim (λq=>.inr<|by rw[q];exact c) .inl,λa h _=>.inl h] #[Sls.st s.rel i (λ_ z=>z.elim)<|λ_ _ z=>z,λa h=>.inl<|s.sub a h,λa h=>?_,f.tab,.inl s.vN,s.vE] #[#[p,[],rfl,λb=>Iff.rfl,uV,mG,λ_=>Iff.rfl,iw],λa h=>.inr h,λa h k=>u (by rw[<- h];exact k),λh=>g<|by rw[<- h];exact s.vN];rcases h with h|h
 ·exact f.xk a h
 ·rw[h,uV];simp
def tw_inS(i:Nat)(m:X.w=w)[Sls n][A:At i D (SI w) n](o:EW X E T a q)(r:PE X (.Name x p) (vC i))(t:iV .In (.Name x p)=false) :
  TW X E T (.Compare a [.In] [.Name x p] pos) (λ(d:D) g f=>q d (λk c=>g (decide<|k∈(A.get c).l) c) f):=by
 subst m;refine e1a2 o λY y z=>?_;refine#[_,xT X9 y r t,λd F R B H g f Q s C G I=>z d F R B H _ f _ s C (λk c u J L M N O h P=>?_) I];obtain⟨v,Z,G2,S,h2,⟨b,j,rfl,g2,U,g4,W,g6⟩,_⟩:=A.take h.rel;refine#[_,S,k,b,j,P,rfl,U,_,rfl,?_];have e:decide (k∈j)=decide (k∈(A.get c).l):=by simp only[W]
 rw[e];exact G _ c J L M N O h
def DE{i:Nat}[Sls x][A:At i D (SI w) x][U:Pt i x (SI w) D](s:v6 T F R H d y):∃a g,y[i]?=↑(some<|.ref a)/\H a=↑(xi w a g)/\g.Nodup/\(∀k,k∈g↔k∈(A.get d).l)/\(A.get d).l.Pairwise (· < ·) /\
  ∀(j f:List Int),f.Nodup->(∀k,k∈f↔k∈j)->j.Pairwise (· < ·)->Ch T F R H F R (upd H a<|xi w a f)/\v6 T F R (upd H a<|xi w a f) (U.put (A.hole d) #[j]) y:=by
 obtain⟨v,W,X,B,m,⟨a,g,rfl,p,C,E,G,I⟩,J⟩:=A.take s.rel;have r:F a:=(m.all a).mpr<|.inl<|(p a).mpr rfl;have L:a≠T:=λz=>s.vE (by rw[<- z];exact r);refine#[a,g,B,C,E,G,I,λj f M N O=>?_];have P:=zy (F:=F) (R:=R) (H:=H) (a:=a) (o:=xi w a f);have Q:∀c,c=a->R c:=λc z=>by rw[z];exact s.sub a r
 have k:∀b u,b≠a->H b=↑u->upd H a (xi w a f) b=↑u:=λb u z e=>by rw[uR z];exact e
 refine#[#[λb o n _ e=>k b o (λz=>n<|by rw[z];exact r) e,λ_ h=>.inl h,λ_ h=>.inl h,λ_ h _=>h],Pt.same (A:=U) (Sls.st J P Q λc z q=>m.ym c ((p c).mpr q) z) B m #[a,f,rfl,p,uV,M,N,O],s.sub,λc z=>?_,?_,s.vN,s.vE]
 ·by_cases e:c=a
  ·rw[e,uV];simp
  ·rw[uR e];exact s.xk c z
 ·refine e1a2 s.tab λS e t=>?_;exact#[S,k _ _ (λz=>L z.symm) e,t]
set_option tactic.hygienic true in
def UR(i:Nat)(W:X.w=w)[Sls B][A:At i D (SI w) B][U:Pt i B (SI w) D][J:Pj D PO n](h:EW X E T e Y)
 (Z:∀{t:TA},PA X [e] t->PS X (.Expr (.Call (.Attribute (.Name x p1) "add" p2) [e] [] p3) pos) (IM<|Ya X.w (λx vs H Q=>∃(a:ci)(g:List Int)(k:Int),x=.ref a/\vs=[.int k]/\H a=↑(xi X.w a g)/\g.length+1<=127/\∀b:List Int,b.Nodup->b.Perm (if k∈g then g else k::g)->Q .wF (upd H a<|xi X.w a b)) (vC i) t)) (hs:gP [e] X.env=(false,eval e X.env)::gP [] X.env:=by rfl) :
    S1 X E T ms n (.Expr (.Call (.Attribute (.Name x p1) "add" p2) [e] [] p3) pos) (λ(d:D)(I:D->Prop)(Kr:τ->PO->Prop) L=>Y d (λy f=>(A.get f).l.length<127/\I (U.put (A.hole f) #[FG y (A.get f).l])) λC f=>L C<|J.pj f):=by
  subst W
  refine e1a2 h λt h1 h2=>?_
  refine#[_,Z<|uZ h1 vk hs,λd F R M H I Kr L En s hw kn kr ke=>?_]
  refine e2a4 (DE (i:=i) s) λa g j p g3 _=>?_
  refine#[_,j,#[a,g,rfl,p],h2 d F R M H _ _ _ s hw (λy f v N u O q c m r=>?_) λC y f N u O q c m=>?_]
  · obtain⟨a', b, P, k2, k3, o, S, k6⟩ := DE (i := i) m
    rw[j]at P
    cases P
    subst r
    have aa:b.length=(A.get f).l.length:=(wn k3 (ve S) o).length_eq
    refine#[a,b,y,rfl,rfl,k2,by have:=q.1;lia,λus nu pu=>?_]
    obtain⟨c2,s2⟩:=k6 (FG y (A.get f).l) us nu (λk=>by
      rw[pu.mem_iff,BS]
      split
      · rename_i hy
        rw[o]
        exact#[.inr,λz=>z.elim (λe=>by rw[e];exact(o y).mp hy) id]
      · rw[io, o]) (DD S)
    exact kn _ N u _ M q.2 (Ch.trans s m.tab c c2) s2<|Ag.refl _ _
  · refine e1a2 (wH (PO := PO) m) λG j p => ?_
    exact ke C y _ G u O q (c.less j) p
set_option tactic.hygienic true in
def US(i:Nat)(Y:X.w=w)[Sls B][A:At i D (SI w) B][U:Pt i B (SI w) D][J:Pj D PO n](h:EW X E T e Z)
 (hb:∀{t:TA},PA X [e] t->PS X (.Expr (.Call (.Attribute (.Name x p1) "discard" p2) [e] [] p3) pos) (IM<|Ya X.w (λx vs H Q=>∃(a:ci)(g:List Int)(k:Int),x=.ref a/\vs=[.int k]/\H a=↑(xi X.w a g)/\∀b:List Int,b.Nodup->(if k∈g then g.Perm (k::b) else b=g)->Q .wF (upd H a<|xi X.w a b)) (vC i) t)) (hs:gP [e] X.env=(false,eval e X.env)::gP [] X.env:=by rfl) :
    S1 X E T ms n (.Expr (.Call (.Attribute (.Name x p1) "discard" p2) [e] [] p3) pos) (λ(d:D)(I:D->Prop)(Kr:τ->PO->Prop) L=>Z d (λy f=>I<|U.put (A.hole f) ⟨K5 y (A.get f).l⟩) λC f=>L C<|J.pj f):=by
  subst Y
  refine e1a2 h λt h1 h2=>?_
  refine#[_,hb<|uZ h1 vk hs,λd F R M H I Kr L En s hw kn kr ke=>?_]
  refine e2a4 (DE (i:=i) s) λa g j p g3 _=>?_
  refine#[_,j,#[a,g,rfl,p],h2 d F R M H _ _ _ s hw (λy f v N u O q c m r=>?_) λC y f N u O q c m=>?_]
  · obtain⟨a', b, P, k2, k3, k4, k5, k6⟩ := DE (i := i) m
    rw[j]at P
    cases P
    subst r
    refine#[a,b,y,rfl,rfl,k2,λS nu o=>?_]
    obtain⟨c2,s2⟩:=k6 (K5 y (A.get f).l) S nu (λk=>by
      rw[Ak,<- k4]
      split at o
      · rename_i W
        have nk:y∉S:=(List.nodup_cons.mp<|o.nodup_iff.mp k3).1
        rw[o.mem_iff,io]
        exact#[λz=>#[.inr z,λe=>nk<|by rw[<- e];exact z],λz=>z.1.elim (λe=>hV e z.2) id]
      · rename_i W
        rw[o]
        exact#[λz=>#[z,λe=>W (by rw[<- e];exact z)],λz=>z.1]) (jS _ k5)
    exact kn _ N u _ M q (Ch.trans s m.tab c c2) s2<|Ag.refl _ _
  · refine e1a2 (wH (PO := PO) m) λG j p => ?_
    exact ke C y _ G u O q (c.less j) p
def K6(i:Nat)(j:X.w=w)[Sls k][A:At i D (SI w) k](m:X.calm=true)(n:Gl X "sorted")(o:X.mg "sorted"=none)(q:PE X (.Name x r) (vC i)) :
  EO X E T (.Call (.Name "sorted" p) [.Name x r] [] pos) (λ(d:D)(b:OL Int->D->Prop) _=>(A.get d).l.length<64/\b #[(A.get d).l] d):=by
 subst j;refine#[_,wJ (BJ m) n o ku<|uZ q vk,λd F R N H b O Q s c t P=>?_];obtain⟨v,S,U,u,W,⟨a,e,rfl,Y,y,f,g,h⟩,Z⟩:=A.take s.rel;have z:e.length=(A.get d).l.length:=(wn f (ve h) g).length_eq;refine#[_,u,a,e,rfl,y,by have:=c.1;omega,λl ns B C G=>?_];rw[Ej C G,Ew f g h];refine e1a3 (xH s B<|xZ (R:=R) (H:=H) (A.get d).l) λI J L M=>?_;exact t _ d _ _ F I _ c.2 J L M
def G8{K:gO}{xs:List α}{vs:List V}:Zh (Itt K a) xs (λR H=>H a=↑(.tup vs)/\Paired (rp R H) xs vs) where
 go:=λ{R H i} p h=>by refine e1a2 (wV (i:=i) (x:=xs[i]) p.2<|by simp[h]) λv e _=>?_;exact#[vs,v,yZ.of p.1,e]
 Iy:=λ{R H i v H'} p _ hi y=>by obtain⟨e,y⟩:=y;subst e;have y':=y vs<|yZ.of p.1;refine e1a2 (wV (i:=i) (x:=xs[i]) p.2<|by simp[hi]) λu e r=>?_;rw[y']at e;cases e;exact#[.inl rfl,_,by simp[hi],r]
 stop:=λ{R H} p=>#[vs,yZ.of p.1,by rw[Paired.length p.2];exact gQ _]
def QT{w:Wf D (Tp α) D}(h:EW X E T e w):IW X E T is tg e (λ(b:D)(_:List α)=>b) (λ(d:D) Kn Ke=>w d (λx d'=>Kn x.l d') Ke):=by refine e1a2 h λt h1 h2=>?_;refine#[_,Xr h1,λd F R σ H Kn Ke Rk s hw kn ke=>h2 d F R σ H _ _ _ s hw (λxs d' v F' R' H' q c s' r=>?_) ke];obtain⟨a,vs,rfl,r1,r2,r3⟩:=r;refine#[a,rfl,#[vs,yZ.of r2],kn xs.l d' _ (λR H=>(H a=↑(.tup vs)/\Paired (rp R H) xs.l vs)/\¬R a) F' (λ_=>False) F' R' H' q c s'.Iz (two_nil F') s'.rel #[λp=>G8.go p.1,λp=>G8.Iy p.1,λp=>G8.stop p.1] #[#[r2,r3],r1] (λp gs nf ex=>?_) λb' G2 WQ J2 QA σ' p h g t=>Sls.fq h<|two_eq t λ_ z=>z];have na:¬_:=λz=>p.2<|gs a z;exact#[#[ex.keep a _ na p.1.1,wl (ex.wide gs) p.1.2],ex.not p.2 p.1.1]
def Ex{a:il}[Sls c][J:Pj D PO n](e:PS X a (Qt C E<|A1 (tC x) Bj)):S1 X E T j n a (λ(d:D)(_:c->Prop)(_:τ->PO->Prop) b=>b C<|J.pj d):=by refine⟨_,e,λd F R k H l m b o s f p q g=>#[(by show 1<=gS;decide),λy=>?_]⟩;refine e1a2 (wH (PO:=PO) s) λG h i=>?_;exact g C y _ G R H f ((61).less h) i
end
def wQ(l:List Int):Prop:=l.Pairwise (· < ·)
noncomputable def asc(a:List Int):Bool:=zv a<|a.drop 1
def a0r(b:List c):FD b ↑1 none=b.drop 1:=by
 unfold FD;rw[HT.IV,show ↑(1:Int)=some ((1:Nat):Int) from rfl,HT.MC]
 cases b with
 |nil=>rfl
 |cons a r =>
  rw[show min 1 (a::r).length=1 by simp,js];rw[mV];exact gQ _
def QU{a b:Int}:asc (a::b::r)=(decide (a<b)&&asc (b::r)):=rfl
def yx:∀(c:List Int),asc c=true↔wQ c
 | []=>#[λ_=>iw,λ_=>rfl]
 | [a]=>#[λ_=>jL _ _,λ_=>rfl]
 |a::b::r=>by
  rw[QU,iJ,iU,yx (b::r)];constructor
  ·rintro⟨d,f⟩;refine List.pairwise_cons.mpr #[λx g=>?_,f];rcases List.mem_cons.mp g with e|e
   ·rw[e];exact d
   ·exact Int.lt_trans d<|(List.pairwise_cons.mp f).1 x e
  ·intro h;exact#[(List.pairwise_cons.mp h).1 b gR,(List.pairwise_cons.mp h).2]
def G9(a:wQ b)(c:wQ d)(h:∀k,k∈b↔k∈d):b=d:=zf (wn (ve a) (ve c) h) (MW a)<|MW c
noncomputable def K8(l:List Int)(k:Int):List Int:=if k∈l then K5 k l else FG k l
def MX{k:Int}(h:wQ l):wQ (K8 l k):=by
 unfold K8;split
 ·exact jS _ h
 ·exact DD h
set_option tactic.hygienic true in
def UT{k x:Int}:x∈K8 l k↔((x∈l)↔¬x=k):=by
 unfold K8;split
 ·rename_i h
  rw[Ak];constructor
  ·intro⟨a,b⟩;exact#[λ_=>b,λ_=>a]
  ·intro z;by_cases e:x=k
   ·rw[e]at z;exact hV (z.mp h) q0o
   ·exact#[z.mpr e,e]
 ·rename_i h
  rw[BS];constructor
  ·rintro(a|a)
   ·subst a;exact#[λz=>hV z h,λz=>hV rfl z]
   ·exact#[λ_ e=>h (by rw[<- e];exact a),λ_=>a]
  ·intro z;by_cases e:x=k
   ·exact .inl e
   ·exact .inr<|z.mpr e
noncomputable def xr(l r:List Int):List Int:=r.foldl K8 l
def xJ:∀{r l:List Int},wQ l->wQ (xr l r)
 | [],_,h=>h
 |_::r,_,h=>xJ (r:=r)<|MX h
def zA:∀{r l:List Int} {x:Int},r.Nodup->(x∈xr l r↔((x∈l)↔¬x∈r))
 | [],l,x,_=>by simp[xr]
 |k::r,l,x,h=>by
  have a:=List.nodup_cons.mp h;show x∈xr (K8 l k) r↔_;rw[zA a.2,UT,io];by_cases e:x=k
  ·subst e;simp[a.1]
  ·simp[e]
def Ey{r:List Int}{x:Int}(a:r.Nodup)(h:x∈xr l r):x∈l\/x∈r:=by
 rw[zA a]at h;by_cases q:x∈r
 ·exact .inr q
 ·exact .inl<|h.mpr q
noncomputable def Pf(a:List (List Int)):List Int:=a.foldl xr []
def BU:∀{rows:List (List Int)} {l:List Int},wQ l->wQ (rows.foldl xr l)
 | [],_,h=>h
 |_::r,_,h=>BU (rows:=r)<|xJ h
def UU(a:List (List Int)):wQ (Pf a):=BU iw
def wp{l U:List Int}(h:wQ l)(s:∀x∈l,x∈U):l.length<=U.length:=SX.zb _ _ (ve h) s
noncomputable def jn(a b:List Int):List Int:=Af<|a.filter (λk=>!decide (k∈b))++b.filter λk=>!decide (k∈a)
def Hc{k:Int}:k∈jn a b↔(k∈a/\k∉b)\/(k∈b/\k∉a):=by unfold jn;rw[yw,lj,jo,jo];simp
def Hd(c:wQ d)(f:wQ g):wQ (jn d g):=by refine QS (AK _)<|(wx _).nodup_iff.mpr<|List.nodup_append.mpr ⟨jS _<|ve c,jS _<|ve f,λa h b i e=>?_⟩;subst e;have j:=(List.mem_filter.mp h).1;have k:=(List.mem_filter.mp i).2;simp[j]at k
def QV(e:wQ c)(f:wQ d):jn c d=xr c d:=G9 (Hd e f) (xJ e) λk=>by rw[Hc,zA<|ve f];by_cases a:k∈c<;>by_cases b:k∈d<;>simp[a,b]
def vZ:∀{a:List k} {K:List g->S->Prop},(∀x∈a,∀K:Option g->S->Prop,K (f x) s->b x s K)->K (a.filterMap f) s->BR b a s K:=by
 intro i
 induction i with
 |nil=>intro _ _ h;exact h
 |cons x a c =>
  intro K d h;refine d x gR _<|c (λy j=>d y<|gU _ j) ?_
  have e:(x::a).filterMap f=(f x).toList++a.filterMap f:=by rw[kM];cases f x<;>rfl
  rw[e]at h;exact h
def filterMap_filter(p:b->Bool):∀a:List b,a.filterMap (λx=>if p x=true then some x else none)=a.filter p
 | []=>rfl
 |x::a=>by rw[kM,ju,filterMap_filter p a];cases p x<;>rfl
def vM(I:List j->B->Prop):∀(a:List j) {s:B},I a s->(∀x r s,(∃p,a=p++x::r)->I (x::r) s->∀K:B->Prop,(∀c,I r c->K c)->b x s K k l)->(∀s,I [] s->m s)->G6 b a s m k l:=by
 intro d
 induction d with
 |nil=>intro s h _ f;exact f s h
 |cons x a g=>intro s h i f;exact i x a s #[[],rfl] h _ λc n=>g n (λy r o d=>e1a1 d λp e q=>i y r o #[x::p,by rw[e];rfl] q) f
def vO{n:Nat}(h:n<=1000):n<=gS:=lU<|N3 h
structure Bd(C:ci)(fl:Bool) where
 rk:List (Int×Int)
 bd:List (Int×List Int)
 up:Int
 ht:List (Int×Int)
 th:List (Int×Int)
noncomputable def lk{a:Type}(l:List (Int×a))(k:Int):Option a:=(l.find? λe=>decide<|e.1=k).map (·.2)
noncomputable def Bv(l:List (Int×Int)):List (Key×V):=l.map λe=>(iu e.1,V.int e.2)
def BV(R:Rg)(H:Hp):List (Int×List Int)->List (Key×V)->Prop:=Paired λe u=>u.1=iu e.1/\rp R H (Tp.mk e.2) u.2
noncomputable def yH(a b c d:ci)(e:Int)(f:Bool):List (Str×V):=("ranks",.ref a)::("borders",.ref b)::("upcoming",.int e)::(if f=true then [("head_by_tail",.ref c),("tail_by_head",.ref d)] else [])
noncomputable def adr(p dx d1 d2 d3 d4:ci)(fl:Bool):List ci:=p::dx::d1::d2::(if fl=true then [d3,d4] else [])
structure Ez(C:ci)(fl:Bool)(R:Rg)(H:Hp)(x:Bd C fl)(p dx d1 d2 d3 d4:ci)(us:List (Key×V)):Prop where
 nd:(adr p dx d1 d2 d3 d4 fl).Nodup
 ob:H p=↑(.ins C dx<|yH d1 d2 d3 d4 x.up fl)
 ow:H dx=↑(.own p)
 rk:H d1=↑(.dK<|Bv x.rk)
 bd:H d2=↑(.dK us)
 tu:BV R H x.bd us
 ht:fl=true->H d3=↑(.dK<|Bv x.ht)
 th:fl=true->H d4=↑(.dK<|Bv x.th)
def DF{R R':Rg}{H H':Hp}(e:Ext R R H R' H'):∀{l:List (Int×List Int)} {us:List (Key×V)},BV R H l us->BV R' H' l us:=by
 intro _ _ z
 induction z with
 |nil=>exact .nil
 |cons h t ih=>exact .cons #[h.1,Rep.st h.2 e] ih
def Ez.st{C:ci}{fl:Bool}{G R R':Rg}{H H':Hp}{x:Bd C fl}{p dx d1 d2 d3 d4:ci}{us:List (Key×V)}(b:Ez C fl R H x p dx d1 d2 d3 d4 us)(e:Ext G R H R' H')(s:∀a,G a->R a)(n:∀a,a∈adr p dx d1 d2 d3 d4 fl->¬G a):Ez C fl R' H' x p dx d1 d2 d3 d4 us :=
 #[b.nd,e.keep _ _ (n _<|by simp[adr]) b.ob,e.keep _ _ (n _<|by simp[adr]) b.ow,e.keep _ _ (n _<|by simp[adr]) b.rk,e.keep _ _ (n _<|by simp[adr]) b.bd,DF (e.wide s) b.tu,λh=>e.keep _ _ (n _<|by simp[adr,h])<|b.ht h,λh=>e.keep _ _ (n _<|by simp[adr,h])<|b.th h]
instance(C:ci)(fl:Bool):Ow (Bd C fl):=#[λF R H x v=>∃p dx d1 d2 d3 d4 us,v=↑(.ref p)/\(∀b,F b↔b∈adr p dx d1 d2 d3 d4 fl)/\Ez C fl R H x p dx d1 d2 d3 d4 us,
 λh e s n=>by
  obtain⟨p,dx,d1,d2,d3,d4,us,h1,h2,h3⟩:=h
  exact#[p,dx,d1,d2,d3,d4,us,h1,h2,h3.st e s λa z=>n a<|(h2 a).mpr z],
 λh e=>by
  obtain⟨p,dx,d1,d2,d3,d4,us,h1,h2,h3⟩:=h
  exact#[p,dx,d1,d2,d3,d4,us,h1,λb=>(e b).symm.trans (h2 b),h3]]
instance(C:ci)(fl:Bool):Hs (Bd C fl):=#[λz9=>e7a2 z9 λ_ _ _ _ _ _ _ h _=>#[_,h]]
def Jq{R L:Rg}{H:Hp}(k:∀a,L a->∃b,H a=↑(.lst b)):∀{l:List (Int×List Int)} {b:List (Key×V)},BV R H l b->BV (λa=>R a\/L a) H l b
 |_,_,.nil=>.nil
 |_,_,.cons h t=>.cons #[h.1,KY.no h.2 k]<|Jq k t
instance(C:ci)(fl:Bool):UH (Bd C fl):=#[λ{F R L H x v} h k=>by
 obtain⟨p,dx,d1,d2,d3,d4,us,h1,h2,b⟩:=h
 exact#[p,dx,d1,d2,d3,d4,us,h1,h2,b.nd,b.ob,b.ow,b.rk,b.bd,Jq k b.tu,b.ht,b.th]]
structure zR(K:gO)(C:ci):Prop where
 cl:AW K C
 nR:vR K C "ranks"
 nB:vR K C "borders"
 nU:vR K C "upcoming"
structure Pg(K:gO)(C:ci):Prop where
 nH:vR K C "head_by_tail"
 nT:vR K C "tail_by_head"
def yy(k:Int):∀l:List (Int×Int),yq (Bv l) (iu k)=(lk l k).map V.int
 | []=>rfl
 |e::l=>by
  by_cases h:e.1=k
  ·show yq ((iu e.1,V.int e.2)::Bv l) _=_;rw[y9<|by rw[h]];unfold lk;rw[iQ,decide_eq_true h];rfl
  ·show yq ((iu e.1,V.int e.2)::Bv l) _=_;rw[za (by intro z;exact h<|nO z),yy k l];unfold lk;rw[iQ,ie h]
def EA{R:Rg}{H:Hp}{k:Int}:∀{l:List (Int×List Int)} {us:List (Key×V)},BV R H l us->(∀b,lk l k=↑b->∃v,yq us (iu k)=↑v/\rp R H (Tp.mk b) v)/\(lk l k=none->yq us (iu k)=none):=by
 intro z0 z1 z9
 induction z9 with
 |nil=>exact#[(λb h=>by cases h),λ_=>rfl]
 | @cons e u l us h t Yx =>
  obtain⟨i1,i2⟩:=Yx;by_cases q:e.1=k
  ·have e1:lk (e::l) k=↑e.2:=by unfold lk;rw[iQ,decide_eq_true q];rfl
   rw[e1];refine#[λb hb=>?_,(λz=>by cases z)];cases hb;exact#[u.2,y9 (by rw[h.1,q]),h.2]
  ·have e1:lk (e::l) k=lk l k:=by unfold lk;rw[iQ,ie q]
   rw[e1,za<|by rw[h.1];intro z;exact q<|nO z];exact#[i1,i2]
noncomputable def pk{a:Type}(l:List (Int×a))(k:Int)(v:a):List (Int×a):=if (lk l k).isSome then l.map (λe=>if e.1=k then (e.1,v) else e) else l++[(k,v)]
noncomputable def dk{a:Type}(l:List (Int×a))(k:Int):List (Int×a):=l.filter λe=>decide<|e.1≠k
def UV(l:List (Int×Int))(k v:Int):putK (Bv l) (iu k) (V.int v)=Bv (pk l k v):=by
 unfold putK pk;rw[Ab,yy,iN]
 cases (lk l k).isSome with
 |true =>
  rw[gN rfl,gN rfl];unfold Bv;rw[kj,kj];refine l8 λe _=>?_;show (if (iu e.1:Key)=iu k then _ else _)=(λe:Int×Int=>((iu e.1:Key),V.int e.2)) (if e.1=k then (e.1,v) else e);by_cases h:e.1=k
  ·rw[gN (by rw[h]),gN h]
  ·rw[gM<|λz=>h<|nO z,gM h]
 |false =>
  rw[gM g9,gM g9];unfold Bv;rw[j7];rfl
def Jr(l:List (Int×Int))(k:Int):Aa (Bv l) (iu k)=Bv (dk l k):=by
 unfold Aa dk Bv;rw[rc];congr 1;refine mI λe _=>?_;by_cases h:e.1=k
 ·simp[h]
 ·simp[h]
def Js{R:Rg}{H:Hp}{k:Int}{b:List Int}{v:V}(h:rp R H (Tp.mk b) v):∀{l:List (Int×List Int)} {us:List (Key×V)},BV R H l us->BV R H (l++[(k,b)]) (us++[(iu k,v)])
 |_,_,.nil=>.cons #[rfl,h] .nil
 |_,_,.cons q t=>.cons q<|Js h t
def QW{R:Rg}{H:Hp}{l:List (Int×List Int)}{us:List (Key×V)}{k:Int}{b:List Int}{v:V}(t:BV R H l us)(hn:lk l k=none)(h:rp R H (Tp.mk b) v):BV R H (pk l k b) (putK us (iu k) v):=by unfold pk;rw[hn,PZ _<|(EA t).2 hn];exact Js h t
def On{R:Rg}{H:Hp}{k:Int}:∀{l:List (Int×List Int)} {us:List (Key×V)},BV R H l us->BV R H (dk l k) (Aa us<|iu k):=by
 intro z0 z1 z9
 induction z9 with
 |nil=>exact .nil
 | @cons e u l us h t Yx =>
  have ih:=Yx;unfold dk Aa at ih ⊢;rw[ju,ju];by_cases q:e.1=k
  ·rw[gM (by simpa using q),gM<|by rw[h.1];simpa using q];exact ih
  ·rw[gN (by simpa using q),gN<|by rw[h.1];simpa using q];exact .cons h ih
inductive ID where
 | rk|ht|th
noncomputable abbrev ID.nm:ID->Str
 | .rk=>"ranks" | .ht=>"head_by_tail" | .th=>"tail_by_head"
noncomputable abbrev ID.get{C:ci}{a:Bool}:ID->Bd C a->List (Int×Int)
 | .rk,x=>x.rk|.ht,x=>x.ht|.th,x=>x.th
noncomputable abbrev ID.set{C:ci}{a:Bool}:ID->Bd C a->List (Int×Int)->Bd C a
 | .rk,x,l=>{ x with rk:=l}|.ht,x,l=>{ x with ht:=l}|.th,x,l=>{ x with th:=l}
def ID.ok:ID->Bool->Prop
 | .rk,_=>True|.ht,fl=>fl=true|.th,fl=>fl=true
def nd4(h:(a::b::c::d::r).Nodup):(a≠b/\a≠c/\a≠d/\∀x∈r,a≠x)/\(b≠c/\b≠d/\∀x∈r,b≠x)/\(c≠d/\∀x∈r,c≠x)/\(∀x∈r,d≠x)/\r.Nodup:=by have g:=List.nodup_cons.mp h;have i:=List.nodup_cons.mp g.2;have j:=List.nodup_cons.mp i.2;have k:=List.nodup_cons.mp j.2;simp only[io,pP]at g i j;exact#[#[g.1.1,g.1.2.1,g.1.2.2.1,λx f e=>g.1.2.2.2<|by rw[e];exact f],⟨i.1.1,i.1.2.1,λx f e=>i.1.2.2<|by rw[e];exact f⟩,⟨j.1.1,λx f e=>j.1.2<|by rw[e];exact f⟩,λx f e=>k.1 (by rw[e];exact f),k.2]
def Al(b:Ez C fl R H x p r k l g i s)(q:ID)(t:q.ok fl):∃d,(yH k l g i x.up fl).lookup q.nm=↑(.ref d)/\H d=↑(.dK<|Bv<|q.get x)/\d∈adr p r k l g i fl /\
  ∀j,R d->Ez C fl R (upd H d<|.dK<|Bv j) (q.set x j) p r k l g i s:=by
 have f:=nd4 b.nd;have m:∀d j,R d->BV R (upd H d<|.dK<|Bv j) x.bd s:=λd j h=>DF ((zy (F:=R) (R:=R) (H:=H) (a:=d) (o:=.dK<|Bv j)).wide λc z=>by rw[z];exact h) b.tu
 cases q with
 |rk =>
  refine#[k,rfl,b.rk,by simp[adr],λj h=>#[b.nd,by rw[uR f.1.2.1];exact b.ob,by rw[uR f.2.1.1];exact b.ow,uV,by rw[uR f.2.2.1.1.symm];exact b.bd,m _ _ h,λz=>?_,λz=>?_]]
  ·rw[uR (f.2.2.1.2 g<|by rw[gN z];simp).symm];exact b.ht z
  ·rw[uR (f.2.2.1.2 i<|by rw[gN z];simp).symm];exact b.th z
 |ht =>
  have z:fl=true:=t;subst z;have n:=List.nodup_cons.mp f.2.2.2.2;refine#[g,rfl,b.ht rfl,by simp[adr],λj h=>#[b.nd,by rw[uR<|f.1.2.2.2 g q0o];exact b.ob,by rw[uR<|f.2.1.2.2 g q0o];exact b.ow,by rw[uR<|f.2.2.1.2 g q0o];exact b.rk,by rw[uR<|f.2.2.2.1 g q0o];exact b.bd,m _ _ h,λ_=>uV,λ_=>?_]];rw[uR<|λe=>n.1<|by rw[<- e];simp];exact b.th rfl
 |th =>
  have z:fl=true:=t;subst z;have n:=List.nodup_cons.mp f.2.2.2.2;refine#[i,rfl,b.th rfl,by simp[adr],λj h=>#[b.nd,by rw[uR<|f.1.2.2.2 i q0o];exact b.ob,by rw[uR<|f.2.1.2.2 i q0o];exact b.ow,by rw[uR<|f.2.2.1.2 i q0o];exact b.rk,by rw[uR<|f.2.2.2.1 i q0o];exact b.bd,m _ _ h,λ_=>?_,λ_=>uV]];rw[uR<|λe=>n.1<|by rw[e];simp];exact b.ht rfl
section
variable{D PO τ:Type}[Sls D][Sls PO][Ow τ]
def wA{i:Nat}[Sls I][A:At i D (Bd C fl) I](s:v6 T F R H d J):∃p f g j l m y,J[i]?=↑(some<|.ref p)/\Ez C fl R H (A.get d) p f g j l m y/\(∀a∈adr p f g j l m fl,R a) /\
  ∀{U:Pt i I (Bd C fl) D} {a:ci} {o:HO} {B:Bd C fl} {r:List (Key×V)},a∈adr p f g j l m fl->Ez C fl R (upd H a o) B p f g j l m r->Ch T F R H F R (upd H a o)/\v6 T F R (upd H a o) (U.put (A.hole d) B) J:=by
 obtain⟨v,W,X,L,E,⟨p,f,g,j,l,m,y,rfl,G,M⟩,N⟩:=A.take s.rel;have w:∀a∈adr p f g j l m fl,F a:=λa h=>(E.all a).mpr<|.inl<|(G a).mpr h;refine⟨p,f,g,j,l,m,y,L,M,λa h=>s.sub a<|w a h,λ{U a o B r} x O=>?_⟩;have P:=zy (F:=F) (R:=R) (H:=H) (a:=a) (o:=o);have Q:∀c,c=a->R c:=λc z=>by rw[z];exact s.sub a<|w a x
 have k:∀b u,b≠a->H b=↑u->upd H a o b=↑u:=λb u z e=>by rw[uR z];exact e
 refine#[#[λb o n _ e=>k b o (λz=>n<|by rw[z];exact w a x) e,λ_ h=>.inl h,λ_ h=>.inl h,λ_ h _=>h],Pt.same (A:=U) (Sls.st N P Q λc z q=>E.ym c ((G c).mpr<|by rw[q];exact x) z) L E ⟨p,f,g,j,l,m,r,rfl,G,O⟩,s.sub,λc z=>?_,?_,s.vN,s.vE]
 ·by_cases e:c=a
  ·rw[e,uV];simp
  ·rw[uR e];exact s.xk c z
 ·refine e1a2 s.tab λS e t=>?_;exact#[S,k _ _ (λz=>s.vE<|by rw[z];exact w a x) e,t]
def K9(q:ID)(b:Bool)(i:Nat)[Sls U][A:At i D (Bd C fl) U](W:q.ok fl)(Y:AW X.K C)(Z:vR X.K C q.nm)(G:X.A.units+1<kG)(hk:EW X E T a wk)(I:PE X (.Name x l) (vC i))(J:iG (.Name x l) q.nm X.env (eval (.Name x l) X.env)=eval (.Name x l) X.env:=by rfl)
 (L:iV (if b then .NotIn else .In) (.Attribute (.Name x l) q.nm p2)=false:=by with_unfolding_all rfl):EW X E T (.Compare a [if b then .NotIn else .In] [.Attribute (.Name x l) q.nm p2] pos) (λ(d:D)(r:Bool->D->Prop) m=>wk d (λk c=>r (if b then !(lk (q.get<|A.get c) k).isSome else (lk (q.get<|A.get c) k).isSome) c) m):=by
  refine e1a2 hk λta M N=>?_
  have O:∀{c:D} {h j:Rg} {e:Hp} {f:St} {k:Int} {Q:VK},v6 T h j e c f->Q (.bl<|if b then !(lk (q.get<|A.get c) k).isSome else (lk (q.get<|A.get c) k).isSome) e->Xy X.K (vC i) q.nm f e λy P=>∃a o,y=.ref a/\yf P a (.int k) o/\Q (.bl<|if b then !o.isSome else o.isSome) P:=λ{c h j e f k Q} g n=>by
    obtain⟨p,dx,e1,e2,e3,e4,us,g1,S,_,_⟩:=wA (i:=i) g
    refine e1a4 (Al S q W) λd l1 l2 _ _=>?_
    refine#[_,g1,p,C,dx,_,_,rfl,S.ob,Y,Z,l1,d,_,rfl,yf.k (k:=iu k) l2,?_]
    rw[yy,iN]
    exact n
  cases b with
  |false=>exact#[_,Pk (P2 G M (wU I J)) L,λd F R f H r m Q s t n v=>N d F R f H _ m _ s t (λk c u h j e w z g B=>by
      subst B
      exact O g (n _ c _ h j e w z g rfl)) v]
  |true=>exact#[_,Pk (Cy G M (wU I J)) L,λd F R f H r m Q s t n v=>N d F R f H _ m _ s t (λk c u h j e w z g B=>by
      subst B
      exact O g (n _ c _ h j e w z g rfl)) v]
def tw_dIn(q:ID)(b:Bool)(i:Nat)[Sls W][A:At i D (Bd C fl) W](Y:q.ok fl)(Z:AW X.K C)(nf:vR X.K C q.nm)(I:X.A.units+1<kG)(hk:EW X E T a wk)(J:PE X (.Name x m) (vC i))(L:iG (.Name x m) q.nm X.env (eval (.Name x m) X.env)=eval (.Name x m) X.env:=by rfl)
 (M:iV (if b then .NotIn else .In) (.Attribute (.Name x m) q.nm p2)=false:=by with_unfolding_all rfl):TW X E T (.Compare a [if b then .NotIn else .In] [.Attribute (.Name x m) q.nm p2] pos) (λ(d:D)(t:Bool->D->Prop) n=>wk d (λk e=>t (if b then !(lk (q.get<|A.get e) k).isSome else (lk (q.get<|A.get e) k).isSome) e) n):=by
  refine e1a2 hk λta N O=>?_
  have P:∀{e:D} {j l:Rg} {f:Hp} {g:St} {k:Int} {Q:VK},v6 T j l f e g->Q (.bl<|if b then !(lk (q.get<|A.get e) k).isSome else (lk (q.get<|A.get e) k).isSome) f->Xy X.K (vC i) q.nm g f λy S=>∃a o,y=.ref a/\yf S a (.int k) o/\Q (.bl<|if b then !o.isSome else o.isSome) S:=λ{e j l f g k Q} h r=>by
    obtain⟨p,dx,e1,e2,e3,e4,us,g1,U,_,_⟩:=wA (i:=i) h
    refine e1a4 (Al U q Y) λd l1 l2 _ _=>?_
    refine#[_,g1,p,C,dx,_,_,rfl,U.ob,Z,nf,l1,d,_,rfl,yf.k (k:=iu k) l2,?_]
    rw[yy,iN]
    exact r
  cases b with
  |false=>exact#[_,Ka (P2 I N (wU J L)) M,λd F R g H t n Q s v r w=>O d F R g H _ n _ s v (λk e u j l f z B h G=>by
      subst G
      exact P (Q:=λy H=>∃c,y=.bl c/\Q c H) h #[_,rfl,r _ e j l f z B h]) w]
  |true=>exact#[_,Ka (Cy I N (wU J L)) M,λd F R g H t n Q s v r w=>O d F R g H _ n _ s v (λk e u j l f z B h G=>by
      subst G
      exact P (Q:=λy H=>∃c,y=.bl c/\Q c H) h #[_,rfl,r _ e j l f z B h]) w]
def EV(X:Cx)(T:ci)(e:iL){D α:Type}[Sls D][Rep α](f:D->α):Prop :=
 ∃t,PE X e t/\∀(d:D)(F R:Rg)(σ:St)(H:Hp)(Q:VK),v6 T F R H d σ->(∀v,rp R H (f d) v->Q v H)->t σ H Q
def wg[Rep a][Sls b](i:Nat)[A:At i D a b](c:PE X (.Name y pos) (vC i)):EV X T (.Name y pos) (λ(d:D)=>A.get d):=by refine#[_,c,λd F R h H Q s e=>?_];obtain⟨v,j,k,f,l,⟨_,u,rfl,g⟩,_⟩:=A.take s.rel;exact#[u,f,e u g]
def QX{m:Int}{k:Nat}:EV X T (.Constant (.int m) k pos) (λ(_:D)=>m):=#[_,vt,λd F R b H Q s a=>a _ rfl]
def DG(q:ID)(i:Nat)[Sls h][A:At i D (Bd C fl) h](j:q.ok fl)(l:AW X.K C)(m:vR X.K C q.nm)(n:X.A.units+1<kG)(o:PE X (.Name x b) (vC i))(t:EV X T a f)(u:iG (.Name x b) q.nm X.env (eval (.Name x b) X.env)=eval (.Name x b) X.env:=by rfl)(w:P0 a:=by intro _ _;rfl) :
  EW X E T (.Subscript (.Attribute (.Name x b) q.nm W) a pos) (λ(d:D)(c:Int->D->Prop) _=>∃v,lk (q.get<|A.get d) (f d)=↑v/\c v d):=by
 refine e1a2 t λY B G=>?_;refine#[_,GG n (wU o u) B w,λd F R I H c Z Q s J L ke=>?_];obtain⟨p,M,e1,e2,e3,e4,us,N,e,_,_⟩:=wA (i:=i) s;refine e1a4 (Al e q j) λy O P _ _=>?_;refine#[_,N,p,C,M,_,_,rfl,e.ob,l,m,O,G d F R I H _ s λv r=>?_];subst r;refine e1a2 J λz S U=>?_;have g:=yf.k (k:=iu<|f d) P;rw[yy,S]at g;exact#[y,_,rfl,g,L z d _ F R H U 61 s rfl]
def AQ(i:Nat)[Sls h][A:At i D (Bd C fl) h](j:AW X.K C)(l:vR X.K C "borders")(m:X.A.units+1<kG)(n:PE X (.Name x b) (vC i))(o:EV X T a f)(q:iG (.Name x b) "borders" X.env (eval (.Name x b) X.env)=eval (.Name x b) X.env:=by rfl)(t:P0 a:=by intro _ _;rfl) :
  EW X E T (.Subscript (.Attribute (.Name x b) "borders" U) a pos) (λ(d:D)(e:Tp Int->D->Prop) _=>∃v,lk (A.get d).bd (f d)=↑v/\e #[v] d):=by
 refine e1a2 o λW u y=>?_;refine#[_,GG m (wU n q) u t,λd F R B H e Y Q s G I Z=>?_];obtain⟨p,J,e1,L,e3,e4,us,M,c,_,_⟩:=wA (i:=i) s;refine#[_,M,p,C,J,_,_,rfl,c.ob,j,l,rfl,y d F R B H _ s λv r=>?_];subst r;refine e1a2 G λz N O=>?_;refine e1a2 ((EA c.tu).1 z N) λw P S=>?_;have g:=yf.k (k:=iu<|f d) c.bd;rw[P]at g;exact#[L,w,rfl,g,I #[z] d _ F R H O 61 s S]
def UW(q:ID)(i:Nat)[Sls g][A:At i D (Bd C fl) g](h:q.ok fl)(j:AW X.K C)(k:vR X.K C q.nm)(l:Gl X "len")(m:X.mg "len"=none)(n:PE X (.Name x a) (vC i))(o:iG (.Name x a) q.nm X.env (eval (.Name x a) X.env)=eval (.Name x a) X.env:=by rfl)
 (b:gP [.Attribute (.Name x a) q.nm c] X.env=(false,eval (.Attribute (.Name x a) q.nm c) X.env)::gP [] X.env:=by rfl) :
    EW X E T (.Call (.Name "len" B) [.Attribute (.Name x a) q.nm c] [] pos) (λ(d:D)(e:Int->D->Prop) _=>e ((q.get<|A.get d).length:Int) d):=by
  refine#[_,wJ N4 l m mD (uZ (wU n o) vk b) (he:=b),λd F R G H e I Q s r t J=>?_]
  obtain⟨p,u,L,M,N,O,P,v,f,_,_⟩:=wA (i:=i) s
  refine e1a4 (Al f q h) λy w z _ _=>?_
  refine#[_,v,p,C,u,_,_,rfl,f.ob,j,k,w,y,_,rfl,z,t _ d _ F R H r 61 s ?_]
  show V.int _=V.int _
  unfold Bv
  rw[gV]
def EB(q:ID)(i:Nat)[Sls h][A:At i D (Bd C fl) h](j:q.ok fl)(k:AW X.K C)(m:vR X.K C q.nm)(n:X.calm=true)(o:Gl X "sorted")(r:X.mg "sorted"=none)(t:PE X (.Name x a) (vC i))(u:iG (.Name x a) q.nm X.env (eval (.Name x a) X.env)=eval (.Name x a) X.env:=by rfl)
 (b:gP [.Attribute (.Name x a) q.nm c] X.env=(false,eval (.Attribute (.Name x a) q.nm c) X.env)::gP [] X.env:=by rfl) :
    EO X E T (.Call (.Name "sorted" S) [.Attribute (.Name x a) q.nm c] [] pos) (λ(d:D)(e:OL Int->D->Prop) _=>(q.get<|A.get d).length<64/\e #[Af ((q.get<|A.get d).map (·.1))] d):=by
  refine#[_,wJ (GU n) o r ku (uZ (wU t u) vk b) (he:=b),λd F R U H e W Q s f v Y=>?_]
  obtain⟨p,w,Z,e2,e3,e4,us,z,g,_,_⟩:=wA (i:=i) s
  refine e1a4 (Al g q j) λy B G _ _=>?_
  refine#[_,z,p,C,w,_,_,rfl,g.ob,k,m,B,y,_,(q.get<|A.get d).map (·.1),rfl,G,?_,by rw[gV];exact f.1,λl ns I J L=>?_]
  · unfold Bv
    rw[kj,kj]
    rfl
  · rw[Ej J L]
    refine e1a3 (xH s I (xZ (R:=R) (H:=H) (Af ((q.get<|A.get d).map (·.1))))) λM N O P=>?_
    exact v _ d _ _ F M _ f.2 N O P
def WX(i:Nat)[Sls c][A:At i D (Bd C fl) c](e:AW X.K C)(f:vR X.K C "upcoming")(g:PE X (.Name x a) (vC i))(h:iG (.Name x a) "upcoming" X.env (eval (.Name x a) X.env)=eval (.Name x a) X.env:=by rfl) :
  EW X E T (.Attribute (.Name x a) "upcoming" pos) (λ(d:D)(b:Int->D->Prop) _=>b (A.get d).up d):=by
 refine#[_,wU g h,λd F R o H b q Q s j k r=>?_];obtain⟨p,l,t,u,v,w,y,m,n,_,_⟩:=wA (i:=i) s;exact#[_,m,p,C,l,_,_,rfl,n.ob,e,f,rfl,k _ d _ F R H j 61 s rfl]
def He(q:ID)(i:Nat)[Sls o][A:At i D (Bd C fl) o][U:Pt i o (Bd C fl) D][J:Pj D PO n](O:q.ok fl)(P:AW X.K C)(Q:vR X.K C q.nm)(S:X.A.units+1<kG)(W:PE X (.Name x g) (vC i))(Y:EV X T a f)(Z:EW X E T e we)(hb:iG (.Name x g) q.nm X.env (eval (.Name x g) X.env)=eval (.Name x g) X.env:=by rfl)
 (hs:jW e (some<|.Subscript (.Attribute (.Name x g) q.nm p2) a p3) pos.line X.env=pure false:=by rfl) :
    S1 X E T ms n (.Assign [.Subscript (.Attribute (.Name x g) q.nm p2) a p3] e pos) (λ(d:D)(t:D->Prop)(Kr:τ->PO->Prop) z=>we d (λv b=>(q.get<|A.get b).length<gS/\t (U.put (A.hole b)<|q.set (A.get b)<|pk (q.get<|A.get b) (f b) v)) λC B=>z C<|J.pj B):=by
  refine e1a2 Y λta a1 a2=>?_
  refine e1a2 Z λte b1 b2=>?_
  refine#[_,GH S (wU W hb) a1 b1 hs,λd F R j H t Kr z En s hw kn kr ke=>b2 d F R j H _ _ _ s hw (λv b u I L H1 M c1 l r1=>?_) λC y B F' R' H' q c s'=>?_]
  · obtain⟨p, dx, e1, e2, e3, e4, us, m, h, g3, g4⟩ := wA (i := i) l
    refine e1a4 (Al h q O) λy l1 l2 N l4=>?_
    subst r1
    refine#[_,m,p,C,dx,_,_,rfl,h.ob,P,Q,l1,a2 b I L j H1 _ l λw r=>?_]
    subst r
    obtain⟨c2,s2⟩:=g4 (U:=U) N<|l4 (pk (q.get<|A.get b) (f b) v)<|g3 y N
    refine#[y,_,rfl,GF.k (k:=iu<|f b) l2 (by unfold Bv;rw[gV];exact M.1),?_]
    rw[UV]
    exact kn _ I L _ j M.2 (Ch.trans s l.tab c1 c2) s2<|Ag.refl _ _
  · refine e1a2 (wH (PO := PO) s') λG m h => ?_
    exact ke C y _ G R' H' q (c.less m) h
def EC(b:Ez C fl R H y p i j f g h m)(k:R f)(t:BV R H l d):Ez C fl R (upd H f<|.dK d) { y with bd:=l} p i j f g h d:=by have e:=nd4 b.nd;exact⟨b.nd,by rw[uR e.1.2.2.1];exact b.ob,by rw[uR e.2.1.2.1];exact b.ow,by rw[uR e.2.2.1.1];exact b.rk,uV,DF ((zy (F:=R) (R:=R) (H:=H) (a:=f) (o:=.dK d)).wide λc z=>by rw[z];exact k) t,λz=>by rw[uR (e.2.2.2.1 g<|by rw[gN z];simp).symm];exact b.ht z,λz=>by rw[uR (e.2.2.2.1 h<|by rw[gN z];simp).symm];exact b.th z⟩
def UX(i:Nat){o:Type}[Sls o][A:At i D (Bd C fl) o][U:Pt i o (Bd C fl) D][J:Pj D PO n]{f:D->Int}{L:Wf D (Tp Int) D}(Y:AW X.K C)(Z:vR X.K C "borders")(hu:X.A.units+1<kG)(hn:PE X (.Name x j) (vC i))(hk:EV X T a f)(he:EW X E T e L)(hb:iG (.Name x j) "borders" X.env (eval (.Name x j) X.env)=eval (.Name x j) X.env:=by rfl)
 (hs:jW e (some<|.Subscript (.Attribute (.Name x j) "borders" p2) a p3) pos.line X.env=pure false:=by rfl) :
    S1 X E T ms n (.Assign [.Subscript (.Attribute (.Name x j) "borders" p2) a p3] e pos) (λ(d:D)(M:D->Prop)(Kr:τ->PO->Prop) N=>L d (λv g=>(A.get g).bd.length<gS/\lk (A.get g).bd (f g)=none/\M (U.put (A.hole g) { A.get g with bd:=pk (A.get g).bd (f g) v.l})) λC O=>N C<|J.pj O):=by
  refine e1a2 hk λta a1 a2=>?_
  refine e1a2 he λte b1 b2=>?_
  refine#[_,GH hu (wU hn hb) a1 b1 hs,λd F R t H M Kr N En s hw kn kr ke=>b2 d F R t H _ _ _ s hw (λv g u P Q H1 z c1 B r1=>?_) λC y O F' R' H' q c s'=>?_]
  · obtain⟨p, S, e1, m, e3, e4, us, I, h, g3, g4⟩ := wA (i := i) B
    have W:m∈adr p S e1 m e3 e4 fl:=by simp[adr]
    refine#[_,I,p,C,S,_,_,rfl,h.ob,Y,Z,rfl,a2 g P Q t H1 _ B λw r=>?_]
    subst r
    obtain⟨c2,s2⟩:=g4 (U:=U) W<|EC h (g3 m W)<|QW (b:=v.l) h.tu z.2.1 r1
    exact#[m,_,rfl,GF.k (k:=iu<|f g) h.bd (by rw[<- Paired.length h.tu];exact z.1),kn _ P Q _ t z.2.2 (Ch.trans s B.tab c1 c2) s2<|Ag.refl _ _]
  · refine e1a2 (wH (PO := PO) s') λG I h => ?_
    exact ke C y _ G R' H' q (c.less I) h
def a0s(i:Nat)[Sls t][A:At i D (Bd C fl) t][U:Pt i t (Bd C fl) D][J:Pj D PO n](Q:AW X.K C)(S:vR X.K C "upcoming")(W:PE X (.Name x w) (vC i))(Y:EW X E T e Z)(hs:jW e (some<|.Attribute (.Name x w) "upcoming" p2) pos.line X.env=pure false:=by rfl) :
  S1 X E T ms n (.Assign [.Attribute (.Name x w) "upcoming" p2] e pos) (λ(d:D)(B:D->Prop)(Kr:τ->PO->Prop) I=>Z d (λv h=>B<|U.put (A.hole h) { A.get h with up:=v}) λC L=>I C<|J.pj L):=by
 refine e1a2 Y λte b1 b2=>?_;refine#[_,Cw W b1 hs,λd F R M H B Kr I En s hw kn kr ke=>b2 d F R M H _ _ _ s hw (λv h u F1 m N q1 c1 O r1=>?_) λC y L F' R' H' q c s'=>?_]
 ·obtain⟨p,o,j,k,f,g,us,r,b,g3,g4⟩:=wA (i:=i) O;subst r1;have P:p∈adr p o j k f g fl:=by simp[adr]
  have l:=nd4 b.nd;have eq:zY "upcoming" (V.int v) (yH j k f g (A.get h).up fl)=yH j k f g v fl:=rfl;have nb:Ez C fl m (upd N p<|.ins C o<|yH j k f g v fl) { A.get h with up:=v} p o j k f g us:=⟨b.nd,uV,by rw[uR l.1.1.symm];exact b.ow,by rw[uR l.1.2.1.symm];exact b.rk,by rw[uR l.1.2.2.1.symm];exact b.bd,DF ((zy (F:=m) (R:=m) (H:=N) (a:=p)).wide λc z=>by rw[z];exact g3 p P) b.tu,λz=>by rw[uR (l.1.2.2.2 f<|by rw[gN z];simp).symm];exact b.ht z,λz=>by rw[uR (l.1.2.2.2 g<|by rw[gN z];simp).symm];exact b.th z⟩;obtain⟨c2,s2⟩:=g4 (U:=U) P nb;refine#[_,r,p,C,o,_,rfl,b.ob,Q,S,?_,?_]
  ·unfold yH;split<;>(simp only[ij,nj];decide)
  ·rw[eq];exact kn _ F1 m _ M q1 (Ch.trans s O.tab c1 c2) s2<|Ag.refl _ _
 ·refine e1a2 (wH (PO:=PO) s') λG r b=>?_;exact ke C y _ G R' H' q (c.less r) b
def MY(q:ID)(i:Nat)[Sls c][A:At i D (Bd C fl) c][U:Pt i c (Bd C fl) D][J:Pj D PO n](t:q.ok fl)(u:AW X.K C)(v:vR X.K C q.nm)(z:PE X (.Name x b) (vC i))(B:EV X T a f)(G:∀{e g:TE},PE X (.Attribute (.Name x b) q.nm h) e->PE X a g->PS X (.Delete [.Subscript (.Attribute (.Name x b) q.nm h) a I] pos) (P1 e g))(L:iG (.Name x b) q.nm X.env (eval (.Name x b) X.env)=eval (.Name x b) X.env:=by rfl) :
  S1 X E T ms n (.Delete [.Subscript (.Attribute (.Name x b) q.nm h) a I] pos) (λ(d:D)(j:D->Prop)(M:τ->PO->Prop)(N:ci->PO->Prop)=>(lk (q.get<|A.get d)<|f d).isSome=true/\j (U.put (A.hole d)<|q.set (A.get d)<|dk (q.get<|A.get d)<|f d)):=by
 refine e1a2 B λta O P=>?_;refine#[_,G (wU z L) O,λd F R k H j M N En s l Q kr ke=>?_];obtain⟨p,S,e1,e2,e3,e4,us,W,m,Y,Z⟩:=wA (i:=i) s;refine e1a4 (Al m q t) λy l1 l2 o l4=>?_;refine#[_,W,p,C,S,_,_,rfl,m.ob,u,v,l1,P d F R k H _ s λw r=>?_];subst r;obtain⟨c2,s2⟩:=Z (U:=U) o<|l4 (dk (q.get<|A.get d)<|f d)<|Y y o;refine#[y,_,iu<|f d,rfl,l2,rfl,by rw[yy,iN];exact l.1,?_];rw[Jr];exact Q _ F R _ k l.2 c2 s2<|Ag.refl _ _
def UY(i:Nat)[Sls h][A:At i D (Bd C fl) h][U:Pt i h (Bd C fl) D][J:Pj D PO n](G:AW X.K C)(I:vR X.K C "borders")(L:PE X (.Name x c) (vC i))(M:EV X T a f)(N:∀{j l:TE},PE X (.Attribute (.Name x c) "borders" m) j->PE X a l->PS X (.Delete [.Subscript (.Attribute (.Name x c) "borders" m) a O] pos) (P1 j l))(P:iG (.Name x c) "borders" X.env (eval (.Name x c) X.env)=eval (.Name x c) X.env:=by rfl) :
  S1 X E T ms n (.Delete [.Subscript (.Attribute (.Name x c) "borders" m) a O] pos) (λ(d:D)(o:D->Prop)(Q:τ->PO->Prop)(S:ci->PO->Prop)=>(lk (A.get d).bd<|f d).isSome=true/\o (U.put (A.hole d) { A.get d with bd:=dk (A.get d).bd (f d)})):=by
 refine e1a2 M λta W Y=>?_;refine#[_,N (wU L P) W,λd F R q H o Q S En s t Z kr ke=>?_];obtain⟨p,u,e1,g,e3,e4,us,g1,e,g3,g4⟩:=wA (i:=i) s;have y:g∈adr p u e1 g e3 e4 fl:=by simp[adr]
 refine#[_,g1,p,C,u,_,_,rfl,e.ob,G,I,rfl,Y d F R q H _ s λw r=>?_];subst r;obtain⟨c2,s2⟩:=g4 (U:=U) y<|EC e (g3 g y)<|On (k:=f d) e.tu;refine#[g,us,iu<|f d,rfl,e.bd,rfl,?_,Z _ F R _ q t.2 c2 s2<|Ag.refl _ _]
 cases z:lk (A.get d).bd (f d) with
 |none =>
  have B:=t.1;rw[z]at B;cases B
 |some b =>
  refine e1a2 ((EA e.tu).1 b z) λv v1 _=>?_;rw[v1];rfl
end
section
variable{D PO τ:Type}[Sls D][Sls PO][Ow τ]{α:Type}[Rep α]
def Ju(i:Nat){D1 P N B B1 O:Type}[Sls D1][Sls P][Sls N][Sls B][Sls B1][Sls O][Lb O τ<|Bd C fl×N]{I:B->O->N->D}{wr:D->(P->B->O->Prop)->(ci->D->Prop)->Prop}
 {wf:Wf (Bd C fl×P) τ (Bd C fl×N)} [A0:At i D (Bd C fl) D1] [A:At i B (Bd C fl) B1] [U:Pt i B1 (Bd C fl) B] (hl:∀a b c d u,(yH a b c d u fl).lookup m=none)
 (b2:∀(d:D)(F R:Rg)(k:St)(H:Hp)(S:P->B->O->Prop)(J:ci->D->Prop)(Q:List V->Hp->Prop),v6 T F R H d k->wr d S J ->
 (∀p b l Z us F1 W L w j e,S p b l->Ch T F R H w j e->Std T w j e->Ep w F1 W L->rel F1 (Wo j L) e p (Z.map some)->rel W j e b k->rel L j e l us ->
 (∀b' l' G1 G2 G3 o f h G,rel G1 f h G (Z.map some)->rel G2 f h b' k->rel G3 f h l' us->Ep o G1 G2 G3->rel o f h (I b' l' G) k)->Q Z e) ->
 (∀C y r w j e,J C r->Ch T F R H w j e->v6 T w j e r k->E (.ref C) ↑y e)->tr k H Q)
 (d:D) (F R:Rg) (k:St) (H:Hp) (S:τ->D->Prop) (J:ci->D->Prop) (Q:VK) (s:v6 T F R H d k) (hw:wr d (λp b l=>wf (A.get b,p) (λy G=>S y<|I (U.put (A.hole b) G.1) l G.2)<|λC G=>J C<|I (U.put (A.hole b) G.1) l G.2) J)
 (kn:∀x r v F1 W j e,S x r->Ch T F R H (λa=>F1 a\/W a) j e->v6 T W j e r k->Nw T F1 W j e x v->Q v e)
 (ke:∀C y r w j e,J C r->Ch T F R H w j e->v6 T w j e r k->E (.ref C) ↑y e):FT C m (yu T wf) [] E (vC i) tr k H Q:=by
  obtain⟨v,_,_,hv,_,⟨a,dx,d1,d2,d3,d4,aa,rfl,_,g⟩,_⟩:=A0.take s.rel
  refine#[_,hv,a,dx,_,rfl,g.ob,hl _ _ _ _ _,b2 d F R k H _ J _ s hw (λp b l Z us G1 G2 L w j e q2 c2 s2 X h1 h2 h3 km=>?_) ke]
  rw[kH]
  refine e3a4 (A.take h2) λv' M1 M2 z1 z2 z3 z4=>?_
  rw[hv]at z1
  cases z1
  have m1:∀a,M1 a->G2 a:=λa m=>(z2.all a).mpr<|.inl m
  have m2:∀a,M2 a->G2 a:=λa m=>(z2.all a).mpr<|.inr m
  refine Er (F:=w) (F1:=λa=>M1 a\/G1 a) (F2:=M2) (L:=L) (mrg:=λ(b:B1)(l:O)(p:Bd C fl×N)=>I (U.put b p.1) l p.2) (wf:=wf) (p:=(A.get b,p)) (b:=A.hole b) (l:=l) (us:=us) (σ:=k) (Kn:=S) (Ke:=J) s2 #[λa=>?_,λa m n=>?_,λa m n=>?_,λa m n=>X.J4 a (m2 a m) n] #[some<|.ref a,Z.map some,M1,G1,rfl,⟨λ_=>Iff.rfl,λa m n=>X.IA a n<|m1 a m⟩,Ow.wk z3<|CJ j L e,h1] z4 h3 (λb' l' L1 L2 L3 o f h G h3 h4 h5 t=>?_) q2 (λx r v M1 M2 f h q' c' M n=>kn x r v M1 M2 f h q' (Ch.trans s s2.tab c2 c') M n) λC y r o f h q' c' M=>ke C y r o f h q' (Ch.trans s s2.tab c2 c') M
  · rw[X.all, z2.all]
    exact#[λz=>z.elim (λq=>.inl<|.inr q) λz=>z.elim (λz=>z.elim (λq=>.inl<|.inl q) λq=>.inr<|.inl q) λq=>.inr<|.inr q,λz=>z.elim (λz=>z.elim (λq=>.inr<|.inl<|.inl q) .inl) λz=>z.elim (λq=>.inr<|.inl<|.inr q) λq=>.inr<|.inr q]
  · rcases m with m|m
    · exact z2.ym a m n
    · exact X.IA a m<|m2 a n
  · rcases m with m|m
    · exact X.J4 a (m1 a m) n
    · exact X.J3 a m n
  · refine e4a4 h3 λv' ab N1 N2 y1 Y y3 y4 => ?_
    injection y1 with y5 y6
    subst y5;subst y6
    have tt:Du (λa=>N1 a\/L2 a) N1 L2:=#[λ_=>Iff.rfl,λa m n=>t.IA a ((Y.all a).mpr<|.inl m) n]
    refine km _ l' N2 (λa=>N1 a\/L2 a) L3 o f h G.2 y4 (Pt.same (A:=U) h4 hv tt y3) h5 #[λa=>?_,λa m n=>?_,λa m n=>t.J3 a ((Y.all a).mpr<|.inr m) n,λa m n=>?_]
    · rw[t.all, Y.all]
      exact#[λz=>z.elim (λz=>z.elim (λq=>.inr<|.inl<|.inl q) .inl) λz=>z.elim (λq=>.inr<|.inl<|.inr q) λq=>.inr<|.inr q,λz=>z.elim (λq=>.inl<|.inr q) λz=>z.elim (λz=>z.elim (λq=>.inl<|.inl q) λq=>.inr<|.inl q) λq=>.inr<|.inr q]
    · rcases n with n|n
      · exact Y.ym a n m
      · exact t.IA a ((Y.all a).mpr<|.inr m) n
    · rcases m with m|m
      · exact t.J3 a ((Y.all a).mpr<|.inl m) n
      · exact t.J4 a m n
def QY{n:List iL}(i:Nat){s P h B q o:Type}[Sls s][Sls P][Sls h][Sls B][Sls q][Sls o][Lb o τ<|Bd C fl×h]{g:B->o->h->D}{v:D->(P->B->o->Prop)->(ci->D->Prop)->Prop}
 {r:Wf (Bd C fl×P) τ (Bd C fl×h)} [R:At i D (Bd C fl) s] [A:At i B (Bd C fl) q] [U:Pt i q (Bd C fl) B] {k:Nat} {z:List Str}
 (F:vD X.prog X.w X.K X.mg X.base (vL X.prog X.w) k f I z (yu T r)) (S:ww k X.A) (W:AW X.K C) (Y:Meth X.K C m f) (Z:Binds X.K I z []) (hx:Passes (vL X.prog X.w) X E) (hn:PE X (.Name x G) (vC i))
 (J:∀a b c d u,(yH a b c d u fl).lookup m=none)
 (L:∀{t:TA},PA X (e::n) t->PE X (.Call (.Attribute (.Name x G) m apos) (e::n) [] pos) (FT C m (yu T r) [] E (vC i) t)) (M:KZ X E T (e::n) g v) :
    EO X E T (.Call (.Attribute (.Name x G) m apos) (e::n) [] pos) (λ(d:D)(N:τ->D->Prop) H=>v d (λp b l=>r (A.get b,p) (λy j=>N y<|g (U.put (A.hole b) j.1) l j.2)<|λC j=>H C<|g (U.put (A.hole b) j.1) l j.2) H):=by
  refine e1a2 M λtr O Q=>?_
  exact#[_,L O,Ju i J Q]
def QZ(i:Nat){e:Type}[Sls e]
 {h:Wf (Bd C fl×Unit) τ (Bd C fl×Unit)} [A:At i D (Bd C fl) e] [U:Pt i e (Bd C fl) D] {k:Nat} {r:List Str}
 (F:vD X.prog X.w X.K X.mg X.base (vL X.prog X.w) k f M r (yu T h)) (hr:ww k X.A) (cl:AW X.K C) (hm:Meth X.K C m f) (hb:Binds X.K M r []) (hx:Passes (vL X.prog X.w) X E) (hn:PE X (.Name x B) (vC i))
 (N:∀a b c d u,(yH a b c d u fl).lookup m=none)
 (O:PE X (.Call (.Attribute (.Name x B) m apos) [] [] pos) (FT C m (yu T h) [] E (vC i) Bj)) :
    EO X E T (.Call (.Attribute (.Name x B) m apos) [] [] pos) (λ(d:D)(l:τ->D->Prop) o=>h (A.get d,()) (λy j=>l y<|U.put (A.hole d) j.1)<|λC j=>o C<|U.put (A.hole d) j.1):=by
  refine#[_,O,λd F R P H l o Q s S W Y=>?_]
  refine e3a4 (A.take s.rel) λv G Z I z2 J z4=>?_
  obtain⟨a,dx,d1,d2,d3,d4,aa,rfl,_,g⟩:=id J
  refine#[_,I,a,dx,_,rfl,g.ob,N _ _ _ _ _,?_]
  refine QE (F:=F) (F1:=G) (F2:=Z) (mrg:=λ(b:e)(p:Bd C fl×Unit)=>U.put b p.1) (wf:=h) (p:=(A.get d,())) (b:=A.hole d) (σ:=P) (Kn:=l) (Ke:=o) s.Iz z2 #[some<|.ref a,[],G,λ_=>False,rfl,#[λ_=>#[.inl,λz=>z.elim id λq=>q.elim],λ_ _ z=>z],J,rfl,λ_ z=>z] z4 (λb' G1 G2 ab ae af j h1 h2 t=>?_) S W Y
  refine e4a4 h1 λv' ag N1 N2 y1 L y3 y4=>?_
  injection y1 with y5 y6
  subst y5
  refine Pt.same (A:=U) h2 I #[λa=>?_,λa m n=>t.ym a ((L.all a).mpr<|.inl m) n] y3
  rw[t.all,L.all]
  exact#[λz=>z.elim (λz=>z.elim .inl λq=>hV q<|y4.2 a) .inr,λz=>z.elim (λq=>.inl<|.inl q) .inr]
def tw_trueO{wa:Wf D (OL α) D}(ha:EO X E T a wa)(he:∀whole,qN a X.env whole=(do let v <- whole;mY a.pos;kO [v] (ur v)):=by intro _;rfl):TW X E T a (λ(d:D) Kn Ke=>wa d (λxs d1=>Kn (!xs.l.isEmpty) d1) Ke):=by
 refine e1a2 ha λta a1 a2=>?_;refine#[_,IP a1 he,λd F R σ H Kn Ke Q s hw kn ke=>a2 d F R σ H _ Ke _ s hw (λxs d1 u F1 F2 R1 H1 q1 c1 s1 n1=>?_) ke];refine e2a4 n1.is λb vs e _ h3 h4=>?_;cases e;refine#[!vs.isEmpty,.inl #[vs,wo.of h3,rfl],?_];obtain⟨l⟩:=xs
 have:vs.isEmpty=l.isEmpty:=by
  cases h4<;>rfl
 rw[this];exact kn _ d1 F2 R1 H1 q1 (c1.less λ_ z=>.inr z) s1
def Q0{e:Wf D (Tp α) D}(i:Gl X "list")(j:X.mg "list"=none)(k:EW X E T a e)(f:gP [a] X.env=(false,eval a X.env)::gP [] X.env:=by rfl) :
  EO X E T (.Call (.Name "list" p) [a] [] pos) (λ(d:D)(g:OL α->D->Prop) b=>e d (λt c=>g #[t.l] c) b):=by
 refine e1a2 k λN m n=>?_;refine#[_,xF yp i j j0 (uZ m vk f) (he:=f),λd F R o H g b Q s r v w=>n d F R o H _ b _ s r (λt c u x O P y z h A=>?_) w];obtain⟨q,S,rfl,_,B,C⟩:=A;refine#[_,_,rfl,.inr<|yZ.of B,λl G=>?_];refine e1a3 (xH h G C) λI J L M=>?_;exact v _ c _ _ x I _ y (Ch.trans s h.tab z J) L M
def UZ(n:Gl X "tuple")(o:X.mg "tuple"=none)(r:ER X E T a t)(f:gP [a] X.env=(false,eval a X.env)::gP [] X.env:=by rfl) :
  EW X E T (.Call (.Name "tuple" p) [a] [] pos) (λ(d:D)(h:Tp α->D->Prop) e=>t d (λg b=>h #[g b] b) e):=by
 refine e1a2 r λP v w=>?_;refine#[_,xF Fy n o qF (uZ v vk f) (he:=f),λd F R x H h e Q s y z A=>w d F R x H _ e _ s y (λg b u i j B C G c I=>?_) A];obtain⟨q,k,rfl,J,L⟩:=I b i j B 61 c;refine#[_,_,rfl,.inl #[wo.of J,λl M=>?_]];refine e0a3 (c.new (.tup k) M) λN m O=>?_;exact z _ b _ i j _ C (Ch.trans s c.tab G m) N #[l,k,rfl,O,uV,c.vals m L]
def ints_of{R:Rg}{H:Hp}:∀{xs:List Int} {vs:List V},Paired (rp R H) xs vs->vs=xs.map V.int:=by
 intro _ _ z
 induction z with
 |nil=>rfl
 |cons h t ih=>rw[show _=V.int _ from h,ih];rfl
def tw_inT{a b:iL}{wa:Wf D Int D}{wb:Wf D (Tp Int) D}(ha:EW X E T a wa)(hb:EW X E T b wb)(hm:iV .In b=false) :
  TW X E T (.Compare a [.In] [b] pos) (λ(d:D) Kn Ke=>wa d (λk d1=>wb d1 (λt d2=>Kn (decide<|k∈t.l) d2) Ke) Ke):=by
 refine e1a2 ha λta a1 a2=>?_;refine e1a2 hb λtb b1 b2=>?_;refine#[_,xT FW a1 b1 hm,λd F R σ H Kn Ke Q s hw kn ke=>a2 d F R σ H _ Ke _ s hw (λk d1 u F1 R1 H1 q1 c1 s1 r1=>?_) ke];refine b2 d1 F1 R1 σ H1 _ Ke _ s1 q1 (λt d2 v F2 R2 H2 q2 c2 s2 r2=>?_) λC y d' F' R' H' k c s'=>ke C y d' F' R' H' k (Ch.trans s s1.tab c1 c) s';subst r1;obtain⟨l⟩:=t;obtain⟨q,us,rfl,_,h1,h2⟩:=r2;have e:=ints_of (xs:=l) h2;subst e;refine#[q,_,rfl,.inr<|yZ.of h1,rfl,AM _,_,rfl,?_];rw[gM g9,BM];exact kn _ d2 F2 R2 H2 q2 (Ch.trans s s1.tab c1 c2) s2
def ED[Sls D2][Gf:Fg D2 D][J:Pj D PO n](N:TN PO ms n)(hp:rL 23 X.A X.env X.xe)
 (hc:TW X E T c wc) (hb:SW X E T mb n body wb) (B:∀i∈ms,i∈mb) :
    S1 X E T ms n (.While c body [] pos) (λ(d:D)(Kn:D->Prop)(O:τ->PO->Prop) I=>∃W:Nat->D->Prop,(∃m,W m d)/\∀m d,W m d->wc d (λb j=>if b=true then wb j (λL=>∃l,l<m/\W l (Gf.fg L)) O I else Kn j) λC d'=>I C<|J.pj d'):=by
  refine e1a2 hc λtc c1 c2=>?_
  refine e1a2 hb λtb b1 b2=>?_
  refine#[_,Pp hp c1 b1,λd F R σ H Kn O I En s hw kn kr ke=>?_]
  obtain⟨W,⟨m0,w0⟩,t⟩:=hw
  refine#[λm e M=>∃j G o,Ch T F R H G o M/\v6 T G o M j e/\Ag mb σ e/\W m j,#[m0,d,F,R,Ch.refl _ _ _ _,s,Ag.refl _ _,w0],?_]
  rintro m e M ⟨j,G,o,k1,P,g1,w1⟩
  refine c2 j G o e M _ _ _ P (t m j w1) (λb L G2 R2 H2 q2 k2 u=>?_) λC y d' F' R' z q c s'=>?_
  · have k := Ch.trans s P.tab k1 k2
    cases b with
    |false=>exact kn L G2 R2 H2 e q2 k u<|g1.sub B
    |true =>
      refine#[λp z=>∃l,l<m/\∃j G o,Ch T F R H G o z/\v6 T G o z j p/\Ag mb σ p/\W l j,λp z h=>h,?_]
      refine b2 L G2 R2 e H2 _ O I _ u q2 (λd3 G3 R3 H3 ab q3 k3 r g3=>?_) (λx Q v M1 M2 S U Y Z f n4=>?_) λC y Q F4 S U Y Z f=>?_
      · refine e1a2 q3 λl hm w3 => ?_
        refine e1a2 (Gf.le r.rel) λG5 f5 r5=>?_
        exact#[l,hm,_,G5,R3,(Ch.trans s u.tab k k3).less f5,#[r5,λa h=>r.sub a<|f5 a h,r.xk,r.tab,r.vN,λh=>r.vE<|f5 T h],g1.trans g3,w3]
      · exact kr x Q v M1 M2 S U Y (Ch.trans s u.tab k Z) #[N.dp (g1.sub B) f.rel, f.sub, f.xk, f.tab, f.vN, f.vE] n4
      · exact ke C y Q F4 S U Y (Ch.trans s u.tab k Z) #[N.dp (g1.sub B) f.rel, f.sub, f.xk, f.tab, f.vN, f.vE]
  · refine e1a2 (wH (PO := PO) s') λG' aa g => ?_
    exact ke C y _ G' R' z q ((Ch.trans s P.tab k1 c).less aa) #[N.dp (g1.sub B) g.rel,g.sub,g.xk,g.tab,g.vN,g.vE]
end
open PyProof.Rows hiding K
noncomputable def Ite(K:gO)(a:ci):It :=
 #[λi H=>∃b x,wo K H a b/\b[i]?=↑x,λi H v c=>∃p x,v=.ref p/\H p=none/\c=upd H p (.tup [.int i,x])/\∀b,wo K H a b->b[i]?=↑x,λi H=>∃b,wo K H a b/\b.length<=i]
def U0{t':Nat}{xs:List V}{nh:Nat}(I:Inv X d y H s)(i:Bf X d H e)(j:Bf X d H l)(x:⇑s<=a)(k:∀b o,b≠e->b≠l->s.heap.get? b=↑o->h'.get? b=↑o)(A:xs.length<=gS)(r:Vals xs us)(B:IsTup h' a us.toArray) :
  Inv X d y (upd H a<|.tup xs) { s with heap:=h',toks:=t'}:=by
 have C:=I.vK.fresh x;have f:∀b u,H b=↑u->b≠e/\b≠l:=λb u q=>#[λz=>(by rw[z,i.1]at q;cases q),λz=>(by rw[z,j.1]at q;cases q)];have t:∀b o,b∉[e,l]->s.heap.get? b=↑o->h'.get? b=↑o:=λb o h q=>k b o (λz=>h<|by simp[z]) (λz=>h<|by simp[z]) q;have p:∀{b u},H b=some u->upd H a (.tup xs) b=some u:=λ{b u} q=>by rw[uR<|vc q C];exact q
 refine I.step (g':=s.gens) (d':=s.drawn) (ch:=[e,l]) (λb h=>?_) (λb o _ _ g q _=>t b o g q) (λb o _ _ g q _=>#[o.slots,t b o g q]) (λb o g q n=>?_)
  (λb o g q=>#[o,t b o g q]) (λ_ _ q=>p q) (λ_ _ _ q=>p q) (λb J q=>#[#v[],by rw[p q];simp]) (λm D=>?_) (λb u q=>?_) I.bare
 ·rcases List.mem_cons.mp h with z|z
  ·subst z;exact#[i.2.2.2.1,i.2.1,i.2.2.2.2.1,i.2.2.2.2.2]
  ·have z:b=l:=by simpa using z
   subst z;exact#[j.2.2.2.1,j.2.1,j.2.2.2.2.1,j.2.2.2.2.2]
 ·rw[uR<|λz=>hV (gX q)<|by rw[z];exact Nat.not_lt.mpr x];exact n
 ·refine e3a2 D λo E F G r=>?_;exact#[o,E,F,k _ o (Ne.symm i.2.1) (Ne.symm j.2.1) G,r]
 ·by_cases h:b=a
  ·subst h;rw[uV]at q;cases q;exact#[A,us,r,B]
  ·rw[uR h]at q;refine(I.vK b u q).Do (λc v g w=>?_) (λc w=>p w) λc L w=>p w;rcases g with z|z
   ·rw[z]at w ⊢;exact k b v (f b u q).1 (f b u q).2 w
   ·exact k c v (f c _ z).1 (f c _ z).2 w
def Oo{K:gO}{x1}(a e it:ci)(hne:e≠it):Turn P w K (.Tuple els x1 tp) (Ite K a) [e,it] e (λi h=>(∃old,IsEnum h e it i old)/\h.IsListIter it a i) where
 mem:=by simp
 obj:=λi h st b hb=>by
  obtain⟨⟨old,h1⟩,⟨o,h2,c,d⟩⟩:=st;rcases List.mem_cons.mp hb with z|z
  ·subst z
   exact#[_,h1,λv z=>by
    have z':tF _=Data.cell v:=z
    cases z']
  ·have z:b=it:=by simpa using z
   subst z;exact#[o,h2,λv z=>by rw[d]at z;cases z]
 keep:=λi h h' st k=>#[e1a1 st.1 λold h1=> #[old,k e q0o _ h1],st.2.at λo q=>k it q0o o q]
 item:=by
  intro X hP hw hK hc i pins s σ H E I hf st hg;subst hP hw hK;refine e2a2 hg λxs x hq hx=>?_;refine e1a3 (I.list hq) λzQ rv p hz=>?_;refine e1a2 (rv.get hx) λu hu ru=>?_;obtain⟨⟨old,h1⟩,h2⟩:=st;have fe:=hf e q0o;have fi:=hf it q0o;refine wpAny_pyNext_enum_item h1 h2 p.isList (x:=u) (by simpa using hu) hne λh' a1 a2 a3 a4 a5=>#[_,rfl,wpAny_letOwnedTupleGo_enum a1 λh2' b1 b2=>?_];have hel:e<⇑s:=gX h1;have t2:h2'.get? ⇑s=some { cls:=.type "tuple",data:=.seq #v[.int i s.toks,u]}:=b2.extBut _ _ (jj hel) a3;refine#[.ref ⇑s,upd H ⇑s<|.tup [.int i,x],U0 (s:=s) (h':=h2') (t':=s.toks+1) (xs:=[.int i,x]) (us:=[.int i s.toks,u]) (nh:=0) I fe fi (gQ _) (λb o n1 n2 q=>b2.extBut b o n1<|a5 b o n1 n2 q) (by show 2<=gS;decide) (.cons ⟨_,rfl⟩<|.cons ru .nil) ⟨_,t2,rfl,_,rfl⟩,rfl,⟨_,x,rfl,I.vK.fresh<|gQ _,rfl,λys hy=>by rw[I.IL hy hq];exact hx⟩,#[#[_,b1],a2.extBut b2.extBut<|Ne.symm hne],λb hb=>?_];rw[uR]
  ·exact(hf b hb).1
  ·refine e1a2 h2 λo ho _=>?_;rcases List.mem_cons.mp hb with z|z
   ·rw[z];exact hR hel
   ·have z:b=it:=by simpa using z
    rw[z];exact hR<|gX ho
 done:=by intro X hP hw hK hc i pins s σ H E I hf st hg;subst hP hw hK;refine e1a2 hg λxs hq hx=>?_;refine e1a3 (I.list hq) λzQ rv p hz=>?_;obtain⟨⟨old,h1⟩,h2⟩:=st;refine e0a6 (hf it q0o) λf0 f1 f2 f3 f4 f5=>?_;have hl:=rv.length;exact wpAny_pyNext_enum_end (I.ok.hd hc) h1 h2 p.isList (by simp;lia) λh' eb=>#[rfl,I.turned (t':=s.toks) (λb o hb e=>eb b o hb e) f0 f1 f3 f4 f5]
 self:=λ_ _ _ _ _ st h=>wpAny_pyIter_enum st.1.choose_spec h
section
variable{D:Type}[Sls D]{α:Type}[Rep α]
def a0t(K:gO)(c:TA):TI:=λd H R=>c d H λe b=>∃a,e=[.ref a]/\(∃f,wo K b a f)/\R (Ite K a) b
def U1{i}(j:Gl X "enumerate")(k:X.mg "enumerate"=none)(l:PA X [a] m)(n:gP [a] X.env=[(false,eval a X.env)]:=by rfl):PI X (.Tuple o i G) (.Call (.Name "enumerate" p) [a] [] pos) (a0t X.K m):=by
 intro d s t H R I h;refine PyProof.Rows.Call_<|zn I j k PyProof.Rows.boot_enumerate<|jZ (vI (l pos d s t H _ I h) λJ c u=>e2a3 u λL v f w x=>?_) n rfl;obtain⟨a,e,⟨M,y⟩,q⟩:=x;subst e
 cases w with
 |cons r A =>
  cases A;cases r;refine e1a3 (f.list y) λB N p O=>?_;refine call_enumerate_list p.isList λP g C Q E=>?_;refine wpAny_pyIter_enum g ?_;refine#[⇑c+1,[⇑c+1,⇑c],_,_,v,rfl,f.kept (t':=c.toks) E,Oo a _ _<|jj<|jw _,⟨⟨_,g⟩,C⟩,λb F=>?_,q]
  have e:⇑c<=b:=by
   rcases List.mem_cons.mp F with z|z
   ·rw[z];exact lP _
   ·have z:b=⇑c:=by simpa using z
    rw[z];exact gQ _
  exact f.Gz e<|f.vK.fresh e
noncomputable def Op:Nat->List α->List (Int×α)
 |_,[]=>[]
 |k,x::r=>((k:Int),x)::Op (k+1) r
def DH:∀(k:Nat)(a:List α),(Op k a).length=a.length
 |_,[]=>rfl
 |k,x::r=>by show (Op (k+1) r).length+1=r.length+1;rw[DH (k+1) r]
def MZ:∀(k:Nat)(a:List α)(i:Nat),(Op k a)[i]?=(a[i]?).map λx=>(((k+i:Nat):Int),x)
 |_,[],_=>by simp[Op]
 |k,x::r,0=>by simp[Op]
 |k,x::r,i+1=>by
  show (((k:Int),x)::Op (k+1) r)[i+1]?=_;rw[sx,sx,MZ (k+1) r i];congr 1
  funext y
  rw[show k+1+i=k+(i+1) by lia]
def EE{K:gO}{xs:List α}{vs:List V}:Zh (Ite K a) (Op 0 xs) (λR H=>H a=↑(.lst vs)/\Paired (rp R H) xs vs) where
 go:=λ{R H i} p h=>by rw[DH]at h;obtain⟨v,e,_⟩:=wV (i:=i) (x:=xs[i]) p.2 (by simp[h]);exact#[vs,v,wo.of p.1,e]
 Iy:=λ{R H i v H'} p xk hi y=>by rw[DH]at hi;obtain⟨q,w,e,hq,e',y⟩:=y;subst e e';have y':=y vs<|wo.of p.1;obtain⟨u,e,r⟩:=wV (i:=i) (x:=xs[i]) p.2 (by simp[hi]);rw[y']at e;cases e;have ex:Ext R R H R (upd H q<|.tup [.int i,w]):=⟨λb o _ z=>by rw[uR<|vc z hq];exact z,λ_ z=>.inl z⟩;refine#[.inr #[q,_,hq,rfl],((i:Int),xs[i]),?_,q,.int i,w,rfl,λz=>xk q z hq,uV,rfl,Rep.st r ex];rw[MZ,jv hi,sU];rfl
 stop:=λ{R H} p=>#[vs,wo.of p.1,by rw[DH,Paired.length p.2];exact gQ _]
def U4{i:List iL}{B}{w:Wf D (List α) D}(C:Gl X "enumerate")(G:X.mg "enumerate"=none)(h:EW X E T e w)(I:gP [e] X.env=(false,eval e X.env)::gP [] X.env:=by rfl)(j:gP [e] X.env=[(false,eval e X.env)]:=by rfl) :
  IW X E T is (.Tuple i B tp) (.Call (.Name "enumerate" p) [e] [] pos) (λ(b:D) (_:List (Int×α))=>b) (λ(d:D) o u=>w d (λf k=>o (Op 0 f) k) u):=by
 refine e1a2 h λt J L=>?_;refine#[_,U1 C G (uZ J vk I) j,λd F R M H o u Rk s N O P=>L d F R M H _ _ _ s N (λf k v l Q S q c x r=>?_) P];obtain⟨a,m,rfl,U,y,W⟩:=r;refine#[a,rfl,#[m,wo.of y],O (Op 0 f) k _ (λR H=>(H a=↑(.lst m)/\Paired (rp R H) f m)/\¬R a) l (λ_=>False) l Q S q c x.Iz (two_nil l) x.rel #[λp=>EE.go p.1,λp=>EE.Iy p.1,λp=>EE.stop p.1] #[#[y,W],U] (λp A nf n=>?_) λb' G2 Y Z aa ab p h g t=>Sls.fq h<|two_eq t λ_ z=>z];have na:¬_:=λz=>p.2<|A a z;exact#[#[n.keep a _ na p.1.1,wl (n.wide A) p.1.2],n.not p.2 p.1.1]
end
def Hf(C:ci):Sp:=λf H Q E=>∃p e,f=[.ref p]/\H p=↑(.ins C e []) /\
 ∀c d a,H c=none->H d=none->c≠d->a p=↑(.ins C e<|yH c d 0 0 0 false)->a c=↑(.dK [])->a d=↑(.dK [])->(∀b o,b≠p->H b=↑o->a b=↑o)->Q .wF a
def U5{m:il}{k:Nat}(F:yN K "__init__" i m f D)(S:uY ["self"] ["self"] (uQ m))(g:zR K C)
 (j:∀(d:cr)(A:jx)(a:List Env)(s:gW)(H:Hp)(E:XK),Ft (vP (vL P w) P w K G base ["self"] i (uQ m) f d A a s H E) (vB m)<|Kc (NP K (vC 0) D7 "ranks")<|Kc (NP K (vC 0) D7 "borders")<|NP K (vC 0) (tC<|.int 0) "upcoming") :
    vD P w K G base (vL P w) (k+1) f D ["self"] (Hf C):=by
  obtain⟨T,U,W,I,X,Y,d,J,L,rfl,lk,t⟩:=F.ex
  refine IU lk t S (λM H Q E N=>e2a2 N λp l e _=>by rw[e];rfl) λO a s H M Q E Z u=>#[_,j d O a s H E,?_]
  obtain⟨p,l,rfl,B,k⟩:=u
  intro h v
  have n:p≠h:=vc B v
  have R:upd H h (.dK []) p=↑(.ins C l []):=by rw[uR n];exact B
  refine#[_,rfl,p,C,l,[],rfl,R,g.cl,g.nR,q0q,?_]
  intro q c
  have r:p≠q:=λz=>by rw[<- z,uV]at c;cases c
  rw[uR r.symm]at c
  have x:q≠h:=λz=>by rw[z,uV]at c;cases c
  rw[uR x]at c
  refine#[_,rfl,p,C,l,[("ranks",.ref h)],rfl,?_,g.cl,g.nB,(by show 1<1000;decide),?_]
  · rw[uR r, uV]
    rfl
  refine#[_,rfl,p,C,l,[("ranks",.ref h),("borders",.ref q)],rfl,?_,g.cl,g.nU,(by show 2<1000;decide),?_]
  · rw[uV]
    rfl
  refine k h q _ v c x.symm ?_ ?_ ?_ λb o y j=>?_
  · rw[uV]
    rfl
  · rw[uR n.symm, uR n.symm, uR x.symm, uR n.symm, uV]
  · rw[uR r.symm, uR r.symm, uV]
  · rw[uR y, uR y, uR<|vc j c, uR y, uR<|vc j v]
    exact j
structure Mf(K:gO)(C:ci)(m qual:Str)(st:il)(ps:List Str)(f:ci)(fd:iH):Prop where
 fn:yN K m qual st f fd
 me:Meth K C m f
 bd:Binds K fd ps []
structure Xc(K:gO)(mg:Str->Option cr)(x:Str)(C:ci):Prop where
 ex:∃(Dv:List cr)(B newId yg:String),mg x=↑(.ref C)/\jq K C Dv newId=true/\kB B newId yg Dv
 g0:∀H',GX.g C none H'
def BX{k:Nat}(r:ww k A):A.units+1<kG:=jk (Nat.add_le_add_left q0q _) r.units
noncomputable def a2B(s:il):List il:=match s with
 | .ClassDef _ _ _ body _ _ _ _ _ _ _=>body
 |_=>[]
noncomputable def AY(s:il)(i:Nat):il:=(a2B s).getD i<|.Pass #[0,0,0,0]
section
variable{D D' PO τ:Type}[Sls D][Sls D'][Sls PO][Ow τ]
def BY{k:Nat}[J:Pj D PO n](r:Gl (vP (vL P w) P w K e base N c a f g A b s H E) x)(h:Xc K e x C)(l:(x==("__debug__":Str))=false:=by decide)
 (q:gP [.Constant (.str m) k mp] (vP (vL P w) P w K e base N c a f g A b s H E).env=(false,eval (.Constant (.str m) k mp) (vP (vL P w) P w K e base N c a f g A b s H E).env)::gP [] (vP (vL P w) P w K e base N c a f g A b s H E).env:=by rfl)
 (o:(jm i<|gP [] (vP (vL P w) P w K e base N c a f g A b s H E).env).any (·.1)=false:=by rfl) :
    S1 (vP (vL P w) P w K e base N c a f g A b s H E) E T z n (.Raise (some<|.Call (.Name x np) [.Constant (.str m) k mp] [] i) none pos) (λ(d:D)(_:D'->Prop)(_:τ->PO->Prop) t=>t C<|J.pj d):=by
  obtain⟨u,B,p,j,v,O,y⟩:=h.ex
  exact Ex<|Eg r v O y h.g0 (uZ Gy vk q) l q o
end
section
variable{D:Type}[Sls D]
def Q1{i:Int}(b:Gl X x)(c:X.mg x=↑(.int i t))(e:(x==("__debug__":Str))=false:=by decide):EW X E T (.Name x pos) (λ(d:D)(a:Int->D->Prop) _=>a i d) :=
 #[_,TZ (v:=.int i) b c #[t,rfl] e,λd F R h H a j Q s f g _=>g i d _ F R H f 61 s rfl]
end
noncomputable def Sf(f:Int->List Int)(x:Int):List Int->Bool
 | []=>false
 |c::l=>xor (decide<|x∈f c)<|Sf f x l
def Hg{x:Int}{a:List Int}(p:a.Perm b):Sf f x a=Sf f x b:=by
 induction p with
 |nil=>rfl
 |cons c _ e=>show xor _ _=xor _ _;rw[e]
 |swap c d l=>show xor _ (xor _ _)=xor _ (xor _ _);rw[<- mJ,<- mJ,Bool.xor_comm<|decide<|x∈f d]
 |trans _ _ g h=>exact g.trans h
def Yy{x k:Int}(h:wQ l):Sf f x (K8 l k)=xor (decide<|x∈f k) (Sf f x l):=by
 by_cases q:k∈l
 ·have e:K8 l k=K5 k l:=gN q
  have p:l.Perm (k::K5 k l):=by
   refine wn (ve h) (List.nodup_cons.mpr #[λz=>(Ak.mp z).2 rfl,ve<|jS _ h]) λy=>?_;rw[io,Ak];by_cases z:y=k
   ·rw[z];simp[q]
   ·simp[z]
  rw[e,Hg p];show _=xor _ (xor _ _);rw[<- mJ,Bool.xor_self,rH]
 ·have e:K8 l k=FG k l:=gM q
  have p:(FG k l).Perm (k::l):=by refine wn (ve<|DD h) (List.nodup_cons.mpr ⟨q,ve h⟩) λy=>?_;rw[io,BS]
  rw[e,Hg p];rfl
def Q2{x:Int}:∀{b a:List Int},wQ a->Sf f x (xr a b)=xor (Sf f x a) (Sf f x b)
 | [],a,_=>by show Sf f x a=xor _ false;rw[nW]
 |k::b,a,h=>by show Sf f x (xr (K8 a k) b)=xor (Sf f x a) (xor (decide<|x∈f k)<|Sf f x b);rw[Q2<|MX h,Yy h,<- mJ,Bool.xor_comm<|Sf f x a]
def Q3{x:Int}:∀{l:List Int} {a:List Int},(∀c∈l,(f c).Nodup)->decide (x∈(l.map f).foldl xr a)=xor (decide<|x∈a) (Sf f x l):=by
 intro d
 induction d with
 |nil=>intro a _;show decide (x∈a)=xor _ false;rw[nW]
 |cons c l b =>
  intro a h;show decide (x∈(l.map f).foldl xr (xr a<|f c))=xor _ (xor _ _);rw[b<|λy g=>h y<|gU _ g,<- mJ];congr 1;have e:=zA (l:=a) (x:=x)<|h c gR;by_cases p:x∈a<;>by_cases q:x∈f c<;>simp[p,q,e]
noncomputable def vG(f:Int->List Int)(l:List Int):List Int:=Pf<|l.map f
def xu{x:Int}(h:∀c∈l,(f c).Nodup):decide (x∈vG f l)=Sf f x l:=by unfold vG Pf;rw[Q3 h];rw[ie q0o,rH]
def wy(f:Int->List Int)(l:List Int):wQ (vG f l):=UU _
def BZ(c:wQ a)(d:wQ b)(h:∀x,decide (x∈a)=decide (x∈b)):a=b:=G9 c d λk=>by have:=h k;by_cases p:k∈a<;>by_cases q:k∈b<;>simp[p,q]at this ⊢
def EF{x:Int}(h:∀c∈l,(f c).Nodup)(a:x∈vG f l):∃c∈l,x∈f c:=by
 have e:=xu (x:=x) h;rw[decide_eq_true a]at e;clear a
 induction l with
 |nil=>cases e
 |cons c l b =>
  by_cases q:x∈f c
  ·exact#[c,gR,q]
  ·have e:true=xor (decide<|x∈f c) (Sf f x l):=e;rw[ie q,rH]at e;obtain⟨d,g,i⟩:=b (λy j=>h y<|gU _ j) e;exact#[d,gU _ g,i]
def Hh(h:wQ a)(i:wQ b)(d:∀c∈a,(f c).Nodup)(g:∀c∈b,(f c).Nodup):vG f (xr a b)=xr (vG f a) (vG f b) :=
 BZ (wy _ _) (xJ<|wy _ _) λx=>by rw[xu λc j=>(Ey (ve i) j).elim (d c)<|g c,Q2 h,<- xu d,<- xu g];have e:=zA (l:=vG f a) (x:=x)<|ve<|wy f b;by_cases p:x∈vG f a<;>by_cases q:x∈vG f b<;>simp[p,q,e]
def M0{x:Int}:∀{l a:List Int},wQ a->(∀c∈l,wQ (f c)/\Sf f x (f c)=false)->Sf f x ((l.map f).foldl xr a)=Sf f x a
 | [],_,_,_=>rfl
 |c::l,a,b,h=>by show Sf f x ((l.map f).foldl xr<|xr a<|f c)=_;rw[M0 (xJ b) λy d=>h y<|gU _ d,Q2 b,(h c gR).2,nW]
def Oq(h:∀c∈l,wQ (f c)/\(∀d∈f c,(f d).Nodup)/\vG f (f c)=[]):vG f (vG f l)=[] :=
 BZ (wy _ _) iw λx=>by
  rw[xu,ie q0o]
  ·exact M0 (x:=x) (l:=l) iw λc a=>#[(h c a).1,by rw[<- xu (h c a).2.1,(h c a).2.2];rfl]
  ·intro d b;obtain⟨c,a,b⟩:=EF (λc a=>ve (h c a).1) b;exact(h c a).2.1 d b
def xj(h:∀c∈l,f c=g c):vG f l=vG g l:=by unfold vG;rw[l8 h]
structure WY(K:gO) where
def Q4(K:gO)(R:Rg)(H:Hp)(a:ci)(c:List Int):Prop :=
 (¬R a/\Rd H a (.lst<|c.map V.int))\/∃(o:qG)(b:Array cr)(n:Nat),K.lookup a=↑o/\o.cls=.type "list"/\o.dict=none/\o.data=.seq b n/\b.size<=gS/\Vals (c.map V.int) b.toList
def Q4.sq{K:gO}(h:Q4 K R H a b):wo K H a (b.map V.int):=h.elim (λz=>.inl z.2) .inr
instance(K:gO):Rep (WY K):=#[λR H _ v=>∃a ns,v=.ref a/\Q4 K R H a ns,λ{R H R' H' x v} h e=>by
 refine e2a2 h λa ns h1 h2=>?_;refine#[a,ns,h1,?_];rcases h2 with⟨n,r⟩|r
 ·rcases r with r|⟨o,r⟩
  ·exact .inl #[e.not n r,.inl<|e.keep a _ n r]
  ·exact .inl #[e.not n r,.inr #[o,e.keep a _ n r]]
 ·exact .inr r]
def WZ(K:gO):Sp:=λd H Q _=>∃(a:ci)(e:List Int),d=[.ref a]/\wo K H a (e.map V.int)/\∀b g q c s,Dt H b->Dg b g q c 0 0 s->H g=none->H q=none->Q (.ref g) b
def Q5(K:gO):Wf (WY K×Unit) Bg (Un×Unit):=λ_ a _=>a #[] (#[],())
def W0(K:gO):Wf (WY K×Unit) Bool (Un×Unit):=λ_ a _=>a true (#[],())
def a0u(F:vD P w K y base P8 k f A C (WZ K)):vD P w K y base (vL P w) k f A C (yu T<|Q5 K) :=
 (WV F).imp λD H Q E G=>e5a4 G λF R p Kn Ke s I J _=>by
  obtain⟨v,L,F1,F2,d,h2,⟨n1,u,e,a,M,N,O⟩,S⟩:=s.rel;subst e N
  match D,d with
  | [],d=>cases d
  |x::r,d =>
   injection d with U W;cases U
   have X:r=[]:=by have:=S.1;rw[<- W]at this;exact List.map_eq_nil_iff.mp this
   subst X;refine#[a,M,rfl,O.sq,λn g q j Y i B l m=>?_];have Z:Ext (λ_=>False) R H (λc=>R c\/c=g\/c=q) n:=#[λb o _ h=>i b o h,λc h=>h.elim .inl λz=>.inr<|z.elim (λz=>by rw[z];exact l) λz=>by rw[z];exact m];refine J #[] (#[],()) (.ref g) (λc=>c=g\/c=q) (λ_=>False) (λc=>R c\/c=g\/c=q) n I #[λb o _ _ h=>i b o h,Z.new,λc h=>h.elim (λz=>.inr<|z.elim (λz=>by rw[z];exact l) λz=>by rw[z];exact m) λz=>z.elim,λc h _=>.inl h] #[#[some<|.ref a,[],λ_=>False,λ_=>False,rfl,#[λ_=>#[λz=>z.elim,λz=>z.elim id id],λ_ z _=>z],λ_ z=>z,rfl,λ_ z=>z],λ_ z=>z.elim,λc h=>?_,?_,.inl s.vN,λz=>z] #[#[g,q,j,0,0,Y,rfl,λ_=>Iff.rfl,B],λc h=>.inr h,λ_ _ z=>z,λz=>?_]
   ·rcases h with h|h|h
    ·cases e:H c with
     |none=>exact hV e<|s.xk c h
     |some o=>rw[i c o e];simp
    ·rw[h,B.ob];simp
    ·rw[h,B.sc];simp
   ·refine e1a2 s.tab λqs e t=>?_;exact#[qs,i _ _ e,t]
   ·have:=zd s.tab;rcases z with z|z
    ·rw[z]at this;exact this l
    ·rw[z]at this;exact this m
def M3(K:gO)(b:ci):Sp:=λc H Q _=>∃(a:ci)(d:List Int),c=[.ref a]/\wo K H a (d.map V.int)/\TabAt H b/\∀e,Q (.bl true) e
def a0v(F:vD P w K g base (vL P w) k f i j (yu T<|W0 K)):vD P w K g base (vL P w) k f i j (M3 K T) :=
 F.imp λB H Q E l=>e2a4 l λa m e p b s=>by
  subst e;refine#[λ_=>False,λc=>c=T,(#[],()),λx _=>x=true,λ_ _=>False,#[#[some<|.ref a,[],λ_=>False,λ_=>False,rfl,#[λ_=>#[λz=>z.elim,λz=>z.elim id id],λ_ z _=>z],#[λ_ z=>z,_,rfl,a,m,rfl,?_],rfl,λ_ z=>z],λ_ z=>z.elim,λc h=>by rw[h];exact zd b,b,rfl,λz=>z],rfl,λx t v D G A d q c I n=>?_,λC y t J A d q=>q.elim]
  ·rcases p with r|r
   ·refine .inl #[λz=>?_,r];refine e1a2 b λL e _=>?_;rcases r with r|⟨o,r⟩
    ·rw[z,e]at r;cases r
    ·rw[z,e]at r;cases r
   ·exact .inr r
  ·obtain⟨_,u,e,r⟩:=n.is;cases e;rw[r,q];exact s d
def a0w(F:vD P w K d base (vL P w) k f g i c)(h:∀b H Q E,c b H Q E->c b H Q XF):vD P w K d base P8 k f g i c :=
 #[F.len,λA a s H args j b Q E l m n o p=>jT (F.run A a s H args j b Q XF l m n o (h _ _ _ _ p)) λr q z=>by
  cases r with
  |error e =>
   obtain⟨_,_,_,_,_,z⟩:=z;exact z.elim
  |ok fl =>
   cases fl with
   |ret u=>exact z
   |next=>exact iC z
   |brk=>exact iC z
   |cont=>exact iC z]
structure Fk(P:iB)(w:iR)(K:gO)(mg:Str->Option cr)(base:iM)(T:ci)(x:Str)(ps:List Str){A PO τ:Type}[Sls A][Sls PO][Ow τ](wf:Wf A τ PO)(k:Nat) where
 f:ci
 fd:iH
 ok:vD P w K mg base (vL P w) k f fd ps (yu T wf)
 at_:mg x=↑(.ref f)
 kp:jh K (.ref f)=true
 bd:Binds K fd ps []
structure Fm(P:iB)(w:iR)(K:gO)(mg:Str->Option cr)(base:iM)(T C:ci)(m:Str)(ps:List Str){A PO τ:Type}[Sls A][Sls PO][Ow τ](wf:Wf A τ PO)(k:Nat) where
 f:ci
 fd:iH
 ok:vD P w K mg base (vL P w) k f fd ps (yu T wf)
 me:Meth K C m f
 bd:Binds K fd ps []
section
variable{P:iB}{w:iR}{K:gO}{mg:Str->Option cr}{base:iM}{T C f:ci}{fd:iH}{x:Str}{ps:List Str}{A PO τ:Type}[Sls A][Sls PO][Ow τ]{wf:Wf A τ PO}{j k:Nat}
noncomputable def Fk.up(h:Fk P w K mg base T x ps wf j)(l:j<=k:=by decide):Fk P w K mg base T x ps wf k:=#[h.f,h.fd,h.ok.mono l,h.at_,h.kp,h.bd]
noncomputable def Fm.up(h:Fm P w K mg base T C x ps wf j)(l:j<=k:=by decide):Fm P w K mg base T C x ps wf k:=#[h.f,h.fd,h.ok.mono l,h.me,h.bd]
end
section
variable{D:Type}[Sls D]
def vh{P c B g i:Type}[Sls P][Sls c][Sls B][Sls g][Ow i][Lb g i c]{a:B->g->c->D}{o:Wf P i c}{q:D->(P->B->g->Prop)->(ci->D->Prop)->Prop}{k:Nat}{s:List Str}{f:List iL}
 (h:Fk X.prog X.w X.K X.mg X.base T x s o k) (t:KZ X E T (e::f) a q) (u:ww k X.A:=by assumption) (v:Gl X x:=by exact rfl) (y:Passes (vL X.prog X.w) X E:=by exact A8) (j:(x==("__debug__":Str))=false:=by decide) (z:gP (e::f) X.env=(false,eval e X.env)::gP f X.env:=by rfl) (m:(jm pos<|gP f X.env).any (·.1)=false:=by rfl) :
    EO X E T (.Call (.Name x p) (e::f) [] pos) (λ(d:D)(F:i->D->Prop) r=>q d (λp b l=>o p (λx n=>F x<|a b l n)<|λC n=>r C<|a b l n) r):=BN h.ok u v h.at_ h.kp h.bd y t j z m
variable{τ:Type}[Ow τ]
def vY{g:List iL}(i:Nat){v P n B r q:Type}[Sls v][Sls P][Sls n][Sls B][Sls r][Sls q][Lb q τ<|Bd C fl×n]{j:B->q->n->D}{z:D->(P->B->q->Prop)->(ci->D->Prop)->Prop}
 {F:Wf (Bd C fl×P) τ (Bd C fl×n)} [Y:At i D (Bd C fl) v] [A:At i B (Bd C fl) r] [U:Pt i r (Bd C fl) B] {k:Nat} {L:List Str} {M:Sem Bool}
 (h:Fm X.prog X.w X.K X.mg X.base T C m L F k) (N:KZ X E T (e::g) j z) (hr:ww k X.A:=by assumption) (G:AW X.K C:=by exact zR.cl<|by assumption) (hx:Passes (vL X.prog X.w) X E:=by exact A8) (H:PE X (.Name x s) (vC i):=by exact pv _) (O:∀a b c d u,(yH a b c d u fl).lookup m=none:=by intros;rfl)
 (Q:gP (e::g) X.env=(false,eval e X.env)::gP g X.env:=by rfl) (R:(jm pos<|gP g X.env).any (·.1)=false:=by rfl)
 (S:eval (.Call (.Attribute (.Name x s) m apos) (e::g) [] pos) X.env=(do
 let I <- eval (.Name x s) X.env
 mY apos.atName
 let (f,first) <- kO [I] (mO I m M)
 nJ pos f first (jm pos (gP (e::g) X.env)) (mZ pos (kP [] X.env))):=by rfl) :
    EO X E T (.Call (.Attribute (.Name x s) m apos) (e::g) [] pos) (λ(d:D)(W:τ->D->Prop) J=>z d (λp b l=>F (A.get b,p) (λy o=>W y<|j (U.put (A.hole b) o.1) l o.2)<|λC o=>J C<|j (U.put (A.hole b) o.1) l o.2) J) :=
  QY i h.ok hr G h.me h.bd hx H O (λt=>T8 H G h.me h.ok hr h.bd .nil hx t Q R S) N
def Dh(i:Nat){e:Type}[Sls e]{l:Wf (Bd C fl×Unit) τ (Bd C fl×Unit)}[A:At i D (Bd C fl) e][U:Pt i e (Bd C fl) D]{k:Nat}{s:List Str}{t:Sem Bool}
 (h:Fm X.prog X.w X.K X.mg X.base T C m s l k) (n:ww k X.A:=by assumption) (o:AW X.K C:=by exact zR.cl<|by assumption) (p:Passes (vL X.prog X.w) X E:=by exact A8) (q:PE X (.Name x g) (vC i):=by exact pv _) (v:∀a b c d u,(yH a b c d u fl).lookup m=none:=by intros;rfl)
 (z:eval (.Call (.Attribute (.Name x g) m apos) [] [] pos) X.env=(do
 let r <- eval (.Name x g) X.env
 mY apos.atName
 let (f,first) <- kO [r] (mO r m t)
 nJ pos f first (jm pos (gP [] X.env)) (mZ pos (kP [] X.env))):=by rfl) :
    EO X E T (.Call (.Attribute (.Name x g) m apos) [] [] pos) (λ(d:D)(B:τ->D->Prop) F=>l (A.get d,()) (λy j=>B y<|U.put (A.hole d) j.1)<|λC j=>F C<|U.put (A.hole d) j.1) :=
  QZ i h.ok n o h.me h.bd p q v (PH q o h.me h.ok n h.bd .nil p z)
end
end WL
namespace WL
open PySem L2
open Rep (rp)
open Ow (sl)
open Sls (rel)
section
structure Dq(K:gO)(x:Str)(st:il):Prop where
 ex:∃f fd,hZ K hW x=↑(some<|.ref f)/\yN K x x st f fd
structure Mq(K:gO)(C:ci)(m q:Str)(st:il):Prop where
 ex:∃f fd,Meth K C m f/\yN K m q st f fd
def a0x{b:il}{e:cr}(a:hZ K hW x=↑(some<|.ref f))(l:K.lookup f=some #[i,j,.func<|jC x x (vX b) (vB b) (uQ b) .none e g pm m d n,h])
 (c:jt K d x=true)(k:jh K (.ref f)=true):Dq K x b:=#[_,_,a,D9 l c k]
def a0y{b:il}{e:cr}(a:iv K (.ref C) x=↑(some<|.ref f))(i:oz K (.ref f)=true)(l:K.lookup f=some #[j,m,.func<|jC x q (vX b) (vB b) (uQ b) .none e g pm n d o,h])
 (c:jt K d q=true)(k:jh K (.ref f)=true):Mq K C x q b:=#[_,_,#[a,i,k],D9 l c k]
noncomputable def Dq.f{x:Str}{a:il}(q:Dq K x a):ci:=q.ex.choose
noncomputable def Dq.d{x:Str}{a:il}(q:Dq K x a):iH:=q.ex.choose_spec.choose
noncomputable def Mq.f{x q:Str}{a:il}(m:Mq K C x q a):ci:=m.ex.choose
noncomputable def Mq.d{x q:Str}{a:il}(m:Mq K C x q a):iH:=m.ex.choose_spec.choose
def Dq.fn{a:il}(q:Dq K x a)(X:K.In h)(G:h.Ns hW j)(c:List Str)
 (b:∀(k e l:cr)(m:Option ci)(g n:cr)(i:List cr),i.length=c.length->sO (jC x x (vX a) (vB a) (uQ a) .none k e l m g n) #[i,[]]=pure (c.zip i)):Fn K j x a c q.f q.d :=
  have h:=q.ex.choose_spec.choose_spec;#[h.2,iZ X G h.1,h.2.binds b]
def Mq.fn{a:il}(m:Mq K C x q a)(c:List Str)
 (b:∀(j e k:cr)(l:Option ci)(g n:cr)(i:List cr),i.length=c.length->sO (jC x q (vX a) (vB a) (uQ a) .none j e k l g n) #[i,[]]=pure (c.zip i)):Mf K C x q a c m.f m.d :=
  have h:=m.ex.choose_spec.choose_spec;#[h.2,h.1,h.2.binds b]
variable[L2.GX]
noncomputable def Fn.fk{x:Str}{h:il}{a:List Str}{f:ci}{b:iH}{A c d:Type}[Sls A][Sls c][Ow d]{e:Wf A d c}{k:Nat}(N:Fn K g x h a f b)(o:vD P w K g base (vL P w) k f b a (yu T e)):Fk P w K g base T x a e k:=#[f,b,o,N.at_,N.fn.kp,N.bd]
noncomputable def Mf.fm{x q:Str}{g:il}{a:List Str}{f:ci}{b:iH}{A c d:Type}[Sls A][Sls c][Ow d]{e:Wf A d c}{k:Nat}(N:Mf K C x q g a f b)(o:vD P w K h base (vL P w) k f b a (yu T e)):Fm P w K h base T C x a e k:=#[f,b,o,N.me,N.bd]
end
variable[L2.GX]
def B2{X:Cx}{E:XK}{T:ci}{f:List Nat}{n:Nat}{D g PO j:Type}[Sls D][Sls g][Sls PO][Ow j]{a:List il}{w w':D->(g->Prop)->(j->PO->Prop)->(ci->PO->Prop)->Prop}(h:SW X E T f n a w)(i:∀d b c e,w' d b c e->w d b c e):SW X E T f n a w' :=
 let ⟨t,k,l⟩:=h
 #[t,k,λd F R m H b c e o s p=>l d F R m H b c e o s<|i d b c e p]
end WL
namespace WL
open PySem L2
open Rep (rp)
open Ow (sl)
open Sls (rel)
structure Cq where
 P:iB
 w:iR
 K:gO
 mg:Str->Option cr
 base:iM
 T:ci
structure Bz(K:gO):Prop where
 all:hZ K hW "all"=↑none
 zip:hZ K hW "zip"=↑none
 set:hZ K hW "set"=↑none
 sorted:hZ K hW "sorted"=↑none
 len:hZ K hW "len"=↑none
 list:hZ K hW "list"=↑none
 isinstance:hZ K hW "isinstance"=↑none
 int:hZ K hW "int"=↑none
 bool:hZ K hW "bool"=↑none
 range:hZ K hW "range"=↑none
 enumerate:hZ K hW "enumerate"=↑none
 tuple:hZ K hW "tuple"=↑none
 min:hZ K hW "min"=↑none
 max:hZ K hW "max"=↑none
 str:hZ K hW "str"=↑none
structure Bn(mg:Str->Option cr):Prop where
 all:mg "all"=none
 zip:mg "zip"=none
 set:mg "set"=none
 sorted:mg "sorted"=none
 len:mg "len"=none
 list:mg "list"=none
 isinstance:mg "isinstance"=none
 int:mg "int"=none
 bool:mg "bool"=none
 range:mg "range"=none
 enumerate:mg "enumerate"=none
 tuple:mg "tuple"=none
 min:mg "min"=none
 max:mg "max"=none
 str:mg "str"=none
def Bz.bn{K:gO}(X:K.In h)(G:h.Ns hW a)(z:Bz K):Bn a :=
 let f:=λ{x:Str} (e:hZ K hW x=some none)=>ts X G e
 #[f z.all,f z.zip,f z.set,f z.sorted,f z.len,f z.list,f z.isinstance,f z.int,f z.bool,f z.range,f z.enumerate,f z.tuple,f z.min,f z.max,f z.str]
variable[L2.GX]
abbrev wZ(q:Cq)(x:Str)(c:List Str){A a b:Type}[Sls A][Sls a][Ow b](d:Wf A b a)(k:Nat):=Fk q.P q.w q.K q.mg q.base q.T x c d k
abbrev yY(q:Cq)(C:ci)(x:Str)(c:List Str){A a b:Type}[Sls A][Sls a][Ow b](d:Wf A b a)(k:Nat):=Fm q.P q.w q.K q.mg q.base q.T C x c d k
abbrev Gq(q:Cq)(k:Nat)(f:ci)(c:iH)(d:List Str){A a b:Type}[Sls A][Sls a][Ow b](e:Wf A b a):Prop:=vD q.P q.w q.K q.mg q.base (vL q.P q.w) k f c d<|yu q.T e
abbrev Cp(q:Cq)(x:Str)(a:il)(f:ci)(b:iH):Prop:=yN q.K x x a f b
@[reducible] def wSq{D c e a b:Type}(h:D->(e->Prop)->(b->a->Prop)->(ci->a->Prop)->Prop)(i:e->(c->Prop)->(b->a->Prop)->(ci->a->Prop)->Prop):D->(c->Prop)->(b->a->Prop)->(ci->a->Prop)->Prop:=λd j f g=>h d (λk=>i k j f g) f g
def vg{c:List Nat}{n:Nat}{D h d b e:Type}[Sls D][Sls h][Sls d][Sls b][Ow e]{i:il}{a:List il}{f:D->(d->Prop)->(e->b->Prop)->(ci->b->Prop)->Prop}{g:d->(h->Prop)->(e->b->Prop)->(ci->b->Prop)->Prop}(j:S1 X E T c n i f)(k:SW X E T c n a g)(l:TN b c n:=by exact vz q0q) :
  SW X E T c n (i::a) (wSq f g):=DC (w1:=f) (w2:=g) l j k
end WL
namespace L2
variable[L2.GX]
open PySem PySem.Spec PyProof.Rows
structure Q6(N P:List Str)(sc:l9)(cl:List (Str×ci)):Prop where
 kind:sc.kind=.function
 co:sc.isCoroutine=false
 gen:sc.isGenerator=false
 nd:N.Nodup
 pre:N.take P.length=P
 par:∀x∈P,sc.names.lookup x=some .local
 Bo:∀y∈sc.names,y.2≠.cell
 has:∀x,sc.names.lookup x=some .free->∃c,cl.lookup x=↑c
 inj:∀x y c,cl.lookup x=↑c->cl.lookup y=↑c->x=y
noncomputable def La(CX:PF)(P:iB)(w:iR)(K:gO)(mg:Str->Option cr)(base:iM)(N:List Str)(qual:Str)(scope:l9)(f:ci)(cd:cr)(cl:List (Str×ci))(A:jx)(outer:List Env)(s:gW)(H:Hp)(E:XK):Cx where
 prog:=P
 w:=w
 K:=K
 mg:=mg
 base:=base
 A:=A.deeper<|iW qual scope ⇑s f cd cl
 N:=N
 s₀:=s
 H₀:=H
 env:=iW qual scope ⇑s f cd cl
 outer:=outer
 stack:=iW qual scope ⇑s f cd cl::outer
 ex:=[]
 calm:=true
 fn:=λ_=>false
 pn:=[]
 xe:=λe s'=>gZ (g8 P w) (A.deeper<|iW qual scope ⇑s f cd cl) (ut (iW qual scope ⇑s f cd cl) e) (λ_ T9=>CX outer H s E e T9) (λe' T9=>CX outer H s E e' T9) s'
section
variable{P:iB}{w:iR}{K:gO}{mg:Str->Option cr}{base:iM}{N ps:List Str}{qual:Str}{scope:l9}{f:ci}{cd:cr}{cl:List (Str×ci)}{A:jx}{outer:List Env}{s:gW}{H:Hp}{E:XK}
def Q7:Passes (vL P w) (La (vL P w) P w K mg base N qual scope f cd cl A outer s H E) E:=by intro a i j k e l I h;obtain⟨C,x,b,rfl,F,c⟩:=h;exact jb (Qs I rfl rfl F) (λ_ d g=>#[C,x,b,rfl,g,c]) λ_ _ z=>z
def Q8:∀{l:List (Str×d)},(l.map (·.1)).Nodup->(x,u)∈l->l.lookup x=↑u:=by
 intro l
 induction l with
 |nil=>intro _ h;cases h
 |cons p l b =>
  intro a h;rw[im,List.nodup_cons]at a;obtain⟨y,v⟩:=p;rcases List.mem_cons.mp h with z|z
  ·cases z;rw[iF,pC]
  ·have c:(x==y)=false:=beq_eq_false_iff_ne.mpr λe=>a.1 (by rw[<- e];exact List.mem_map.mpr #[_,z,rfl]);rw[iF,c];exact b a.2 z
def Jv:∀(ps:List b)(a:List c),((ps.zip a).map (·.1)).Sublist ps
 | [],_=>by simp
 |_::_,[]=>by simp
 |p::ps,u::a=>by rw[List.zip_cons_cons,im];exact(Jv ps a).cons₂ p
def U6{ps:List Str}{i:Nat}(b:ps.Nodup)(c:ps[i]?=↑x)(d:a[i]?=↑u):(ps.zip a).reverse.lookup x=↑u:=by
 refine Q8 ?_ ?_
 ·rw[List.map_reverse];refine List.pairwise_reverse.mpr<|o4 Ne.symm ?_;exact b.sublist<|Jv ps a
 ·rw[List.mem_reverse];refine List.mem_iff_getElem?.mpr #[i,?_];rw[List.getElem?_zip_eq_some];exact#[c,d]
def Ld{j:iM}{D:Nat}{k:List V}(S:Q6 N ps scope cl)(C:∀x c,cl.lookup x=↑c->∃v,base.IsCell c v)(F:A.handled=none)(g:IR P w K mg base A outer s H)(R:k.length=ps.length)(r:Vals k G)
 (I:j.Ns ⇑s (λx=>(ps.zip G).reverse.lookup x))(t:∀b o,s.heap.get? b=↑o->j.get? b=↑o):Inv (La J P w K mg base N qual scope f cd cl A outer s H E) [] (start N k) H { s with heap:=j,toks:=D}:=by
  have L:ps.length<=N.length:=by have:=congrArg oi S.pre;rw[lR]at this;lia
  have l:∀b:ci,b∉(La J P w K mg base N qual scope f cd cl A outer s H E).ex:=λb z=>hV (show b∈([]:List ci) from z) q0o
  refine#[#[g.mod,S.kind,rfl,rfl,gQ _,λy z c j d=>S.inj y z c j d,λy m=>?_,λy c z _=>(by cases z),λ_=>F,sF g.frames,.inr #[rfl,rfl],λb z=>hV z (l b),g.bs,g.IH,λb _ _=>l b,λb z=>hV z (l b),g.yE,g.J1],
    rfl,g.bare,Un.kept t,#[_,I,λi y v j d T=>?_],λy c h=>?_,g.vK.fresh (gQ _),λy c h=>?_,λp n=>hV (show p∈([]:List (ci×Obj)) from n) q0o,g.vK.kept t,?_]
  · have m : scope.names.lookup y = some .cell \/ scope.names.lookup y = some .free := m
    rcases m with m|m
    · exact hV rfl<|S.Bo _<|j9 m
    · exact S.has y m
  · have q : i<k.length := by
      unfold start at d
      by_cases q:i<k.length
      · exact q
      · rw[jR<|by simpa using q]at d
        rw[sr]at d
        split at d<;>cases d
    have M:k[i]?=↑v:=by
      unfold start at d
      rw[lV (by simpa using q),jE]at d
      cases e:k[i]? with
      |none=>rw[e]at d;cases d
      |some a=>rw[e]at d;cases d;rfl
    refine e1a2 (r.get M) λu O Q=>?_
    have n:ps[i]?=↑y:=by rw[<- S.pre,rV q0a];exact j
    have B:ps.Nodup:=by rw[<- S.pre];exact S.nd.sublist<|uu _ _
    exact#[u,Q,.inl #[S.par y<|jK n,U6 B n O]]
  · obtain⟨v, z⟩ := C y c h
    exact#[v,z.keeps λb o e=>t b o (g.bs b o e).1]
  · refine e2a2 (C y c h) λv o z _ => ?_
    exact(g.bs c o z).2
  · unfold start
    show _=N.length
    rw[hO,gV,sP]
    lia
end
def PEA(X:Cx)(c:List il)(e:iL)(t:TE):Prop :=
 ∀(a:List (ci×Obj)) (s:gW) (b:St) (H:Hp) (Q:VK),Inv X a b H s->t b H Q->tW 23 X.A (.func c X.env) (eval e X.env) (EP X a b Q) X.xe s
def PSA(X:Cx)(c:List il)(d:il)(t:TS):Prop :=
 ∀(a:List (ci×Obj)) (s:gW) (b:St) (H:Hp) (D:Ends),Inv X a b H s->t D b H->tW 23 X.A (.func c X.env) (exec d X.env) (SP X a D) X.xe s
def Q9(X:Cx)(c:List il)(d:List il)(t:TS):Prop :=
 ∀(a:List (ci×Obj)) (s:gW) (b:St) (H:Hp) (D:Ends),Inv X a b H s->t D b H->tW 23 X.A (.func c X.env) (execs d X.env) (SP X a D) X.xe s
section
variable{fb:List il}{pos:Pos}
def Rc{b:il}(h:PS X b t):PSA X fb b t:=λa s c H D I q=>wpAt_of_wpAny<|h a s c H D I q
def DI{b:List il}(h:Ft X b t):Q9 X fb b t:=λa s c H D I q=>wpAt_of_wpAny<|h a s c H D I q
def yB{e:il}{a:List il}(g:PSA X fb e h)(i:Q9 X fb a j):Q9 X fb (e::a) (Kc h j):=λb s k H D I q=>by
 refine ks_wpAt_execs_cons<|rs (g b s k H _ I q) (λf l c=>?_) λ_ _ z=>z
 cases f with
 |next=>obtain⟨d,m,J,n⟩:=c;exact i b l d m D J n
 |brk=>exact c
 |cont=>exact c
 |ret u=>exact c
def U7(h:PEA X fb e t):PSA X fb (.Return ↑e pos) (Xi t):=λa s b H D I q =>
 ks_wpAt_Return_some (rs (h a s b H _ I q) (λu g c=>e2a3 c λv d J r f=>#[v,b,d,J,r,f]) λ_ _ z=>z)
def EG(h:PEA X fb e t)(c:jW e none pos.line X.env=pure false:=by rfl):PSA X fb (.Expr e pos) (IM t):=λa s b H D I q =>
 ks_wpAt_Expr_any (rs (h a s b H _ I q) (λu i d=>e2a3 d λv f J r g=>#[b,f,J,g]) λ_ _ z=>z) I.quiet c
end
structure Le(P:iB)(K:gO)(C f zj cc:ci)(x0:Str):Prop where
 fn:∃(oc:cr)(od:Option ci)(fd:iH) (N0:Array (Option cr)) (ar:Arg),K.lookup f=some #[oc,od,.func fd,N0]/\(fd.params.posonlyargs++fd.params.args).head?=↑ar/\ar.arg=x0
 code:∃(oc:cr)(od:Option ci)(vs:Array cr) (N0:Array (Option cr)) (file:Str) (tf:Tok),K.lookup zj=some #[oc,od,.fields vs,N0]/\vs[2]?=↑(.str file tf)/\((P.main.file:Str)==file)=true
 cell:∃(oc:cr)(od:Option ci) (N0:Array (Option cr)),K.lookup cc=some #[oc,od,.cell<|some<|.ref C,N0]
 cls:∃cd,mQ K C=↑cd
 sub:kX K C (.ref C)=↑true
 opq:hZ K rr "thirdparty.any"=↑none
 top:(P.main.scope.names.lookup ("super":Str)).isSome=false
def a0z(C:ci)(c:Sp)(E:XK)(t:TA):TE:=λb H Q=>∃a d e,b[0]?=↑(some<|.ref a)/\H a=some (.ins C d e)/\t b H λf g=>c (.ref a::f) g Q E
def Re(K:gO)(h:ci)(c:Pos)(f:List iL)(d:Env):Prop:=∀{M:Model} {B:jx} {Q e:cr->gW->Prop} {g:gW} {q a:ci},
 gZ M B (uq<|jm c<|gP f d) (λi b=>rA K q h (.ref a) b.heap/\gZ M B (call (.ref q) i) Q e b) e g->gZ M B (nJ c (.ref q) [] (jm c<|gP f d) []) Q e g
def Ot(d e b c:Pos)(m:Str)(f:List iL):Prop:=∀a:Env,∃h:Sem Bool,eval (.Call (.Attribute (.Call (.Name "super" d) [] [] e) m b) f [] c) a=(do
 let g <- iG (.Call (.Name "super" d) [] [] e) m a (eval (.Call (.Name "super" d) [] [] e) a)
 mY b.atName
 let (i,first) <- kO [g] (mO g m h)
 nJ c i first (jm c (gP f a)) [])
def cw_nil{K:gO}(b:my K f2=true):Re K f2 pos [] c:=λ{M B Q e f q a} h=>by refine pE (P:=rA K q f2<|.ref a) rfl (uj b) ?_;refine am<|jb h (λg i d=>?_) λ_ _ x=>x;refine iD ?_;exact am<|ap<|am<|ap<|ap d
def cw_cons{K:gO}(f:my K f2=true)(g:gP (e::d) b=(false,eval e b)::gP d b:=by rfl)(c:(jm pos<|gP d b).any (·.1)=false:=by rfl):Re K f2 pos (e::d) b:=λ{M B Q i j q a} h=>by rw[g]at h ⊢;exact pE (P:=rA K q f2<|.ref a) (by show ((false||(jm pos<|gP d b).any (·.1))||false)=false;rw[c];rfl) (uj f)<|jA h
section
variable{P:iB}{w:iR}{K:gO}{mg:Str->Option cr}{base:iM}{N ps:List Str}{qual:Str}{scope:l9}{f zj cc:ci}{A:jx}{outer:List Env}{s:gW}{H:Hp}{E E0:XK}{C f2:ci}{x0 m:Str}{k:Nat}{fd2:iH}{sp:Sp}{fb:List il}{p0 p1 apos pos:Pos}{es:List iL}{ta:TA}
set_option tactic.hygienic true in
def Hi(S:Le P K C f zj cc x0)(ab:N[0]?=↑x0)(M:scope.names.lookup ("super":Str)=some .globalImplicit)(R:scope.names.lookup ("__class__":Str)=some .free)(x:scope.names.lookup x0=some .local)(ae:mg "super"=none)
 (hm:jU K C C m=↑(some<|.ref f2)) (ht:oX K (.ref f2)=↑(.type "function")) (aq:my K f2=true) (F:vD P w K mg base (vL P w) k f2 fd2 ps sp) (T:Binds K fd2 ps [])
 (hr:ww k (A.deeper<|iW qual scope ⇑s f (.ref zj) [("__class__",cc)])) (ha:PA (La (vL P w) P w K mg base N qual scope f (.ref zj) [("__class__",cc)] A outer s H E) es ta)
 (af:Re K f2 pos es (iW qual scope ⇑s f (.ref zj) [("__class__",cc)])) (y:Ot p0 p1 apos pos m es) (U:(m==("__class__":Str))=false:=by decide) :
    PEA (La (vL P w) P w K mg base N qual scope f (.ref zj) [("__class__",cc)] A outer s H E) fb (.Call (.Attribute (.Call (.Name "super" p0) [] [] p1) m apos) es [] pos) (a0z C sp E ta):=by
  intro l i σ H1 Q I h
  obtain⟨a,dx,fs,h0,ea,h⟩:=h
  have X:=I.yJ
  obtain⟨oc,od,fd,au,ar,lf,hp,rfl⟩:=S.fn
  obtain⟨av,aw,ax,al,file,tf,lc,ag,B⟩:=S.code
  obtain⟨an,ao,aa,D⟩:=S.cell
  obtain⟨cd,j⟩:=S.cls
  obtain⟨mA,O,_,_,_,_⟩:=By I.vK ea
  refine e1a2 I.loc λmL hn hl=>?_
  refine e1a2 (hl 0 ar.arg (.ref a) ab h0<|.inl x) λu ru lk=>?_
  obtain rfl:u=h8 a:=ru
  have ah:mL ar.arg=↑(.ref a):=by
    rcases lk with⟨_,q⟩|⟨q,_⟩
    · exact q
    · have q : scope.names.lookup ar.arg = some .cell \/ scope.names.lookup ar.arg = some .free := q
      rw[x]at q
      rcases q with q|q<;>cases q
  obtain⟨oD,G,J⟩:∃oD,i.heap.get? C=some oD/\oD.data=.cls cd:=by
    unfold mQ at j
    split at j
    · rename_i c d ay sl ho
      cases j
      exact#[_,X _ _ ho,rfl]
    · cases j
  refine e1a2 I.mod.blt λmb ai aj=>?_
  have ne:a≠C:=λz=>by
    have:=O.obj
    rw[z,G]at this
    cases this
    cases J
  obtain⟨pl,y⟩:=y<|iW qual scope ⇑s f (.ref zj) [("__class__",cc)]
  refine ks_wpAt_MethodCall (pl:=pl) (ks_wpAt_super_base (env:=iW qual scope ⇑s f (.ref zj) [("__class__",cc)]) M R U rfl (X _ _ lf) rfl hp rfl (X _ _ lc) rfl ag B S.top ?_) y
  refine qW I.ok.kind M<|og (env:=iW qual scope ⇑s f (.ref zj) [("__class__",cc)]) (I.mod.glob.keeps I.bk) ae (ai.keeps I.bk) ((aj _ q0s).trans rfl) #[rfl,?_]
  refine qx I.ok.kind R rfl #[_,X _ _ D,rfl] ?_
  refine kN I.ok.kind x hn ah ?_
  refine ks_wpAny_isType_cls (h:=i.heap) (g:=i.gens) (d:=i.drawn) (t:=i.toks) (os:=i.os) G J #[rfl,?_]
  refine ks_wpAny_call_super (h:=i.heap) (g:=i.gens) (d:=i.drawn) (t:=i.toks) (os:=i.os) G J O.obj rfl (λc e=>by cases e) (pF X S.sub) λn e k'=>?_
  have L:Inv _ l σ H1 #[n,i.gens,i.drawn,i.toks,i.os]:=I.kept (t':=i.toks) k'
  unfold jU at hm
  rw[j]at hm
  obtain⟨of,ak,Y⟩:∃of,n.get? f2=some of/\of.cls=.type "function":=by
    have p:(K.lookup f2).map (·.cls)=↑(.type "function"):=ht
    cases z:K.lookup f2 with
    |none=>rw[z]at p;cases p
    |some of=>rw[z]at p;exact#[of,L.yJ _ _ z,iX p]
  refine ks_wpAny_getMethod_super e (sy L.yJ S.opq) (l₀:=cd.mro) (λA Q E s k q=>am<|(pq L.yJ j) A _ E s k<|ap q) rfl L.yJ hm ak Y ne U ?_
  have I2:Inv _ l σ H1 #[n.push { cls:=.type "method",data:=.fields #v[.ref f2,.ref a]},i.gens,i.drawn,i.toks+1,i.os]:=L.kept (t':=i.toks+1) λb o z=>ce _ z
  have fr:H1 n.objs.size=none:=L.vK.fresh<|gQ _
  have gq:(n.push { cls:=.type "method",data:=.fields #v[.ref f2,.ref a]}).get? n.objs.size=↑(mr (.ref f2)<|.ref a):=oo rfl rfl
  have I3:=I2.pinned (fp:=[n.objs.size]) (λb T=>by rw[List.mem_singleton.mp T];exact L.Gz (gQ _) fr) λb T=>by rw[List.mem_singleton.mp T];exact#[_,gq,λv z=>by cases z]
  refine af (a:=a)<|vI (ha pos _ _ σ H1 _ I3 h) λZ s2 z9=>e2a3 z9 λvs H2 I4 r q2=>?_
  have g2:s2.heap.get? n.objs.size=↑(mr (.ref f2)<|.ref a):=(I4.pin (n.objs.size,mr (.ref f2)<|.ref a)<|ig _<|ig _<|xE gR gq).1
  refine#[#[g2,I4.yJ],?_]
  have I5:=I4.zW
  have r2:Vals (.ref a::vs) (.ref a::Z):=.cons rfl r
  have hl:(h8 a::Z).length=ps.length:=by rw[<- r2.length];exact F.len _ _ _ _ q2
  refine mM<|ks_codeAny_call_bound g2<|jT (F.run _ _ s2 H2 ⟨.ref a::Z,[]⟩ (.ref a::Z) (.ref a::vs) Q E hr I5.IS (by simpa using T s2 (.ref a::Z) I5.yJ (by simpa using hl)) r2 q2) λr s' hq=>?_
  cases r with
  |error e=>exact Q7 l σ H2 s2 e s' I5 hq
  |ok fl =>
    cases fl with
    |ret u=>exact I5.after hq
    |next=>exact iC hq
    |brk=>exact iC hq
    |cont=>exact iC hq
def Hj{O:cr}(lk:K.lookup f=some #[oc,od,.func<|kF name qual g a scope i dV O F pm an d ct,aa])(R:jt K d qual=true)
 (S:Q6 N ps scope i) (hc:∀x c,i.lookup x=↑c->∃o v,K.lookup c=↑o/\o.data=.cell v) (G:∀j H Q E,sp j H Q E->j.length=ps.length)
 (z:∀(A:jx)(outer:List Env)(s:gW)(H:Hp)(j:List V)(Q:VK)(E:XK),ww k (A.deeper (iW qual scope ⇑s f d i))->sp j H Q E ->
 ∃t,Q9 (La (vL P w) P w K mg base N qual scope f d i A outer s H E) a a t/\t { nx:=λ_ p=>Q .wF p,rt:=Q} (start N j) H) :
    vD P w K mg base (vL P w) (k+1) f (kF name qual g a scope i dV O F pm an d ct) ps sp:=by
  refine#[G,λA outer s H args us j Q E T B hb r L=>?_]
  have hl:=G _ _ _ _ L
  have KX:K.In s.heap:=B.mod.Bv.keeps λb o e=>(B.bs b o e).1
  have U:s.heap.NoLimit:=B.mod.nolimit.keeps λb o e=>(B.bs b o e).1
  have l:∀x c,i.lookup x=↑c->∃v,base.IsCell c v:=λx c h=>by
    refine e2a2 (hc x c h) λo v q1 q2=>?_
    exact#[v,o,B.mod.Bv _ _ q1,q2]
  refine ks_codeAny_call_defAt (fd:=kF name qual g a scope i dV O F pm an d ct) (body:=a) (binds:=ps.zip us) T.depth (KX _ _ lk) rfl U (sQ KX R) rfl hb S.Bo (λy hy=>S.par y.1 (oZ hy).1) (λh1 X Y=>?_) S.co S.gen S.kind
  refine e1a2 (z A outer s H j Q E (T.deeper _) L) λt ht hq=>?_
  have I:Inv (La (vL P w) P w K mg base N qual scope f d i A outer s H E) [] (start N j) H { s with heap:=h1,toks:=s.toks+(ps.zip us).length}:=Ld S l T.hd B hl r X Y
  refine rs (ht [] _ (start N j) H _ I hq) (λfl Z D=>?_) λe Z D=>D
  have M:∀{n:St} {p:Hp} {v:V} {u:cr},Inv (La (vL P w) P w K mg base N qual scope f d i A outer s H E) [] n p Z->RelV v u->Q v p->CE outer P w H s Q u Z :=
    λ{n p v u} J rv q=>#[v,p,J.os,J.bare,J.base,J.vK,rv,q]
  cases fl with
  |ret u =>
    obtain⟨v,n,p,J,rv,q⟩:=D
    exact M J rv q
  |next =>
    refine e2a2 D λn p J q=>?_
    exact M (v:=V.wF) (u:=Value.none) J rfl q
  |brk =>
    refine e2a2 D λ_ _ _ q=>?_
    exact iC q
  |cont =>
    refine e2a2 D λ_ _ _ q=>?_
    exact iC q
end
end L2
namespace WL
variable[L2.GX]
open PySem L2
open Rep (rp)
open Ow (sl)
open Sls (rel)
structure xD(N P:List Str)(sc:l9):Prop where
 kind:sc.kind=.function
 co:sc.isCoroutine=false
 gen:sc.isGenerator=false
 nd:N.Nodup
 pre:N.take P.length=P
 par:∀x∈P,sc.names.lookup x=some .local
 Bo:∀y∈sc.names,y.2≠.cell
 fr:∀y∈sc.names,y.2=.free->y.1="__class__"
 ks:sc.names.lookup ("super":Str)=some .globalImplicit
 kc:sc.names.lookup ("__class__":Str)=some .free
def xD.x{N P:List Str}{sc:l9}(S:xD N P sc)(cc:ci):Q6 N P sc [("__class__",cc)] :=
 #[S.kind,S.co,S.gen,S.nd,S.pre,S.par,S.Bo,λx h=>#[cc,by have e:x="__class__":=S.fr _ (j9 h) rfl;rw[e];rfl],λx y c h1 h2=>by
  have q:∀{z:Str},([(("__class__":Str),cc)]:List (Str×ci)).lookup z=↑c->z="__class__":=λ{z} h=>by
   by_cases e:(z==("__class__":Str))=true
   ·exact eq_of_beq e
   ·rw[iF,Bool.eq_false_iff.mpr e]at h;cases h
  rw[q h1,q h2]]
structure B3(P:iB)(K:gO)(C:ci)(x qual:Str)(st:il)(f:ci)(fd:iH):Prop where
 ex:∃(oc:cr)(od:Option ci)(kV doc pm:cr)(an:Option ci)(zj cc:ci)(ct:cr) (N0:Array (Option cr)),
  fd=kF x qual (vX st) (vB st) (uQ st) [("__class__",cc)] .none kV doc pm an (.ref zj) ct/\K.lookup f=some #[oc,od,.func fd,N0]/\jt K (.ref zj) qual=true/\Le P K C f zj cc "self"
 kp:jh K (.ref f)=true
structure Sm(K:gO)(C:ci)(m:Str)(f2:ci):Prop where
 find:jU K C C m=↑(some<|.ref f2)
 ty:oX K (.ref f2)=↑(.type "function")
 fn:my K f2=true
structure Fs(P:iB)(w:iR)(K:gO)(mg:Str->Option cr)(base:iM)(C:ci)(m:Str)(ps:List Str)(sp:Sp)(k:Nat):Prop where
 ex:∃f2 fd2,Sm K C m f2/\vD P w K mg base (vL P w) k f2 fd2 ps sp/\Binds K fd2 ps []/\mg "super"=none
def U8{B b i:Type}[Sls B][Sls b][Ow i]{k:Bool}{l:Wf (Bd C k×B) i b}{c:List V}(h:yu T l c H Q E):∃a d m r,c=.ref a::r/\H a=↑(.ins C d m):=by
 obtain⟨F,R,p,o,q,s,_⟩:=h;obtain⟨v,n,t,u,e,_,⟨a,d,w,x,y,z,A,j,_,g⟩,_⟩:=s.rel;subst j
 cases c with
 |nil=>cases e
 |cons v r=>injection e with f j;injection f with f;subst f;exact#[a,d,_,r,rfl,g.ob]
def x8{o:il}{d:List Str}{k:Nat}{B t X:Type}[Sls B][Sls t][Ow X]{fl:Bool}{u:Wf (Bd C fl×B) X t}{p:List iL} 
 (F:B3 P K C x l o f fd) (S:xD d d (uQ o)) (v:vB o=[.Return (some<|.Call (.Attribute (.Call (.Name "super" p0) [] [] p1) m apos) p [] pos) p2]) (Y:d[0]?=↑("self":Str)) (z:Ot p0 p1 apos pos m p) (G:Fs P w K Z base C m d (yu T u) k)
 (ha:∀(g n:ci)(A:jx)(b:List Env)(s:gW)(H:Hp)(E:XK),PA (La (vL P w) P w K Z base d l (uQ o) f (.ref g) [("__class__",n)] A b s H E) p ta)
 (I:∀(a:ci)(r:List V)(H:Hp)(Q:List V->Hp->Prop),r.length+1=d.length->Q r H->ta ((V.ref a::r).map some) H Q) (J:∀(q:ci)(L:Env),my K q=true->Re K q pos p L) (N:(m==("__class__":Str))=false:=by decide) :
    vD P w K Z base (vL P w) (k+1) f fd d (yu T u):=by
  obtain⟨oc,od,kV,aa,pm,an,g,n,ct,ab,rfl,lk,O,D⟩:=F.ex
  refine e2a4 G.ex λq ae M G hb R=>?_
  obtain⟨o1,o2,o3,i⟩:=D.cell
  refine Hj lk O (S.x n) (λy c h=>?_) G.len λA b s H vs Q E hr j=>?_
  · have e : c = n := by
      by_cases e:(y==("__class__":Str))=true
      · rw[iF, e]at h; cases h; rfl
      · rw[iF, Bool.eq_false_iff.mpr e]at h; cases h
    subst e
    exact#[_,_,i,rfl]
  · have hl := G.len _ _ _ _ j
    obtain⟨a,dx,fs,r,rfl,ea⟩:=U8 j
    have U:start d (V.ref a::r)=(V.ref a::r).map some:=by unfold L2.start;rw[hl,qH];simp
    refine#[Kc (Xi<|a0z C (yu T u) E ta) Wu,?_,?_]
    · rw[v]
      exact yB (U7<|Hi D Y S.ks S.kc (S.par _<|jK Y) R M.find M.ty M.fn G hb hr (ha g n A b s H E) (J q _ M.fn) z N)<|DI zo
    · rw[U]
      exact#[a,dx,fs,rfl,ea,I a r H _ hl j]
class Fu(D:Type)[Sls D]:Prop where
 fu:∀{F R:Rg} {H:Hp} {d:D} {σ:St},rel F R H d σ->∃vs:List V,σ=vs.map some
instance:Fu Unit:=#[λh=>#[[],h.1]]
instance{τ D:Type}[Ow τ][Sls D][Hs τ][Fu D]:Fu (τ×D):=#[λh=>by
 obtain⟨v,σ',F1,F2,rfl,_,h3,h4⟩:=h;obtain⟨u,rfl⟩:=Hs.has h3;obtain⟨vs,rfl⟩:=Fu.fu h4
 exact#[u::vs,rfl]]
def SWA(X:Cx)(e:List il)(E:XK)(T:ci)(f:List Nat)(n:Nat)(a:List il){D c b d:Type}[Sls D][Sls c][Sls b][Ow d](w:D->(c->Prop)->(d->b->Prop)->(ci->b->Prop)->Prop):Prop:=∃t,Q9 X e a t/\WN E T f n t w
def W2{g:List il}{c:List Nat}{n:Nat}{D h e b f:Type}[Sls D][Sls h][Sls e][Sls b][Ow f]{i:il}{a:List il}{j:D->(e->Prop)->(f->b->Prop)->(ci->b->Prop)->Prop}{k:e->(h->Prop)->(f->b->Prop)->(ci->b->Prop)->Prop}(o:S1 X E T c n i j)(p:SWA X g E T c n a k)(q:TN b c n:=by exact vz q0q) :
  SWA X g E T c n (i::a) (λd r l m=>j d (λs=>k s r l m) l m) :=
 e1a2 o λx t u=> e1a2 p λy v w=> #[_,yB (Rc t) v,WO q u w]
def U9{o:il}{A:jx}{b:List Env}{s:gW}{fb:List il}{ms:List Nat}{n k:Nat}{l:List Str}{B t:Type}[Sls B][Sls t]{fl:Bool}{wf:Wf (Bd C fl×B) Unit t}{u:List iL}{p2:Pos}[Fu B][L:Ln B n]
 (D:Le P K C f j z "self") (S:xD l l (uQ o)) (h0:l[0]?=↑("self":Str)) (J:Ot p0 p1 apos pos m u) (G:Fs P w K mg base C m l (yu T wf) k) (hr:ww k (A.deeper<|iW i (uQ o) ⇑s f (.ref j) [("__class__",z)]))
 (ha:PA (La (vL P w) P w K mg base l i (uQ o) f (.ref j) [("__class__",z)] A b s H E) u ta)
 (N:∀(a:ci)(r:List V)(H:Hp)(Q:List V->Hp->Prop),r.length=n->Q r H->ta ((V.ref a::r).map some) H Q) (O:∀(I:ci)(U:Env),my K I=true->Re K I pos u U) (X:(m==("__class__":Str))=false:=by decide) (Y:jW (.Call (.Attribute (.Call (.Name "super" p0) [] [] p1) m apos) u [] pos) none p2.line (iW i (uQ o) ⇑s f (.ref j) [("__class__",z)])=pure false:=by rfl) :
    SWA (La (vL P w) P w K mg base l i (uQ o) f (.ref j) [("__class__",z)] A b s H E) fb E T ms (n+1) [.Expr (.Call (.Attribute (.Call (.Name "super" p0) [] [] p1) m apos) u [] pos) p2] (λ(d:Bd C fl×B)(Z:t->Prop)(_:Unit->t->Prop) Ke=>wf d (λ_ p=>Z p) Ke):=by
  refine e2a4 G.ex λI ab M G hb aa=>?_
  refine#[_,yB (EG (Hi D h0 S.ks S.kc (S.par _<|jK h0) aa M.find M.ty M.fn G hb hr ha (O I _ M.fn) J X) Y)<|DI zo,λd F R σ H1 Z Kr Ke En s1 hw kn kr ke=>?_]
  refine e4a4 (id s1.rel) λv ae F1 F2 e t2 h3 h4=>?_
  obtain⟨a,dx,d1,d2,d3,d4,us,rfl,_,g⟩:=id h3
  obtain⟨r,rfl⟩:=Fu.fu h4
  have hl:=L.ln h4
  rw[gV]at hl
  subst e
  refine#[a,dx,_,rfl,g.ob,N a r H1 _ hl #[F,R,d,λ_ p=>Z p,Ke,s1,hw,λx p' v M1 M2 R' H' q c s' n'=>?_,λC y p' F' R' H' q c s'=>?_]]
  · exact kn p' M2 R' H' _ q (c.less λa h => .inr h) s'<|Ag.refl _ _
  · exact ke C y p' F' R' H' q c (by rw[js<|by simp[hl]]; exact s')
def a0B{J:il}{M:List Str}{k n:Nat}{ms:List Nat}{A PO:Type}[Sls A][Sls PO][L:Ln A n](dp:TN PO ms n){w0:A->(PO->Prop)->(Unit->PO->Prop)->(ci->PO->Prop)->Prop}
 (F:B3 P K C x j J f fd) (S:xD M M (uQ J)) (hn:M.length=n)
 (r:∀(i u:ci)(A:jx)(b:List Env)(s:gW)(H:Hp)(E:XK),Le P K C f i u "self"->ww k (A.deeper<|iW j (uQ J) ⇑s f (.ref i) [("__class__",u)])->SWA (La (vL P w) P w K mg base M j (uQ J) f (.ref i) [("__class__",u)] A b s H E) (vB J) E T ms n (vB J) w0) :
    vD P w K mg base (vL P w) (k+1) f fd M (yu T λ(p:A)(X:Unit->PO->Prop) N=>w0 p (λY=>X () Y) X N):=by
  have l:∀{o:List V} {H:Hp} {Q:VK} {E:XK},yu T (λ(p:A)(X:Unit->PO->Prop) N=>w0 p (λY=>X () Y) X N) o H Q E->o.length=n:=λh=>by
    obtain⟨F,R,p,Kn,N,s,_⟩:=h
    have:=L.ln s.rel
    rwa [gV]at this
  obtain⟨oc,od,kV,ae,pm,an,i,u,ct,af,rfl,lk,aa,D⟩:=F.ex
  obtain⟨o1,o2,o3,B⟩:=D.cell
  refine Hj lk aa (S.x u) (λy c h=>?_) (λo H Q E h=>(l h).trans hn.symm) λAr b s H o Q E hr Z=>?_
  · have e : c = u := by
      by_cases e:(y==("__class__":Str))=true
      · rw[iF, e]at h; cases h; rfl
      · rw[iF, Bool.eq_false_iff.mpr e]at h; cases h
    subst e
    exact#[_,_,B,rfl]
  refine e1a2 (r i u Ar b s H E D hr) λt h1 h2=>?_
  refine#[t,h1,?_]
  have hl:=l Z
  obtain⟨F,R,p,Kn,N,s0,hw,kn,ke⟩:=Z
  have ab:start M o=o.map some:=by unfold L2.start;rw[hl,hn,qH];simp
  rw[ab]
  have G:(o.map some).take n=o.map some:=js (by rw[gV,hl];exact gQ _)
  refine h2 p F R _ H _ Kn N _ s0 hw (λY F' O U I q c d g=>?_) (λx p' v F1 F2 O U q c d m=>?_) λC y p' F' O U q c d=>?_
  · have e' : I.take n = I := js (by rw[g.1, gV, hl]; exact gQ _)
    have g3:=dp.dp g (show rel F' O U Y (I.take n) by rw[e'];exact d.rel)
    rw[G]at g3
    exact kn () _ .wF (λ_=>False) F' O U q (c.less λa h=>h.elim (λz=>z.elim) id) #[g3,d.sub,d.xk,d.tab,d.vN,d.vE] #[#[λ_ z=>z,.wF,rfl,rfl],λ_ z=>z.elim,λ_ z=>z.elim,λz=>z]
  · rw[G]at d
    exact kn x p' v F1 F2 O U q c d m
  · rw[G]at d
    exact ke C y p' F' O U q c d
def DJ(C:ci):Sp:=λi H Q E=>∃p h,i=[.ref p]/\H p=↑(.ins C h []) /\
 ∀c d e f g,(∀a,a=c\/a=d\/a=e\/a=f->H a=none)->[c,d,e,f].Nodup->g p=↑(.ins C h<|yH c d e f 0 true)->(∀a,a=c\/a=d\/a=e\/a=f->g a=↑(.dK []))->(∀b o,b≠p->H b=↑o->g b=↑o)->Q .wF g
def Rf{J:il}{k:Nat}{p3 p4:Pos}{i:List il}(F:B3 P K C "__init__" q J f fd)(S:xD ["self"] ["self"] (uQ J))(ct:zR K C)(cf:Pg K C)(T:Ot p0 p1 apos pos "__init__" [])
 (U:vB J=.Expr (.Call (.Attribute (.Call (.Name "super" p0) [] [] p1) "__init__" apos) [] [] pos) p2::i) (G:Fs P w K mg base C "__init__" ["self"] (Hf C) k)
 (W:∀X,jW (.Call (.Attribute (.Call (.Name "super" p0) [] [] p1) "__init__" apos) [] [] pos) none p2.line X=pure false)
 (Y:∀(j r:ci)(A:jx)(d:List Env)(s:gW)(H:Hp)(E:XK),Ft (La (vL P w) P w K mg base ["self"] q (uQ J) f (.ref j) [("__class__",r)] A d s H E) i<|Kc (NP K (vC 0) D7 "head_by_tail")<|NP K (vC 0) D7 "tail_by_head") :
    vD P w K mg base (vL P w) (k+1) f fd ["self"] (DJ C):=by
  obtain⟨oc,od,kV,af,pm,an,j,r,ag,ah,rfl,lk,Z,D⟩:=F.ex
  refine e2a4 G.ex λf2 ai M G hB aa=>?_
  obtain⟨o1,o2,o3,l⟩:=D.cell
  refine Hj lk Z (S.x r) (λy c h=>?_) (λvs H Q E z9=>e2a2 z9 λp t e _=>by rw[e];rfl) λAr d s H vs Q E hr ab=>?_
  · have e : c = r := by
      by_cases e:(y==("__class__":Str))=true
      · rw[iF, e]at h; cases h; rfl
      · rw[iF, Bool.eq_false_iff.mpr e]at h; cases h
    subst e
    exact#[_,_,l,rfl]
  refine#[_,by rw[U];exact yB (EG (Hi D rfl S.ks S.kc (S.par _ gR) aa M.find M.ty M.fn G hB hr vk (cw_nil M.fn) T)<|W _)<|DI<|Y j r Ar d s H E,?_]
  obtain⟨p,t,rfl,m,k⟩:=ab
  refine#[p,t,[],rfl,m,p,t,rfl,m,λL N H1 h1 h2 ae g1 g2 g3 g4=>?_]
  intro u v
  have O:p≠u:=vc g1 v
  have q2:L≠u:=vc g2 v
  have q3:N≠u:=vc g3 v
  refine#[_,rfl,p,C,t,_,rfl,(by rw[uR O];exact g1),ct.cl,cf.nH,(by show 3<1000;decide),?_]
  intro B g
  have R:p≠B:=λz=>by rw[<- z,uV]at g;cases g
  rw[uR R.symm]at g
  have r2:B≠u:=λz=>by rw[z,uV]at g;cases g
  rw[uR r2]at g
  have r3:L≠B:=vc g2 g
  have r4:N≠B:=vc g3 g
  refine#[_,rfl,p,C,t,_,rfl,(by rw[uR R,uV]),ct.cl,cf.nT,(by show 4<1000;decide),?_]
  have I:∀{b:ci} {o:HO},H b=↑o->b≠p->H1 b=↑o:=λh n=>g4 _ _ n h
  have z:∀{a:ci},a≠p->H1 a=none->H a=none:=λ{a} n h=>by
    cases e:H a with
    |none=>rfl
    |some o=>rw[I e n]at h;cases h
  refine k L N u B _ (λa ha=>?_) ?_ ?_ (λa ha=>?_) λb o nb Y=>?_
  · rcases ha with e|e|e|e <;> rw[e]
    · exact h1
    · exact h2
    · exact z O.symm v
    · exact z R.symm g
  · simp only[List.nodup_cons, io, ja, mf, pP, mG, and_true, not_false_eq_true]
    exact#[#[ae,q2,r3],#[q3,r4],r2.symm]
  · rw[uV]; rfl
  · have pd : p ≠ L := λe => by rw[e, h1]at m; cases m
    have pe:p≠N:=λe=>by rw[e,h2]at m;cases m
    rcases ha with e|e|e|e<;>rw[e]
    · rw[uR pd.symm, uR r3, uR pd.symm, uR q2]; exact g2
    · rw[uR pe.symm, uR r4, uR pe.symm, uR q3]; exact g3
    · rw[uR O.symm, uR r2.symm, uR O.symm, uV]
    · rw[uR R.symm, uV]
  · have e := I Y nb
    rw[uR nb,uR<|vc e g,uR nb,uR<|vc e v]
    exact e
section
variable{D:Type}[Sls D]
def Rh{k:Nat}(M:Mk X.K C f)(F:vD X.prog X.w X.K X.mg X.base (vL X.prog X.w) k f fd ["self"] (DJ C))(hr:ww (k+1) X.A)(hg:Gl X x)(hm:X.mg x=↑(.ref C))(hb:Binds X.K fd ["self"] [])(hx:Passes (vL X.prog X.w) X E)(J:(x==("__debug__":Str))=false:=by decide) :
  EO X E T (.Call (.Name x p) [] [] pos) (λ(d:D)(O:Bd C true->D->Prop) _=>O #[[],[],0,[],[]] d):=by
 refine#[_,PL M F hr hg hm hb .nil hx J,λd F' R σ H O Ke Q s hw kn _=>?_];intro y c L n m;refine#[y,c,rfl,uV,λg i j l r hn nd P v S=>#[rfl,?_]]
 have N:∀a,a=g\/a=i\/a=j\/a=l->a≠y/\a≠c/\H a=none:=λa ha=>by
  have h:=hn a ha;have U:a≠y:=λz=>by rw[z,uV]at h;cases h
  rw[uR U]at h;have W:a≠c:=λz=>by rw[z,uV]at h;cases h
  rw[uR W]at h;exact#[U,W,h]
 have B:∀a,a∈adr y c g i j l true->a=y\/a=c\/a=g\/a=i\/a=j\/a=l:=λa h=>by simpa[adr] using h
 have G:∀a,a∈adr y c g i j l true->H a=none:=λa h=>(B a h).elim (λz=>by rw[z];exact L) λh=>h.elim (λz=>by rw[z];exact n) λh=>(N a h).2.2;have I:∀b o,H b=↑o->r b=↑o:=λb o q=>S b o (vc q L) (by rw[uR<|vc q L,uR<|vc q n];exact q);have Y:r c=some (.own y):=S c _ m (by rw[uR m,uV]);have hl:∀a,a∈adr y c g i j l true->r a≠none:=λa h=>(B a h).elim (λz=>by rw[z,P];simp) λh=>h.elim (λz=>by rw[z,Y];simp) λh=>by rw[v a h];simp
 have Z:Ext (λ_=>False) R H (λa=>R a\/a∈adr y c g i j l true) r:=#[λb o _ h=>I b o h,λa h=>h.elim .inl λq=>.inr<|G a q]
 refine kn _ d (.ref y) (λa=>a∈adr y c g i j l true) F' (λa=>R a\/a∈adr y c g i j l true) r hw #[λb o _ _ h=>I b o h,Z.new,λa h=>h.elim (λq=>.inr<|G a q) .inl,λa h _=>.inl h]
  #[Sls.st s.rel Z (λ_ z=>z.elim)<|λ_ _ z=>z,λa h=>.inl<|s.sub a h,λa h=>h.elim (λz=>?_)<|hl a,?_,.inl s.vN,s.vE] ⟨⟨y,c,g,i,j,l,[],rfl,λ_=>Iff.rfl,#[?_,P,Y,v _<|.inl rfl,v _<|.inr<|.inl rfl,.nil,λ_=>v _<|.inr<|.inr<|.inl rfl,λ_=>v _<|.inr<|.inr<|.inr rfl]⟩,λa h=>.inr h,λa h z=>s.xk a (s.sub a z)<|G a h,λh=>zd s.tab<|G T h⟩
 ·cases e:H a with
  |none=>exact hV e<|s.xk a z
  |some u=>rw[I a u e];simp
 ·refine e1a2 s.tab λps e t=>?_;exact#[ps,I _ _ e,t]
 ·show [y,c,g,i,j,l].Nodup;refine List.nodup_cons.mpr #[λh=>?_,List.nodup_cons.mpr #[λh=>?_,nd]]
  ·rcases List.mem_cons.mp h with z|z
   ·exact m z.symm
   ·exact(N y<|by simpa using z).1 rfl
  ·exact(N c<|by simpa using h).2.1 rfl
end
section
variable{X:Cx}{scope:l9}{T:List Str}{i j:Nat}{x y:Str}{c d:ci}
/-- the scope of a comprehension a0C reads nothing,one name,two names from around it -/
def Zi(a:scope.kind=.function/\oB scope X.env=pure []:=by exact#[rfl,rfl])
 (b:(∀z∈scope.names,z.2≠.cell)/\(∀z∈scope.names,z.2=.local->scope.names.lookup z.1=some .local)/\∀z∈scope.names,z.2≠.free:=by refine#[?_,?_,?_]<;>decide +kernel):yW X scope [] T [] [] :=
  #[a.1,a.2,b.1,b.2.1,(λ_ _ h=>by cases h),λz f e=>hV e<|b.2.2 z f,(λj z h=>by cases h),rfl]
def Ri(a:scope.kind=.function/\oB scope X.env=pure [(x,c)]/\X.env.cells.lookup x=↑c/\X.N[i]?=↑x/\X.env.kindOf x=some .cell/\(oU scope X.env).names.lookup x=some .cell:=by exact#[rfl,rfl,rfl,rfl,rfl,rfl])
 (b:(∀z∈scope.names,z.2≠.cell)/\(∀z∈scope.names,z.2=.local->scope.names.lookup z.1=some .local)/\∀z∈scope.names,z.2=.free->z.1=x:=by refine#[?_,?_,?_]<;>decide +kernel):yW X scope [(x,c)] T [x] [i] :=
  have f:∀{z:Str},z=x->ko z [(x,c)]=↑c:=λ{z} e=>by rw[e,iF,pC]
  #[a.1,a.2.1,b.1,b.2.1,(λz e h=>(lkc h).elim (λq=>by rw[q.1,q.2];exact a.2.2.1) λq=>by cases q),λz g e=>#[c,f (b.2.2 z g e)],(λk z h=>by
    cases k with
    |zero=>cases h;exact#[i,c,rfl,a.2.2.2.1,.inl a.2.2.2.2.1,f rfl,.inl a.2.2.2.2.2]
    |succ k=>cases h),rfl]
def bs2(a:scope.kind=.function/\oB scope X.env=pure [(y,d),(x,c)]/\X.env.cells.lookup x=↑c/\X.env.cells.lookup y=↑d/\X.N[i]?=↑x/\X.N[j]?=↑y/\X.env.kindOf x=some .cell/\X.env.kindOf y=some .cell/\(oU scope X.env).names.lookup x=some .cell/\(oU scope X.env).names.lookup y=some .cell:=by exact#[rfl,rfl,rfl,rfl,rfl,rfl,rfl,rfl,rfl,rfl])
 (b:(∀z∈scope.names,z.2≠.cell)/\(∀z∈scope.names,z.2=.local->scope.names.lookup z.1=some .local)/\(∀z∈scope.names,z.2=.free->z.1=x\/z.1=y)/\¬x=y:=by refine#[?_,?_,?_,?_]<;>decide +kernel):yW X scope [(y,d),(x,c)] T [x,y] [i,j] :=
  have f:∀{z:Str},z=y->ko z [(y,d),(x,c)]=↑d:=λ{z} e=>by rw[e,iF,pC]
  have g:∀{z:Str},z=x->ko z [(y,d),(x,c)]=↑c:=λ{z} e=>by rw[e,iF,beq_eq_false_iff_ne.mpr b.2.2.2,iF,pC]
  #[a.1,a.2.1,b.1,b.2.1,(λz e h=>(lkc h).elim (λq=>by rw[q.1,q.2];exact a.2.2.2.1) λh=>(lkc h).elim (λq=>by rw[q.1,q.2];exact a.2.2.1) λq=>by cases q),λz l e=>(b.2.2.1 z l e).elim (λq=>#[c,g q]) λq=>#[d,f q],(λk z h=>by
    cases k with
    |zero=>cases h;exact#[i,c,rfl,a.2.2.2.2.1,.inl a.2.2.2.2.2.2.1,g rfl,.inl a.2.2.2.2.2.2.2.2.1]
    |succ k=>cases k with
      |zero=>cases h;exact#[j,d,rfl,a.2.2.2.2.2.1,.inl a.2.2.2.2.2.2.2.1,f rfl,.inl a.2.2.2.2.2.2.2.2.2]
      |succ k=>cases h),rfl]
end
end WL
namespace WL
open PySem L2
open Rep (rp)
open Ow (sl)
open Sls (rel)
open Rep (rp)
open Ow (sl)
open Sls (rel)
instance:Yv Bool "bool" true:=#[λ{K R H x v} h=>by
 have h:v=V.bl x:=h;subst h
 exact#[_,zp.bl x,by rfl]]
instance{α β:Type}[Rep α][Rep β]:Yv (α×β) "tuple" true:=#[λ{K R H x v} h=>by
 obtain⟨a,u,w,rfl,_,h3,_⟩:=h
 exact#[_,zp.tup h3,by rfl]]
section
variable{X:Cx}{E:XK}{T:ci}{D α β:Type}[Sls D][Rep α][Rep β]{pos:Pos}
def Va{a:iL}{p:Pos}{e:Wf D (α×β) D}(h:Gl X "len")(i:X.mg "len"=none)(j:EW X E T a e)(f:gP [a] X.env=(false,eval a X.env)::gP [] X.env:=by rfl) :
  EW X E T (.Call (.Name "len" p) [a] [] pos) (λ(d:D)(g:Int->D->Prop) b=>e d (λ_ c=>g 2 c) b):=by
 refine e1a2 j λI k l=>?_;refine#[_,wJ xo h i mD (uZ k vk f) (he:=f),λd F R m H g b Q s n o r=>l d F R m H _ b _ s n (λx c u t y H1 z A B C=>?_) r];obtain⟨q,v,w,rfl,_,G,J,L⟩:=C;exact#[_,_,rfl,.inr<|yZ.of G,o _ c _ t y H1 z A B rfl]
end
variable[L2.GX]
structure Dc(α:Type) where
 l:List (Int×α)
def PK{α:Type}[Rep α](R:Rg)(H:Hp):List (Int×α)->List (Key×V)->Prop:=Paired λe u=>u.1=iu e.1/\rp R H e.2 u.2
section
variable{α:Type}[Rep α]
def Rj(e:Ext R R H b c):∀{l:List (Int×α)} {a:List (Key×V)},PK R H l a->PK b c l a:=by
 intro _ _ z
 induction z with
 |nil=>exact .nil
 |cons h t d=>exact .cons #[h.1,Rep.st h.2 e] d
def Lf{k:Int}:∀{l:List (Int×α)} {us:List (Key×V)},PK R H l us->(∀b,lk l k=↑b->∃v,yq us (iu k)=↑v/\rp R H b v)/\(lk l k=none->yq us (iu k)=none):=by
 intro z0 z1 z9
 induction z9 with
 |nil=>exact#[(λb h=>by cases h),λ_=>rfl]
 | @cons e u l us h t Yx =>
  have i:=Yx;by_cases q:e.1=k
  ·have e1:lk (e::l) k=↑e.2:=by unfold lk;rw[iQ,decide_eq_true q];rfl
   rw[e1];refine#[λb hb=>?_,(λz=>by cases z)];cases hb;exact#[u.2,y9 (by rw[h.1,q]),h.2]
  ·have e1:lk (e::l) k=lk l k:=by unfold lk;rw[iQ,ie q]
   rw[e1,za<|by rw[h.1];intro z;exact q<|nO z];exact i
def M4{k:Int}{l:List (Int×α)}{us:List (Key×V)}(h:PK R H l us):(yq us<|iu k).isSome=(lk l k).isSome:=by
 have i:=Lf (k:=k) h
 cases e:lk l k with
 |none=>rw[i.2 e];rfl
 |some b=>obtain⟨v,hv,_⟩:=i.1 b e;rw[hv];rfl
def Lg:∀{l:List (Int×α)} {a:List (Key×V)},PK R H l a->a.length=l.length
 |_,_,.nil=>rfl
 |_,_,.cons _ t=>by rw[ij,ij,Lg t]
def Rl{k:Int}{x:α}{v:V}(r:rp R H x v):∀{l:List (Int×α)} {us:List (Key×V)},PK R H l us->PK R H (l++[(k,x)]) (us++[(iu k,v)])
 |_,_,.nil=>.cons #[rfl,r] .nil
 |_,_,.cons h t=>.cons h<|Rl r t
def Yz{k:Int}{x:α}{v:V}(r:rp R H x v):∀{l:List (Int×α)} {us:List (Key×V)},PK R H l us->PK R H (l.map λe=>if e.1=k then (e.1,x) else e) (us.map λkv=>if kv.1=iu k then (kv.1,v) else kv):=by
 intro z0 z1 z9
 induction z9 with
 |nil=>exact .nil
 | @cons e u l us h t Yx =>
  refine .cons ?_<|Yx;dsimp only;by_cases q:e.1=k
  ·rw[gN q,gN<|by rw[h.1,q]];exact#[h.1,r]
  ·rw[gM q,gM<|by rw[h.1];intro z;exact q<|nO z];exact h
def Rm{k:Int}(r:rp R H x v){l:List (Int×α)}{us:List (Key×V)}(h:PK R H l us):PK R H (pk l k x) (putK us (iu k) v):=by
 unfold putK pk;rw[Ab,M4 h]
 cases (lk l k).isSome with
 |true=>rw[gN rfl,gN rfl];exact Yz r h
 |false=>rw[gM g9,gM g9];exact Rl r h
end
instance{α:Type}[Rep α]:Ow (Dc α):=#[λF R H x v=>∃a us,v=↑(.ref a)/\(∀b,F b↔b=a)/\H a=↑(.dK us)/\PK R H x.l us,
 λh e s n=>by
  refine e2a4 h λa us h1 h2 h3 h4=>?_
  exact#[a,us,h1,h2,e.keep a _ (n a<|(h2 a).mpr rfl) h3,Rj (e.wide s) h4],
 λh e=>by
  refine e2a4 h λa us h1 h2 h3 h4=>?_
  exact#[a,us,h1,λb=>(e b).symm.trans (h2 b),h3,h4]]
instance{α:Type}[Rep α]:Hs (Dc α):=#[λz9=>e2a2 z9 λ_ _ h _=>#[_,h]]
section
variable{D PO τ:Type}[Sls D][Sls PO][Ow τ]{α:Type}[Rep α]
def DL{i:Nat}[Sls c][A:At i D (Dc α) c](s:v6 T F R H d e):∃a b,e[i]?=↑(some<|.ref a)/\H a=↑(.dK b)/\PK R H (A.get d).l b:=by obtain⟨v,j,k,f,m,⟨a,b,rfl,n,g,h⟩,o⟩:=A.take s.rel;exact#[a,b,f,g,h]
def Rn{i:Nat}[Sls w][A:At i D (Dc α) w][U:Pt i w (Dc α) D](s:v6 T F R H d x):∃a g,x[i]?=↑(some<|.ref a)/\H a=↑(.dK g)/\PK R H (A.get d).l g /\
  ∀(j:List (Int×α)) (f:List (Key×V)),PK R H j f->Ch T F R H F R (upd H a<|.dK f)/\v6 T F R (upd H a<|.dK f) (U.put (A.hole d) #[j]) x:=by
 obtain⟨v,N,O,y,m,⟨a,g,rfl,p,E,G⟩,I⟩:=A.take s.rel;have r:F a:=(m.all a).mpr<|.inl<|(p a).mpr rfl;have J:a≠T:=λz=>s.vE (by rw[<- z];exact r);refine#[a,g,y,E,G,λj f L=>?_];have B:=zy (F:=F) (R:=R) (H:=H) (a:=a) (o:=.dK f);have C:∀c,c=a->R c:=λc z=>by rw[z];exact s.sub a r
 have k:∀b u,b≠a->H b=↑u->upd H a (.dK f) b=↑u:=λb u z e=>by rw[uR z];exact e
 refine#[#[λb o n _ e=>k b o (λz=>n<|by rw[z];exact r) e,λ_ h=>.inl h,λ_ h=>.inl h,λ_ h _=>h],Pt.same (A:=U) (Sls.st I B C λc z q=>m.ym c ((p c).mpr q) z) y m #[a,f,rfl,p,uV,Rj (B.wide C) L],s.sub,λc z=>?_,?_,s.vN,s.vE]
 ·by_cases e:c=a
  ·rw[e,uV];simp
  ·rw[uR e];exact s.xk c z
 ·refine e1a2 s.tab λM e t=>?_;exact#[M,k _ _ (λz=>J z.symm) e,t]
def EH{a:iL}(i:Nat){D0:Type}[Sls D0][A:At i D (Dc α) D0]{wk:Wf D Int D}(hu:X.A.units+1<kG)(hn:PE X (.Name x p1) (vC i))(hk:EW X E T a wk)(hs:P0 a:=by intro _ _;rfl) :
  EW X E T (.Subscript (.Name x p1) a pos) (λ(d:D)(Kn:α->D->Prop) Ke=>wk d (λk d1=>∃v,lk (A.get d1).l k=↑v/\Kn v d1) Ke):=by
 refine e1a2 hk λta a1 a2=>?_;refine#[_,GG hu hn a1 hs,λd F R σ H Kn Ke Q s hw kn ke=>?_];obtain⟨y0,us0,h1,_,_⟩:=DL (i:=i) s;refine#[_,h1,a2 d F R σ H _ Ke _ s hw (λk d1 u F1 R1 H1 q1 c1 s1 r1=>?_) ke];subst r1;obtain⟨y,us,g1,g2,g3⟩:=DL (i:=i) s1;rw[h1]at g1;cases g1;refine e1a2 q1 λz z1 z2=>?_;refine e1a2 ((Lf g3).1 z z1) λv v1 v2=>?_;have g:=yf.k (k:=iu k) g2;rw[v1]at g;exact#[_,v,rfl,g,kn z d1 v F1 R1 H1 z2 c1 s1 v2]
def Ro(i:Nat){B:Type}[Sls B][A:At i D (Dc α) B][U:Pt i B (Dc α) D][J:Pj D PO n]{M:Wf D Int D}{N:Wf D α D}(hu:X.A.units+1<kG)(hn:PE X (.Name x O) (vC i))(hk:EW X E T a M)(he:EW X E T e N)
 (hs:jW e (some<|.Subscript (.Name x O) a p3) pos.line X.env=pure false:=by rfl) :
    S1 X E T ms n (.Assign [.Subscript (.Name x O) a p3] e pos) (λ(d:D)(P:D->Prop)(Kr:τ->PO->Prop) j=>N d (λv I=>M I (λk r=>(A.get r).l.length<gS/\P (U.put (A.hole r) #[pk (A.get r).l k v])) λC f=>j C<|J.pj f) λC f=>j C<|J.pj f):=by
  refine e1a2 hk λta a1 a2=>?_
  refine e1a2 he λte b1 b2=>?_
  have Q:∀{F R g h:Rg} {H b:Hp} {C y:ci} {f:D} {m:St} {j:ci->PO->Prop},(∀C y S g h b,j C S->Ch T F R H g h b->v6 T g h b S (m.take n)->E (.ref C) ↑y b)->j C (J.pj f)->Ch T F R H g h b->v6 T g h b f m->E (.ref C) ↑y b:=λt q c p=>by
    refine e1a2 (wH (PO:=PO) p) λG z L=>?_
    exact t _ _ _ G _ _ q (c.less z) L
  refine#[_,GH hu hn a1 b1 hs,λd F R m H P Kr j En s hw kn kr t=>b2 d F R m H _ _ _ s hw (λv I u F1 R1 H1 q1 W o r1=>?_) λC y f g h b q c p=>Q t q c p]
  obtain⟨y0,aa,Y,_,_⟩:=DL (i:=i) o
  refine#[_,Y,a2 I F1 R1 m H1 _ _ _ o q1 (λk r w F2 R2 H2 Z c2 s2 r2=>?_) λC y f g h b q c p=>Q t q (Ch.trans s o.tab W c) p]
  subst r2
  refine e2a4 (Rn (i:=i) s2) λy us z L g3 g4=>?_
  rw[Y]at z
  cases z
  obtain⟨c3,s3⟩:=g4 _ _<|Rm (k:=k) (o.val c2 r1) g3
  exact#[_,_,rfl,GF.k (k:=iu k) L (by rw[Lg g3];exact Z.1),kn _ F2 R2 _ m Z.2 (Ch.trans s o.tab W<|Ch.trans o s2.tab c2 c3) s3<|Ag.refl _ _]
end
section
variable{D PO τ:Type}[Sls D][Sls PO][Ow τ]{α β:Type}[Rep α][Rep β]
def Gh{i:Nat}[Sls c][A:At i D (List Int) c](s:v6 T F R H d e):∃a,e[i]?=↑(some<|.ref a)/\H a=↑(.lst<|(A.get d).map V.int):=by obtain⟨v,h,j,f,_,⟨_,u,rfl,a,k,rfl,_,b,g⟩,_⟩:=A.take s.rel;rw[paired_ints g]at b;exact#[a,f,b]
def Vb(i j:Nat)[Sls D1][Sls D2][A:At i D (List Int) D1][B:At j D (List Int) D2](u:X.calm=true)(v:Gl X "sorted")(C:X.mg "sorted"=none)(L:Gl X "set")(M:X.mg "set"=none)(hn:PE X (.Name x c) (vC i))(G:PE X (.Name y e) (vC j))
 (f:gP [.Name x c] X.env=(false,eval (.Name x c) X.env)::gP [] X.env:=by rfl) (g:gP [.Name y e] X.env=(false,eval (.Name y e) X.env)::gP [] X.env:=by rfl)
 (h:gP [.BinOp (.Call (.Name "set" N) [.Name x c] [] O) .BitXor (.Call (.Name "set" P) [.Name y e] [] S) W] X.env=(false,eval (.BinOp (.Call (.Name "set" N) [.Name x c] [] O) .BitXor (.Call (.Name "set" P) [.Name y e] [] S) W) X.env)::gP [] X.env:=by rfl) :
    EO X E T (.Call (.Name "sorted" q1) [.BinOp (.Call (.Name "set" N) [.Name x c] [] O) .BitXor (.Call (.Name "set" P) [.Name y e] [] S) W] [] pos)
      (λ(d:D)(Y:OL Int->D->Prop) _=>(wQ (A.get d)/\wQ (B.get d)/\∃U:List Int,U.length<64/\(∀k∈A.get d,k∈U)/\∀k∈B.get d,k∈U)/\Y #[xr (A.get d)<|B.get d] d):=by
  refine#[_,wJ (BJ u) v C ku (uZ (wT Uu (xF (Jf u) L M oa (uZ hn vk f) (he:=f))<|xF (Jf u) L M oa (uZ G vk g) (he:=g)) vk h) (he:=h),λd F R σ H Y Ke Q s hw kn ke=>?_]
  obtain⟨⟨Z,rb,U,hU,ua,ub⟩,o⟩:=hw
  have la:=wp Z ua
  have lb:=wp rb ub
  refine e1a2 (Gh (i:=i) s) λa a1 a2=>?_
  refine#[_,a1,a,A.get d,rfl,wo.of a2,q0a,λp ka hp aa ab ma=>?_]
  refine e0a3 (s.new (xi X.w p ka) hp) λt c1 _=>?_
  refine e1a2 (Gh (i:=j) t) λb b1 b2=>?_
  refine#[_,b1,b,B.get d,rfl,wo.of b2,q0a,λq kb hq ae af mb=>?_]
  refine e0a3 (t.new (xi X.w q kb) hq) λI c2 _=>?_
  have J:p≠q:=vc uV hq
  refine#[p,q,ka,kb,rfl,rfl,by rw[uR J];exact uV,uV,q0a,λr m hr n mc=>?_]
  refine e0a3 (I.new (xi X.w r m) hr) λs3 c3 _=>?_
  have mm:∀k,k∈m↔k∈xr (A.get d) (B.get d):=λk=>by
    rw[mc,zA<|ve rb,ma,mb]
    by_cases h1:k∈A.get d<;>by_cases h2:k∈B.get d<;>simp[h1,h2]
  have lc:m.length<64:=by
    have:=SX.zb m U n λk o=>by
      rw[mc,ma,mb]at o
      exact o.elim (λz=>ub k z.1) λz=>ua k z.2
    lia
  refine#[r,m,rfl,uV,lc,λl ns hl pn sn=>?_]
  rw[Ej pn sn,Ew n mm<|xJ Z]
  refine e1a3 (xH s3 hl<|xZ (R:=R)<|xr (A.get d)<|B.get d) λR' c4 s4 n4=>?_
  exact kn _ d _ _ F R' _ o (Ch.trans s t.tab c1<|Ch.trans t I.tab c2<|Ch.trans I s3.tab c3 c4) s4 n4
end
structure T3(α β γ:Type) where
 a:α
 b:β
 c:γ
instance{α β γ:Type}[Ow α][Ow β][Ow γ]:Ow (T3 α β γ):=#[λF R H x v=>∃p u1 u2 u3 F1 F2 F3,v=↑(.ref p)/\¬R p/\H p=↑(.tup [u1,u2,u3])/\Ep F F1 F2 F3/\sl F1 R H x.a ↑u1/\sl F2 R H x.b ↑u2/\sl F3 R H x.c ↑u3,
 λh e s n=>by
  obtain⟨p,u1,u2,u3,F1,F2,F3,h1,h2,h3,t,g1,g2,g3⟩:=h
  exact#[p,u1,u2,u3,F1,F2,F3,h1,(e.wide s).not h2 h3,e.keep p _ (λz=>h2<|s p z) h3,t,Ow.st g1 e s λa z=>n a<|(t.all a).mpr<|.inl z,Ow.st g2 e s λa z=>n a<|(t.all a).mpr<|.inr<|.inl z,Ow.st g3 e s λa z=>n a<|(t.all a).mpr<|.inr<|.inr z],
 λh e=>by
  obtain⟨p,u1,u2,u3,F1,F2,F3,h1,h2,h3,t,g⟩:=h
  exact#[p,u1,u2,u3,F1,F2,F3,h1,h2,h3,#[λa=>(e a).symm.trans (t.all a),t.IA,t.J3,t.J4],g]]
section
variable{D PO τ:Type}[Sls D][Sls PO][Ow τ]{α β γ:Type}[Ow α][Ow β][Ow γ]
def Vc{x1}(i j k:Nat)[Sls D'][Sls P][Sls Q][Sls S][Hs α][Hs β][Hs γ][g:At i D α P][l:At j P β Q][t:At k Q γ S][J:Pj S PO n](u:PE X (.Name x v) (vC i))(w:PE X (.Name y m) (vC j))(A:PE X (.Name z e) (vC k))
 (h1:gP [.Name x v,.Name y m,.Name z e] X.env=(false,eval (.Name x v) X.env)::gP [.Name y m,.Name z e] X.env:=by rfl) (h2:gP [.Name y m,.Name z e] X.env=(false,eval (.Name y m) X.env)::gP [.Name z e] X.env:=by rfl) (h3:gP [.Name z e] X.env=(false,eval (.Name z e) X.env)::gP [] X.env:=by rfl) :
    S1 X E T ms n (.Return (some<|.Tuple [.Name x v,.Name y m,.Name z e] x1 p4) pos) (λ(d:D)(_:D'->Prop)(U:T3 α β γ->PO->Prop) _=>U #[g.get d,l.get<|g.hole d,t.get<|l.hole<|g.hole d]<|J.pj<|t.hole<|l.hole<|g.hole d):=by
  refine#[_,Ct<|PB<|uZ u (uZ w (uZ A vk h3) h2) h1,λd F R σ H Kn U Ke En s hw kn kr ke=>?_]
  refine e3a4 (g.take s.rel) λ_ G1 G2 W b g1 r1=>?_
  obtain⟨B,rfl⟩:=Hs.has g1
  refine e3a4 (l.take r1) λ_ _ _ Y _ g2 r2=>?_
  obtain⟨C,rfl⟩:=Hs.has g2
  refine e3a4 (t.take r2) λ_ _ _ Z _ g3 _=>?_
  obtain⟨I,rfl⟩:=Hs.has g3
  refine#[B,W,C,Y,I,Z,(by show 3<=gS;decide),λp hp=>?_]
  refine e0a3 (s.new (.tup [B,C,I]) hp) λL c1 n1=>?_
  refine e3a4 (g.take L.rel) λv1 o E1 b1 b k1 q1=>?_
  refine e3a4 (l.take q1) λv2 q E2 b2 c k2 q2=>?_
  refine e3a4 (t.take q2) λv3 r E3 b3 f k3 q3=>?_
  rw[W]at b1
  rw[Y]at b2
  rw[Z]at b3
  cases b1
  cases b2
  cases b3
  refine e1a2 (J.le q3) λG l1 l2=>?_
  have i1:∀a,o a->F a:=λa h=>(b.all a).mpr<|.inl h
  have i2:∀a,q a->F a:=λa h=>(b.all a).mpr<|.inr<|(c.all a).mpr<|.inl h
  have i3:∀a,r a->F a:=λa h=>(b.all a).mpr<|.inr<|(c.all a).mpr<|.inr<|(f.all a).mpr<|.inl h
  have M:∀a,G a->F a:=λa h=>(b.all a).mpr<|.inr<|(c.all a).mpr<|.inr<|(f.all a).mpr<|.inr<|l1 a h
  have dG:∀a,o a\/q a\/r a->¬G a:=λa h z=>by
    have N:=l1 a z
    rcases h with h|h|h
    · exact b.ym a h<|(c.all a).mpr<|.inr<|(f.all a).mpr<|.inr N
    · exact c.ym a h<|(f.all a).mpr<|.inr N
    · exact f.ym a h N
  have O:∀a,o a\/q a\/r a->F a:=λa h=>h.elim (i1 a) λh=>h.elim (i2 a)<|i3 a
  exact kr _ _ (.ref p) (λa=>o a\/q a\/r a) G R _ hw #[c1.keep,λ_ h=>.inl h,λa h=>.inl<|h.elim (O a)<|M a,λ_ h _=>h] #[l2,λa h=>s.sub a<|M a h,L.xk,L.tab,s.vN,λh=>s.vE<|M T h]
    #[#[p,B,C,I,o,q,r,rfl,n1,uV,#[λ_=>Iff.rfl,λa h k=>b.ym a h<|(c.all a).mpr<|.inl k,λa h k=>b.ym a h<|(c.all a).mpr<|.inr<|(f.all a).mpr<|.inl k,λa h k=>c.ym a h<|(f.all a).mpr<|.inl k],k1,k2,k3],λa h=>s.sub a<|O a h,λa h z=>dG a h z,λh=>s.vE<|O T h]
def Vd(i j k:Nat){σ1 Ym σ3 D0 D1 D2 D3 D4 D5:Type}[Ow σ1][Ow Ym][Ow σ3][Sls D0][Sls D1][Sls D2][Sls D3][Sls D4][Sls D5][A:At i D σ1 D0][U:Pt i D0 α D1][A2:At j D1 Ym D2][U2:Pt j D2 β D3][A3:At k D3 σ3 D4][U3:Pt k D4 γ D5][J:Pj D PO n]{we:Wf D (T3 α β γ) D}
 (hp:PG X tg (Xm X.K 3<|FR (C6 i)<|FR (C6 j)<|FR (C6 k) Xl)) (hi:i∉ms) (hj:j∉ms) (hk:k∉ms) (he:EO X E T e we)
 (hb:∀{te:TE} {t:TG},PE X e te->PG X tg t->PS X (.Assign [tg] e pos) (Xn te t):=by intro te t h1 h2;exact Kd h1 h2) :
    S1 X E T ms n (.Assign [tg] e pos) (λ(d:D)(Kn:D5->Prop)(Kr:τ->PO->Prop) Ke=>we d (λx d1=>Kn<|U3.put (A3.hole<|U2.put (A2.hole<|U.put (A.hole d1) x.a) x.b) x.c) λC d'=>Ke C<|J.pj d'):=by
  refine e1a2 he λt h1 h2=>?_
  refine#[_,hb h1 hp,λd F R σ H Kn Kr Ke En s hw kn kr ke=>h2 d F R σ H _ _ _ s hw (λx d1 v F1 F2 R1 H1 q1 c1 s1 m1=>?_) λC y d' F' R' H' q c s'=>?_]
  · obtain⟨p, u1, u2, u3, G1, G2, G3, e1, e2, e3, t3, g1, g2, g3⟩ := m1.is
    cases e1
    have j1:∀a,G1 a->F1 a:=λa h=>(t3.all a).mpr<|.inl h
    have j2:∀a,G2 a->F1 a:=λa h=>(t3.all a).mpr<|.inr<|.inl h
    have j3:∀a,G3 a->F1 a:=λa h=>(t3.all a).mpr<|.inr<|.inr h
    refine e1a2 (Gd (i:=i) s1 (x:=x.a) (v:=u1) (F1:=G1) #[g1,λa h=>m1.sub a<|j1 a h,λa h z=>m1.ym a (j1 a h) z,λh=>m1.tab<|j1 T h]) λL1 k1 f1=>?_
    refine e1a2 (Gd (i:=j) f1 (x:=x.b) (v:=u2) (F1:=G2) #[g2,λa h=>m1.sub a<|j2 a h,λa h z=>(k1 a z).elim (λq=>t3.IA a q h)<|m1.ym a<|j2 a h,λh=>m1.tab<|j2 T h]) λL2 k2 f2=>?_
    refine e1a2 (Gd (i:=k) f2 (x:=x.c) (v:=u3) (F1:=G3) #[g3,λa h=>m1.sub a<|j3 a h,λa h z=>(k2 a z).elim (λq=>t3.J4 a q h) λz=>(k1 a z).elim (λq=>t3.J3 a q h)<|m1.ym a<|j3 a h,λh=>m1.tab<|j3 T h]) λL3 k3 f3=>?_
    exact#[p,[u1,u2,u3],rfl,yZ.of e3,rfl,u1,[u2,u3],rfl,u2,[u3],rfl,u3,[],rfl,rfl,kn _ L3 R1 H1 _ q1 (c1.less λa h=>(k3 a h).elim (λq=>.inl<|j3 a q) λh=>(k2 a h).elim (λq=>.inl<|j2 a q) λh=>(k1 a h).elim (λq=>.inl<|j1 a q) .inr) f3<|((Ag.set hi).trans<|Ag.set hj).trans<|Ag.set hk]
  · refine e1a2 (wH (PO := PO) s') λG g1 g2 => ?_
    exact ke C y _ G R' H' q (c.less g1) g2
end
end WL
namespace L2
variable[L2.GX]
open PySem PySem.Spec PyProof.Rows
noncomputable abbrev xL(X:Cx)(a:List (ci×Obj))(h:XK)(i:St->Prop):Cx :=
 { X with pn:=a,xe:=λe j=>∃(b:List (ci×Obj)) (c:St) (d:Hp) (f:gW) (C x:ci) (g:Hp),e=.ref x/\Inv { X with pn:=a} b c d f/\i c/\Ef X.prog X.w X.stack d f g C x j/\h (.ref C) ↑x g}
def Inv.YA(I:Inv X a b H s):Inv (xL X (X.pn++a) d e) [] b H s :=
 #[56,I.os,I.bare,I.base,I.loc,I.cell,I.free,I.yj,λp c=>I.pin p (by simpa using c),I.vK,I.len]
def Inv.Hk(I:Inv (xL X (X.pn++a) e f) b c H s):Inv X a c H s :=
 #[56,I.os,I.bare,I.base,I.loc,I.cell,I.free,I.yj,λp d=>I.pin p<|i8 _ d,I.vK,I.len]
def Inv.a0D(I:Inv (xL X b d e) a c H s):Inv { X with pn:=b} a c H s :=
 #[56,I.os,I.bare,I.base,I.loc,I.cell,I.free,I.yj,I.pin,I.vK,I.len]
def Lh(c:PF)(X:Cx)(E:XK)(d:St):Prop:=∀(a:List (ci×Obj)) (H:Hp) (s:gW) (e:cr) (b:gW),Inv X a d H s->c X.stack H s E e b->X.xe e b
def a0E(h:c b):Lh (vL X.prog X.w) (xL X d f c) f b:=by intro a g i e m I j;obtain⟨C,x,k,rfl,F,l⟩:=j;exact#[a,b,g,i,C,x,k,rfl,I.a0D,h,F,l]
def Ve(F:vD X.prog X.w X.K X.mg X.base l k f m g n)(o:ww k X.A)(p:Binds X.K m g d)(q:Vals b d)(t:Lh l X E i)
 (I:Inv X a i H s)(r:Vals vs us)(h:n (vs++b) H Q E):gZ 23 X.A (call (.ref f) us) (EP X a i Q) X.xe s:=by
  have j:Vals (vs++b) (us++d):=r.append q
  have v:(us++d).length=g.length:=by rw[<- j.length];exact F.len _ _ _ _ h
  refine mM<|jT (F.run X.A X.stack s H ⟨us,[]⟩ (us++d) (vs++b) Q E o I.IS (p s us I.yJ v) j h) λr x c=>?_
  cases r with
  |error e=>exact t a H s e x I c
  |ok fl =>
    cases fl with
    |ret u=>exact I.after c
    |next=>exact iC c
    |brk=>exact iC c
    |cont=>exact iC c
def Rp(c:PF)(X:Cx)(C:ci)(m:Str)(d:Sp)(a:List V)(E:XK)(e:TE)(t:TA):TE:=λb H Q=>Lh c X E b/\FT C m d a E e t b H Q
def Rq(G:PE X o J)(c:AW X.K C)(v:Meth X.K C m f)(F:vD X.prog X.w X.K X.mg X.base CX k f L M N)(O:ww k X.A)(P:Binds X.K L M R)(hd:Vals i R)(S:PA X (e::d) t)
 (j:gP (e::d) X.env=(false,eval e X.env)::gP d X.env:=by rfl) (n:(jm pos<|gP d X.env).any (·.1)=false:=by rfl)
 (ht:eval (.Call (.Attribute o m apos) (e::d) [] pos) X.env=(do
 let y <- eval o X.env
 mY apos.atName
 let (f,first) <- kO [y] (mO y m T)
 nJ pos f first (jm pos (gP (e::d) X.env)) (mZ pos (kP [] X.env))):=by rfl) :
    PE X (.Call (.Attribute o m apos) (e::d) [] pos) (Rp CX X C m N i E J t):=by
  intro b s z H Q I h
  obtain⟨U,h⟩:=h
  refine oK (pl:=T) (vI (G b s z H _ I h) λu Y p=>e2a3 p λx H1 B Z g=>e3a4 g λa dx fs ex ea l q=>?_) ht
  subst ex
  obtain rfl:u=h8 a:=Z
  refine Bi B ea c v l ?_
  refine pM (first:=[.ref a]) (h₀:=X.base) I.ok.mod.Bv v.kp (vI (S pos b Y z H1 _ B q) λus s2 p=>e2a3 p λvs H2 D r q2=>#[D.yJ,?_]) j n
  exact Ve (us:=.ref a::us) (vs:=.ref a::vs) F O P hd U D (.cons rfl r) q2
def a2D(o:Option (List V))(h h':iM):Prop:=match o with
 |none=>h'=h
 |some xs=>∃zQ:List cr,Vals xs zQ/\xs.length<=gS/\h'=h.push { cls:=.type "tuple",data:=.seq zQ.toArray}
def Lay(o:Option (List V))(H H':Hp):Prop:=match o with
 |none=>H'=H
 |some xs=>∃p,H p=none/\H'=upd H p (.tup xs)
def ClO(X:Cx)(d:iL)(e:List ci)(o:Option (List V)):Prop:=∀(x C:ci) (a:List (ci×Obj)) (s:gW) (f:St) (H:Hp) (Q:Bool->gW->Prop) (E:cr->gW->Prop),C∈e->Inv (hand X x) a f H s->(∃b,s.heap.get? x=↑b/\b.cls=.ref C) ->
 (∀c,a2D o s.heap c->Q true { s with heap:=c}) ->
 gZ 23 (X.A.mark<|some<|.ref x) (eval d X.env) (λv g=>gZ 23 (X.A.mark<|some<|.ref x) (excMatches (.ref x) v) Q E g) E s
def YB{r:Nat}(e:Gl X f)(g:X.mg f=↑(.ref c))(h:Gl X i)(j:X.mg i=↑(.ref d))(l:lE X.K (.ref c) [.ref c,.ref d]=↑true)(m:lE X.K (.ref d) [.ref c,.ref d]=↑true)
 (t:(f==("__debug__":Str))=false:=by decide) (u:(i==("__debug__":Str))=false:=by decide) :
    ClO X (.Tuple [.Name f D,.Name i F] r pos) [c,d] (some [.ref c,.ref d]):=by
  intro x n p s G H Q E v I ⟨J,y,A⟩ k
  have B:jN 23 s.heap (typeOf<|.ref x) (.ref n):=A▸(rQ y).andThen .now
  refine wpAny_Tuple_spliced ?_
  refine jX<|zm (X:=hand X x) I e g (jX<|zm (X:=hand X x) I h j (lm ?_) u) t
  refine#[by show 2<=gS;decide,?_]
  have q:∀b o,s.heap.get? b=↑o->(s.heap.push { cls:=.type "tuple",data:=.seq [h8 c,h8 d].toArray}).get? b=↑o:=λb o z=>ce _ z
  have C:lE X.K (.ref n) [.ref c,.ref d]=↑true:=by
    rcases List.mem_cons.mp v with z|z
    · rw[z]; exact l
    · rw[List.mem_singleton.mp z]; exact m
  refine(PySem.W.exm_tup2 (λa o z=>q a o<|I.yJ a o z) (B.keeps q) (hI _ rfl) C).here ?_
  exact k _ #[[.ref c,.ref d],.cons rfl<|.cons rfl .nil,(by show 2<=gS;decide),rfl]
def Inv.adopt(I:Inv X a j H s)(f:Bf X a H p)(c:v4 X.prog X.w (upd H p o) s.heap p o):Inv X a j (upd H p o) s:=by
 refine e0a6 f λi k r l n q=>?_;have d:∀b u,H b=↑u->b≠p:=λb u e z=>by rw[z,i]at e;cases e
 have J:=I.step (h':=s.heap) (g':=s.gens) (d':=s.drawn) (t':=s.toks) (ch:=[p]) (H':=upd H p o) (λb g=>by rw[List.mem_singleton.mp g];exact#[l,k,n,q]) (λb o _ _ _ e _=>e) (λb o _ _ _ e _=>#[o.slots,e])
  (λb _ g _ e=>by rw[uR λz=>g<|by rw[z];exact List.mem_singleton.mpr rfl];exact e) (λb o _ e=>#[o,e]) (λb t e=>by rw[uR<|d b _ e];exact e) (λb o u e=>by rw[uR<|d b _ e];exact e) (λb v e=>#[#v[],by rw[uR<|d b _ e,e];simp]) (λm h=>h) (I.vK.WK i c) I.bare
 exact J
def a0F(i:XK->(St->Prop)->List (ci×Obj)->TS)(j:List ci)(o:Option (List V))(k:ci->TS):TS:=λD d H=>∃e:XK,(∀c f b,e c f b->∃C∈j,c=.ref C)/\(∀g,i e (λh=>h=d) g D d H)/\∀(c:cr)(f:Option ci)(b a:Hp),e c f b->Lay o b a->∀x,k x D d a
def Vf(E:X.stack=X.env::X.outer)(Y:ClO X ty Cs o)
 (hb:∀U Φ N,Ft (xL X N U Φ) body<|tb U Φ N) (hs:∀x,Ft (hand X x) (b0::i)<|th x) :
    PS X (.Try body [.ExceptHandler ↑ty none (b0::i) hp] [] [] tp) (a0F tb Cs o th):=by
  intro d s σ H D I h
  refine e1a3 h λU Z hB hH=>?_
  refine wpAny_Try_except<|jb (hb U _ (X.pn++d) [] s σ H D I.YA<|hB _) (λO g q=>?_)<|λe g q=>?_
  · cases O with
    |next=>obtain⟨a,c,J,z⟩:=q;exact nX #[a,c,J.Hk,z]
    |brk=>obtain⟨a,c,J,z⟩:=q;exact#[a,c,J.Hk,z]
    |cont=>obtain⟨a,c,J,z⟩:=q;exact#[a,c,J.Hk,z]
    |ret u=>obtain⟨v,a,c,J,r,z⟩:=q;exact#[v,a,c,J.Hk,r,z]
  · obtain⟨aa, k, H1, s0, C', x, c, rfl, J, ab, F, hE⟩ := q
    subst ab
    refine e1a2 (Z _ _ _ hE) λC hC hc=>?_
    cases hc
    have nf:=F.Z7 J.frn
    refine e2a2 F.fly λB a0 O ae=>?_
    have af:lS B (X.env::X.outer) x (.ref C') a0 g.heap:=by rw[<- E];exact O
    have ag:X.A.frames=↑(X.env::X.outer):=by rw[<- E];exact J.ok.frames
    have ah:X.env.frame=↑X.env.locals:=xY I E
    refine wpAny_looks_onW ag ah af λh4 P ai=>wpAny_landsW P λl m aj=>?_
    have j:g.heap.UpToSlots l:=ai.trans aj
    have G:∀(n:iM)(Q:Nat),B.StaysIn n->g.heap.UpToSlots n->Inv X d k c { g with heap:=n,toks:=Q}:=λn Q st up=>by
      obtain⟨u6,ak⟩:=Qr F.un F.vK ae nf st up
      have J6:=J.call (h':=n) (g':=g.gens) (d':=g.drawn) (t':=Q) (ch:=[]) u6 ak F.bare<|λb z=>hV z q0o
      have e6:{ s0 with heap:=n,gens:=g.gens,drawn:=g.drawn,toks:=Q}={ g with heap:=n,toks:=Q}:=by
        have:=F.os
        obtain⟨_,_,_,_,an⟩:=g
        obtain⟨_,_,_,_,ao⟩:=s0
        rw[this]
      rw[<- e6]
      exact J6.a2f
    have I5:=G l g.toks m.1 j
    have R:∀(S:Hp)(t:iM),Lay o c S->Inv X d k S { g with heap:=t}->gZ 23 (X.A.mark<|some<|.ref x) (execs (b0::i) X.env) (λf T=>SP X d D f T) (λ_ _=>False) { g with heap:=t}:=λS t hY I7=>by
      refine jb (hs x d _ k S D I7.Qu<|hH _ _ c S hE hY x) (λO s7 q=>?_) λ_ _ z=>z.elim
      cases O with
      |next=>obtain⟨a,c,J,z⟩:=q;exact#[a,c,J.GS I.ok.hd,z]
      |brk=>obtain⟨a,c,J,z⟩:=q;exact#[a,c,J.GS I.ok.hd,z]
      |cont=>obtain⟨a,c,J,z⟩:=q;exact#[a,c,J.GS I.ok.hd,z]
      |ret u=>obtain⟨v,a,c,J,r,z⟩:=q;exact#[v,a,c,J.GS I.ok.hd,r,z]
    refine wpAny_handleBy_cons (codeAny_handlers_test<|Y x C' d { g with heap:=l} k c _ _ hC I5.Qu m.there λn hL=>?_) (by intro q;cases q)
    refine codeAny_handlers_suite ?_
    cases o with
    |none =>
      subst hL
      refine lands_againW (s:={ g with heap:=n}) m λt L y=>?_
      exact jb (R c t rfl<|G t g.toks L.1<|j.trans y) (λ_ _ z=>z) λ_ _ z=>z.elim
    |some xs =>
      obtain⟨M,r,hz,rfl⟩:=hL
      have kp:∀b o,l.get? b=↑o->(l.push { cls:=.type "tuple",data:=.seq M.toArray}).get? b=↑o:=λb o z=>ce _ z
      have al:=PySem.W.flying_keeps m kp
      refine lands_againW (s:={ g with heap:=l.push { cls:=.type "tuple",data:=.seq M.toArray}}) al λt L y=>?_
      have I7:=G t g.toks L.1<|(j.trans<|qk kp).trans y
      have n5:c l.objs.size=none:=I5.vK.fresh<|gQ _
      obtain⟨sl,e7⟩:=y l.objs.size _ (hI _ rfl) (λvs z=>by cases z)
      have I8:=I7.adopt (p:=l.objs.size) (o:=.tup xs) (I5.Gz (gQ _) n5) #[hz,M,r,_,e7,rfl,_,rfl]
      exact jb (R _ t #[_,n5,rfl] I8) (λ_ _ z=>z) λ_ _ z=>z.elim
end L2
namespace WL
variable[L2.GX]
open PySem L2
open Rep (rp)
open Ow (sl)
open Sls (rel)
def BW(X:Cx)(T:ci)(c:List il){D:Type}[Sls D](w:D->(D->Prop)->(ci->D->Prop)->Prop):Prop:=∀i j h,∃t,Ft (xL X h i j) c t/\∀(d:D)(F R:Rg)(b:St)(H:Hp)(k:D->Prop)(l:ci->D->Prop)(m:Ends),j b->v6 T F R H d b->w d k l ->
 (∀e f g a,k e->Ch T F R H f g a->v6 T f g a e b->m.nx b a)->(∀C y e f g a,l C e->Ch T F R H f g a->v6 T f g a e b->i (.ref C) ↑y a)->t m b H
section
variable{D PO τ τ1:Type}[Sls D][Sls PO][Ow τ][Ow τ1]
def Vg{h:Pos}{n:List iL}(i:Nat){M P o B F y:Type}[Sls M][Sls P][Sls o][Sls B][Sls F][Sls y][Lb y τ1<|Bd C fl×o]{k:B->y->o->D}{N:D->(P->B->y->Prop)->(ci->D->Prop)->Prop}
 {O:Wf (Bd C fl×P) τ1 (Bd C fl×o)} [A0:At i D (Bd C fl) M] [A:At i B (Bd C fl) F] [U:Pt i F (Bd C fl) B]
 (S:∀a b c d u,(yH a b c d u fl).lookup m=none) (W:∀g j f,KZ (xL X f g j) g T (e::n) k N)
 (Y:∀(g:XK)(j:St->Prop) (f:List (ci×qG)) {t:TA},PA (xL X f g j) (e::n) t->PE (xL X f g j) (.Call (.Attribute (.Name x Q) m apos) (e::n) [] pos) (Rp (vL X.prog X.w) (xL X f g j) C m (yu T O) [] g (vC i) t))
 (Z:jW (.Call (.Attribute (.Name x Q) m apos) (e::n) [] pos) none h.line X.env=pure false:=by rfl) :
    BW X T [.Expr (.Call (.Attribute (.Name x Q) m apos) (e::n) [] pos) h] (λ(d:D) I E=>N d (λp b l=>O (A.get b,p) (λ_ r=>I<|k (U.put (A.hole b) r.1) l r.2)<|λC r=>E C<|k (U.put (A.hole b) r.1) l r.2) E):=by
  intro g j f
  refine e1a2 (W g j f) λtr b1 b2=>?_
  refine#[_,xS<|Bx (Y g j f b1) Z,λd G R σ H I E En J s hw kn ke=>#[a0E J,?_]]
  refine Ju i S b2 d G R σ H (λ_ L=>I L) E _ s hw (λx L v F1 F2 R' H' q c s' m=>?_) ke
  exact kn L F2 R' H' q (c.less λa z=>.inr z) s'
def a0H{j:Pos}{n:List iL}(i:Nat){G P s B F y:Type}[Sls G][Sls P][Sls s][Sls B][Sls F][Sls y][Lb y τ1<|Bd C fl×s]{q:B->y->s->D}{H:D->(P->B->y->Prop)->(ci->D->Prop)->Prop}
 {I:Wf (Bd C fl×P) τ1 (Bd C fl×s)} [A0:At i D (Bd C fl) G] [A:At i B (Bd C fl) F] [U:Pt i F (Bd C fl) B] {k:Nat} {M:List Str} {N:Sem Bool}
 (h:Fm X.prog X.w X.K X.mg X.base T C m M I k) (O:ww k X.A) (Q:AW X.K C) (R:∀(o:XK)(r:St->Prop) (g:List (ci×qG)),PE (xL X g o r) (.Name x z)<|vC i) (S:∀(o:XK)(r:St->Prop) (g:List (ci×qG)),KZ (xL X g o r) o T (e::n) q H) (W:∀a b c d u,(yH a b c d u fl).lookup m=none:=by intros;rfl)
 (Y:gP (e::n) X.env=(false,eval e X.env)::gP n X.env:=by rfl) (Z:(jm pos<|gP n X.env).any (·.1)=false:=by rfl)
 (h3:eval (.Call (.Attribute (.Name x z) m apos) (e::n) [] pos) X.env=(do
 let J <- eval (.Name x z) X.env
 mY apos.atName
 let (f,first) <- kO [J] (mO J m N)
 nJ pos f first (jm pos (gP (e::n) X.env)) (mZ pos (kP [] X.env))):=by rfl)
 (hs:jW (.Call (.Attribute (.Name x z) m apos) (e::n) [] pos) none j.line X.env=pure false:=by rfl) :
    BW X T [.Expr (.Call (.Attribute (.Name x z) m apos) (e::n) [] pos) j] (λ(d:D) Kn L=>H d (λp b l=>I (A.get b,p) (λ_ v=>Kn<|q (U.put (A.hole b) v.1) l v.2)<|λC v=>L C<|q (U.put (A.hole b) v.1) l v.2) L) :=
  Vg i W S (λo r g {t} b1=>Rq (X:=xL X g o r) (CX:=vL X.prog X.w) (E:=o) (R o r g) Q h.me h.ok O h.bd .nil b1 Y Z h3) hs
def Vh{j b:List il}{G:List ci}{o:Option (List V)}{wb:D->(D->Prop)->(ci->D->Prop)->Prop}{I:D->(D->Prop)->(τ->PO->Prop)->(ci->PO->Prop)->Prop}(J:X.stack=X.env::X.outer)(L:ClO X ty G o)
 (M:BW X T j wb) (z:∀k,SW (hand X k) E T ms n (b0::b) I) :
    S1 X E T ms n (.Try j [.ExceptHandler ↑ty none (b0::b) hp] [] [] tp) (λ(d:D)(u:D->Prop)(A:τ->PO->Prop) B=>wb d u λC a=>C∈G/\I a u A B):=by
  refine#[_,Vf (tb:=λN O f=>(M N O f).choose) (th:=λk=>(z k).choose) J L (λN O f=>(M N O f).choose_spec.1)<|λk=>(z k).choose_spec.1,λd F R r H u A B P s hw kn kr ke=>?_]
  refine#[λc _ l=>∃C a h i,c=.ref C/\C∈G/\I a u A B/\Ch T F R H h i l/\v6 T h i l a r,?_,λf=>?_,?_]
  · rintro c ox l ⟨C, a, h, i, e, m, _⟩
    exact#[C,m,e]
  · exact(M _ _ f).choose_spec.2 d F R r H _ _ P rfl s hw (λa h i l q c Q => kn a h i l r q c Q<|Ag.refl _ _) λC y a h i l q c Q => #[C, a, h, i, rfl, q.1, q.2, c, Q]
  · rintro c ox l aa ⟨C, a, h, i, e, m, S, t, st⟩ hL k
    have go:∀{w:Hp},Ch T F R H h i w->v6 T h i w a r->(z k).choose P r w:=λ{w} t st=>(z k).choose_spec.2 a h i r w u A B P st S (λd1 F1 R1 H1 U q c s1 g=>kn d1 F1 R1 H1 U q (Ch.trans s st.tab t c) s1 g) (λx W v M1 M2 Y Z q4 c4 S4 n4=>kr x W v M1 M2 Y Z q4 (Ch.trans s st.tab t c4) S4 n4) λC y W F4 Y Z q4 c4 S4=>ke C y W F4 Y Z q4 (Ch.trans s st.tab t c4) S4
    cases o with
    |none =>
      rw[hL]
      exact go t st
    |some xs =>
      obtain⟨p,hp,rfl⟩:=hL
      refine e0a3 (st.new (.tup xs) hp) λs3 c3 _=>?_
      exact go (Ch.trans s st.tab t c3) s3
end
structure a0I(q:Cq)(C1 C2:ci)(y1 y2:Str):Prop where
 m1:q.mg y1=↑(.ref C1)
 m2:q.mg y2=↑(.ref C2)
 x1:lE q.K (.ref C1) [.ref C1,.ref C2]=↑true
 x2:lE q.K (.ref C2) [.ref C1,.ref C2]=↑true
end WL
namespace L2
variable[L2.GX]
open PySem PySem.Spec PyProof.Rows
def Am:Slot "wrapper_descriptor" "__get__" "wrapper_descriptor.__get__":=.of (owner:="wrapper_descriptor") (n:="__get__") (by rw[nZ,lQ];kernel_rfl) q0s q0s q0s
 (.inl<|by kernel_rfl) (by rw[td];kernel_rfl)
def Hl:sX uc "wrapper_descriptor.__get__"=↑Builtin.«wrapper_descriptor.__get__»:=entryFor_of_tree (by kernel_rfl)
def Jw(a b c:cr):rN "wrapper_descriptor.__get__" #[[a,b,c],[]]:=by unfold rN;kernel_rfl
def zB:typeOf (.builtin "ValueError.__init__")=pure (.type "wrapper_descriptor"):=by kernel_rfl
noncomputable def a0J(obj cls:cr)(name:Str):Sem Unit:=do
  rule "descr.get.wrong-instance"
  raiseError "TypeError" s!"descriptor '{name.toString}' for '{← typeName cls}' objects doesn't apply to a '{← typeNameOf obj}' object"
def Ou(x C:ci):Builtin.«wrapper_descriptor.__get__» #[[.builtin "ValueError.__init__",.ref x,.ref C],[]]=((isInstance (.ref x) (.type "ValueError") >>= λb=>if (!b)=true then a0J (.ref x) (.type "ValueError") "__init__" else pure ()) >>= λ_=>newFields "method-wrapper" [.builtin "ValueError.__init__",.ref x] >>= ret):=by kernel_rfl
section
variable{prog:iB}{w:iR}{A:jx}{E:cr->gW->Prop}{h:iM}{g:Array ph}{d:Drawn}{t:Nat}{os:OsState}{so D x C:ci}{ox:Obj}{l0 l:List cr}{K:gO}
def EI(c:h.get? x=↑ox)(b:ox.cls=.ref C)(a:jN (g8 prog w) h (isSubtype (.ref C)<|.type "ValueError") true)
 (e:R (.ok<|.ret<|.ref h.objs.size) #[h.push { cls:=.type "method-wrapper",data:=.fields #v[.builtin "ValueError.__init__",.ref x]},g,d,t,os]) :
    mE (g8 prog w) A (.call (.builtin "wrapper_descriptor.__get__") #[[.builtin "ValueError.__init__",.ref x,.ref C],[]]) R #[h,g,d,t,os]:=by
  have f:(#[h,g,d,t,os]:gW).TypeIs (.builtin "ValueError.__init__") "wrapper_descriptor":=by first|exact k9 zB|exact zB
  refine nN Am.plain Hl<|Am.check _ _ _ _ _ _ _ _ f (Jw _ _ _) ?_
  rw[Ou]
  refine am<|am ?_
  refine am<|wpAny_typeOf_ref c ?_
  rw[b]
  refine PySem.W.Looks.at a ?_
  exact ap<|am<|iK<|ap e
def Jx(a:h.get? so=↑(pG D x C))(c:jN (g8 prog w) h (opaqueClassAbove<|.ref C) none)(j:jN (g8 prog w) h (mroOf<|.ref C) l0)(k:(l0.dropWhile (· != .ref D)).drop 1=l)(X:K.In h)
 (m:uk K "__init__" l=↑(some<|.builtin "ValueError.__init__")) (n:h.get? x=↑ox) (e:ox.cls=.ref C) (b:jN (g8 prog w) h (isSubtype (.ref C)<|.type "ValueError") true) (f:x≠C)
 (o:Q (.done<|.ret<|.ref h.objs.size) #[h.push { cls:=.type "method-wrapper",data:=.fields #v[.builtin "ValueError.__init__",.ref x]},g,d,t,os]) :
    gZ (g8 prog w) A (Builtin.«super.__getattribute__» #[[.ref so,.str "__init__" y],[]]) Q E #[h,g,d,t,os]:=by
  have lk:=Am.lookup
  have p:(h8 x==h8 C)=false:=by simp[f]
  have q:(("__init__":Str)==("__class__":Str))=false:=by decide
  have r:(#v[.ref D,.ref x,.ref C]:Array cr)[0]?=↑(.ref D):=rfl
  have s:(#v[.ref D,.ref x,.ref C]:Array cr)[1]?=↑(.ref x):=rfl
  have u:(#v[.ref D,.ref x,.ref C]:Array cr)[2]?=↑(.ref C):=rfl
  have i:(pG D x C).data=.fields #v[.ref D,.ref x,.ref C]:=rfl
  have v:=zB
  repeat (first|(with_reducible refine jc a i r ?_)|(with_reducible refine jc a i s ?_)|(with_reducible refine jc a i u ?_)|(with_reducible refine ks_wpAny_notOpaque c ?_)|(with_reducible refine PySem.W.Looks.at j ?_;rw[k])|(refine ks_forIn_along X (λ_ _=>rfl) rfl ?_ m)|(with_reducible refine mP v ?_)|(simp only[q,p,r8,kZ,pr])|wp_step|dsimp only)
  exact EI n e b<|am<|ap<|ap<|ap o
end
section
variable{prog:iB}{w:iR}{A:jx}{E:cr->gW->Prop}{h:iM}{g:Array ph}{d:Drawn}{t:Nat}{os:OsState}
variable{nm q:Str}{C N:ci}{bs bm Dv:List cr}{hdct:Bool}{sn:List Str}{sub:List cr}{ab:Bool}{col:Option Bool}{dd:Option ci}{k0 k1 k2 k3 k5:Option cr}{B newId yg:String}
def AZ(F:kB B newId yg Dv)(T:sI h Dv bm){a:List cr} 
 (i:h.get? C=↑(jD nm q C N bs bm hdct sn sub ab col dd k0 k1 k2 k3 k5 newId)) (u:h.Ns N v) (y:v "__init__"=↑(.ref n))
 (k:h.get? n=↑z) (l:z.cls=.type "function")
 (D:∀p e,rJ h p e (.ref C) a ->
 gZ (g8 prog w) A (call (.ref n) (.ref e::a)) (λr s=>r=.none/\Q (.done (.ret (.ref e))) s) E #[p,g,d,t,os]) (hrest:a.length<=gS:=by size_fits) :
    gZ (g8 prog w) A (Builtin.«type.__call__» #[.ref C::a,[]]) Q E #[h,g,d,t,os]:=by
  repeat (first|with_reducible refine jJ i ?_|with_reducible refine wpAny_madeBy_exc i ?_|wp_step)
  refine codeAny_call_builtin_code (nS _ F.quiet)<|wpAny_check_new_subT F T i ?_
  refine codeAny_exc_new_subT F T i ?_ hrest
  have j:∀b o,h.get? b=↑o->((h.push { cls:=.type "tuple",data:=.seq a.toArray}).push { cls:=.ref C,data:=.fields #v[.ref h.objs.size,.none,.none,.none,.bool false,.none]}).get? b=↑o:=λb o e=>ce _<|ce _ e
  have c:=j _ _ i
  have f:((h.push { cls:=.type "tuple",data:=.seq a.toArray}).push
      { cls:=.ref C,data:=.fields #v[.ref h.objs.size,.none,.none,.none,.bool false,.none]}).get? (h.objs.size+1)=some
      { cls:=.ref C,data:=.fields #v[.ref h.objs.size,.none,.none,.none,.bool false,.none]}:=by heap_get
  have m:(h8 C::bm).contains (.ref C)=true:=by simp
  repeat (first|with_reducible refine jJ f ?_|(with_reducible refine qI c ?_;rw[m])|wp_step)
  refine wpAny_typeLookup_tail c (u.keeps j) (T.keeps j) F.mroIs F.init.lookup ?_
  rw[y]
  refine iD<|am ?_
  refine am<|kQ (T:="function") #[_,j _ _ k,l] ?_
  rw[gN q0q]
  refine ap<|am<|jb (D _ (h.objs.size+1) ⟨j,m9<|lP _,h.objs.size,f,m9<|gQ _,ce _<|oo rfl rfl⟩) (λr s G=>?_) λ_ _ x=>x
  obtain⟨rfl,H⟩:=G
  wp_walk
  exact H
def EJ(F:kB B newId yg Dv)(T:sI h Dv bm){a:List cr} 
 (c:h.get? C=↑(jD nm q C N bs bm hdct sn sub ab col dd k0 k1 k2 k3 k5 newId)) (k:h.Ns N l) (m:l "__init__"=↑(.ref j))
 (f:h.get? j=↑n) (i:n.cls=.type "function")
 (o:∀b e,rJ h b e (.ref C) a ->
 gZ (g8 prog w) (A.under (.builtin "type.__call__" #[.ref C::a,[]])) (call (.ref j) (.ref e::a)) (λr p=>r=.none/\Q (.ref e) p) E #[b,g,d,t,os]) (hrest:a.length<=gS:=by size_fits) :
    gZ (g8 prog w) A (call (.ref C) a) Q E #[h,g,d,t,os]:=by
  have u:=tc_lookup
  have v:=tc_bind<|.ref C
  refine mM<|mH ?_
  repeat (any_goals (first|assumption|with_reducible refine jJ c ?_|wp_step))
  refine#[rfl,?_]
  exact codeAny_call_builtin_at (nS _ q0s) entry_typeCall<|wpAny_check_type_call_sub c<|AZ (hrest:=hrest) F T c k m f i λb e s=>o b e s
end
noncomputable def An(x:ci):Obj:={ cls:=.type "method-wrapper",data:=.fields #v[.builtin "ValueError.__init__",.ref x]}
section
variable{prog:iB}{w:iR}{A:jx}{E:cr->gW->Prop}{h:iM}{g:Array ph}{d:Drawn}{t:Nat}{os:OsState}{so D x C:ci}{ox:Obj}{l0 l:List cr}{K:gO}
def Br(a:h.get? so=↑(pG D x C))(f:jN (g8 prog w) h (opaqueClassAbove<|.ref C) none)(n:jN (g8 prog w) h (mroOf<|.ref C) l0)(o:(l0.dropWhile (· != .ref D)).drop 1=l)(X:K.In h)
 (p:uk K "__init__" l=↑(some<|.builtin "ValueError.__init__")) (q:h.get? x=↑ox) (i:ox.cls=.ref C) (b:jN (g8 prog w) h (isSubtype (.ref C)<|.type "ValueError") true) (j:x≠C)
 (r:Q (.ref h.objs.size,[]) #[h.push<|An x,g,d,t+1,os]):gZ (g8 prog w) A (mO (.ref so) "__init__" y) Q E #[h,g,d,t,os]:=by
  have c:=F.ks_slot_super_ga.lookup
  have e:=F.ks_canon_super_ga
  have k:∀s,(#[h,g,d,s,os]:gW).TypeIs (.ref so) "super":=λ_=>#[_,a,rfl]
  refine am<|pT (k _) c ?_
  show gZ _ _ (if (Manifest.canonical "super.__getattribute__" != "object.__getattribute__")=true then _ else _) _ _ _
  rw[gN e]
  refine am<|am<|wpAny_mkText<|iD<|am<|kQ (k _)<|am<|mP c ?_
  refine am<|mP (show (if onTheHeap (.type "super") then nA (.type "super") "__getattr__" else pure none)=pure none from rfl) ?_
  refine am<|o6<|iD ?_
  refine am<|mP (F.ks_slot_super_ga.bind _) ?_
  refine jb (Q:=λv m=>v=.ref h.objs.size/\m=#[h.push<|An x,g,d,t+1,os]) (E:=λ_ _=>False)
    (iT F.ks_slot_super_ga (k _) F.ks_entry_super_ga (Jx a f n o X p q i b j #[_,rfl,rfl,rfl])<|F.ks_gaArgs_super _ _) (λv m u=>?_) λ_ _ z=>z.elim
  obtain⟨rfl,rfl⟩:=u
  exact ap<|ap r
def Rr(h:iM)(e:h.get? q=↑(An x)):∃k,(k=Keeper.frame\/k=Keeper.machine\/k=Keeper.boundFrame)/\jN M h (keeperOf<|.ref q) k :=
 #[.machine,.inr<|.inl rfl,(rQ (part:=none) e).andThen .now]
variable{nm q:Str}{N:ci}{bs bm Dv:List cr}{hdct:Bool}{sn:List Str}{sub:List cr}{ab:Bool}{col:Option Bool}{dd:Option ci}{k0 k1 k2 k3 k5:Option cr}{newId:String}
def CK(F:kB "ValueError" newId "ValueError.__init__" Dv){c:List cr} 
 (f:h.get? C=↑(jD nm q C N bs bm hdct sn sub ab col dd k0 k1 k2 k3 k5 newId)) (i:h.get? x=↑ox) (e:ox.cls=.ref C) (j:Q () #[h,g,d,t,os]) :
    gZ M A (checkBoundCall "ValueError.__init__" #[.ref x::c,[]]) Q E #[h,g,d,t,os]:=by
  simp only[checkBoundCall,F.initKind,F.initRow]
  rw[gN q0q]
  repeat (first|(with_reducible refine jJ i ?_;rw[e])|with_reducible refine jJ f ?_|wp_step)
  refine o8 ?_
  rw[show ∀(a b:String)(n:Nat),Bind.check #[.positional,"*","ValueError",.self,[#["args",.varPos,false]]] a b n (List.map (λx=>x.fst) ({ pos:=h8 x::c}:Args).kw)=pure () from
    λa b n=>check_star_args _ _ _ _ _ _]
  exact ap j
def Vi(F:kB "ValueError" newId "ValueError.__init__" Dv){a:List cr}(o:h.get? C=↑(jD nm q C N bs bm hdct sn sub ab col dd k0 k1 k2 k3 k5 newId))(e:h.get? p=↑(An x))(j:h.get? x=↑ox)(f:ox.cls=.ref C)(k:ox.data=.fields m)(n:m[0]?=↑(.ref s))
 (r:Q .none #[(h.push { cls:=.type "tuple",data:=.seq a.toArray}).update x (Obj.mapFields (·.setIfInBounds 0 (.ref h.objs.size))),g,d,t,os]) (c:a.length<=gS:=by size_fits) :
    gZ (g8 prog w) A (call (.ref p) a) Q E #[h,g,d,t,os]:=by
  refine mM<|mH ?_
  refine am<|qO e ?_
  refine am<|CK F o j f<|ap #[kU F.init.plain _,jM F.initEntry ?_]
  rw[jz F.init.plain]
  unfold Builtin.«BaseException.__init__»
  dsimp only
  rw[gM q0o]
  have i:0<m.size:=(Array.getElem?_eq_some_iff.mp n).1
  have b:=ce (h:=h) { cls:=.type "tuple",data:=.seq a.toArray} j
  refine am<|iK (am<|am<|jc b k n<|am<|m7 b k i ?_) (by show a.toArray.size<=gS;rw[hJ];exact c)
  exact sf<|ap r
end
open Builtin Builtin.ObjectAttr
section
variable{prog:iB}{w:iR}{A:jx}{E:cr->gW->Prop}{h:iM}{g:Array ph}{d:Drawn}{t:Nat}{os:OsState}{x C N:ci}{o:Obj}{v:cr}{name:Str}
variable{nm q:Str}{bs bm Dv:List cr}{sn:List Str}{sub:List cr}{ab:Bool}{col:Option Bool}{dd:Option ci}{k0 k1 k2 k3 k5:Option cr}{B newId sa owner:String}
def Ov(e:StoreFacts B Dv sa owner)(f:bm.contains (.type owner)=true)
 (l:h.get? C=↑(jD nm q C N bs bm true sn sub ab col dd k0 k1 k2 k3 k5 newId)) (m:h.get? x=↑o) (n:o.cls=.ref C) (j:Q () #[h,g,d,t,os]) :
    gZ M A (checkBuiltinCall sa #[[.ref x,a,v],[]]) Q E #[h,g,d,t,os]:=by
  have i:(h8 C::bm).contains (.type owner)=true:=by rw[ul,f,Bool.or_true]
  have k:=e.args (.ref x) a v
  simp only[checkBuiltinCall,e.kind,e.split]
  refine am ?_
  repeat (first|(with_reducible refine jJ m ?_;rw[n])|(with_reducible refine qI l ?_;rw[i])|wp_step)
  cases b:Manifest.signature? sa with
  |none=>exact ap j
  |some c =>
    simp only[rN,b]at k
    have p:Bind.checkArgs sa c #[[.ref x,a,v],[]]=pure ():=k
    show gZ M A (Bind.checkArgs sa c #[[.ref x,a,v],[]]) Q E _
    rw[p];exact ap j
set_option tactic.hygienic true in
def Li(m:tz (.ref x) "__setattr__" bm=pure ())
 (P:h.get? C=↑(jD nm q C N bs bm true sn sub ab col dd k0 k1 k2 k3 k5 newId)) (L2:jN (g8 prog w) h (nA (.ref C) name) none)
 (l:h.get? x=↑o) (R:o.cls=.ref C) (n:∀c,o.data≠.cls c) (p:o.dict=none)
 (S:∀i r s,h.get? s=none->(∀b u,b≠x->h.get? b=↑u->i.get? b=↑u)->i.get? x=some { cls:=o.cls,dict:=↑s,data:=o.data,slots:=o.slots}->i.Ns1 s (λy=>if y=name then some v else none)->Q (.done<|.ret .none) #[i,g,d,r,os]) :
    gZ (g8 prog w) A (Builtin.«object.__setattr__» #[[.ref x,.str name Z,v],[]]) Q E #[h,g,d,t,os]:=by
  repeat (first|rw[refuse_eq]|(rw[refuseLoop_ref,m])|(with_reducible refine jJ l ?_;rw[R])|with_reducible refine wpAny_mroOf_exc P ?_|(with_reducible refine PySem.W.Looks.at L2 ?_)|wp_step)
  rw[p,gM<|by simp[typeHasDict]]
  split
  · rename_i f
    cases f
  split
  · rename_i c f
    exact hV f<|n c
  · have a : (h.push { cls := .type "dict", data := .dict #v[] }).get? x = some o := ce _ l
    have j:x≠h.objs.size:=hR<|gX l
    refine am<|wpAny_alloc' ?_
    refine am<|wpAny_update' a ?_
    refine ap ?_
    have z:((h.push { cls:=.type "dict",data:=.dict #v[]}).update x λo=>{ cls:=o.cls,dict:=↑h.objs.size,data:=o.data,slots:=o.slots}).get? h.objs.size
       =some { cls:=.type "dict",data:=.dict #v[]} :=
      (pX _ _ _ _ j.symm).trans (oo rfl rfl)
    have D:((h.push { cls:=.type "dict",data:=.dict #v[]}).update x λo=>{ cls:=o.cls,dict:=↑h.objs.size,data:=o.data,slots:=o.slots}).Ns h.objs.size (λ_=>none) :=
      #[_,#v[],_,z,rfl,λe T=>hV T q0o,λ_=>rfl]
    refine am<|ap<|am<|wpAny_nsSet1 (sM D) λi k M=>?_
    obtain⟨oD,U,X,F,G,H⟩:=k.count<|Within.cons name v Within.nil
    refine am<|wpAny_lookBehind F (by rw[G];exact pastItsLine_dict<|iA H<|by rw[ij,nj,iY];lia) ?_
    wp_walk
    refine S i _ h.objs.size (m9<|gQ _) (λb u I O=>?_) ?_ k
    · exact(M.2 b<|hR<|gX O).trans<|(pX _ _ _ _ I).trans<|ce _ O
    · refine(M.2 x j).trans (iP _ a ?_)
      have J:=(Heap.get?_some_iff.mp l).2
      obtain⟨oc,od,L,Y⟩:=o
      cases L<;>first|rfl|exact J
def Jy(i:StoreFacts B Dv sa owner)(j:bm.contains (.type owner)=true)(k:tz (.ref x) "__setattr__" bm=pure ())
 (r:h.get? C=↑(jD nm q C N bs bm true sn sub ab col dd k0 k1 k2 k3 k5 newId)) (u:jN (g8 prog w) h (nA (.ref C) "__setattr__") (some<|.builtin sa)) (L2:jN (g8 prog w) h (nA (.ref C) name) none)
 (l:h.get? x=↑o) (m:o.cls=.ref C) (n:∀c,o.data≠.cls c) (p:o.dict=none)
 (z:∀e a f,h.get? f=none->(∀b s,b≠x->h.get? b=↑s->e.get? b=↑s)->e.get? x=some { cls:=o.cls,dict:=↑f,data:=o.data,slots:=o.slots}->e.Ns1 f (λy=>if y=name then some v else none)->Q () #[e,g,d,a,os]) :
    gZ (g8 prog w) A (setAttr (.ref x) name v) Q E #[h,g,d,t,os]:=by
  have I:=i.slot.bind<|.ref x
  repeat (any_goals (first|assumption|(with_reducible refine jJ l ?_;rw[m])|(with_reducible refine PySem.W.Looks.at u ?_)|wp_step))
  refine nN i.slot.plain i.entry<|Ov i j r l m<|Li k r L2 l m n p λe a f D F G H=>?_
  repeat (any_goals (first|assumption|wp_step))
  exact z e a f D F G H
end
def ExI(C x:ci)(d:Option ci)(h:iM):Prop:=∃(a:ci),h.get? x=some { cls:=.ref C,dict:=d,data:=.fields #v[.ref a,.none,.none,.none,.bool false,.none]}
noncomputable def DM(C x:ci)(d:Option ci):HO:=.ext<|ExI C x d
def Hm(I:Inv X a c H s)(h:H x=↑(DM C x b)):ExI C x b s.heap:=(I.vK x _ h).1
def Lj(q:ExI C x b h):v4 P w H h x (DM C x b) :=
 #[q,e1a1 q λ_ e=> #[_,e],λf g a=>e1a1 a λc d k=>#[c,k _ d]]
def cw_mw(i:gP (e::f) b=(false,eval e b)::gP f b)(c:(jm pos<|gP f b).any (·.1)=false)
 (h:gZ M B (uq<|jm pos<|gP (e::f) b) (λj d=>d.heap.get? q=↑(An a)/\gZ M B (call (.ref q) j) Q g d) g k):gZ M B (nJ pos (.ref q) [] (jm pos<|gP (e::f) b) []) Q g k:=by
  rw[i]at h ⊢
  exact pE (P:=λh=>h.get? q=↑(An a)) (by show ((false||(jm pos<|gP f b).any (·.1))||false)=false;rw[c];rfl) Rr<|jA h
def a0L(C:ci)(t:TA):TE:=λb H Q=>∃a,b[0]?=↑(some<|.ref a)/\H a=some (DM C a none)/\t b H λd c=>d.length<=gS/\c a=↑(DM C a none)/\Q .wF c
section
variable{P:iB}{w:iR}{K:gO}{mg:Str->Option cr}{base:iM}{N:List Str}{qual:Str}{scope:l9}{f zj cc:ci}{A:jx}{outer:List Env}{s:gW}{H:Hp}{E:XK}{C:ci}{x0:Str}{fb:List il}{p0 p1 apos pos:Pos}{es:List iL}{e0:iL}{ta:TA}
variable{nm q:Str}{Ns:ci}{bs bm:List cr}{hdct:Bool}{sn:List Str}{sub:List cr}{ab:Bool}{col:Option Bool}{dd:Option ci}{k0 k1 k2 k3 k5:Option cr}
set_option tactic.hygienic true in
def Rs(S:Le P K C f zj cc x0)(ae:N[0]?=↑x0)(U:scope.names.lookup ("super":Str)=some .globalImplicit)(X:scope.names.lookup ("__class__":Str)=some .free)(B:scope.names.lookup x0=some .local)(af:mg "super"=none)
 (lC:K.lookup C=↑(jD nm q C Ns bs bm hdct sn sub ab col dd k0 k1 k2 k3 k5 "ValueError.__new__")) (hm:jU K C C "__init__"=↑(some<|.builtin "ValueError.__init__")) (ag:kX K C (.type "ValueError")=↑true)
 (ha:PA (La (vL P w) P w K mg base N qual scope f (.ref zj) [("__class__",cc)] A outer s H E) (e0::es) ta)
 (he:gP (e0::es) (iW qual scope ⇑s f (.ref zj) [("__class__",cc)])=(false,eval e0<|iW qual scope ⇑s f (.ref zj) [("__class__",cc)])::gP es (iW qual scope ⇑s f (.ref zj) [("__class__",cc)]))
 (l:(jm pos<|gP es<|iW qual scope ⇑s f (.ref zj) [("__class__",cc)]).any (·.1)=false) (D:Ot p0 p1 apos pos "__init__" (e0::es)) :
    PEA (La (vL P w) P w K mg base N qual scope f (.ref zj) [("__class__",cc)] A outer s H E) fb (.Call (.Attribute (.Call (.Name "super" p0) [] [] p1) "__init__" apos) (e0::es) [] pos) (a0L C ta):=by
  intro n i σ H1 Q I h
  refine e1a3 h λa h0 ea h=>?_
  have Y:=I.yJ
  obtain⟨oc,od,fd,au,Z,lf,hp,rfl⟩:=S.fn
  obtain⟨av,aw,ax,an,file,tf,lc,ah,G⟩:=S.code
  obtain⟨ao,aq,aa,L⟩:=S.cell
  obtain⟨cd,j⟩:=S.cls
  obtain⟨t0,O⟩:=Hm I ea
  refine e1a2 I.loc λmL hn hl=>?_
  refine e1a2 (hl 0 Z.arg (.ref a) ae h0<|.inl B) λu ru lk=>?_
  obtain rfl:u=h8 a:=ru
  have ai:mL Z.arg=↑(.ref a):=by
    rcases lk with⟨_,q⟩|⟨q,_⟩
    · exact q
    · have q : scope.names.lookup Z.arg = some .cell \/ scope.names.lookup Z.arg = some .free := q
      rw[B]at q
      rcases q with q|q<;>cases q
  obtain⟨oD,M,R⟩:∃oD,i.heap.get? C=some oD/\oD.data=.cls cd:=by
    unfold mQ at j
    split at j
    · rename_i c d ay sl ho
      cases j
      exact#[_,Y _ _ ho,rfl]
    · cases j
  refine e1a2 I.mod.blt λmb aj ak=>?_
  have ne:a≠C:=λz=>by
    rw[z,M]at O
    cases O
    cases R
  obtain⟨pl,D⟩:=D<|iW qual scope ⇑s f (.ref zj) [("__class__",cc)]
  refine ks_wpAt_MethodCall (pl:=pl) (ks_wpAt_super_base (env:=iW qual scope ⇑s f (.ref zj) [("__class__",cc)]) U X q0q rfl (Y _ _ lf) rfl hp rfl (Y _ _ lc) rfl ah G S.top ?_) D
  refine qW I.ok.kind U<|og (env:=iW qual scope ⇑s f (.ref zj) [("__class__",cc)]) (I.mod.glob.keeps I.bk) af (aj.keeps I.bk) ((ak _ q0s).trans rfl) #[rfl,?_]
  refine qx I.ok.kind X rfl #[_,Y _ _ L,rfl] ?_
  refine kN I.ok.kind B hn ai ?_
  refine ks_wpAny_isType_cls (h:=i.heap) (g:=i.gens) (d:=i.drawn) (t:=i.toks) (os:=i.os) M R #[rfl,?_]
  refine ks_wpAny_call_super (h:=i.heap) (g:=i.gens) (d:=i.drawn) (t:=i.toks) (os:=i.os) M R O rfl (λc e=>by cases e) (pF Y S.sub) λp e k'=>?_
  have T:Inv _ n σ H1 #[p,i.gens,i.drawn,i.toks,i.os]:=I.kept (t':=i.toks) k'
  unfold jU at hm
  rw[j]at hm
  refine Br e (sy T.yJ S.opq) (l0:=cd.mro) (λA Q E s k q=>am<|(pq T.yJ j) A _ E s k<|ap q) rfl T.yJ hm (k' _ _ O) rfl (pF T.yJ ag) ne ?_
  have I2:Inv _ n σ H1 #[p.push<|An a,i.gens,i.drawn,i.toks+1,i.os]:=T.kept (t':=i.toks+1) λb o z=>ce _ z
  have fr:H1 p.objs.size=none:=T.vK.fresh<|gQ _
  have gq:(p.push<|An a).get? p.objs.size=↑(An a):=oo rfl rfl
  have I3:=I2.pinned (fp:=[p.objs.size]) (λb y=>by rw[List.mem_singleton.mp y];exact T.Gz (gQ _) fr) λb y=>by rw[List.mem_singleton.mp y];exact#[_,gq,λv z=>by cases z]
  refine cw_mw (a:=a) he l<|vI (ha pos _ _ σ H1 _ I3 h) λus s2 z9=>e2a5 z9 λvs H2 I4 r q1 q2 q3=>?_
  have g2:s2.heap.get? p.objs.size=↑(An a):=(I4.pin (p.objs.size,An a)<|ig _<|ig _<|xE gR gq).1
  refine#[g2,?_]
  have I5:=I4.zW
  obtain⟨t1,O1⟩:=Hm I5 q2
  have al:=I5.yJ
  obtain⟨m,g5,d5,t5,az⟩:=s2
  refine Vi iz (al _ _ lC) g2 O1 rfl rfl rfl ?_ (by show us.length<=_;rw[<- r.length];exact q1)
  have hu:upd H2 a (DM C a none)=H2:=by
    funext b
    by_cases y:b=a
    · rw[y, uV, q2]
    · rw[uR y]
  have O2:=iP (f:=Obj.mapFields (·.setIfInBounds 0 (.ref m.objs.size))) (ce { cls:=.type "tuple",data:=.seq us.toArray} O1) rfl
  have J:=I5.write (x:=a) (e:=a) (o:=DM C a none) (t':=t5) (h':=(m.push { cls:=.type "tuple",data:=.seq us.toArray}).update a (Obj.mapFields (·.setIfInBounds 0 (.ref m.objs.size)))) (by rw[q2];trivial) (.inl rfl)
    (λb u y z=>by rw[pX _ _ _ _ y];exact ce _ z) #[_,O2] (Lj #[m.objs.size,O2])
  rw[hu]at J
  exact#[.wF,H2,J,rfl,q3]
end
def xV.a2F{s:iM}(k:xV P w H h)(t:H a=↑(DM C a none))(n:h.get? l=none)(x:∀b o,b≠a->h.get? b=↑o->s.get? b=↑o)(q:ExI C a d s)(D:s.Ns1 l (λz=>if z=f then some u else none))(r:RelV y u) :
  xV P w (upd (upd H l<|.xd [(f,y)]) a<|DM C a d) s/\∀A,Un A [] H (upd (upd H l<|.xd [(f,y)]) a<|DM C a d) h s:=by
 have E:∀b v,H b=↑v->b≠l:=λb v z e=>by obtain⟨o,i⟩:=AH k z;rw[e,n]at i;cases i
 have j:∀b v,H b=↑v->(∀B,v≠.ext B)->upd (upd H l<|.xd [(f,y)]) a (DM C a d) b=some v:=λb v z e=>by rw[uR λi=>by rw[i,t]at z;cases z;exact e _ rfl,uR<|E b v z];exact z
 refine#[λb o z=>?_,λA=>#[λb o z e _ _=>x b o (λi=>by rw[i,t]at e;cases e) z,λb o z e _ _=>#[o.slots,x b o (λi=>by rw[i,t]at e;cases e) z],λb o z e _=>?_,λb o z _=>?_,λb B z=>j b _ z (λ_ e=>by cases e),λb o v z=>j b _ z (λ_ e=>by cases e),λb I z=>#[#v[],by rw[j b _ z<|λ_ e=>by cases e];simp]]]
 ·by_cases e:b=a
  ·subst e;rw[uV]at z;cases z;exact Lj q
  ·rw[uR e]at z;by_cases i:b=l
   ·subst i;rw[uV]at z;cases z;refine#[_,D,λg=>?_];by_cases m:g=f
    ·rw[m,List.lookup_cons_self,gN rfl];exact r
    ·rw[iF,beq_false_of_ne m,gM m];exact True.intro
   ·rw[uR i]at z;refine(k b o z).Do (λc v p y=>x c v (λm=>?_) y) (λc y=>j c _ y λ_ e=>by cases e) λc J y=>j c _ y λ_ e=>by cases e
    rcases p with p|p
    ·exact e<|p▸m
    ·rw[m,t]at p;cases p
 ·have F:b≠a:=λi=>by rw[i,t]at e;cases e
  have G:b≠l:=λi=>by rw[i,n]at z;cases z
  rw[uR F,uR G];exact e
 ·by_cases e:b=a
  ·obtain⟨_,q⟩:=q;rw[e];exact#[_,q]
  ·exact#[_,x b o e z]
def a0M(C:ci)(f:Str)(e g:TE):TS:=λD c H=>g c H λy h=>e c h λx d=>∃a,x=.ref a/\d a=↑(DM C a none)/\∀b,d b=none->b≠a->D.nx c (upd (upd d b<|.xd [(f,y)]) a<|DM C a<|↑b)
def Vj(L:PE X o M)(N:PE X value P)(Q:jW value (some<|.Attribute o f e) pos.line X.env=pure false)
 (R:X.K.lookup C=↑(jD nm q C Ns bs B true sn sub ab S dd k0 E G k3 k5 l)) (m:B.contains (.type "object")=true) (n:∀x:ci,tz (.ref x) "__setattr__" B=pure ())
 (T:iv X.K (.ref C) "__setattr__"=↑(some<|.builtin "object.__setattr__"))(U:iv X.K (.ref C) f=↑none):PS X (.Assign [.Attribute o f e] value pos) (a0M C f M P):=by
  intro b s p H D I h
  refine rD (vI (N b s p H _ I h) λu Y r=>e2a3 r λy H1 Z ry q=>vI (L b Y p H1 _ Z q) λov s2 r=>e2a3 r λx H2 i rx v=>e1a3 v λa ex J q2=>?_) Q
  subst ex
  obtain rfl:ov=h8 a:=rx
  obtain⟨t0,O⟩:=Hm i J
  have w:=i.yJ
  obtain⟨hp,g,d,t,os⟩:=s2
  refine Jy PySem.F.store_ValueError m (n a) (w _ _ R) (oY w T) (oY w U) O rfl (λc z=>by cases z) rfl λh' A j k z2 z3 z4=>?_
  have n1:H2 j=none:=by
    cases z:H2 j with
    |none=>rfl
    |some o=>obtain⟨u,q⟩:=AH i.vK z;rw[k]at q;cases q
  have na:j≠a:=λz=>by rw[z,O]at k;cases k
  obtain⟨E,G⟩:=xV.a2F (d:=↑j) i.vK J k z2 #[t0,z3] z4 ry
  exact#[p,_,i.un (h':=h') (t':=A) (G _) E,q2 j n1 na]
def Jz(b:bm.contains (.type "BaseException")=true)(k:A.handled=none)
 (h:gZ M A x (λv a=>∃e t i,v=.ref e/\a.heap.get? C=↑(jD nm q C N bs bm hdct sn sub ab col dd k0 k1 k2 k3 k5 newId) /\
 a.heap.get? e=some { cls:=.ref C,dict:=i,data:=.fields #v[.ref t,.none,.none,.none,.bool false,.none]}/\E (.ref e) a) E s) :
    gZ M A (raiseStmt l ↑x none) Q E s:=by
  have f:(h8 C::bm).contains (.type "BaseException")=true:=by rw[ul,b,Bool.or_true]
  unfold raiseStmt
  refine am<|jb h (λv a c=>?_) λ_ _ x=>x
  obtain⟨e,t,i,rfl,j,m,n⟩:=c
  obtain⟨o,g,d,p,r⟩:=a
  repeat (first|with_reducible refine jJ m ?_|with_reducible refine jJ j ?_|(with_reducible refine qI j ?_;rw[f])|wp_step)
  exact wpAny_raiseNew_none k n
def JA(F:kB B c y H) 
 (n:bm.contains (.type "BaseException")=true) (Y:A.handled=none) (k:(jm l<|gP args o).any (·.1)=false)
 (h:gZ (g8 prog w) A (eval (.Name x np) o) (λf m=>f=.ref C/\gZ (g8 prog w) A (evalArgs (.ref C) true (jm l (gP args o)) [])
 (λa b=>a.kw=[]/\a.pos.length<=gS/\b.heap.get? C=↑(jD nm q C N bs bm hdct sn sub ab col dd k0 k1 k2 k3 k5 c)/\(∃I,b.heap.Ns N I/\I "__init__"=↑(.ref fI))/\(∃J,b.heap.get? fI=↑J/\J.cls=.type "function")/\sI b.heap H bm /\
 ∀D e,rJ b.heap D e (.ref C) a.pos->gZ (g8 prog w) (A.under (.builtin "type.__call__" #[.ref C::a.pos,[]])) (call (.ref fI) (.ref e::a.pos)) (λr G=>r=.none/\G.heap.get? C=↑(jD nm q C N bs bm hdct sn sub ab col dd k0 k1 k2 k3 k5 c) /\
 (∃t L,G.heap.get? e=some { cls:=.ref C,dict:=L,data:=.fields #v[.ref t,.none,.none,.none,.bool false,.none]})/\E (.ref e) G) E { b with heap:=D}) E m) E s) :
    gZ (g8 prog w) A (exec (.Raise (some<|.Call (.Name x np) args [] l) none pos) o) Q E s:=by
  rw[arm_exec_Raise]
  refine am<|nI<|Jz (C:=C) (nm:=nm) (q:=q) (N:=N) (bs:=bs) (bm:=bm) (hdct:=hdct) (sn:=sn) (sub:=sub) (ab:=ab) (col:=col) (dd:=dd) (k0:=k0) (k1:=k1) (k2:=k2) (k3:=k3) (k5:=k5) (newId:=c) n Y<|am<|jb (wpAny_Call_ofName<|jb h (λf m i=>?_) λ_ _ x=>x) (λv S p=>am<|nI<|ap p) λ_ _ x=>x
  obtain⟨rfl,i⟩:=i
  unfold nJ
  refine am<|iD<|jb i (λa b j=>am<|nI ?_) λ_ _ x=>x
  obtain⟨U,M⟩:=a
  obtain⟨O,u,W,⟨I,Z,hi⟩,⟨J,P,R⟩,T,j⟩:=j
  obtain rfl:M=[]:=O
  obtain⟨hp,g,d,tk,os⟩:=b
  simp only[k]
  refine am<|wpAny_keeperOf_exc W ?_
  refine am<|EJ (hrest:=u) F T W Z hi P R λD e hm=>jb (j D e hm) (λr G X=>#[X.1,?_]) λ_ _ z=>z
  obtain⟨_,c1,⟨t,L,c2⟩,c3⟩:=X
  exact am<|iD<|wpAny_point<|ap #[e,t,L,rfl,c1,c2,c3]
noncomputable def B4(H:Hp)(x:ci):Hp:=λb=>if b=x then none else H b
def zC:B4 H x x=none:=gN rfl
def x9(h:b≠x):B4 H x b=H b:=gM h
section
variable{P:iB}{w:iR}{H H3 H4:Hp}{h h' h4:iM}{x C:ci}{c:Option ci}
def xV.Rt(k:xV P w H h)(e:H x=↑(DM C x c)):xV P w (B4 H x) h:=λa o z=>by
 have g:a≠x:=λq=>by rw[q,zC]at z;cases z
 rw[x9 g]at z
 have d:∀b u,H b=↑u->(∀f,u≠.ext f)->B4 H x b=↑u:=λb u q n=>by rw[x9 λy=>by rw[y,e]at q;cases q;exact n _ rfl];exact q
 exact(k a o z).Do (λ_ _ _ q=>q) (λb q=>d b _ q λf y=>by cases y) λb i q=>d b _ q λf y=>by cases y
def xV.Hn(k:xV P w H h)(e:h.get? x=none):H x=none:=by
 cases z:H x with
 |none=>rfl
 |some o=>obtain⟨u,q⟩:=AH k z;rw[e]at q;cases q
def xV.M5(k:xV P w H h)(e:h.get? x=none)(f:∀b o,h.get? b=↑o->h'.get? b=↑o)(n:ExI C x c h'):xV P w (upd H x<|DM C x c) h':=λa o z=>by
 by_cases q:a=x
 ·subst q;rw[uV]at z;cases z;exact Lj n
 ·rw[uR q]at z;have d:∀b u,H b=↑u->upd H x (DM C x c) b=↑u:=λb u y=>by rw[uR λg=>by rw[g,k.Hn e]at y;cases y];exact y
  exact(k a o z).Do (λ_ _ _ y=>f _ _ y) (λb y=>d b _ y) λb i y=>d b _ y
def Un.M5(k:xV P w H h)(e:h.get? x=none)(d:∀b o,h.get? b=↑o->h'.get? b=↑o):Un fs [] H (upd H x<|DM C x c) h h':=by
 have a:∀b u,H b=↑u->upd H x (DM C x c) b=↑u:=λb u y=>by rw[uR λf=>by rw[f,k.Hn e]at y;cases y];exact y
 refine#[λb o z _ _ _=>d b o z,λb o z _ _ _=>#[o.slots,d b o z],λb o z n _=>?_,λb o z _=>#[o,d b o z],λb g z=>a b _ z,λb o u z=>a b _ z,λb i z=>#[#v[],by rw[a b _ z];simp]];rw[uR λy=>by rw[y,e]at z;cases z];exact n
def Un.Rt(u:Un fs [] H H4 h h4)(e:h.get? x=none)(d:H x=none):Un fs [] H (B4 H4 x) h h4:=by
 have a:∀b v,H b=↑v->b≠x:=λb v y z=>by rw[z,d]at y;cases y
 refine#[u.keep,u.slot,λb o z n f=>?_,u.there,λb g z=>?_,λb o v z=>?_,λb i z=>?_]
 ·rw[x9 λy=>by rw[y,e]at z;cases z];exact u.free b o z n f
 ·rw[x9<|a b _ z];exact u.Bw b g z
 ·rw[x9<|a b _ z];exact u.Bc b o v z
 ·rw[x9<|a b _ z];exact u.Be b i z
end
def Vk(C:ci)(f:Sp)(a:List V)(E:XK)(h:TA):TS:=λ_ i H=>h i H λc e=>c.length<=gS/\∀x:ci,e x=none ->
 f (.ref x::c++a) (upd e x<|DM C x none) (λv b=>v=.wF/\∃d,b x=↑(DM C x d)/\GX.g C d (B4 b x)/\E (.ref C) ↑x (B4 b x)) λ_ _ _=>False
section
variable{P:iB}{w:iR}{K:gO}{mg:Str->Option cr}{base:iM}{N:List Str}{qual:Str}{scope:l9}{f:ci}{cd:cr}{A:jx}{outer:List Env}{s:gW}{H:Hp}{E:XK}
variable{nm q:Str}{Ns:ci}{bs bm Dv:List cr}{hdct:Bool}{sn:List Str}{sub:List cr}{ab:Bool}{col:Option Bool}{dd:Option ci}{k0 k1 k2 k3 k5:Option cr}{B newId yg:String}
def Ox{k:Nat}(hg:Gl 19 x)(hm:mg x=↑(.ref C))
 (lC:K.lookup C=↑(jD nm q C Ns bs bm hdct sn sub ab col dd k0 k1 k2 k3 k5 newId)) (aa:∀h:iM,K.In h->∃mN,h.Ns Ns mN/\mN "__init__"=↑(.ref fI)) (hT:∀h:iM,K.In h->sI h Dv bm) (lI:K.lookup fI=↑oI) (ae:oI.cls=.type "function")
 (FB:kB B newId yg Dv) (n:bm.contains (.type "BaseException")=true) (FI:vD P w K mg base (vL P w) k fI fd ps sp) (j:Binds K fd ps U) (af:Vals p U) (hr:ww (k+1) (19).A)
 (ha:PA 19 args ta) (ag:(x==("__debug__":Str))=false)
 (ah:(jm cpos<|gP args (19).env).any (·.1)=false)
 (ai:∀(Q:Args->gW->Prop)(E':cr->gW->Prop)(s9:gW),gZ (g8 P w) (19).A (uq<|jm cpos<|gP args (19).env) (λX y=>Q #[X,[]] y) E' s9->gZ (g8 P w) (19).A (evalArgs (.ref C) true (jm cpos<|gP args (19).env) []) Q E' s9) :
    PS 19 (.Raise (some<|.Call (.Name x np) args [] cpos) none pos) (Vk C sp p E ta):=by
  intro a s1 σ H1 D I h
  have hA:=ha cpos a s1 σ H1 _ I h
  refine JA (prog:=P) (w:=w) (C:=C) (nm:=nm) (q:=q) (N:=Ns) (bs:=bs) (bm:=bm) (hdct:=hdct) (sn:=sn) (sub:=sub) (ab:=ab) (col:=col) (dd:=dd) (k0:=k0) (k1:=k1) (k2:=k2) (k3:=k3) (k5:=k5) (fI:=fI)
    FB n (I.ok.hd rfl) ah (zm I hg hm #[rfl,?_] ag)
  refine ai _ _ _<|jb hA (λl G q2=>?_) λ_ _ z=>z
  refine e2a4 q2 λX H2 F r2 hl M=>?_
  have Y:=F.yJ
  refine#[rfl,by show l.length<=gS;rw[<- r2.length];exact hl,Y _ _ lC,aa _ Y,#[oI,Y _ _ lI,ae],hT _ Y,λZ e made=>?_]
  refine e1a3 made.there λt aj _ _=>?_
  have n2:H2 e=none:=F.vK.Hn made.new
  have I3:Inv 19 a σ (upd H2 e<|DM C e none) { G with heap:=Z,toks:=G.toks}:=F.un (Un.M5 F.vK made.new made.keeps)<|F.vK.M5 made.new made.keeps #[t,aj]
  have r3:Vals (.ref e::X++p) (.ref e::l++U):=.cons rfl<|Vals.append r2 af
  have ak:(h8 e::l++U).length=ps.length:=by rw[<- r3.length];exact FI.len _ _ _ _<|M e n2
  refine mM<|jT (FI.run _ _ { G with heap:=Z} _ ⟨.ref e::l,[]⟩ (.ref e::l++U) (.ref e::X++p) _ _ (hr.make C l []) (I3.IS.make C l []) (j { G with heap:=Z} (.ref e::l) I3.yJ ak) r3 (M e n2)) λr y O=>?_
  cases r with
  |error e'=>obtain⟨_,_,_,_,_,z⟩:=O;exact z.elim
  |ok fl =>
    cases fl with
    |next=>exact iC O
    |brk=>exact iC O
    |cont=>exact iC O
    |ret u =>
      obtain⟨v,H4,R,i,S,m,rv,rfl,c,e4,gd,hE⟩:=id O
      have T:(19).stack=(19).env::(19).outer:=rfl
      have J:Inv 19 a σ H4 y:=by
        obtain⟨hh,g,d,tt,al⟩:=y
        obtain rfl:al=G.os:=R
        exact Inv.call (s:={ G with heap:=Z}) (h':=hh) (g':=g) (d':=d) (t':=tt) (ch:=[]) I3 S m i<|λb z=>hV z q0o
      obtain⟨t4,O4⟩:=Hm J e4
      refine#[rv,J.yJ _ _ lC,#[t4,c,O4],?_]
      have fu:=J.IS.yE
      have an:(lY y.heap (e::zi (19).stack)).get? e=none:=sh _ gR
      refine jb (A7 (base:=lY y.heap (e::zi (19).stack)) (a0:=.ref t4) J.ok.frames
        (rO fu λao he b j=>gU _<|List.mem_filterMap.mpr ⟨ao,he,j⟩) (xY J T) O4 (λb o z=>ny _ z) an rfl rfl rfl
        (Q:=λ_ aq=>vL P w outer H s E (.ref e) aq) λar fl up dk=>?_) (λ_ _ z=>z) λ_ _ z=>z
      refine#[C,e,B4 H4 e,rfl,?_,hE]
      refine KR (s2:=y) F T rfl R i (Un.Rt ((Un.M5 F.vK made.new made.keeps).trans S) made.new n2) (m.Rt e4) (λb o z L nf=>pf _ z λj=>?_) (λb j=>?_) up fl #[_,dk,gd]
      · rcases List.mem_cons.mp j with rfl|j
        · rcases L with L|⟨o0, L⟩
          · exact L zC
          · rw[made.new]at L; cases L
        · exact nf j
      · have z := J.frn b j
        refine#[?_,(fu.mem j).2]
        by_cases q:b=e
        · rw[q, zC]
        · rw[x9 q]; exact z.1
end
def YC(K:gO)(C:ci)(c:Str):Sp:=λd H Q _=>∃x l b,d=[.ref x,.ref l]/\H x=↑(DM C x none)/\(wo K H l b\/yZ K H l b)/\∀p a,H p=none->H a=none->a≠x->a≠p->Q .wF (upd (upd (upd H p<|.lst b) a<|.xd [(c,.ref p)]) x<|DM C x<|↑a)
section
variable{P:iB}{w:iR}{K:gO}{mg:Str->Option cr}{base:iM}{qual name:Str}{scope:l9}{f zj cc:ci}{C:ci}{k:Nat}{p0 p1 p2 p3 p4 p5 p6 p7 p8 p9 apos pos:Pos}{r fl tx:Str}{j:Nat}
variable{nm q:Str}{Ns:ci}{bs bm:List cr}{sn:List Str}{sub:List cr}{ab:Bool}{col:Option Bool}{dd:Option ci}{k0 k1 k2 k3 k5:Option cr}{params:Arguments}{dV kV doc pm ct oc:cr}{an od:Option ci}{N0:Array (Option cr)}{body:List il}
def Vl(lk:K.lookup f=some #[oc,od,.func<|kF name qual params body scope [("__class__",cc)] dV kV doc pm an (.ref zj) ct,N0])(g:jt K (.ref zj) qual=true)
 (m:body=[.Expr (.Call (.Attribute (.Call (.Name "super" p0) [] [] p1) "__init__" apos) [.Constant (.str tx) j p3] [] pos) p2,.Assign [.Attribute (.Name "self" p4) fl p5] (.Call (.Name "list" p6) [.Name r p7] [] p8) p9])
 (S:WL.xD ["self",r] ["self",r] scope) (D:Le P K C f zj cc "self") (n:Ot p0 p1 apos pos "__init__" [.Constant (.str tx) j p3]) (o:mg "super"=none) (t:mg "list"=none) (u:scope.names.lookup ("list":Str)=some .globalImplicit)
 (M:K.lookup C=↑(jD nm q C Ns bs bm true sn sub ab col dd k0 k1 k2 k3 k5 "ValueError.__new__")) (U:jU K C C "__init__"=↑(some<|.builtin "ValueError.__init__")) (v:kX K C (.type "ValueError")=↑true)
 (B:bm.contains (.type "object")=true) (F:∀x:ci,tz (.ref x) "__setattr__" bm=pure ()) (X:iv K (.ref C) "__setattr__"=↑(some<|.builtin "object.__setattr__")) (Y:iv K (.ref C) fl=↑none)
 (G:(r==("__debug__":Str))=false) (I:(r==("__classdict__":Str))=false) :
    vD P w K mg base (vL P w) (k+1) f (kF name qual params body scope [("__class__",cc)] dV kV doc pm an (.ref zj) ct) ["self",r] (YC K C fl):=by
  obtain⟨o1,o2,o3,a⟩:=D.cell
  refine Hj lk g (S.x cc) (λy c h=>?_) (λZ H Q E h=>?_) λA J s H Z Q E hr L=>?_
  · have e : c = cc := by
      by_cases e:(y==("__class__":Str))=true
      · rw[iF, e]at h; cases h; rfl
      · rw[iF, Bool.eq_false_iff.mpr e]at h; cases h
    subst e
    exact#[_,_,a,rfl]
  · obtain⟨x, l, N, rfl, _⟩ := h; rfl
  · obtain⟨x, l, N, rfl, b, hl, hq⟩ := L
    rw[m]
    refine#[_,yB (EG (Rs D rfl S.ks S.kc (S.par _ gR) o M U v (uZ Gy vk) rfl rfl n)) (yB (Rc (Vj (J8 (i:=0) rfl (.inl (S.par _ gR)))
      (xF yp u t j0 (uZ (J8 (i:=1) rfl (.inl (S.par _ (gU _ gR))) G I) vk)) rfl M B F X Y)) (DI zo)),?_]
    have st:start ["self",r] [V.ref x,V.ref l]=[some<|.ref x,some<|.ref l]:=rfl
    rw[st]
    refine#[x,rfl,b,?_,b,?_]
    · show (1 : Nat) <= gS
      rw[iY];lia
    · refine#[.ref l, rfl, l, N, rfl, hl, λp O => #[.ref x, rfl, x, rfl, ?_, λR d n2 => ?_]]
      · rw[uR λz => by rw[z, O]at b; cases b]
        exact b
      · have T : R ≠ p := λz => by rw[z, uV]at d; cases d
        rw[uR T]at d
        exact hq p R O d n2 T
end
end L2
namespace WL
variable[L2.GX]
open PySem L2
open Rep (rp)
open Ow (sl)
open Sls (rel)
structure XcI(P:iB)(w:iR)(K:gO)(mg:Str->Option cr)(base:iM)(k:Nat)(x:Str)(C:ci)(fl:Str):Prop where
 ex:∃(fI Ns:ci)(fd:iH)(oI:qG)(nm q:Str)(bs bm Dv:List cr)(hdct:Bool)(sn:List Str)(sub:List cr)(ab:Bool)(col:Option Bool)(dd:Option ci)(k0 k1 k2 k3 k5:Option cr)(B newId yg:String)(ps:List Str),
  mg x=↑(.ref C)/\K.lookup C=↑(jD nm q C Ns bs bm hdct sn sub ab col dd k0 k1 k2 k3 k5 newId)/\(∀h:iM,K.In h->∃mN,h.Ns Ns mN/\mN "__init__"=↑(.ref fI))/\(∀h:iM,K.In h->sI h Dv bm)/\K.lookup fI=↑oI/\oI.cls=.type "function" /\
  kB B newId yg Dv/\bm.contains (.type "BaseException")=true/\vD P w K mg base (vL P w) k fI fd ps (YC K C fl)/\Binds K fd ps []
 go:∀dx p xs H,H dx=↑(.xd [(fl,.ref p)])->H p=↑(.lst xs)->GX.g C ↑dx H
section
variable{D D' D1 PO τ α:Type}[Sls D][Sls D'][Sls D1][Sls PO][Ow τ][Rep α]
def YD{x r L:Str}{i:Nat}{y j M:Pos}{C:ci}[J:Pj D PO n][At i D (OL α) D1](hg:Gl (vP (vL P w) P w K l base N g c f u A e s H E) x)(h:XcI P w K l base k x C L)(hr:ww (k+1) (vP (vL P w) P w K l base N g c f u A e s H E).A)
  (hv:PE (vP (vL P w) P w K l base N g c f u A e s H E) (.Name r M) (vC i)) (W:(x==("__debug__":Str))=false:=by decide)
  (X:gP [.Name r M] (vP (vL P w) P w K l base N g c f u A e s H E).env=(false,eval (.Name r M) (vP (vL P w) P w K l base N g c f u A e s H E).env)::gP [] (vP (vL P w) P w K l base N g c f u A e s H E).env:=by rfl) :
  S1 (vP (vL P w) P w K l base N g c f u A e s H E) E T ms n (.Raise (some<|.Call (.Name x y) [.Name r M] [] j) none Y) (λ(d:D)(_:D'->Prop)(_:τ->PO->Prop) Ke=>Ke C<|J.pj d):=by
 obtain⟨fI,Ns,fd,oI,nm,q,bs,bm,af,ae,sn,ag,ab,ah,dd,k0,k1,k2,k3,k5,B,Z,O,ps,a1,a2,a3,a4,a5,a6,a7,a8,a9,aa⟩:=h.ex;refine#[_,Ox (np:=y) (pos:=Y) (cpos:=j) hg a1 a2 a3 a4 a5 a6 a7 a8 a9 aa .nil hr (uZ hv vk X) W (by rw[X];rfl) λQ E' s9 z=>by rw[X]at z ⊢;exact jA z,λd F R σ H Kn Kr Ke En s hw kn kr ke=>?_];obtain⟨v,F1,F2,e1,_,⟨a,I,rfl,_,ha,_⟩,_⟩:=UF (i:=i) (τ:=OL α) s;refine#[.ref a,e1,(by show 1<=gS;decide),λx hx=>#[x,a,I,rfl,uV,.inl ?_,λp m S hd nx y=>#[rfl,↑m,uV,?_]]]
 ·have ne:a≠x:=λz=>by rw[z,hx]at ha;cases ha
  exact .inl<|Rd.of (by rw[uR ne];exact ha)
 ·have px:p≠x:=λz=>by rw[z,uV]at S;cases S
  rw[uR px]at S;rw[uR nx]at hd
  have q:B4 (upd (upd (upd (upd H x<|DM C x none) p<|.lst I) m<|.xd [(L,.ref p)]) x<|DM C x<|↑m) x=upd (upd H p<|.lst I) m (.xd [(L,.ref p)]):=by
   funext b
   by_cases U:b=x
   ·rw[U,zC,uR<|Ne.symm nx,uR<|Ne.symm px,hx]
   ·rw[x9 U,uR U];by_cases o:b=m
    ·rw[o,uV,uV]
    ·rw[uR o,uR o];by_cases t:b=p
     ·rw[t,uV,uV]
     ·rw[uR t,uR U,uR t]
  rw[q];refine#[h.go m p I _ uV (by rw[uR<|Ne.symm y];exact uV),?_];refine e0a3 (s.new (.lst I) S) λs2 c2 _=>?_;obtain⟨s3,c3,_⟩:=s2.new (p:=m) (.xd [(L,.ref p)]) (by rw[uR y];exact hd);refine e1a2 (wH (PO:=PO) s3) λG g1 g2=>?_;exact ke C x _ G R _ hw ((Ch.trans s s2.tab c2 c3).less g1) g2
end
end WL
namespace SX
open PySem PySem.W PyProof.Rows
def Ao(p:Array Nat)(k:Nat):p.getD k 0=(p[k]?).getD 0:=by simp
def CL{p:Array Nat}{i j:Nat}(h:j<=p.size)(k:Nat):(rB p i j).getD k 0=if i<=k/\k<j then p.getD (i+j-1-k) 0 else p.getD k 0:=by rw[Ao,rB,getElem?_mirror_all h k,Ao,Ao];split<;>rfl
def Lk{p:Array Nat}{k d:Nat}(h:k<p.size)(a:d<=k)(i:Nat):(bubble p k d).getD i 0=if i=k-d then p.getD k 0 else if k-d<i/\i<=k then p.getD (i-1) 0 else p.getD i 0:=by
 rw[Ao,getElem?_bubble h d a i,Ao,Ao,Ao];split
 ·rfl
 ·split<;>rfl
structure a2H(lt:Nat->Nat->Bool):Prop where
 ir:∀a,lt a a=false
 tr:∀a b c,lt b a=false->lt c b=false->lt c a=false
 as:∀a b,lt a b=true->lt b a=false
section
variable{lt:Nat->Nat->Bool}{cmp:Nat->Nat->(Bool->gW->Prop)->gW->Prop}{N:Nat}{s:gW}
def Ho(lt:Nat->Nat->Bool)(p:Array Nat)(k:Nat):Prop:=∀i j,i<=j->j<k->lt (p.getD j 0) (p.getD i 0)=false
def FH(lt:Nat->Nat->Bool)(p:Array Nat)(k:Nat):Prop:=∀i j,i<=j->j<k->lt (p.getD i 0) (p.getD j 0)=false
def IB(N:Nat)(p:Array Nat):Prop:=∀k,p.getD k 0<N
def IB.rev{i j:Nat}(b:IB N p)(h:j<=p.size):IB N (rB p i j):=λk=>by rw[CL h];split<;>exact b _
def IB.bub{k d:Nat}(b:IB N p)(h:k<p.size)(c:d<=k):IB N (bubble p k d):=λi=>by
 rw[Lk h c];by_cases q:i=k-d
 ·rw[gN q];exact b _
 ·rw[gM q];by_cases a:k-d<i/\i<=k
  ·rw[gN a];exact b _
  ·rw[gM a];exact b _
def B5{i j:Nat}:(rB p i j).Perm p:=mirror_perm _ _ _ _
variable(L:a2H lt)(hc:∀i j (C:Bool->gW->Prop),i<N->j<N->C (lt i j) s->cmp i j C s)
include L hc
def M6(b:IB N p):∀(f n:Nat) {Q:Nat->gW->Prop},1<=n->Ho lt p n->(∀m,n<=m->m<=n+f->Ho lt p m->(m<n+f->lt (p.getD m 0) (p.getD (m-1) 0)=true)->Q m s)->lM cmp (kas_asc p f n) Q s:=by
 intro g
 induction g with
 |zero=>intro n Q h a k;exact k n (gQ _) (gQ _) a<|λz=>hV z<|jQ _
 |succ f c =>
  intro n Q h a k;refine hc _ _ _ (b _) (b _) ?_
  cases e:lt (p.getD n 0) (p.getD (n-1) 0) with
  |true=>exact k n (gQ _) q0a a λ_=>e
  |false =>
   refine c (n+1) q0a (λi j d t=>?_) λm u v l o=>k m q0a q0a l λz=>o q0a;by_cases q:j=n
   ·subst q;by_cases r:i=j
    ·rw[r];exact L.ir _
    ·exact L.tr _ _ _ (a i (j-1) q0a q0a) e
   ·exact a i j d q0a
omit hc in
set_option tactic.hygienic true in
def Vm{p:Array Nat}{n q:Nat}(m:q+1<=n)(d:n<=p.size)(f:FH lt p n)(c:∀k,n-(q+1)<=k->k<n->lt (p.getD (n-1) 0) (p.getD k 0)=false)(k:Nat) :
  lt ((rB p (n-(q+1)) n).getD k 0) (p.getD k 0)=false/\lt (p.getD k 0) ((rB p (n-(q+1)) n).getD k 0)=false:=by
 rw[CL d];split
 ·rename_i h
  have e:∀a b,n-(q+1)<=a->a<n->n-(q+1)<=b->b<n->lt (p.getD a 0) (p.getD b 0)=false:=λa b o r g l =>
   L.tr _ (p.getD (n-1) 0) _ (c b g l) (f a (n-1) q0d q0d)
  exact#[e _ _ q0d q0d h.1 h.2,e _ _ h.1 h.2 q0d q0d]
 ·exact#[L.ir _,L.ir _]
omit hc in
def M7{p:Array Nat}{n q m:Nat}(c:q+1<=n)(d:n<=p.size)(f:FH lt p n)(a:∀k,n-(q+1)<=k->k<n->lt (p.getD (n-1) 0) (p.getD k 0)=false)(g:FH lt p m):FH lt (rB p (n-(q+1)) n) m:=λi j b h=>by have e:=Vm L c d f a;exact L.tr _ _ _ (L.tr _ _ _ (e j).2<|g i j b h) (e i).1
omit hc in
def EK{n:Nat}(d:1<=n)(b:FH lt p n)(h:lt (p.getD (n-1) 0) (p.getD n 0)=false):FH lt p (n+1):=λi j a e=>by
 by_cases q:j=n
 ·subst q;by_cases c:i=j
  ·rw[c];exact L.ir _
  ·exact L.tr _ _ _ h<|b i (j-1) q0a q0a
 ·exact b i j a q0a
def Ru:∀(f:Nat)(p:Array Nat)(n q:Nat) {Q:Array Nat×Nat×Nat->gW->Prop},IB N p->q+1<=n->n+f<=p.size->FH lt p n->(∀k,n-(q+1)<=k->k<n->lt (p.getD (n-1) 0) (p.getD k 0)=false) ->
  (∀a m d,a.Perm p->a.size=p.size->IB N a->d+1<=m->n<=m->m<=n+f->FH lt a m->(∀k,m-(d+1)<=k->k<m->lt (a.getD (m-1) 0) (a.getD k 0)=false)->Q (a,m,d) s)->lM cmp (kas_desc f p n q) Q s:=by
 intro F
 induction F with
 |zero=>intro p n q Q b w G h c k;exact k p n q (.refl _) rfl b w (gQ _) (gQ _) h c
 |succ f g =>
  intro p n q Q b w G h c k;refine hc _ _ _ (b _) (b _) ?_
  cases e:lt (p.getD n 0) (p.getD (n-1) 0) with
  |true =>
   have y:=EK L q0a h<|L.as _ _ e
   have A:∀{x:Array Nat},∀k,n+1-(0+1)<=k->k<n+1->lt (x.getD (n+1-1) 0) (x.getD k 0)=false:=λ{x} k H I=>by
    have:k=n+1-1:=by lia
    rw[this];exact L.ir _
   split
   ·refine g _ (n+1) 0 (b.rev q0a) q0a (by rw[m8];lia) (M7 L w q0a h c y) A λa m d l o r t B D u v=>k a m d (l.trans B5) (o.trans<|m8 _ _) r t q0a q0a u v
   ·exact g p (n+1) 0 b q0a q0a y A λa m d l o r t B D u v=>k a m d l o r t q0a q0a u v
  |false =>
   refine hc _ _ _ (b _) (b _) ?_
   cases J:lt (p.getD (n-1) 0) (p.getD n 0) with
   |true=>exact k p n q (.refl _) rfl b w (gQ _) q0a h c
   |false =>
    refine g p (n+1) (q+1) b q0a q0a (EK L q0a h J) (λE H I=>?_) λa m d l o r t B D u v=>k a m d l o r t q0a q0a u v;have M:n+1-1=n:=by lia
    rw[M];by_cases z:E=n
    ·rw[z];exact L.ir _
    ·exact L.tr _ _ _ (c E q0a q0a) e
def JB{n a:Nat}(b:IB N p)(e:1<=n)(o:n<=a)(q:a<=p.size)(f:FH lt p n)
 (k:∀m c,c.Perm p->c.size=p.size->IB N c->1<=m->m<=a->Ho lt c m->Q (m,c) s):lM cmp (kas_tail3 n a p) Q s:=by
  unfold kas_tail3
  rw[nw]
  have d:n<=p.size:=by omega
  refine M6 L hc (b.rev d) _ n e (λi j g h=>?_) λm r t l _=>k m _ B5 (m8 _ _) (b.rev d) q0d q0d l
  rw[CL d,CL d,gN #[i9 _,h],gN #[i9 _,q0d]]
  exact f _ _ q0d q0d
def Rv{n a:Nat}(b:IB N p)(A:1<=n)(B:n+1<=a)(D:a<=p.size)(w:FH lt p (n+1))
 (k:∀m d,d.Perm p->d.size=p.size->IB N d->1<=m->m<=a->Ho lt d m->Q (m,d) s):lM cmp (kas_descPart n a p) Q s:=by
  unfold kas_descPart
  rw[nw]
  refine Ru L hc _ p (n+1) 0 b q0a q0a w (λx E F=>?_) λd m G t u v y H I e z=>?_
  · have : x = n+1-1 := by lia
    rw[this];exact L.ir _
  · dsimp only
    split
    · exact JB L hc (v.rev q0a) q0a q0a (by rw[m8]; lia) (M7 L y q0a e z e) λf c g h l o q r => k f c ((g.trans B5).trans t) ((h.trans<|m8 _ _).trans u) l o q r
    · exact JB L hc v q0a q0a q0a e λf c g h l o q r => k f c (g.trans t) (h.trans u) l o q r
set_option tactic.hygienic true in
def Oy{d:Nat}(b:IB N p)(P:1<=d)(B:d<=p.size)
 (k:∀m f,f.Perm p->f.size=p.size->IB N f->1<=m->m<=d->Ho lt f m->Q (m,f) s):lM cmp (kas_count d p) Q s:=by
  unfold kas_count
  rw[nw]
  refine M6 L hc b _ 1 (gQ _) (λi j g v=>?_) λn w R o D=>?_
  · have r : i = 0 := by lia
    have h:j=0:=by lia
    rw[r,h];exact L.ir _
  · by_cases e : n = d
    · rw[gN<|by rw[e]; simp]
      exact k n p (.refl _) rfl b w q0a o
    · rw[gM<|by simp[e]]
      have x:=D q0a
      split
      · rename_i S
        refine hc _ _ _ (b _) (b _) ?_
        cases h:lt (p.getD 0 0) (p.getD (n-1) 0) with
        |true=>exact k n p (.refl _) rfl b w q0a o
        |false =>
          have t:n<=p.size:=by lia
          refine Rv L hc (b.rev t) q0a q0a (by rw[m8];lia) (λi j g v=>?_) λE u y F G H I J=>k E u (y.trans B5) (F.trans<|m8 _ _) G H I J
          have l:∀a c,a<n->c<n->lt (p.getD a 0) (p.getD c 0)=false:=λa c M y=>L.tr _ _ _ (L.tr _ _ _ (o c (n-1) q0a q0a) h)<|o 0 a (i9 _) M
          rw[CL t i,CL t j]
          by_cases q:j<n
          · rw[gN #[i9 _, by lia], gN #[i9 _, q]]
            exact l _ _ q0a q0a
          · have O : j = n := by lia
            rw[gM (c:=0<=j/\j<n) λz=>q z.2]
            by_cases A:i<n
            · rw[gN #[i9 _, A], O]
              exact L.tr _ _ _ (L.as _ _ x)<|l _ _ q0a q0a
            · rw[gM λz => A z.2, show i = j by lia]
              exact L.ir _
      · refine Rv L hc b q0a q0a B (EK L q0a (λi j g v => ?_)<|L.as _ _ x) k
        have r:i=0:=by lia
        have h:j=0:=by lia
        rw[r,h];exact L.ir _
def Oz{k:Nat}(b:IB N p)(q:Ho lt p k):∀(f l r:Nat) {Q:Nat->gW->Prop},r-l<=f->l<=r->r<=k->(∀i,i<l->lt (p.getD k 0) (p.getD i 0)=false)->(∀i,r<=i->i<k->lt (p.getD k 0) (p.getD i 0)=true) ->
  (∀h,h<=k->(∀i,i<h->lt (p.getD k 0) (p.getD i 0)=false)->(∀i,h<=i->i<k->lt (p.getD k 0) (p.getD i 0)=true)->Q h s)->lM cmp (um p k f l r) Q s:=by
 intro t
 induction t with
 |zero=>intro l r Q u o a m n d;exact d l q0d m λi z=>n i q0d
 |succ f g =>
  intro l r Q u o a m n d;show lM cmp (if l>=r then KasT.ret l else KasT.ask (p.getD k 0) (p.getD ((l+r) / 2) 0) λc=>if c=true then um p k f l ((l+r) / 2) else um p k f ((l+r) / 2+1) r) Q s;split
  ·exact d l q0d m λi z=>n i q0d
  ·refine hc _ _ _ (b _) (b _) ?_
   cases e:lt (p.getD k 0) (p.getD ((l+r) / 2) 0) with
   |true =>
    refine g l ((l+r) / 2) q0d q0d q0d m (λi v w=>?_) d
    cases x:lt (p.getD k 0) (p.getD i 0) with
    |true=>rfl
    |false=>rw[L.tr _ _ _ (q ((l+r) / 2) i v w) x]at e;cases e
   |false =>
    refine g ((l+r) / 2+1) r q0d q0d a (λi z=>?_) n d;exact L.tr _ _ _ (q i ((l+r) / 2) q0d q0d) e
def Vn:∀(f:Nat)(p:Array Nat)(k:Nat) {Q:Array Nat->gW->Prop},IB N p->k+f<=p.size->Ho lt p k->(∀d,d.Perm p->Ho lt d (k+f)->Q d s)->lM cmp (kas_bin f p k) Q s:=by
 intro t
 induction t with
 |zero=>intro p k Q b u c g;exact g p (.refl _) c
 |succ f h =>
  intro p k Q b u c g;show lM cmp ((um p k k 0 k).bind λl=>kas_bin f (bubble p k<|k-l)<|k+1) Q s;rw[nw];refine Oz L hc b c k 0 k q0a q0a (gQ _) (λi z=>hV z q0a) (λi D v=>hV v q0a) λl E w x=>?_;have a:k<p.size:=by lia
  have m:k-l<=k:=by lia
  have y:k-(k-l)=l:=by lia
  refine h _ (k+1) (b.bub a m) (by rw[bubble_size];lia) (λi j n F=>?_) λd A B=>g d (A.trans<|bubble_perm _ _ _) (by rw[show k+(f+1)=k+1+f by lia];exact B);rw[Lk a m,Lk a m,y];by_cases o:j=l
  ·rw[gN o];by_cases e:i=l
   ·rw[gN e];exact L.ir _
   ·rw[gM e,gM q0a];exact w i q0a
  ·rw[gM o];by_cases q:l<j/\j<=k
   ·rw[gN q];by_cases e:i=l
    ·rw[gN e];exact L.as _ _<|x (j-1) q0a q0a
    ·rw[gM e];by_cases r:l<i/\i<=k
     ·rw[gN r];exact c _ _ q0a q0a
     ·rw[gM r];exact c _ _ q0a q0a
   ·rw[gM q,gM q0a,gM q0a];exact c _ _ n q0a
set_option tactic.hygienic true in
def Rx{n:Nat}(p:1<=n)(u:n<=N)(d:∀a,a.Perm (ik n).toArray->Ho lt a n->Q a s):lM cmp (kas_sort n) Q s:=by
 unfold kas_sort;rw[nw];have e:(ik n).toArray.size=n:=by simp
 have b:IB N (ik n).toArray:=λk=>by
  rw[Ao];simp only[List.getElem?_toArray,List.getElem?_range'];by_cases h:k<n
  ·simp[tV h];lia
  ·simp[kC (l:=ik n)<|by simpa using h];lia
 refine Oy L hc b p (by rw[e];exact gQ _) λm a f q r v w g=>?_;split
 ·rename_i h
  refine Vn L hc _ a (max m 1) r (by rw[q,e];lia) (by rw[show max m 1=m by lia];exact g) λc t o=>d c (t.trans f) (by rw[show max m 1+(n-max m 1)=n by lia]at o;exact o)
 ·exact d a f (by rw[show n=m by lia];exact g)
end
open PySem.Spec
noncomputable def IC(p q:Int×Int):Bool:=decide (p.1<q.1)||(p.1==q.1&&decide (p.2<q.2))
def EL:IC p q=false↔q.1<p.1\/(q.1=p.1/\q.2<=p.2):=by unfold IC;simp only[Bool.or_eq_false_iff,Bool.and_eq_false_iff,decide_eq_false_iff_not,beq_eq_false_iff_ne];omega
def a0N:IC p q=true↔p.1<q.1\/(p.1=q.1/\p.2<q.2):=by unfold IC;simp only[Bool.or_eq_true,iJ,iU,beq_iff_eq]
def xv(h:iM)(v:cr)(p:Int×Int):Prop:=∃x o t u n,v=.ref x/\h.get? x=↑o/\o.cls=.type "tuple"/\o.data=.seq #v[.int p.1 t,.int p.2 u] n
def Vo{x y:cr}{p q:Int×Int}{Q:Bool->gW->Prop}(hx:xv s.heap x p)(hy:xv s.heap y q)(h:Q (IC p q) s):gZ (g8 prog w) A (keyLt' (tuples' true) x y) Q E s:=by
 obtain⟨a,o,t,u,n,rfl,h1,h2,h3⟩:=hx;obtain⟨b,o',t',u',n',rfl,k1,k2,k3⟩:=hy;refine PySem.W.kat_lt h1 h3 k1 k3<|tX<|rK<|uC (λe=>uo<|tX<|rK<|uC (λe2=>uo<|PySem.W.kat_nil ?_) λe2=>uD<|PySem.W.kat_one _ _<|wpAny_lt_int ?_) λe=>uD<|oneLt_int ?_
 ·have e1:=eq_of_beq e;have e2:=eq_of_beq e2;have:IC p q=false:=EL.mpr<|.inr #[e1.symm,Int.le_of_eq e2.symm];rw[this]at h;exact h
 ·have e1:=eq_of_beq e;have:IC p q=decide (p.2<q.2):=by unfold IC;rw[e1];simp
  rw[this]at h;exact h
 ·have:IC p q=decide (p.1<q.1):=by unfold IC;rw[e];simp
  rw[this]at h;exact h
def xv.keep{h a:iM}(k:∀b o,h.get? b=↑o->o.cls=.type "tuple"->a.get? b=↑o)(z:xv h v p):xv a v p:=by obtain⟨x,o,t,u,n,e,d,c,f⟩:=z;exact#[x,o,t,u,n,e,k x o d c,c,f]
def EM{h a:iM}(k:∀b o,h.get? b=↑o->o.cls=.type "tuple"->a.get? b=↑o):∀{c:List cr} {d:List (Int×Int)},Paired (xv h) c d->Paired (xv a) c d:=by
 intro _ _ z
 induction z with
 |nil=>exact .nil
 |cons h t e=>exact .cons (h.keep k) e
def EN:∀{d:List cr} {e:List (Int×Int)},Paired (xv h) d e->∃c,PySem.W.KatTups h d c/\c.length=d.length/\∀v∈c,∃i t,v=lN i t
 |_,_,.nil=>#[[],PySem.W.KatTups.nil,rfl,λ_ z=>hV z ja]
 |_,_,.cons a b=>by
  refine e1a3 (EN b) λc f g j=>?_;obtain⟨x,o,t,u,n,rfl,k,l,m⟩:=a;refine#[_::c,#[#[x,o,_,n,rfl,k,l,m,rfl],f],by simp[g],λv p=>?_];rcases List.mem_cons.mp p with z|z
  ·exact#[_,_,z]
  ·exact j v z
def Gi:∀{c:List cr} {d:List (Int×Int)},Paired (xv h) c d->∀i,i<c.length->xv h (c.getD i .none) (d.getD i (0,0)):=by
 intro _ _ z
 induction z with
 |nil=>intro i z;exact hV z<|Nat.not_lt_zero _
 |cons a b e =>
  intro i z
  cases i with
  |zero=>exact a
  |succ i=>simpa using e i (by simpa using z)
def Ll{d:List cr}{n:Nat}(D:s.heap.get? a=↑(mw "list" d.toArray n))(hp:Paired (xv s.heap) d m)(I:d.length<64)
 (h:∀J:List Nat,J.Perm (ik d.length)->(J.map λi=>m.getD i (0,0)).Pairwise (λx y=>IC y x=false)->P (.done<|.ret .none) { s with heap:=sortedHeap s.heap a d (J.map λi=>d.getD i .none).toArray}):gZ (g8 U w) A (Builtin.«list.sort» #[[.ref a],[]]) P E s:=by
  rw[list_sort_plain]
  have sl:(64:Nat)<=gS:=by rw[iY];decide
  have hz:d.length<=gS:=by lia
  refine am<|listItems_at D rfl<|am<|tY D rfl ?_ (hsz:=by simpa using hz)
  obtain⟨L,X⟩:∃L,(s.heap.update a<|Obj.mapSeq λ_=>#v[]).get? a=some (mw "list" #v[] L):=#[_,get?_update_seq D _]
  refine am<|seqEpoch_at X rfl<|am<|wpAny_newTuple<|am<|tU<|iD ?_
  have F:(((s.heap.update a<|Obj.mapSeq λ_=>#v[]).push<|mw "tuple" d.toArray 0).push<|mw "list" #v[] 0).get? a=↑(mw "list" #v[] L):=ce _<|ce _ X
  have g:Paired (xv<|((s.heap.update a<|Obj.mapSeq λ_=>#v[]).push<|mw "tuple" d.toArray 0).push<|mw "list" #v[] 0) d m:=EM (λb o z c=>ce _<|ce _<|(iE _ _ (λq=>by rw[<- q,D]at z;cases z;have c:j4 "list"=j4 "tuple":=c;injection c with c;exact hV c q0q)).trans z) hp
  have sz:d.toArray.size=d.length:=by simp
  by_cases Y:d.length<2
  · rw[gN q0a, gN q0a]
    refine am<|ap<|am<|ap ?_
    refine am<|seqEpoch_at F rfl<|am<|tY F rfl ?_ (hsz2:=by simp[SortSt.mk',arrOf];lia)
    have key:=h (ik d.length) (.refl _) (by
      rcases d with _|⟨v,_|⟨v2,r⟩⟩
      · simp
      · simp
      · simp at Y; lia)
    have e:((ik d.length).map λi=>d.getD i .none).toArray=Array.map (λx=>x.snd) (d.toArray.zip d.toArray):=by
      rcases d with _|⟨v,_|⟨v2,r⟩⟩
      · simp
      · simp
      · simp at Y; lia
    rw[e]at key
    simp only[rq,kZ,pr]
    exact ap key
  rw[gM q0a,gM q0a]
  refine e1a3 (EN g) λfs f1 f2 f3=>?_
  refine am<|PySem.W.kat_kind (T:=.type "int") f1 q0a (λv hv=>?_) q0q ?_
  · obtain⟨i, t, rfl⟩ := f3 v hv
    exact PySem.W.Looks.now
  refine am (jb (PySem.W.kat_run (ks:=d) (vs:=d) (κ:=tuples' true) rfl q0a I (Q:=λf u=>∃p:Array Nat,p.size=d.length/\arrOf f=Array.map (PySem.W.kas_item (d.toArray.zip d.toArray)) p/\failedOf f=none/\u={ s with heap:=((s.heap.update a (Obj.mapSeq λ_=>#v[])).push (mw "tuple" d.toArray 0)).push (mw "list" #v[] 0)}/\p.toList.Perm (ik d.length)/\(p.toList.map λi=>m.getD i (0,0)).Pairwise (λx y=>IC y x=false))
    (G:=λp u=>u={ s with heap:=((s.heap.update a (Obj.mapSeq λ_=>#v[])).push (mw "tuple" d.toArray 0)).push (mw "list" #v[] 0)}/\p.toList.Perm (ik d.length)/\(p.toList.map λi=>m.getD i (0,0)).Pairwise (λx y=>IC y x=false)) (λp f u M O R q4=>#[p,M,O,R,q4]) ?_) ?_ λ_ _ z=>z)
  rotate_left
  · rintro⟨⟨⟩, f⟩ u ⟨p, M, O, R, rfl, g1, g2⟩
    have Z:=PySem.W.kat_snds (vs:=d) (ks:=d) rfl O
    refine am<|seqEpoch_at F rfl<|am<|tY F rfl ?_ (hsz2:=by rw[Z];simp[M];lia)
    rw[R]
    simp only[rq,kZ,pr]
    rw[Z]
    exact ap<|h _ g1 g2
  · refine Rx (N := d.length) (lt := λi j => IC (m.getD i (0, 0))<|m.getD j (0, 0)) ⟨λa => ?_, λa b c z1 z2 => ?_, λa b z => ?_⟩ (λi j C H B k => ?_) q0a (gQ _) λl c1 c2 => #[rfl, ?_, ?_]
    · exact EL.mpr<|.inr #[rfl, ou _]
    · have z1 := EL.mp z1
      have z2:=EL.mp z2
      exact EL.mpr q0a
    · have z := a0N.mp z
      exact EL.mpr q0a
    · exact Vo (Gi g i H) (Gi g j B) k
    · have := c1.toList
      simpa using this
    · rw[List.pairwise_iff_getElem]
      intro i j H B S
      have hl:l.size=d.length:=by have:=c1.size_eq;simpa using this
      have q:=c2 i j (lU S) (by simpa[hl] using B)
      have gi:l.getD i 0=l.toList[i]'(by simpa using H):=by
        have:i<l.size:=by simpa using H
        simp[Array.getD,this]
      have gj:l.getD j 0=l.toList[j]'(by simpa using B):=by
        have:j<l.size:=by simpa using B
        simp[Array.getD,this]
      rw[uP,uP,<- gi,<- gj]
      exact q
def Hq{a:List cr}(u:s.heap.IsList l a.toArray)(v:Paired (xv s.heap) a B)(f:a.length<64)
 (h:∀j C r (d:List Nat),⇑s<=r->d.Perm (ik a.length)->(d.map λi=>B.getD i (0,0)).Pairwise (λx y=>IC y x=false)->(∃n,j.get? r=some { cls:=.type "list",data:=.seq (d.map λi=>a.getD i .none).toArray n})->(∀c o,s.heap.get? c=↑o->j.get? c=↑o)->Q (.ref r) { s with heap:=j,toks:=C}) :
    gZ (g8 t w) A (call (.builtin "sorted") [.ref l]) Q E s:=by
  refine rG kind_sorted plain_sorted entry_sorted (args_sorted1 _) ?_
  have sl:(64:Nat)<=gS:=by rw[iY];decide
  refine am (m:=checkCount "sorted" 1 1 _)<|ap<|am<|collect_list u ?_ q0d
  have e:∀c o,s.heap.get? c=↑o->((s.heap.push<|mw "list" #v[] 0).update ⇑s<|Obj.mapSeq λx=>x++a.toArray).get? c=↑o:=λc o q=>(iE _ _<|jj<|gX q).trans<|ce _ q
  have sz:⇑s<=((s.heap.push<|mw "list" #v[] 0).update ⇑s<|Obj.mapSeq λx=>x++a.toArray).objs.size:=by rw[oG,tj];exact lP _
  generalize ((s.heap.push<|mw "list" #v[] 0).update ⇑s<|Obj.mapSeq λx=>x++a.toArray)=k at e sz ⊢
  refine am<|tU ?_
  have p:(k.push<|mw "list" a.toArray 0).get? k.objs.size=↑(mw "list" a.toArray 0):=hI _ rfl
  refine am<|iD<|iT slot_list_sort ⟨_,p,rfl⟩ entry_list_sort (Ll p (EM (λb o z _=>ce _<|e b o z) v) f λd D F=>#[_,rfl,?_])<|args_list_sort _
  obtain⟨G,H⟩:=sortedHeap_at (out:=(d.map λi=>a.getD i .none).toArray) p
  refine ap #[_,rfl,h _ s.toks k.objs.size d sz D F #[G,by simpa using H] λc o g=>?_]
  have lt:=gX<|e c o g
  rw[sortedHeap_old (hR lt)<|by rw[tj];exact ot lt]
  exact ce _<|e c o g
end SX
namespace L2
open PySem PySem.Spec PyProof.Rows SX
def range_getD(l:List a)(d:a):(ik l.length).map (λi=>l.getD i d)=l:=by refine List.ext_getElem q0o λi c b=>?_;simp[List.getD,b]
def Gj(h:Paired R c k):∀{b:List Nat},(∀i∈b,i<c.length)->Paired R (b.map λi=>c.getD i d) (b.map λi=>k.getD i e):=by
 have g:∀i,i<c.length->R (c.getD i d) (k.getD i e):=by
  induction h with
  |nil=>exact λi z=>hV z<|Nat.not_lt_zero _
  |cons a _ f =>
   intro i z
   cases i with
   |zero=>exact a
   |succ i=>simpa using f i (by simpa using z)
 intro b
 induction b with
 |nil=>exact λ_=>.nil
 |cons i r f=>exact λz=>.cons (g i<|z i gR)<|f λj l=>z j<|gU _ l
def pairs_at(I:Inv X g B H s):∀{i:List V} {d:List cr} {f:List (Int×Int)},Vals i d->Paired (λ(v:V)(p:Int×Int)=>∃t,v=.ref t/\H t=↑(.tup [.int p.1,.int p.2])) i f->Paired (xv s.heap) d f:=by
 intro _ _ f z
 induction z generalizing f with
 |nil=>intro w;cases w;exact .nil
 |cons r C j=>intro w;cases w with|cons q k =>
  refine e1a2 q λt e h=>?_;subst e;obtain rfl:=r;obtain⟨d,l,⟨o,m,u,n,x⟩,_⟩:=I.tuple<|yZ.of h
  cases l with|cons a b =>
  cases b with|cons b c =>
  cases c;obtain⟨y,rfl⟩:=a;obtain⟨A,rfl⟩:=b;exact .cons #[t,o,y,A,n,rfl,m,u,x]<|j k
def Hr:yM X (.builtin "sorted") (λm H Q=>∃(a:ci)(c:List V) (j:List (Int×Int)),m=[.ref a]/\wo X.K H a c/\Paired (λ(v:V)(p:Int×Int)=>∃t,v=.ref t/\H t=↑(.tup [.int p.1,.int p.2])) c j/\c.length<64 /\
  ∀(l:ci)(b:List Nat),H l=none->b.Perm (ik c.length)->(b.map λi=>j.getD i (0,0)).Pairwise (λx y=>IC y x=false)->Q (.ref l) (upd H l (.lst (b.map λi=>c.getD i .wF)))):=by
 intro w s R H m c Q I r h;obtain⟨a,f,j,rfl,A,B,C,q⟩:=h;obtain⟨u,rfl,D⟩:=vals1 r;cases D;refine e1a3 (I.list A) λd k E S=>?_;have F:f.length=d.length:=k.length;refine Hq E.isList (pairs_at I k B) q0d λT G r b z g J L M=>?_;obtain⟨n,e⟩:=L;rw[<- F]at g;have N:∀i∈b,i<f.length:=λi O=>by simpa using g.subset O
 have P:b.length=f.length:=by simpa using g.length_eq
 exact#[.ref r,_,I.laid (t':=G) (o:=.lst<|b.map λi=>f.getD i .wF) M z #[by rw[gV,P];omega,b.map λi=>d.getD i .none,n,Gj k N,e],rfl,q r b (I.vK.fresh z) g J]
end L2
namespace WL
variable[L2.GX]
open PySem L2 SX
open Rep (rp)
open Ow (sl)
open Sls (rel)
section
variable{D:Type}[Sls D]
def OA:∀{a:List d} {b:List V},Paired R a b->Paired (λv x=>R x v) b a:=by
 intro _ _ z
 induction z with
 |nil=>exact .nil
 |cons h t c=>exact .cons h c
def JC{a b:Type}{R S:a->b->Prop}(h:∀x y,R x y->S x y):∀{c:List a} {d:List b},Paired R c d->Paired S c d:=λz=>L2.Paired.Xa z h
def Lm(C:Gl X "sorted")(G:X.mg "sorted"=none)(I:ER X E T a J)(m:gP [a] X.env=(false,eval a X.env)::gP [] X.env:=by rfl) :
  EO X E T (.Call (.Name "sorted" p) [a] [] pos) (λ(d:D) (n:OL (Int×Int)->D->Prop) c=>J d (λg b=>(g b).length<64/\∀f,f.Perm (g b)->f.Pairwise (λx y=>IC y x=false)->n #[f] b) c):=by
 refine e1a2 I λta L M=>?_;refine#[_,wJ Hr C G ku (uZ L vk m) (he:=m),λd F R N H n c Q s O P S=>M d F R N H _ c _ s O (λg b u o U W r Y h Z=>?_) S];obtain⟨q,A,rfl,h1,j⟩:=Z b o U W 61 h;have B:(g b).length=A.length:=j.length;refine#[_,A,g b,rfl,wo.of h1,JC (λv x z=>?_)<|OA j,by rw[<- B];exact r.1,λl ix hl k sn=>?_]
 ·obtain⟨t,u,w,rfl,_,e,e1,e2⟩:=z;exact#[t,rfl,by rw[e,e1,e2]]
 ·rw[<- B]at k;have lt:∀i∈ix,i<(g b).length:=λi hi=>by simpa using k.subset hi
  refine e1a3 (xH h hl<|Gj (d:=(0,0)) (e:=V.wF) j lt) λR' c3 s3 n3=>?_;exact P _ b _ _ o R' _ (r.2 _ (by have:=k.map<|λi=>(g b).getD i (0,0);rwa [range_getD]at this) sn) (Ch.trans s h.tab Y c3) s3 n3
def tw_trueR{h:Type}[Rep h]{i:Wf D (D->List h) D}(r:ER X E T a i)(t:∀b,qN a X.env b=(do let v <- b;mY a.pos;kO [v] (ur v)):=by intro _;rfl):TW X E T a (λ(d:D) j e=>i d (λg c=>j (!(g c).isEmpty) c) e):=by
 refine e1a2 r λL w x=>?_;refine#[_,IP w t,λd F R y H j e Q s z A B=>x d F R y H _ e _ s z (λg c u k m n C G o I=>?_) B];obtain⟨q,f,rfl,J,p⟩:=I c k m n 61 o;refine#[!f.isEmpty,.inl #[f,wo.of J,rfl],?_]
 have:f.isEmpty=(g c).isEmpty:=by generalize g c=l at p;cases p<;>rfl
 rw[this];exact A _ c k m n C G o
end
section
variable{D PO τ:Type}[Sls D][Sls PO][Ow τ]{α:Type}[Rep α]
def Ry(q:ID)(i:Nat)[Sls j][A:At i D (Bd C fl) j](l:q.ok fl)(n:AW X.K C)(o:vR X.K C q.nm)(t:X.A.units+1<kG)(u:PE X (.Name x b) (vC i))(w:EV X T a f)(m:M1 X (.Attribute (.Name x b) q.nm B) "get" apos a pos:=by exact#[rfl,rfl,rfl,rfl])(G:iG (.Name x b) q.nm X.env (eval (.Name x b) X.env)=eval (.Name x b) X.env:=by rfl) :
  EW X E T (.Call (.Attribute (.Attribute (.Name x b) q.nm B) "get" apos) [a] [] pos) (λ(d:D)(c:Option Int->D->Prop) _=>c (lk (q.get<|A.get d)<|f d) d):=by
 refine e1a2 w λU I J=>?_;refine#[_,P5 t (wU u G) I m,λd F R L H c W Q s M N Y=>?_];obtain⟨p,O,Z,e2,e3,e4,us,P,e,_,_⟩:=wA (i:=i) s;refine e1a4 (Al e q l) λy S h _ _=>?_;refine#[_,P,p,C,O,_,_,rfl,e.ob,n,o,S,y,rfl,.inl #[_,.inl h],J d F R L H _ s λv r=>?_];subst r;have g:=yf.k (k:=iu<|f d) h;rw[yy]at g;refine#[_,g,N _ d _ F R H M 61 s ?_]
 cases lk (q.get<|A.get d) (f d) with
 |none=>exact rfl
 |some z=>exact#[(λz=>by cases z),rfl]
def Rz(q:ID)(i:Nat)[Sls n][A:At i D (Bd C fl) n](o:q.ok fl)(t:AW X.K C)(u:vR X.K C q.nm)(w:X.A.units+1<kG)(B:PE X (.Name x c) (vC i))(G:EV X T a f)(I:EV X T b g)(m:M2 X (.Attribute (.Name x c) q.nm J) "get" apos a b pos:=by exact#[rfl,rfl,rfl,rfl])(L:iG (.Name x c) q.nm X.env (eval (.Name x c) X.env)=eval (.Name x c) X.env:=by rfl) :
  EW X E T (.Call (.Attribute (.Attribute (.Name x c) q.nm J) "get" apos) [a,b] [] pos) (λ(d:D)(e:Int->D->Prop) _=>e ((lk (q.get<|A.get d)<|f d).getD<|g d) d):=by
 refine e1a2 G λta M N=>?_;refine e1a2 I λtb O P=>?_;refine#[_,P6 w (wU B L) M O m,λd F R h H e Ke Q s S U ke=>?_];obtain⟨p,W,e1,e2,e3,e4,us,Y,j,_,_⟩:=wA (i:=i) s;refine e1a4 (Al j q o) λy Z l _ _=>?_;refine#[_,Y,p,C,W,_,_,rfl,j.ob,t,u,Z,y,rfl,.inl #[_,.inl l],N d F R h H _ s λv r=>P d F R h H _ s λv' r'=>?_];subst r r';have g:=yf.k (k:=iu<|f d) l;rw[yy]at g;refine#[_,g,U _ d _ F R H S 61 s ?_]
 cases lk (q.get<|A.get d) (f d) with
 |none=>exact rfl
 |some z=>exact rfl
def Vp(q:ID)(i:Nat)[Sls e][A:At i D (Bd C fl) e][U:Pt i e (Bd C fl) D](l:q.ok fl)(n:AW X.K C)(o:vR X.K C q.nm)(t:PE X (.Name x b) (vC i))(u:EV X T a f)(m:M1 X (.Attribute (.Name x b) q.nm w) "pop" apos a pos:=by exact#[rfl,rfl,rfl,rfl])(B:iG (.Name x b) q.nm X.env (eval (.Name x b) X.env)=eval (.Name x b) X.env:=by rfl) :
  EW X E T (.Call (.Attribute (.Attribute (.Name x b) q.nm w) "pop" apos) [a] [] pos) (λ(d:D)(g:Int->D->Prop) _=>∃v,lk (q.get<|A.get d) (f d)=↑v/\g v (U.put (A.hole d)<|q.set (A.get d)<|dk (q.get<|A.get d)<|f d)):=by
 refine e1a2 u λta G I=>?_;refine#[_,P7 (wU t B) G m,λd F R J H g Ke Q s L M ke=>?_];obtain⟨p,N,e1,e2,e3,e4,us,O,h,P,S⟩:=wA (i:=i) s;refine e1a4 (Al h q l) λy W j k Y=>?_;refine#[_,O,p,C,N,_,_,rfl,h.ob,n,o,W,y,rfl,.inl #[_,.inl j],I d F R J H _ s λv r=>?_];subst r;refine e1a2 L λz Z h2=>?_;refine#[_,iu<|f d,V.int z,j,rfl,(by rw[yy,Z];rfl),?_];rw[Jr];obtain⟨c,s'⟩:=S (U:=U) k<|Y (dk (q.get<|A.get d)<|f d)<|P _ k;exact M z _ _ F R _ h2 c s' rfl
def JD{R:Rg}{H:Hp}{y:α}:∀{xs:List α} {vs:List V},Paired (rp R H) (xs++[y]) vs->∃us u,vs=us++[u]/\Paired (rp R H) xs us/\rp R H y u:=by
 intro xs
 induction xs with
 |nil=>intro _ z;cases z with|cons h t=>cases t;exact#[[],_,rfl,.nil,h]
 |cons a xs ih =>
  intro _ z
  cases z with|cons h t =>
  obtain⟨us,u,rfl,h1,h2⟩:=ih t;exact#[_::us,u,rfl,.cons h h1,h2]
def M8(i:Nat){D0:Type}[Sls D0][A:At i D (OL α) D0][U:Pt i D0 (OL α) D](hn:PE X (.Name x p1) (vC i))(hb:PE X (.Call (.Attribute (.Name x p1) "pop" apos) [] [] pos) (ZK X.K "list" ZL<|vC i)) :
  EW X E T (.Call (.Attribute (.Name x p1) "pop" apos) [] [] pos) (λ(d:D)(Kn:α->D->Prop) _=>∃ys y,(A.get d).l=ys++[y]/\Kn y (U.put (A.hole d) #[ys])):=by
 refine#[_,hb,λd F R σ H Kn Ke Q s hw kn ke=>?_];refine e2a4 (BO (i:=i) s) λa vs g1 g2 g3 g4=>?_;refine e2a2 hw λys y e hk=>?_;rw[e]at g3;obtain⟨us,u,rfl,h1,h2⟩:=JD g3;obtain⟨c2,s2⟩:=g4 _ _ h1;refine#[_,g1,.inl #[rfl,_,wo.of g2],a,_,u,rfl,rfl,g2,q0o,?_];rw[List.dropLast_concat];exact kn y _ u F R _ hk c2 s2<|s.val c2 h2
def zt{R:Rg}{H:Hp}:∀{xs:List α} {vs:List V} (k:Nat),Paired (rp R H) xs vs->Paired (rp R H) (xs.eraseIdx k) (vs.eraseIdx k):=by
 intro _ _ k z
 induction z generalizing k with
 |nil=>exact .nil
 |cons h t ih=>cases k with
  |zero=>exact t
  |succ k=>exact .cons h<|ih k
def OB{a:iL}(i:Nat){D0:Type}[Sls D0][A:At i D (OL α) D0][U:Pt i D0 (OL α) D]{we:Wf D Int D}(hn:PE X (.Name x p1) (vC i))(h:EW X E T a we)
  (hb:∀{t:TA},PA X [a] t->PE X (.Call (.Attribute (.Name x p1) "pop" apos) [a] [] pos) (tBM X.K "list" PX (vC i) t)) (hs:gP [a] X.env=(false,eval a X.env)::gP [] X.env:=by rfl) :
  EW X E T (.Call (.Attribute (.Name x p1) "pop" apos) [a] [] pos) (λ(d:D)(Kn:α->D->Prop) Ke=>we d (λk d'=>0<=k/\∃y,(A.get d').l[k.toNat]?=↑y/\(A.get d').l.length<1000/\Kn y (U.put (A.hole d') #[(A.get d').l.eraseIdx k.toNat])) Ke):=by
 refine e1a2 h λt h1 h2=>?_;refine#[_,hb<|uZ h1 vk hs,λd F R σ H Kn Ke Q s hw kn ke=>?_];refine e2a4 (BO (i:=i) s) λa0 vs0 g1 g2 g3 _=>?_;refine#[_,g1,.inl #[rfl,vs0,wo.of g2],h2 d F R σ H _ _ _ s hw (λk d' v F' R' H' q c s' r=>?_) ke];subst r;refine e2a4 (BO (i:=i) s') λa' UJ k1 k2 k3 k4=>?_;rw[g1]at k1;cases k1;obtain⟨q0,y,e,ql,hk⟩:=q;refine e1a2 (wV k3 e) λu hu ru=>?_;have lt:=(List.getElem?_eq_some_iff.mp hu).1;have ll:=Paired.length k3;obtain⟨c2,s2⟩:=k4 _ _<|zt k.toNat k3;refine#[a0,UJ,k,k.toNat,u,rfl,rfl,k2,q0a,q0a,?_,hu,kn y _ u F' R' _ hk (Ch.trans s s'.tab c c2) s2<|s'.val c2 ru];have e0:(if k<0 then k+(UJ.length:Int) else k)=k:=gM q0a;show (if (decide (0<=(if k<0 then k+(UJ.length:Int) else k))&&decide ((if k<0 then k+(UJ.length:Int) else k)<(UJ.length:Int)))=true then some (if k<0 then k+(UJ.length:Int) else k).toNat else none)=_;rw[e0];have:(decide (0<=k)&&decide (k<(UJ.length:Int)))=true:=by simp;lia
 exact gN this
end
end WL
namespace L2
open PySem PySem.Spec PyProof.Rows SX
def YE(f:TE)(c:Int):TE:=λg H Q=>f g H λv d=>∃(a:ci) (b:List (Key×V)) (e:List Int),v=.ref a/\d a=↑(.dK b)/\b.map (·.1)=e.map iu/\∀p,d p=none->Q (.ref p) (upd d p<|.dK<|e.map λk=>(iu k,V.int c))
def stored_new:∀{l:List (Key×cr)},k∉l.map (·.1)->stored l k y=l++[(k,y)]
 |l,h=>by unfold stored;rw[gM];simp only[uL,iU,not_exists,not_and];exact λe a z=>h<|List.mem_map.mpr #[e,a,z]
def JE:∀{l:List k} {c:List m},Paired R c (l++[v])->∃b d,c=b++[d]/\Paired R b l/\R d v:=by
 intro e
 induction e with
 |nil=>intro _ z;cases z with|cons h t=>cases t;exact#[[],_,rfl,.nil,h]
 |cons a e f =>
  intro _ z
  cases z with|cons h t =>
  obtain⟨g,u,rfl,i,j⟩:=f t;exact#[_::g,u,rfl,.cons h i,j]
def AJ:∀{l:List c} {m:List d},l.length=m.length->(∀(j:Nat)(k:c)(v:d),l[j]?=↑k->m[j]?=↑v->R k v)->Paired R l m
 | [],[],_,_=>.nil
 | [],_::_,h,_=>by cases h
 |_::_,[],h,_=>by cases h
 |a::l,b::m,h,f=>.cons (f 0 a b rfl rfl)<|AJ (ni h) λj k v e g=>f (j+1) k v e g
def JF{c:Int}:∀{a:List Int} {r:List (Key×cr)},r.map (·.1)=a.map iu->(∀e∈r,∃t,e.2=.int c t)->KV (a.map λk=>(iu k,V.int c)) r
 | [],[],_,_=>.nil
 | [],_::_,h,_=>by cases h
 |_::_,[],h,_=>by cases h
 |k::a,e::r,h,f=>by rw[im,im]at h;injection h with b d;obtain⟨t,g⟩:=f e gR;exact .cons #[b.symm,t,g]<|JF d λi j=>f i<|gU _ j
def Lo{P:iB}{w:iR}(g:∀v k,i v k->zS k v=true)(h:StoredAll i j l r):∀{a:List Key},Paired (λk v=>zS k v=true) a l->a.Nodup->r.map (·.1)=a/\∀e∈r,∃v,j v e.2:=by
 induction h with
 |nil=>intro a c _;cases c;exact#[rfl,λ_ z=>by cases z]
 | @snoc l r v k y _ m n o =>
  intro a c p;obtain⟨q,d,rfl,s,t⟩:=JE c;have u:k=d:=(vA P w).inj v k d (g v k m) t;subst u;have b:=List.nodup_append.mp p;obtain⟨f,x⟩:=o s b.1;have A:k∉r.map (·.1):=λz=>by rw[f]at z;exact b.2.2 k z k q0o rfl
  rw[stored_new A,j7,f];refine#[rfl,λe B=>?_];rcases List.mem_append.mp B with z|z
  ·exact x e z
  ·rw[List.mem_singleton.mp z];exact#[v,n]
def RA(af:X.calm=true)(hi:PE X iter ti)(E:oB d X.env=pure [])(F:∀y∈d.names,y.2≠.cell)(f:d.kind=.function)(p:∀y∈d.names,y.2=.local->d.names.lookup y.1=some .local)(hx:d.names.lookup x=some .local)(hd:(x==("__debug__":Str))=false:=by decide)
 (hs:∀x,kh iter X.env x=pure x:=by intro _;rfl):PE X (.DictComp (.Name x q1) (.Constant (.int c) j q2) [#[.Name x px,iter,[],0]] d pos) (YE ti c):=by
  intro u s σ H Q I h
  have hh:X.A.handled=none:=I.ok.hd af
  rw[arm_eval_DictComp]
  refine o7 (use:=none) rfl hs E f p<|vI (hi u s σ H _ I h) λv l z9=>e2a3 z9 λx1 H1 I1 r1 N=>e3a4 N λa r O e1 ha G q=>?_
  subst e1
  obtain rfl:v=h8 a:=r1
  obtain⟨hz,S,m,kv,v7⟩:=I1.vK a _ ha
  obtain⟨B,D⟩:=v7.dictAt
  have alt:a<⇑l:=D.lt_size
  refine wpAny_pyIter_dict S D ?_
  -- the M ah at n,the dict at n+1,the frame at n+2
  have u0:∀b o,l.heap.get? b=↑o->(l.heap.push { cls:=.type "dict_keyiterator",data:=.fields #v[.ref a,.int 0 0,.int m.length 0,.int B 0]}).get? b=↑o:=λb o e=>ce _ e
  have i0:Heap.IsKeyIter (l.heap.push { cls:=.type "dict_keyiterator",data:=.fields #v[.ref a,.int 0 0,.int m.length 0,.int B 0]}) ⇑l a 0 m.length B:=#[_,hI _ rfl,rfl,rfl]
  have z0:(l.heap.push { cls:=.type "dict_keyiterator",data:=.fields #v[.ref a,.int 0 0,.int m.length 0,.int B 0]}).objs.size=⇑l+1:=jB _ _
  generalize l.heap.push { cls:=.type "dict_keyiterator",data:=.fields #v[.ref a,.int 0 0,.int m.length 0,.int B 0]}=g at u0 i0 z0 ⊢
  refine iK<|wpAny_newFunctionEnv F (λy hy=>by cases hy) (λJ T U=>?_) f
  have d1:(g.push { cls:=.type "dict",dict:=none,data:=.dict #v[]}).DictOf (vA X.prog X.w) g.objs.size []:=sG g
  have u1:∀b o,g.get? b=↑o->(g.push { cls:=.type "dict",dict:=none,data:=.dict #v[]}).get? b=↑o:=λb o e=>ce _ e
  have z1:(g.push { cls:=.type "dict",dict:=none,data:=.dict #v[]}).objs.size=g.objs.size+1:=jB _ _
  generalize g.push { cls:=.type "dict",dict:=none,data:=.dict #v[]}=g1 at d1 u1 z1 T U ⊢
  have u2:∀b o,g1.get? b=↑o->J.get? b=↑o:=λb o e=>U.extBut b o (hR<|gX e)<|ce _ e
  have c1:g.objs.size≠g1.objs.size:=by lia
  have n1:∀b∈[⇑l,a],b<g.objs.size:=λb hb=>by
    rcases List.mem_cons.mp hb with z|z
    · rw[z, z0]; exact jw _
    · rw[List.mem_singleton.mp z, z0]; exact ot alt
  have W:=Walks.dictKeys (prog:=X.prog) (w:=X.w) (knd:=vA X.prog X.w) hh ⇑l a (hR alt) m B
  have st:J.IsKeyIter ⇑l a 0 m.length B/\J.DictAt (vA X.prog X.w) a m B:=#[i0.at λo e=>u2 _ o<|u1 _ o e,D.at' λo e=>u2 _ o<|u1 _ o<|u0 _ o e]
  have C:=codeAny_compLoop_walkD (R:=compPost 23 X.A X.xe none (EP X u σ Q) (h8 g.objs.size) g1.objs.size) (s:={ l with heap:=J,toks:=l.toks+0}) (kx:=.Name x q1) (vx:=.Constant (.int c) j q2) (iter:=iter) (x:=x) (px:=px) (ifs:=[]) (scope:=d) (pos:=pos) (D:=g.objs.size) (cenv:=tm d [] g1.objs.size X.env) W (λ_=>true) (λv k=>zS k v=true) (λ_ y=>∃t,y=.int c t)
    (lookup_relabel_local hx) (by simp[tm,oU,f]) c1 (λY=>jQ _<|n1 _ Y) (λY=>jQ _<|nL (n1 _ Y)<|by rw[z1];exact jw _) st (d1.at λo e=>u2 _ o e) T (λi v L m3 _ _ _ _=>sv #[rfl,L.heap,L.toks,rfl,λ_ _ e=>e])
    (λi v L m3 Z _ hn Y _=>by
      refine e2a2 Z λk x' aj hk=>?_
      exact pK (kN (by show d.kind=_;exact f) (lookup_relabel_local hx) hn Y #[#[k,hk,hk],L.heap,L.toks,rfl,λ_ _ e=>e]) hd)
    (λi v L m3 _ _ _ _ _=>wpAny_Constant_int #[#[_,rfl],L.heap,_,rfl,λ_ _ e=>e])
    (λh2 tk m' aa ag hn dd ab hP hS k=>?fin) (by rw[<- Paired.length kv];exact hz)
  · exact codeAny_compStart_dict C<|W.self 0 _ _ _ st C
  · refine#[m', hn, λh3 ae => ?_]
    have le:⇑l<=g.objs.size:=by rw[z0];exact lP _
    have k':∀b o,l.heap.get? b=↑o->h3.get? b=↑o:=λb o e=>by
      have lb:=gX e
      have lg:b<g.objs.size:=ic lb le
      have n2:b≠g1.objs.size:=hR (by rw[z1];exact ot lg)
      exact ae.extBut b o n2<|k b o n2 (λz=>by rw[List.mem_singleton.mp z]at lb;exact jQ _ lb) (hR lg)<|u2 _ _<|u1 _ _<|u0 _ _ e
    have nH:H1 g.objs.size=none:=I1.vK.fresh le
    have kk:∀{r:List (Key×V)} {m:List (Key×cr)},KV r m->r.map (·.1)=m.map (·.1):=λh=>by
      induction h with
      |nil=>rfl
      |cons h _ ih=>rw[im,im,ih,h.1]
    have Z:Paired (λk v=>zS k v=true) (O.map iu) ag:=by
      rw[<- G,kk kv]
      refine AJ (by rw[gV,ab]) λj k v J h2=>?_
      refine e2a2 (hP j v h2) λk' x' g1 g2=>?_
      rw[jE,g1]at J
      cases J
      exact g2
    have nd:(O.map iu:List Key).Nodup:=by
      rw[<- G,kk kv]
      obtain⟨o,es,ho,hc,ai,hk,hp,hn⟩:=id D
      exact hn
    obtain⟨f1,f2⟩:=Lo (P:=X.prog) (w:=X.w) (λv k h=>h) hS (by rw[List.filter_eq_self.mpr<|λ_ _=>rfl];exact Z) nd
    have rel:KV (O.map λk=>(iu k,V.int c)) aa:=JF f1 λe he=>(f2 e he).elim λv Z=>Z
    have ll:O.length=r.length:=by have:=congrArg oi G;simpa using this.symm
    exact#[.ref g.objs.size,_,I1.laid (a:=g.objs.size) (o:=.dK<|O.map λk=>(iu k,V.int c)) (t':=tk) k' le<|D6 (by rw[gV,ll];exact hz) (beq_eq_false_iff_ne.mpr λz=>hV I1.big<|by rw[<- z];exact Nat.not_lt.mpr le) rel<|dd.extBut ae.extBut c1,rfl,q _ nH]
end L2
namespace WL
variable[L2.GX]
open PySem L2
open Rep (rp)
open Ow (sl)
open Sls (rel)
section
variable{D PO τ:Type}[Sls D][Sls PO][Ow τ]{α:Type}[Rep α]
def RB{F R:Rg}{H:Hp}{d:D}{g:St}(s:v6 T F R H d g){p:ci}(c:H p=none){l:List (Int×α)}{us:List (Key×V)}(h:PK R H l us):∃e,Ch T F R H (λa=>a=p\/F a) e (upd H p<|.dK us)/\v6 T F e (upd H p<|.dK us) d g/\Nw T (λa=>a=p) F e (upd H p<|.dK us) (Dc.mk l) (.ref p):=by
 refine e0a3 (s.new (.dK us) c) λi m j=>?_;have n:¬F p:=λz=>j<|s.sub p z;have f:Ext (λ_=>False) R H (λa=>R a\/a=p) (upd H p<|.dK us):=⟨λb o _ h=>by rw[uR<|vc h c];exact h,λa h=>h.elim .inl λq=>.inr<|by rw[q];exact c⟩;refine⟨λa=>R a\/a=p,#[m.keep,f.new,λa h=>h.elim (λq=>.inr<|by rw[q];exact c) .inl,λa h _=>.inl h],#[Sls.st s.rel f (λ_ z=>z.elim)<|λ_ _ z=>z,λa h=>.inl<|s.sub a h,λa h=>?_,i.tab,.inl s.vN,s.vE],#[#[p,us,rfl,λb=>Iff.rfl,uV,Rj (f.wide λ_ z=>z.elim) h],λa h=>.inr h,λa h k=>n (by rw[<- h];exact k),λh=>j<|by rw[<- h];exact s.vN]⟩;rcases h with h|h
 ·exact i.xk a h
 ·rw[h,uV];simp
def M9{c:Int}:∀l:List Int,PK R H (l.map λk=>(k,c)) (l.map λk=>((iu k:Key),V.int c))
 | []=>.nil
 |_::l=>.cons #[rfl,rfl]<|M9 l
def OC{y:Str}{r t u:Pos}{c:Int}{j:Nat}{a:l9}(q:ID)(i:Nat){m:Type}[Sls m][A:At i D (Bd C fl) m](v:q.ok fl)(w:AW X.K C)(B:vR X.K C q.nm)(l:X.calm=true)(G:PE X (.Name x h) (vC i))(e:oB a X.env=pure [])(f:∀y∈a.names,y.2≠.cell)(g:a.kind=.function)(b:∀y∈a.names,y.2=.local->a.names.lookup y.1=some .local)(I:a.names.lookup y=some .local)(J:(y==("__debug__":Str))=false:=by decide)(L:iG (.Name x h) q.nm X.env (eval (.Name x h) X.env)=eval (.Name x h) X.env:=by rfl)
  (M:∀z,kh (.Attribute (.Name x h) q.nm N) X.env z=pure z:=by intro _;rfl) :
  EO X E T (.DictComp (.Name y r) (.Constant (.int c) j t) [#[.Name y u,.Attribute (.Name x h) q.nm N,[],0]] a pos) (λ(d:D)(n:Dc Int->D->Prop) _=>n #[((q.get<|A.get d).map (·.1)).map λk=>(k,c)] d):=by
 refine#[_,RA l (wU G L) e f g b I J M,λd F R σ H n Ke Q s O P ke=>?_];obtain⟨p,S,e1,e2,e3,e4,us,U,o,_,_⟩:=wA (i:=i) s;refine e1a4 (Al o q v) λz W Y _ _=>?_;refine#[_,U,p,C,S,_,_,rfl,o.ob,w,B,W,z,_,(q.get<|A.get d).map (·.1),rfl,Y,?_,λp' Z=>?_]
 ·unfold Bv;rw[kj,kj];rfl
 ·refine e1a3 (RB s Z (M9 (R:=R) (H:=H) (c:=c) ((q.get<|A.get d).map (·.1)))) λR' c3 s3 n3=>?_;exact P _ d _ _ F R' _ O c3 s3 n3
def YF{j:Nat}(e:EV X T a f):EO X E T (.Dict [↑a] [.Constant .none j w] pos) (λ(d:D) (b:Dc (Option Int)->D->Prop) _=>b #[[(f d,none)]] d):=by
 refine e1a2 e λx g h=>?_;refine#[_,Ug (P4 g J9 Uf) rfl rfl q0o q0o,λd F R i H b y Q s k m z=>?_];intro p c;refine e0a3 (s.new (.dK []) c) λn A B=>?_;refine h d F R i _ _ n λv r=>#[uV,[(iu<|f d,.wF)],?_,(show 1<=15 by decide),?_]
 ·have r:v=V.int (f d):=r;rw[r];rfl
 ·rw[TU];refine e1a3 (RB (α:=Option Int) s c (l:=[(f d,none)]) (us:=[(iu<|f d,V.wF)])<|.cons ⟨rfl,rfl⟩ .nil) λo q t u=>?_;exact m _ d _ _ F o _ k q t u
def tw_dcNin(i:Nat)[Sls h][A:At i D (Dc α) h](j:X.A.units+1<kG)(m:EW X E T a wk)(n:PE X (.Name x e) (vC i))(o:iV .NotIn (.Name x e)=false:=by with_unfolding_all rfl) :
  TW X E T (.Compare a [.NotIn] [.Name x e] pos) (λ(d:D)(f:Bool->D->Prop) c=>wk d (λk b=>f (!(lk (A.get b).l k).isSome) b) c):=by
 refine e1a2 m λO p q=>?_;refine#[_,Ka (Cy j p n) o,λd F R r H f c Q s t v w=>q d F R r H _ c _ s t (λk b u z B C G I g J=>?_) w];subst J;obtain⟨y,P,L,M,N⟩:=DL (i:=i) g;refine#[_,L,y,_,rfl,yf.k (k:=iu k) M,_,rfl,?_];rw[M4 N];exact v _ b z B C G I g
def JG(i:Nat)[Sls q][A:At i D (Dc Int) q][U:Pt i q (Dc Int) D][J:Pj D PO n](B:X.A.units+1<kG)(C:PE X (.Name x G) (vC i))(I:EV X T a f)(L:EV X T e h)(m:ZF X op (ipI g))
 (M:∀c j b,augStore a c j b=(do kO [b,c,j] (sA c j b);release [b,c,j] [];pure .next):=by intros;rfl) :
    S1 X E T ms n (.AugAssign (.Subscript (.Name x G) a p3) op e pos) (λ(d:D)(r:D->Prop)(_:τ->PO->Prop) _=>∃v,lk (A.get d).l (f d)=↑v/\(A.get d).l.length<gS/\r (U.put (A.hole d) #[pk (A.get d).l (f d)<|g v<|h d])):=by
  refine e1a2 I λta N O=>?_
  refine e1a2 L λte P Q=>?_
  refine#[_,Ue B C N P m M,λd F R o H r Kr Ke En s S W kr ke=>?_]
  refine e2a4 (Rn (i:=i) s) λy us Y t p Z=>?_
  refine e1a3 S λv h1 h2 h3=>?_
  refine#[_,Y,O d F R o H _ s λk rk=>?_]
  subst rk
  refine e1a2 ((Lf p).1 v h1) λw w1 w2=>?_
  subst w2
  have u:=yf.k (k:=iu<|f d) t
  rw[w1]at u
  refine#[y,_,rfl,u,Q d F R o H _ s λz rz=>?_]
  subst rz
  obtain⟨c3,s3⟩:=Z _ _<|Rm (R:=R) (H:=H) (k:=f d) (x:=g v<|h d) (v:=V.int<|g v<|h d) rfl p
  exact#[v,h d,rfl,rfl,_,GF.k (k:=iu<|f d) t (by rw[Lg p];exact h2),W _ F R _ o h3 c3 s3<|Ag.refl _ _]
end
section
variable{D:Type}[Sls D]
def tw_ninT{j:Wf D Int D}{m:Wf D (Tp Int) D}(w:EW X E T a j)(x:EW X E T b m)(z:iV .NotIn b=false) :
  TW X E T (.Compare a [.NotIn] [b] pos) (λ(d:D) n f=>j d (λk g=>m g (λt h=>n (!decide (k∈t.l)) h) f) f):=by
 refine e1a2 w λta A B=>?_;refine e1a2 x λtb G I=>?_;refine#[_,xT BC A G z,λd F R o H n f Q s J L p=>B d F R o H _ f _ s J (λk g u M N O P r i S=>?_) p];refine I g M N o O _ f _ i P (λt h v U W Y Z c2 s2 r2=>?_) λC y d' F' R' H' k c s'=>p C y d' F' R' H' k (Ch.trans s i.tab r c) s';subst S;obtain⟨l⟩:=t;obtain⟨q,us,rfl,_,h1,h2⟩:=r2;have e:=ints_of (xs:=l) h2;subst e;refine#[q,_,rfl,.inr<|yZ.of h1,rfl,AM _,_,rfl,?_];rw[gN rfl,BM];exact L _ h U W Y Z (Ch.trans s i.tab r c2) s2
end
end WL
namespace L2
variable[L2.GX]
open PySem PySem.Spec PyProof.Rows
def a2I(K:gO)(d:TE):TE:=λe H Q=>d e H λx b=>∃a c,x=.ref a/\wo K b a c/\∀p,b p=none->Q (.ref p) (upd b p<|.lst c.reverse)
def YG{X:Cx}{e:iL}{te:TE}{p2 p3 p4 pos:Pos}{j:Nat}(he:PE X e te):PE X (.Subscript e (.Slice none none (some<|.UnaryOp .USub (.Constant (.int 1) j p3) p4) p2) pos) (a2I X.K te):=by
 intro pins s σ H Q I h;refine sR<|vI (he pins s σ H _ I h) λv s1 z9=>e2a3 z9 λx H1 I1 r1 z89=>e2a3 z89 λa xs e1 hx q=>?_;subst e1;obtain rfl:v=h8 a:=r1;refine wpAny_Slice ?_;rw[tQ,evalPart_some];refine ap<|ap<|vI (Wx Pw vt pins s1 σ H1 (λv H=>v=.int (-1)/\H=H1) I1 #[1,rfl,rfl,rfl]) λu s2 z9=>e2a4 z9 λy H2 I2 r2 e2 e3=>?_;subst e2 e3;obtain⟨t,rfl⟩:=r2;have I4:Inv X pins σ H2 { s2 with heap:=s2.heap.push { cls:=.type "slice",data:=.fields #v[.none,.none,.int (-1) t]}}:=I2.kept (t':=s2.toks) λb ob q=>ce _ q;refine e1a3 (I4.list hx) λzQ r pl hz=>?_;refine' tail_any pl.isList.typeIs slot_list_getitem.lookup ?_ ?hs
 case hs=>with_unfolding_all rfl
 refine tR pl.isList (qX ..) .none .none (.int (-1) t) q0q ?_ (by rw[hJ,<- r.length];exact hz);rw[PySem.W.krv_pick];refine#[.ref (s2.heap.push { cls:=.type "slice",data:=.fields #v[.none,.none,.int (-1) t]}).objs.size,_,I4.laid (t':=s2.toks) (o:=.lst xs.reverse) (λb ob q=>ce _ q) (gQ _) ?_,rfl,q _<|I4.vK.fresh<|gQ _];exact#[by rw[List.length_reverse];exact hz,zQ.reverse,0,r.reverse,hI _ rfl]
end L2
namespace WL
variable[L2.GX]
open PySem L2
open Rep (rp)
open Ow (sl)
open Sls (rel)
section
variable{D:Type}[Sls D]{α:Type}[Rep α]
def Lq{R:Rg}{H:Hp}:∀{xs:List α} {vs:List V},Paired (rp R H) xs vs->Paired (rp R H) xs.reverse vs.reverse:=by
 intro _ _ z
 induction z with
 |nil=>exact .nil
 |cons h t ih=>rw[oj,oj];exact xU ih<|.cons h .nil
def YH{j:Nat}(i:ER X E T a k) :
  EO X E T (.Subscript a (.Slice none none (some<|.UnaryOp .USub (.Constant (.int 1) j N) O) P) pos) (λ(d:D)(f:OL α->D->Prop) c=>k d (λg b=>f #[(g b).reverse] b) c):=by
 refine e1a2 i λS l m=>?_;refine#[_,YG l,λd F R n H f c Q s o r t=>?_];refine m d F R n H _ c _ s o (λg b u h v w x y e z=>?_) t;obtain⟨q,A,rfl,B,C⟩:=z b h v w 61 e;refine#[q,A,rfl,wo.of B,λp G=>?_];refine e1a3 (xH e G<|Lq C) λI J L M=>?_;exact r _ b _ _ h I _ x (Ch.trans s e.tab y J) L M
end
end WL
namespace K7
variable[L2.GX]
open PySem L2 WL
open WL.Rep (rp)
open WL.Ow (sl)
open WL.Sls (rel)
noncomputable def top(i:Nat):il:=PySem.Challenge.pw_slimbody_k25_carried_down.main.body.getD i<|.Pass #[0,0,0,0]
noncomputable abbrev w8:il:=top 15
noncomputable abbrev EQ:il:=top 16
noncomputable abbrev Ht:il:=top 18
def Gk:Wf (List Int×Unit) Bool (Un×Unit):=λp a _=>a (asc p.1) (#[],())
def Gm:Wf (Tp Int×Unit) Bool (Un×Unit):=λp a _=>a (asc p.1.l) (#[],())
def DN(C:ci):Wf (List Int×Unit) Unit (Un×Unit):=λp a b=>(asc p.1=true->a () (#[],()))/\(asc p.1=false->b C (#[],()))
def Na(C:ci):Wf (Tp Int×Unit) Unit (Un×Unit):=λp a b=>(asc p.1.l=true->a () (#[],()))/\(asc p.1.l=false->b C (#[],()))
def Nb:Wf (List (Tp Int)×Unit) (OL Int) (Un×Unit):=λp a _=>∃U:List Int,U.length<64/\(∀r∈p.1,wQ r.l/\∀x∈r.l,x∈U)/\a #[Pf (p.1.map (·.l))] (#[],())
section
variable{P:iB}{w:iR}{K:gO}{mg:Str->Option cr}{base:iM}{T:ci}
def Gn:uY ["row"] ["row"] (uQ w8):=#[rfl,rfl,rfl,q0s,rfl,q0s,q0s]
def Lr{f c:ci}{fd:iH}(F:yN K "is_sum" "is_sum" w8 f fd)(hc:fd.code=.ref c)(B:Ji mg base c T)(YI:mg "all"=none)(YJ:mg "zip"=none):vD P w K mg base (vL P w) 1 f fd ["row"] (yu T Gk):=by
 refine' u4 (WP (A:=List Int×Unit) (PO:=Un×Unit) (τ:=Bool) (D':=Unit) (ms:=[]) (j:=0) F Gn rfl rfl λA outer s H E hr=>?body) ?nice
 case body =>
  exact uT<|vi<|vq<|QQ (ss 0) (vy<|Jn (vQ<|ss 0) (G0 uW) GZ)<|λh=>Jh a2b (c:=c) (P:=T) rfl #[hc,B.hd,B.blt] hr.depth rfl YI rfl YJ h rfl rfl rfl q0s rfl rfl rfl q0s q0s q0s
 case nice =>
  intro p Kn Ke h
  walk_at "wl"
  rw[a0r];exact h
def Ls{f c:ci}{fd:iH}(F:yN K "is_sum" "is_sum" w8 f fd)(hc:fd.code=.ref c)(B:Ji mg base c T)(YI:mg "all"=none)(YJ:mg "zip"=none):vD P w K mg base (vL P w) 1 f fd ["row"] (yu T Gm):=by
 refine' u4 (WP (A:=Tp Int×Unit) (PO:=Un×Unit) (τ:=Bool) (D':=Unit) (ms:=[]) (j:=0) F Gn rfl rfl λA outer s H E hr=>?body) ?nice
 case body =>
  exact uT<|vi<|vq<|QR (ss 0) (Om (ss 0) (G0 uW) GZ)<|λh=>Jh a2y (c:=c) (P:=T) rfl #[hc,B.hd,B.blt] hr.depth rfl YI rfl YJ h rfl rfl rfl q0s rfl rfl rfl q0s q0s q0s
 case nice =>
  intro p Kn Ke h
  walk_at "wl"
  rw[a0r];exact h
def Nc:uY ["row"] ["row"] (uQ EQ):=#[rfl,rfl,rfl,q0s,rfl,q0s,q0s]
def Go{b:Bool}(h:(b=true->p)/\(b=false->q)):if (!b)=true then q else p:=by
 cases b
 ·exact h.2 rfl
 ·exact h.1 rfl
def RC{f C f1:ci}{fd W3:iH}{Dv:List cr}{B newId yg:String}(F:yN K "must_be_sum" "must_be_sum" EQ f fd)(F1:Fn K mg "is_sum" w8 ["row"] f1 W3)(G1:vD P w K mg base (vL P w) 1 f1 W3 ["row"] (yu T Gk))
  (hC:mg "NotASum"=↑(.ref C))(O:jq K C Dv newId=true)(FB:kB B newId yg Dv)(g0:∀H',GX.g C none H'):vD P w K mg base (vL P w) 2 f fd ["row"] (yu T<|DN C):=by
 refine' u4 (Eh (vz q0q) (A:=List Int×Unit) (PO:=Un×Unit) (D':=List Int×Unit) (ms:=[]) (j:=0) F Nc rfl rfl λTL A outer s H E hr=>?body) ?nice
 case body =>
  exact uT<|vF (tw_not<|tw_val<|vd<|BN G1 hr rfl F1.at_ F1.fn.kp F1.bd A8<|uU (ss 0) uS) (uT<|Ex<|Eg rfl hC O FB g0<|uZ Gy vk) vv
 case nice =>
  intro p Kn Ke h
  walk_at "wl"
  exact Go h
def RD{f C f1:ci}{fd W3:iH}{Dv:List cr}{B newId yg:String}(F:yN K "must_be_sum" "must_be_sum" EQ f fd)(F1:Fn K mg "is_sum" w8 ["row"] f1 W3)(G1:vD P w K mg base (vL P w) 1 f1 W3 ["row"] (yu T Gm))
  (hC:mg "NotASum"=↑(.ref C))(O:jq K C Dv newId=true)(FB:kB B newId yg Dv)(g0:∀H',GX.g C none H'):vD P w K mg base (vL P w) 2 f fd ["row"] (yu T<|Na C):=by
 refine' u4 (Eh (vz q0q) (A:=Tp Int×Unit) (PO:=Un×Unit) (D':=Tp Int×Unit) (ms:=[]) (j:=0) F Nc rfl rfl λTL A outer s H E hr=>?body) ?nice
 case body =>
  exact uT<|vF (tw_not<|tw_val<|vd<|BN G1 hr rfl F1.at_ F1.fn.kp F1.bd A8<|uU (ss 0) uS) (uT<|Ex<|Eg rfl hC O FB g0<|uZ Gy vk) vv
 case nice =>
  intro p Kn Ke h
  walk_at "wl"
  exact Go h
def JH:uY ["rows","odd","row","number"] ["rows"] (uQ Ht):=#[rfl,rfl,rfl,q0s,rfl,q0s,q0s]
def RE{f C f1:ci}{fd W3:iH}(F:yN K "total" "total" Ht f fd)(F1:Fn K mg "must_be_sum" EQ ["row"] f1 W3)(G1:vD P w K mg base (vL P w) 2 f1 W3 ["row"] (yu T<|Na C))(a2J:mg "set"=none)(Vq:mg "sorted"=none) :
  vD P w K mg base (vL P w) 3 f fd ["rows"] (yu T Nb):=by
 refine' u4 (wq (A:=List (Tp Int)×Unit) (PO:=Un×Unit) (τ:=OL Int) (D':=Unit) (ms:=[]) (j:=3) F JH rfl rfl λTL A outer s H E hr=>?body) ?nice
 case body =>
  have nd:=JH.nd
  exact DC (vz q0q) (vj 1 nd<|UQ (w:=w) rfl rfl a2J)
   (DC (vz q0q) (wI (is:=[]) (mb:=[]) (D1:=List (Tp Int)×SI w×Tp Int×Un×Unit) (D2:=List (Tp Int)×SI w×Tp Int×Un×Unit) (vz q0q) yK rfl (wd (ss 0)) (vr 2 (vf nd))
    (DC (vz q0q) (vT (vd (BN G1 hr rfl F1.at_ F1.fn.kp F1.bd A8 (uU (ss 2) uS))))
     (uT (wI (is:=[]) (mb:=[]) (D1:=List (Tp Int)×SI w×Tp Int×Int×Unit) (D2:=List (Tp Int)×SI w×Tp Int×Int×Unit) (vz q0q) yK rfl (QT (ss 2)) (vr 3 (vf nd))
      (uT (vF (tw_inS 1 (w:=w) rfl (ss 3) (pv 1) (by with_unfolding_all rfl))
       (uT<|US 1 (w:=w) rfl (ss 3)<|λh=>Bx<|Qp PySem.F.slot_set_discard PySem.F.type_set_discard Qo (pv 1) h)
       (uT (UR 1 (w:=w) rfl (ss 3) (λh=>Bx (Qp PySem.F.slot_set_add PySem.F.type_set_add Uz (pv 1) h)))))) q0q q0q))) q0q q0q)
    (uT (vi (K6 1 (w:=w) rfl rfl rfl Vq (pv 1)))))
 case nice =>
  intro p Kn Ke h
  walk_at "wl"
  obtain⟨U,hU,hr,hk⟩:=h;refine vM (λ(r:List (Tp Int)) (b:List (Tp Int)×SI w×Un×Un×Unit)=>wQ b.2.1.l/\(∀x∈b.2.1.l,x∈U)/\(r.map (·.l)).foldl xr b.2.1.l=Pf (p.1.map (·.l))) p.1 #[iw,(λ_ h=>by cases h),rfl] ?_ ?_
  ·rintro x r b ⟨pre,e⟩ ⟨h1,h2,h3⟩ K hK;have hx:=hr x (by rw[e];simp);refine#[λ_=>?_,λz=>hV ((yx _).mpr hx.1)<|by rw[z];simp];refine vM (λ(q:List Int) (c:List (Tp Int)×SI w×Tp Int×Un×Unit)=>wQ c.2.1.l/\(∀y∈c.2.1.l,y∈U)/\q.foldl K8 c.2.1.l=xr b.2.1.l x.l) x.l #[h1,h2,rfl] ?_ ?_
   ·rintro y q c ⟨a4b,e2⟩ ⟨g1,g2,g3⟩ K2 hK2;have hy:y∈x.l:=by rw[e2];simp
    have g3':q.foldl K8 (K8 c.2.1.l y)=xr b.2.1.l x.l:=g3;by_cases hc:y∈c.2.1.l
    ·rw[gN<|decide_eq_true hc];refine hK2 _ ⟨jS _ g1,λz hz=>g2 z (Ak.mp hz).1,?_⟩;rw[<- g3'];unfold K8;rw[gN hc]
    ·rw[gM<|by simpa using hc];refine⟨by have:=wp g1 g2;lia,hK2 _ ⟨DD g1,λz hz=>?_,?_⟩⟩
     ·rcases BS.mp hz with e3|e3
      ·rw[e3];exact hx.2 y hy
      ·exact g2 z e3
     ·rw[<- g3'];rw[show K8 c.2.1.l y=FG y c.2.1.l from gM hc]
   ·rintro c ⟨g1,g2,g3⟩;refine hK _ #[g1,g2,?_];rw[<- h3];show (r.map (·.l)).foldl xr c.2.1.l=(r.map (·.l)).foldl xr (xr b.2.1.l x.l);rw[<- g3];rfl
  ·rintro b ⟨h1,h2,h3⟩;refine#[by have:=wp h1 h2;lia,?_];have h3':b.2.1.l=Pf (p.1.map (·.l)):=h3;rw[h3'];exact hk
end
section
variable(C:ci)
abbrev B0:=Bd C true
noncomputable def vW{C:ci}(x:B0 C)(row:List Int):Bool:=row.all λc=>(lk x.rk c).isSome
noncomputable def wE{C:ci}(x:B0 C)(c:Int):List Int:=(lk x.bd c).getD []
noncomputable def YK{C:ci}(x:B0 C)(c:Int):List Int:=(x.rk.map (·.1)).filter λh=>decide<|c∈wE x h
noncomputable def Vs{C:ci}(x:B0 C)(row:List Int)(r:Int):Bool:=row.all λc=>decide<|lk x.rk c=↑r
structure RF{C:ci}(x:B0 C):Prop where
 kb:∀k,(lk x.rk k).isSome=true->(lk x.bd k).isSome=true
 bo:∀k b,lk x.bd k=↑b->wQ b/\∀c∈b,0<=c/\c<63
 ri:(x.rk.map (·.1)).Pairwise (·<=·)
 lr:x.rk.length<64
 lb:x.bd.length<64
def B6(a:ci):Wf (B0 C×Int×Unit) Unit (B0 C×Un×Unit):=λp b c =>
 if (lk p.1.rk p.2.1).isSome=true then b () 58 else c a 58
def Ap(XS XC:ci):Wf (B0 C×List Int×Unit) Unit (B0 C×Un×Unit):=λp Kn Ke =>
 if asc p.2.1=true then (if vW p.1 p.2.1=true then Kn () 58 else Ke XC 58) else Ke XS 58
def xM(XO:ci):Wf (B0 C×List Int×Int×Unit) Unit (B0 C×Un×Un×Unit):=λp Kn Ke =>
 vW p.1 p.2.1=true/\if Vs p.1 p.2.1 p.2.2.1=true then Kn () (p.1,#[],#[],()) else Ke XO (p.1,#[],#[],())
def ya(XS XC:ci):Wf (B0 C×List Int×Unit) (OL Int) (B0 C×Un×Unit):=λp Kn Ke =>
 RF p.1/\if asc p.2.1=true then (if vW p.1 p.2.1=true then Kn #[Pf<|p.2.1.map<|wE p.1] 58 else Ke XC 58) else Ke XS 58
def DO:Wf (B0 C×Unit) (OL Int) (B0 C×Unit):=λp a _=>RF p.1/\a #[p.1.rk.map (·.1)] (p.1,())
def Hu(a:ci):Wf (B0 C×Int×Unit) (OL Int) (B0 C×Un×Unit):=λp b c =>
 RF p.1/\if (lk p.1.rk p.2.1).isSome=true then b #[YK p.1 p.2.1] 58 else c a 58
def JI(b c d e f:ci):Wf (B0 C×Int×List Int×Unit) Int (B0 C×Un×Un×Unit):=λp g a =>
 RF p.1/\lk p.1.bd p.1.up=none/\if p.2.1<0\/12<p.2.1 then a b (p.1,#[],#[],()) else if asc p.2.2.1=true then (if vW p.1 p.2.2.1=true then (if Vs p.1 p.2.2.1 (p.2.1-1)=true then
  (if Pf (p.2.2.1.map (wE p.1))=[] then g p.1.up ({ p.1 with rk:=pk p.1.rk p.1.up p.2.1,bd:=pk p.1.bd p.1.up p.2.2.1,up:=p.1.up+1},#[],#[],()) else a f (p.1,#[],#[],())) else a e (p.1,#[],#[],())) else a d (p.1,#[],#[],())) else a c (p.1,#[],#[],())
def Hv(b c:ci):Wf (B0 C×Int×Unit) Unit (B0 C×Un×Unit):=λp d a =>
 RF p.1/\if (lk p.1.rk p.2.1).isSome=true then (if YK p.1 p.2.1=[] then d () ({ p.1 with rk:=dk p.1.rk p.2.1,bd:=dk p.1.bd p.2.1},#[],()) else a c 58) else a b 58
def Vt{C:ci}(x:B0 C)(c:Int):Int:=(lk x.rk c).getD 0
def B7:Wf (B0 C×Int×Unit) Bool (B0 C×Un×Unit):=λp a _=>a (lk p.1.rk p.2.1).isSome 58
def B8:Wf (B0 C×Unit) Int (B0 C×Unit):=λp a _=>a p.1.up (p.1,())
def B9(a:ci):Wf (B0 C×Int×Unit) Int (B0 C×Un×Unit):=λp b c =>
 if (lk p.1.rk p.2.1).isSome=true then b (Vt p.1 p.2.1) 58 else c a 58
def Aq(XC:ci):Wf (B0 C×Int×Unit) (OL Int) (B0 C×Un×Unit):=λp Kn Ke =>
 RF p.1/\if (lk p.1.rk p.2.1).isSome=true then Kn #[wE p.1 p.2.1] 58 else Ke XC 58
end
def zD{n k:Int}(h0:0<=k)(h1:k<n):k∈yL 0 n:=by exact List.mem_map.mpr #[k.toNat,List.mem_range.mpr q0a,q0a]
def zF{k:Int}:∀{l:List (Int×c)},(lk l k).isSome=true->k∈l.map (·.1):=by
 intro b
 induction b with
 |nil=>intro h;cases h
 |cons e l a =>
  intro h;by_cases q:e.1=k
  ·rw[<- q];simp
  ·have:lk (e::l) k=lk l k:=by unfold lk;rw[iQ,ie q]
   rw[this]at h;exact gU _<|a h
def xy{k:Int}:∀{l:List (Int×a)},k∈l.map (·.1)->(lk l k).isSome=true
 | [],h=>by cases h
 |e::l,h=>by
  by_cases q:e.1=k
  ·unfold lk;rw[iQ,decide_eq_true q];rfl
  ·have:lk (e::l) k=lk l k:=by unfold lk;rw[iQ,ie q]
   rw[this];rcases List.mem_cons.mp h with z|z
   ·exact hV z.symm q
   ·exact xy z
def ES{C:ci}{x:B0 C}{c:Int}{r:List Int}:vW x (c::r)=((lk x.rk c).isSome&&vW x r):=by unfold vW;rw[qb]
def RG{C:ci}{x:B0 C}{c k:Int}{r:List Int}:Vs x (c::r) k=(decide (lk x.rk c=↑k)&&Vs x r k):=by unfold Vs;rw[qb]
def OD{C:ci}{x:B0 C}{row:List Int}(ok:RF x)(ha:asc row=true)(h:vW x row=true):row.length<=gS:=by have:=wp (U:=x.rk.map (·.1)) ((yx row).mp ha) λc hc=>zF<|List.all_eq_true.mp h c hc;rw[gV]at this;have:=ok.lr;exact vO q0a
def Ca{n:Nat}(h:n<1000):n<gS:=by have z:gS=16777216:=iY;lia
def Ba{C:ci}{x:B0 C}(ok:RF x){c:Int}(h:(lk x.rk c).isSome=true):lk x.bd c=↑(wE x c):=by obtain⟨v,hv⟩:=Option.isSome_iff_exists.mp<|ok.kb c h;unfold wE;rw[hv];rfl
def a0O{C:ci}{x:B0 C}{c:Int}(h:(lk x.rk c).isSome=true):lk x.rk c=↑(Vt x c):=by obtain⟨v,e⟩:=Option.isSome_iff_exists.mp h;unfold Vt;rw[e];rfl
/-- g the f i the row b is d a -/
def vU{K:List d->S->Prop}(e:∀x∈c,∀K:Option d->S->Prop,(if q x=true then K ↑x s else K none s)->b x s K)(h:K (c.filter q) s):BR b c s K:=by
 refine vZ (f:=λx=>if q x=true then some x else none) (λx g K a=>e x g K ?_) (by rw[filterMap_filter];exact h);by_cases z:q x=true
 ·rw[gN z]at a ⊢;exact a
 ·rw[gM z]at a ⊢;exact a
section
variable{q:Cq}{C XC XS XO XB XP XV YL XF XT XN XR XL:ci}
noncomputable abbrev zH:il:=AY (top 26) 15
noncomputable abbrev zI:List Str:=["self","cell"]
def FJ:uY ["self","cell"] zI (uQ zH):=by walk_at "sc"
abbrev wz(q:Cq)(C XC:ci)(k:Nat):=yY q C "must_stand" zI (B6 C XC) k
def FK(F:yN q.K "must_stand" "Body.must_stand" zH f d)(c:zR q.K C)(a:Xc q.K q.mg "NoCell" XC):Gq q 2 f d zI (B6 C XC):=by
 refine' u4 (Eh (vz q0q) (D':=(Bd C true)×Int×Unit) (ms:=[0]) (j:=0) F FJ rfl rfl λe A b s H E g =>
   (uT (vF (tw_dIn .rk true 0 trivial c.cl c.nR (BX g) (ss 1) (pv 0))
   (uT<|BY rfl a)
   vv))) λp i k h=>?_
 walk_at "wl"
 have h:if (lk p.1.rk p.2.1).isSome=true then i () 58 else k XC 58:=h
 cases q:(lk p.1.rk p.2.1).isSome with
 |true=>rw[q]at h;simpa using h
 |false=>rw[q]at h;simpa using h
noncomputable abbrev As:il:=AY (top 26) 16
noncomputable abbrev Au:List Str:=["self","row"]
def Cb:uY ["self","row","cell"] Au (uQ As):=by walk_at "sc"
abbrev Av(q:Cq)(C XS XC:ci)(k:Nat):=yY q C "must_hold" Au (Ap C XS XC) k
def Hw{f:ci}{fd:iH}(F:yN q.K "must_hold" "Body.must_hold" As f fd)(ct:zR q.K C)(FL:wZ q "must_be_sum" ["row"] (DN XS) 2)(xz:wz q C XC 2):Gq q 3 f fd Au (Ap C XS XC):=by
 refine' u4 (Eh (vz q0q) (D':=(Bd C true)×(List Int)×Un×Unit) (ms:=[0]) (j:=1) F Cb rfl rfl λTL A outer s H E hr =>
   (vg (vT (vd (vh FL (uU (ss 1) uS))))
   (uT (wI (is:=[]) (mb:=[0]) (D1:=(Bd C true)×(List Int)×Int×Unit) (D2:=(Bd C true)×(List Int)×Int×Unit) (vz q0q) yK rfl (wd (ss 1)) (vr 2 (vf Cb.nd))
   (uT (vT (vd (vY 0 xz (uU (ss 2) uS))))) q0q q0q)))) λp Kn Ke h=>?_
 walk_at "wl"
 have h:if asc p.2.1=true then (if vW p.1 p.2.1=true then Kn () 58 else Ke XC 58) else Ke XS 58:=h;refine#[λha=>?_,λha=>?_]
 ·have ha:asc p.2.1=true:=ha;rw[gN ha]at h;refine vM (λ(r:List Int)(b:B0 C×List Int×WL.Un×Unit)=>b.1=p.1/\if vW p.1 r=true then Kn () 58 else Ke XC 58) p.2.1 #[rfl,h] ?_ ?_
  ·rintro c r b _ ⟨e,hb⟩ K2 hK;rw[ES]at hb;show if (lk b.1.rk c).isSome=true then K2 _ else Ke XC (b.1,#[],());rw[e]
   cases q:(lk p.1.rk c).isSome with
   |false=>rw[q]at hb;simpa using hb
   |true =>
    rw[q,Bool.true_and]at hb;rw[gN rfl];exact hK _ #[rfl,hb]
  ·rintro b ⟨e,hb⟩;rw[e];exact hb
 ·have ha:asc p.2.1=false:=ha;rw[gM<|by rw[ha];simp]at h;exact h
noncomputable abbrev xN:il:=AY (top 26) 17
noncomputable abbrev xO:List Str:=["self","row","rank"]
def yQ:uY ["self","row","rank","cell"] xO (uQ xN):=by walk_at "sc"
abbrev CM(q:Cq)(C XO:ci)(k:Nat):=yY q C "must_have_rank" xO (xM C XO) k
def Cc{f:ci}{fd:iH}(F:yN q.K "must_have_rank" "Body.must_have_rank" xN f fd)(ct:zR q.K C)(JJ:Xc q.K q.mg "OtherRank" XO):Gq q 2 f fd xO (xM C XO):=by
 refine' u4 (Eh (vz q0q) (D':=(Bd C true)×(List Int)×Int×Un×Unit) (ms:=[0]) (j:=1) F yQ rfl rfl λTL A outer s H E hr =>
   (uT (wI (is:=[]) (mb:=[0]) (D1:=(Bd C true)×(List Int)×Int×Int×Unit) (D2:=(Bd C true)×(List Int)×Int×Int×Unit) (vz q0q) yK rfl (wd (ss 1)) (vr 3 (vf yQ.nd))
   (uT (vF (tw_cm El (DG .rk 0 trivial ct.cl ct.nR (BX hr) (pv 0) (wg 3 (pv 3))) (ss 2))
   (uT<|BY rfl JJ)
   vv)) q0q q0q))) λp Kn Ke h=>?_
 walk_at "wl"
 refine vM (λ(r:List Int)(b:B0 C×List Int×Int×WL.Un×Unit)=>b.1=p.1/\b.2.2.1=p.2.2.1/\vW p.1 r=true/\if Vs p.1 r p.2.2.1=true then Kn () (p.1,#[],#[],()) else Ke XO (p.1,#[],#[],())) p.2.1 #[rfl,rfl,h.1,h.2] ?_ ?_
 ·rintro c r b _ ⟨e1,e2,hi,hb⟩ K2 hK;rw[ES,iJ]at hi;rw[RG]at hb;obtain⟨v,hv⟩:=Option.isSome_iff_exists.mp hi.1;refine#[v,by rw[e1];exact hv,?_];rw[hv]at hb;rw[e2];by_cases q:v=p.2.2.1
  ·rw[gM<|by simp[q]];refine hK _ #[e1,rfl,hi.2,?_];rw[q]at hb;simpa using hb
  ·rw[gN (by simp[q]),e1];rw[gM<|by simp[q]]at hb;exact hb
 ·rintro b ⟨e1,_,_,hb⟩;rw[e1];exact hb
noncomputable abbrev Aw:il:=AY (top 26) 9
abbrev wG:List Str:=["self","row"]
def Hx:uY ["self","row"] wG (uQ Aw):=by walk_at "sc"
def FM:(["cell","self"]:List Str).Nodup:=by decide +kernel
abbrev Di(q:Cq)(C XS XC:ci)(k:Nat):=yY q C "border_of" wG (ya C XS XC) k
def Hy{f:ci}{fd:iH}(F:yN q.K "border_of" "Body.border_of" Aw f fd)(ct:zR q.K C)(Vu:wZ q "total" ["rows"] Nb 3)(JK:Av q C XS XC 3):Gq q 4 f fd wG (ya C XS XC):=by
 refine' u4 (wq (D':=Unit) (ms:=[0]) (j:=0) F Hx rfl rfl λTL A outer s H E hr =>
   (vg (vT (vd (vY 0 JK (uU (ss 1) uS))))
   (uT (vi (vh Vu (uU (vy (wP (Ts:=["cell"]) (Fr:=["self"]) (idx:=[0]) (k:=1) (mb:=[1]) (is:=[]) (cl:=[("self",⇑s+1)]) rfl (wd (ss 1)) Ri rfl (wC rfl) (λs₀ H₀ C ex pn=>(vr 0 (vf FM))) (λs₀ H₀ C ex pn=>tws_nil) (λs₀ H₀ C ex pn=>(AQ 1 ct.cl ct.nB (BX hr) (pv 1) (wg 0 (pv 0)))))) uS)))))) λp Kn Ke h=>?_
 walk_at "wl"
 obtain⟨ok,h⟩:=h;show if asc p.2.1=true then (if vW p.1 p.2.1=true then _ else Ke XC 58) else Ke XS 58;by_cases ha:asc p.2.1=true
 ·rw[gN ha]at h ⊢;by_cases hb:vW p.1 p.2.1=true
  ·rw[gN hb]at h ⊢
   have lkb:∀c∈p.2.1,lk p.1.bd c=↑(wE p.1 c):=λc hc=>by obtain⟨v,hv⟩:=Option.isSome_iff_exists.mp<|ok.kb c<|List.all_eq_true.mp hb c hc;unfold wE;rw[hv];rfl
   refine#[OD ok ha hb,vZ (f:=λc=>some<|Tp.mk<|wE p.1 c) (λc hc K hk=>#[wE p.1 c,lkb c hc,hk]) ?_];refine#[yL 0 63,by rw[wO];decide,λr hr=>?_,?_]
   ·obtain⟨c,hc,e⟩:=List.mem_filterMap.mp hr;cases e;obtain⟨g1,g2⟩:=ok.bo c _<|lkb c hc;exact⟨g1,λx hx=>zD (g2 x hx).1 (g2 x hx).2⟩
   ·have e:((p.2.1.filterMap λc=>some<|Tp.mk<|wE p.1 c).map (·.l))=p.2.1.map (wE p.1):=by rw[show (λc=>some<|Tp.mk<|wE p.1 c)=some∘(λc=>Tp.mk<|wE p.1 c) from rfl,List.filterMap_eq_map,kj];rfl
    rw[e];exact h
  ·rw[gM hb]at h ⊢;exact h
 ·rw[gM ha]at h ⊢;exact h
noncomputable abbrev Hz:il:=AY (top 26) 4
noncomputable abbrev yR:List Str:=["self"]
def RH:uY ["self"] yR (uQ Hz):=by walk_at "sc"
abbrev Nd(q:Cq)(C:ci)(k:Nat):=yY q C "cells" yR (DO C) k
def RI(F:yN q.K "cells" "Body.cells" Hz f d)(b:zR q.K C)(B:Bn q.mg):Gq q 2 f d yR (DO C):=by
 refine' u4 (wq (D':=Unit) (ms:=[0]) (j:=0) F RH rfl rfl λe A a s H E g =>
   (uT (vi (EB .rk 0 trivial b.cl b.nR rfl rfl B.sorted (pv 0))))) λp i k h=>?_
 walk_at "wl"
 obtain⟨c,h⟩:=h;exact#[c.lr,by rw[<- Ej (oP _) c.ri];exact h]
noncomputable abbrev Lu:il:=AY (top 26) 8
abbrev Ax:List Str:=["self","cell"]
def Vv:uY ["self","cell"] Ax (uQ Lu):=by walk_at "sc"
def RJ:(["high","cell","self"]:List Str).Nodup:=by decide +kernel
abbrev YM(q:Cq)(C XC:ci)(k:Nat):=yY q C "over" Ax (Hu C XC) k
def Vw(F:yN q.K "over" "Body.over" Lu f u)(m:zR q.K C)(a:wz q C XC 3)(b:Nd q C 3):Gq q 4 f u Ax (Hu C XC):=by
 refine' u4 (wq (D':=Unit) (ms:=[0]) (j:=0) F Vv rfl rfl λw A i s H E x =>
   (vg (vT (vd (vY 0 a (uU (ss 1) uS))))
   (uT (vi (wP (Ts:=["high"]) (Fr:=["cell","self"]) (idx:=[1,0]) (k:=1) (mb:=[1,2]) (is:=[]) (cl:=[("self",⇑s+1),("cell",⇑s+1+1)]) rfl (wd (vy (Dh 0 b))) bs2 rfl (wC rfl) (λc d C n o=>(vr 0 (vf RJ))) (λc d C n o=>(tws_one (tw_inT (ss 1) (AQ 2 m.cl m.nB (BX x) (pv 2) (wg 0 (pv 0))) (by with_unfolding_all rfl)))) (λc d C n o=>(ss 0))))))) λp B y h=>?_
 walk_at "wl"
 obtain⟨l,h⟩:=h;show if (lk p.1.rk p.2.1).isSome=true then _ else y XC 58;by_cases r:(lk p.1.rk p.2.1).isSome=true
 ·rw[gN r]at h ⊢;refine#[l,?_,?_]
  ·show (p.1.rk.map (·.1)).length<=gS;rw[gV];have:=l.lr;exact vO q0a
  ·refine vZ (f:=λk=>if decide (p.2.1∈wE p.1 k)=true then some k else none) (λk z K g=>?_) ?_
   ·obtain⟨v,t⟩:=Option.isSome_iff_exists.mp<|l.kb k<|xy z;have e:wE p.1 k=v:=by unfold wE;rw[t];rfl
    refine#[v,t,?_];rw[e]at g;show if decide (p.2.1∈v)=true then _ else _;by_cases q:decide (p.2.1∈v)=true
    ·rw[gN q]at g ⊢;exact g
    ·rw[gM q]at g ⊢;exact g
   ·rw[filterMap_filter];exact h
 ·rw[gM r]at h ⊢;exact h
noncomputable abbrev RK:il:=AY (top 26) 1
noncomputable abbrev Dj:List Str:=["self","rank","border"]
def RL:uY ["self","rank","border","cell"] Dj (uQ RK):=by walk_at "sc"
abbrev a0P(q:Cq)(C XB XS XC XO XP:ci)(k:Nat):=yY q C "put" Dj (JI C XB XS XC XO XP) k
def YN(F:yN q.K "put" "Body.put" RK f R)(o:zR q.K C)(e:Av q C XS XC 5)(b:CM q C XO 5)(g:Di q C XS XC 5)(k:Xc q.K q.mg "BadRank" XB)(t:Xc q.K q.mg "Full" YL)(c:Xc q.K q.mg "OpenBorder" XP)(d:q.mg "MOST_CELLS"=↑(.int 120 r))(i:q.mg "TOP_RANK"=↑(.int 12 u))(B:Bn q.mg):Gq q 6 f R Dj (JI C XB XS XC XO XP):=by
 refine' u4 (wq (D':=Unit) (ms:=[0]) (j:=1) F RL rfl rfl λS A I s H E O =>
   (vg (vF (tw_w (A9 (tw_cm QB (ss 1) uW) (zx (tw_cm WR (ss 1) (Q1 rfl i)))))
   (uT<|BY rfl k)
   vv)
   (vg (vT (vd (vY 0 e (uU (ss 2) uS))))
   (vg (vT (vd (vY 0 b (uU (ss 2) (uU (AI Ki (ss 1) uW) uS)))))
   (vg (vF (tw_trueO (vY 0 g (uU (ss 2) uS)))
   (uT<|BY rfl c)
   vv)
   (vg (vF (tw_cm WT (UW .rk 0 trivial o.cl o.nR rfl B.len (pv 0)) (Q1 rfl d))
   (uT<|BY rfl t)
   vv)
   (vg (vj 3 RL.nd (vq (WX 0 o.cl o.nU (pv 0))))
   (vg (He .rk 0 trivial o.cl o.nR (BX O) (pv 0) (wg 3 (pv 3)) (ss 1))
   (vg (UX 0 o.cl o.nB (BX O) (pv 0) (wg 3 (pv 3)) (UZ rfl B.tuple (vQ (ss 2))))
   (vg (a0s 0 o.cl o.nU (pv 0) (AI zX (ss 3) uW))
   (uT (vi (vq (ss 3)))))))))))))) λp P m h=>?_
 walk_at "wl"
 obtain⟨J,L,h⟩:=h
 have M:(if asc p.2.2.1=true then (if vW p.1 p.2.2.1=true then (if Vs p.1 p.2.2.1 (p.2.1-1)=true then
  (if Pf (p.2.2.1.map (wE p.1))=[] then P p.1.up ({ p.1 with rk:=pk p.1.rk p.1.up p.2.1,bd:=pk p.1.bd p.1.up p.2.2.1,up:=p.1.up+1},#[],#[],()) else m XP (p.1,#[],#[],())) else m XO (p.1,#[],#[],())) else m XC (p.1,#[],#[],())) else m XS (p.1,#[],#[],())) ->
  Ap C XS XC (p.1,p.2.2.1,()) (λy v=>xM C XO (v.1,p.2.2.1,p.2.1-1,()) (λy w=>ya C XS XC (w.1,p.2.2.1,()) (λy a =>
   if (!y.l.isEmpty)=true then m XP (a.1,#[],#[],()) else if decide (120<=(a.1.rk.length:Int))=true then m YL (a.1,#[],#[],()) else a.1.rk.length<gS/\a.1.bd.length<gS/\lk a.1.bd a.1.up=none /\
    P a.1.up ({ a.1 with rk:=pk a.1.rk a.1.up p.2.1,bd:=pk a.1.bd a.1.up p.2.2.1,up:=a.1.up+1},#[],#[],()))
   λn v=>m n (v.1,#[],#[],())) λn v=>m n (v.1,#[],#[],())) λn v=>m n (v.1,#[],#[],()):=by
  intro h;show if asc p.2.2.1=true then (if vW p.1 p.2.2.1=true then _ else m XC (p.1,#[],#[],())) else m XS (p.1,#[],#[],());by_cases N:asc p.2.2.1=true
  ·rw[gN N]at h ⊢;by_cases x:vW p.1 p.2.2.1=true
   ·rw[gN x]at h ⊢;refine#[x,?_];by_cases Q:Vs p.1 p.2.2.1 (p.2.1-1)=true
    ·rw[gN Q]at h ⊢;refine#[J,?_];rw[gN N,gN x];by_cases hd:Pf (p.2.2.1.map<|wE p.1)=[]
     ·rw[gN hd]at h;have T:=J.lr;have U:=J.lb;have z:gS=16777216:=iY;rw[hd,gM q0o,gM<|by simp;lia];exact#[(by show p.1.rk.length<gS;lia),(by show p.1.bd.length<gS;lia),L,h]
     ·rw[gM hd]at h;rw[gN<|by simpa using hd];exact h
    ·rw[gM Q]at h ⊢;exact h
   ·rw[gM x]at h ⊢;exact h
  ·rw[gM N]at h ⊢;exact h
 by_cases D:p.2.1<0
 ·rw[gN<|decide_eq_true D,gN rfl];rw[gN<|.inl D]at h;exact h
 ·rw[gM<|by simpa using D];by_cases G:12<p.2.1
  ·rw[gN<|decide_eq_true G];rw[gN<|.inr G]at h;exact h
  ·rw[gM<|by simpa using G];rw[gM (by intro z;rcases z with z|z;exact D z;exact G z)]at h;exact M h
noncomputable abbrev Lv:il:=AY (top 26) 2
abbrev Ay:List Str:=["self","cell"]
def Vx:uY ["self","cell"] Ay (uQ Lv):=by walk_at "sc"
def Vy(F:yN q.K "take" "Body.take" Lv f m)(d:zR q.K C)(c:YM q C XC 5)(b:Xc q.K q.mg "Covered" XV):Gq q 6 f m Ay (Hv C XC XV):=by
 refine' u4 (Eh (vz q0q) (D':=(Bd C true)×Int×Unit) (ms:=[0]) (j:=0) F Vx rfl rfl λn A g s H E o =>
   (vg (vF (tw_trueO (vY 0 c (uU (ss 1) uS)))
   (uT<|BY rfl b)
   vv)
   (vg (MY .rk 0 trivial d.cl d.nR (pv 0) (wg 1 (pv 1)) (λi k=>GI i k))
   (uT (UY 0 d.cl d.nB (pv 0) (wg 1 (pv 1)) (λi k=>GI i k)))))) λp t u h=>?_
 walk_at "wl"
 obtain⟨l,h⟩:=h;refine#[l,?_];by_cases e:(lk p.1.rk p.2.1).isSome=true
 ·rw[gN e]at h ⊢
  cases q:YK p.1 p.2.1 with
  |nil =>
   rw[q,gN rfl]at h;exact#[e,l.kb _ e,h]
  |cons a r =>
   rw[q,gM q0o]at h;exact h
 ·rw[gM e]at h ⊢;exact h
abbrev ET:il:=AY (top 26) 3
abbrev yb:List Str:=["self","cell"]
def OE:uY ["self","cell"] yb (uQ ET):=by walk_at "sc"
abbrev RM(q:Cq)(C:ci)(k:Nat):=yY q C "stands" yb (B7 C) k
def OF(F:yN q.K "stands" "Body.stands" ET f c)(b:zR q.K C):Gq q 2 f c yb (B7 C):=by
 refine' u4 (wq (D':=Unit) (ms:=[0]) (j:=0) F OE rfl rfl λd A a s H E e =>
   (uT (vi (vq (K9 .rk false 0 trivial b.cl b.nR (BX e) (ss 1) (pv 0)))))) λp g i h=>?_
 walk_at "wl"
 exact h
abbrev EU:il:=AY (top 26) 5
abbrev yc:List Str:=["self"]
def OG:uY ["self"] yc (uQ EU):=by walk_at "sc"
abbrev RN(q:Cq)(C:ci)(k:Nat):=yY q C "coming" yc (B8 C) k
def OH(F:yN q.K "coming" "Body.coming" EU f c)(b:zR q.K C):Gq q 2 f c yc (B8 C):=by
 refine' u4 (wq (D':=Unit) (ms:=[0]) (j:=0) F OG rfl rfl λd A a s H E e =>
   (uT (vi (vq (WX 0 b.cl b.nU (pv 0)))))) λp g i h=>?_
 walk_at "wl"
 exact h
abbrev HA:il:=AY (top 26) 6
abbrev yS:List Str:=["self","cell"]
def RO:uY ["self","cell"] yS (uQ HA):=by walk_at "sc"
abbrev Vz(q:Cq)(C XC:ci)(k:Nat):=yY q C "rank" yS (B9 C XC) k
def RP(F:yN q.K "rank" "Body.rank" HA f e)(c:zR q.K C)(a:wz q C XC 2):Gq q 3 f e yS (B9 C XC):=by
 refine' u4 (wq (D':=Unit) (ms:=[0]) (j:=0) F RO rfl rfl λg A b s H E i =>
   (vg (vT (vd (vY 0 a (uU (ss 1) uS))))
   (uT (vi (vq (DG .rk 0 trivial c.cl c.nR (BX i) (pv 0) (wg 1 (pv 1)))))))) λp k d h=>?_
 walk_at "wl"
 have h:if (lk p.1.rk p.2.1).isSome=true then k (Vt p.1 p.2.1) 58 else d XC 58:=h;show if (lk p.1.rk p.2.1).isSome=true then _ else d XC 58;by_cases q:(lk p.1.rk p.2.1).isSome=true
 ·rw[gN q]at h ⊢;exact#[_,a0O q,h]
 ·rw[gM q]at h ⊢;exact h
noncomputable abbrev EX:il:=AY (top 26) 7
abbrev yd:List Str:=["self","cell"]
def OI:uY ["self","cell"] yd (uQ EX):=by walk_at "sc"
abbrev JL(q:Cq)(C XC:ci)(k:Nat):=yY q C "border" yd (Aq C XC) k
def OJ{f:ci}{fd:iH}(F:yN q.K "border" "Body.border" EX f fd)(ct:zR q.K C)(xz:wz q C XC 2)(B:Bn q.mg):Gq q 3 f fd yd (Aq C XC):=by
 refine' u4 (wq (D':=Unit) (ms:=[0]) (j:=0) F OI rfl rfl λTL A outer s H E hr =>
   (vg (vT (vd (vY 0 xz (uU (ss 1) uS))))
   (uT (vi (Q0 rfl B.list (AQ 0 ct.cl ct.nB (BX hr) (pv 0) (wg 1 (pv 1)))))))) λp Kn Ke h=>?_
 walk_at "wl"
 obtain⟨ok,h⟩:=h;show if (lk p.1.rk p.2.1).isSome=true then _ else Ke XC 58;by_cases q:(lk p.1.rk p.2.1).isSome=true
 ·rw[gN q]at h ⊢;exact#[_,Ba ok q,h]
 ·rw[gM q]at h ⊢;exact h
end
section
variable(C:ci)
noncomputable def wK{C:ci}(x:B0 C)(c:Int):Bool:=(lk x.ht c).isSome||(lk x.th c).isSome
noncomputable def Cd{C:ci}(x:B0 C)(low high:Int):List Int:=(wE x high).filter λf=>decide (f≠low)&&(lk x.ht f).isSome
noncomputable def v7{C:ci}(x:B0 C)(t:Int):Int:=(lk x.ht t).getD 0
noncomputable def vV{C:ci}(x:B0 C):List Int:=x.ht.map (·.1)
def Zj{C:ci}(x:B0 C):Prop:=∃r:Int->Nat,∀l∈vV x,∀t∈Cd x l (v7 x l),r l<r t
structure AR{C:ci}(x:B0 C):Prop where
 ok:RF x
 nd:(vV x).Nodup
 len:x.ht.length<64
 a0Q:x.th.length<64
 ht:∀l h,lk x.ht l=↑h->(lk x.rk l).isSome=true/\(lk x.rk h).isSome=true/\l∈wE x h/\lk x.th h=↑l
 th:∀l h,lk x.th h=↑l->lk x.ht l=↑h
 one:∀c,(lk x.ht c).isSome=true->(lk x.th c).isSome=true->False
 acy:Zj x
noncomputable def Fq{C:ci}(x:B0 C)(low high:Int):B0 C:={ x with ht:=pk x.ht low high,th:=pk x.th high low}
def Gp:Wf (B0 C×Int×Unit) Bool (B0 C×Un×Unit):=λp a _=>a (wK p.1 p.2.1) 58
def HB:Wf (B0 C×Int×Int×Unit) (OL Int) (B0 C×Un×Un×Unit):=λp a _ =>
 (lk p.1.bd p.2.2.1).isSome=true/\(wE p.1 p.2.2.1).length<=gS/\a #[Cd p.1 p.2.1 p.2.2.1] (p.1,#[],#[],())
def Nf:Wf (B0 C×Unit) (OL Int) (B0 C×Unit):=λp a _=>p.1.ht.length<64/\(vV p.1).Nodup/\a #[Af<|vV p.1] (p.1,())
def JM:Wf (B0 C×Unit) (OL<|Int×Int) (B0 C×Unit):=λp a _=>p.1.ht.length<64/\(vV p.1).Nodup/\a #[(Af<|vV p.1).map λl=>(l,v7 p.1 l)] (p.1,())
def Gr(a:ci):Wf (B0 C×Int×Unit) (Option Int) (B0 C×Un×Unit):=λp b c =>
 if (lk p.1.rk p.2.1).isSome=true then b (lk p.1.ht p.2.1) 58 else c a 58
def HC(b c:ci):Wf (B0 C×Int×Unit) Int (B0 C×Un×Unit):=λp d a =>
 AR p.1/\if (lk p.1.rk p.2.1).isSome=true then (if (lk p.1.ht p.2.1).isSome=true then d (v7 p.1 p.2.1) ({ p.1 with ht:=dk p.1.ht p.2.1,th:=dk p.1.th (v7 p.1 p.2.1)},#[],()) else a c 58) else a b 58
def zh:Wf (Dc (Option Int)×Int×Unit) (OL Int) (Dc (Option Int)×Un×Unit):=λp a _ =>
 (∃m:Int->Nat,(∀k,m k<1000)/\(lk p.1.l p.2.1).isSome=true/\∀k e,lk p.1.l k=↑(some e)->(lk p.1.l e).isSome=true/\m e<m k)/\∀r:List Int,r≠[]->a #[r] 58
def Dk:Wf (B0 C×Int×Int×Unit) (OL Int) (B0 C×Un×Un×Unit):=λp a _ =>
 AR p.1/\(lk p.1.rk p.2.2.1).isSome=true/\wK p.1 p.2.1=false/\wK p.1 p.2.2.1=false/\∀r:List Int,(r=[]->Zj (Fq p.1 p.2.1 p.2.2.1))->a #[r] (p.1,#[],#[],())
def RQ(b c d e:ci):Wf (B0 C×Int×Int×Unit) Unit (B0 C×Un×Un×Unit):=λp f a =>
 AR p.1/\if (lk p.1.rk p.2.1).isSome=true then (if (lk p.1.rk p.2.2.1).isSome=true then (if p.2.1∈wE p.1 p.2.2.1 then (if wK p.1 p.2.1=true\/wK p.1 p.2.2.1=true then a d (p.1,#[],#[],())
  else a e (p.1,#[],#[],())/\(Zj (Fq p.1 p.2.1 p.2.2.1)->f () (Fq p.1 p.2.1 p.2.2.1,#[],#[],()))) else a c (p.1,#[],#[],())) else a b (p.1,#[],#[],())) else a b (p.1,#[],#[],())
structure Ord{C:ci}(x:B0 C)(o:List Int):Prop where
 pm:o.Perm (vV x)
 up:o.Pairwise λa b=>a∉Cd x b (v7 x b)
def Ng:Wf (B0 C×Unit) (OL Int) (B0 C×Unit):=λp a _=>AR p.1/\∀o,Ord p.1 o->a #[o] (p.1,())
noncomputable def Bu{C:ci}(x:B0 C)(s:List Int×List Int)(t:Int):List Int×List Int:=if t∈s.1 then (xr s.1<|wE x<|v7 x t,s.2++[v7 x t]) else s
end
def w9{j:Int}:lk (e::l) j=if e.1=j then some e.2 else lk l j:=by
 by_cases q:e.1=j
 ·rw[gN q];unfold lk;rw[iQ,decide_eq_true q];rfl
 ·rw[gM q];unfold lk;rw[iQ,ie q]
def Lw{k j:Int}:∀{l:List (Int×c)},lk l k=none->lk (l++[(k,v)]) j=if j=k then some v else lk l j:=by
 intro b
 induction b with
 |nil =>
  intro _;rw[nq,w9];by_cases q:j=k
  ·rw[gN q,gN q.symm]
  ·rw[gM q,gM<|λz=>q z.symm]
 |cons e l a =>
  intro h;rw[w9]at h;by_cases z:e.1=k
  ·rw[gN z]at h;cases h
  ·rw[gM z]at h;rw[List.cons_append,w9,w9,a h];by_cases q:e.1=j
   ·rw[gN q,gN q,gM<|λw=>z<|q.trans w]
   ·rw[gM q,gM q]
def zJ{k:Int}(h:lk l k=none):pk l k v=l++[(k,v)]:=by unfold pk;rw[h];rfl
def Ce{k j:Int}:∀{l:List (Int×d)},lk (dk l k) j=if j=k then none else lk l j:=by
 intro c
 induction c with
 |nil=>unfold dk;rw[List.filter_nil];split<;>rfl
 |cons e l a =>
  have b:=a;unfold dk at b ⊢;rw[ju];by_cases z:e.1=k
  ·rw[gM (by simpa using z),b,w9];by_cases q:j=k
   ·rw[gN q,gN q]
   ·rw[gM q,gM q,gM<|λw=>q<|w.symm.trans z]
  ·rw[gN (by simpa using z),w9,w9,b];by_cases q:e.1=j
   ·rw[gN q,gN q,gM<|λw=>z<|q.trans w]
   ·rw[gM q,gM q]
def YO{k j:Int}:∀{l:List (Int×c)},lk (l.map λe=>if e.1=k then (e.1,v) else e) j=if j=k then (if (lk l k).isSome=true then some v else none) else lk l j:=by
 intro b
 induction b with
 |nil=>simp[lk]
 |cons e l a =>
  rw[im,w9,a,w9,w9];by_cases z:e.1=k
  ·rw[gN z,gN z];by_cases q:j=k
   ·subst q;simp[z]
   ·have:¬e.1=j:=λw=>q<|w.symm.trans z;simp[q,this]
  ·rw[gM z,gM z];by_cases q:e.1=j
   ·have:¬j=k:=λw=>z<|q.trans w;simp[q,this]
   ·simp[q]
def yo{k j:Int}:lk (pk l k v) j=if j=k then some v else lk l j:=by
 unfold pk
 cases q:(lk l k).isSome with
 |true=>rw[gN rfl,YO,q];simp
 |false =>
  rw[gM q0o,Lw<|by simpa using q]
def Nh{a:Type}{l:List (Int×a)}{k:Int}(h:k∉l.map (·.1)):lk l k=none:=by
 cases e:lk l k with
 |none=>rfl
 |some v=>exact hV (zF<|by rw[e];rfl) h
def Az{a:Type}{k:Int}{l:List (Int×a)}:(lk l k).isSome=true↔k∈l.map (·.1):=#[zF,xy]
def Ni{c t:Int}:∀{l:List Int},t∈l->lk (l.map λk=>(k,c)) t=↑c
 |a::l,h=>by
  rw[im,w9];by_cases q:a=t
  ·rw[gN q]
  ·rw[gM q];exact Ni<|(List.mem_cons.mp h).elim (λz=>hV z.symm q) id
def Dl{b:Type}{p q:b->Bool}(h:∀t,q t=true->p t=true):∀{l:List b},(l.filter q).length<=(l.filter p).length
 | []=>gQ _
 |a::l=>by
  have:=Dl h (l:=l);rw[ju,ju];by_cases z:q a=true
  ·rw[gN z,gN<|h a z];simpa using this
  ·rw[gM z];split<;>simp<;>lia
def filter_lt{b:Type}{p q:b->Bool}(h:∀t,q t=true->p t=true){x:b}(c:p x=true)(d:q x=false):∀{l:List b},x∈l->(l.filter q).length+1<=(l.filter p).length
 |a::l,m=>by
  rw[ju,ju];rcases List.mem_cons.mp m with z|z
  ·subst z;rw[d,c,gM q0o,gN rfl];have:=Dl h (l:=l);simp;lia
  ·have:=filter_lt h c d z;by_cases w:q a=true
   ·rw[gN w,gN<|h a w];simp;lia
   ·rw[gM w];split<;>simp<;>lia
def RS{r:Int->Nat}{t:Int}:∀{l:List Int},t∈l->r t<=(l.map r).sum
 |a::l,h=>by
  rw[im,List.sum_cons];rcases List.mem_cons.mp h with z|z
  ·rw[z];lia
  ·have:=RS (r:=r) z;lia
section
variable{C:ci}{x:B0 C}
def wD{l:Int}(h:l∈vV x):lk x.ht l=↑(v7 x l):=by obtain⟨v,e⟩:=Option.isSome_iff_exists.mp<|xy h;unfold v7;rw[e];rfl
def xf{l h t:Int}:t∈Cd x l h↔t∈wE x h/\t≠l/\t∈vV x:=by unfold Cd vV;rw[jo,iJ,iU,Az]
def AR.Iz(a:AR x){l:Int}(h:l∈vV x):(lk x.rk<|v7 x l).isSome=true:=(a.ht l _<|wD h).2.1
def AR.bl(a:AR x){c:Int}(h:(lk x.rk c).isSome=true):(wE x c).length<=gS:=by
 have:=(a.ok.bo c _<|Ba a.ok h);have:=wp (U:=yL 0 63) this.1 λk b=>zD (this.2 k b).1 (this.2 k b).2;have e:(yL 0 63).length=63:=by decide
 exact vO q0a
def VA{low high:Int}{V:List Int}(v:AR x)(o:low∉vV x)(f:low∈V)(E:∀k∈V,k≠low->k∈vV x)
 (p:∀k∈V,(k≠low->low∉wE x (v7 x k))/\∀t∈Cd x k (if k=low then high else v7 x k),t∈V):Zj (Fq x low high):=by
  obtain⟨r,u⟩:=v.acy
  have c:∀{t:Int},t∈vV (Fq x low high)↔t=low\/t∈vV x:=λ{t}=>by
    show t∈(pk x.ht low high).map (·.1)↔_
    rw[<- Az,yo]
    by_cases q:t=low
    · simp[q]
    · rw[gM q, Az]; simp[q, vV]
  have y:∀l,v7 (Fq x low high) l=if l=low then high else v7 x l:=λl=>by
    unfold v7 Fq
    rw[yo]
    split<;>rfl
  have A:∀{l h t:Int},t∈Cd (Fq x low high) l h↔t∈wE x h/\t≠l/\(t=low\/t∈vV x):=λ{l h t}=>by
    rw[xf,c];exact Iff.rfl
  refine#[λt=>if t∈V then (if t=low then ((vV x).map r).sum+1 else ((vV x).map r).sum+2+r t) else r t,λl g t a=>?_]
  rw[y]at a
  have a:=A.mp a
  have i:∀k,k∈vV x->r k<=((vV x).map r).sum:=λk B=>RS B
  dsimp only
  by_cases b:l=low
  · subst b
    rw[gN rfl]at a
    rw[gN f,gN rfl]
    have D:t∈vV x:=a.2.2.elim (λz=>hV z a.2.1) id
    have e:t∈V:=(p l f).2 t (by rw[gN rfl];exact xf.mpr #[a.1,a.2.1,D])
    rw[gN e,gM a.2.1]
    lia
  · rw[gM b]at a
    have j:l∈vV x:=(c.mp g).elim (λz=>hV z b) id
    by_cases m:l∈V
    · rw[gN m, gM b]
      have d:=p l m
      rw[gM b]at d
      rcases a.2.2 with z|z
      · rw[z]at a; exact hV a.1<|d.1 b
      · have s : t ∈ Cd x l (v7 x l) := xf.mpr #[a.1, a.2.1, z]
        have:=u l j t s
        have n:t≠low:=λw=>o<|w▸z
        rw[gN<|d.2 t s,gM n]
        lia
    · rw[gM m]
      have:=i l j
      rcases a.2.2 with z|z
      · subst z
        rw[gN f,gN rfl]
        lia
      · have s : t ∈ Cd x l (v7 x l) := xf.mpr #[a.1, a.2.1, z]
        have:=u l j t s
        have n:t≠low:=λw=>o<|w▸z
        by_cases e:t∈V
        · rw[gN e, gM n]; lia
        · rw[gM e]; lia
noncomputable def Ph(x:B0 C)(e:List (Int×Option Int)):Nat:=((vV x).filter λt=>!(lk e t).isSome).length
structure Rw(x:B0 C)(low:Int)(e:List (Int×Option Int))(ws:List Int)(D:Int->List (Int×Option Int)->Prop):Prop where
 lo:(lk e low).isSome=true
 tl:∀k,(lk e k).isSome=true->k≠low->k∈vV x
 wk:∀k∈ws,(lk e k).isSome=true
 dn:∀k,(lk e k).isSome=true->k∉ws->D k e
 ch:∃mm:Int->Nat,(∀k,mm k<=e.length)/\∀k t,lk e k=↑(some t)->(lk e t).isSome=true/\mm t<mm k
 sz:e.length+Ph x e<=64
def Rw.add{low:Int}{a t0:Int}(R:Rw x low e p D)(m:a∈vV x)(d:lk e a=none)(i:(lk e t0).isSome=true)(b:∀k,(lk e k).isSome=true->D k e->D k (pk e a<|↑t0)) :
  Rw x low (pk e a<|↑t0) (p++[a]) D/\Ph x (pk e a<|↑t0)+1<=Ph x e:=by
 have r:Ph x (pk e a<|↑t0)+1<=Ph x e:=by
  refine filter_lt (x:=a) (λt h=>?_) (by rw[d];rfl) (by rw[yo,gN rfl];rfl) m;rw[yo]at h;by_cases q:t=a
  ·rw[gN q]at h;simp at h
  ·rw[gM q]at h;exact h
 have f:∀k,(lk e k).isSome=true->(lk (pk e a<|some t0) k).isSome=true:=λk h=>by
  rw[yo];split
  ·rfl
  ·exact h
 have j:∀k,k≠a->lk (pk e a<|some t0) k=lk e k:=λk h=>by rw[yo,gM h]
 have c:(pk e a<|↑t0).length=e.length+1:=by rw[zJ d];simp
 refine#[#[f _ R.lo,λk h n=>?_,λk h=>?_,λk h n=>?_,?_,by rw[c];have:=R.sz;lia],r]
 ·by_cases q:k=a
  ·rw[q];exact m
  ·rw[j k q]at h;exact R.tl k h n
 ·rcases List.mem_append.mp h with z|z
  ·exact f _<|R.wk k z
  ·rw[List.mem_singleton.mp z,yo,gN rfl];rfl
 ·have q:k≠a:=λz=>n (by rw[z];simp);rw[j k q]at h;exact b k h<|R.dn k h λz=>n<|i8 _ z
 ·obtain⟨s,o,u⟩:=R.ch;refine#[λk=>if k=a then e.length+1 else s k,λk=>?_,λk t h=>?_]
  ·rw[c];dsimp only;split
   ·exact gQ _
   ·have:=o k;lia
  ·by_cases q:k=a
   ·rw[q,yo,gN rfl]at h;injection h with h;injection h with h;subst h;have l:t0≠a:=λz=>by rw[z,d]at i;cases i
    refine#[f _ i,?_];dsimp only;rw[gN q,gM l];have:=o t0;lia
   ·rw[j k q]at h;have g:=u k t h;have l:t≠a:=λz=>by rw[z,d]at g;cases g.1
    refine#[f _ g.1,?_];dsimp only;rw[gM q,gM l];exact g.2
def Nj(x:B0 C)(low high:Int)(k:Int)(e:List (Int×Option Int)):Prop:=(k≠low->low∉wE x (v7 x k))/\∀t∈Cd x k (if k=low then high else v7 x k),(lk e t).isSome=true
def RT{low high:Int}(b:AR x):Rw x low [(low,none)] [low] (Nj x low high):=by
 have a:∀k,(lk ([(low,none)]:List (Int×Option Int)) k).isSome=true->k=low:=λk h=>by have:=zF h;simpa using this
 refine#[xy q0o,λk h n=>hV (a k h) n,λk h=>xy (by simpa using h),λk h n=>hV (a k h) (by simpa using n),#[λ_=>0,λ_=>i9 _,λk t h=>?_],?_]
 ·rw[w9]at h;by_cases q:low=k
  ·rw[gN q]at h;cases h
  ·rw[gM q]at h;cases h
 ·have:=b.len;have g:Ph x [(low,none)]<=(vV x).length:=iq _ _;have e:(vV x).length=x.ht.length:=gV _;simp only[ii]
  lia
def a2L{low:Int}(a:AR x):2*Ph x [(low,none)]+[low].length<=200:=by
 have:=a.len;have g:Ph x [(low,none)]<=(vV x).length:=iq _ _;have e:(vV x).length=x.ht.length:=gV _;simp only[ii]
 lia
noncomputable def Lx(x:B0 C)(a:List Int):List Int:=(vV x).filter λt=>decide<|t∉a
noncomputable def cnt(x:B0 C)(a:List Int)(t:Int):Int:=((a.filter λl=>decide<|t∈Cd x l (v7 x l)).length:Int)
def yT{t:Int}:t∈Lx x a↔t∈vV x/\t∉a:=by unfold Lx;rw[jo,iU]
def cnt_cons{l t:Int}:cnt x (l::a) t=cnt x a t+if t∈Cd x l (v7 x l) then 1 else 0:=by
 unfold cnt;rw[ju];by_cases q:t∈Cd x l (v7 x l)
 ·rw[gN<|decide_eq_true q,gN q];simp
 ·rw[gM (by simpa using q),gM q];simp
def JN{a:List Int}{t:Int}(h:a.Perm b):cnt x a t=cnt x b t:=by unfold cnt;rw[(h.filter _).length_eq]
def YQ{t:Int}:0<=cnt x a t:=by unfold cnt;lia
def RU{t:Int}(h:cnt x a t=0):∀l∈a,t∉Cd x l (v7 x l):=λl b q=>by unfold cnt at h;have:(a.filter λl=>decide<|t∈Cd x l (v7 x l))=[]:=List.length_eq_zero_iff.mp q0a;have m:l∈(a.filter λl=>decide<|t∈Cd x l (v7 x l)):=List.mem_filter.mpr #[b,decide_eq_true q];rw[this]at m;cases m
def Nk{t:Int}(h:cnt x a t≠0):∃l∈a,t∈Cd x l (v7 x l):=by
 unfold cnt at h
 cases e:(a.filter λl=>decide<|t∈Cd x l (v7 x l)) with
 |nil=>rw[e]at h;exact hV rfl h
 |cons l r =>
  have m:l∈(a.filter λl=>decide<|t∈Cd x l (v7 x l)):=by rw[e];exact gR
  have:=List.mem_filter.mp m;exact#[l,this.1,jV this.2]
def Ly{a b:List Int}(h:a.Nodup)(c:b.Nodup)(s:∀k∈a,k∈b):a.length<=b.length:=by
 have p:a.Perm (b.filter λk=>decide<|k∈a):=wn h (c.filter _) λk=>by rw[jo,iU];exact#[λz=>#[s k z,z],λz=>z.2]
 rw[p.length_eq];exact iq _ _
def Nl{a:Type}{l:List (Int×a)}{k:Int}{v:a}(h:(lk l k).isSome=true):(pk l k v).map (·.1)=l.map (·.1):=by unfold pk;rw[gN h,kj];refine l8 λe _=>?_;dsimp only[uy];split<;>rfl
structure Kh(x:B0 C)(u:List (Int×Int))(ready told r2:List Int):Prop where
 ks:u.map (·.1)=vV x
 nd:(told++ready).Nodup
 st:∀t∈told++ready,t∈vV x
 ct:∀t∈vV x,lk u t=↑(cnt x (Lx x told) t+if t∈r2 then 1 else 0)
 rd:∀t∈vV x,t∉told->(t∈ready↔cnt x (Lx x told) t+(if t∈r2 then 1 else 0)=0)
 bk:∀a∈told,∀l∈vV x,l∉told->a∉Cd x l (v7 x l)
 od:told.Pairwise λa b=>a∉Cd x b (v7 x b)
def VB{y:Int}(b:AR x)(c:y∈vV x)(d:y∉a):(Lx x a).Perm (y::Lx x (a++[y])):=by
 refine wn (b.nd.filter _) (List.nodup_cons.mpr #[λz=>(yT.mp z).2 q0o,b.nd.filter _]) λk=>?_;rw[yT,io,yT,lj,mq];by_cases q:k=y
 ·subst q;exact#[λ_=>.inl rfl,λ_=>#[c,d]]
 ·simp[q]
def Kh.pop{y:Int}(n:AR x)(K:Kh x u (f++[y]) c []):Kh x u f (c++[y]) (Cd x y<|v7 x y):=by
 have g:y∈vV x:=K.st y q0o;have o:=List.nodup_append.mp K.nd;have h:y∉c:=λz=>o.2.2 y z y q0o rfl;have q:=VB n g h;have j:∀t,cnt x (Lx x c) t=cnt x (Lx x<|c++[y]) t+if t∈Cd x y (v7 x y) then 1 else 0:=λt=>by rw[JN q,cnt_cons]
 have r:cnt x (Lx x c) y=0:=by have:=(K.rd y g h).mp q0o;simpa using this
 refine#[K.ks,?_,λt d=>K.st t (by simp only[lj,mq]at d ⊢;rcases d with(z|z)|z<;>simp[z]),λt d=>?_,λt d e=>?_,λa i l k e=>?_,?_]
 ·have p:(c++[y]++f).Perm (c++(f++[y])):=by rw[lA];exact oA c mS
  exact(p.nodup_iff).mpr K.nd
 ·rw[K.ct t d,j t];simp
 ·have s:t∉c:=λz=>e<|i8 _ z;have v:t≠y:=λz=>e (by rw[z];simp);have:=K.rd t d s;rw[j t]at this;rw[lj,mq]at this;simpa[v] using this
 ·have m:l∉c:=λz=>e<|i8 _ z;rcases List.mem_append.mp i with z|z
  ·exact K.bk a z l k m
  ·rw[List.mem_singleton.mp z];exact RU r l<|yT.mpr #[k,m]
 ·rw[List.pairwise_append];refine#[K.od,jL _ _,λa i b w=>?_];rw[List.mem_singleton.mp w];exact K.bk a i y g h
def Kh.step{b v:Int}(K:Kh x u ready c (b::e))(f:b∈vV x)(i:b∉c)(j:b∉e)(k:lk u b=↑v) :
  Kh x (pk u b<|v-1) (if v-1=0 then ready++[b] else ready) c e:=by
 have g:=K.ct b f;rw[k,gN gR]at g;injection g with g
 have l:b∉ready:=λz=>by
  have:=(K.rd b f i).mp z;rw[gN gR]at this;have:=YQ (x:=x) (a:=Lx x c) (t:=b)
  lia
 have d:∀t,t≠b->(if t∈b::e then (1:Int) else 0)=if t∈e then 1 else 0:=λt q=>by simp[q]
 refine#[(Nl<|by rw[k];rfl).trans K.ks,?_,λt h=>?_,λt h=>?_,λt h m=>?_,K.bk,K.od]
 ·split
  ·have p:(c++(ready++[b])).Perm (b::(c++ready)):=by rw[<- lA];exact mS
   refine(p.nodup_iff).mpr<|List.nodup_cons.mpr ⟨λz=>?_,K.nd⟩;rcases List.mem_append.mp z with z|z
   ·exact i z
   ·exact l z
  ·exact K.nd
 ·by_cases q:t=b
  ·rw[q];exact f
  ·refine K.st t ?_;rcases List.mem_append.mp h with z|z
   ·exact i8 _ z
   ·by_cases w:v-1=0
    ·rw[gN w]at z;rcases List.mem_append.mp z with z|z
     ·exact ig _ z
     ·exact hV (List.mem_singleton.mp z) q
    ·rw[gM w]at z;exact ig _ z
 ·rw[yo];by_cases q:t=b
  ·rw[gN q,q,gM j];congr 1;lia
  ·rw[gM q,K.ct t h,d t q]
 ·by_cases q:t=b
  ·rw[q,gM j];by_cases w:v-1=0
   ·rw[gN w];exact#[λ_=>by lia,λ_=>by simp]
   ·rw[gM w];exact#[λz=>hV z l,λz=>hV q0a w]
  ·have:=K.rd t h m;rw[d t q]at this;rw[<- this];by_cases w:v-1=0
   ·rw[gN w];simp[q]
   ·rw[gM w]
def Kh.done(f:AR x)(K:Kh x u [] a []):Ord x a:=by
 obtain⟨r,g⟩:=f.acy
 have c:∀n t,r t<=n->t∈vV x->t∈a:=by
  intro n
  induction n with
  |zero =>
   intro t i d;by_cases q:t∈a
   ·exact q
   ·have:cnt x (Lx x a) t≠0:=λz=>by have:=(K.rd t d q).mpr (by simpa using z);cases this
    obtain⟨l,b,e⟩:=Nk this;have:=g l (yT.mp b).1 t e
    lia
  |succ n j =>
   intro t i d;by_cases q:t∈a
   ·exact q
   ·have:cnt x (Lx x a) t≠0:=λz=>by have:=(K.rd t d q).mpr (by simpa using z);cases this
    obtain⟨l,b,e⟩:=Nk this;have:=g l (yT.mp b).1 t e;exact hV (j l q0a (yT.mp b).1) (yT.mp b).2
 have h:=K.nd;rw[kH]at h;exact#[wn h f.nd λk=>#[λz=>K.st k (by simpa using z),λz=>c _ k (gQ _) z],K.od]
def Kh.len(b:AR x)(K:Kh x u ready a d):ready.length<=63/\a.length<=63/\u.length<=63:=by
 have e:(vV x).length=x.ht.length:=gV _;have:=b.len;have c:=Ly K.nd b.nd K.st;rw[hO]at c;have f:u.length=(vV x).length:=by rw[<- K.ks,gV]
 lia
def RV(a:AR x){l h:Int}(b:(lk x.rk h).isSome=true):(Cd x l h).Nodup:=by exact(ve (a.ok.bo h _<|Ba a.ok b).1).filter _
end
section
variable{q:Cq}{C XC XS XO XB XP XV YL XF XT XN XR XL:ci}
noncomputable abbrev CN:il:=AY (top 28) 22
noncomputable abbrev CO:List Str:=["self","cell"]
def Lz:uY ["self","cell"] CO (uQ CN):=by walk_at "sc"
abbrev CP(q:Cq)(C:ci)(k:Nat):=yY q C "is_tied" CO (Gp C) k
def LA(F:yN q.K "is_tied" "Field.is_tied" CN f g)(b:zR q.K C)(c:Pg q.K C):Gq q 2 f g CO (Gp C):=by
 refine' u4 (wq (D':=Unit) (ms:=[0]) (j:=0) F Lz rfl rfl λi A a s H E d =>
   (uT (vi (vq (Z9 (K9 .ht false 0 rfl b.cl c.nH (BX d) (ss 1) (pv 0)) (AN (K9 .th false 0 rfl b.cl c.nT (BX d) (ss 1) (pv 0)))))))) λp k l h=>?_
 walk_at "wl"
 have h:k ((lk p.1.ht p.2.1).isSome||(lk p.1.th p.2.1).isSome) 58:=h;rw[gM g9,gM g9];by_cases e:(lk p.1.ht p.2.1).isSome=true
 ·rw[gN e];rw[e]at h;exact h
 ·rw[gM e];rw[Bool.eq_false_iff.mpr e]at h;exact h
noncomputable abbrev HD:il:=AY (top 28) 24
noncomputable abbrev HE:List Str:=["self","low","high"]
def RX:uY ["self","low","high"] HE (uQ HD):=by walk_at "sc"
def OK:(["face","low","self"]:List Str).Nodup:=by decide +kernel
abbrev Nm(q:Cq)(C:ci)(k:Nat):=yY q C "steps" HE (HB C) k
def RY(F:yN q.K "steps" "Field.steps" HD f r)(d:zR q.K C)(t:Pg q.K C):Gq q 2 f r HE (HB C):=by
 refine' u4 (wq (D':=Unit) (ms:=[0]) (j:=0) F RX rfl rfl λu A g s H E i =>
   (uT (vi (wP (Ts:=["face"]) (Fr:=["low","self"]) (idx:=[1,0]) (k:=1) (mb:=[1,2]) (is:=[]) (cl:=[("self",⇑s+1),("low",⇑s+1+1)]) rfl (QT (AQ 0 d.cl d.nB (BX i) (pv 0) (wg 2 (pv 2)))) bs2 rfl (wC rfl) (λa b C l m=>(vr 0 (vf OK))) (λa b C l m=>(tws_one (tw_w (KW (tw_cm El (ss 0) (ss 1)) (G4 (tw_dIn .ht false 2 rfl d.cl t.nH (BX i) (ss 0) (pv 2))))))) (λa b C l m=>(ss 0)))))) λp w B h=>?_
 walk_at "wl"
 obtain⟨x,n,h⟩:=h;obtain⟨v,o⟩:=Option.isSome_iff_exists.mp x;have e:wE p.1 p.2.2.1=v:=by unfold wE;rw[o];rfl
 rw[e]at n;refine#[v,o,n,?_];refine vU (q:=λf=>decide (f≠p.2.1)&&(lk p.1.ht f).isSome) (λf D K c=>?_) ?_
 ·show if (!decide (f=p.2.1))=true then (if (if false=true then _ else (lk p.1.ht f).isSome)=true then K ↑f _ else K none _) else (if false=true then K ↑f _ else K none _);rw[gM g9,gM g9];by_cases z:f=p.2.1
  ·rw[gM<|by simp[z]];rw[gM<|by simp[z]]at c;exact c
  ·rw[gN<|by simp[z]];by_cases y:(lk p.1.ht f).isSome=true
   ·rw[gN y];rw[gN<|by simp[z,y]]at c;exact c
   ·rw[gM y];rw[gM<|by simp[z,y]]at c;exact c
 ·have h:w #[Cd p.1 p.2.1 p.2.2.1] (p.1,#[],#[],()):=h;unfold Cd at h;rw[e]at h;exact h
noncomputable abbrev HF:il:=AY (top 28) 17
noncomputable abbrev HG:List Str:=["self"]
def RZ:uY ["self"] HG (uQ HF):=by walk_at "sc"
abbrev Nn(q:Cq)(C:ci)(k:Nat):=yY q C "tails" HG (Nf C) k
def R6(F:yN q.K "tails" "Field.tails" HF f b)(c:zR q.K C)(d:Pg q.K C)(B:Bn q.mg):Gq q 2 f b HG (Nf C):=by
 refine' u4 (wq (D':=Unit) (ms:=[0]) (j:=0) F RZ rfl rfl λe A a s H E k =>
   (uT (vi (EB .ht 0 rfl c.cl d.nH rfl rfl B.sorted (pv 0))))) λp l m h=>?_
 walk_at "wl"
 obtain⟨g,n,i⟩:=h;exact#[g,i]
noncomputable abbrev EY:il:=AY (top 28) 20
abbrev EZ:List Str:=["self"]
def OM:uY ["self"] EZ (uQ EY):=by walk_at "sc"
def LB:(["low","self"]:List Str).Nodup:=by decide +kernel
abbrev JO(q:Cq)(C:ci)(k:Nat):=yY q C "arrows" EZ (JM C) k
def ON(F:yN q.K "arrows" "Field.arrows" EY f i)(m:zR q.K C)(n:Pg q.K C)(a:Nn q C 2):Gq q 3 f i EZ (JM C):=by
 refine' u4 (wq (D':=Unit) (ms:=[0]) (j:=0) F OM rfl rfl λo A d s H E r =>
   (uT (vi (wP (Ts:=["low"]) (Fr:=["self"]) (idx:=[0]) (k:=1) (mb:=[1]) (is:=[]) (cl:=[("self",⇑s+1)]) rfl (wd (vy (Dh 0 a))) Ri rfl (wC rfl) (λb c C e g=>(vr 0 (vf LB))) (λb c C e g=>tws_nil) (λb c C e g=>(wN (ss 0) (DG .ht 1 rfl m.cl n.nH (BX r) (pv 1) (wg 0 (pv 0))))))))) λp z B h=>?_
 walk_at "wl"
 obtain⟨t,u,v⟩:=h;refine#[t,u,?_,?_]
 ·show (Af<|vV p.1).length<=gS;rw[(wx _).length_eq];exact vO (by show (p.1.ht.map (·.1)).length<=1000;rw[gV];lia)
 ·refine vZ (f:=λl=>↑(l,v7 p.1 l)) (λl w K y=>?_) ?_
  ·exact#[_,wD (x:=p.1)<|yw.mp w,y]
  ·rw[oV];exact v
noncomputable abbrev CQ:il:=AY (top 28) 15
abbrev CS:List Str:=["self","cell"]
def LC:uY ["self","cell"] CS (uQ CQ):=by walk_at "sc"
abbrev OO(q:Cq)(C XC:ci)(k:Nat):=yY q C "head_of" CS (Gr C XC) k
def LD(F:yN q.K "head_of" "Field.head_of" CQ f c)(d:zR q.K C)(e:Pg q.K C)(a:wz q C XC 2):Gq q 3 f c CS (Gr C XC):=by
 refine' u4 (wq (D':=Unit) (ms:=[0]) (j:=0) F LC rfl rfl λg A b s H E i =>
   (vg (vT (vd (vY 0 a (uU (ss 1) uS))))
   (uT (vi (vq (Ry .ht 0 rfl d.cl e.nH (BX i) (pv 0) (wg 1 (pv 1)))))))) λp k l h=>?_
 walk_at "wl"
 exact h
noncomputable abbrev HH:il:=AY (top 28) 14
noncomputable abbrev HI:List Str:=["self","low"]
def JP:uY ["self","low","high"] HI (uQ HH):=by walk_at "sc"
abbrev VC(q:Cq)(C XC XN:ci)(k:Nat):=yY q C "untie" HI (HC C XC XN) k
def R7(F:yN q.K "untie" "Field.untie" HH f k)(c:zR q.K C)(d:Pg q.K C)(a:wz q C XC 2)(b:Xc q.K q.mg "NotTied" XN):Gq q 3 f k HI (HC C XC XN):=by
 refine' u4 (wq (D':=Unit) (ms:=[0]) (j:=1) F JP rfl rfl λl A g s H E m =>
   (vg (vT (vd (vY 0 a (uU (ss 1) uS))))
   (vg (vF (tw_dIn .ht true 0 rfl c.cl d.nH (BX m) (ss 1) (pv 0))
   (uT<|BY rfl b)
   vv)
   (vg (vj 2 JP.nd (vq (Vp .ht 0 rfl c.cl d.nH (pv 0) (wg 1 (pv 1)))))
   (vg (MY .th 0 rfl c.cl d.nT (pv 0) (wg 2 (pv 2)) (λn o=>GI n o))
   (uT (vi (vq (ss 2))))))))) λp u r h=>?_
 walk_at "wl"
 obtain⟨t,h⟩:=h;show if (lk p.1.rk p.2.1).isSome=true then _ else r XC 58;by_cases i:(lk p.1.rk p.2.1).isSome=true
 ·rw[gN i]at h ⊢;dsimp only;rw[gN rfl];by_cases q:(lk p.1.ht p.2.1).isSome=true
  ·rw[gN q]at h;rw[gM<|by simp[q]];have e:=wD (x:=p.1)<|zF q;exact#[_,e,by rw[(t.ht _ _ e).2.2.2];rfl,h]
  ·rw[gM q]at h;rw[gN<|by simp[q]];exact h
 ·rw[gM i]at h ⊢;exact h
noncomputable abbrev xP:il:=top 29
noncomputable abbrev xQ:List Str:=["earlier","last"]
def wR:uY ["earlier","last","row","tail"] xQ (uQ xP):=by walk_at "sc"
abbrev CT(q:Cq)(k:Nat):=wZ q "row_from_first" xQ zh k
def Cf(F:Cp q "row_from_first" xP f n):Gq q 2 f n xQ zh:=by
 refine' u4 (wq (D':=Unit) (ms:=[0]) (j:=2) F wR rfl rfl λo A b s H E r =>
   (vg (vj 2 wR.nd (vp (α:=Int) vo))
   (vg (vj 3 wR.nd (vq (zw (ss 1))))
   (vg (ED (mb:=[0]) (D2:=(Dc (Option Int))×Int×(OL Int)×(Option Int)×Unit) (vz q0q) yK (tw_cm MT (ss 3) KS)
   (vg (wu 2 (ze (ss 3)))
   (uT (vj 3 wR.nd (vq (EH 0 (BX r) (pv 0) (ze (ss 3))))))) q0q)
   (uT (vi (YH (wj 2)))))))) λp B D h=>?_
 walk_at "wl"
 obtain⟨⟨a,t,u,w⟩,h⟩:=h;refine#[λm d=>d.1=p.1/\(match d.2.2.2.1 with|none=>d.2.2.1.l≠[]|some k=>(lk p.1.l k).isSome=true/\d.2.2.1.l.length+a k<1000)/\(match d.2.2.2.1 with|none=>0|some k=>a k+1)<=m,#[a p.2.1+1,rfl,#[u,by have:=t p.2.1;simpa using this],gQ _],?_];intro m;refine a2v λG I x y J=>?_;rintro⟨rfl,c,L⟩
 cases y with
 |none =>
  rw[gM q0o];exact h _ (by simpa using c)
 |some k =>
  rw[gN q0o];obtain⟨v,i⟩:=Option.isSome_iff_exists.mp c.1;have z:gS=16777216:=iY;refine#[k,rfl,by show x.l.length<gS;lia,k,rfl,v,i,?_]
  cases v with
  |none=>exact#[0,q0a,rfl,q0o,gQ _]
  |some e =>
   have g:=w k e i;exact#[a e+1,q0a,rfl,#[g.1,by simp;lia],gQ _]
noncomputable abbrev AA:il:=AY (top 28) 25
noncomputable abbrev AB:List Str:=["self","low","high"]
def wY:uY ["self","low","high","earlier","waiting","tail","head","later"] AB (uQ AA):=by walk_at "sc"
abbrev JQ(q:Cq)(C:ci)(k:Nat):=yY q C "ring_with" AB (Dk C) k
def HJ(F:yN q.K "ring_with" "Field.ring_with" AA f fd)(ct:zR q.K C)(cf:Pg q.K C)(a:CT q 3)(D:Nm q C 3):Gq q 4 f fd AB (Dk C):=by
 refine' u4 (wq (D':=Unit) (ms:=[0]) (j:=5) F wY rfl rfl λaf A aa s H E P =>
   (vg (vj 3 wY.nd (YF (wg 1 (pv 1))))
   (vg (vj 4 wY.nd (vp (uX (ss 1) vo)))
   (vg (ED (mb:=[0]) (D2:=(Bd C true)×Int×Int×(Dc (Option Int))×(OL Int)×Int×Int×Un×Unit) (vz q0q) yK (tw_trueR (wj 4))
   (vg (vj 5 wY.nd (vq (M8 4 (pv 4) (PR mh oQ oR PV (pv 4)))))
   (vg (vj 6 wY.nd (vq (Rz .ht 0 rfl ct.cl cf.nH (BX P) (pv 0) (wg 5 (pv 5)) (wg 2 (pv 2)))))
   (vg (vF (tw_w (KW (tw_cm El (ss 5) (ss 1)) (G4 (tw_inT (ss 1) (AQ 0 ct.cl ct.nB (BX P) (pv 0) (wg 6 (pv 6))) (by with_unfolding_all rfl)))))
   (uT<|vi<|vh a<|vw 3<|uU (ss 5) uS)
   vv)
   (uT (wI (is:=[]) (mb:=[0]) (D1:=(Bd C true)×Int×Int×(Dc (Option Int))×(OL Int)×Int×Int×Int×Unit) (D2:=(Bd C true)×Int×Int×(Dc (Option Int))×(OL Int)×Int×Int×Int×Unit) (vz q0q) yK rfl (wd (vy (vY 0 D (uU (ss 5) (uU (ss 6) uS))))) (vr 7 (vf wY.nd))
   (uT (vF (tw_dcNin 3 (BX P) (ss 7) (pv 3))
   (vg (Ro 3 (BX P) (pv 3) (ss 7) (zw (ss 5)))
   (uT (wu 4 (ss 7))))
   vv)) q0q q0q))))) q0q)
   (uT (vi (vp (α:=Int) vo))))))) λp Kn Ke h=>?_
 walk_at "wl"
 obtain⟨L,hh,t1,t2,h⟩:=h
 have G:p.2.1∉vV p.1:=λz=>by have:=xy z;unfold wK at t1;rw[this]at t1;cases t1
 have n0:lk p.1.ht p.2.1=none:=Nh G;refine#[λm d=>d.1=p.1/\d.2.1=p.2.1/\d.2.2.1=p.2.2.1/\Rw p.1 p.2.1 d.2.2.2.1.l d.2.2.2.2.1.l (Nj p.1 p.2.1 p.2.2.1)/\2*Ph p.1 d.2.2.2.1.l+d.2.2.2.2.1.l.length<=m/\m<=200,#[_,rfl,rfl,rfl,RT L,gQ _,a2L L],?_];intro m;refine FF λd1 d2 d3 d4 d5 d6 d7 d8 d9=>?_;rintro⟨rfl,rfl,rfl,i,i5,i6⟩;rcases tD d5.l with e|⟨ys,y,e⟩
 ·rw[gM<|by rw[e];simp];refine h [] λ_=>?_;rw[e]at i;exact VA (V:=d4.l.map (·.1)) L G (Az.mp i.lo) (λk o n=>i.tl k (Az.mpr o) n) λk o=>#[(i.dn k (Az.mpr o) q0o).1,λt c=>Az.mp<|(i.dn k (Az.mpr o) q0o).2 t c]
 ·rw[gN<|by rw[e];simp];rw[tE]at e;refine#[ys,y,e,?_];have W:(lk d4.l y).isSome=true:=i.wk y (by rw[e];simp)
  have hd:(lk p.1.ht y).getD p.2.2.1=if y=p.2.1 then p.2.2.1 else v7 p.1 y:=by
   by_cases q:y=p.2.1
   ·rw[gN q,q,n0];rfl
   ·rw[gM q,wD<|i.tl y W q];rfl
  have M:(lk p.1.rk<|if y=p.2.1 then p.2.2.1 else v7 p.1 y).isSome=true:=by
   by_cases q:y=p.2.1
   ·rw[gN q];exact hh
   ·rw[gM q];exact L.Iz<|i.tl y W q
  rw[hd]
  have I:(y≠p.2.1->p.2.1∉wE p.1 (v7 p.1 y))->HB C (p.1,y,(if y=p.2.1 then p.2.2.1 else v7 p.1 y),()) (λab p'=>G6 (λx (b:B0 C×Int×Int×Dc (Option Int)×OL Int×Int×Int×WL.Un×Unit) R Kr Ke =>
    if (!(lk b.2.2.2.1.l x).isSome)=true then b.2.2.2.1.l.length<gS/\b.2.2.2.2.1.l.length<gS/\R (b.1,b.2.1,b.2.2.1,#[pk b.2.2.2.1.l x<|↑b.2.2.2.2.2.1],#[b.2.2.2.2.1.l++[x]],b.2.2.2.2.2.1,b.2.2.2.2.2.2.1,#[],b.2.2.2.2.2.2.2.2)
    else R (b.1,b.2.1,b.2.2.1,b.2.2.2.1,b.2.2.2.2.1,b.2.2.2.2.2.1,b.2.2.2.2.2.2.1,#[],b.2.2.2.2.2.2.2.2)) ab.l (p'.1,p.2.1,p.2.2.1,d4,#[ys],y,(if y=p.2.1 then p.2.2.1 else v7 p.1 y),d8,d9)
    (λN=>∃m',m'<m/\N.1=p.1/\N.2.1=p.2.1/\N.2.2.1=p.2.2.1/\Rw p.1 p.2.1 N.2.2.2.1.l N.2.2.2.2.1.l (Nj p.1 p.2.1 p.2.2.1)/\2*Ph p.1 N.2.2.2.1.l+N.2.2.2.2.1.l.length<=m'/\m'<=200) Kn Ke) (λae p'=>Ke ae (p'.1,#[],#[],())):=by
   intro hy;refine#[by rw[Ba L.ok M];rfl,L.bl M,?_]
   refine vM (λ(r:List Int) (b:B0 C×Int×Int×Dc (Option Int)×OL Int×Int×Int×WL.Un×Unit)=>b.1=p.1/\b.2.1=p.2.1/\b.2.2.1=p.2.2.1/\b.2.2.2.2.2.1=y/\(lk b.2.2.2.1.l y).isSome=true/\(∀t∈r,t∈vV p.1) /\
    Rw p.1 p.2.1 b.2.2.2.1.l b.2.2.2.2.1.l (λk e=>if k=y then (∀t∈Cd p.1 y (if y=p.2.1 then p.2.2.1 else v7 p.1 y),(lk e t).isSome=true\/t∈r) else Nj p.1 p.2.1 p.2.2.1 k e)/\2*Ph p.1 b.2.2.2.1.l+b.2.2.2.2.1.l.length+1<=m) _ ?_ ?_ ?_
   ·refine#[rfl,rfl,rfl,rfl,W,λt c=>(xf.mp c).2.2,#[i.lo,i.tl,λk o=>i.wk k (by rw[e];exact i8 _ o),λk o O=>?_,i.ch,i.sz],?_]
    ·dsimp only;by_cases q:k=y
     ·rw[gN q];exact λt c=>.inr c
     ·rw[gM q];exact i.dn k o (by rw[e];intro z;rcases List.mem_append.mp z with z|z;exact O z;exact q<|List.mem_singleton.mp z)
    ·rw[e,hO]at i5;simp only[ii]at i5
     lia
   ·intro S r;refine FF λb1 b2 b3 X b5 J b7 b8 b9=>?_;rintro _ ⟨rfl,rfl,rfl,rfl,Y,j6,u,j8⟩ K hK;have T:∀t∈r,t∈vV p.1:=λt c=>j6 t (gU _ c)
    cases q:lk X.l S with
    |none =>
     rw[gN q0o];have z:gS=16777216:=iY;have s1:=u.sz;have nn:∀(k:Int) (e':List (Int×Option Int)),(∀t,(lk e' t).isSome=true->(lk (pk e' S<|some J) t).isSome=true):=λk e' t c=>by rw[yo];split;rfl;exact c
     obtain⟨Q,u2⟩:=u.add (t0:=J) (j6 S gR) q Y λk o U=>by
      by_cases B:k=J
      ·rw[gN B]at U ⊢;exact λt c=>(U t c).imp (nn k _ t) id
      ·rw[gM B]at U ⊢;exact#[U.1,λt c=>nn k _ t<|U.2 t c]
     refine#[by show X.l.length<gS;lia,by show b5.l.length<gS;lia,hK _ #[rfl,rfl,rfl,rfl,nn 0 _ _ Y,T,?_,?_]]
     ·refine#[Q.lo,Q.tl,Q.wk,λk o O=>?_,Q.ch,Q.sz];have g:=Q.dn k o O;by_cases B:k=J
      ·rw[gN B]at g ⊢;intro t c;rcases g t c with w|w
       ·exact .inl w
       ·rcases List.mem_cons.mp w with w|w
        ·left;rw[w,yo,gN rfl];rfl
        ·exact .inr w
      ·rw[gM B]at g ⊢;exact g
     ·show 2*Ph p.1 (pk X.l S<|↑J)+(b5.l++[S]).length+1<=m;rw[hO];simp only[ii]
      lia
    |some v =>
     rw[gM q0o];refine hK _ #[rfl,rfl,rfl,rfl,Y,T,#[u.lo,u.tl,u.wk,λk o O=>?_,u.ch,u.sz],j8];have g:=u.dn k o O;by_cases B:k=J
     ·rw[gN B]at g ⊢;intro t c;rcases g t c with w|w
      ·exact .inl w
      ·rcases List.mem_cons.mp w with w|w
       ·left;rw[w,q];rfl
       ·exact .inr w
     ·rw[gM B]at g ⊢;exact g
   ·refine FF λb1 b2 b3 X b5 J b7 b8 b9=>?_;rintro⟨rfl,rfl,rfl,rfl,Y,_,u,j8⟩;refine#[m-1,q0a,rfl,rfl,rfl,#[u.lo,u.tl,u.wk,λk o O=>?_,u.ch,u.sz],by dsimp only at j8 ⊢;lia,q0a];have g:=u.dn k o O;by_cases B:k=J
    ·rw[gN B]at g;subst B;exact#[hy,λt c=>(g t c).elim id λw=>hV w q0o]
    ·rw[gM B]at g;exact g
  by_cases q:y=p.2.1
  ·rw[gM (by simp[q]),gM g9];exact I λz=>hV q z
  ·rw[gN<|by simp[q]];refine#[_,Ba L.ok M,?_];by_cases Z:p.2.1∈wE p.1 (if y=p.2.1 then p.2.2.1 else v7 p.1 y)
   ·rw[gN<|decide_eq_true Z];obtain⟨mm,m1,m2⟩:=i.ch;refine⟨⟨mm,λk=>by have:=m1 k;have:=i.sz;lia,W,m2⟩,λr P=>h r λz=>hV z P⟩
   ·rw[gM<|by simpa using Z];exact I λ_=>by rw[gM q]at Z;exact Z
noncomputable abbrev R8:il:=AY (top 28) 13
abbrev R9:List Str:=["self","low","high"]
def Sc:uY ["self","low","high","ring"] R9 (uQ R8):=by walk_at "sc"
abbrev a0R(q:Cq)(C XC XF XT XR:ci)(k:Nat):=yY q C "tie" R9 (RQ C XC XF XT XR) k
def YR(F:yN q.K "tie" "Field.tie" R8 f D)(o:zR q.K C)(x:Pg q.K C)(b:wz q C XC 4)(d:CP q C 4)(e:JQ q C 4)(g:Xc q.K q.mg "NotFace" XF)(k:Xc q.K q.mg "Tied" XT)(c:XcI q.P q.w q.K q.mg q.base 3 "RingOfArrows" XR "ring"):Gq q 5 f D R9 (RQ C XC XF XT XR):=by
 refine' u4 (Eh (vz q0q) (D':=(Bd C true)×Int×Int×(OL Int)×Unit) (ms:=[0]) (j:=1) F Sc rfl rfl λG A v s H E l =>
   (vg (vT (vd (vY 0 b (uU (ss 1) uS))))
   (vg (vT (vd (vY 0 b (uU (ss 2) uS))))
   (vg (vF (tw_ninT (ss 1) (AQ 0 o.cl o.nB (BX l) (pv 0) (wg 2 (pv 2))) (by with_unfolding_all rfl))
   (uT<|BY rfl g)
   vv)
   (vg (vF (tw_w (A9 (tw_val (vd (vY 0 d (uU (ss 1) uS)))) (zx (tw_val (vd (vY 0 d (uU (ss 2) uS)))))))
   (uT<|BY rfl k)
   vv)
   (vg (vj 3 Sc.nd (vY 0 e (uU (ss 1) (uU (ss 2) uS))))
   (vg (vF (tw_trueR (wj 3))
   (uT<|YD (i:=3) (α:=Int) rfl c l<|pv 3)
   vv)
   (vg (He .ht 0 rfl o.cl x.nH (BX l) (pv 0) (wg 1 (pv 1)) (ss 2))
   (uT (He .th 0 rfl o.cl x.nT (BX l) (pv 0) (wg 2 (pv 2)) (ss 1))))))))))) λp I y h=>?_
 walk_at "wl"
 obtain⟨t,h⟩:=h;show if (lk p.1.rk p.2.1).isSome=true then _ else y XC (p.1,#[],#[],());by_cases B:(lk p.1.rk p.2.1).isSome=true
 ·rw[gN B]at h ⊢;show if (lk p.1.rk p.2.2.1).isSome=true then _ else y XC (p.1,#[],#[],());by_cases ht:(lk p.1.rk p.2.2.1).isSome=true
  ·rw[gN ht]at h ⊢;refine#[_,Ba t.ok ht,?_];by_cases u:p.2.1∈wE p.1 p.2.2.1
   ·rw[gN u]at h;rw[gM<|by simp[u]];show if wK p.1 p.2.1=true then _ else _;by_cases m:wK p.1 p.2.1=true
    ·rw[gN<|.inl m]at h;rw[gN m,gN rfl];exact h
    ·rw[gM m];show if wK p.1 p.2.2.1=true then _ else _;by_cases n:wK p.1 p.2.2.1=true
     ·rw[gN<|.inr n]at h;rw[gN n];exact h
     ·rw[gM<|λz=>z.elim m n]at h;rw[gM n];refine#[t,ht,by simpa using m,by simpa using n,λr l=>?_]
      cases r with
      |nil =>
       rw[gM q0o];have z:gS=16777216:=iY;exact#[(by show p.1.ht.length<gS;have:=t.len;lia),(by show p.1.th.length<gS;have:=t.a0Q;lia),h.2<|l rfl]
      |cons a r =>
       rw[gN q0o];exact h.1
   ·rw[gM u]at h;rw[gN<|by simp[u]];exact h
  ·rw[gM ht]at h ⊢;exact h
 ·rw[gM B]at h ⊢;exact h
noncomputable abbrev HK:il:=AY (top 28) 21
noncomputable abbrev HL:List Str:=["self"]
def xB:uY ["self","tail","unmet","low","high","later","ready","told"] HL (uQ HK):=by walk_at "sc"
def OP:(["tail","unmet"]:List Str).Nodup:=by decide +kernel
abbrev VD(q:Cq)(C:ci)(k:Nat):=yY q C "order" HL (Ng C) k
def Sd(F:yN q.K "order" "Field.order" HK f fd)(ct:zR q.K C)(cf:Pg q.K C)(u:JO q C 3)(n:Nm q C 3)(v:Nn q C 3):Gq q 4 f fd HL (Ng C):=by
 refine' u4 (wq (D':=Unit) (ms:=[0]) (j:=7) F xB rfl rfl λab A aa s H E U =>
   (vg (vj 2 xB.nd (OC .ht 0 rfl ct.cl cf.nH rfl (pv 0) rfl q0s rfl q0s rfl) (hx:=uG rfl))
   (vg (wI (is:=[]) (mb:=[0]) (D1:=(Bd C true)×Un×(Dc Int)×Int×Int×Un×Un×Un×Unit) (D2:=(Bd C true)×Un×(Dc Int)×Int×Int×Un×Un×Un×Unit) (vz q0q) yK rfl (wd (vy (Dh 0 u))) (BP 3 4 (Cu rfl (wB (vf (i:=3) xB.nd) (wB (vf (i:=4) xB.nd) AE))) q0q q0q)
   (uT (wI (is:=[]) (mb:=[0]) (D1:=(Bd C true)×Un×(Dc Int)×Int×Int×Int×Un×Un×Unit) (D2:=(Bd C true)×Un×(Dc Int)×Int×Int×Int×Un×Un×Unit) (vz q0q) yK rfl (wd (vy (vY 0 n (uU (ss 3) (uU (ss 4) uS))))) (vr 5 (vf xB.nd))
   (uT (JG 2 (BX U) (pv 2) (wg 5 (pv 5)) QX Po)) q0q q0q)) q0q q0q)
   (vg (AO (Ts:=["tail"]) (Fr:=["unmet"]) (idx:=[2]) (k:=1) (mb:=[1]) (is:=[]) (cl:=[("unmet",⇑s+1)]) 6 xB.nd rfl rfl rfl q0q rfl (wd (vy (Dh 0 v))) Ri rfl (wC rfl) (λJ L C ex pn=>(vr 0 (vf OP))) (λJ L C ex pn=>(tws_one (tw_cm Ai (EH 1 (BX U) (pv 1) (ss 0)) uW))) (λJ L C ex pn=>(ss 0)))
   (vg (vj 7 xB.nd (vp (α:=Int) vo))
   (vg (ED (mb:=[0]) (D2:=(Bd C true)×Int×(Dc Int)×Un×Un×Un×(OL Int)×(OL Int)×Unit) (vz q0q) yK (tw_trueR (wj 6))
   (vg (vj 1 xB.nd (vq (M8 6 (pv 6) (PR mh oQ oR PV (pv 6)))))
   (vg (wu 7 (ss 1))
   (uT (wI (is:=[]) (mb:=[0]) (D1:=(Bd C true)×Int×(Dc Int)×Un×Un×Int×(OL Int)×(OL Int)×Unit) (D2:=(Bd C true)×Int×(Dc Int)×Un×Un×Int×(OL Int)×(OL Int)×Unit) (vz q0q) yK rfl (wd (vy (vY 0 n (uU (ss 1) (uU (DG .ht 0 rfl ct.cl cf.nH (BX U) (pv 0) (wg 1 (pv 1))) uS))))) (vr 5 (vf xB.nd))
   (vg (JG 2 (BX U) (pv 2) (wg 5 (pv 5)) QX Xo)
   (uT (vF (tw_cm Ai (EH 2 (BX U) (pv 2) (ss 5)) uW)
   (uT<|wu 6<|ss 5)
   vv))) q0q q0q)))) q0q)
   (uT (yP 7 (pv 7))))))))) λp Kn Ke h=>?_
 walk_at "wl"
 obtain⟨g,h⟩:=h;have sl:gS=16777216:=iY;have W:(vV p.1).length<=63:=by have e:(vV p.1).length=p.1.ht.length:=gV _;have:=g.len;lia
 have N:(Af<|vV p.1).Nodup:=(wx _).nodup_iff.mpr g.nd;refine⟨g.len,g.nd,?_⟩;refine vM (λ(r:List (Int×Int)) (b:B0 C×WL.Un×Dc Int×WL.Un×WL.Un×WL.Un×WL.Un×WL.Un×Unit)=>b.1=p.1/\b.2.2.1.l.map (·.1)=vV p.1/\(∀e∈r,e.1∈vV p.1/\e.2=v7 p.1 e.1)/\∀t∈vV p.1,lk b.2.2.1.l t=↑(cnt p.1 (Af<|vV p.1) t-cnt p.1 (r.map (·.1)) t)) _ ?_ ?_ ?_
 ·refine#[rfl,?_,λe he=>?_,λt c=>?_]
  ·show ((List.map (λx=>x.1) p.1.ht).map λk=>(k,(0:Int))).map (·.1)=vV p.1;rw[kj];exact List.map_id' _
  ·obtain⟨l,hl,rfl⟩:=List.mem_map.mp he;exact#[yw.mp hl,rfl]
  ·have e:((Af<|vV p.1).map λl=>(l,v7 p.1 l)).map (·.1)=Af (vV p.1):=by rw[kj];exact List.map_id' _
   rw[e,Int.sub_self];exact Ni c
 ·rintro⟨l,hd⟩ r;refine FF λb1 b2 b3 b4 b5 b6 b7 b8 b9=>?_;rintro _ ⟨rfl,j2,j3,R⟩ K hK;have l1:l∈vV p.1/\hd=v7 p.1 l:=j3 (l,hd) gR;have hl:=l1.1;have e2:=l1.2;subst e2;have o:=g.Iz hl;refine#[by rw[Ba g.ok o];rfl,g.bl o,?_];refine vM (λ(B:List Int)(b:B0 C×WL.Un×Dc Int×Int×Int×WL.Un×WL.Un×WL.Un×Unit)=>b.1=p.1/\b.2.2.1.l.map (·.1)=vV p.1/\B.Nodup/\(∀t∈B,t∈vV p.1)/\∀t∈vV p.1,lk b.2.2.1.l t=↑(cnt p.1 (Af<|vV p.1) t-cnt p.1 (r.map (·.1)) t-if t∈B then 1 else 0)) _ ?_ ?_ ?_
  ·refine#[rfl,j2,RV g o,λt c=>(xf.mp c).2.2,λt c=>?_];rw[R t c,im,cnt_cons,<- Int.sub_sub]
  ·intro G B;refine FF λc1 c2 O c4 c5 c6 c7 c8 c9=>?_;rintro _ ⟨rfl,D,k3,X,k5⟩ K2 I;have T:=List.nodup_cons.mp k3;have e0:=k5 G<|X G gR;have cl:O.l.length<=63:=by rw[<- gV (f:=(·.1)) (as:=O.l),D];exact W
   refine#[_,e0,by show O.l.length<gS;lia,I _ #[rfl,(Nl<|by rw[e0];rfl).trans D,T.2,λt c=>X t<|gU _ c,λt c=>?_]];rw[yo];by_cases q:t=G
   ·rw[gN q,q,gN gR,gM T.1];congr 1;lia
   ·rw[gM q,k5 t c];simp[q]
  ·refine FF λc1 c2 O c4 c5 c6 c7 c8 c9=>?_;rintro⟨rfl,D,_,_,k5⟩;refine hK _ #[rfl,D,λe he=>j3 e<|gU _ he,λt c=>?_];rw[k5 t c];simp
 ·refine FF λb1 b2 b3 b4 b5 b6 b7 b8 b9=>?_;rintro⟨rfl,j2,_,R⟩
  have R:∀t∈vV p.1,lk b3.l t=↑(cnt p.1 (vV p.1) t):=λt c=>by rw[R t c,oT,JN<|wx<|vV p.1];unfold cnt;simp
  refine#[g.len,g.nd,?_];refine#[by rw[(wx _).length_eq];lia,?_];refine vU (q:=λt=>decide<|cnt p.1 (vV p.1) t=0) (λt c K hK=>#[_,R t<|yw.mp c,hK]) ?_
  have P:Kh p.1 b3.l ((Af<|vV p.1).filter λt=>decide<|cnt p.1 (vV p.1) t=0) [] []:=by
   have u0:Lx p.1 []=vV p.1:=by unfold Lx;simp
   refine#[j2,by rw[nq];exact N.filter _,λt c=>?_,λt c=>?_,λt c _=>?_,λa ha=>hV ha q0o,iw]
   ·rw[nq,jo]at c;exact yw.mp c.1
   ·rw[u0,R t c];simp
   ·rw[u0,jo,yw,iU];simp[c]
  refine#[λm d=>d.1=p.1/\Kh p.1 d.2.2.1.l d.2.2.2.2.2.2.1.l d.2.2.2.2.2.2.2.1.l []/\64<=m+d.2.2.2.2.2.2.2.1.l.length,#[64,rfl,P,q0o],?_];intro m;refine FF λd1 d2 d3 d4 d5 d6 d7 Q d9=>?_;rintro⟨rfl,M,i2⟩;rcases tD d7.l with e|⟨ys,y,e⟩
  ·rw[gM<|by rw[e];simp];rw[e]at M;exact h _<|M.done g
  ·rw[gN<|by rw[e];simp];rw[tE]at e;rw[e]at M;have yt:y∈vV p.1:=M.st y q0o;have o:=g.Iz yt;have ln:=M.len g;refine⟨ys,y,e,by show Q.l.length<gS;lia,_,wD yt,by rw[Ba g.ok o];rfl,g.bl o,?_⟩;have K0:=M.pop g;refine vM (λ(B:List Int)(b:B0 C×Int×Dc Int×WL.Un×WL.Un×WL.Un×OL Int×OL Int×Unit)=>b.1=p.1/\b.2.2.2.2.2.2.2.1.l=Q.l++[y]/\Kh p.1 b.2.2.1.l b.2.2.2.2.2.2.1.l (Q.l++[y]) B/\B.Nodup/\∀t∈B,t∈vV p.1/\t∉Q.l++[y]) _ ?_ ?_ ?_
   ·refine#[rfl,rfl,K0,RV g o,λt c=>#[(xf.mp c).2.2,λz=>?_]];rcases List.mem_append.mp z with z|z
    ·have yn:y∉Q.l:=λw=>(List.nodup_append.mp M.nd).2.2 y w y q0o rfl;exact M.bk t z y yt yn c
    ·exact(xf.mp c).2.1<|List.mem_singleton.mp z
   ·intro G B;refine FF λc1 c2 O c4 c5 c6 c7 c8 c9=>?_;rintro _ ⟨rfl,Y,D,k3,X⟩ K2 I;have T:=List.nodup_cons.mp k3;have x1:=X G gR;have hv:=D.ct G x1.1;have S:=D.step x1.1 x1.2 T.1 hv;have ae:=D.len g;refine#[_,hv,by show O.l.length<gS;lia,_,by rw[yo,gN rfl],?_];have Z:∀t∈B,t∈vV p.1/\t∉Q.l++[y]:=λt c=>X t<|gU _ c;by_cases w:(cnt p.1 (Lx p.1<|Q.l++[y]) G+if G∈G::B then 1 else 0)-1=0
    ·rw[gN<|decide_eq_true w];rw[gN w]at S;exact#[by show c7.l.length<gS;lia,I _ #[rfl,Y,S,T.2,Z]]
    ·rw[gM<|by simpa using w];rw[gM w]at S;exact I _ #[rfl,Y,S,T.2,Z]
   ·refine FF λc1 c2 O c4 c5 c6 c7 c8 c9=>?_;rintro⟨rfl,Y,D,_,_⟩;exact#[m-1,q0a,rfl,by rw[Y];exact D,by rw[Y,hO,ii];lia]
end
structure J5(l:List Int):Prop where
 ri:wQ l
 lt:∀c∈l,0<=c/\c<63
def J5.xr(d:J5 a)(e:J5 b):J5 (xr a b):=#[xJ d.ri,λc f=>(Ey (ve e.ri) f).elim (d.lt c)<|e.lt c]
def J5.mem(b:J5 a):∀k∈a,k∈yL 0 63:=λk c=>zD (b.lt k c).1 (b.lt k c).2
def No:Wf (List Int×List Int×Unit) (OL Int) (WL.Un×WL.Un×Unit):=λp a _=>J5 p.1/\J5 p.2.1/\a #[xr p.1 p.2.1] (#[],#[],())
section
variable{XS:ci}
def JR(h:wQ row)(k:a () (#[],())):DN XS (row,()) a b:=#[λ_=>k,λz=>by
 rw[(yx row).mpr h]at z
 cases z]
end
section
variable{C:ci}{x:B0 C}
def AR.Zk(a:AR x){c:Int}(h:(lk x.rk c).isSome=true):J5 (wE x c):=#[(a.ok.bo c _<|Ba a.ok h).1,(a.ok.bo c _<|Ba a.ok h).2]
def YS{t h:Int}(d:t∈f h):∀{T:List Int},T.Nodup->(∀a∈T,a≠h->t∉f a)->Sf f t T=decide (h∈T):=by
 intro e
 induction e with
 |nil=>intro _ _;exact rfl
 |cons c T b =>
  intro n k;have n:=List.nodup_cons.mp n;show xor (decide<|t∈f c) (Sf f t T)=_;rw[b n.2 λa m=>k a<|gU _ m];by_cases q:c=h
  ·subst q;simp[d,n.1]
  ·have:=k c gR q;simp[this,Ne.symm q]
def Sg(g:AR x):∀{q T acc:List Int},q.Nodup->(∀t∈q,t∈vV x)->(q.Pairwise λa b=>a∉Cd x b (v7 x b))->wQ T->(∀h∈T,∃t∈q,v7 x t=h)->(q.foldl (Bu x) (vG (wE x) T,acc)).2.Perm (acc++T):=by
 intro N
 induction N with
 |nil =>
  intro T acc _ _ _ _ n
  cases T with
  |nil=>simp
  |cons h r=>obtain⟨t,z,_⟩:=n h gR;cases z
 |cons t q p =>
  intro T acc B D s o n;have B:=List.nodup_cons.mp B;have s:=List.pairwise_cons.mp s;have F:=D t gR;have G:=(g.ht t _<|wD F).2.2.1
  have O:∀a∈vV x,∀b∈vV x,v7 x a=v7 x b->a=b:=λa P b G e=>by have E:=(g.ht a _<|wD P).2.2.2;have Q:=(g.ht b _<|wD G).2.2.2;rw[e,Q]at E;injection E with E;exact E.symm
  have J:∀c∈T,(wE x c).Nodup:=λc u=>by obtain⟨d,m,e⟩:=n c u;rw[<- e];exact ve (g.Zk<|g.Iz<|D d m).ri
  have v:t∈vG (wE x) T↔v7 x t∈T:=by
   have:=xu (f:=wE x) (x:=t) (l:=T) J;rw[YS G (ve o) λR m S z=>?_]at this
   ·exact decide_eq_decide.mp this
   ·obtain⟨d,y,e⟩:=n R m;have L:d≠t:=λw=>S (by rw[<- e,w]);have U:d∈q:=(List.mem_cons.mp y).elim (λw=>hV w L) id;refine s.1 d U<|xf.mpr #[?_,Ne.symm L,F];rw[e];exact z
  rw[ml];unfold Bu;by_cases A:v7 x t∈T
  ·rw[gN<|v.mpr A];have W:wQ [v7 x t]:=jL _ _;have H:=g.Zk (g.Iz F)
   have X:vG (wE x) [v7 x t]=wE x (v7 x t):=BZ (wy _ _) H.ri λk=>by rw[xu<|λc u=>by rw[List.mem_singleton.mp u];exact ve H.ri];show xor (decide<|k∈wE x (v7 x t)) false=_;rw[nW]
   have M:=Hh (f:=wE x) o W J (λc u=>by rw[List.mem_singleton.mp u];exact ve H.ri);rw[X]at M;rw[<- M]
   have i:∀k,k∈xr T [v7 x t]↔k∈T/\k≠v7 x t:=λk=>by
    rw[zA q0o,mq];by_cases z:k=v7 x t
    ·subst z;simp[A]
    ·simp[z]
   have Y:=p (T:=xr T [v7 x t]) (acc:=acc++[v7 x t]) B.2 (λk I=>D k<|gU _ I) s.2 (xJ o) λh j=>by have j:=(i h).mp j;obtain⟨d,y,e⟩:=n h j.1;refine#[d,(List.mem_cons.mp y).elim (λw=>hV (by rw[<- e,w]) j.2) id,e]
   refine Y.trans ?_;rw[lA];refine oA acc<|wn (List.nodup_cons.mpr ⟨λz=>((i _).mp z).2 rfl,ve<|xJ o⟩) (ve o) λk=>?_;show k∈v7 x t::xr T [v7 x t]↔_;rw[io,i];by_cases z:k=v7 x t
   ·subst z;simp[A]
   ·simp[z]
  ·rw[gM λz=>A<|v.mp z]
   exact p B.2 (λk I=>D k<|gU _ I) s.2 o λh j=>by obtain⟨d,y,e⟩:=n h j;exact#[d,(List.mem_cons.mp y).elim (λw=>hV j<|by rw[<- e,w];exact A) id,e]
def Gu(h:∀c∈row,c∉vV x):∀{o:List Int},(∀t∈o,t∈vV x)->o.foldl (Bu x) (row,a)=(row,a)
 | [],_=>rfl
 |t::o,k=>by
  rw[ml];have:Bu x (row,a) t=(row,a):=by unfold Bu;rw[gM λz=>h t z<|k t gR]
  rw[this];exact Gu h λt b=>k t<|gU _ b
end
def E4(C d a:ci):Wf (B0 C×List Int×Unit) (OL Int) (B0 C×WL.Un×Unit):=λp b c =>
 AR p.1/\J5 p.2.1/\if vW p.1 p.2.1=true then (∀o,Ord p.1 o->b #[Af (o.foldl (Bu p.1) (p.2.1,[])).2] 58) else c a 58
def HM(C a b:ci):Wf (B0 C×Int×Unit) Unit (B0 C×WL.Un×Unit):=λp c d=>wK p.1 p.2.1=false/\Hv C a b p c d
abbrev VE(q:Cq)(C a b:ci)(k:Nat):=yY q C "take" Ay (HM C a b) k
section
variable{C:ci}{x:B0 C}
def JS{x:Int}(c:wQ b):decide (x∈xr a b)=xor (decide<|x∈a) (decide<|x∈b):=by have e:=zA (l:=a) (x:=x)<|ve c;by_cases p:x∈a<;>by_cases q:x∈b<;>simp[p,q,e]
def YT(f:wQ a)(d:wQ b)(h:xr a b=[]):a=b:=BZ f d λx=>by have e:=JS (a:=a) (x:=x) d;rw[h]at e;generalize decide (x∈a)=p at e ⊢;generalize decide (x∈b)=q at e ⊢;cases p<;>cases q<;>simp at e<;>rfl
/-- the c of a sum -/
structure Fl{C:ci}(x:B0 C)(row h:List Int):Prop where
 ri:wQ h
 hs:∀k∈h,∃t∈vV x,v7 x t=k
 nt:∀t∈vV x,t∉xr row (vG (wE x) h)
 od:∃o,Ord x o
def Sh(ok:AR x){h:List Int}(a:∀k∈h,∃t∈vV x,v7 x t=k):∀c∈h,(wE x c).Nodup:=λc b=>by obtain⟨t,m,e⟩:=a c b;rw[<- e];exact ve (ok.Zk<|ok.Iz m).ri
def VF(d:AR x)(f:∃o,Ord x o)(g:wQ h)(i:∀k∈h,∃t∈vV x,v7 x t=k)(j:∀t∈vV x,t∉vG (wE x) h):h=[]:=by
 obtain⟨o,a⟩:=f
 have p:=Sg d (q:=o) (T:=h) (acc:=[]) (a.pm.nodup_iff.mpr d.nd) (λt b=>a.pm.mem_iff.mp b) a.up g λk l=>by obtain⟨t,m,e⟩:=i k l;exact#[t,a.pm.mem_iff.mpr m,e]
 rw[Gu (λc n z=>j c z n) λt b=>a.pm.mem_iff.mp b]at p;exact(List.nil_perm.mp p).trans rfl
def a0S(c:wQ b)(d:∀k∈a,∃t∈vV x,v7 x t=k)(e:∀k∈b,∃t∈vV x,v7 x t=k):∀k∈xr a b,∃t∈vV x,v7 x t=k:=λk f=>(Ey (ve c) f).elim (d k)<|e k
def Fl.uni(c:AR x)(f:Fl x r d)(g:Fl x r e):d=e:=by refine YT f.ri g.ri<|VF c f.od (xJ f.ri) (a0S g.ri f.hs g.hs) λt h=>of_decide_eq_false ?_;have a:=ie<|f.nt t h;have b:=ie<|g.nt t h;rw[JS<|wy _ _]at a b;rw[Hh f.ri g.ri (Sh c f.hs)<|Sh c g.hs,JS<|wy _ _];revert a b;generalize decide (t∈r)=p;generalize decide (t∈vG (wE x) d)=i;generalize decide (t∈vG (wE x) e)=j;cases p<;>cases i<;>cases j<;>simp
def VG(l:AR x):∀{q R acc:List Int},q.Nodup->(∀t∈q,t∈vV x)->(q.Pairwise λa b=>a∉Cd x b (v7 x b)) ->
  ∃d,(q.foldl (Bu x) (R,acc)).2=acc++d/\d.Nodup/\(∀k∈d,∃t∈q,v7 x t=k)/\∀t∈q,xor (decide<|t∈R) (Sf (wE x) t d)=false:=by
 intro q
 induction q with
 |nil=>exact λ_ _ _=>#[[],(kH _).symm,mG,(λk z=>by cases z),λt z=>by cases z]
 |cons t q D =>
  intro R acc g E m;have g:=List.nodup_cons.mp g;have m:=List.pairwise_cons.mp m;have n:=E t gR;have f:∀s∈q,s∈vV x:=λs d=>E s<|gU _ d;have G:=(l.ht t _<|wD n).2.2.1;have H:=(l.Zk<|l.Iz n).ri
  have F:∀{d:List Int},(∀k∈d,∃s∈q,v7 x s=k)->Sf (wE x) t d=false:=λ{d} h=>by
   induction d with
   |nil=>rfl
   |cons k d r =>
    show xor (decide<|t∈wE x k) (Sf (wE x) t d)=false;rw[r λj I=>h j<|gU _ I,nW];obtain⟨s,c,e⟩:=h k gR;refine ie λz=>m.1 s c<|xf.mpr ⟨by rw[e];exact z,λw=>g.1 (by rw[w];exact c),n⟩
  by_cases o:t∈R
  ·have u:Bu x (R,acc) t=(xr R<|wE x<|v7 x t,acc++[v7 x t]):=gN o;rw[ml,u];obtain⟨d,v,y,i,A⟩:=D (R:=xr R<|wE x<|v7 x t) (acc:=acc++[v7 x t]) g.2 f m.2;refine⟨v7 x t::d,by rw[v,lA];rfl,List.nodup_cons.mpr ⟨λz=>?_,y⟩,λk B=>?_,λs c=>?_⟩
   ·obtain⟨s,c,e⟩:=i _ z;have J:=(l.ht t _<|wD n).2.2.2;have p:=(l.ht s _<|wD<|f s c).2.2.2;rw[e,J]at p;injection p with p;exact g.1 (by rw[p];exact c)
   ·rcases List.mem_cons.mp B with z|z
    ·exact#[t,gR,z.symm]
    ·obtain⟨s,c,e⟩:=i k z;exact#[s,gU _ c,e]
   ·show xor (decide<|s∈R) (xor (decide<|s∈wE x (v7 x t))<|Sf (wE x) s d)=false;rcases List.mem_cons.mp c with z|z
    ·rw[z,F i,decide_eq_true o,decide_eq_true G];rfl
    ·have:=A s z;rw[JS H,mJ]at this;exact this
  ·have u:Bu x (R,acc) t=(R,acc):=gM o;rw[ml,u];obtain⟨d,v,y,i,A⟩:=D (R:=R) (acc:=acc) g.2 f m.2;refine#[d,v,y,λk B=>?_,λs c=>?_]
   ·obtain⟨s,c,e⟩:=i k B;exact#[s,gU _ c,e]
   ·rcases List.mem_cons.mp c with z|z
    ·rw[z,F i,ie o];rfl
    ·exact A s z
def Si(b:AR x)(a:Ord x o):Fl x row (Af (o.foldl (Bu x) (row,[])).2):=by
 obtain⟨c,g,h,i,j⟩:=VG b (q:=o) (R:=row) (acc:=[]) (a.pm.nodup_iff.mpr b.nd) (λt d=>a.pm.mem_iff.mp d) a.up;rw[g,nq]
 have f:∀k∈Af c,∃t∈vV x,v7 x t=k:=λk l=>by obtain⟨t,m,e⟩:=i k<|yw.mp l;exact#[t,a.pm.mem_iff.mp m,e]
 refine#[QS (AK _)<|(wx c).nodup_iff.mpr h,f,λt d=>of_decide_eq_false ?_,o,a];rw[JS<|wy _ _,xu<|Sh b f,Hg<|wx c];exact j t<|a.pm.mem_iff.mpr d
end
def Gv(C:ci):Wf (B0 C×List Int×Unit) (OL Int) (B0 C×WL.Un×Unit):=λp a _=>p.2.1.length<=1000/\a #[p.2.1.filter λc=>!wK p.1 c] 58
def TQ(C:ci):Wf (B0 C×List Int×Unit) (OL Int) (B0 C×WL.Un×Unit):=λp a _ =>
 (AR p.1/\J5 p.2.1/\vW p.1 p.2.1=true/\(∀c∈p.2.1,wK p.1 c=false)/\vW p.1 (vG (wE p.1) p.2.1)=true/\∀c,(lk p.1.rk c).isSome=true->0<=c/\c<63) /\
  ∀h,Fl p.1 (vG (wE p.1) p.2.1) h->(vW p.1 (xr p.2.1 h)=true/\(vG (wE p.1)<|xr p.2.1 h).length<=1000)/\a ⟨(vG (wE p.1)<|xr p.2.1 h).filter λc=>!wK p.1 c⟩ 58
def LF(C:ci):Wf (B0 C×List Int×Unit) (OL Int) (B0 C×WL.Un×Unit):=λp a _ =>
 (AR p.1/\J5 p.2.1/\vW p.1 p.2.1=true)/\∀h,Fl p.1 p.2.1 h->(vW p.1 h=true/\J5 (vG (wE p.1) h)/\(xr p.2.1<|vG (wE p.1) h).length<=1000)/\a ⟨(xr p.2.1<|vG (wE p.1) h).filter λc=>!wK p.1 c⟩ 58
section
variable{q:Cq}{C XC XS XO XB XP XV YL XF XT XN XR XL:ci}
noncomputable abbrev HN:il:=top 17
noncomputable abbrev HP:List Str:=["one","other"]
def Sj:uY ["one","other"] HP (uQ HN):=by walk_at "sc"
abbrev Np(q:Cq)(k:Nat):=wZ q "added" HP No k
def Sk(F:Cp q "added" HN f e)(a:wZ q "must_be_sum" ["row"] (DN XS) 2)(B:Bn q.mg):Gq q 3 f e HP No:=by
 refine' u4 (wq (D':=Unit) (ms:=[]) (j:=0) F Sj rfl rfl λg A b s H E k =>
   (vg (vT (vd (vh a (uU (ss 0) uS))))
   (vg (vT (vd (vh a (uU (ss 1) uS))))
   (uT (vi (Vb 0 1 rfl rfl B.sorted rfl B.set (pv 0) (pv 1))))))) λp l m h=>?_
 walk_at "wl"
 obtain⟨c,d,i⟩:=h;exact JR c.ri<|JR d.ri #[#[c.ri,d.ri,yL 0 63,by rw[wO];decide,c.mem,d.mem],i]
noncomputable abbrev E5:il:=top 20
noncomputable abbrev E6:List Str:=["field","row"]
def yC:uY ["field","row","rest","heads","tail","head"] E6 (uQ E5):=by walk_at "sc"
abbrev JT(q:Cq)(C XS XC:ci)(k:Nat):=wZ q "filled" E6 (E4 C XS XC) k
def OQ(F:Cp q "filled" E5 f Q)(ct:zR q.K C)(g:Np q 4)(a:Av q C XS XC 4)(i:VD q C 4)(c:OO q C XC 4)(d:JL q C XC 4)(B:Bn q.mg):Gq q 5 f Q E6 (E4 C XS XC):=by
 refine' u4 (wq (D':=Unit) (ms:=[0]) (j:=4) F yC rfl rfl λR A y s H E hr =>
   (vg (vT (vd (vY 0 a (uU (ss 1) uS))))
   (vg (vj 2 yC.nd (GV rfl B.list (vQ (ss 1))))
   (vg (vj 3 yC.nd (vp (α:=Int) vo))
   (vg (wI (is:=[]) (mb:=[0]) (D1:=(Bd C true)×(List Int)×(OL Int)×(OL Int)×Int×Un×Unit) (D2:=(Bd C true)×(List Int)×(OL Int)×(OL Int)×Int×Un×Unit) (vz q0q) yK rfl (wd (vy (Dh 0 i))) (vr 4 (vf yC.nd))
   (uT (vF (tw_cmI QC (ss 4) (wj 2) (by with_unfolding_all rfl))
   (MQ (D':=(Bd C true)×(List Int)×(OL Int)×(OL Int)×Int×Un×Unit) (vg (vj 5 yC.nd (vY 0 c (uU (ss 4) uS)))
   (vg (wu 3 (ze (ss 5)))
   (uT (vj 2 yC.nd (vh g (vn 2 (uU (vy (vY 0 d (uU (ze (ss 5)) uS))) uS))))))))
   vv)) q0q q0q)
   (uT (vi (CH rfl B.sorted (wj 3))))))))) λp Kn L h=>?_
 walk_at "wl"
 obtain⟨n,M,h⟩:=h;show if asc p.2.1=true then (if vW p.1 p.2.1=true then _ else L XC 58) else L XS 58;rw[gN<|(yx p.2.1).mpr M.ri];by_cases N:vW p.1 p.2.1=true
 ·rw[gN N]at h ⊢;refine#[n,λo z=>?_]
  have S:o.length<=63:=by rw[z.pm.length_eq];have e:(vV p.1).length=p.1.ht.length:=gV _;have:=n.len;lia
  refine vM (λ(r:List Int)(b:B0 C×List Int×OL Int×OL Int×WL.Un×WL.Un×Unit)=>b.1=p.1/\J5 b.2.2.1.l/\(∀t∈r,t∈vV p.1)/\b.2.2.2.1.l.length+r.length<=63/\r.foldl (Bu p.1) (b.2.2.1.l,b.2.2.2.1.l)=o.foldl (Bu p.1) (p.2.1,[])) _ #[rfl,M,λt D=>z.pm.mem_iff.mp D,by simpa using S,rfl] ?_ ?_
  ·intro t r;refine a0i λT U O v W X Y=>?_;rintro _ ⟨rfl,w,G,I,m⟩ K P;have x:=G t gR;have u:∀t∈r,t∈vV p.1:=λt D=>G t<|gU _ D;rw[ij]at I;rw[ml]at m;unfold Bu at m;by_cases q:t∈O.l
   ·rw[gN<|decide_eq_true q];rw[gN q]at m;have J:=n.Iz x;have Z:(lk p.1.rk t).isSome=true:=(n.ht t _<|wD x).1;have sl:gS=16777216:=iY;show if (lk p.1.rk t).isSome=true then _ else _;rw[gN Z];refine#[_,wD x,by show v.l.length<gS;lia,_,wD x,n.ok,?_];rw[gN J];refine#[w,n.Zk J,P _ #[rfl,w.xr<|n.Zk J,u,?_,m]];rw[hO,ii];lia
   ·rw[gM<|by simpa using q];rw[gM q]at m;exact P _ #[rfl,w,u,by show v.l.length+r.length<=63;lia,m]
  ·refine a0i λT U O v W X Y=>?_;rintro⟨rfl,w,G,I,m⟩;have k:=h o z;rw[<- m]at k;exact#[by show v.l.length<64;simp at I;lia,k]
 ·rw[gM N]at h ⊢;exact h
noncomputable abbrev CU:il:=top 22
abbrev CV:List Str:=["field","row"]
def LG:uY ["field","row"] CV (uQ CU):=by walk_at "sc"
def JU:(["cell","field"]:List Str).Nodup:=by decide +kernel
abbrev OR(q:Cq)(C:ci)(k:Nat):=wZ q "lone_of" CV (Gv C) k
def LH(F:Cp q "lone_of" CU f m)(v:zR q.K C)(a:CP q C 3):Gq q 4 f m CV (Gv C):=by
 refine' u4 (wq (D':=Unit) (ms:=[0]) (j:=0) F LG rfl rfl λn A e s H E o =>
   (uT (vi (wP (Ts:=["cell"]) (Fr:=["field"]) (idx:=[0]) (k:=1) (mb:=[1]) (is:=[]) (cl:=[("field",⇑s+1)]) rfl (wd (ss 1)) Ri rfl (wC rfl) (λb d C g l=>(vr 0 (vf (i:=0) JU rfl (k9 rfl)) q0q)) (λb d C g l=>(tws_one (tw_not (tw_val (vd (vY 1 a (uU (ss 0) uS) (hr:=o) (hx:=a0k))))))) (λb d C g l=>(ss 0)))))) λp w x h=>?_
 walk_at "wl"
 obtain⟨r,t⟩:=h;exact#[vO r,vU (q:=λc=>!wK p.1 c) (λk _ K u=>u) t]
abbrev LI:il:=top 21
abbrev LJ:List Str:=["field","row"]
def VH:uY ["field","row"] LJ (uQ LI):=by walk_at "sc"
abbrev YU(q:Cq)(C:ci)(k:Nat):=wZ q "down" LJ (LF C) k
def VI(F:Cp q "down" LI f l)(z:zR q.K C)(b:OR q C 8)(d:Np q 8)(c:JT q C XS XC 8)(a:Di q C XS XC 8):Gq q 9 f l LJ (LF C):=by
 refine' u4 (wq (D':=Unit) (ms:=[0]) (j:=0) F VH rfl rfl λm A e s H E B =>
   (uT (vi (vh b (vw 0 (uU (vy (vh d (uU (ss 1) (uU (vy (vY 0 a (uU (vy (vh c (vw 0 (uU (ss 1) uS)))) uS))) uS)))) uS)))))) λp D i h=>?_
 walk_at "wl"
 obtain⟨⟨g,k,n⟩,r⟩:=h;refine#[g,k,?_];show if vW p.1 p.2.1=true then _ else _;rw[gN n];intro o t;have f:=Si g (row:=p.2.1) t;obtain⟨⟨u,v,w⟩,x⟩:=r _ f;have y:=(yx _).mpr f.ri;refine#[g.ok,?_];show if asc (Af (o.foldl (Bu p.1) (p.2.1,[])).2)=true then (if vW p.1 (Af (o.foldl (Bu p.1) (p.2.1,[])).2)=true then _ else i XC 58) else i XS 58;rw[gN y,gN u];exact#[k,v,w,x]
end
noncomputable abbrev LK:il:=top 32
abbrev yI:=WU
abbrev RW:=Option<|Int×List Int
noncomputable def rowAt(a:List RW)(k:Int):RW:=if 0<=k then (a[k.toNat]?).join else none
noncomputable def eb(a:List RW)(k:Int):List Int:=((rowAt a k).map (·.2)).getD []
structure Vr(rows:List RW):Prop where
 ok:∀k r e,rowAt rows k=↑(r,e)->0<=r/\r<=12/\wQ e/\(∀c∈e,c<k/\∃e',rowAt rows c=↑(r-1,e'))/\vG (eb rows) e=[]
 ln:rows.length<=60
 sm:∀k r e,rowAt rows k=↑(r,e)->∀c∈e,c<35
def Lp(a:List RW)(q:Int×List Int):Prop:=wQ q.2/\(∀c∈q.2,∃e,rowAt a c=↑(q.1,e))/\vG (eb a) q.2=[]
noncomputable def Cr(a:List RW):List Int:=(yL 0 a.length).filter λk=>(rowAt a k).isSome
noncomputable def Co:List RW:=[↑(0,[]),↑(0,[]),↑(0,[]),↑(0,[]),↑(1,[0,1]),↑(1,[0,2]),↑(1,[0,3]),↑(1,[1,2]),↑(1,[1,3]),↑(1,[2,3]),↑(2,[4,5,7]),↑(2,[4,6,8]),↑(2,[5,6,9]),↑(2,[7,8,9]),↑(3,[10,11,12,13])]
def HQ:Wf (Bg×Unit) Int (Bg×Unit):=λp a _=>∀r,0<=r->r<=12->a r (#[],())
def HR:Wf (List Int×List Int×Unit) (OL Int) (WL.Un×WL.Un×Unit):=λp a _=>(p.1.length<=1000/\p.2.1.length<=1000/\(p.1.filter λk=>!decide (k∈p.2.1)).length+(p.2.1.filter λk=>!decide (k∈p.1)).length<64)/\a #[jn p.1 p.2.1] (#[],#[],())
def LL:Wf (List RW×Unit) (OL Int) (WL.Un×Unit):=λp a _=>p.1.length<1000/\a #[Cr p.1] (#[],())
def LM:Wf (Bg×List Int×Unit) (OL Int) (Bg×WL.Un×Unit):=λp a _=>p.2.1.length<60/\∀l,wQ l->(∀x∈l,x∈p.2.1)->a #[l] (#[],#[],())
def LN:Wf (List RW×List Int×Unit) (OL Int) (WL.Un×WL.Un×Unit):=λp a _=>Vr p.1/\(∀c∈p.2.1,(rowAt p.1 c).isSome=true)/\a #[vG (eb p.1) p.2.1] (#[],#[],())
def HS:Wf (Int×Unit) Bool (WL.Un×Unit):=λp a _=>a true (#[],())
def Sl:Wf (List Int×Unit) Bool (WL.Un×Unit):=λp a _=>a true (#[],())
def LO:Wf (List Int×List Int×Unit) Bool (WL.Un×WL.Un×Unit):=λp a _=>a (decide<|p.1=p.2.1) (#[],#[],())
def Nq:Wf (Int×Unit) (OL RW) (WL.Un×Unit):=λp a _=>0<=p.1/\a #[Co.take p.1.toNat] (#[],())
def AS:Wf (OL RW×OL (Int×List Int)×Int×Bg×Unit) (OL Int) (OL RW×OL (Int×List Int)×WL.Un×Bg×Unit):=λp a _ =>
 Vr p.1.l/\p.1.l.length<=34/\p.2.1.l.length<=100/\(∀q∈p.2.1.l,Lp p.1.l q)/\0<=p.2.2.1/\p.2.2.1<=12 /\
 ∀e q,Vr (p.1.l++[↑(p.2.2.1,e)])->(∀u∈p.2.1.l++q,Lp (p.1.l++[↑(p.2.2.1,e)]) u)->q.length<=1->a #[e] (p.1,#[p.2.1.l++q],#[],#[],())
def Sn:Wf (Bg×Int×Unit) (OL RW) (Bg×WL.Un×Unit):=λp b _=>(0<=p.2.1/\p.2.1<=20)/\∀a,Vr a->a.length<=35->b #[a] (#[],#[],())
structure xC{C:ci}(x:B0 C)(rows:List RW):Prop where
 up:x.up=rows.length
 rk:∀k,lk x.rk k=(rowAt rows k).map (·.1)
 bd:∀k,lk x.bd k=(rowAt rows k).map (·.2)
 ks:x.rk.map (·.1)=Cr rows
 lb:x.bd.length<=rows.length
def So(C:ci):Wf (B0 C×List RW×Unit) (B0 C) (WL.Un×WL.Un×Unit):=λp a _=>p.1=#[[],[],0,[],[]]/\Vr p.2.1/\∀x:B0 C,xC x p.2.1->x.ht=[]->x.th=[]->a x (#[],#[],())
def HU:Wf (Bool×Bool×Unit) Bool (WL.Un×WL.Un×Unit):=λp a _=>a (decide<|p.1=p.2.1) (#[],#[],())
def Cg(C:ci):Wf (B0 C×List RW×Unit) Bool (B0 C×WL.Un×Unit):=λp a _=>xC p.1 p.2.1/\Vr p.2.1/\a true 58
def yh{b:Type}{l:List b}{i:Int}(c:0<=i)(d:i<(l.length:Int)):∃x,Fw l i=↑x/\l[i.toNat]?=↑x/\x∈l:=by
 have a:i.toNat<l.length:=by lia
 have e:l[i.toNat]?=↑l[i.toNat]:=jv a;have:=MH e;rw[show ((i.toNat:Nat):Int)=i by lia]at this;exact#[_,this,e,uI a]
def HV{n k:Int}(h:k∈yL 0 n):0<=k/\k<n:=by
 unfold yL at h;obtain⟨i,a,e⟩:=List.mem_map.mp h;have:=List.mem_range.mp a
 lia
def vm{k:Int}(h:rowAt rows k=↑y):0<=k/\k<(rows.length:Int)/\rows[k.toNat]?=↑(some y)/\Fw rows k=↑(some y):=by
 unfold rowAt at h;by_cases a:0<=k
 ·rw[gN a]at h
  cases e:rows[k.toNat]? with
  |none=>rw[e]at h;cases h
  |some z =>
   rw[e]at h;have h:z=↑y:=h;subst h;have f:=(List.getElem?_eq_some_iff.mp e).1;have b:k<(rows.length:Int):=by omega
   obtain⟨x,d,c,_⟩:=yh a b;rw[e]at c;cases c;exact#[a,b,rfl,d]
 ·rw[gM a]at h;cases h
def E7{k:Int}(a:0<=k)(e:rows[k.toNat]?=↑z):rowAt rows k=z:=by unfold rowAt;rw[gN a,e];rfl
def Vr.Sq(v:Vr rows){k:Int}(h:rowAt rows k=↑y):wQ y.2/\∀x∈y.2,x∈yL 0 35:=by obtain⟨_,_,b,c,_⟩:=v.ok k y.1 y.2 h;refine#[b,λx a=>?_];obtain⟨_,f,d⟩:=c x a;obtain⟨e,g,_⟩:=vm d;exact zD e<|v.sm k y.1 y.2 h x a
def yU{k:Int}(h:rowAt rows k=↑y):eb rows k=y.2:=by unfold eb;rw[h];rfl
def YV(a:List b){n:Int}(h:0<=n):FD a none ↑n=a.take n.toNat:=by unfold FD;rw[show ↑n=some ((n.toNat:Nat):Int) by rw[show ((n.toNat:Nat):Int)=n by lia],HT.MC,HT.IV];simp
def wL{n:Int}(a:0<n)(b:n<1073741824)(h:∀r,0<=r->r<n->c r (#[],#[],())):yI (g,n,()) c d:=#[a,b,h]
def v0:rowAt (rows++[z]) (rows.length:Int)=z:=by refine E7 q0a ?_;rw[lF,jR<|gQ _,qH];rfl
def wv{a:List RW}{k:Int}(h:k≠(a.length:Int)):rowAt (a++[z]) k=rowAt a k:=by
 unfold rowAt;by_cases b:0<=k
 ·rw[gN b,gN b];by_cases c:k.toNat<a.length
  ·rw[lV c]
  ·rw[kC (by rw[hO,ii];lia),kC q0a]
 ·rw[gM b,gM b]
def HW{a:List RW}{k:Int}(h:k≠(a.length:Int)):eb (a++[z]) k=eb a k:=by unfold eb;rw[wv h]
def ye{k:Int}(h:rowAt rows k=↑y):k≠(rows.length:Int):=λz=>by
 have:=(vm h).2.1
 lia
def HX(v:Vr rows)(p:rows.length<=35)(m:∀r e,z=↑(r,e)->0<=r/\r<=12/\wQ e/\(∀c∈e,∃g,rowAt rows c=↑(r-1,g))/\vG (eb rows) e=[]):Vr (rows++[z]):=by
 refine#[λk r e h=>?_,by rw[hO,ii];lia,λk r e h c n=>?_]
 rotate_left
 ·by_cases q:k=(rows.length:Int)
  ·rw[q,v0]at h;obtain⟨g,i⟩:=(m r e h).2.2.2.1 c n;have:=(vm i).2.1
   lia
  ·rw[wv q]at h;exact v.sm k r e h c n
 have j:∀{k r e},0<=r/\r<=12/\wQ e/\(∀c∈e,c<k/\∃g,rowAt rows c=↑(r-1,g))/\vG (eb rows) e=[]->0<=r/\r<=12/\wQ e/\(∀c∈e,c<k/\∃g,rowAt (rows++[z]) c=↑(r-1,g))/\vG (eb<|rows++[z]) e=[]:=λ{k r e} ⟨a,b,c,d,f⟩=>by
  refine#[a,b,c,λx l=>?_,?_]
  ·obtain⟨o,g,i⟩:=d x l;exact#[o,g,by rw[wv<|ye i];exact i]
  ·rw[<- f];refine xj λx l=>?_;obtain⟨_,g,i⟩:=d x l;exact HW<|ye i
 by_cases q:k=(rows.length:Int)
 ·rw[q,v0]at h;obtain⟨a,b,c,d,f⟩:=m r e h;refine j #[a,b,c,λx l=>?_,f];obtain⟨g,i⟩:=d x l;exact#[by have:=(vm i).2.1;lia,g,i]
 ·rw[wv q]at h;exact j<|v.ok k r e h
def E8(h:Lp rows u):Lp (rows++[z]) u:=by
 obtain⟨a,b,c⟩:=h;refine#[a,λx d=>?_,?_]
 ·obtain⟨e,q⟩:=b x d;exact#[e,by rw[wv<|ye q];exact q]
 ·rw[<- c];refine xj λx d=>?_;obtain⟨e,q⟩:=b x d;exact HW<|ye q
def Sr{r:Int}:Lp (rows++[↑(r,[])]) (r,[(rows.length:Int)]):=by
 refine#[jL _ _,λx a=>#[[],?_],?_]
 ·rw[List.mem_singleton.mp a,v0]
 ·show xr [] (eb (rows++[↑(r,[])]) (rows.length:Int))=[];rw[yU (y:=(r,[])) v0];rfl
def VJ(h:wQ e):xr e e=[]:=G9 (xJ h) iw λk=>by rw[zA<|ve h];by_cases q:k∈e<;>simp[q]
def OS{c:Int}:vG f (l++[c])=xr (vG f l) (f c):=by unfold vG Pf;rw[j7,List.foldl_append];rfl
def OT{r:Int}(v:Vr rows)(p:wQ l)(h:∀c∈l,∃e,rowAt rows c=↑(r,e)) :
  (∀c∈vG (eb rows) l,∃n,rowAt rows c=↑(r-1,n))/\vG (eb rows) (vG (eb rows) l)=[]/\Lp (rows++[↑(r,vG (eb rows) l)]) (r,l++[(rows.length:Int)]):=by
 have m:∀c∈l,wQ (eb rows c)/\(∀d∈eb rows c,∃n,rowAt rows d=↑(r-1,n))/\vG (eb rows) (eb rows c)=[]:=λc i=>by obtain⟨e,j⟩:=h c i;obtain⟨_,_,a,b,f⟩:=v.ok c r e j;rw[yU j];exact#[a,λd k=>(b d k).2,f]
 have s:∀{d q},rowAt rows d=↑q->(eb rows d).Nodup:=λ{d q} k=>by rw[yU k];exact ve (v.Sq k).1
 refine#[λc i=>?_,Oq λc i=>#[(m c i).1,λd k=>?_,(m c i).2.2],?_,λx o=>?_,?_]
 ·obtain⟨d,k,o⟩:=EF (λc i=>ve (m c i).1) i;exact(m d k).2.1 c o
 ·obtain⟨n,q⟩:=(m c i).2.1 d k;exact s q
 ·refine List.pairwise_append.mpr #[p,jL _ _,λa t b u=>?_];obtain⟨e,j⟩:=h a t;rw[List.mem_singleton.mp u];exact(vm j).2.1
 ·rcases List.mem_append.mp o with z|z
  ·obtain⟨e,j⟩:=h x z;exact#[e,by rw[wv<|ye j];exact j]
  ·rw[List.mem_singleton.mp z];exact#[_,v0]
 ·show vG _ (l++[(rows.length:Int)])=[];rw[OS,yU (y:=(r,vG (eb rows) l)) v0,xj (g:=eb rows) λc i=>?_]
  ·exact VJ<|wy _ _
  ·obtain⟨e,j⟩:=h c i;exact HW<|ye j
def Lp.sub{a:List RW}(c:a.length<=35)(h:Lp a u):∀x∈u.2,x∈yL 0 35:=λx b=>by obtain⟨e,q⟩:=h.2.1 x b;have:=vm q;exact zD q0a q0a
def xg{k:Int}:k∈Cr rows↔(rowAt rows k).isSome=true:=by unfold Cr;rw[jo];refine#[λh=>h.2,λh=>#[?_,h]];obtain⟨y,a⟩:=Option.isSome_iff_exists.mp h;have:=vm a;exact zD this.1 this.2.1
def xh(a:List RW):(Cr a).length<=a.length:=by
 have:=iq (λk=>(rowAt a k).isSome)<|yL 0 a.length;rw[wO]at this;unfold Cr
 lia
def Nr(c:List RW):wQ (Cr c):=by
 refine jS _ ?_;unfold yL;rw[List.pairwise_map];refine o4 ?_<|sH;intro a b h
 lia
def Ss(n:Nat):yL 0 ((n+1:Nat):Int)=yL 0 (n:Int)++[(n:Int)]:=by unfold yL;rw[show (((n+1:Nat):Int)-0).toNat=n+1 by lia,show ((n:Int)-0).toNat=n by lia,List.range_succ,j7];simp
def VL:Cr (rows++[z])=Cr rows++if z.isSome=true then [(rows.length:Int)] else []:=by
 unfold Cr;rw[hO,ii,Ss,List.filter_append];congr 1
 ·refine mI λk a=>?_;rw[wv (by have:=HV a;lia)]
 ·rw[ju,v0];rfl
def Su:Cr (rows++[↑y])=Cr rows++[(rows.length:Int)]:=VL
def Gw{a:List RW}{k:Int}(h:(a.length:Int)<=k):rowAt a k=none:=by
 cases e:rowAt a k with
 |none=>rfl
 |some y=>have:=(vm e).2.1;omega
def CW{a:List RW}{j k:Int}(c:0<=j):rowAt (a.set j.toNat none) k=if k=j then none else rowAt a k:=by
 by_cases q:k=j
 ·rw[gN q,q];unfold rowAt;rw[gN c];by_cases d:j.toNat<a.length
  ·rw[oS d];rfl
  ·rw[kC<|by rw[mj];lia];rfl
 ·rw[gM q];unfold rowAt;by_cases b:0<=k
  ·rw[gN b,gN b,nc q0a]
  ·rw[gM b,gM b]
def Sv{a:List RW}{j:Int}(b:0<=j):Cr (a.set j.toNat none)=(Cr a).filter λk=>!decide (k=j):=by unfold Cr;rw[mj,List.filter_filter];refine mI λk _=>?_;rw[CW b];by_cases q:k=j<;>simp[q]
section
variable{C XC XS XO XB XP XV:ci}{x:B0 C}{rows:List RW}
def xC.lr(c:xC x rows):x.rk.length<=rows.length:=by have:=congrArg oi c.ks;rw[gV]at this;rw[this];exact xh rows
def xC.okb(c:xC x rows)(v:Vr rows):RF x:=by
 have l:=v.ln;have g:=c.lr;have i:=c.lb;refine#[λk h=>?_,λk b h=>?_,by rw[c.ks];exact(Nr rows).imp Int.le_of_lt,q0a,q0a]
 ·rw[c.rk,iN]at h;rw[c.bd,iN];exact h
 ·rw[c.bd]at h
  cases e:rowAt rows k with
  |none=>rw[e]at h;cases h
  |some y =>
   rw[e]at h;cases h;obtain⟨_,_,a,b,_⟩:=v.ok k y.1 y.2 e;refine#[a,λd f=>?_];obtain⟨j,q⟩:=(b d f).2;have:=vm q;exact#[this.1,by have:=v.sm k y.1 y.2 e d f;lia]
def xC.wE(c:xC x rows)(k:Int):wE x k=eb rows k:=by unfold K7.wE eb;rw[c.bd]
def xC.put(c:xC x rows){r:Int}:xC ({ x with rk:=pk x.rk x.up r,bd:=pk x.bd x.up e,up:=x.up+1}:B0 C) (rows++[↑(r,e)]):=by
 have n:rowAt rows x.up=none:=Gw (by rw[c.up];exact ou _);have a:lk x.rk x.up=none:=by rw[c.rk,n];rfl
 have b:lk x.bd x.up=none:=by rw[c.bd,n];rfl
 have d:=c.lr;have f:=c.lb;refine#[?_,λk=>?_,λk=>?_,?_,?_]
 ·show x.up+1=_;rw[c.up,hO,ii]
  lia
 ·show lk (pk x.rk x.up r) k=_;rw[zJ a,Lw a];by_cases q:k=x.up
  ·rw[gN q,q,c.up,v0];rfl
  ·rw[gM q,wv (by rw[<- c.up];exact q),c.rk]
 ·show lk (pk x.bd x.up e) k=_;rw[zJ b,Lw b];by_cases q:k=x.up
  ·rw[gN q,q,c.up,v0];rfl
  ·rw[gM q,wv (by rw[<- c.up];exact q),c.bd]
 ·show (pk x.rk x.up r).map (·.1)=_;rw[zJ a,j7,c.ks,Su,<- c.up];rfl
 ·show (pk x.bd x.up e).length<=_;rw[zJ b,hO,hO,ii,ii]
  lia
def xC.take(c:xC x rows){j:Int}(a:0<=j):xC ({ x with rk:=dk x.rk j,bd:=dk x.bd j}:B0 C) (rows.set j.toNat none):=by
 have d:=c.lr;have b:=c.lb;refine#[by rw[mj];exact c.up,λk=>?_,λk=>?_,?_,?_]
 ·show lk (dk x.rk j) k=_;rw[Ce,CW a,c.rk];split<;>rfl
 ·show lk (dk x.bd j) k=_;rw[Ce,CW a,c.bd];split<;>rfl
 ·show (dk x.rk j).map (·.1)=_;rw[Sv a,<- c.ks];unfold dk;rw[rc];congr 1;refine mI λe _=>?_;by_cases q:e.1=j<;>simp[q]
 ·rw[mj];exact iA (iq _ _) b
def xC.vW(c:xC x rows)(h:∀k∈row,(rowAt rows k).isSome=true):vW x row=true:=List.all_eq_true.mpr λk a=>by rw[c.rk,iN];exact h k a
def Sw{r:Int}(c:xC x rows)(v:Vr rows)(l:0<=r)(m:r<=12)(i:wQ e)(g:∀d∈e,∃b,rowAt rows d=↑(r-1,b))(j:vG (eb rows) e=[])
 (k:∀a:B0 C,xC a (rows++[↑(r,e)])->a.ht=x.ht->a.th=x.th->h x.up (a,#[],#[],())):JI C XB XS XC XO XP (x,r,e,()) h o:=by
  have n:rowAt rows x.up=none:=Gw (by rw[c.up];exact ou _)
  refine#[c.okb v,(by show lk x.bd x.up=none;rw[c.bd,n];rfl),?_]
  show if r<0\/12<r then _ else if asc e=true then (if K7.vW x e=true then (if Vs x e (r-1)=true then (if Pf (e.map<|K7.wE x)=[] then h x.up _ else _) else _) else _) else _
  rw[gM q0a,gN<|(yx e).mpr i,gN (c.vW λd f=>by obtain⟨b,q⟩:=g d f;rw[q];rfl),gN,gN]
  · exact k _ c.put rfl rfl
  · rw[l8 λd _ => c.wE d]
    exact j
  · refine List.all_eq_true.mpr λd f => decide_eq_true ?_
    obtain⟨b,q⟩:=g d f
    rw[c.rk,q]
    rfl
def Nt(c:xC x rows){j h:Int}:h∈YK x j↔(rowAt rows h).isSome=true/\j∈eb rows h:=by
 unfold YK;rw[jo,iU,c.wE];constructor
 ·rintro⟨a,b⟩;have:=xy a;rw[c.rk,iN]at this;exact#[this,b]
 ·rintro⟨a,b⟩;exact#[zF (by rw[c.rk,iN];exact a),b]
def VM(c:xC x rows){j:Int}:YK x j=[]↔∀h,j∉eb rows h:=by
 rw[List.eq_nil_iff_forall_not_mem];constructor
 ·intro z h a;refine z h ((Nt c).mpr #[?_,a])
  cases e:rowAt rows h with
  |none=>unfold eb at a;rw[e]at a;cases a
  |some y=>rfl
 ·intro z h a;exact z h ((Nt c).mp a).2
def VN{j:Int}(c:xC x rows)(v:Vr rows)(b:(rowAt rows j).isSome=true)(e:∀h,j∉eb rows h)(f:wK x j=false)
 (k:∀a:B0 C,xC a (rows.set j.toNat none)->a.ht=x.ht->a.th=x.th->d () (a,#[],())):HM C XC XV (x,j,()) d i:=by
  refine#[f,c.okb v,?_]
  show if (lk x.rk j).isSome=true then (if YK x j=[] then d () _ else _) else _
  rw[gN (by rw[c.rk,iN];exact b),gN<|(VM c).mpr e]
  obtain⟨y,g⟩:=Option.isSome_iff_exists.mp b
  exact k _ (c.take (vm g).1) rfl rfl
end
def xR{a:List RW}{n:Nat}{j:Int}:rowAt (a.take n) j=if j<(n:Int) then rowAt a j else none:=by
 unfold rowAt;by_cases b:0<=j
 ·rw[gN b,gN b,t6];by_cases c:j<(n:Int)
  ·rw[gN c,gN q0d]
  ·rw[gM c,gM q0d];rfl
 ·rw[gM b,gM b];split<;>rfl
def VO(v:Vr rows)(n:Nat):Vr (rows.take n):=by
 refine#[λk r e h=>?_,iA (List.length_take_le' _ _) v.ln,λk r e h=>?_]
 rotate_left
 ·rw[xR]at h;split at h
  ·exact v.sm k r e h
  ·cases h
 rw[xR]at h;by_cases q:k<(n:Int)
 ·rw[gN q]at h;obtain⟨a,b,c,d,f⟩:=v.ok k r e h;refine#[a,b,c,λx g=>#[(d x g).1,?_],?_]
  ·obtain⟨l,i,j⟩:=d x g;exact#[i,by rw[xR,gN q0a];exact j]
  ·rw[<- f];refine xj λx g=>?_;have:=(d x g).1;unfold eb;rw[xR,gN q0a]
 ·rw[gM q]at h;cases h
noncomputable def LpB(a:List RW)(u:Int×List Int):Bool:=asc u.2&&u.2.all (λc=>decide ((rowAt a c).map (·.1)=↑u.1))&&decide (vG (eb a) u.2=[])
def Nu{c r:Int}(h:(rowAt rows c).map (·.1)=↑r):∃e,rowAt rows c=↑(r,e):=by
 cases e:rowAt rows c with
 |none=>rw[e]at h;cases h
 |some y=>rw[e]at h;cases h;exact#[y.2,rfl]
def Sy(h:LpB rows u=true):Lp rows u:=by unfold LpB at h;rw[iJ,iJ]at h;exact#[(yx _).mp h.1.1,λc a=>Nu<|jV<|List.all_eq_true.mp h.1.2 c a,jV h.2]
noncomputable def VrB(rows:List RW):Bool:=decide (rows.length<=27)&&(ik rows.length).all λk=>match rowAt rows (k:Int) with
 |none=>true
 |some (r,e)=>decide (0<=r)&&decide (r<=12)&&asc e&&e.all (λc=>decide (c<(k:Int))&&decide ((rowAt rows c).map (·.1)=↑(r-1)))&&decide (vG (eb rows) e=[])
def Sz(h:VrB rows=true):Vr rows:=by
 unfold VrB at h;rw[iJ]at h;have f:=jV h.1
 suffices g:∀k r e,rowAt rows k=↑(r,e)->0<=r/\r<=12/\wQ e/\(∀c∈e,c<k/\∃d,rowAt rows c=↑(r-1,d))/\vG (eb rows) e=[] from#[g,q0d,λk r e a c b=>by
  have:=((g k r e a).2.2.2.1 c b).1;have:=vm a
  omega]
 intro k r e a;have q:=vm a;have z:=List.all_eq_true.mp h.2 k.toNat<|List.mem_range.mpr q0d;rw[show ((k.toNat:Nat):Int)=k by omega,a]at z;simp only[iJ,iU,oH]at z;exact⟨z.1.1.1.1,z.1.1.1.2,(yx _).mp z.1.1.2,λc b=>#[(z.1.2 c b).1,Nu (z.1.2 c b).2],z.2⟩
noncomputable def Zl(n:Nat):List (Int×List Int):=(yL 0 n).filterMap λk=>if decide (k<4)=true then some (0,[k]) else none
noncomputable def lp1:List (Int×List Int):=[(1,[4,5,7]),(1,[4,6,8]),(1,[5,6,9])]
noncomputable def chk(m:Nat):Bool:=VrB (Co.take m)&&(Zl (Co.take m).length).all (LpB<|Co.take m)&&decide ((Zl (Co.take m).length).length<=4)&&decide ((Co.take m).length<=15)&&(decide ((Co.take m).length<=9)||lp1.all (LpB<|Co.take m))
def VP:(ik 16).all chk=true:=by decide +kernel
def LP(c:wQ a)(d:wQ b)(f:∀k∈a,k∈yL 0 35)(g:∀k∈b,k∈yL 0 35):a.length<=1000/\b.length<=1000/\(a.filter λk=>!decide (k∈b)).length+(b.filter λk=>!decide (k∈a)).length<64:=by
 have i:=wp c f;have j:=wp d g;have h:=SX.zb ((a.filter λk=>!decide (k∈b))++b.filter λk=>!decide (k∈a)) (yL 0 35) (List.nodup_append.mpr #[(ve c).filter _,(ve d).filter _,λx l y m e=>?_]) λk n=>?_
 ·rw[hO]at h;rw[wO]at i j h
  lia
 ·have q:=(List.mem_filter.mp l).2;rw[e]at q;simp[(List.mem_filter.mp m).1]at q
 ·rcases List.mem_append.mp n with z|z
  ·exact f k (List.mem_filter.mp z).1
  ·exact g k (List.mem_filter.mp z).1
def VQ{a b:List Int}(h:a.length+b.length<64):a.length<=1000/\b.length<=1000/\(a.filter λk=>!decide (k∈b)).length+(b.filter λk=>!decide (k∈a)).length<64:=by
 have c:=iq (λk=>!decide (k∈b)) a;have d:=iq (λk=>!decide (k∈a)) b
 lia
def AT(e:a=b)(k:c true (#[],#[],())):LO (a,b,()) c d:=by show c (decide<|a=b) _;rw[decide_eq_true e];exact k
def SA{a b:Bool}(e:a=b)(k:c true (#[],#[],())):HU (a,b,()) c d:=by show c (decide<|a=b) _;rw[decide_eq_true e];exact k
def xC.a0V(c:xC x rows)(k:Int):(lk x.rk k).isSome=decide (k∈Cr rows):=by
 rw[c.rk,iN];by_cases q:(rowAt rows k).isSome=true
 ·rw[q,decide_eq_true<|xg.mpr q]
 ·rw[ie<|λz=>q<|xg.mp z];simpa using q
def xC.Vt(c:xC x rows){k:Int}(h:rowAt rows k=↑y):Vt x k=y.1:=by unfold K7.Vt;rw[c.rk,h];rfl
def Nv{k:Int}{y:Int×List Int}{a:Int->B0 C×WL.Un×Unit->Prop}{b:ci->B0 C×WL.Un×Unit->Prop}(c:xC x rows)(h:rowAt rows k=↑y)(g:a y.1 (x,#[],())):B9 C d (x,k,()) a b:=by show if (lk x.rk k).isSome=true then a (K7.Vt x k) _ else _;rw[gN (by rw[c.rk,h];rfl),c.Vt h];exact g
def OU{k:Int}{y:Int×List Int}{a:OL Int->B0 C×WL.Un×Unit->Prop}{b:ci->B0 C×WL.Un×Unit->Prop}(c:xC x rows)(v:Vr rows)(h:rowAt rows k=↑y)(g:a #[y.2] (x,#[],())):Aq C d (x,k,()) a b:=by refine#[c.okb v,?_];show if (lk x.rk k).isSome=true then a #[K7.wE x k] _ else _;rw[gN (by rw[c.rk,h];rfl),c.wE,yU h];exact g
def E9{n:Int}(k:b true (#[],())):HS (n,()) b c:=k
/-! ### a -/
def a0W(v:Vr rows)(n:rows.length<=59):Vr (rows++[↑(0,[])]):=by
 refine#[λk r e h=>?_,by rw[hO,ii];lia,λk r e h c j=>?_]
 ·by_cases q:k=(rows.length:Int)
  ·rw[q,v0]at h;cases h;exact#[ou 0,q0q,iw,(λ_ z=>by cases z),rfl]
  ·rw[wv q]at h;obtain⟨a,b,c,d,f⟩:=v.ok k r e h;refine#[a,b,c,λx i=>?_,?_]
   ·obtain⟨m,l,g⟩:=d x i;exact#[m,l,by rw[wv<|ye g];exact g]
   ·rw[<- f];refine xj λx i=>?_;obtain⟨_,l,g⟩:=d x i;exact HW<|ye g
 ·by_cases q:k=(rows.length:Int)
  ·rw[q,v0]at h;cases h;cases j
  ·rw[wv q]at h;exact v.sm k r e h c j
def VR:xC (#[[],[],0,[],[]]:B0 C) []:=by
 have n:∀k,rowAt [] k=none:=λk=>by unfold rowAt;split<;>rfl
 exact#[rfl,(λk=>by rw[n];rfl),(λk=>by rw[n];rfl),rfl,gQ _]
structure Arr{C:ci}(x:B0 C)(a:List (Int×Int)):Prop where
 ok:AR x
 nt:(x.th.map (·.1)).Nodup
 pm:(a.map (·.1)).Perm (vV x)
 hd:∀e∈a,v7 x e.1=e.2
def SE(C:ci):Wf (B0 C×List RW×Bg×Int×Unit) (OL<|Int×Int) (B0 C×WL.Un×Bg×WL.Un×Unit):=λp b _ =>
 xC p.1 p.2.1/\Vr p.2.1/\p.2.1.length<=35/\p.1.ht=[]/\p.1.th=[]/\(0<=p.2.2.2.1/\p.2.2.2.1<=1000)/\∀x a,xC x p.2.1->Arr x a->(a.map (·.1)).Pairwise (·<=·)->b #[a] (x,#[],#[],#[],())
def Nx(C:ci):Wf (Bg×Int×Unit) (T3 (B0 C) (OL RW)<|OL<|Int×Int) (Bg×WL.Un×Unit):=λp c _ =>
 (0<=p.2.1/\p.2.1<=20)/\∀x b a,xC x b->Vr b->b.length<=35->Arr x a->(a.map (·.1)).Pairwise (·<=·)->c #[x,#[b],#[a]] (#[],#[],())
def HY:Wf (List (Int×Int)×Unit) (OL Int) (WL.Un×Unit):=λp a _=>p.1.length<64/\a #[Af (p.1.map (·.2))] (#[],())
noncomputable def JV(b:List RW)(a:List (Int×Int)):List Int:=(Cr b).filter λk=>!decide (k∈a.map (·.1)++Af (a.map (·.2)))
def Fa:Wf (List (Int×Int)×Unit) (OL Int) (WL.Un×Unit):=λp a _=>p.1.length<64/\a #[p.1.map (·.1)] (#[],())
def LQ:Wf (List RW×List (Int×Int)×Unit) (OL Int) (WL.Un×WL.Un×Unit):=λp a _=>p.1.length<1000/\p.2.1.length<64/\a #[JV p.1 p.2.1] (#[],#[],())
def w_sum:Wf (List Int×Unit) Bool (WL.Un×Unit):=λp a _=>wQ p.1/\p.1.length<=1000/\a true (#[],())
def Ci:Wf (List Int×List Int×Unit) (OL Int) (WL.Un×WL.Un×Unit):=λp a _=>p.1.length<=1000/\a #[p.1.filter λk=>decide<|k∈p.2.1] (#[],#[],())
def a2O(h:wQ l){k:Int}(p:1<=k)(c:k<l.length):∃a b,Fw l (k-1)=↑a/\Fw l k=↑b/\a<b:=by obtain⟨a,d,e,_⟩:=yh (l:=l) (i:=k-1) q0a q0a;obtain⟨b,f,g,_⟩:=yh (l:=l) (i:=k) q0a c;obtain⟨j,m⟩:=List.getElem?_eq_some_iff.mp e;obtain⟨n,o⟩:=List.getElem?_eq_some_iff.mp g;refine#[a,b,d,f,?_];rw[<- m,<- o];exact(List.pairwise_iff_getElem.mp h) _ _ j n q0a
def a2P(k:a true (#[],())):Sl (l,()) a b:=k
def a0X{n k:Int}(h:k∈yL 1 n):1<=k/\k<n:=by unfold yL at h;obtain⟨i,a,e⟩:=List.mem_map.mp h;have:=List.mem_range.mp a;omega
def Ny:Wf (List (Int×Int)×List (Int×Int)×Unit) Bool (WL.Un×WL.Un×Unit):=λp a _=>p.1=p.2.1/\p.1.length<64/\a true (#[],#[],())
def SF(C:ci):Wf (B0 C×List RW×List (Int×Int)×Unit) Bool (B0 C×WL.Un×WL.Un×Unit):=λp Kn _ =>
 (xC p.1 p.2.1/\Vr p.2.1/\p.2.1.length<=35/\Arr p.1 p.2.2.1/\(p.2.2.1.map (·.1)).Pairwise (·<=·))/\Kn true (p.1,#[],#[],())
def Arr.eq{C:ci}{x:B0 C}{a:List (Int×Int)}(A:Arr x a)(s:(a.map (·.1)).Pairwise (·<=·)):(Af<|vV x).map (λl=>(l,v7 x l))=a:=by rw[zf ((wx _).trans A.pm.symm) (AK _) s,kj];exact(l8 λy hy=>by show (y.1,v7 x y.1)=y;rw[A.hd y hy]).trans<|List.map_id _
def YW{l:List (Int×Int)}(h:l.Pairwise (λx y=>SX.IC y x=false)):(l.map (·.1)).Pairwise (·<=·):=List.pairwise_map.mpr (h.imp λ{p q} z=>by rcases SX.EL.mp z with z|z<;>omega)
def xG:∀{l:List b} {i:Nat},l[i]?=↑y->(y::l.eraseIdx i).Perm l
 | [],i,h=>by simp at h
 |a::l,0,h=>by
  have h:a=y:=by simpa using h
  rw[h];exact .refl _
 |a::l,i+1,h=>by rw[oC];exact(List.Perm.swap a y _).trans<|(xG<|by simpa using h).cons a
def DP{a:Type}{l:List (Int×a)}{k:Int}:(dk l k).map (·.1)=(l.map (·.1)).filter λj=>decide (j≠k):=by unfold dk;rw[rc];rfl
section
variable{C:ci}{x:B0 C}{rows:List RW}{a:List (Int×Int)}
def AR.a0Y(b:AR x){l:Int}(n:l∈vV x):AR ({ x with ht:=dk x.ht l,th:=dk x.th (v7 x l)}:B0 C):=by
 have o:∀{t:Int},t∈vV ({ x with ht:=dk x.ht l,th:=dk x.th (v7 x l)}:B0 C)↔t∈vV x/\t≠l:=λ{t}=>by show t∈(dk x.ht l).map (·.1)↔_;rw[DP,jo,iU];exact Iff.rfl
 refine#[#[b.ok.kb,b.ok.bo,b.ok.ri,b.ok.lr,b.ok.lb],?_,?_,?_,λd f e=>?_,λd f e=>?_,λc h i=>?_,?_]
 ·show ((dk x.ht l).map (·.1)).Nodup;rw[DP];exact b.nd.filter _
 ·exact jk (iq _ _) b.len
 ·exact jk (iq _ _) b.a0Q
 ·have e:lk (dk x.ht l) d=↑f:=e;rw[Ce]at e;by_cases q:d=l
  ·rw[gN q]at e;cases e
  ·rw[gM q]at e;have g:=b.ht d f e;refine#[g.1,g.2.1,g.2.2.1,?_];show lk (dk x.th<|v7 x l) f=some d;rw[Ce,gM λz=>?_]
   ·exact g.2.2.2
   ·have:=(b.ht l _<|wD n).2.2.2;rw[<- z,g.2.2.2]at this;injection this with this;exact q this
 ·have e:lk (dk x.th<|v7 x l) f=↑d:=e;rw[Ce]at e;by_cases q:f=v7 x l
  ·rw[gN q]at e;cases e
  ·rw[gM q]at e;have g:=b.th d f e;show lk (dk x.ht l) d=↑f;rw[Ce,gM λz=>?_]
   ·exact g
   ·rw[z,wD n]at g;injection g with g;exact q g.symm
 ·have h:(lk (dk x.ht l) c).isSome=true:=h;have i:(lk (dk x.th<|v7 x l) c).isSome=true:=i;rw[Ce]at h i;refine b.one c ?_ ?_
  ·by_cases q:c=l
   ·rw[gN q]at h;cases h
   ·rw[gM q]at h;exact h
  ·by_cases q:c=v7 x l
   ·rw[gN q]at i;cases i
   ·rw[gM q]at i;exact i
 ·obtain⟨r,p⟩:=b.acy;refine#[r,λk m t j=>?_];have m:=o.mp m
  have s:v7 ({ x with ht:=dk x.ht l,th:=dk x.th (v7 x l)}:B0 C) k=v7 x k:=by unfold v7;show (lk (dk x.ht l) k).getD 0=_;rw[Ce,gM m.2]
  rw[s]at j;have j:=xf.mp j;exact p k m.1 t<|xf.mpr #[j.1,j.2.1,(o.mp j.2.2).1]
def AR.Fq(d:AR x){low high:Int}(w:(lk x.rk low).isSome=true)(y:(lk x.rk high).isSome=true)(f:low∈wE x high)(A:wK x low=false)(B:wK x high=false)(D:low≠high)(ac:Zj (Fq x low high))(E:x.ht.length+1<64)(F:x.th.length+1<64):AR (Fq x low high):=by
 have p:=Bool.or_eq_false_iff.mp A;have r:=Bool.or_eq_false_iff.mp B;have o:lk x.ht low=none:=by simpa using p.1
 have G:lk x.th low=none:=by simpa using p.2
 have H:lk x.ht high=none:=by simpa using r.1
 have s:lk x.th high=none:=by simpa using r.2
 have t:(K7.Fq x low high).ht=x.ht++[(low,high)]:=zJ o;have I:(K7.Fq x low high).th=x.th++[(high,low)]:=zJ s;have j:∀k,lk (K7.Fq x low high).ht k=if k=low then some high else lk x.ht k:=λk=>yo;have l:∀k,lk (K7.Fq x low high).th k=if k=high then some low else lk x.th k:=λk=>yo;refine#[#[d.ok.kb,d.ok.bo,d.ok.ri,d.ok.lr,d.ok.lb],?_,by rw[t];simpa using E,by rw[I];simpa using F,λm n e=>?_,λm n e=>?_,λc h i=>?_,ac]
 ·show ((K7.Fq x low high).ht.map (·.1)).Nodup;rw[t,j7];refine List.nodup_append.mpr #[d.nd,q0o,λa u b f z=>?_];have f:b=low:=by simpa using f
  rw[z,f]at u;have:=xy u;rw[o]at this;cases this
 ·rw[j]at e;by_cases q:m=low
  ·rw[gN q]at e;injection e with e;subst e;subst q;exact#[w,y,f,by rw[l,gN rfl]]
  ·rw[gM q]at e;have g:=d.ht m n e;refine#[g.1,g.2.1,g.2.2.1,?_];rw[l,gM λz=>?_]
   ·exact g.2.2.2
   ·rw[z,s]at g;cases g.2.2.2
 ·rw[l]at e;by_cases q:n=high
  ·rw[gN q]at e;injection e with e;subst e;subst q;rw[j,gN rfl]
  ·rw[gM q]at e;have g:=d.th m n e;rw[j,gM λz=>?_]
   ·exact g
   ·rw[z,o]at g;cases g
 ·rw[j]at h;rw[l]at i;by_cases q:c=low
  ·rw[gM λz=>D<|q.symm.trans z,q,G]at i;cases i
  ·rw[gM q]at h;by_cases v:c=high
   ·rw[v,H]at h;cases h
   ·rw[gM v]at i;exact d.one c h i
def xC.same(c:xC x rows){y:B0 C}(b:y.rk=x.rk)(d:y.bd=x.bd)(e:y.up=x.up):xC y rows:=by obtain⟨f,g,h,i,j⟩:=c;exact#[e.trans f,by rw[b];exact g,by rw[d];exact h,by rw[b];exact i,by rw[d];exact j]
def Arr.mem(A:Arr x a)(h:e∈a):e.1∈vV x:=A.pm.mem_iff.mp<|List.mem_map.mpr #[e,h,rfl]
def Arr.pop(A:Arr x a){i:Nat}(h:a[i]?=↑y):Arr ({ x with ht:=dk x.ht y.1,th:=dk x.th (v7 x y.1)}:B0 C) (a.eraseIdx i):=by
 have b:(y::a.eraseIdx i).Perm a:=xG h;have g:y∈a:=b.mem_iff.mp gR;have j:=A.mem g
 have d:(y.1::(a.eraseIdx i).map (·.1)).Perm (vV x):=by
  have:=(b.map (λe:Int×Int=>e.1)).trans A.pm
  rwa [im]at this
 have c:=List.nodup_cons.mp<|d.nodup_iff.mpr A.ok.nd;refine⟨A.ok.a0Y j,?_,?_,λe f=>?_⟩
 ·show ((dk x.th<|v7 x y.1).map (·.1)).Nodup;rw[DP];exact A.nt.filter _
 ·show ((a.eraseIdx i).map (·.1)).Perm ((dk x.ht y.1).map (·.1));rw[DP];refine wn c.2 (A.ok.nd.filter _) λk=>?_;rw[jo,iU];have:=d.mem_iff (a:=k);rw[io]at this;constructor
  ·exact λz=>#[this.mp<|.inr z,λw=>c.1<|w▸z]
  ·exact λz=>(this.mpr z.1).elim (λw=>hV w z.2) id
 ·have l:e∈a:=b.mem_iff.mp<|gU _ f;have m:e.1≠y.1:=λz=>c.1<|z▸List.mem_map.mpr #[e,f,rfl];show (lk (dk x.ht y.1) e.1).getD 0=e.2;rw[Ce,gM m];exact A.hd e l
def Arr.OV(A:Arr x a)(c:xC x rows)(v:rows.length<=35):x.ht.length<=35/\x.th.length<=35/\a.length<=35:=by
 have ln:=c.lr;have rn:(x.rk.map (·.1)).Nodup:=by rw[c.ks];exact ve<|Nr rows
 have h1:(vV x).length<=(x.rk.map (·.1)).length:=Ly A.ok.nd rn λk hk=>zF (A.ok.ht k _<|wD hk).1
 have h2:(x.th.map (·.1)).length<=(x.rk.map (·.1)).length:=Ly A.nt rn λk hk=>by obtain⟨l,e⟩:=Option.isSome_iff_exists.mp<|xy hk;exact zF (A.ok.ht l k<|A.ok.th l k e).2.1
 have h3:=A.pm.length_eq;have e:(vV x).length=x.ht.length:=gV _;rw[gV]at h1 h2 h3;rw[gV]at h2
 lia
def Arr.add(A:Arr x a)(c:xC x rows)(v:rows.length<=35){low high:Int}(k:(lk x.rk low).isSome=true)(l:(lk x.rk high).isSome=true)(d:low∈wE x high)(f:wK x low=false)(g:wK x high=false)(m:low≠high)(ac:Zj (Fq x low high)):Arr (Fq x low high) (a++[(low,high)]):=by
 have q:=A.OV c v;have h:lk x.ht low=none:=by simpa using(Bool.or_eq_false_iff.mp f).1
 have i:lk x.th high=none:=by simpa using(Bool.or_eq_false_iff.mp g).2
 have n:(K7.Fq x low high).ht=x.ht++[(low,high)]:=zJ h;have o:(K7.Fq x low high).th=x.th++[(high,low)]:=zJ i;refine#[A.ok.Fq k l d f g m ac q0a q0a,?_,?_,λe p=>?_]
 ·rw[o,j7];refine List.nodup_append.mpr #[A.nt,q0o,λa j b d z=>?_];have d:b=high:=by simpa using d
  rw[z,d]at j;have:=xy j;rw[i]at this;cases this
 ·show ((a++[(low,high)]).map (·.1)).Perm ((K7.Fq x low high).ht.map (·.1));rw[n,j7,j7];exact A.pm.append_right _
 ·show (lk (pk x.ht low high) e.1).getD 0=e.2;rw[yo];rcases List.mem_append.mp p with z|z
  ·have:e.1≠low:=λw=>by have:=xy<|A.mem z;rw[w,h]at this;cases this
   rw[gM this];exact A.hd e z
  ·have z:e=(low,high):=by simpa using z
   rw[z,gN rfl];rfl
def SG(v:Vr rows){k:Int}(d:rowAt rows k=↑y):y.2.length<=95:=by
 have b:=v.ok k y.1 y.2 d
 have:=wp (U:=Cr rows) b.2.2.1 λc e=>by obtain⟨_,g,f⟩:=b.2.2.2.1 c e;exact xg.mpr (by rw[f];rfl)
 have h:=xh rows;have i:=v.ln
 lia
def VS(i:RF x)(b:x.ht=[])(d:x.th=[]):Arr x []:=by
 have f:vV x=[]:=by unfold vV;rw[b];rfl
 refine#[#[i,by rw[f];exact mG,by rw[b];decide,by rw[d];decide,λl h e=>?_,λl h e=>?_,λc e=>?_,λ_=>0,λl g=>?_],by rw[d];exact mG,by rw[f];exact .refl _,λe j=>by cases j]
 ·rw[b]at e;cases e
 ·rw[d]at e;cases e
 ·rw[b]at e;cases e
 ·rw[f]at g;cases g
def SH{i:Nat}(A:Arr x a)(c:xC x rows)(h:a[i]?=↑y)(k:∀v (b:B0 C),xC b rows->Arr b (a.eraseIdx i)->d v (b,#[],())):HC C g j (x,y.1,()) d l:=by have f:=A.mem<|jK h;have e:=wD f;refine#[A.ok,?_];show if (lk x.rk y.1).isSome=true then (if (lk x.ht y.1).isSome=true then d (v7 x y.1) _ else _) else _;rw[gN (A.ok.ht _ _ e).1,gN<|by rw[e];rfl];exact k _ _ (c.same rfl rfl rfl)<|A.pop h
def YX{n:ci}{low high:Int}(A:Arr x a)(c:xC x rows)(v:Vr rows)(o:rows.length<=35)(b:rowAt rows high=↑y)(h:low∈y.2)
 (i:∀D∈[d,e],f D (x,#[],#[],()))(k:∀g:B0 C,xC g rows->Arr g (a++[(low,high)])->p () (g,#[],#[],())):RQ C B n d e (x,low,high,()) p f:=by
  have r:=v.ok high y.1 y.2 b
  obtain⟨s,E,u⟩:=r.2.2.2.1 low h
  have j:(lk x.rk low).isSome=true:=by rw[c.rk,u];rfl
  have l:(lk x.rk high).isSome=true:=by rw[c.rk,b];rfl
  have m:low∈K7.wE x high:=by rw[c.wE,yU b];exact h
  refine#[A.ok,?_]
  show if (lk x.rk low).isSome=true then (if (lk x.rk high).isSome=true then (if low∈K7.wE x high then (if wK x low=true\/wK x high=true then f d _ else f e _/\_) else _) else _) else _
  rw[gN j,gN l,gN m]
  by_cases t:wK x low=true\/wK x high=true
  · rw[gN t]; exact i d q0o
  · rw[gM t]
    have w:wK x low=false:=by cases q:wK x low with|true=>exact hV (.inl q) t|false=>rfl
    have z:wK x high=false:=by cases q:wK x high with|true=>exact hV (.inr q) t|false=>rfl
    exact#[i e q0o,λac=>k _ (c.same rfl rfl rfl)<|A.add c o j l m w z (Int.ne_of_lt s) ac]
end
section
variable{q:Cq}{C XC XS XO XB XP XV YL XF XT XN XR XL:ci}
noncomputable abbrev LR:il:=top 34
noncomputable abbrev LS:List Str:=["_law_bag_here"]
def VT:uY ["_law_bag_here"] LS (uQ LR):=by walk_at "sc"
abbrev YY(q:Cq)(k:Nat):=wZ q "_law_rank" LS HQ k
def VU(F:Cp q "_law_rank" LR f g)(a:wZ q "_law_pull" ["_law_bag_here","_law_many"] yI 1):Gq q 2 f g LS HQ:=by
 refine' u4 (wq (D':=Unit) (ms:=[0]) (j:=0) F VT rfl rfl λi A c s H E n =>
   (vg (vF (tw_cm Ai (vd (vh a (vw 0 (uU uW uS)))) uW)
   (uT<|vi<|vh a<|vw 0<|uU uW uS)
   vv)
   (uT (vi (vq (xl (vQ (vy (vp (uX uW (uX uW (uX uW (uX uW (uX uW (uX uW (uX uW (uX uW vo))))))))))) (vd (vh a (vw 0 (uU uW uS)))))))))) λp k o h=>?_
 walk_at "wl"
 have h:∀r,0<=r->r<=12->k r (#[],()):=h;refine wL q0q q0q λr t u=>?_
 try dsimp only
 by_cases q:r=11
 ·rw[gN<|decide_eq_true q];refine wL q0q q0q λs d b=>h s d ?_;have b:s<13:=b
  lia
 ·rw[gM<|by simpa using q];refine wL q0q q0q λs d b=>?_;have b:s<8:=b;obtain⟨x,m,_,e⟩:=yh (l:=[(0:Int),0,1,1,1,2,2,3]) d (by simpa using b);refine#[x,m,h x ?_ ?_]
  ·simp at e;lia
  ·simp at e;lia
noncomputable abbrev LU:il:=top 35
noncomputable abbrev LV:List Str:=["_law_one","_law_other"]
def Nz:uY ["_law_one","_law_other","_law_left"] LV (uQ LU):=by walk_at "sc"
def SJ:(["_law_x","_law_other"]:List Str).Nodup:=by decide +kernel
def SK:(["_law_x","_law_one"]:List Str).Nodup:=by decide +kernel
abbrev HZ(q:Cq)(k:Nat):=wZ q "_law_join" LV HR k
def VW(F:Cp q "_law_join" LU f i)(B:Bn q.mg):Gq q 2 f i LV HR:=by
 refine' u4 (wq (D':=Unit) (ms:=[]) (j:=1) F Nz rfl rfl λl A e s H E n =>
   (vg (AO (Ts:=["_law_x"]) (Fr:=["_law_other"]) (idx:=[1]) (k:=1) (mb:=[1]) (is:=[]) (cl:=[("_law_other",⇑s+1+1)]) 2 Nz.nd rfl rfl rfl q0q rfl (wd (ss 0)) Ri rfl (wC rfl) (λa b C c d=>(vr 0 (vf SJ))) (λa b C c d=>(tws_one (tw_cmI Em (ss 0) (vQ (ss 1)) (by with_unfolding_all rfl)))) (λa b C c d=>(ss 0)))
   (uT (vi (CH rfl B.sorted (vQ (vy (Bq (wj 2) (vQ (vy (wP (Ts:=["_law_x"]) (Fr:=["_law_one"]) (idx:=[0]) (k:=1) (mb:=[1]) (is:=[]) (cl:=[("_law_one",⇑s+1)]) rfl (wd (ss 1)) Ri rfl (wC rfl) (λa b C c d=>(vr 0 (vf SK))) (λa b C c d=>(tws_one (tw_cmI Em (ss 0) (vQ (ss 1)) (by with_unfolding_all rfl)))) (λa b C c d=>(ss 0))))))))))))) λp o r h=>?_
 walk_at "wl"
 obtain⟨⟨t,u,v⟩,m⟩:=h;refine#[vO q0d,vU (q:=λk=>!decide (k∈p.2.1)) (λk _ K g=>g) ?_];refine#[vO (show p.2.1.length<=1000 by omega),vU (q:=λk=>!decide (k∈p.1)) (λk _ K g=>g) ?_];have w:=iq (λk=>!decide (k∈p.2.1)) p.1;have x:=iq (λk=>!decide (k∈p.1)) p.2.1;refine#[vO ?_,?_,m]
 ·show (p.1.filter λk=>!decide (k∈p.2.1)).length+(p.2.1.filter λk=>!decide (k∈p.1)).length<=1000;omega
 ·rw[hO];show (p.1.filter λk=>!decide (k∈p.2.1)).length+(p.2.1.filter λk=>!decide (k∈p.1)).length<64;omega
noncomputable abbrev LW:il:=top 36
noncomputable abbrev LX:List Str:=["_law_rows_here"]
def VX:uY ["_law_rows_here"] LX (uQ LW):=by walk_at "sc"
def SM:(["_law_k","_law_rows_here"]:List Str).Nodup:=by decide +kernel
abbrev Fb(q:Cq)(k:Nat):=wZ q "_law_here" LX LL k
def VY(F:Cp q "_law_here" LW f n)(B:Bn q.mg):Gq q 2 f n LX LL:=by
 refine' u4 (wq (D':=Unit) (ms:=[]) (j:=0) F VX rfl rfl λo A c s H E w =>
   (uT (vi (wP (Ts:=["_law_k"]) (Fr:=["_law_rows_here"]) (idx:=[0]) (k:=1) (mb:=[1]) (is:=[]) (cl:=[("_law_rows_here",⇑s+1)]) rfl (xm rfl B.range (w6 rfl B.len (vQ (ss 0)))) Ri rfl (wC rfl) (λa b C g i=>(vr 0 (vf SM))) (λa b C g i=>(tws_one (tw_cm MT (xl (vQ (ss 1)) (ss 0)) KS))) (λa b C g i=>(ss 0)))))) λp z D h=>?_
 walk_at "wl"
 obtain⟨G,r⟩:=h;refine#[#[q0a,q0a],?_,vU (q:=λk=>(rowAt p.1 k).isSome) (λk d K e=>?_) r]
 ·rw[wO];exact vO q0a
 ·obtain⟨m,t⟩:=HV d;obtain⟨x,u,v,_⟩:=yh (l:=p.1) m t;rw[E7 m v]at e;refine#[x,u,?_]
  cases x with
  |none=>exact e
  |some y=>exact e
noncomputable abbrev LY:il:=top 37
noncomputable abbrev LZ:List Str:=["_law_bag_here","_law_row_here"]
def AU:uY ["_law_bag_here","_law_row_here","_law_found","_law_count","_law_k"] LZ (uQ LY):=by walk_at "sc"
abbrev SN(q:Cq)(k:Nat):=wZ q "_law_some" LZ LM k
def VZ(F:Cp q "_law_some" LY f O)(a:wZ q "_law_pull" ["_law_bag_here","_law_many"] yI 2)(d:HZ q 2)(B:Bn q.mg):Gq q 3 f O LZ LM:=by
 refine' u4 (wq (D':=Unit) (ms:=[0]) (j:=3) F AU rfl rfl λP A v s H E Q =>
   (vg (vj 2 AU.nd (vp (α:=Int) vo))
   (vg (vF (tw_cmL (KU Q.units) (vQ (ss 1)) (vQ (vy (vp (α:=Int) vo))))
   (uT<|yP 2<|pv 2)
   vv)
   (vg (vj 3 AU.nd (vh a (vw 0 (uU uW uS))))
   (vg (vF (tw_cm Ai (ss 3) uW)
   (uT<|vj 3 AU.nd<|vq<|Qw Bh (vd<|vh a<|vw 0<|uU uW uS)<|w6 rfl B.len<|vQ<|ss 1)
   vv)
   (vg (wI (is:=[]) (mb:=[0]) (D1:=Bg×(List Int)×(OL Int)×Int×Int×Unit) (D2:=Bg×(List Int)×(OL Int)×Int×Int×Unit) (vz q0q) yK rfl (xm rfl B.range (ss 3)) (vr 4 (vf AU.nd))
   (uT (vj 2 AU.nd (vh d (vn 2 (uU (vy (vp (uX (xl (vQ (ss 1)) (vd (vh a (vw 0 (uU (w6 rfl B.len (vQ (ss 1))) uS))))) vo))) uS))))) q0q q0q)
   (uT (yP 2 (pv 2))))))))) λp J o h=>?_
 walk_at "wl"
 obtain⟨Y,L⟩:=h;by_cases w:p.2.1=[]
 ·rw[gN<|decide_eq_true w];exact L [] iw λ_ z=>by cases z
 rw[gM<|by simpa using w]
 have D:0<(p.2.1.length:Int):=by
  have:=List.length_pos_iff.mpr w
  lia
 have g:∀(n c:Int),G6 (λ(x:Int)(b:Bg×List Int×OL Int×Int×WL.Un×Unit) G (Z:OL Int->Bg×WL.Un×Unit->Prop) o=>yI (b.1,(b.2.1.length:Int),()) (λx t=>∃k,Fw b.2.1 x=↑k/\HR (b.2.2.1.l,[k],()) (λx m=>G (t.1,b.2.1,x,b.2.2.2.1,#[],b.2.2.2.2.2)) λC m=>o C (t.1,#[],())) λC t=>o C (t.1,#[],()))
   (yL 0 n) (#[],p.2.1,#[[]],c,#[],p.2.2) (λM=>J M.2.2.1 (M.1,#[],())) J o:=by
  intro n c;refine vM (λ(r:List Int)(b:Bg×List Int×OL Int×Int×WL.Un×Unit)=>b.2.1=p.2.1/\wQ b.2.2.1.l/\∀x∈b.2.2.1.l,x∈p.2.1) (yL 0 n) #[rfl,iw,(λ_ z=>by cases z)] ?_ ?_
  ·rintro x r b _ ⟨e,i,g2⟩ K R;rw[e];refine wL D q0a λr N u=>?_;obtain⟨y,S,_,T⟩:=yh (l:=p.2.1) N u;have U:=wp i g2;refine#[y,S,VQ (show b.2.2.1.l.length+1<64 by lia),R _ #[rfl,Hd i<|jL _ _,λz W=>?_]];rcases Hc.mp W with⟨I,_⟩|⟨I,_⟩
   ·exact g2 z I
   ·rw[List.mem_singleton.mp I];exact T
  ·rintro b ⟨_,i,g2⟩;exact L _ i g2
 refine wL q0q q0q λr N u=>?_
 try dsimp only
 have u:r<7:=u;by_cases q:r=6
 ·rw[gN<|decide_eq_true q];refine wL q0q q0q λs X i=>?_;have i:s<3:=i
  have b1:s*(p.2.1.length:Int)<=2*60:=by
   have:s*(p.2.1.length:Int)<=2*(p.2.1.length:Int):=Int.mul_le_mul_of_nonneg_right q0a q0a
   lia
  have b0:0<=s*(p.2.1.length:Int):=Int.mul_nonneg X q0a;exact#[.inl #[q0a,q0a],#[q0a,q0a],g _ _]
 ·rw[gM<|by simpa using q];exact#[#[q0a,q0a],g _ _]
noncomputable abbrev L0:il:=top 38
noncomputable abbrev L4:List Str:=["_law_rows_here","_law_row_here"]
def DQ:uY ["_law_rows_here","_law_row_here","_law_found","_law_cell"] L4 (uQ L0):=by walk_at "sc"
abbrev SO(q:Cq)(k:Nat):=wZ q "_law_edge" L4 LN k
def V0(F:Cp q "_law_edge" L0 f o)(a:HZ q 2):Gq q 3 f o L4 LN:=by
 refine' u4 (wq (D':=Unit) (ms:=[]) (j:=2) F DQ rfl rfl λt A i s H E N =>
   (vg (vj 2 DQ.nd (vp (α:=Int) vo))
   (vg (wI (is:=[]) (mb:=[]) (D1:=(List RW)×(List Int)×(OL Int)×Int×Unit) (D2:=(List RW)×(List Int)×(OL Int)×Int×Unit) (vz q0q) yK rfl (wd (ss 1)) (vr 3 (vf DQ.nd))
   (uT (vj 2 DQ.nd (vh a (vn 2 (uU (Bp (ze (xl (vQ (ss 0)) (ss 3)))) uS))))) q0q q0q)
   (uT (yP 2 (pv 2)))))) λp u O h=>?_
 walk_at "wl"
 obtain⟨v,w,B⟩:=h;refine vM (λ(r:List Int)(b:List RW×List Int×OL Int×WL.Un×Unit)=>b.1=p.1/\(∀c∈r,(rowAt p.1 c).isSome=true)/\wQ b.2.2.1.l/\(∀x∈b.2.2.1.l,x∈yL 0 35)/\(r.map<|eb p.1).foldl xr b.2.2.1.l=vG (eb p.1) p.2.1) p.2.1 ⟨rfl,w,iw,(λ_ z=>by cases z),rfl⟩ ?_ ?_
 ·rintro c r b _ ⟨e,n,g1,g2,d⟩ K D;obtain⟨y,k⟩:=Option.isSome_iff_exists.mp<|n c gR;obtain⟨_,_,_,G⟩:=vm k;obtain⟨g,m⟩:=v.Sq k;rw[e];have I:=wp g1 g2;have J:=wp g m;rw[wO]at I J;refine⟨_,G,y,rfl,LP g1 g g2 m,D _ ⟨rfl,λc L=>n c<|gU _ L,Hd g1 g,λx M=>?_,?_⟩⟩
  ·rcases Hc.mp M with⟨z,_⟩|⟨z,_⟩
   ·exact g2 x z
   ·exact m x z
  ·rw[<- d];show (r.map<|eb p.1).foldl xr (jn b.2.2.1.l y.2)=(r.map<|eb p.1).foldl xr (xr b.2.2.1.l<|eb p.1 c);rw[QV g1 g,yU k]
 ·rintro b ⟨_,_,_,_,d⟩;have d:b.2.2.1.l=vG (eb p.1) p.2.1:=d;show u b.2.2.1 _;rw[show b.2.2.1=OL.mk b.2.2.1.l from rfl,d];exact B
noncomputable abbrev H0:il:=top 47
noncomputable abbrev Ia:List Str:=["_law_found"]
def SQ:uY ["_law_found"] Ia (uQ H0):=by walk_at "sc"
abbrev Ib(q:Cq)(k:Nat):=wZ q "_law_whole" Ia HS k
def SR(F:Cp q "_law_whole" H0 f b)(B:Bn q.mg):Gq q 2 f b Ia HS:=by
 refine' u4 (wq (D':=Unit) (ms:=[]) (j:=0) F SQ rfl rfl λc A a s H E d =>
   (uT (vi (vq (Eo (yA (ty:="int") rfl B.isinstance (AD (v:=.ty "int") rfl B.int PyProof.Rows.boot_int rfl) (ss 0)) (AN (Yk (yA (ty:="bool") rfl B.isinstance (AD (v:=.ty "bool") rfl B.bool qM rfl) (ss 0))))))))) λp e g h=>?_
 walk_at "wl"
 exact h
noncomputable abbrev s_row:il:=top 48
abbrev SS:List Str:=["_law_found"]
def SU:uY ["_law_found","_law_one"] SS (uQ s_row):=by walk_at "sc"
abbrev a0Z(q:Cq)(k:Nat):=wZ q "_law_row" SS Sl k
def YZ(F:Cp q "_law_row" s_row f d)(a:Ib q 2)(B:Bn q.mg):Gq q 3 f d SS Sl:=by
 refine' u4 (wq (D':=Unit) (ms:=[]) (j:=1) F SU rfl rfl λe A c s H E i =>
   (vg (vF (tw_not (tw_val (yA (ty:="list") rfl B.isinstance (AD (v:=.ty "list") rfl B.list j0 rfl) (ss 0))))
   (uT<|vi<|vq yG)
   vv)
   (vg (wI (is:=[]) (mb:=[]) (D1:=(List Int)×Int×Unit) (D2:=(List Int)×Int×Unit) (vz q0q) yK rfl (wd (ss 0)) (vr 1 (vf SU.nd))
   (uT (vF (tw_not (tw_val (vd (vh a (uU (ss 1) uS)))))
   (uT<|vi<|vq yG)
   vv)) q0q q0q)
   (uT (vi (vq yG)))))) λp k l h=>?_
 walk_at "wl"
 rw[gM q0q];exact vM (λ(r:List Int)(b:List Int×WL.Un×Unit)=>True) p.1 trivial (λx r b _ _ K g=>g _ trivial) λ_ _=>h
noncomputable abbrev s_same:il:=top 49
noncomputable abbrev L5:List Str:=["_law_found","_law_due"]
def V1:uY ["_law_found","_law_due"] L5 (uQ s_same):=by walk_at "sc"
abbrev SV(q:Cq)(k:Nat):=wZ q "_law_same" L5 LO k
def V2(F:Cp q "_law_same" s_same f c)(a:a0Z q 3):Gq q 4 f c L5 LO:=by
 refine' u4 (wq (D':=Unit) (ms:=[]) (j:=0) F V1 rfl rfl λd A b s H E e =>
   (uT (vi (vq (Eo (vd (vh a (uU (ss 0) uS))) (AN (Yi (KU e.units) (vQ (ss 0)) (vQ (ss 1)) (v9 _)))))))) λp g i h=>?_
 walk_at "wl"
 exact h
noncomputable abbrev Ic:il:=top 33
noncomputable abbrev Ie:List Str:=["_law_many"]
def AC:uY ["_law_many","_law_pairs_here","_law_threes","_law_rows_here"] Ie (uQ Ic):=by walk_at "sc"
def OX:(["_law_k"]:List Str).Nodup:=by decide +kernel
def OY:(["_law_pair"]:List Str).Nodup:=by decide +kernel
def OZ:(["_law_three"]:List Str).Nodup:=by decide +kernel
abbrev V3(q:Cq)(k:Nat):=wZ q "_law_stock" Ie Nq k
def SY(F:Cp q "_law_stock" Ic f i)(B:Bn q.mg):Gq q 2 f i Ie Nq:=by
 refine' u4 (wq (D':=Unit) (ms:=[]) (j:=3) F AC rfl rfl λl A g s H E o =>
   (vg (vj 1 AC.nd (vp (uX (vy (vp (uX uW (uX uW vo)))) (uX (vy (vp (uX uW (uX uW vo)))) (uX (vy (vp (uX uW (uX uW vo)))) (uX (vy (vp (uX uW (uX uW vo)))) (uX (vy (vp (uX uW (uX uW vo)))) (uX (vy (vp (uX uW (uX uW vo)))) vo))))))))
   (vg (vj 2 AC.nd (vp (uX (vy (vp (uX uW (uX uW (uX uW vo))))) (uX (vy (vp (uX uW (uX uW (uX uW vo))))) (uX (vy (vp (uX uW (uX uW (uX uW vo))))) (uX (vy (vp (uX uW (uX uW (uX uW vo))))) vo))))))
   (vg (vj 3 AC.nd (Bq (vQ (vy (wP (Ts:=["_law_k"]) (Fr:=[]) (idx:=[]) (k:=1) (mb:=[]) (is:=[]) (cl:=[]) rfl (xm rfl B.range uW) Zi rfl (wC rfl) (λa b C c d=>(vr 0 (vf OX))) (λa b C c d=>tws_nil) (λa b C c d=>(zw (wN uW (vy (vp (α:=Int) vo)))))))) (vQ (vy (wP (Ts:=["_law_pair"]) (Fr:=[]) (idx:=[]) (k:=1) (mb:=[]) (is:=[1]) (cl:=[]) rfl (K4 1 (pv 1) q0q) Zi rfl (wC rfl) (λa b C c d=>(vr 0 (vf OY))) (λa b C c d=>tws_nil) (λa b C c d=>(zw (wN uW (ss 0)))))))))
   (vg (vj 3 AC.nd (Bq (vQ (vy (Bq (wj 3) (vQ (vy (wP (Ts:=["_law_three"]) (Fr:=[]) (idx:=[]) (k:=1) (mb:=[]) (is:=[2]) (cl:=[]) rfl (K4 2 (pv 2) q0q) Zi rfl (wC rfl) (λa b C c d=>(vr 0 (vf OZ))) (λa b C c d=>tws_nil) (λa b C c d=>(zw (wN uW (ss 0)))))))))) (vQ (vy (vp (uX (zw (wN uW (vy (vp (uX uW (uX uW (uX uW (uX uW vo)))))))) vo))))))
   (uT (vi (Jn (wj 3) GZ (G0 (ss 0)))))))))) λp r t h=>?_
 walk_at "wl"
 obtain⟨m,n⟩:=h;refine#[q0q,(by rw[wO];exact vO q0q),vZ (f:=λ_=>some<|some (0,[])) (λx _ K e=>e) ?_];refine#[vO q0q,vZ (f:=λx=>some<|some (1,x)) (λx _ K e=>e) ?_];refine#[vO q0q,vO q0q,vZ (f:=λx=>some<|some (2,x)) (λx _ K e=>e) ?_];refine#[vO q0q,vO q0q,?_];rw[YV _ m];exact n
noncomputable abbrev CY:il:=top 39
noncomputable abbrev CZ:List Str:=["_law_rows_here","_law_loops","_law_rank_here","_law_bag_here"]
def wW:uY ["_law_rows_here","_law_loops","_law_rank_here","_law_bag_here","_law_number","_law_edge_here","_law_beneath","_law_k","_law_kin","_law_chosen"] CZ (uQ CY):=by walk_at "sc"
def Dm:(["_law_at","_law_one","_law_rank_here"]:List Str).Nodup:=by decide +kernel
def JW:(["_law_k","_law_rank_here","_law_rows_here"]:List Str).Nodup:=by decide +kernel
abbrev O0(q:Cq)(k:Nat):=wZ q "_law_edge_by" CZ AS k
def L6(F:Cp q "_law_edge_by" CY f fd)(a:wZ q "_law_pull" ["_law_bag_here","_law_many"] yI 3)(G:HZ q 3)(I:Fb q 3)(J:SN q 3)(L:SO q 3)(B:Bn q.mg):Gq q 4 f fd CZ AS:=by
 refine' u4 (wq (D':=Unit) (ms:=[0,1,3]) (j:=6) F wW rfl rfl λae A aa s H E hr =>
   (vg (vj 4 wW.nd (vq (w6 rfl B.len (wj 0))))
   (vg (vj 5 wW.nd (vp (α:=Int) vo))
   (vg (vF (tw_cm Ai (ss 2) uW)
   (vg (wu 1 (wN uW (vy (vp (uX (ss 4) vo)))))
   (uT (yP 5 (pv 5))))
   vv)
   (vg (vF (tw_cm QB (vd (vh a (vw 3 (uU uW uS)))) uW)
   (vg (AO (Ts:=["_law_at","_law_one"]) (Fr:=["_law_rank_here"]) (idx:=[2]) (k:=2) (mb:=[2]) (is:=[1]) (cl:=[("_law_rank_here",⇑s+1+1)]) 6 wW.nd rfl rfl rfl q0q rfl (K4 1 (pv 1) q0q) Ri rfl (wC rfl) (λd g C T U=>(BP 0 1 (Cu rfl (wB (vf (i:=0) Dm) (wB (vf (i:=1) Dm) AE))) q0q q0q)) (λd g C T U=>(tws_one (tw_cm Ai (ss 0) (AI Ki (ss 2) uW)))) (λd g C T U=>(ss 1)))
   (vg (wI (is:=[]) (mb:=[0,1,3]) (D1:=(OL RW)×(OL (Int×(List Int)))×Int×Bg×Int×(OL Int)×(OL (List Int))×Int×Un×Un×Unit) (D2:=(OL RW)×(OL (Int×(List Int)))×Int×Bg×Int×(OL Int)×(OL (List Int))×Int×Un×Un×Unit) (vz q0q) yK rfl (xm rfl B.range (xl (vQ (vy (vp (uX uW (uX uW (uX uW (uX uW (uX uW (uX uW (uX uW (uX uW vo))))))))))) (vd (vh a (vw 3 (uU uW uS)))))) (vr 7 (vf wW.nd))
   (uT (vF (tw_cmL (CI hr.units) (wj 6) (vQ (vy (vp (α:=(List Int)) vo))))
   (uT<|vj 5 wW.nd<|vh G<|vn 5<|uU (xl (wj 6)<|vd<|vh a<|vw 3<|uU (w6 rfl B.len<|wj 6) uS) uS)
   vv)) q0q q0q)
   (vg (vF (tw_cmL (KU hr.units) (wj 5) (vQ (vy (vp (α:=Int) vo))))
   (uT<|wu 1<|wN (ss 2)<|vy<|vp<|uX (ss 4) vo)
   vv)
   (uT (yP 5 (pv 5))))))
   vv)
   (vg (AO (Ts:=["_law_k"]) (Fr:=["_law_rank_here","_law_rows_here"]) (idx:=[2,0]) (k:=1) (mb:=[1,2]) (is:=[]) (cl:=[("_law_rows_here",⇑s+1),("_law_rank_here",⇑s+1+1)]) 8 wW.nd rfl rfl rfl q0q rfl (wd (vy (vh I (vn 0 uS)))) bs2 rfl (wC rfl) (λd g C T U=>(vr 0 (vf JW))) (λd g C T U=>(tws_one (tw_cm Ai (Ei (ze (xl (wj 2) (ss 0)))) (ss 1)))) (λd g C T U=>(ss 0)))
   (vg (vj 9 wW.nd (vh J (vw 3 (vn 8 uS))))
   (vg (wu 1 (wN (ss 2) (vy (Bq (wj 9) (vQ (vy (vp (uX (ss 4) vo))))))))
   (uT (vi (vh L (vn 0 (vn 9 uS))))))))))))) λp Kn Ke h=>?_
 walk_at "wl"
 obtain⟨v,hn,hq,W,r0,r1,Y⟩:=h;by_cases h0:p.2.2.1=0
 ·rw[gN<|decide_eq_true h0];refine⟨Ca q0a,?_⟩;refine Y [] [(0,[(p.1.l.length:Int)])] (HX v q0a λr e z=>?_) (λu M=>?_) q0o
  ·cases z;exact#[r0,r1,iw,(λ_ z=>by cases z),rfl]
  ·rcases List.mem_append.mp M with z|z
   ·exact E8<|W u z
   ·rw[List.mem_singleton.mp z];have:=Sr (rows:=p.1.l) (r:=p.2.2.1);rw[h0]at this ⊢;exact this
 ·rw[gM<|by simpa using h0];refine wL q0q q0q λx g0 g1=>?_
  try dsimp only
  by_cases hx:x<3
  ·rw[gN<|decide_eq_true hx];refine⟨vO q0a,vZ (f:=λu:Int×List Int=>if decide (u.1=p.2.2.1-1)=true then some u.2 else none) (λu _ K o=>?_) ?_⟩
   ·show if decide (u.1=p.2.2.1-1)=true then K ↑u.2 _ else K none _;by_cases z:decide (u.1=p.2.2.1-1)=true
    ·rw[gN z]at o ⊢;exact o
    ·rw[gM z]at o ⊢;exact o
   ·have ly:(p.2.1.l.filterMap λu:Int×List Int=>if decide (u.1=p.2.2.1-1)=true then some u.2 else none).length<=100:=iA (List.length_filterMap_le _ _) hq
    have X:∀z∈(p.2.1.l.filterMap λu:Int×List Int=>if decide (u.1=p.2.2.1-1)=true then some u.2 else none),Lp p.1.l (p.2.2.1-1,z):=λz hz=>by
     obtain⟨u,M,e⟩:=List.mem_filterMap.mp hz;by_cases q:decide (u.1=p.2.2.1-1)=true
     ·rw[gN q]at e;cases e;rw[<- jV q];exact W u M
     ·rw[gM q]at e;cases e
    generalize (p.2.1.l.filterMap λu:Int×List Int=>if decide (u.1=p.2.2.1-1)=true then some u.2 else none)=ys at ly X;refine wL q0q q0q λs g2 g3=>?_;obtain⟨m,m1,_,m3⟩:=yh (l:=[(2:Int),2,2,2,0,1,3,4]) g2 (by simpa using g3);refine#[m,m1,#[by simp at m3;lia,by simp at m3;lia],?_];refine vM (λ(r:List Int) (b:OL RW×OL (Int×List Int)×Int×Bg×Int×OL Int×OL (List Int)×WL.Un×WL.Un×WL.Un×Unit)=>b.1=p.1/\b.2.1=p.2.1/\b.2.2.1=p.2.2.1/\b.2.2.2.2.1=(p.1.l.length:Int)/\b.2.2.2.2.2.2.1.l=ys/\Lp p.1.l (p.2.2.1-1,b.2.2.2.2.2.1.l)) (yL 0 m) #[rfl,rfl,rfl,rfl,rfl,iw,(λ_ z=>by cases z),rfl] ?_ ?_
    ·intro y r;refine a0j λb1 b2 b3 b4 b5 N b7 b8=>?_;rintro _ ⟨P,Q,R,S,Z,n⟩ K o;dsimp only at P Q R S Z n ⊢;subst Z;by_cases q:b7.l=[]
     ·rw[gM<|by simp[q]];exact o _ #[P,Q,R,S,rfl,n]
     ·rw[gN<|by simp[q]];have:=List.length_pos_iff.mpr q;refine wL q0a q0a λt t0 t1=>?_;obtain⟨z,z1,_,z3⟩:=yh (l:=b7.l) t0 t1;have D:=X z z3;have s1:=wp n.1<|n.sub q0a;have s2:=wp D.1<|D.sub q0a;rw[wO]at s1 s2;have s1:N.l.length<=35:=s1;have s2:z.length<=35:=s2;refine⟨z,z1,LP n.1 D.1 (n.sub q0a)<|D.sub q0a,o _ ⟨P,Q,R,S,rfl,?_⟩⟩;show Lp p.1.l (p.2.2.1-1,jn N.l z);have nn:∀c,(∃e,rowAt p.1.l c=some (p.2.2.1-1,e))->(eb p.1.l c).Nodup:=λc ⟨e,he⟩=>by rw[yU he];exact ve (v.Sq he).1
      refine#[Hd n.1 D.1,λc O=>?_,?_]
      ·rcases Hc.mp O with⟨w,_⟩|⟨w,_⟩
       ·exact n.2.1 c w
       ·exact D.2.1 c w
      ·show vG (eb p.1.l) (jn N.l z)=[];rw[QV n.1 D.1,Hh n.1 D.1 (λc O=>nn c<|n.2.1 c O)<|λc O=>nn c<|D.2.1 c O,show vG (eb p.1.l) N.l=[] from n.2.2,show vG (eb p.1.l) z=[] from D.2.2];rfl
    ·refine a0j λb1 b2 b3 b4 b5 N b7 b8=>?_;rintro⟨P,Q,R,S,Z,n⟩;dsimp only at P Q R S Z n ⊢;subst P Q R S
     have va:Vr (p.1.l++[↑(p.2.2.1,N.l)]):=HX v q0a λr e z=>by
      cases z;exact#[r0,r1,n.1,n.2.1,n.2.2]
     by_cases q:N.l=[]
     ·rw[gN<|decide_eq_true q];refine⟨Ca q0a,Y N.l [(p.2.2.1,[(p.1.l.length:Int)])] va (λu M=>?_) q0o⟩;rcases List.mem_append.mp M with z|z
      ·exact E8<|W u z
      ·rw[List.mem_singleton.mp z,q];exact Sr
     ·rw[gM<|by simpa using q];have:=Y N.l [] va (λu M=>E8<|W u<|by simpa using M) q0o;rw[kH]at this;exact this
  ·rw[gM<|by simpa using hx];refine⟨(show p.1.l.length<1000 by lia),vO (by have:=xh p.1.l;show (Cr p.1.l).length<=1000;lia),vU (q:=λk=>decide ((rowAt p.1.l k).map (·.1)=↑p.2.2.1)) (λk ab K o=>?_) ?_⟩
   ·obtain⟨y,X⟩:=Option.isSome_iff_exists.mp<|xg.mp ab;refine#[_,(vm X).2.2.2,y,rfl,?_];rw[X]at o;show if decide (y.1=p.2.2.1)=true then _ else _;by_cases z:y.1=p.2.2.1
    ·rw[gN<|by simp[z]]at o ⊢;exact o
    ·rw[gM<|by simpa using z]at o ⊢;exact o
   ·have hs:=iq (λk=>decide ((rowAt p.1.l k).map (·.1)=↑p.2.2.1))<|Cr p.1.l;have af:=xh p.1.l;refine⟨(show ((Cr p.1.l).filter _).length<60 by lia),λl l1 l2=>?_⟩
    have hl:∀c∈l,∃e,rowAt p.1.l c=↑(p.2.2.1,e):=λc O=>by
     have:=(List.mem_filter.mp<|l2 c O).2
     cases e:rowAt p.1.l c with
     |none=>rw[e]at this;simp at this
     |some y =>
      rw[e]at this;have this:y.1=p.2.2.1:=by simpa using this
      exact#[y.2,by rw[<- this]]
    obtain⟨c1,c2,c3⟩:=OT v l1 hl;have ll:l.length<=((Cr p.1.l).filter λk=>decide ((rowAt p.1.l k).map (·.1)=↑p.2.2.1)).length:=wp l1 l2;refine#[vO (show l.length+1<=1000 by lia),Ca q0a,v,λc O=>?_,?_]
    ·obtain⟨e,he⟩:=hl c O;show (rowAt p.1.l c).isSome=true;rw[he];rfl
    ·refine Y _ [(p.2.2.1,l++[(p.1.l.length:Int)])] (HX v q0a λr e z=>?_) (λu M=>?_) q0o
     ·cases z;exact#[r0,r1,wy _ _,c1,c2]
     ·rcases List.mem_append.mp M with z|z
      ·exact E8<|W u z
      ·rw[List.mem_singleton.mp z];exact c3
noncomputable abbrev L7:il:=top 40
noncomputable abbrev L8:List Str:=["_law_bag_here","_law_most"]
def zK:uY ["_law_bag_here","_law_most","_law_rows_here","_law_k","_law_loops","_law_rank_here"] L8 (uQ L7):=by walk_at "sc"
def S6:(["_law_k"]:List Str).Nodup:=by decide +kernel
abbrev Y0(q:Cq)(k:Nat):=wZ q "_law_rows" L8 Sn k
def V4(F:Cp q "_law_rows" L7 f fd)(i:wZ q "_law_pull" ["_law_bag_here","_law_many"] yI 4)(G:V3 q 4)(L:YY q 4)(w:O0 q 4)(B:Bn q.mg):Gq q 5 f fd L8 Sn:=by
 refine' u4 (wq (D':=Unit) (ms:=[0]) (j:=4) F zK rfl rfl λaa A X s H E hr =>
   (vg (vj 2 zK.nd (vp (α:=RW) vo))
   (vg (vF (tw_cm Ai (vd (vh i (vw 0 (uU uW uS)))) uW)
   (uT<|vj 2 zK.nd<|vh G<|uU (vd<|vh i<|vw 0<|uU uW uS) uS)
   vv)
   (vg (AO (Ts:=["_law_k"]) (Fr:=[]) (idx:=[]) (k:=1) (mb:=[]) (is:=[]) (cl:=[]) 4 zK.nd rfl rfl rfl q0q rfl (xm rfl B.range (w6 rfl B.len (wj 2))) Zi rfl (wC rfl) (λM N C ex pn=>(vr 0 (vf S6))) (λM N C ex pn=>(tws_one (tw_cm QB (ss 0) uW))) (λM N C ex pn=>(wN uW (vy (vp (uX (ss 0) vo))))))
   (vg (vF (tw_cm WR (w6 rfl B.len (wj 2)) uW)
   (uT<|vj 4 zK.nd<|Bq (wj 4)<|vQ<|vy<|vp<|uX (wN uW<|vy<|vp<|uX uW<|uX uW<|uX uW vo)<|uX (wN uW<|vy<|vp<|uX uW<|uX uW<|uX uW vo)<|uX (wN uW<|vy<|vp<|uX uW<|uX uW<|uX uW vo) vo)
   vv)
   (vg (wI (is:=[]) (mb:=[0]) (D1:=Bg×Int×(OL RW)×Int×(OL (Int×(List Int)))×Un×Unit) (D2:=Bg×Int×(OL RW)×Int×(OL (Int×(List Int)))×Un×Unit) (vz q0q) yK rfl (xm rfl B.range (vd (vh i (vw 0 (uU (AI zX (ss 1) uW) uS))))) (vr 3 (vf zK.nd))
   (uT (vF (tw_cm Ai (vd (vh i (vw 0 (uU uW uS)))) uW)
   (uT<|wu 2 UG)
   (MQ (D':=Bg×Int×(OL RW)×Int×(OL (Int×(List Int)))×Un×Unit) (vg (vj 5 zK.nd (vh L (vw 0 uS)))
   (uT (wu 2 (zw (wN (ss 5) (vy (vh w (vw 2 (vw 4 (uU (ss 5) (vw 0 uS)))))))))))))) q0q q0q)
   (uT (yP 2 (pv 2))))))))) λp W I h=>?_
 walk_at "wl"
 obtain⟨hm,hk⟩:=h
 have S:∀(a:List RW) (o:List (Int×List Int)) (n:Int),n<=20->Vr a->a.length<=15->(∀u∈o,Lp a u)->o.length<=20 ->
   G6 (λ(x:Int) (b:Bg×Int×OL RW×WL.Un×OL (Int×List Int)×WL.Un×Unit) J (Kr:OL RW->Bg×WL.Un×Unit->Prop) I =>
    yI (b.1,9,()) (λx d=>if decide (x=8)=true then b.2.2.1.l.length<gS/\J (d.1,b.2.1,#[b.2.2.1.l++[none]],#[],b.2.2.2.2.1,b.2.2.2.2.2.1,b.2.2.2.2.2.2) else
     HQ (d.1,()) (λx d=>AS (b.2.2.1,b.2.2.2.2.1,x,d.1,()) (λO d=>d.1.l.length<gS/\J (d.2.2.2.1,b.2.1,#[d.1.l++[↑(x,O.l)]],#[],d.2.1,#[],b.2.2.2.2.2.2)) λC d=>I C (d.2.2.2.1,#[],())) λC d=>I C (d.1,#[],())) λC d=>I C (d.1,#[],()))
   (yL 0 n) (#[],p.2.1,#[a],#[],#[o],#[],p.2.2) (λT=>W T.2.2.1 (T.1,#[],())) W I:=by
  intro a o n hn v hl Y ab;refine vM (λ(r:List Int) (b:Bg×Int×OL RW×WL.Un×OL (Int×List Int)×WL.Un×Unit)=>Vr b.2.2.1.l/\(∀u∈b.2.2.2.2.1.l,Lp b.2.2.1.l u)/\b.2.2.1.l.length+r.length<=35/\b.2.2.2.2.1.l.length+r.length<=100) (yL 0 n) #[v,Y,(by rw[wO];show a.length+_<=35;lia),(by rw[wO];show o.length+_<=100;lia)] ?_ ?_
  ·rintro y r b _ ⟨R,g2,g3,g4⟩ K D;rw[ij]at g3 g4;refine wL q0q q0q λs s0 s1=>?_;dsimp only;by_cases q:s=8
   ·rw[gN<|decide_eq_true q];refine⟨Ca q0a,D _ ⟨HX R q0a (λr e z=>by cases z),λu P=>E8<|g2 u P,?_,?_⟩⟩
    ·show (b.2.2.1.l++[none]).length+r.length<=35;rw[hO,ii]
     lia
    ·show b.2.2.2.2.1.l.length+r.length<=100
     lia
   ·rw[gM<|by simpa using q];intro t t0 t1;refine⟨R,(show b.2.2.1.l.length<=34 by lia),(show b.2.2.2.2.1.l.length<=100 by lia),g2,t0,t1,λe u v1 v2 v3=>#[Ca (show b.2.2.1.l.length<1000 by lia),D _ #[v1,v2,?_,?_]]⟩
    ·show (b.2.2.1.l++[↑(t,e)]).length+r.length<=35;rw[hO,ii]
     lia
    ·show (b.2.2.2.2.1.l++u).length+r.length<=100;rw[hO]
     lia
  ·rintro b ⟨R,_,g3,_⟩;exact hk _ R q0a
 have Q:∀(a:List RW) (U:List (Int×List Int)),Vr a->a.length<=15->(∀u∈U,Lp a u)->U.length<=20->∀g:Bg,yI (g,p.2.1+1,()) (λx d=>(-2 ^ 62<=x/\x<2 ^ 62)/\G6 (λ(x:Int) (b:Bg×Int×OL RW×WL.Un×OL (Int×List Int)×WL.Un×Unit) J (Kr:OL RW->Bg×WL.Un×Unit->Prop) I =>
    yI (b.1,9,()) (λx d=>if decide (x=8)=true then b.2.2.1.l.length<gS/\J (d.1,b.2.1,#[b.2.2.1.l++[none]],#[],b.2.2.2.2.1,b.2.2.2.2.2.1,b.2.2.2.2.2.2) else
     HQ (d.1,()) (λx d=>AS (b.2.2.1,b.2.2.2.2.1,x,d.1,()) (λO d=>d.1.l.length<gS/\J (d.2.2.2.1,b.2.1,#[d.1.l++[↑(x,O.l)]],#[],d.2.1,#[],b.2.2.2.2.2.2)) λC d=>I C (d.2.2.2.1,#[],())) λC d=>I C (d.1,#[],())) λC d=>I C (d.1,#[],()))
   (yL 0 x) (d.1,p.2.1,#[a],#[],#[U],#[],p.2.2) (λT=>W T.2.2.1 (T.1,#[],())) W I) (λC d=>I C (d.1,#[],())):=by
  intro a U v l1 Y l2 g;exact wL q0a q0a λr g0 R=>#[#[q0a,q0a],S a U r q0a v l1 Y l2]
 refine wL q0q q0q λx g0 R=>?_;dsimp only;by_cases hx:x=1
 ·rw[gN<|decide_eq_true hx];refine wL q0q q0q λm m0 m1=>#[m0,?_];dsimp only;have c:=List.all_eq_true.mp VP m.toNat<|List.mem_range.mpr q0a;unfold chk at c;simp only[iJ,Bool.or_eq_true,iU]at c;obtain⟨⟨⟨⟨c1,c2⟩,c3⟩,c4⟩,Z⟩:=c;have v:=Sz c1;refine⟨⟨q0a,q0a⟩,(by rw[wO];exact vO q0a),vZ (f:=λk:Int=>if decide (k<4)=true then some (0,[k]) else none) (λk _ K D=>?_) ?_⟩
  ·show if decide (k<4)=true then K ↑(0,[k]) _ else K none _;by_cases z:decide (k<4)=true
   ·rw[gN z]at D ⊢;exact D
   ·rw[gM z]at D ⊢;exact D
  ·have l0:∀u∈Zl (Co.take m.toNat).length,Lp (Co.take m.toNat) u:=λu P=>Sy<|List.all_eq_true.mp c2 u P;by_cases h9:9<((Co.take m.toNat).length:Int)
   ·rw[gN<|decide_eq_true h9];have Z:lp1.all (LpB<|Co.take m.toNat)=true:=Z.elim (λz=>hV z q0a) id;refine#[vO (show (Zl (Co.take m.toNat).length).length+3<=1000 by lia),Q _ (Zl (Co.take m.toNat).length++lp1) v c4 (λu P=>?_) ?_ _]
    ·rcases List.mem_append.mp P with z|z
     ·exact l0 u z
     ·exact Sy<|List.all_eq_true.mp Z u z
    ·rw[hO];show _+3<=20
     lia
   ·rw[gM<|by simpa using h9];exact Q _ (Zl (Co.take m.toNat).length) v c4 l0 q0a _
 ·rw[gM<|by simpa using hx];refine⟨⟨q0q,q0q⟩,vO q0q,vZ (f:=λk:Int=>if decide (k<4)=true then some (0,[k]) else none) (λk _ K D=>?_) ?_⟩
  ·show if decide (k<4)=true then K ↑(0,[k]) _ else K none _;by_cases z:decide (k<4)=true
   ·rw[gN z]at D ⊢;exact D
   ·rw[gM z]at D ⊢;exact D
  ·exact Q [] [] (Sz rfl) q0q (λu P=>by cases P) q0q _
noncomputable abbrev L9:il:=top 41
noncomputable abbrev Ma:List Str:=["_law_body","_law_rows_here"]
def Ig:uY ["_law_body","_law_rows_here","_law_number","_law_row_here"] Ma (uQ L9):=by walk_at "sc"
abbrev Y1(q:Cq)(C:ci)(k:Nat):=wZ q "_law_fill" Ma (So C) k
set_option tactic.hygienic true in
def V5(F:Cp q "_law_fill" L9 f U)(ct:zR q.K C)(a:a0P q C XB XS XC XO XP 8)(g:VE q C XC XV 8)(B:Bn q.mg):Gq q 9 f U Ma (So C):=by
 refine' u4 (wq (D':=Unit) (ms:=[]) (j:=2) F Ig rfl rfl λW A D s H E hr =>
   (vg (wI (is:=[]) (mb:=[]) (D1:=(Bd C true)×(List RW)×Int×RW×Unit) (D2:=(Bd C true)×(List RW)×Int×RW×Unit) (vz q0q) yK rfl (U4 rfl B.enumerate (ss 1)) (BP 2 3 (Cu rfl (wB (vf (i:=2) Ig.nd) (wB (vf (i:=3) Ig.nd) AE))) q0q q0q)
   (uT (vF (tw_cm Yg (ss 3) KS)
   (vg (vT (vd (vY 0 a (uU uW (uU (vy (vp (α:=Int) vo)) uS)))))
   (uT (vT (vd (vY 0 g (uU (ss 2) uS))))))
   (uT (vT (vd (vY 0 a (uU (Ei (ze (ss 3))) (uU (vy (GV rfl B.list (vQ (Bp (ze (ss 3)))))) uS)))))))) q0q q0q)
   (uT (yP 0 (pv 0))))) λp Kn Ke h=>?_
 walk_at "wl"
 obtain⟨X,v,Y⟩:=h;refine vM (λ(r:List (Int×RW)) (b:B0 C×List RW×WL.Un×WL.Un×Unit)=>∃k,r=Op k (p.2.1.drop k)/\k<=p.2.1.length/\xC b.1 (p.2.1.take k)/\b.1.ht=[]/\b.1.th=[]) (Op 0 p.2.1) #[0,rfl,i9 _,?_] ?_ ?_
 ·show xC p.1 []/\p.1.ht=[]/\p.1.th=[];rw[X];exact#[VR,rfl,rfl]
 ·rintro x r b _ ⟨k,e,N,c,m,n⟩ K Z
  have l:k<p.2.1.length:=by
   rcases Nat.lt_or_ge k p.2.1.length with z|z
   ·exact z
   ·rw[List.drop_of_length_le z]at e;cases e
  rw[n9 l]at e;have e1:x=((k:Int),p.2.1[k]):=by cases e;rfl
  have e2:r=Op (k+1) (p.2.1.drop<|k+1):=by cases e;rfl
  have tk:p.2.1.take (k+1)=p.2.1.take k++[p.2.1[k]]:=(List.take_append_getElem l).symm;have G:(p.2.1.take k).length=k:=List.length_take_of_le N;have I:=VO v k;have next:∀o:B0 C,xC o (p.2.1.take k++[p.2.1[k]])->o.ht=[]->o.th=[]->K (o,b.2.1,#[],#[],b.2.2.2.2):=λo h m1 m2=>Z _ #[k+1,e2,l,by rw[tk];exact h,m1,m2]
  have O:rowAt p.2.1 (k:Int)=p.2.1[k]:=E7 q0a (by rw[lF];exact jv l);have ln:=v.ln;subst e1;dsimp only
  cases z:p.2.1[k] with
  |none =>
   rw[gN<|show (none:RW).isNone=true from rfl];rw[z]at next
   refine Sw c I (ou 0) q0q iw (λ_ q=>by cases q) rfl λP J u w=>?_;have Q:Vr (p.2.1.take k++[↑(0,[])]):=a0W I q0a;refine VN J Q (by have:=v0 (rows:=p.2.1.take k) (z:=↑(0,[]));rw[G]at this;rw[this];rfl) (λh t=>?_) (by unfold wK;rw[u,w,m,n];rfl) λx2 R g3 g4=>next x2 ?_ (g3.trans<|u.trans m)<|g4.trans<|w.trans n
   ·cases q:rowAt (p.2.1.take k++[↑(0,[])]) h with
    |none=>unfold eb at t;rw[q]at t;cases t
    |some y =>
     rw[yU q]at t;have S:=((Q.ok h y.1 y.2 q).2.2.2.1 _ t).1;have L:=(vm q).2.1;rw[hO,ii,G]at L
     lia
   ·rw[lF,List.set_append_right _ _ q0a,G,qH]at R;exact R
  |some y =>
   rw[gM q0o];rw[z]at next O
   obtain⟨S,L,a3,T,a5⟩:=v.ok k y.1 y.2 O;refine#[y,rfl,y,rfl,Sw c I S L a3 (λd M=>?_) ?_ λP J u w=>next P J (u.trans m)<|w.trans n]
   ·obtain⟨q1,e',q2⟩:=T d M;exact#[e',by rw[xR,gN q1];exact q2]
   ·rw[<- a5];refine xj λd M=>?_;unfold eb;rw[xR,gN (T d M).1]
 ·rintro b ⟨k,e,N,c,m,n⟩
  have:k=p.2.1.length:=by
   rcases Nat.lt_or_ge k p.2.1.length with z|z
   ·rw[n9 z]at e;cases e
   ·lia
  rw[this,uO]at c;exact Y _ c m n
noncomputable abbrev Mb:il:=top 42
noncomputable abbrev Mc:List Str:=["_law_field","_law_rows_here","_law_bag_here","_law_tries"]
def yV:uY ["_law_field","_law_rows_here","_law_bag_here","_law_tries","_law_arrows","_law_k","_law_highs","_law_gone","_law_high","_law_low"] Mc (uQ Mb):=by walk_at "sc"
def S7:(["_law_k","_law_rows_here"]:List Str).Nodup:=by decide +kernel
abbrev Y2(q:Cq)(C:ci)(k:Nat):=wZ q "_law_ties" Mc (SE C) k
def V6(F:Cp q "_law_ties" Mb f fd)(ct:zR q.K C)(t:Fb q 6)(g:wZ q "_law_pull" ["_law_bag_here","_law_many"] yI 6)(m:VC q C XC XN 6)(M:a0R q C XC XF XT XR 6)(a:a0I q XT XR "Tied" "RingOfArrows")(B:Bn q.mg):Gq q 7 f fd Mc (SE C):=by
  refine' u4 (wq (D':=Unit) (ms:=[0,2]) (j:=6) F yV rfl rfl λae A X s H E T =>
      (vg (vj 4 yV.nd (vp (α:=(Int×Int)) vo))
      (vg (AO (Ts:=["_law_k"]) (Fr:=["_law_rows_here"]) (idx:=[1]) (k:=1) (mb:=[1]) (is:=[]) (cl:=[("_law_rows_here",⇑s+1)]) 6 yV.nd rfl rfl rfl q0q rfl (wd (vy (vh t (uU (ss 1) uS)))) Ri rfl (wC rfl) (λG I C ex pn=>(vr 0 (vf (i:=0) S7 rfl (k9 rfl)) q0q)) (λG I C ex pn=>(tws_one (tw_cmL (CI T.units) (vQ (Bp (ze (xl (vQ (ss 1)) (ss 0))))) (vQ (vy (vp (α:=Int) vo))) (v9 _)))) (λG I C ex pn=>(ss 0)))
      (vg (wI (is:=[]) (mb:=[0,2]) (D1:=(Bd C true)×(List (Option (Int×(List Int))))×Bg×Int×(OL (Int×Int))×Int×(OL Int)×Un×Un×Un×Unit) (D2:=(Bd C true)×(List (Option (Int×(List Int))))×Bg×Int×(OL (Int×Int))×Int×(OL Int)×Un×Un×Un×Unit) (vz q0q) yK rfl (xm rfl B.range (ss 3)) (vr 5 (vf (i:=5) yV.nd rfl (k9 rfl)) q0q)
      (uT (vF (tw_w (KW (tw_cmL (CI T.units) (wj 4) (vQ (vy (vp (α:=(Int×Int)) vo))) (v9 _)) (G4 (tw_cm Ai (vd (vh g (vw 2 (uU uW uS)))) uW (v9 _)))))
      (MQ (D':=(Bd C true)×(List (Option (Int×(List Int))))×Bg×Int×(OL (Int×Int))×Int×(OL Int)×Un×Un×Un×Unit) (vg (vj 7 yV.nd (vq (OB 4 (pv 4) (vd (vh g (vw 2 (uU (w6 rfl B.len (wj 4)) uS)))) (λh=>WD mh oQ oR PY (pv 4) h))))
      (uT (vT (vd (vY 0 m (uU (Ei (ss 7)) uS)))))))
      (B2 (w':=λ(d:(Bd C true)×(List (Option (Int×(List Int))))×Bg×Int×(OL (Int×Int))×Int×(OL Int)×Un×Un×Un×Unit) (Y:(Bd C true)×(List (Option (Int×(List Int))))×Bg×Int×(OL (Int×Int))×Int×(OL Int)×Un×Un×Un×Unit->Prop) _ _=>(xC d.1 d.2.1/\Vr d.2.1/\d.2.1.length<=35/\Arr d.1 d.2.2.2.2.1.l/\d.2.2.2.2.2.2.1.l=(Cr d.2.1).filter (λk=>!decide (eb d.2.1 k=[])))/\∀J:(Bd C true)×(List (Option (Int×(List Int))))×Bg×Int×(OL (Int×Int))×Int×(OL Int)×Un×Un×Un×Unit,(J.2.1=d.2.1/\J.2.2.2.2.2.2.1=d.2.2.2.2.2.2.1/\xC J.1 d.2.1/\Arr J.1 J.2.2.2.2.1.l)->Y J) (uT (vF (tw_cmL (CI T.units) (wj 6) (vQ (vy (vp (α:=Int) vo))) (v9 _))
      (MQ (D':=(Bd C true)×(List (Option (Int×(List Int))))×Bg×Int×(OL (Int×Int))×Int×(OL Int)×Un×Un×Un×Unit) (vg (vj 8 yV.nd (vq (xl (wj 6) (vd (vh g (vw 2 (uU (w6 rfl B.len (wj 6)) uS)))))))
      (vg (vj 9 yV.nd (vq (xl (vQ (Bp (ze (xl (vQ (ss 1)) (ss 8))))) (vd (vh g (vw 2 (uU (w6 rfl B.len (vQ (Bp (ze (xl (vQ (ss 1)) (ss 8)))))) uS)))))))
      (vg (Vh rfl (YB rfl a.m1 rfl a.m2 a.x1 a.x2) (a0H 0 M T ct.cl (λE1 Φ Z=>(pv 0)) (λE1 Φ Z=>(uU (ss 9) (uU (ss 8) uS)))) (λx' =>
      (uT (vj 8 yV.nd (vq (QN uW))))))
      (uT (vF (tw_cm WT (ss 8) uW (v9 _))
      (uT<|wu 4<|wN (ss 9)<|ss 8)
      vv))))))
      vv)) (by
   rintro⟨O,P,b3,b4,N,b6,Q,b8,b9,R,S⟩ Y Kr Ke h
   walk_at "wl"
   obtain⟨⟨c,v,L,A,n⟩,o⟩:=h
   dsimp only at c v L A n o ⊢
   have sl:gS=16777216:=iY
   have al:=A.OV c L
   by_cases q:Q.l=[]
   · rw[gM<|by simp[q]]
     exact o _ #[rfl,rfl,c,A]
   · rw[gN<|by simp[q]]
     have l7:Q.l.length<=35:=by rw[n];have:=iq (λk=>!decide (eb P k=[]))<|Cr P;have:=xh P;omega
     have p7:0<Q.l.length:=List.length_pos_iff.mpr q
     refine wL q0d q0d λi U i1=>?_
     obtain⟨hg,a1,a2,W⟩:=yh U i1
     rw[n,jo]at W
     obtain⟨y,u⟩:=Option.isSome_iff_exists.mp<|xg.mp W.1
     have yn:y.2≠[]:=λz=>by have:=W.2;rw[yU u,z]at this;simp at this
     have yl:y.2.length<=95:=by
         exact SG v u
     have py:0<y.2.length:=List.length_pos_iff.mpr yn
     refine#[hg,a1,_,(vm u).2.2.2,y,rfl,_,(vm u).2.2.2,y,rfl,wL q0d q0d λi' aa ab=>?_]
     obtain⟨lo,l1,l2,l3⟩:=yh aa ab
     refine#[lo,l1,YX A c v L u l3 (λD hD=>#[hD,?_]) λx' c' A'=>?_]
     · rw[gM<|λz => hV (jV z) q0d]
       exact o _ #[rfl,rfl,c,A]
     · rw[gN<|decide_eq_true (vm u).1]
       exact#[by show N.l.length<gS;omega,o _ #[rfl,rfl,c',A']])))) q0q q0q)
      (uT (vi (Lm rfl B.sorted (wj 4)))))))) λp Y Ke h=>?_
  walk_at "wl"
  obtain⟨c0,v,L,n1,n2,tr,h⟩:=h
  have sl:gS=16777216:=iY
  refine#[by show p.2.1.length<1000;omega,by show (Cr p.2.1).length<=gS;have:=xh p.2.1;omega,?_]
  refine vU (q:=λk=>!decide (eb p.2.1 k=[])) (λk hk K o=>?_) ?_
  · obtain⟨y, u⟩ := Option.isSome_iff_exists.mp (xg.mp hk)
    refine#[_,(vm u).2.2.2,y,rfl,?_]
    rw[yU u]at o
    exact o
  dsimp only
  refine#[q0d,?_]
  refine vM (λ(_:List Int) (b:B0 C×List RW×Bg×Int×OL (Int×Int)×WL.Un×OL Int×WL.Un×WL.Un×WL.Un×Unit)=>b.2.1=p.2.1/\b.2.2.2.2.2.2.1.l=(Cr p.2.1).filter (λk=>!decide (eb p.2.1 k=[]))/\xC b.1 p.2.1/\Arr b.1 b.2.2.2.2.1.l) _ #[rfl,rfl,c0,VS (c0.okb v) n1 n2] ?_ ?_
  · rintro k r ⟨O, P, b3, b4, N, b6, Q, b8, b9, R, S⟩ _ ⟨rfl, n, c, A⟩ K o
    dsimp only at n c A ⊢
    have al:=A.OV c L
    by_cases e5:N.l=[]
    · rw[gM (by simp[e5]), gM g9]
      exact#[#[c,v,L,A,n],λJ x=>o _ #[x.1,by rw[x.2.1];exact n,x.2.2.1,x.2.2.2]]
    · rw[gN<|by simp[e5]]
      refine wL q0q q0q λz z0 z1=>?_
      by_cases e8:z=8
      · rw[gN<|decide_eq_true e8]
        have p5:0<N.l.length:=List.length_pos_iff.mpr e5
        refine wL q0d q0d λi U i1=>?_
        obtain⟨y,a1,a2,W⟩:=yh U i1
        exact#[U,y,a2,q0d,SH A c a2 λw x' c' A'=>o _ #[rfl,n,c',A']]
      · rw[gM<|by simpa using e8]
        exact#[#[c,v,L,A,n],λJ x=>o _ #[x.1,by rw[x.2.1];exact n,x.2.2.1,x.2.2.2]]
  · rintro⟨O, P, b3, b4, N, b6, Q, b8, b9, R, S⟩ ⟨rfl, n, c, A⟩
    have c:xC O p.2.1:=c
    have A:Arr O N.l:=A
    have al:=A.OV c L
    refine#[by show N.l.length<64;omega,λps hp so=>h O ps c #[A.ok,A.nt,(hp.map _).trans A.pm,λe he=>A.hd e<|hp.mem_iff.mp he]<|YW so]
noncomputable abbrev Ih:il:=top 43
abbrev Ii:List Str:=["_law_bag_here","_law_most"]
def Cj:uY ["_law_bag_here","_law_most","_law_rows_here","_law_field","_law_arrows"] Ii (uQ Ih):=by walk_at "sc"
abbrev V7(q:Cq)(C:ci)(k:Nat):=wZ q "_law_house" Ii (Nx C) k
def S8(F:Cp q "_law_house" Ih f D)(e:Mk q.K C g)(i:vD q.P q.w q.K q.mg q.base (vL q.P q.w) 8 g b ["self"] (DJ C))(k:Binds q.K b ["self"] [])(d:q.mg "Field"=↑(.ref C))(l:Y0 q 9)(m:Y1 q C 9)(o:Y2 q C 9)(r:wZ q "_law_pull" ["_law_bag_here","_law_many"] yI 9)(B:Bn q.mg):Gq q 10 f D Ii (Nx C):=by
 refine' u4 (wq (D':=Unit) (ms:=[0]) (j:=3) F Cj rfl rfl λG A u s H E I =>
   (vg (vj 2 Cj.nd (vh l (vw 0 (uU (ss 1) uS))))
   (vg (vj 3 Cj.nd (vh m (UN (Rh e i I rfl d k A8) (vn 2 uS))))
   (vg (vj 4 Cj.nd (vh o (vw 3 (vn 2 (vw 0 (uU (vd (vh r (vw 0 (uU (AI zX (Qw Bh uW (w6 rfl B.len (wj 2))) uW) uS)))) uS))))))
   (uT (Vc 3 2 4 (pv 3) (pv 2) (pv 4))))))) λp R S h=>?_
 walk_at "wl"
 obtain⟨J,h⟩:=h;refine#[J,λt v y=>?_];refine#[rfl,v,λx c L M=>?_];dsimp only;refine#[.inl q0q,wL (n:=2*(t.length:Int)+1) q0d q0d λz T U=>?_];exact#[c,v,y,L,M,by show 0<=z/\z<=1000;omega,λN a O A Q=>h N t a O v y A Q]
noncomputable abbrev Fc:il:=top 44
noncomputable abbrev Fd:List Str:=["_law_arrows"]
def O3:uY ["_law_arrows"] Fd (uQ Fc):=by walk_at "sc"
def Fe:(["_law_low","_law_high"]:List Str).Nodup:=by decide +kernel
abbrev S9(q:Cq)(k:Nat):=wZ q "_law_tails" Fd Fa k
def O5(F:Cp q "_law_tails" Fc f l):Gq q 2 f l Fd Fa:=by
 refine' u4 (wq (D':=Unit) (ms:=[]) (j:=0) F O3 rfl rfl λm A c s H E o =>
   (uT (vi (wP (Ts:=["_law_low","_law_high"]) (Fr:=[]) (idx:=[]) (k:=2) (mb:=[]) (is:=[]) (cl:=[]) rfl (wd (ss 0)) Zi rfl (wC rfl) (λa b C d g=>(BP 0 1 (Cu rfl (wB (vf (i:=0) Fe) (wB (vf (i:=1) Fe) AE))) q0q q0q)) (λa b C d g=>tws_nil) (λa b C d g=>(ss 0)))))) λp r t h=>?_
 walk_at "wl"
 obtain⟨u,h⟩:=h;have v:gS=16777216:=iY;refine#[q0a,?_];refine vZ (f:=λ(e:Int×Int)=>↑e.1) (λe w K n=>n) ?_;rw[oV];exact h
noncomputable abbrev Ij:il:=top 45
abbrev Ik:List Str:=["_law_arrows"]
def Ta:uY ["_law_arrows"] Ik (uQ Ij):=by walk_at "sc"
def Gx:(["_law_low","_law_high"]:List Str).Nodup:=by decide +kernel
abbrev NA(q:Cq)(k:Nat):=wZ q "_law_heads" Ik HY k
def Tb(F:Cp q "_law_heads" Ij f l)(B:Bn q.mg):Gq q 2 f l Ik HY:=by
 refine' u4 (wq (D':=Unit) (ms:=[]) (j:=0) F Ta rfl rfl λm A c s H E r =>
   (uT (vi (CH rfl B.sorted (vQ (vy (wP (Ts:=["_law_low","_law_high"]) (Fr:=[]) (idx:=[]) (k:=2) (mb:=[]) (is:=[]) (cl:=[]) rfl (wd (ss 0)) Zi rfl (wC rfl) (λa b C d g=>(BP 0 1 (Cu rfl (wB (vf (i:=0) Gx) (wB (vf (i:=1) Gx) AE))) q0q q0q)) (λa b C d g=>tws_nil) (λa b C d g=>(ss 1))))))))) λp t u h=>?_
 walk_at "wl"
 obtain⟨n,h⟩:=h;have v:gS=16777216:=iY;refine#[q0a,?_];refine vZ (f:=λ(e:Int×Int)=>↑e.2) (λe w K o=>o) ?_;rw[oV];exact#[by rw[gV];exact n,h]
noncomputable abbrev Md:il:=top 46
noncomputable abbrev Me:List Str:=["_law_rows_here","_law_arrows"]
def NB:uY ["_law_rows_here","_law_arrows","_law_bound"] Me (uQ Md):=by walk_at "sc"
def Tc:(["_law_k","_law_bound"]:List Str).Nodup:=by decide +kernel
abbrev Y3(q:Cq)(k:Nat):=wZ q "_law_lone" Me LQ k
def V8(F:Cp q "_law_lone" Md f o)(a:S9 q 2)(b:NA q 2)(c:Fb q 2):Gq q 3 f o Me LQ:=by
 refine' u4 (wq (D':=Unit) (ms:=[]) (j:=1) F NB rfl rfl λr A g s H E i =>
   (vg (vj 2 NB.nd (Bq (vQ (vy (vh a (uU (ss 1) uS)))) (vQ (vy (vh b (uU (ss 1) uS))))) (hx:=uG rfl))
   (uT (vi (wP (Ts:=["_law_k"]) (Fr:=["_law_bound"]) (idx:=[2]) (k:=1) (mb:=[1]) (is:=[]) (cl:=[("_law_bound",⇑s+1)]) rfl (wd (vy (vh c (uU (ss 0) uS)))) Ri rfl (wC rfl) (λd e C l m=>(vr 0 (vf Tc))) (λd e C l m=>(tws_one (tw_cmI Em (ss 0) (wj 1) (by with_unfolding_all rfl)))) (λd e C l m=>(ss 0))))))) λp v w h=>?_
 walk_at "wl"
 obtain⟨i,n,t⟩:=h;have x:gS=16777216:=iY;have y:(p.2.1.map (·.1)).length=p.2.1.length:=gV _;have z:(Af (p.2.1.map (·.2))).length=p.2.1.length:=by rw[(wx _).length_eq,gV]
 have B:=xh p.1;refine#[n,n,?_];refine#[by show (p.2.1.map (·.1)).length+(Af (p.2.1.map (·.2))).length<=gS;lia,i,?_];exact#[by show (Cr p.1).length<=gS;lia,vU (q:=λk=>!decide (k∈p.2.1.map (·.1)++Af (p.2.1.map (·.2)))) (λk _ K u=>u) t]
noncomputable abbrev Ff:il:=top 50
noncomputable abbrev Fh:List Str:=["_law_row_here","_law_keep"]
def O6:uY ["_law_row_here","_law_keep"] Fh (uQ Ff):=by walk_at "sc"
def Mg:(["_law_x","_law_keep"]:List Str).Nodup:=by decide +kernel
abbrev Td(q:Cq)(k:Nat):=wZ q "_law_parted" Fh Ci k
def O7(F:Cp q "_law_parted" Ff f g):Gq q 2 f g Fh Ci:=by
 refine' u4 (wq (D':=Unit) (ms:=[]) (j:=0) F O6 rfl rfl λi A c s H E o =>
   (uT (vi (wP (Ts:=["_law_x"]) (Fr:=["_law_keep"]) (idx:=[1]) (k:=1) (mb:=[1]) (is:=[]) (cl:=[("_law_keep",⇑s+1)]) rfl (wd (ss 0)) Ri rfl (wC rfl) (λa b C d e=>(vr 0 (vf Mg))) (λa b C d e=>(tws_one (tw_cmI QC (ss 0) (vQ (ss 1)) (by with_unfolding_all rfl)))) (λa b C d e=>(ss 0)))))) λp r t h=>?_
 walk_at "wl"
 obtain⟨l,m⟩:=h;exact#[vO l,vU (q:=λk=>decide<|k∈p.2.1) (λk _ K n=>n) m]
abbrev Il:il:=top 51
abbrev Im:List Str:=["_law_found","_law_due"]
def Te:uY ["_law_found","_law_due"] Im (uQ Il):=by walk_at "sc"
abbrev V9(q:Cq)(k:Nat):=wZ q "_law_truth" Im HU k
def Tf(F:Cp q "_law_truth" Il f b)(B:Bn q.mg):Gq q 2 f b Im HU:=by
 refine' u4 (wq (D':=Unit) (ms:=[]) (j:=0) F Te rfl rfl λc A a s H E d =>
   (uT (vi (vq (Eo (yA (ty:="bool") rfl B.isinstance (AD (v:=.ty "bool") rfl B.bool qM rfl) (ss 0)) (AN (Z8 Ai (ss 0) (ss 1) (v9 _)))))))) λp e g h=>?_
 walk_at "wl"
 rw[gN rfl];exact h
abbrev zL:il:=top 52
abbrev zM:List Str:=["_law_body","_law_rows_here"]
def yX:uY ["_law_body","_law_rows_here","_law_cell"] zM (uQ zL):=by walk_at "sc"
abbrev Io(q:Cq)(C:ci)(k:Nat):=wZ q "_law_cells_kept" zM (Cg C) k
def FN(F:Cp q "_law_cells_kept" zL f O)(L:zR q.K C)(e:SV q 6)(a:Fb q 6)(n:V9 q 6)(o:Ib q 6)(t:Nd q C 6)(g:RN q C 6)(l:RM q C 6)(d:Vz q C XC 6)(m:JL q C XC 6)(B:Bn q.mg):Gq q 7 f O zM (Cg C):=by
 refine' u4 (wq (D':=Unit) (ms:=[0]) (j:=1) F yX rfl rfl λP A z s H E M =>
   (vg (vF (tw_w (A9 (tw_not (tw_val (vd (vh e (uU (vy (Dh 0 t M L.cl A8 (pv 0))) (uU (vy (vh a (uU (ss 1) uS))) uS)))))) (zx (tw_cm El (vd (Dh 0 g M L.cl A8 (pv 0))) (w6 rfl B.len (vQ (ss 1))) (v9 _)))))
   (uT<|vi<|vq yG)
   vv)
   (vg (wI (is:=[]) (mb:=[0]) (D1:=(Bd C true)×(List (Option (Int×(List Int))))×Int×Unit) (D2:=(Bd C true)×(List (Option (Int×(List Int))))×Int×Unit) (vz q0q) yK rfl (Ol rfl B.range (QN uW) (AI zX (w6 rfl B.len (vQ (ss 1))) uW) (λh=>NL rfl B.range h)) (vr 2 (vf (i:=2) yX.nd rfl (k9 rfl)) q0q)
   (uT (vF (tw_not (tw_val (vd (vh n (uU (vd (vY 0 l (uU (ss 2) uS))) (uU (Yj QC (ss 2) (vQ (vy (vh a (uU (ss 1) uS)))) (by with_unfolding_all rfl)) uS))))))
   (uT<|vi<|vq yG)
   vv)) q0q q0q)
   (vg (wI (is:=[]) (mb:=[0]) (D1:=(Bd C true)×(List (Option (Int×(List Int))))×Int×Unit) (D2:=(Bd C true)×(List (Option (Int×(List Int))))×Int×Unit) (vz q0q) yK rfl (wd (vy (vh a (uU (ss 1) uS)))) (vr 2 (vf (i:=2) yX.nd rfl (k9 rfl)) q0q)
   (vg (vF (tw_w (A9 (tw_cm El (vd (vY 0 d (uU (ss 2) uS))) (Ei (ze (xl (vQ (ss 1)) (ss 2)))) (v9 _)) (zx (tw_not (tw_val (vd (vh o (uU (vd (vY 0 d (uU (ss 2) uS))) uS))))))))
   (uT<|vi<|vq yG)
   vv)
   (uT (vF (tw_not (tw_val (vd (vh e (uU (vy (vY 0 m (uU (ss 2) uS))) (uU (Bp (ze (xl (vQ (ss 1)) (ss 2)))) uS))))))
   (uT<|vi<|vq yG)
   vv))) q0q q0q)
   (uT (vi (vq yG))))))) λp S T h=>?_
 walk_at "wl"
 obtain⟨c,v,h⟩:=h;have U:=v.ln;refine#[c.okb v,(show p.2.1.length<1000 by omega),AT c.ks ?_];rw[gM q0q];show if (!decide (p.1.up=(p.2.1.length:Int)))=true then _ else _;rw[gM<|by simp[c.up]];refine⟨⟨q0q,q0q,q0d,q0d⟩,?_⟩;refine vM (λ(r:List Int)(b:B0 C×List RW×WL.Un×Unit)=>b.1=p.1/\b.2.1=p.2.1) _ #[rfl,rfl] ?_ ?_
 ·rintro k r ⟨D,G,I⟩ _ ⟨u,w⟩ K J;dsimp only at u w ⊢;subst u w;refine#[(show p.2.1.length<1000 by omega),SA (c.a0V k) ?_];rw[gM q0q];exact J _ #[rfl,rfl]
 ·rintro⟨D,G,I⟩ ⟨u,w⟩;dsimp only at u w ⊢;subst u w;refine#[(show p.2.1.length<1000 by omega),?_];refine vM (λ(r:List Int)(b:B0 C×List RW×WL.Un×Unit)=>b.1=p.1/\b.2.1=p.2.1/\∀k∈r,(rowAt p.2.1 k).isSome=true) _ #[rfl,rfl,λk Q=>xg.mp Q] ?_ ?_
  ·rintro k r ⟨D,G,I⟩ _ ⟨u,w,N⟩ K J;dsimp only at u w ⊢;subst u w;obtain⟨y,x⟩:=Option.isSome_iff_exists.mp<|N k gR;refine Nv c x ⟨_,(vm x).2.2.2,y,rfl,?_⟩;rw[gM q0o];refine Nv c x<|E9 ?_;rw[gM q0q];refine OU c v x ⟨_,(vm x).2.2.2,y,rfl,AT rfl ?_⟩;rw[gM q0q];exact J _ ⟨rfl,rfl,λj R=>N j<|gU _ R⟩
  ·rintro⟨D,G,I⟩ ⟨u,w,_⟩;dsimp only at u w ⊢;subst u w;exact h
abbrev Ip:il:=top 53
abbrev Iq:List Str:=["_law_found","_law_due"]
def JX:uY ["_law_found","_law_due","_law_k"] Iq (uQ Ip):=by walk_at "sc"
abbrev Wa(q:Cq)(k:Nat):=wZ q "_law_pairs" Iq Ny k
def Tg(F:Cp q "_law_pairs" Ip f o)(a:Ib q 3)(B:Bn q.mg):Gq q 4 f o Iq Ny:=by
 refine' u4 (wq (D':=Unit) (ms:=[]) (j:=1) F JX rfl rfl λt A d s H E u =>
   (vg (vF (tw_w (A9 (tw_not (tw_val (yA (ty:="list") rfl B.isinstance (AD (v:=.ty "list") rfl B.list j0 rfl) (ss 0)))) (zx (tw_cm El (w6 rfl B.len (vQ (ss 0))) (w6 rfl B.len (vQ (ss 1))) (v9 _)))))
   (uT<|vi<|vq yG)
   vv)
   (vg (wI (is:=[]) (mb:=[]) (D1:=(List (Int×Int))×(List (Int×Int))×Int×Unit) (D2:=(List (Int×Int))×(List (Int×Int))×Int×Unit) (vz q0q) yK rfl (xm rfl B.range (w6 rfl B.len (vQ (ss 1)))) (vr 2 (vf (i:=2) JX.nd rfl (k9 rfl)) q0q)
   (vg (vF (tw_w (A9 (tw_not (tw_val (yA (ty:="tuple") rfl B.isinstance (AD (v:=.ty "tuple") rfl B.tuple qF rfl) (xl (vQ (ss 0)) (ss 2))))) (zx (tw_cm El (Va rfl B.len (xl (vQ (ss 0)) (ss 2))) uW (v9 _)))))
   (uT<|vi<|vq yG)
   vv)
   (uT (vF (tw_w (A9 (tw_not (tw_val (vd (vh a (uU (Ei (xl (vQ (ss 0)) (ss 2))) uS))))) (A9 (tw_not (tw_val (vd (vh a (uU (Bp (xl (vQ (ss 0)) (ss 2))) uS))))) (zx (tw_cm (Yh u.units) (xl (vQ (ss 0)) (ss 2)) (xl (vQ (ss 1)) (ss 2)) (v9 _))))))
   (uT<|vi<|vq yG)
   vv))) q0q q0q)
   (uT (vi (vq yG)))))) λp D G h=>?_
 walk_at "wl"
 obtain⟨e,n,k⟩:=h;rw[e]at n ⊢;refine qv (gM q0q)<|qv (gM q0o) ⟨⟨q0d,q0d⟩,?_⟩;refine vM (λ(r:List Int) (b:List (Int×Int)×List (Int×Int)×WL.Un×Unit)=>b.1=p.2.1/\b.2.1=p.2.1/\∀j∈r,0<=j/\j<(p.2.1.length:Int)) _ #[rfl,rfl,λj w=>HV w] ?_ λ_ _=>k;rintro j r ⟨I,J,L,M⟩ _ ⟨l,m,g⟩ K x;dsimp only at l m ⊢;subst l m;obtain⟨y,c,_⟩:=yh (g j gR).1 (g j gR).2;exact#[y,c,qv (gM q0q) #[y,c,qv (gM q0q) #[y,c,E9<|qv (gM q0q) ⟨y,c,E9<|qv (gM q0q) ⟨y,c,y,c,qv (gM q0o)<|x _ ⟨rfl,rfl,λi z=>g i<|gU _ z⟩⟩⟩]]]
abbrev Mh:il:=top 54
abbrev Mi:List Str:=["_law_field","_law_rows_here","_law_arrows"]
def Wb:uY ["_law_field","_law_rows_here","_law_arrows"] Mi (uQ Mh):=by walk_at "sc"
abbrev Y4(q:Cq)(C:ci)(k:Nat):=wZ q "_law_kept" Mi (SF C) k
def Wc{f:ci}{fd:iH}(F:Cp q "_law_kept" Mh f fd)(ct:zR q.K C)(Ir:Io q C 7)(Wd:Wa q 7)(Th:JO q C 7):Gq q 8 f fd Mi (SF C):=by
 refine' u4 (wq (D':=Unit) (ms:=[0]) (j:=0) F Wb rfl rfl λTL A outer s H E hr =>
   (uT (vi (vq (Eo (vd (vh Ir (vw 0 (uU (ss 1) uS)))) (AN (vd (vh Wd (uU (vy (Dh 0 Th hr ct.cl A8 (pv 0))) (uU (ss 2) uS)))))))))) λp Kn Ke h=>?_
 walk_at "wl"
 obtain⟨⟨c,v,ln,A,so⟩,k⟩:=h;have al:=A.OV c ln;refine#[c,v,qv (gN rfl) #[by show p.1.ht.length<64;omega,A.ok.nd,A.eq so,?_,k]];show ((Af<|vV p.1).map λl=>(l,v7 p.1 l)).length<64;rw[A.eq so];omega
end
noncomputable abbrev Ti:il:=top 31
def Y5{K:gO}{p:WY K×Unit}{a:Bg->WL.Un×Unit->Prop}{b:ci->WL.Un×Unit->Prop}(k:a #[] (#[],())):Q5 K p a b:=k
section
variable{C:ci}{x:B0 C}{rows:List RW}{a:List (Int×Int)}
def Arr.tail(A:Arr x a){k:Int}:k∈a.map (·.1)↔k∈vV x:=A.pm.mem_iff
def Arr.hdm(A:Arr x a){k:Int}(h:∃t∈vV x,v7 x t=k):k∈a.map (·.2):=by obtain⟨t,m,e⟩:=h;obtain⟨b,c,q⟩:=List.mem_map.mp<|A.tail.mpr m;refine List.mem_map.mpr #[b,c,?_];rw[<- e,<- q];exact(A.hd b c).symm
def Arr.hdt(A:Arr x a){k:Int}(h:k∈a.map (·.2)):∃t∈vV x,v7 x t=k:=by obtain⟨e,b,rfl⟩:=List.mem_map.mp h;exact#[e.1,A.mem b,A.hd e b]
def Ck(A:Arr x a){k:Int}:k∈JV rows a↔(rowAt rows k).isSome=true/\k∉vV x/\k∉a.map (·.2):=by unfold JV;rw[jo,xg,uB,decide_eq_false_iff_not,lj,yw,A.tail,pP]
def We:(JV rows a).length<=rows.length:=iA (iq _ _)<|xh rows
def Y6(A:Arr x a){k:Int}(h:k∈JV rows a):wK x k=false:=by
 have h:=(Ck A).mp h;unfold wK;rw[Nh h.2.1]
 cases e:lk x.th k with
 |none=>rfl
 |some l =>
  have b:=A.ok.th l k e;exact hV (A.hdm #[l,zF (by rw[b];rfl),by unfold v7;rw[b];rfl]) h.2.2
def O8(A:Arr x a){k:Int}(h:k∈a.map (·.2)):k∉vV x:=λz=>by obtain⟨t,m,e⟩:=A.hdt h;refine A.ok.one k (xy z) ?_;rw[<- e,(A.ok.ht t _<|wD m).2.2.2];rfl
def JY(A:Arr x a)(c:xC x rows){k:Int}(h:k∈a.map (·.2)):(rowAt rows k).isSome=true:=by obtain⟨t,m,e⟩:=A.hdt h;have:=A.ok.Iz m;rw[e,c.rk,iN]at this;exact this
def JZ(v:Vr rows)(e:∀k∈g,(rowAt rows k).isSome=true){d:Int}(f:d∈vG (eb rows) g):(rowAt rows d).isSome=true:=by obtain⟨c,m,q⟩:=EF (λc m=>by obtain⟨y,b⟩:=Option.isSome_iff_exists.mp<|e c m;rw[yU b];exact ve (v.Sq b).1) f;obtain⟨y,b⟩:=Option.isSome_iff_exists.mp<|e c m;rw[yU b]at q;obtain⟨_,i,h⟩:=(v.ok c y.1 y.2 b).2.2.2.1 d q;rw[h];rfl
def a2R(v:Vr rows)(b:∀k∈g,(rowAt rows k).isSome=true):(vG (eb rows) g).length<=rows.length:=iA (wp (wy _ _) λd c=>xg.mpr<|JZ v b c)<|xh rows
def Tj(c:rows.length<=35){k:Int}(h:(rowAt rows k).isSome=true):k∈yL 0 35:=by obtain⟨y,b⟩:=Option.isSome_iff_exists.mp h;have:=vm b;exact zD this.1 (by have:=this.2.1;omega)
end
def Zm{l k:List Int}(h:∀c∈l,c∉k):(l.filter λc=>decide<|c∈k)=[]:=List.filter_eq_nil_iff.mpr λc a z=>h c a<|jV z
def Zn{l k:List Int}(h:∀c∈l,c∈k):(l.filter λc=>decide<|c∈k)=l:=List.filter_eq_self.mpr λc a=>decide_eq_true<|h c a
section
variable{C:ci}{x:B0 C}{rows:List RW}{a:List (Int×Int)}{l g:List Int}{Kb:Bool->WL.Un×Unit->Prop}{K1:OL Int->WL.Un×Unit->Prop}{K2:OL Int->WL.Un×WL.Un×Unit->Prop}{E1:ci->WL.Un×Unit->Prop}{E2:ci->WL.Un×WL.Un×Unit->Prop}
def Tk{c:Bool}{P Q:Prop}(h:c=false)(k:Q):if c=true then P else Q:=by rw[gM<|by rw[h];decide];exact k
def a2S:(!decide (([]:List Int)=[]))=false:=rfl
def a3p:(!decide (l=l))=false:=by rw[decide_eq_true rfl];rfl
def a2T(h:wQ l)(n:l.length<=35)(k:Kb true (#[],())):w_sum (l,()) Kb E1:=#[h,iA n q0q,k]
def Wg(n:l.length<=35)(e:(l.filter λc=>decide<|c∈g)=r)(k:K2 #[r] (#[],#[],())):Ci (l,g,()) K2 E2:=#[iA n q0q,by rw[<- e]at k;exact k]
def Tl(n:rows.length<=35)(k:K1 #[Cr rows] (#[],())):LL (rows,()) K1 E1:=#[jk n q0q,k]
def To(v:Vr rows)(h:∀c∈l,(rowAt rows c).isSome=true)(k:K2 #[vG (eb rows) l] (#[],#[],())):LN (rows,l,()) K2 E2:=#[v,h,k]
def Wh(n:rows.length<=35)(m:a.length<=35)(k:K2 #[JV rows a] (#[],#[],())):LQ (rows,a,()) K2 E2:=#[jk n q0q,jk m q0q,k]
def a00(m:a.length<=35)(k:K1 #[a.map (·.1)] (#[],())):Fa (a,()) K1 E1:=#[jk m q0q,k]
def Tq(m:a.length<=35)(k:K1 #[Af (a.map (·.2))] (#[],())):HY (a,()) K1 E1:=#[jk m q0q,k]
def Fi{b:Bg}{K2:OL Int->Bg×WL.Un×Unit->Prop}{E2:ci->Bg×WL.Un×Unit->Prop}(n:l.length<=35)(k:∀m,wQ m->(∀x∈m,x∈l)->K2 #[m] (#[],#[],())):LM (b,l,()) K2 E2:=#[jk n q0q,k]
def Wi(n:rows.length<=35)(c:wQ l)(d:wQ g)(e:∀k∈l,(rowAt rows k).isSome=true)(f:∀k∈g,(rowAt rows k).isSome=true)(k:K2 #[xr l g] (#[],#[],())):HR (l,g,()) K2 E2 :=
 #[LP c d (λk b=>Tj n<|e k b)<|λk b=>Tj n<|f k b,by rw[<- QV c d]at k;exact k]
def Wj(m:a.length<=35):(Af (a.map (·.2))).length<=35:=by rw[(wx _).length_eq,gV];exact m
def Arr.len(A:Arr x a)(c:xC x rows)(n:rows.length<=35):a.length<=35:=by have:=A.OV c n;lia
def Y7(A:Arr x a){k:Int}(h:(rowAt rows k).isSome=true):(!wK x k)=decide (k∈JV rows a):=by
 by_cases q:k∈JV rows a
 ·rw[Y6 A q,decide_eq_true q];rfl
 ·rw[ie q]
  cases e:wK x k with
  |true=>rfl
  |false =>
   refine hV ((Ck A).mpr #[h,λz=>?_,λz=>?_]) q
   ·unfold wK at e;rw[xy z]at e;cases e
   ·obtain⟨t,m,b⟩:=A.hdt z;unfold wK at e;rw[<- b,(A.ok.ht t _<|wD m).2.2.2]at e;simp at e
def Wk:wQ []:=iw
def Fl.st(A:Arr x a)(c:xC x rows)(f:Fl x l h):∀k∈h,(rowAt rows k).isSome=true:=λk b=>JY A c<|A.hdm<|f.hs k b
def a2U(c:xC x rows)(v:Vr rows)(s:∀k∈l,(rowAt rows k).isSome=true):∀k∈l,(wE x k).Nodup:=λk d=>by obtain⟨y,b⟩:=Option.isSome_iff_exists.mp<|s k d;rw[c.wE,yU b];exact ve (v.Sq b).1
def Mj(e:rows.length<=35)(b:wQ l)(s:∀k∈l,(rowAt rows k).isSome=true):J5 l:=#[b,λk c=>by
 obtain⟨y,d⟩:=Option.isSome_iff_exists.mp<|s k c;have:=vm d
 exact#[this.1,by have:=this.2.1;omega]]
def Y8(A:Arr x a)(c:xC x rows)(b:rows.length<=35)(d:wQ l)(s:∀k∈l,(rowAt rows k).isSome=true)(k:∀h,Fl x l h->e #[h] (x,#[],())):E4 C i j (x,l,()) e m:=by refine#[A.ok,Mj b d s,?_];show if vW x l=true then _ else _;rw[gN<|c.vW s];exact λo f=>k _<|Si A.ok f
def dwn(rows:List RW)(a:List (Int×Int))(l h:List Int):List Int:=(xr l<|vG (eb rows) h).filter λk=>decide<|k∈JV rows a
def DR(A:Arr x a)(c:xC x rows)(v:Vr rows)(i:rows.length<=35)(j:wQ l)(s:∀k∈l,(rowAt rows k).isSome=true)(k:∀h,Fl x l h->m #[dwn rows a l h] (x,#[],())):LF C (x,l,()) m o:=by refine#[#[A.ok,Mj i j s,c.vW s],λh f=>?_];have e:=f.st A c;have b:=Mj i (wy (eb rows) h) λk d=>JZ v e d;have n:∀k∈xr l (vG (eb rows) h),(rowAt rows k).isSome=true:=λk d=>(Ey (ve b.ri) d).elim (s k)<|JZ v e;have:=wp (xJ j) λk d=>xg.mpr<|n k d;have:=xh rows;show (vW x h=true/\J5 (vG (wE x) h)/\(xr l<|vG (wE x) h).length<=1000)/\m ⟨(xr l<|vG (wE x) h).filter λk=>!wK x k⟩ (x,#[],());rw[xj λk _=>c.wE k,mI λk d=>Y7 A<|n k d];exact#[#[c.vW e,b,q0d],k h f]
def W4{u w:List Int}(e:u=w):(!decide (u=w))=false:=by rw[decide_eq_true e];rfl
/-- b is c of b is carried down -/
structure Dn{C:ci}(x:B0 C)(rows:List RW)(a:List (Int×Int))(l f:List Int):Prop where
 A:Arr x a
 c:xC x rows
 v:Vr rows
 ln:rows.length<=35
 so:(a.map (·.1)).Pairwise (·<=·)
 ri:wQ l
 st:∀k∈l,(rowAt rows k).isSome=true
 du:∃h,f=xr l (vG (eb rows) h)/\Fl x l h
def Dn.len(s:Dn x rows a l f):f.length<=35:=by obtain⟨h,e,u⟩:=s.du;have b:wQ (vG (eb rows) h):=wy _ _;have:=wp (l:=f) (by rw[e];exact xJ s.ri) λk d=>xg.mpr<|(Ey (ve b)<|by rw[<- e];exact d).elim (s.st k)<|JZ s.v<|u.st s.A s.c;have:=xh rows;have:=s.ln;omega
def Dn.dn(s:Dn x rows a l f)(g:Fl x l h):dwn rows a l h=f.filter λk=>decide (k∈JV rows a):=by obtain⟨b,e,u⟩:=s.du;rw[e,g.uni s.A.ok u];rfl
def Dn.fl(s:Dn x rows a l f)(g:Fl x l h):(dwn rows a l h).length<gS:=by rw[s.dn g];exact jk (iq _ _)<|jk s.len q0q
def Dn.prt(s:Dn x rows a l f)(b:g=JV rows a)(k:K2 #[f.filter λk=>decide<|k∈JV rows a] (#[],#[],())):Ci (f,g,()) K2 E2:=Wg s.len (by rw[b]) k
def Fl.none(A:Arr x a)(b:∀t∈vV x,t∉l)(f:Fl x l h):h=[]:=f.uni A.ok #[Wk,λk z=>(ja z).elim,λt c z=>b t c<|show t∈l from z,f.od]
def Tr(A:Arr x a)(m:∀k∈l,k∈JV rows a)(f:Fl x l h):dwn rows a l h=l:=by rw[Fl.none A (λt b z=>((Ck A).mp<|m t z).2.1 b) f];exact List.filter_eq_self.mpr λk c=>decide_eq_true<|m k c
def Tt(A:Arr x a)(m:∀k∈l,k∈a.map (·.2))(f:Fl x l h):dwn rows a l h=[]:=by rw[Fl.none A (λt b z=>O8 A (m t z) b) f];exact List.filter_eq_nil_iff.mpr λk c z=>((Ck A).mp<|jV z).2.2<|m k c
end
section
variable{q:Cq}{C XC XS XO XB XP XV YL XF XT XN XR XL:ci}
noncomputable abbrev Cn:il:=top 55
def yi:uY ["_law_script","_law_bag_here","_law_field","_law_rows_here","_law_arrows","_law_row_here","_law_lone_here","_law_handed","_law_found","_law_due","_law_some_here","_law_heads_here"] ["_law_script"] (uQ Cn):=by walk_at "sc"
def Y9{f:ci}{fd:iH}(F:Cp q "law" Cn f fd)(N:wZ q "_law_bag" ["_law_script"] (Q5 q.K) 10)(t:V7 q C 10)(o:SN q 10)(D:Fb q 10)(G:Y3 q 10)(b:YU q C 10)(I:HZ q 10)(J:SO q 10)(r:JT q C XS XC 10)(e:SV q 10)(n:Td q 10)(u:NA q 10)(L:Y4 q C 10)(B:Bn q.mg):Gq q 11 f fd ["_law_script"] (W0 q.K):=by
  refine' u4 (wq (D':=Unit) (ms:=[]) (j:=11) F yi rfl rfl λaa A X s H E hr =>
      (vg (vj 1 yi.nd (vh N (uU (ss 0) uS)))
      (vg (Vd 2 3 4 (Cu rfl (wB (vf (i:=2) yi.nd rfl (k9 rfl)) (wB (vf (i:=3) yi.nd rfl (k9 rfl)) (wB (vf (i:=4) yi.nd rfl (k9 rfl)) AE)))) q0q q0q q0q (vh t (vw 1 (uU uW uS))))
      (vg (vj 5 yi.nd (vh o (vw 1 (uU (vy (vh D (vn 3 uS))) uS))))
      (vg (vj 6 yi.nd (vh G (vn 3 (vn 4 uS))))
      (vg (vj 7 yi.nd (GV rfl B.list (wj 5)))
      (B2 (w':=λ(d:(WY q.K)×Bg×(Bd C true)×(OL (Option (Int×(List Int))))×(OL (Int×Int))×(OL Int)×(OL Int)×(OL Int)×Un×Un×Un×Un×Unit) (_:Unit->Prop) (w:Bool->Un×Unit->Prop) (_:ci->Un×Unit->Prop)=>(Arr d.2.2.1 d.2.2.2.2.1.l/\xC d.2.2.1 d.2.2.2.1.l/\Vr d.2.2.2.1.l/\d.2.2.2.1.l.length<=35/\(d.2.2.2.2.1.l.map (·.1)).Pairwise (·<=·)/\wQ d.2.2.2.2.2.1.l/\(∀k∈d.2.2.2.2.2.1.l,(rowAt d.2.2.2.1.l k).isSome=true)/\d.2.2.2.2.2.2.1.l=JV d.2.2.2.1.l d.2.2.2.2.1.l/\d.2.2.2.2.2.2.2.1.l=d.2.2.2.2.2.1.l)/\w true (#[],())) (vg (vj 8 yi.nd (vh b (vw 2 (vn 7 uS))))
      (vg (vj 9 yi.nd (vh I (vn 5 (uU (vy (vh J (vn 3 (uU (vy (vh r (vw 2 (vn 5 uS)))) uS)))) uS))))
      (vg (vF (tw_w (A9 (tw_not (tw_val (vd (vh e (vn 8 (uU (vy (vh n (vn 9 (vn 6 uS)))) uS)))))) (zx (tw_cmL (CI hr.units) (wj 7) (wj 5) (v9 _)))))
      (uT<|vi<|vq yG)
      vv)
      (vg (wu 8 uW)
      (B2 (w':=λ(d:(WY q.K)×Bg×(Bd C true)×(OL (Option (Int×(List Int))))×(OL (Int×Int))×(OL Int)×(OL Int)×(OL Int)×(OL Int)×(OL Int)×Un×Un×Unit) (_:Unit->Prop) (w:Bool->Un×Unit->Prop) (_:ci->Un×Unit->Prop)=>(Dn d.2.2.1 d.2.2.2.1.l d.2.2.2.2.1.l d.2.2.2.2.2.2.2.1.l d.2.2.2.2.2.2.2.2.2.1.l/\d.2.2.2.2.2.2.1.l=JV d.2.2.2.1.l d.2.2.2.2.1.l/\d.2.2.2.2.2.2.2.1.l=d.2.2.2.2.2.1.l)/\w true (#[],())) (vg (vF (tw_not (tw_val (vd (vh e (uU (vy (vh b (vw 2 (vn 7 uS)))) (uU (vy (vh n (vn 9 (vn 6 uS)))) uS))))))
      (uT<|vi<|vq yG)
      vv)
      (B2 (w':=λ(d:(WY q.K)×Bg×(Bd C true)×(OL (Option (Int×(List Int))))×(OL (Int×Int))×(OL Int)×(OL Int)×(OL Int)×(OL Int)×(OL Int)×Un×Un×Unit) (_:Unit->Prop) (w:Bool->Un×Unit->Prop) (_:ci->Un×Unit->Prop)=>(Dn d.2.2.1 d.2.2.2.1.l d.2.2.2.2.1.l d.2.2.2.2.2.2.2.1.l d.2.2.2.2.2.2.2.2.2.1.l/\d.2.2.2.2.2.2.1.l=JV d.2.2.2.1.l d.2.2.2.2.1.l/\d.2.2.2.2.2.2.2.1.l=d.2.2.2.2.2.1.l)/\w true (#[],())) (vg (vj 10 yi.nd (vh o (vw 1 (vn 6 uS))))
      (vg (vj 11 yi.nd (vh o (vw 1 (uU (vy (vh u (vn 4 uS))) uS))))
      (vg (vF (tw_w (A9 (tw_cmL (CI hr.units) (wj 7) (wj 5) (v9 _)) (zx (tw_not (tw_val (vd (vh e (uU (vy (vh b (vw 2 (vn 10 uS)))) (vn 10 uS)))))))))
      (uT<|vi<|vq yG)
      vv)
      (B2 (w':=λ(d:(WY q.K)×Bg×(Bd C true)×(OL (Option (Int×(List Int))))×(OL (Int×Int))×(OL Int)×(OL Int)×(OL Int)×(OL Int)×(OL Int)×(OL Int)×(OL Int)×Unit) (_:Unit->Prop) (w:Bool->Un×Unit->Prop) (_:ci->Un×Unit->Prop)=>(Dn d.2.2.1 d.2.2.2.1.l d.2.2.2.2.1.l d.2.2.2.2.2.2.2.1.l d.2.2.2.2.2.2.2.2.2.1.l/\wQ d.2.2.2.2.2.2.2.2.2.2.2.1.l/\∀k∈d.2.2.2.2.2.2.2.2.2.2.2.1.l,k∈d.2.2.2.2.1.l.map (·.2))/\w true (#[],())) (uT (vi (vq (Eo (vd (vh e (uU (vy (vh b (vw 2 (vn 11 uS)))) (uU (vy (vp (α:=Int) vo)) uS)))) (AN (vd (vh L (vw 2 (vn 3 (vn 4 uS)))))))))) (by
   intro d P w T h
   walk_at "wl"
   obtain⟨⟨s,Y,U⟩,k⟩:=h
   exact DR s.A s.c s.v s.ln Y (λc O=>JY s.A s.c<|U c O) λh f=>AT (Tt s.A U f) (qv (gN rfl) #[#[s.c,s.v,s.ln,s.A,s.so],k])
))))) (by
   intro d P w T h
   walk_at "wl"
   obtain⟨⟨s,M,y⟩,k⟩:=h
   have al:=s.A.len s.c s.ln
   have ll:d.2.2.2.2.2.2.1.l.length<=35:=M▸iA We s.ln
   refine Fi ll λm W s2=>Tq al<|Fi (Wj al) λg Y U=>Tk (W4 y) ?_
   have sm:∀c∈m,c∈JV d.2.2.2.1.l d.2.2.2.2.1.l:=λc O=>M▸s2 c O
   exact DR s.A s.c s.v s.ln W (λc O=>((Ck s.A).mp<|sm c O).1) λh f=>AT (Tr s.A sm f) (Tk rfl #[#[s,Y,λc O=>yw.mp<|U c O],k])
))) (by
   intro d P w T h
   walk_at "wl"
   obtain⟨⟨s,M,y⟩,k⟩:=h
   exact DR s.A s.c s.v s.ln s.ri s.st λh f=>s.prt M (AT (s.dn f)<|Tk rfl #[#[s,M,y],k])
)))))) (by
   intro d P w T h
   walk_at "wl"
   obtain⟨⟨A,c,v,z,Z,Q,st,M,y⟩,k⟩:=h
   have W:wQ d.2.2.2.2.2.2.2.1.l:=by rw[y];exact Q
   have R:∀k∈d.2.2.2.2.2.2.2.1.l,(rowAt d.2.2.2.1.l k).isSome=true:=by rw[y];exact st
   refine DR A c v z W R λg f=>Y8 A c z Q st λg' f'=>To v (f'.st A c)<|Wi z Q (wy _ _) st (λk hk=>JZ v (f'.st A c) hk) ?_
   have s:Dn d.2.2.1 d.2.2.2.1.l d.2.2.2.2.1.l d.2.2.2.2.2.2.2.1.l (xr d.2.2.2.2.2.1.l<|vG (eb d.2.2.2.1.l) g'):=#[A,c,v,z,Z,W,R,g',by rw[y],by rw[y];exact f']
   exact s.prt M (AT (s.dn f)<|Tk rfl<|Tk (W4 y) #[s.fl f,#[s,M,y],k])
)))))))) λp P T h=>?_
  walk_at "wl"
  have h:P true (#[],()):=h
  refine Y5 ?_
  refine#[#[q0q,q0q],λx S a c v z A Z=>?_]
  exact Tl z<|Fi (iA (xh S) z) λl Q s1=>Wh z (A.len c z) #[#[A,c,v,z,Z,Q,λk hk=>xg.mp<|s1 k hk,rfl,rfl],h]
end
section
variable{P:iB}{w:iR}{K:gO}{mg:Str->Option cr}{base:iM}
def Tu:uY ["_law_bag_here","_law_many","_law_seed","_law_mixed","_law_drawn"] ["_law_bag_here","_law_many"] (uQ LK):=#[rfl,rfl,rfl,q0s,rfl,q0s,q0s]
def Wl(F:yN K "_law_pull" "_law_pull" LK f I)(c:mg "len"=none):vD P w K mg base P8 1 f I ["_law_bag_here","_law_many"] WL.QM:=by
 refine F.ok Tu (λJ H Q E h=>?_)<|λL A p s H J Q E N h=>?_
 ·obtain⟨g,q,m,i,z,s,e,rfl,_⟩:=h;rfl
 ·obtain⟨g,q,m,i,z,j,e,rfl,B,d,v,k⟩:=h;have l:=Tu.nd
  refine#[_,wm (Mw (xT Wz (yk wM (pv 0) vt (λ_ _=>rfl)) vt (v9 _))
    (wm (T1 (pv 0) vt Qj vt Po set_list)
    (wm (zV (i:=2) l rfl (k9 rfl) (yk wM (pv 0) vt (λ_ _=>rfl)))
    (wm (Mw (xT Wz (yk wM (pv 0) vt (λ_ _=>rfl)) (wJ xo (by rfl) c mD (uZ (yk wM (pv 0) vt (λ_ _=>rfl)) vk)) (v9 _))
     (xS (zV (i:=2) l rfl (k9 rfl) (yk wM (yk wM (pv 0) vt (λ_ _=>rfl)) (wT Ki (yk wM (pv 0) vt (λ_ _=>rfl)) vt) (λ_ _=>rfl)))) zo)
    (wm (Mw (Wt (xT WA (yk wM (pv 0) vt (λ_ _=>rfl)) (wJ xo (by rfl) c mD (uZ (yk wM (pv 0) vt (λ_ _=>rfl)) vk)) (v9 _)) (Pl (xT Wy (pv 2) (wT Xu vt vt) (v9 _)))).pt
     (wm (zV (i:=3) l rfl (k9 rfl) (wT Cv (wT zX (wT zX (wT Bh (pv 2) vt) (wT Bh (yk wM (pv 0) vt (λ_ _=>rfl)) vt)) vt) vt))
     (wm (zV (i:=3) l rfl (k9 rfl) (wT Cv (wT Bh (pv 3) (pv 3)) vt))
     (xS (Ct (wT Cv (wT My (wT Cv (wT Bh (wT zX (pv 3) (yk wM (pv 0) vt (λ_ _=>rfl))) vt) vt) vt) (pv 1)))))) zo)
    (xS (Kd (pv 2) (Pn (pv 0) vt set_list))))))) zo)
   (wm (zV (i:=4) l rfl (k9 rfl) (wT Cv (yk wM (pv 0) vt (λ_ _=>rfl)) (pv 1)))
   (wm (Kd (wT My (yk wM (pv 0) vt (λ_ _=>rfl)) (pv 1)) (Pn (pv 0) vt set_list))
   (xS (Ct (pv 4))))),?_]
  refine#[_,rfl,g,_,_,_,rfl,rfl,wo.of B.ob,QL _ _ _ _,_,_,rfl,rfl,_,rfl,?_];refine Uh (λ_=>?_)<|λ_=>?_
  ·-- r[1] += 1;x=r[3]
   refine#[_,rfl,g,_,_,_,rfl,rfl,B.ob,q0q,rfl,_,_,rfl,rfl,g,_,_,1,rfl,rfl,B.ob,rfl,?_];have a:Dg (upd H g<|.lst<|FE q (i+1) z j) g q m (i+1) z j:=B.put (by have:=B.i0;lia);refine⟨_,rfl,g,_,_,_,rfl,rfl,wo.of a.ob,a2t _ _ _ _,?_⟩;refine⟨_,rfl,g,_,_,_,rfl,rfl,wo.of a.ob,QK _ _ _ _,_,rfl,g,_,_,_,rfl,rfl,wo.of a.ob,Yt _ _ _ _,q,_,rfl,.inl<|wo.of a.sc,_,_,rfl,rfl,_,rfl,?_⟩;have b:=a;refine' cutG (α:=Int) (G:=_) (λy=>Uh (λC=>?_)<|λC=>?_) ?_
   rotate_left
   ·have t:i+1<=((m.map V.int).length:Int):=jV C;rw[gV]at t;obtain⟨n,M⟩:=UM (ns:=m) (i:=i+1-1) (by have:=B.i0;lia) q0a;refine#[_,rfl,g,_,_,_,rfl,rfl,wo.of a.ob,Yt _ _ _ _,_,rfl,g,_,_,_,rfl,rfl,wo.of a.ob,QK _ _ _ _,_,_,rfl,rfl,q,_,_,_,rfl,rfl,wo.of a.sc,M,?_];exact y n
   ·exact y j
   ·intro n;refine#[_,rfl,g,_,_,_,rfl,rfl,wo.of a.ob,QK _ _ _ _,_,rfl,g,_,_,_,rfl,rfl,wo.of a.ob,Yt _ _ _ _,q,_,rfl,.inl<|wo.of a.sc,_,_,rfl,rfl,_,rfl,?_];refine' cutP (G:=_) (λD=>Uh (λ_=>a13 D)<|λ_=>?_) ?_
    ·refine#[_,rfl,_,_,rfl,rfl,#[q0q,q0q,q0q],_,_,rfl,rfl,_,rfl,?_];refine Uh (λ_=>D)<|λ_=>?_;refine#[_,rfl,_,rfl,g,_,_,2,rfl,rfl,a.ob,rfl,?_];have b:=a.put (z':=n) a.i0;have u:=(Kp.at (g:=g) (H:=H) (o:=.lst<|FE q (i+1) z j)).trans<|Kp.at (o:=.lst<|FE q (i+1) n j);refine#[_,rfl,g,_,_,_,rfl,rfl,wo.of b.ob,QL _ _ _ _,_,rfl,_,_,rfl,rfl,d,?_];refine#[_,rfl,g,_,_,_,rfl,rfl,wo.of b.ob,QL _ _ _ _,_,rfl,_,_,rfl,rfl,#[d,v],_,rfl,g,_,_,2,rfl,rfl,b.ob,rfl,?_];exact#[_,rfl,k _ _ _ _ (u.trans Kp.at) (b.put b.i0) (rC _ q0a)<|qp _ d]
    ·refine#[_,rfl,_,_,rfl,rfl,.inr #[q0q,q0q],_,rfl,g,_,_,_,rfl,rfl,wo.of a.ob,QK _ _ _ _,_,_,rfl,rfl,.inr #[q0q,q0q],_,_,rfl,rfl,_,_,rfl,rfl,_,_,rfl,rfl,(by show (0:Int)<2147483647;decide),?_];refine#[_,rfl,_,rfl,_,_,rfl,rfl,.inl<|a0h _,_,_,rfl,rfl,(by show (0:Int)<2147483629;decide),?_];refine#[_,rfl,_,rfl,g,_,_,_,rfl,rfl,wo.of a.ob,QK _ _ _ _,_,_,rfl,rfl,_,_,rfl,rfl,.inr #[q0q,q0q],_,_,rfl,rfl,(by show (0:Int)<998244353;decide),_,_,rfl,rfl,#[q0q,q0q],_,rfl,_,_,rfl,rfl,d,?_];exact k _ _ _ _ Kp.at a (rC _ q0a)<|qp _ d
  ·have b:=B;have u:=Kp.refl g H;refine#[_,rfl,g,_,_,_,rfl,rfl,wo.of b.ob,QL _ _ _ _,_,rfl,_,_,rfl,rfl,d,?_];refine#[_,rfl,g,_,_,_,rfl,rfl,wo.of b.ob,QL _ _ _ _,_,rfl,_,_,rfl,rfl,#[d,v],_,rfl,g,_,_,2,rfl,rfl,b.ob,rfl,?_];exact#[_,rfl,k _ _ _ _ (u.trans Kp.at) (b.put b.i0) (rC _ q0a)<|qp _ d]
def NC:uY ["_law_script","_law_salt","_law_one"] ["_law_script"] (uQ Ti):=#[rfl,rfl,rfl,q0s,rfl,q0s,q0s]
def a2V(a:List Int)(b c:Option Int):∃d:List Int,DZ (a.map V.int) b c=d.map V.int:=by unfold DZ;exact#[_,by rw[<- List.map_drop,<- List.map_take]]
def Za(F:yN K "_law_bag" "_law_bag" Ti f U)(m:mg "len"=none)(g:mg "list"=none):vD P w K mg base P8 1 f U ["_law_script"] (WL.WZ K):=by
 refine F.ok NC (λX H Q E h=>?_)<|λY A B s H X Q E hr h=>?_
 ·obtain⟨a,N,rfl,_⟩:=h;rfl
 ·obtain⟨a,N,rfl,C,k⟩:=h
  refine#[_,wm (zV (i:=1) NC.nd rfl (k9 rfl) (wJ xo (by rfl) m mD (uZ (zZ Dy (pv 0) Dw (Dx vt)) vk)))
   (wm (Pr PassesOwn.never rfl (GB (zZ Dy (pv 0) Dw (Dx vt))) (vf (i:=2) NC.nd)
    (xS (zV (i:=1) NC.nd rfl (k9 rfl) (wT Cv (wT zX (wT Bh (pv 1) vt) (pv 2)) vt))))
   (xS (Ct (PD (uZ (xF yp rfl g j0 (uZ (zZ Dy (pv 0) Dw (Dx vt)) vk)) (uZ vt (uZ vt (uZ (pv 1) vk)))))))),?_]
  obtain⟨b,j⟩:=a2V N none<|some 63;refine⟨_,rfl,63,rfl,a,_,rfl,C,λp Z=>?_⟩;rw[j];have O:Dt H (upd H p<|.lst<|b.map V.int):=Aj Z;refine⟨p,_,rfl,.inl<|wo.of uV,?_⟩;refine⟨_,rfl,63,rfl,a,_,rfl,O.seq C,λn D=>?_⟩;rw[j];have s2:Dt (upd H p<|.lst<|b.map V.int) (upd (upd H p<|.lst<|b.map V.int) n<|.lst<|b.map V.int):=Aj D;have c:=O.trans s2;generalize G:upd (upd H p<|.lst<|b.map V.int) n (.lst<|b.map V.int)=H2 at c;have q:H2 n=↑(.lst<|b.map V.int):=by rw[<- G];exact uV
  refine#[n,rfl,#[_,wo.of q],Pu (K:=K) (a:=n) (xs:=b.map V.int) (λi u x=>x=H2/\∃(r:Int)(v:Option V),u=[some<|.ref a,some<|.int r,v]) ⟨rfl,_,none,rfl⟩ (λi u x _ z9=>e0a2 z9 λe _=>by rw[e];exact wo.of q) ?_ ?_]
  ·rintro i y u x d ⟨rfl,r,v,rfl⟩
   obtain⟨z,rfl⟩:∃z,y=V.int z:=by
    rw[jE]at d
    cases e:b[i]? with
    |none=>rw[e]at d;cases d
    |some z=>rw[e]at d;exact#[z,(iX d).symm]
   exact#[_,rfl,_,_,rfl,rfl,.inr #[q0q,q0q],_,rfl,_,_,rfl,rfl,_,_,rfl,rfl,(by show (0:Int)<1000003;decide),rfl,_,_,rfl]
  ·rintro u x ⟨rfl,r,v,rfl⟩;refine#[_,rfl,63,rfl,a,_,rfl,c.seq C,λp3 I=>?_];rw[j];refine#[p3,_,rfl,.inl<|wo.of uV,λJ t=>#[_,rfl,(by decide:4<=gS),λR l=>?_]];have L:=Aj (o:=.lst<|b.map V.int) I;have S:=Aj (o:=.lst<|b.map V.int) t;have T:=Aj (o:=.lst<|FE J 0 0 r) l;have M:J≠R:=vc uV l;refine k _ R J b r (((c.trans L).trans S).trans T) #[uV,T _ _ uV,ou _,M] ?_ ?_
   ·exact(((c.trans L).trans S).free l)
   ·exact((c.trans L).free t)
end
section
variable{q:Cq}{C XC XS XO XB XP XV YL XF XT XN XR XL:ci}
noncomputable abbrev Ml:il:=AY (top 28) 1
def Wm:xD Dj Dj (uQ Ml):=by walk_at "ss"
noncomputable abbrev Fj:il:=AY (top 28) 4
def O9:xD yR yR (uQ Fj):=by walk_at "ss"
noncomputable abbrev Iu:il:=AY (top 28) 8
def Tv:xD Ax Ax (uQ Iu):=by walk_at "ss"
noncomputable abbrev zN:il:=AY (top 28) 9
def FO:xD wG wG (uQ zN):=by walk_at "ss"
noncomputable abbrev C0:il:=AY (top 28) 7
def Mm:xD yd yd (uQ C0):=by walk_at "ss"
abbrev C3:il:=AY (top 28) 5
def Mn:xD yc yc (uQ C3):=by walk_at "ss"
abbrev C4:il:=AY (top 28) 3
def Mo:xD yb yb (uQ C4):=by walk_at "ss"
abbrev Iv:il:=AY (top 28) 6
def Tw:xD yS yS (uQ Iv):=by walk_at "ss"
noncomputable abbrev Iw:il:=AY (top 28) 2
def J0:xD Ay Ay (uQ Iw):=by walk_at "ss"
def Wn{f:ci}{fd:iH}{k:Nat}(F:B3 q.P q.K C "put" "Field.put" Ml f fd)(G:Fs q.P q.w q.K q.mg q.base C "put" Dj (yu q.T<|JI C XB XS XC XO XP) k):Gq q (k+1) f fd Dj (JI C XB XS XC XO XP) :=
 x8 (m:="put") (ta:=(A1 (vC 1)<|A1 (vC 2) Bj)) F Wm rfl rfl (λ_=>#[_,rfl]) G (λzj cc A outer s H E=>(uZ (pv 1)<|uZ (pv 2) vk)) (λa r H Q hl h=>by obtain⟨u1,u2,rfl⟩:=lx2 r<|ni hl;exact⟨u1,rfl,u2,rfl,h⟩) (λf2 env h=>cw_cons h)
def Pa{f:ci}{fd:iH}{k:Nat}(F:B3 q.P q.K C "cells" "Field.cells" Fj f fd)(G:Fs q.P q.w q.K q.mg q.base C "cells" yR (yu q.T<|DO C) k):Gq q (k+1) f fd yR (DO C) :=
 x8 (m:="cells") (ta:=Bj) F O9 rfl rfl (λ_=>#[_,rfl]) G (λzj cc A outer s H E=>vk) (λa r H Q hl h=>by obtain rfl:=lx0 r<|ni hl;exact h) (λf2 env h=>cw_nil h)
def Tx{f:ci}{fd:iH}{k:Nat}(F:B3 q.P q.K C "over" "Field.over" Iu f fd)(G:Fs q.P q.w q.K q.mg q.base C "over" Ax (yu q.T<|Hu C XC) k):Gq q (k+1) f fd Ax (Hu C XC) :=
 x8 (m:="over") (ta:=(A1 (vC 1) Bj)) F Tv rfl rfl (λ_=>#[_,rfl]) G (λzj cc A outer s H E=>(uZ (pv 1) vk)) (λa r H Q hl h=>by obtain⟨u1,rfl⟩:=lx1 r<|ni hl;exact⟨u1,rfl,h⟩) (λf2 env h=>cw_cons h)
def FP{f:ci}{fd:iH}{k:Nat}(F:B3 q.P q.K C "border_of" "Field.border_of" zN f fd)(G:Fs q.P q.w q.K q.mg q.base C "border_of" wG (yu q.T<|ya C XS XC) k):Gq q (k+1) f fd wG (ya C XS XC) :=
 x8 (m:="border_of") (ta:=(A1 (vC 1) Bj)) F FO rfl rfl (λ_=>#[_,rfl]) G (λzj cc A outer s H E=>(uZ (pv 1) vk)) (λa r H Q hl h=>by obtain⟨u1,rfl⟩:=lx1 r<|ni hl;exact⟨u1,rfl,h⟩) (λf2 env h=>cw_cons h)
def Mp{f:ci}{fd:iH}{k:Nat}(F:B3 q.P q.K C "border" "Field.border" C0 f fd)(G:Fs q.P q.w q.K q.mg q.base C "border" yd (yu q.T<|Aq C XC) k):Gq q (k+1) f fd yd (Aq C XC) :=
 x8 (m:="border") (ta:=(A1 (vC 1) Bj)) F Mm rfl rfl (λ_=>#[_,rfl]) G (λzj cc A outer s H E=>(uZ (pv 1) vk)) (λa r H Q hl h=>by obtain⟨u1,rfl⟩:=lx1 r<|ni hl;exact⟨u1,rfl,h⟩) (λf2 env h=>cw_cons h)
def Mr{k:Nat}(F:B3 q.P q.K C "coming" "Field.coming" C3 f c)(G:Fs q.P q.w q.K q.mg q.base C "coming" yc (yu q.T<|B8 C) k):Gq q (k+1) f c yc (B8 C) :=
 x8 (m:="coming") (ta:=Bj) F Mn rfl rfl (λ_=>#[_,rfl]) G (λd i A b s H E=>vk) (λa r H Q e h=>by
  match r,e with
  | [],_=>exact h) (λj g h=>cw_nil h)
def Ms{k:Nat}(F:B3 q.P q.K C "stands" "Field.stands" C4 f c)(G:Fs q.P q.w q.K q.mg q.base C "stands" yb (yu q.T<|B7 C) k):Gq q (k+1) f c yb (B7 C) :=
 x8 (m:="stands") (ta:=(A1 (vC 1) Bj)) F Mo rfl rfl (λ_=>#[_,rfl]) G (λd j A b s H E=>(uZ (pv 1) vk)) (λa r H Q e h=>by
  match r,e with
  | [g],_=>exact#[g,rfl,h]) (λl i h=>cw_cons h)
def Tz{k:Nat}(F:B3 q.P q.K C "rank" "Field.rank" Iv f c)(G:Fs q.P q.w q.K q.mg q.base C "rank" yS (yu q.T<|B9 C XC) k):Gq q (k+1) f c yS (B9 C XC) :=
 x8 (m:="rank") (ta:=(A1 (vC 1) Bj)) F Tw rfl rfl (λ_=>#[_,rfl]) G (λd j A b s H E=>(uZ (pv 1) vk)) (λa r H Q e h=>by
  match r,e with
  | [g],_=>exact#[g,rfl,h]) (λl i h=>cw_cons h)
def TB{f:ci}{fd:iH}(F:B3 q.P q.K C "take" "Field.take" Iw f fd)(ct:zR q.K C)(xz:wz q C XC 7)(Pb:CP q C 7)(G:Fs q.P q.w q.K q.mg q.base C "take" Ay (yu q.T<|Hv C XC XV) 7):Gq q 8 f fd Ay (HM C XC XV):=by
 refine' u4 (a0B (A:=B0 C×Int×Unit) (PO:=B0 C×WL.Un×Unit) (ms:=[0]) (vz q0q) F J0 rfl λzj cc A outer s H E D hr =>
  W2 (vT<|vd<|vY 0 xz (uU (ss 1) uS) (hx:=Q7))
   (W2 (vF (tw_val (vd (vY 0 Pb (uU (ss 1) uS) (hx:=Q7)))) Qx vv)
    (U9 (m:="take") (ta:=A1 (vC 1) Bj) D J0 rfl (λ_=>#[_,rfl]) G hr (uZ (pv 1) vk) (λa r H Q hl h=>by obtain⟨u,rfl⟩:=lx1 r hl;exact#[u,rfl,h]) (λf2 env h=>cw_cons h)))) λp Kn Ke h=>?_
 walk_at "wl"
 obtain⟨t,ok,h⟩:=h;show if (lk p.1.rk p.2.1).isSome=true then (if wK p.1 p.2.1=true then False else Hv C XC XV (p.1,p.2) (λx p=>Kn () p) Ke) else Ke XC 58;by_cases hs:(lk p.1.rk p.2.1).isSome=true
 ·rw[gN hs,gM<|by simp[t]];exact#[ok,h]
 ·rw[gM hs]at h ⊢;exact h
noncomputable abbrev Ix:il:=AY (top 28) 0
def TC:xD ["self"] ["self"] (uQ Ix):=by walk_at "ss"
def TF{k:Nat}(F:B3 q.P q.K C "__init__" "Field.__init__" Ix f b)(c:zR q.K C)(d:Pg q.K C)(G:Fs q.P q.w q.K q.mg q.base C "__init__" ["self"] (Hf C) k):vD q.P q.w q.K q.mg q.base (vL q.P q.w) (k+1) f b ["self"] (DJ C) :=
 Rf (p3:=#[0,0,0,0]) (p4:=#[0,0,0,0]) F TC c d (λ_=>#[_,rfl]) rfl G (λ_=>rfl) λe g A a s H E=>wm (Cw (pv 0) BF rfl)<|xS<|Cw (pv 0) BF rfl
end
end K7
namespace K7
open PySem L2 WL
open WL.Rep (rp)
open WL.Ow (sl)
open WL.Sls (rel)
abbrev ND:List cr:=[.type "ValueError",.type "Exception",.type "BaseException",.type "object"]
abbrev zO:il:=AY (top 13) 0
abbrev Mt:il:=AY (top 26) 0
def Wp:uY ["self"] ["self"] (uQ Mt):=#[rfl,rfl,rfl,q0s,rfl,q0s,q0s]
def TH:xD ["self","ring"] ["self","ring"] (uQ zO):=#[rfl,rfl,rfl,q0s,rfl,q0s,q0s,q0s,rfl,rfl]
def Wq[L2.GX]{K:gO}(F:yN K "__init__" "Body.__init__" Mt f fd)(ct:zR K C):vD P w K mg base (vL P w) 1 f fd ["self"] (Hf C) :=
 U5 F Wp ct λb A a s H E=>wm (Cw (pv 0) BF rfl)<|wm (Cw (pv 0) BF rfl)<|xS<|Cw (pv 0) vt rfl
def gx0:L2.GX:=#[λ_ _ _=>True]
section
variable{P:iB}{K:gO}{C:ci}
/-- a method a0C calls super(),as it lies behind the top -/
structure Mx(P:iB)(K:gO)(C:ci)(m q:Str)(st:il):Prop where
 ex:∃f fd,Meth K C m f/\∃(oc:cr)(od:Option ci)(kV doc pm:cr)(an:Option ci)(zj cc:ci)(ct:cr) (N0:Array (Option cr)) (ocD:cr) (odD:Option ci) (vsD:Array cr) (slD:Array (Option cr)) (file:Str) (tf:Tok) (occ:cr) (odc:Option ci) (slc:Array (Option cr)),
  fd=kF m q (vX st) (vB st) (uQ st) [("__class__",cc)] .none kV doc pm an (.ref zj) ct/\K.lookup f=some #[oc,od,.func fd,N0]/\jt K (.ref zj) q=true/\jh K (.ref f)=true/\K.lookup zj=some #[ocD,odD,.fields vsD,slD]/\vsD[2]?=↑(.str file tf)/\((P.main.file:Str)==file)=true/\K.lookup cc=some #[occ,odc,.cell<|some<|.ref C,slc]
def a02{st:il}{g:cr}(a:iv K (.ref C) m=↑(some<|.ref f))(i:oz K (.ref f)=true)
 (l:K.lookup f=some #[z,od,.func<|kF m q (vX st) (vB st) (uQ st) [("__class__",h)] .none g j pm A (.ref b) ct,n])(c:jt K (.ref b) q=true)(k:jh K (.ref f)=true)(o:K.lookup b=some #[p,r,.fields d,s])(t:d[2]?=↑(.str file B))(u:((P.main.file:Str)==file)=true)(v:K.lookup h=some #[w,x,.cell<|some<|.ref C,y]):Mx P K C m q st :=
  #[_,_,#[a,i,k],_,_,_,_,_,_,_,_,_,_,_,_,_,_,_,_,_,_,_,rfl,l,c,k,o,t,u,v]
/-- the method of the class above a0C super() e -/
structure Sx(K:gO)(C:ci)(m q:Str)(st:il):Prop where
 ex:∃f fd,Sm K C m f/\yN K m q st f fd
def a03{st:il}{d:cr}(a:jU K C C m=↑(some<|.ref f))(ty:oX K (.ref f)=↑(.type "function"))(fn:my K f=true)
 (l:K.lookup f=some #[h,od,.func<|jC m q (vX st) (vB st) (uQ st) .none d e pm i b ct,g])(c:jt K b q=true)(k:jh K (.ref f)=true):Sx K C m q st:=#[_,_,#[a,ty,fn],D9 l c k]
def Mx.fx{st:il}(M:Mx P K C m q st)(cl:∃s,mQ K C=↑s)(sub:kX K C (.ref C)=↑true)(g:hZ K rr "thirdparty.any"=↑none)(top:(P.main.scope.names.lookup ("super":Str)).isSome=false)(h:((vX st).posonlyargs++(vX st).args).head?=↑p)(hs:p.arg="self")(ps:List Str)
 (b:∀(i d j:cr)(n:Option ci)(e o:ci)(ct:cr)(us:List cr),us.length=ps.length->sO (kF m q (vX st) (vB st) (uQ st) [("__class__",o)] .none i d j n (.ref e) ct) #[us,[]]=pure (ps.zip us)):∃f fd,Meth K C m f/\B3 P K C m q st f fd/\Binds K fd ps []:=by
  obtain⟨f,fd,t,H,I,i,d,j,n,e,o,ct,u,v,w,x,y,r,J,z,A,B,rfl,l,c,k,D,E,F,G⟩:=M.ex
  exact#[f,_,t,#[#[_,_,_,_,_,_,_,_,_,_,rfl,l,c,#[#[_,_,_,_,p,l,h,hs],#[_,_,_,_,_,_,D,E,F],#[_,_,_,G],cl,sub,g,top]],k],.all<|b i d j n e o ct]
end
set_option tactic.hygienic true in
def Wr{K:gO}(X:K.In h)(e:uE K N=true)(q:hZ K N x=↑(some v)):h.nsMap N x=↑v:=by
 obtain⟨o,k,l,b,f,_,g⟩:=Heap.Ns.of_isNs<|pS X e;unfold hZ at q;split at q
 ·rename_i c d i m n z
  have a:=X _ _ z;rw[b]at a;cases a;cases f;split at q
  ·rename_i p j
   cases q;rw[<- g];unfold nsFind findBy;rw[<- tO,j];rfl
  ·split at q<;>cases q
 ·cases q
def all_mk{l:qE}{K:gO}{XF:ci}{fy:Nat}{e9:List cr}{fz:Bool}(X:K.In h)(G:h.Ns hW mg)(fA:mg "law"=↑(.ref fa))
 (a1:hZ K hW "is_sum"=↑(some<|.ref f1))
 (l1:K.lookup f1=some #[f9,ga,.func<|jC "is_sum" "is_sum" (vX w8) (vB w8) (uQ w8) .none gb gc gd gf (.ref c) gg,gh])
 (c1:jt K (.ref c) "is_sum"=true)
 (k1:jh K (.ref f1)=true)
 (lc:K.lookup c=some #[gi,gj,.fields fB,gk])
 (ev:fB[11]?=↑(.ref cQ))
 (fC:K.lookup cQ=none)
 (aL:hZ K hW "law"=↑(some<|.ref fL))
 (lL:K.lookup fL=some #[gl,gm,.func<|jC "law" "law" (vX Cn) (vB Cn) (uQ Cn) .none fE fF fG fH fi fJ,gn])
 (cL:jt K fi "law"=true)
 (kL:jh K (.ref fL)=true)
 (N:Dq K "must_be_sum" EQ)
 (cR:Dq K "total" Ht)
 (D:Dq K "row_from_first" xP)
 (cS:Dq K "added" HN)
 (cn:Dq K "filled" E5)
 (bh:Dq K "lone_of" CU)
 (dL:Dq K "down" LI)
 (eE:Dq K "_law_bag" Ti)
 (dM:Dq K "_law_pull" LK)
 (dN:Dq K "_law_rank" LR)
 (dO:Dq K "_law_join" LU)
 (dP:Dq K "_law_here" LW)
 (dQ:Dq K "_law_some" LY)
 (dR:Dq K "_law_edge" L0)
 (cT:Dq K "_law_whole" H0)
 (eF:Dq K "_law_row" s_row)
 (dS:Dq K "_law_same" s_same)
 (cU:Dq K "_law_stock" Ic)
 (bi:Dq K "_law_edge_by" CY)
 (dU:Dq K "_law_rows" L7)
 (dV:Dq K "_law_fill" L9)
 (dW:Dq K "_law_ties" Mb)
 (cV:Dq K "_law_house" Ih)
 (cp:Dq K "_law_tails" Fc)
 (cW:Dq K "_law_heads" Ij)
 (dX:Dq K "_law_lone" Md)
 (cq:Dq K "_law_parted" Ff)
 (cX:Dq K "_law_truth" Il)
 (ag:Dq K "_law_cells_kept" zL)
 (cY:Dq K "_law_pairs" Ip)
 (dY:Dq K "_law_kept" Mh)
 (aC:hZ K hW "Field"=↑(some<|.ref C))
 (ah:Mq K C "must_stand" "Body.must_stand" zH)
 (aI:Mq K C "must_hold" "Body.must_hold" As)
 (E:Mq K C "must_have_rank" "Body.must_have_rank" xN)
 (bj:Mq K C "is_tied" "Field.is_tied" CN)
 (cZ:Mq K C "steps" "Field.steps" HD)
 (c0:Mq K C "tails" "Field.tails" HF)
 (cs:Mq K C "arrows" "Field.arrows" EY)
 (bm:Mq K C "head_of" "Field.head_of" CQ)
 (c2:Mq K C "untie" "Field.untie" HH)
 (aJ:Mq K C "ring_with" "Field.ring_with" AA)
 (eG:Mq K C "tie" "Field.tie" R8)
 (c3:Mq K C "order" "Field.order" HK)
 (eH:Mx l.prog K C "put" "Field.put" Ml)
 (eI:Sx K C "put" "Body.put" RK)
 (c4:Mx l.prog K C "cells" "Field.cells" Fj)
 (c5:Sx K C "cells" "Body.cells" Hz)
 (dZ:Mx l.prog K C "over" "Field.over" Iu)
 (d0:Sx K C "over" "Body.over" Lu)
 (aK:Mx l.prog K C "border_of" "Field.border_of" zN)
 (aM:Sx K C "border_of" "Body.border_of" Aw)
 (cu:Mx l.prog K C "border" "Field.border" C0)
 (cv:Sx K C "border" "Body.border" EX)
 (cw:Mx l.prog K C "coming" "Field.coming" C3)
 (cx:Sx K C "coming" "Body.coming" EU)
 (cy:Mx l.prog K C "stands" "Field.stands" C4)
 (cz:Sx K C "stands" "Body.stands" ET)
 (d1:Mx l.prog K C "rank" "Field.rank" Iv)
 (d2:Sx K C "rank" "Body.rank" HA)
 (d3:Mx l.prog K C "take" "Field.take" Iw)
 (d4:Sx K C "take" "Body.take" Lv)
 (aQ:Mx l.prog K C "__init__" "Field.__init__" Ix)
 (aR:Sx K C "__init__" "Body.__init__" Mt)
 (pg:mK K C Str.empty=true)
 (hd:nP K C=true)
 (po:pZ K C=true)
 (sa:iv K (.ref C) "__setattr__"=↑(some<|.builtin "object.__setattr__"))
 (mk:qz K C=true)
 (kc:jh K (.ref C)=true)
 (nR:iv K (.ref C) "ranks"=↑none)
 (nB:iv K (.ref C) "borders"=↑none)
 (nU:iv K (.ref C) "upcoming"=↑none)
 (nH:iv K (.ref C) "head_by_tail"=↑none)
 (nT:iv K (.ref C) "tail_by_head"=↑none)
 (cO:mQ K C=↑gp)
 (cP:kX K C (.ref C)=↑true)
 (O:hZ K rr "thirdparty.any"=↑none)
 (Q:(l.prog.main.scope.names.lookup ("super":Str)).isSome=false)
 (bp:hZ K hW "NotASum"=↑(some<|.ref XS))
 (bq:jq K XS ND "ValueError.__new__"=true)
 (cA:hZ K hW "NoCell"=↑(some<|.ref XC))
 (cB:jq K XC ND "ValueError.__new__"=true)
 (aN:hZ K hW "OtherRank"=↑(some<|.ref XO))
 (aO:jq K XO ND "ValueError.__new__"=true)
 (br:hZ K hW "BadRank"=↑(some<|.ref XB))
 (bt:jq K XB ND "ValueError.__new__"=true)
 (ai:hZ K hW "OpenBorder"=↑(some<|.ref XP))
 (aj:jq K XP ND "ValueError.__new__"=true)
 (d5:hZ K hW "Full"=↑(some<|.ref fj))
 (d6:jq K fj ND "ValueError.__new__"=true)
 (bu:hZ K hW "Covered"=↑(some<|.ref XV))
 (bv:jq K XV ND "ValueError.__new__"=true)
 (bA:hZ K hW "NotFace"=↑(some<|.ref XF))
 (bB:jq K XF ND "ValueError.__new__"=true)
 (b0:hZ K hW "Tied"=↑(some<|.ref XT))
 (d7:jq K XT ND "ValueError.__new__"=true)
 (bC:hZ K hW "NotTied"=↑(some<|.ref XN))
 (bD:jq K XN ND "ValueError.__new__"=true)
 (ak:hZ K hW "MOST_CELLS"=↑(some<|.int 120 dC))
 (aS:hZ K hW "TOP_RANK"=↑(some<|.int 12 eo))
 (fo:hZ K hW "RingOfArrows"=↑(some<|.ref XR))
 (gq:hZ K hW "BodyError"=↑(some<|.ref XE))
 (lB:K.lookup XR=↑(jD gr qB XR eR gs (.ref XE::ND) true gu e9 fz f5 gv gw gx gy gz gA "ValueError.__new__"))
 (fK:hZ K eR "__init__"=↑(some<|.ref fI))
 (fp:uE K eR=true)
 (fM:PySem.W.tailIn K ND (.ref XE::ND)=true)
 (lI:K.lookup fI=some #[.type "function",gB,.func<|kF "__init__" "RingOfArrows.__init__" (vX zO) (vB zO) (uQ zO) [("__class__",cc)] (.ref TD) fN fO fP fQ (.ref eS) fR,gC])
 (cI:jt K (.ref eS) "RingOfArrows.__init__"=true)
 (lD:K.lookup eS=some #[gD,gE,.fields fS,gF])
 (fD:fS[2]?=↑(.str eJ gG))
 (pD:((l.prog.main.file:Str)==eJ)=true)
 (fT:K.lookup cc=some #[f6,f7,.cell<|some<|.ref XR,f8])
 (fU:mQ K XR=↑gH)
 (fV:kX K XR (.ref XR)=↑true)
 (fW:jU K XR XR "__init__"=↑(some<|.builtin "ValueError.__init__"))
 (fX:kX K XR (.type "ValueError")=↑true)
 (sB:iv K (.ref XR) "__setattr__"=↑(some<|.builtin "object.__setattr__"))
 (fY:iv K (.ref XR) "ring"=↑none)
 (lT:K.lookup TD=some #[gI,gJ,.seq #v[dT] fy,gK])
 (fZ:lE K (.ref XT) [.ref XT,.ref XR]=↑true)
 (f0:lE K (.ref XR) [.ref XT,.ref XR]=↑true)
 (f3:hZ K hW "super"=↑none)
 (zz:Bz K) :
    ∃(c cQ:ci)(fd:iH),n6 K "is_sum"=↑(c,cQ)/\K.lookup cQ=none/\(∀(s:gW)(v:cr),sD s fd #[[v],[]] [("_law_script",v)])/\∀base:iM,K.In base->base.Ns hW mg->Ji mg base c cQ->vD l.prog w K mg base P8 11 fa fd ["_law_script"] (M3 K cQ):=by
  letI:L2.GX:=gx0
  have e:=fA.symm.trans<|iZ X G aL
  cases e
  have ht:n6 K "is_sum"=↑(c,cQ):=by
    unfold n6
    rw[a1]
    dsimp only
    rw[l1]
    dsimp only[jC]
    rw[lc]
    dsimp only
    rw[ev]
  have m:=D9 (st:=w8) l1 c1 k1
  have ax:Fn K mg "is_sum" w8 ["row"] f1 _:=#[m,iZ X G a1,m.binds (ps:=["row"])<|λ_ _ _ _ _ _=>us1 λ_=>rfl]
  have eK:=D9 (st:=Cn) lL cL kL
  have b:=N.fn X G ["row"]<|λ_ _ _ _ _ _=>us1 λ_=>rfl
  have aV:=cR.fn X G ["rows"]<|λ_ _ _ _ _ _=>us1 λ_=>rfl
  have d:=D.fn X G ["earlier","last"]<|λ_ _ _ _ _ _=>us2 λ_ _=>rfl
  have aW:=cS.fn X G ["one","other"]<|λ_ _ _ _ _ _=>us2 λ_ _=>rfl
  have ay:=cn.fn X G ["field","row"]<|λ_ _ _ _ _ _=>us2 λ_ _=>rfl
  have R:=bh.fn X G ["field","row"]<|λ_ _ _ _ _ _=>us2 λ_ _=>rfl
  have b1:=dL.fn X G ["field","row"]<|λ_ _ _ _ _ _=>us2 λ_ _=>rfl
  have dH:=eE.fn X G ["_law_script"]<|λ_ _ _ _ _ _=>us1 λ_=>rfl
  have b2:=dM.fn X G ["_law_bag_here","_law_many"]<|λ_ _ _ _ _ _=>us2 λ_ _=>rfl
  have b3:=dN.fn X G ["_law_bag_here"]<|λ_ _ _ _ _ _=>us1 λ_=>rfl
  have b4:=dO.fn X G ["_law_one","_law_other"]<|λ_ _ _ _ _ _=>us2 λ_ _=>rfl
  have b5:=dP.fn X G ["_law_rows_here"]<|λ_ _ _ _ _ _=>us1 λ_=>rfl
  have b6:=dQ.fn X G ["_law_bag_here","_law_row_here"]<|λ_ _ _ _ _ _=>us2 λ_ _=>rfl
  have b7:=dR.fn X G ["_law_rows_here","_law_row_here"]<|λ_ _ _ _ _ _=>us2 λ_ _=>rfl
  have aX:=cT.fn X G ["_law_found"]<|λ_ _ _ _ _ _=>us1 λ_=>rfl
  have dI:=eF.fn X G ["_law_found"]<|λ_ _ _ _ _ _=>us1 λ_=>rfl
  have b8:=dS.fn X G ["_law_found","_law_due"]<|λ_ _ _ _ _ _=>us2 λ_ _=>rfl
  have aY:=cU.fn X G ["_law_many"]<|λ_ _ _ _ _ _=>us1 λ_=>rfl
  have S:=bi.fn X G ["_law_rows_here","_law_loops","_law_rank_here","_law_bag_here"]<|λ_ _ _ _ _ _=>us4 λ_ _ _ _=>rfl
  have b9:=dU.fn X G ["_law_bag_here","_law_most"]<|λ_ _ _ _ _ _=>us2 λ_ _=>rfl
  have ca:=dV.fn X G ["_law_body","_law_rows_here"]<|λ_ _ _ _ _ _=>us2 λ_ _=>rfl
  have cb:=dW.fn X G ["_law_field","_law_rows_here","_law_bag_here","_law_tries"]<|λ_ _ _ _ _ _=>us4 λ_ _ _ _=>rfl
  have aZ:=cV.fn X G ["_law_bag_here","_law_most"]<|λ_ _ _ _ _ _=>us2 λ_ _=>rfl
  have az:=cp.fn X G ["_law_arrows"]<|λ_ _ _ _ _ _=>us1 λ_=>rfl
  have a0:=cW.fn X G ["_law_arrows"]<|λ_ _ _ _ _ _=>us1 λ_=>rfl
  have cd:=dX.fn X G ["_law_rows_here","_law_arrows"]<|λ_ _ _ _ _ _=>us2 λ_ _=>rfl
  have aA:=cq.fn X G ["_law_row_here","_law_keep"]<|λ_ _ _ _ _ _=>us2 λ_ _=>rfl
  have a2:=cX.fn X G ["_law_found","_law_due"]<|λ_ _ _ _ _ _=>us2 λ_ _=>rfl
  have o:=ag.fn X G ["_law_body","_law_rows_here"]<|λ_ _ _ _ _ _=>us2 λ_ _=>rfl
  have a3:=cY.fn X G ["_law_found","_law_due"]<|λ_ _ _ _ _ _=>us2 λ_ _=>rfl
  have cg:=dY.fn X G ["_law_field","_law_rows_here","_law_arrows"]<|λ_ _ _ _ _ _=>us3 λ_ _ _=>rfl
  have p:=ah.fn ["self","cell"]<|λ_ _ _ _ _ _=>us2 λ_ _=>rfl
  have H:=aI.fn ["self","row"]<|λ_ _ _ _ _ _=>us2 λ_ _=>rfl
  have f:=E.fn ["self","row","rank"]<|λ_ _ _ _ _ _=>us3 λ_ _ _=>rfl
  have T:=bj.fn ["self","cell"]<|λ_ _ _ _ _ _=>us2 λ_ _=>rfl
  have a4:=cZ.fn ["self","low","high"]<|λ_ _ _ _ _ _=>us3 λ_ _ _=>rfl
  have a5:=c0.fn ["self"]<|λ_ _ _ _ _ _=>us1 λ_=>rfl
  have aB:=cs.fn ["self"]<|λ_ _ _ _ _ _=>us1 λ_=>rfl
  have U:=bm.fn ["self","cell"]<|λ_ _ _ _ _ _=>us2 λ_ _=>rfl
  have a6:=c2.fn ["self","low"]<|λ_ _ _ _ _ _=>us2 λ_ _=>rfl
  have I:=aJ.fn ["self","low","high"]<|λ_ _ _ _ _ _=>us3 λ_ _ _=>rfl
  have dJ:=eG.fn ["self","low","high"]<|λ_ _ _ _ _ _=>us3 λ_ _ _=>rfl
  have a7:=c3.fn ["self"]<|λ_ _ _ _ _ _=>us1 λ_=>rfl
  obtain⟨fb,fe,d8,d9,ea⟩:=eH.fx #[_,cO] cP O Q rfl rfl Dj<|λ_ _ _ _ _ _ _=>us3 λ_ _ _=>rfl
  obtain⟨ff,fh,ec,cj⟩:=eI.ex
  obtain⟨eN,eO,cC,cD,cE⟩:=c4.fx #[_,cO] cP O Q rfl rfl yR<|λ_ _ _ _ _ _ _=>us1 λ_=>rfl
  obtain⟨eP,eQ,cF,aD⟩:=c5.ex
  obtain⟨eT,eU,c6,c7,c8⟩:=dZ.fx #[_,cO] cP O Q rfl rfl Ax<|λ_ _ _ _ _ _ _=>us2 λ_ _=>rfl
  obtain⟨eV,eW,c9,a8⟩:=d0.ex
  obtain⟨dD,dE,al,an,ao⟩:=aK.fx #[_,cO] cP O Q rfl rfl wG<|λ_ _ _ _ _ _ _=>us2 λ_ _=>rfl
  obtain⟨dF,dG,aq,t⟩:=aM.ex
  obtain⟨ep,er,bE,bF,bG⟩:=cu.fx #[_,cO] cP O Q rfl rfl yd<|λ_ _ _ _ _ _ _=>us2 λ_ _=>rfl
  obtain⟨es,et,bH,Y⟩:=cv.ex
  obtain⟨eu,ew,bI,bJ,bK⟩:=cw.fx #[_,cO] cP O Q rfl rfl yc<|λ_ _ _ _ _ _ _=>us1 λ_=>rfl
  obtain⟨ey,ez,bL,aa⟩:=cx.ex
  obtain⟨eA,eB,bM,bN,bO⟩:=cy.fx #[_,cO] cP O Q rfl rfl yb<|λ_ _ _ _ _ _ _=>us2 λ_ _=>rfl
  obtain⟨eC,eD,bP,ab⟩:=cz.ex
  obtain⟨eX,eY,da,db,dc⟩:=d1.fx #[_,cO] cP O Q rfl rfl yS<|λ_ _ _ _ _ _ _=>us2 λ_ _=>rfl
  obtain⟨eZ,e0,dd,a9⟩:=d2.ex
  obtain⟨e1,e2,de,df,dg⟩:=d3.fx #[_,cO] cP O Q rfl rfl Ay<|λ_ _ _ _ _ _ _=>us2 λ_ _=>rfl
  obtain⟨e3,e4,dh,ba⟩:=d4.ex
  obtain⟨e5,e6,bb,di,dj⟩:=aQ.fx #[_,cO] cP O Q rfl rfl ["self"]<|λ_ _ _ _ _ _ _=>us1 λ_=>rfl
  obtain⟨e7,e8,dm,bc⟩:=aR.ex
  have B:=zz.bn X G
  have bZ:=ts X G f3
  have ar:=iZ X G ak
  have aT:=iZ X G aS
  have bQ:Xc K mg "NotASum" XS:=#[#[_,_,_,_,iZ X G bp,bq,iz],λ_=>trivial]
  have cG:Xc K mg "NoCell" XC:=#[#[_,_,_,_,iZ X G cA,cB,iz],λ_=>trivial]
  have aP:Xc K mg "OtherRank" XO:=#[#[_,_,_,_,iZ X G aN,aO,iz],λ_=>trivial]
  have bR:Xc K mg "BadRank" XB:=#[#[_,_,_,_,iZ X G br,bt,iz],λ_=>trivial]
  have au:Xc K mg "OpenBorder" XP:=#[#[_,_,_,_,iZ X G ai,aj,iz],λ_=>trivial]
  have ed:Xc K mg "Full" fj:=#[#[_,_,_,_,iZ X G d5,d6,iz],λ_=>trivial]
  have bS:Xc K mg "Covered" XV:=#[#[_,_,_,_,iZ X G bu,bv,iz],λ_=>trivial]
  have bT:Xc K mg "NotFace" XF:=#[#[_,_,_,_,iZ X G bA,bB,iz],λ_=>trivial]
  have ee:Xc K mg "Tied" XT:=#[#[_,_,_,_,iZ X G b0,d7,iz],λ_=>trivial]
  have bU:Xc K mg "NotTied" XN:=#[#[_,_,_,_,iZ X G bC,bD,iz],λ_=>trivial]
  have y:zR K C:=#[#[pg,hd,po,sa],nR,nB,nU]
  have cf:Pg K C:=#[nH,nT]
  have dq:=iZ X G aC
  refine#[c,cQ,jC "law" "law" (vX Cn) (vB Cn) (uQ Cn) .none fE fF fG fH fi fJ,ht,fC,λs v=>.of_eq rfl,λbase _ _ Bt=>?_]
  let q:Cq:=#[l.prog,w,K,mg,base,cQ]
  have SD:L2.Le l.prog K XR fI eS cc "self":=#[#[_,_,_,_,_,lI,rfl,rfl],#[_,_,_,_,_,_,lD,fD,pD],#[_,_,_,fT],#[_,fU],fV,O,Q]
  have cH:vD l.prog w K mg base (vL l.prog w) 3 fI _ ["self","ring"] (YC K XR "ring"):=Vl (P:=l.prog) (w:=w) (mg:=mg) (base:=base) (k:=2) (r:="ring") (fl:="ring") lI cI rfl TH SD (λ_=>#[_,rfl]) bZ B.list rfl lB fW fX rfl (λx=>by rw[PySem.refuseLoop_ref];exact PySem.F.store_ValueError.passes _) sB fY q0q q0q
  have f4:∀h:iM,K.In h->∃mN,h.Ns eR mN/\mN "__init__"=↑(.ref fI):=λh Z=>#[_,.of_isNs<|pS Z fp,Wr Z fp fK]
  have hB:Binds K (kF "__init__" "RingOfArrows.__init__" (vX zO) (vB zO) (uQ zO) [("__class__",cc)] (.ref TD) fN fO fP fQ (.ref eS) fR) ["self","ring"] []:=λs us Z hl=>by
    have hl:us.length=2:=by simpa using hl
    obtain⟨u1,u2,rfl⟩:=lx2 us hl
    exact PySem.W.binds_K Z rfl lT rfl rfl rfl
  have L:XcI l.prog w K mg base 3 "RingOfArrows" XR "ring":=#[#[fI,eR,_,_,_,_,_,_,ND,_,_,_,_,_,_,_,_,_,_,_,_,_,_,_,iZ X G fo,lB,f4,λh Z=>tq Z fM,lI,rfl,iz,rfl,cH,hB],λ_ _ _ _ _ _=>trivial]
  have i:a0I q XT XR "Tied" "RingOfArrows":=#[iZ X G b0,iZ X G fo,fZ,f0]
  obtain⟨bx,gL,bz,bw,ft,fv,fw⟩:=bQ.ex
  have dr:=RC b.fn ax (Lr (P:=l.prog) (w:=w) m rfl Bt B.all B.zip) ft fv fw λ_=>trivial
  have ds:=RD b.fn ax (Ls (P:=l.prog) (w:=w) m rfl Bt B.all B.zip) ft fv fw λ_=>trivial
  have ef:=TF (q:=q) di y cf #[#[_,_,dm,Wq (P:=l.prog) (w:=w) (mg:=mg) (base:=base) bc y,bc.binds<|λ_ _ _ _ _ _=>us1 λ_=>rfl,bZ]]
  have be:wZ q _ _ _ _:=b.fk dr
  have dt:wZ q _ _ _ _:=aV.fk<|RE aV.fn b ds B.set B.sorted
  have a:yY q C _ _ _ _:=p.fm<|FK (q:=q) p.fn y cG
  have g:yY q C _ _ _ _:=H.fm<|Hw (q:=q) H.fn y (be.up q0q)<|a.up q0q
  have A:yY q C _ _ _ _:=f.fm<|Cc (q:=q) f.fn y aP
  have u:yY q C _ _ _ _:=#[_,_,FP (q:=q) an #[#[_,_,aq,(Hy (q:=q) t y (dt.up q0q)<|g.up q0q),t.binds<|λ_ _ _ _ _ _=>us2 λ_ _=>rfl,bZ]],al,ao]
  have aE:yY q C _ _ _ _:=#[_,_,Pa (q:=q) cD #[#[_,_,cF,(RI (q:=q) aD y B),aD.binds<|λ_ _ _ _ _ _=>us1 λ_=>rfl,bZ]],cC,cE]
  have dv:yY q C _ _ _ _:=#[_,_,Tx (q:=q) c7 #[#[_,_,c9,(Vw (q:=q) a8 y (a.up q0q)<|aE.up q0q),a8.binds<|λ_ _ _ _ _ _=>us2 λ_ _=>rfl,bZ]],c6,c8]
  have eg:yY q C _ _ _ _:=#[_,_,Wn (q:=q) d9 #[#[_,_,ec,(YN (q:=q) cj y (g.up q0q) (A.up q0q) (u.up q0q) bR ed au ar aT B),cj.binds<|λ_ _ _ _ _ _=>us3 λ_ _ _=>rfl,bZ]],d8,ea]
  have ae:yY q C _ _ _ _:=#[_,_,Mp (q:=q) bF #[#[_,_,bH,(OJ (q:=q) Y y (a.up q0q) B),Y.binds<|λ_ _ _ _ _ _=>us2 λ_ _=>rfl,bZ]],bE,bG]
  have bV:yY q C _ _ _ _:=#[_,_,Mr (q:=q) bJ #[#[_,_,bL,(OH (q:=q) aa y),aa.binds<|λ_ _ _ _ _ _=>us1 λ_=>rfl,bZ]],bI,bK]
  have bW:yY q C _ _ _ _:=#[_,_,Ms (q:=q) bN #[#[_,_,bP,(OF (q:=q) ab y),ab.binds<|λ_ _ _ _ _ _=>us2 λ_ _=>rfl,bZ]],bM,bO]
  have dw:yY q C _ _ _ _:=#[_,_,Tz (q:=q) db #[#[_,_,dd,(RP (q:=q) a9 y<|a.up q0q),a9.binds<|λ_ _ _ _ _ _=>us2 λ_ _=>rfl,bZ]],da,dc]
  have j:yY q C _ _ _ _:=T.fm<|LA (q:=q) T.fn y cf
  have dx:yY q C _ _ _ _:=#[_,_,TB (q:=q) df y (a.up q0q) (j.up q0q) #[#[_,_,dh,((Vy (q:=q) ba y (dv.up q0q) bS)).mono q0q,ba.binds<|λ_ _ _ _ _ _=>us2 λ_ _=>rfl,bZ]],de,dg]
  have aF:yY q C _ _ _ _:=a4.fm<|RY (q:=q) a4.fn y cf
  have aG:yY q C _ _ _ _:=a5.fm<|R6 (q:=q) a5.fn y cf B
  have af:yY q C _ _ _ _:=aB.fm<|ON (q:=q) aB.fn y cf<|aG.up q0q
  have aU:yY q C _ _ _ _:=U.fm<|LD (q:=q) U.fn y cf<|a.up q0q
  have cJ:yY q C _ _ _ _:=a6.fm<|R7 (q:=q) a6.fn y cf (a.up q0q) bU
  have J:wZ q _ _ _ _:=d.fk<|Cf (q:=q) d.fn
  have av:yY q C _ _ _ _:=I.fm<|HJ (q:=q) I.fn y cf (J.up q0q)<|aF.up q0q
  have eh:yY q C _ _ _ _:=dJ.fm<|YR (q:=q) dJ.fn y cf (a.up q0q) (j.up q0q) (av.up q0q) bT ee L
  have cK:yY q C _ _ _ _:=a7.fm<|Sd (q:=q) a7.fn y cf (af.up q0q) (aF.up q0q)<|aG.up q0q
  have bf:wZ q _ _ _ _:=aW.fk<|Sk (q:=q) aW.fn (be.up q0q) B
  have aH:wZ q _ _ _ _:=ay.fk<|OQ (q:=q) ay.fn y (bf.up q0q) (g.up q0q) (cK.up q0q) (aU.up q0q) (ae.up q0q) B
  have bX:wZ q _ _ _ _:=R.fk<|LH (q:=q) R.fn y<|j.up q0q
  have ei:wZ q _ _ _ _:=b1.fk<|VI (q:=q) b1.fn y (bX.up q0q) (bf.up q0q) (aH.up q0q)<|u.up q0q
  have eL:wZ q _ _ _ _:=dH.fk<|a0u<|Za dH.fn B.len B.list
  have n:wZ q _ _ _ _:=b2.fk<|Yu<|Wl b2.fn B.len
  have ej:wZ q _ _ _ _:=b3.fk<|VU (q:=q) b3.fn<|n.up q0q
  have M:wZ q _ _ _ _:=b4.fk<|VW (q:=q) b4.fn B
  have k_here:wZ q _ _ _ _:=b5.fk<|VY (q:=q) b5.fn B
  have ck:wZ q _ _ _ _:=b6.fk<|VZ (q:=q) b6.fn (n.up q0q) (M.up q0q) B
  have cm:wZ q _ _ _ _:=b7.fk<|V0 (q:=q) b7.fn<|M.up q0q
  have k_whole:wZ q _ _ _ _:=aX.fk<|SR (q:=q) aX.fn B
  have eM:wZ q _ _ _ _:=dI.fk<|YZ (q:=q) dI.fn (k_whole.up q0q) B
  have k_same:wZ q _ _ _ _:=b8.fk<|V2 (q:=q) b8.fn<|eM.up q0q
  have dy:wZ q _ _ _ _:=aY.fk<|SY (q:=q) aY.fn B
  have bY:wZ q _ _ _ _:=S.fk<|L6 (q:=q) S.fn (n.up q0q) (M.up q0q) (k_here.up q0q) (ck.up q0q) (cm.up q0q) B
  have ek:wZ q _ _ _ _:=b9.fk<|V4 (q:=q) b9.fn (n.up q0q) (dy.up q0q) (ej.up q0q) (bY.up q0q) B
  have k_fill:wZ q _ _ _ _:=ca.fk<|V5 (q:=q) ca.fn y (eg.up q0q) (dx.up q0q) B
  have el:wZ q _ _ _ _:=cb.fk<|V6 (q:=q) cb.fn y (k_here.up q0q) (n.up q0q) (cJ.up q0q) (eh.up q0q) i B
  have dz:wZ q _ _ _ _:=aZ.fk<|S8 (q:=q) aZ.fn #[mk,bb.at_,bb.fn,kc] (ef.mono q0q) dj dq (ek.up q0q) (k_fill.up q0q) (el.up q0q) (n.up q0q) B
  have cM:wZ q _ _ _ _:=az.fk<|O5 (q:=q) az.fn
  have bg:wZ q _ _ _ _:=a0.fk<|Tb (q:=q) a0.fn B
  have em:wZ q _ _ _ _:=cd.fk<|V8 (q:=q) cd.fn (cM.up q0q) (bg.up q0q)<|k_here.up q0q
  have cN:wZ q _ _ _ _:=aA.fk<|O7 (q:=q) aA.fn
  have dA:wZ q _ _ _ _:=a2.fk<|Tf (q:=q) a2.fn B
  have aw:wZ q _ _ _ _:=o.fk<|FN (q:=q) o.fn y (k_same.up q0q) (k_here.up q0q) (dA.up q0q) (k_whole.up q0q) (aE.up q0q) (bV.up q0q) (bW.up q0q) (dw.up q0q) (ae.up q0q) B
  have dB:wZ q _ _ _ _:=a3.fk<|Tg (q:=q) a3.fn (k_whole.up q0q) B
  have en:wZ q _ _ _ _:=cg.fk<|Wc (q:=q) cg.fn y (aw.up q0q) (dB.up q0q)<|af.up q0q
  exact a0w (a0v<|Y9 (q:=q) eK (eL.up q0q) (dz.up q0q) (ck.up q0q) (k_here.up q0q) (em.up q0q) (ei.up q0q) (M.up q0q) (cm.up q0q) (aH.up q0q) (k_same.up q0q) (cN.up q0q) (bg.up q0q) (en.up q0q) B) λ_ _ _ _ z=>z
def walk{l:qE}{q:iB}{loose:List Str}{XP:(Str->Option cr)->iM->Prop}{YP:iR->iM->Prop}{d:DefRec}{K:Params->gO}{dx:DefRec}(hn:l.most=↑63)(hdf:d.params.defaults=[])
  (hY:∀(w:iR)(h:iM),YP w h->(K w.params).In h) (a2W:(PyProof.Rows.recsOf q).find? (λe=>e.name==("is_sum":Str))=↑dx)
  (F:∀(w:iR)(mg:Str->Option cr)(fa:ci)(h:iM),(K w.params).In h->h.Ns hW mg->mg d.name=↑(.ref fa) ->
   ∃(c tab:ci)(fd:iH),n6 (K w.params) "is_sum"=↑(c,tab)/\(K w.params).lookup tab=none/\(∀(s:gW)(u:cr),sD s fd #[[u],[]] [("_law_script",u)]) /\
    ∀base:iM,(K w.params).In base->base.Ns hW mg->Ji mg base c tab->vD l.prog w (K w.params) mg base P8 11 fa fd ["_law_script"] (M3 (K w.params) tab)) :
  uK q loose XP YP l.row.toRowW d [] (λf vs=>tS f vs) :=
 L2.Qn (n:=63) (k:=11) (x:="_law_script") (tx:="is_sum") (CX:=P8) (sp:=λ_ K tab=>M3 K tab) hn q0q hdf #[rfl,q0q,q0q] hY a2W F (λ_ K H a tab ns _ hS hH=>#[a,ns,rfl,hS,#[#v[],hH,trivial],λ_=>rfl]) λ_ _ _ _ z=>z
end K7
open WL
open K7
set_option tactic.hygienic true
set_option hygiene true
namespace PySem.W.Fast
def tw12706569718432362729:=0
def tw2506954665887885250:=0
def tw4017629363493555974:=0
def tw10177657206017364988:=0
def tw11088719390357207245:=0
def tw17120059985592784155:=0
def tw13079292946328249186:=0
def tw15181240948423152695:=0
def tw15839380182074425727:=0
def tw13265568225444901768:=0
def tw11054791532544457924:=0
def tw12916091871482648507:=0
def tw4898600236540227488:=0
def tw4260634217567409342:=0
def tw12341242198686437389:=0
def tw16074558365506562705:=0
def tw12901713079967041665:=0
def tw17135320183046652969:=0
def tw11944654651823990677:=0
def tw2601374150059845607:=0
def tw17813769808687725443:=0
def tw13459908746523173948:=0
def tw10968603829144260031:=0
def tw15170158007432865861:=0
def tw15169507115121183736:=0
def tw8119845146365450557:=0
def tw11331627714396790600:=0
def tw16422085244109688532:=0
def tw2366281901768351364:=0
def tw18062798344708957354:=0
def tw13709664781052198171:=0
def tw13088699383452445739:=0
def tw17146823294003407411:=0
def tw3682492875170197238:=0
def tw13984553501335438056:=0
def tw12626636307743142679:=0
def tw6865625873285219175:=0
def tw5369780871349851358:=0
def tw12902433902568960153:=0
def tw4951609036205863544:=0
def tw14057710912307711220:=0
def tw15272228319365829964:=0
def tw16143210835504336128:=0
def tw10291933562730096486:=0
def tw11472304595664820650:=0
def tw16067028899772451719:=0
def tw9689152335988906695:=0
def tw12232983395569698293:=0
def tw5667591565338194375:=0
def tw5141205776368820432:=0
def tw17250449464088655445:=0
def tw11522877063236358988:=0
def tw14120601894699612908:=0
def tw9943954750067326566:=0
def tw396409134408040770:=0
def tw2028657055619154414:=0
def tw7843799891106330650:=0
def tw6759582534181716632:=0
def tw5397317525967255827:=0
def tw2715560082505964613:=0
def tw2459213661456671948:=0
def tw4968669531848841204:=0
def tw10726177937517680099:=0
def tw11365389849999476235:=0
def tw1004244279362844157:=0
def tw12451144872722169340:=0
def tw5826727668945731600:=0
def tw8294860124459132264:=0
def tw417945087797666008:=0
def tw8944929926100123833:=0
def tw3434749319092884165:=0
def tw7502268314358840845:=0
def tw16043104780639462577:=0
def tw14231171430756915738:=0
def tw13905351410171348663:=0
def tw9457997991172844225:=0
def tw3227567086761797232:=0
def tw8369361466275090774:=0
def tw4589835157099022390:=0
def tw15273429302304032586:=0
def tw2029320913826982636:=0
def tw1432761916093703701:=0
def tw9946177140136561625:=0
def tw8372720134124739171:=0
def tw17872759749586945194:=0
def tw381410982915702095:=0
def tw3413485729331443929:=0
def tw14890279547837470441:=0
def tw13941485844046141224:=0
def tw8740855828559863951:=0
def tw6357818660560549182:=0
def tw18386167060997472865:=0
def tw9608321864495395767:=0
def tw13203151067873872956:=0
def tw17580056691306595264:=0
def tw16676296435079564389:=0
def tw8783260813872610562:=0
def tw11298734898994429395:=0
def tw8241359860635674873:=0
def tw16973129638825775160:=0
def tw1372615895172597314:=0
def tw9324575554283238963:=0
def tw11517848103608575787:=0
def tw5694317200888267605:=0
def tw17086217248371972301:=0
def tw12729072692729499156:=0
def tw801401160475703881:=0
def tw8403848438704521553:=0
def tw17062777008586614311:=0
def tw11005467215412203473:=0
def tw9225699491605844721:=0
def tw864139825810983195:=0
def tw2511523322392972406:=0
def tw5807001773450862275:=0
def tw13302428788931739019:=0
def tw11700595320232246857:=0
def tw16515219619694043967:=0
def tw8961646196045751648:=0
def tw18314752670692041502:=0
def tw12193318251539444348:=0
def tw6802915907858201377:=0
def tw11518855905347140066:=0
def tw3943367991747798510:=0
def tw6248319627269975310:=0
def tw337229958616786585:=0
def tw10908068069452307636:=0
def tw2239084769971144140:=0
def tw11836626814657030353:=0
def tw1719959894332810553:=0
def tw6068453286428748234:=0
def tw8296563270256786634:=0
def tw6782960459175951088:=0
def tw2892484624882046104:=0
def tw2164168198041000258:=0
def tw4960126203324113135:=0
def tw2390311286907063899:=0
def tw8268616059417014289:=0
def tw9946486832594546809:=0
def tw17112948363953315887:=0
def tw18260173857545554380:=0
def tw11751056674777374130:=0
def tw9188199296134475223:=0
def tw16628779894289562200:=0
def tw9571913617920201144:=0
def tw18169737859101941375:=0
def tw6041819290256165568:=0
def tw529462835253995218:=0
def tw5770451513178359946:=0
def tw13734895484288353940:=0
def tw6345211929520616827:=0
def tw5781254775341448734:=0
def tw901595811100372714:=0
def tw7208608817392907815:=0
def tw14325939952759483696:=0
def tw10828751954247533063:=0
def tw17508997583088897586:=0
def tw16056478933582025407:=0
def tw15716898866915390569:=0
def tw18016683150858599731:=0
def tw339769437396371665:=0
def tw16693236863151935505:=0
def tw10921990335714389098:=0
def tw2827516989284291454:=0
def tw8412905591893699918:=0
def tw11993958195137962296:=0
def tw7694077082272663307:=0
def tw3832521070950037038:=0
def tw9226407824272517110:=0
def tw6350110398537067310:=0
def tw4674399291259148908:=0
def tw3403702187093309089:=0
def tw1506553801036875464:=0
def tw662926130757854600:=0
def tw14541407338135990013:=0
def tw3700131149683230711:=0
def tw12067143180492335025:=0
def tw9562782824927134540:=0
def tw17652593532569268699:=0
def tw17314055611889541377:=0
def tw7709403739188128589:=0
def tw1012391656015597532:=0
def tw6783328239944526578:=0
def tw17558549366619719322:=0
def tw17398096489163344024:=0
def tw14505165330083646306:=0
def tw16587062022948870537:=0
def tw4875869295504731581:=0
def tw1429799490033878836:=0
def tw4027133763826503414:=0
def tw1206568113433583588:=0
def tw11845535415655974107:=0
def tw11438661477578251382:=0
def tw12332994326927759219:=0
def tw12465011277830182033:=0
def tw6927419594681552838:=0
def tw254265199035827020:=0
def tw4117376376316855091:=0
def tw9680567467608731055:=0
def tw15631287198322761943:=0
def tw12997789827753741120:=0
def tw2132061122013407474:=0
def tw9330220148340214990:=0
def tw14415513709374904747:=0
def tw14446681999461881275:=0
def tw10825700268046441761:=0
def tw9743670221906444257:=0
def tw9215631436062712601:=0
def tw8451919250493662273:=0
def tw11170004426820470978:=0
def tw11007379008474572900:=0
def tw1583666736427550766:=0
def tw16542961529156231803:=0
def tw15852233137432450876:=0
def tw15407012653673559742:=0
def tw1260039756004089819:=0
def tw10582092704227329921:=0
def tw11719745172888710389:=0
def tw13980688261363625315:=0
def tw7007287200387126026:=0
def tw3003285630197821091:=0
def tw9712908476750780765:=0
def tw17497071083916380502:=0
def tw8433098311281351611:=0
def tw9211039423521027751:=0
def tw16780087154779685941:=0
def tw12209061899230636583:=0
def tw17871880116027131336:=0
def tw13753585874343402374:=0
def tw11324319508039087000:=0
def tw7456311790287145401:=0
def tw2210055648453691245:=0
def tw16601868337898949373:=0
def tw12169310491500799464:=0
def tw10493847452565302232:=0
def tw1781283451751577480:=0
def tw3587347934164129082:=0
def tw14288842593562938998:=0
def tw13179362489337195992:=0
def tw1205932401142832780:=0
def tw9631790354089469243:=0
def tw14384372494081311529:=0
def tw12356917508420664798:=0
def tw1781494515376815294:=0
def tw2386252659911774547:=0
def tw10040248611132086520:=0
def tw4685346520713508623:=0
def tw6846411433719148070:=0
def tw4456891420450075071:=0
def tw12228644120485723228:=0
def tw14296541047554022958:=0
def tw3027931787884844517:=0
def tw1640615677907151653:=0
def tw7115438217111005347:=0
def tw5319362197540083879:=0
def tw15369465005768694785:=0
def tw15166248109765137134:=0
def tw3663693016338894807:=0
def tw8081419720823096334:=0
def tw9271289591099096576:=0
def tw8574225162498004452:=0
def tw5208210851800684112:=0
def tw2338225431308852750:=0
def tw218524264069609292:=0
def tw17682236529283281494:=0
def tw12097433836038924366:=0
def tw11980202343383593836:=0
def tw7177466657522688447:=0
def tw3309645814456772349:=0
def tw5401802941954202029:=0
def tw13141728657630080043:=0
def tw1443052293597047166:=0
def tw13659437254655313355:=0
def tw4155479256011627341:=0
def tw1887827483223477668:=0
def tw17869948555077661285:=0
def tw11816292451530913323:=0
def tw10095868640003076299:=0
def tw10085862720281569523:=0
def tw15536128240134447270:=0
def tw1426029288402155678:=0
def tw6662310919939173688:=0
def tw5029562186627036871:=0
def tw11786856726645439478:=0
def tw15067564911185489560:=0
def tw3737167580641912448:=0
def tw14801218431393963022:=0
def tw14405246659026275359:=0
def tw10225423769698840093:=0
def tw3285321862654183443:=0
def tw14849775222492418690:=0
def tw13681449180512868728:=0
def tw8940782748821422811:=0
def tw8772930423966452416:=0
def tw9594142365726608961:=0
def tw562804597405309760:=0
def tw13141258475777670391:=0
def tw10531543601977539725:=0
def tw14249532642992188429:=0
def tw14917457854630750117:=0
def tw6287460085814576160:=0
def tw1025380509740456405:=0
def tw11437036235789466529:=0
def tw8927220024000127470:=0
def tw5889967888406564322:=0
def tw9430076805432871963:=0
def tw8750468991925955477:=0
def tw10316001797770213089:=0
def tw10183740521735537600:=0
def tw11788416046334611739:=0
def tw17898091352989131686:=0
def tw2664950595728877986:=0
def tw18235153355338867078:=0
def tw16016614897506447737:=0
def tw1543147486273469069:=0
def tw15221320885843329285:=0
def tw1010887404507615766:=0
def tw5542224736020022544:=0
def tw181301365946820655:=0
def tw9634316848352080382:=0
def tw847203584266743341:=0
def tw7747578076481233012:=0
def tw7433670158794812158:=0
def tw6711165972926787048:=0
def tw6153080153999122196:=0
def tw515108139088643236:=0
def tw16926130039993647601:=0
def tw15338298086474044670:=0
def tw14649469977638949823:=0
def tw13320091195985513110:=0
def tw12839144680073900290:=0
def tw12577317255476626406:=0
def tw12191710693886281119:=0
def tw12116825909579020390:=0
def tw10266598258548717770:=0
def tw14150867029143965066:=0
def tw12153592190136704542:=0
def tw7746156349070768522:=0
def tw16430951876337778019:=0
def tw14715401487507586157:=0
def tw9453794152173155363:=0
def tw11812894144504314270:=0
def tw3285953619606604975:=0
def tw820021800160297484:=0
def tw7370497167601505437:=0
def tw7167895656856663568:=0
def tw7108754451832444175:=0
def tw4874956870929500010:=0
def tw15742124250890192407:=0
def tw6515435390453294053:=0
def tw13634908507806212824:=0
def tw16236502409495191511:=0
def tw12242097634870645325:=0
def tw7602173853930168954:=0
def tw14322015325411683949:=0
def tw6310204922044633055:=0
def tw3883727638773538279:=0
def tw15645098362793155354:=0
def tw1469148442185270483:=0
def tw12967332663741881366:=0
def tw12246897132597705962:=0
def tw16853705434276753732:=0
def tw890889702412208729:=0
def tw806221486862390445:=0
def tw7288522321236463113:=0
def tw6129240069049290111:=0
def tw544219910748308563:=0
def tw4605616182760885331:=0
def tw3584657092777749568:=0
def tw3110275920907956543:=0
def tw2937439482969042134:=0
def tw2175067360783694545:=0
def tw2109617695182663116:=0
def tw1889182963333880472:=0
def tw1869656274056257366:=0
def tw17328469315957598049:=0
def tw17326526996588284695:=0
def tw16736186737543511650:=0
def tw16144139744915112719:=0
def tw15701222420612279429:=0
def tw15678076276037377062:=0
def tw13088434340280741079:=0
def tw12369790868218824237:=0
def tw11009485942441074967:=0
def tw10821293182811804154:=0
def tw10118372314477495362:=0
def tw18268492979101425487:=0
def tw17250882140473953185:=0
def tw2767258343293864445:=0
def tw15161576546801944120:=0
def tw14534547764842190642:=0
def tw9817312513867346526:=0
def tw7066962588194640888:=0
def tw9345379585568479311:=0
def tw14834612773797134317:=0
def tw5262242229007334021:=0
def tw7761156906953727021:=0
def tw16434238139920771009:=0
def tw5810478323504560934:=0
def tw11822874668016888808:=0
def tw2999942478512627665:=0
def tw15902461327710771817:=0
def tw8498639473442606778:=0
def tw7954338358659127446:=0
def tw7076218073769780736:=0
def tw5392148510762123327:=0
def tw4799414397825595137:=0
def tw17925871327387959868:=0
def tw17911280258382395845:=0
def tw17832039752090042422:=0
def tw16438997623919317011:=0
def tw13342271820278552616:=0
def tw11754284652127019793:=0
def tw6085103368056218645:=0
def tw10323590626905116564:=0
def tw2143815658911370558:=0
def tw3994296099567230566:=0
def tw18112262988515133001:=0
def tw17478037768851339975:=0
def tw16838603114835807110:=0
def tw10873154511602034872:=0
def tw8571911534465284785:=0
def tw5948664213394093336:=0
def tw14001541693756089568:=0
def tw10062830523083580029:=0
def tw2291772368364559128:=0
end PySem.W.Fast
open PySem PySem.W PyProof.Rows
set_option maxHeartbeats 0 in
theorem PySem.Challenge.cw_slimbody_k25_carried_down_holds : PySem.Challenge.rw_slimbody_k25_carried_down.Holds := by
  w_on; o_law; k_head; (case hw => w_witness2)
  k_fill
  refine K7.walk (l := PySem.Challenge.rw_slimbody_k25_carried_down) rfl rfl (fun w h Y => PySem.W.kIn_of Y) (by rfl) ?j0a
  case j0a =>
    intro w mg fa h KX G hmg
    refine' K7.all_mk KX G hmg ?_ ?_ ?_ ?_ ?_ ?_ ?_ ?_ ?_ ?_ ?_ ?_ ?_ ?_ ?_ ?_ ?_ ?_ ?_ ?_ ?_ ?_ ?_ ?_ ?_ ?_ ?_ ?_ ?_ ?_ ?_ ?_ ?_ ?_ ?_ ?_ ?_ ?_ ?_ ?_ ?_ ?_ ?_ ?_ ?_ ?_ ?_ ?_ ?_ ?_ ?_ ?_ ?_ ?_ ?_ ?_ ?_ ?_ ?_ ?_ ?_ ?_ ?_ ?_ ?_ ?_ ?_ ?_ ?_ ?_ ?_ ?_ ?_ ?_ ?_ ?_ ?_ ?_ ?_ ?_ ?_ ?_ ?_ ?_ ?_ ?_ ?_ ?_ ?_ ?_ ?_ ?_ ?_ ?_ ?_ ?_ ?_ ?_ ?_ ?_ ?_ ?_ ?_ ?_ ?_ ?_ ?_ ?_ ?_ ?_ ?_ ?_ ?_ ?_ ?_ ?_ ?_ ?_ ?_ ?_ ?_ ?_ ?_ ?_ ?_ ?_ ?_ ?_ ?_ ?_ ?_ ?_ ?_ ?_ ?_
    all_goals try first | k_is | k_exc | exact a0x (by k_is) (by k_is) (by k_is) (by k_is) | exact a0y (by k_is) (by k_is) (by k_is) (by k_is) (by k_is) | exact a02 (by k_is) (by k_is) (by k_is) (by k_is) (by k_is) (by k_is) (by rfl) (by rfl) (by k_is) | exact a03 (by rfl) (by k_is) (by k_is) (by k_is) (by k_is) (by k_is) | rfl | kernel_rfl
    constructor <;> k_is
